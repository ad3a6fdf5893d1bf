import PyProof.Rows.All
import Wide.All
import OpenK.AllK
import Wide.FinOn
import PyProof.RowDictHeap
import PyProof.ReprRoads
import HandS.ForMost
import HandS.ForExc
import HandS.ExcInit
import HandS.ExcField
import HandS.IsInst
import HandS.Wide
import HandS.Defaults
import HandS.Conv
import KE.GoesMore
import KE.GoesZip
import HandS.Zip0
import HandS.Walk
import KE.GoesEnum
import PySem.Challenge.RW_maprows_k57_streams_as_a_model
import HandS.Property
import HandS.OwnEq
import PyProof.P3Eq
import PyProof.StrLawsRepr
import HandS.TryOnly
import PyProof.NeKinds
import HandS.TupMul
import HandS.TupAny
import HandS.Codes
import HandS.Text
import HandS.Evl
import HandS.Style
import PyProof.StrBlock2
import HandS.List
set_option Elab.async false
set_option linter.all false
set_option maxRecDepth 100000
set_option maxHeartbeats 4000000
/-! TkA: own rules that all laws of this program share: a def called where no repr runs (FnG), the end of a row from it, repr of data, try with several named clauses. -/
namespace Rw
open PySem PySem.Spec PyProof.Rows L2

/-! ### defs that are called where no repr is under way -/
theorem guards_deep (A : Around) (e : Env) : (A.deeper e).guards = A.guards := by rfl
/-- FnOk, but only where no repr is under way -/
structure FnG (P : Program) (w : World) (K : PySem.W.Frag) (mg : Str → Option Value) (base : Heap) (CX : CXT) (k : Nat) (f : Addr) (fd : FuncData) (ps : List Str) (sp : Sp) : Prop where
  many : ∀ vs H Q E, sp vs H Q E → vs.length = ps.length
  go : ∀ (A : Around) (fr : List Env) (s : Shared) (H : Hp) (ar : Args) (us : List Value) (vs : List V) (Q : VK) (E : XK), A.guards = some [] → Room k A → Env0 P w K mg base A fr s H →
    BindsTo s fd ar (ps.zip us) → Vals vs us → sp vs H Q E → codeAny (model P w) A (.call (.ref f) ar) (CR CX fr P w H s Q E) s

section
variable {P : Program} {w : World} {K : PySem.W.Frag} {mg : Str → Option Value} {base : Heap} {CX : CXT}
theorem fnG_of {k : Nat} {f : Addr} {name qual : Str} {pa : Arguments} {bd : List Stmt} {sc : Scope} {dV kV doc pm cdv ct oc : Value} {an od : Option Addr} {osl : Array (Option Value)} {N ps : List Str} {sp : Sp}
    (lk : K.lookup f = some ⟨oc, od, .func (PySem.W.fnOf name qual pa bd sc dV kV doc pm an cdv ct), osl⟩) (hcd : PySem.W.codeIn K cdv qual = true) (S : FnScope N ps sc)
    (many : ∀ vs H Q E, sp vs H Q E → vs.length = ps.length)
    (walk : ∀ (A : Around) (fr : List Env) (s : Shared) (H : Hp) (vs : List V) (Q : VK) (E : XK), A.guards = some [] → Room k (A.deeper (envOfC qual sc s.heap.objs.size f cdv)) → sp vs H Q E →
      ∃ t, PSs (cxOf CX P w K mg base N qual sc f cdv A fr s H E) bd t ∧ t { nx := fun _ H' => Q .non H', rt := Q } (start N vs) H) :
    FnG P w K mg base CX (k + 1) f (PySem.W.fnOf name qual pa bd sc dV kV doc pm an cdv ct) ps sp := by
  constructor
  · exact many
  intro A fr s H ar us vs Q E gu room ev bnd rel prom
  have cnt := many vs H Q E prom
  have kin : K.In s.heap := PySem.W.Frag.In.keeps ev.mod.kin (fun b o e => (ev.bs b o e).1)
  have lim : s.heap.NoLimit := Heap.NoLimit.keeps ev.mod.nolimit (fun b o e => (ev.bs b o e).1)
  refine codeAny_call_function (Room.depth room) (kin f _ lk) rfl S.co S.gen rfl (PySem.W.codeRec_of kin hcd) ?_
  refine bnd _ _ _ _ ?_
  refine wpAny_newFunctionEnv_cells S.kind ?_ ?_
  · intro y hy
    obtain ⟨n, v⟩ := y
    have hp := (List.of_mem_zip hy).1
    cases S.par n hp with
    | inl q => exact Or.inl q
    | inr q => exact Or.inr ⟨q, PySem.W.cellsFrom_some sc.names (s.heap.objs.size + 1) [] (Or.inl q)⟩
  intro env he s1 x
  subst he
  refine And.intro (lim.keeps (InCallC.toInCall x).keep) ?_
  refine codeAny_func ?_
  have start_ok := inv_start (CX := CX) (E := E) (f := f) (cd := cdv) S room.hd ev cnt rel x
  obtain ⟨t, ht, hq⟩ := walk A fr s H vs Q E gu (Room.deeper room _) prom
  refine wpAny_mono (PSs.run ht [] s1 (start N vs) H _ start_ok hq) ?_ (fun _ _ z => z)
  intro fl s2 hs
  cases fl with
  | ret u =>
    obtain ⟨v, σ2, H2, J, rv, q⟩ := hs
    exact Exists.intro v ⟨H2, J.os, J.bare, J.base, J.hok, rv, q⟩
  | next =>
    obtain ⟨σ2, H2, J, q⟩ := hs
    exact Exists.intro V.non ⟨H2, J.os, J.bare, J.base, J.hok, rfl, q⟩
  | brk => exact (hs.choose_spec.choose_spec.2).elim
  | cont => exact (hs.choose_spec.choose_spec.2).elim
/-- a def of the text: its body's term and reading, where no repr is under way -/
theorem funG {x qual : Str} {st : Stmt} {f : Addr} {fd : FuncData} {N ps : List Str} {k : Nat} {sp : Sp} (F : Fun K x qual st f fd) (S : FnScope N ps (defScope st)) (many : ∀ vs H Q E, sp vs H Q E → vs.length = ps.length)
    (walk : ∀ (cdv : Value) (A : Around) (fr : List Env) (s : Shared) (H : Hp) (vs : List V) (Q : VK) (E : XK), (cxOf CX0 P w K mg base N qual (defScope st) f cdv A fr s H E).A.guards = some [] →
      Room k (A.deeper (envOfC qual (defScope st) s.heap.objs.size f cdv)) → sp vs H Q E →
      ∃ t, PSs (cxOf CX0 P w K mg base N qual (defScope st) f cdv A fr s H E).nox (defBody st) t ∧ t { nx := fun _ H' => Q .non H', rt := Q } (start N vs) H) : FnG P w K mg base CX0 (k + 1) f fd ps sp := by
  obtain ⟨oc, od, kV, doc, pm, an, cdv, ct, osl, rfl, lk, hcd⟩ := F.ex
  refine fnG_of lk hcd S many ?_
  intro A fr s H vs Q E gu room prom
  obtain ⟨t, d, q⟩ := walk cdv A fr s H vs Q E gu room prom
  exact ⟨t, PSs.nox d, q⟩
end

section
variable {X : Cx} {CX : CXT} {k : Nat} {f : Addr} {fd : FuncData} {ps : List Str} {sp : Sp} {dvs : List V} {ds : List Value} {E : XK} {x : Str} {p pos : Pos} {e : Expr} {es : List Expr} {t : TA}
/-- f(e, ..) of such a def -/
theorem pe_callG (F : FnG X.prog X.w X.K X.mg X.base CX k f fd ps sp) (gu : X.A.guards = some []) (room : Room k X.A) (hg : Gl X x) (hm : X.mg x = some (.ref f)) (hk : PySem.W.keepIn X.K (.ref f) = true)
    (bnd : Binds X.K fd ps ds) (hd : Vals dvs ds) (hx : Passes CX X E) (ha : PA X (e :: es) t) (hdb : (x == ("__debug__" : Str)) = false := by decide)
    (he : starEach (e :: es) X.env = (false, eval e X.env) :: starEach es X.env := by rfl) (hpl : (backTo pos (starEach es X.env)).any (·.1) = false := by rfl) :
    PE X (.Call (.Name x p) (e :: es) [] pos) (tCall sp dvs E t) := by
  constructor
  intro pins s σ H Q I h
  refine wpAny_Call_Name_kw (ld_glob I hg hm ?_ hdb)
  refine PySem.W.callWith_K (h₀ := X.base) I.ok.mod.kin hk ?_ he hpl
  refine thn (PA.run ha pos pins s σ H _ I h) ?_
  intro us s1 hh
  obtain ⟨vs, H1, I1, r, q⟩ := hh
  refine ⟨I1.kIn, ?_⟩
  have r2 : Vals (vs ++ dvs) (us ++ ds) := Vals.append r hd
  have cnt : (us ++ ds).length = ps.length := (r2.length).symm.trans (F.many _ _ _ _ q)
  refine wpAny_call (codeAny_mono (F.go X.A X.stack s1 H1 ⟨us, []⟩ (us ++ ds) (vs ++ dvs) Q E gu room I1.env0 (bnd s1 us I1.kIn cnt) r2 q) ?_)
  intro res s2 hq
  cases res with
  | error er => exact hx pins σ H1 s1 er s2 I1 hq
  | ok fl =>
    cases fl with
    | ret u => exact Inv.after I1 hq
    | next => exact hq.elim
    | brk => exact hq.elim
    | cont => exact hq.elim
end
end Rw

set_option Elab.async false
set_option linter.all false
set_option maxRecDepth 100000
set_option maxHeartbeats 4000000
/-! TkB: the end of a law's row from a def that is called where no repr is under way. -/
namespace Rw
open PySem PySem.Spec PyProof.Rows L2

/-- nothing is tracked in H but perhaps a -/
def Lone (H : Hp) (a : Addr) : Prop := ∀ b, H b ≠ none → b = a

section
variable {P : Program} {w : World} {K : PySem.W.Frag} {mg mb : Str → Option Value} {s : Shared} {a : Addr} {H : Hp} {o : Obj}
theorem lone_base {b : Addr} {u : Obj} (e : s.heap.get? b = some u) (n : H b = none) : (hidT s.heap H).get? b = some u := hidT_get e n
theorem lone_free (A : Lone H a) {b : Addr} (n : b ≠ a) : H b = none := by
  cases q : H b with
  | none => rfl
  | some u => exact (n (A b (by rw [q]; exact fun z => nomatch z))).elim
theorem lone_dict (A : Lone H a) (ha : s.heap.get? a = some o) (hd : ∀ es n, o.data ≠ .dict es n) {b : Addr} {u : Obj} {es : Array DictEntry} {n : Nat} (e : s.heap.get? b = some u) (d : u.data = .dict es n) : H b = none :=
  lone_free A fun z => by
    rw [z, ha] at e
    cases e
    exact hd es n d
theorem lone_ns (A : Lone H a) (ha : s.heap.get? a = some o) (hd : ∀ es n, o.data ≠ .dict es n) {b : Addr} {m : Str → Option Value} (h : s.heap.Ns b m) : (hidT s.heap H).Ns b m := by
  obtain ⟨u, es, n, e, d, r⟩ := h
  exact ⟨u, es, n, lone_base e (lone_dict A ha hd e d), d, r⟩
theorem lone_mod (A : Lone H a) (ha : s.heap.get? a = some o) (hd : ∀ es n, o.data ≠ .dict es n) (KX : K.In s.heap) (hK : H a ≠ none → K.lookup a = none) (g : s.heap.Ns mainGlobals mg) (b : s.heap.Ns builtinsNs mb)
    (bb : ∀ x : Str, x ≠ "__name__" → mb x = bootBuiltins x) (lim : s.heap.NoLimit) : Mod K mg (hidT s.heap H) := by
  have kin : K.In (hidT s.heap H) := fun c u e => by
    refine lone_base (KX c u e) ?_
    by_cases z : c = a
    · cases q : H a with
      | none => rw [z]; exact q
      | some y =>
        rw [z, hK (by rw [q]; exact fun z => nomatch z)] at e
        cases e
    · exact lone_free A z
  refine ⟨kin, lone_ns A ha hd g, ⟨mb, lone_ns A ha hd b, bb⟩, ?_⟩
  obtain ⟨mc, h1, h2⟩ := lim
  exact ⟨mc, lone_ns A ha hd h1, h2⟩

/-- what a law's run leaves, from its promise -/
theorem lone_run {CX : CXT} {k : Nat} {fa : Addr} {fd : FuncData} {x : Str} {sp : Sp} (A : Lone H a) (ha : s.heap.get? a = some o) (hd : ∀ es n, o.data ≠ .dict es n) (KX : K.In s.heap) (hK : H a ≠ none → K.lookup a = none)
    (g : s.heap.Ns mainGlobals mg) (b : s.heap.Ns builtinsNs mb) (bb : ∀ x : Str, x ≠ "__name__" → mb x = bootBuiltins x) (lim : s.heap.NoLimit) (hg : s.gens = #[]) (only : Only H) (hok : HOk P w H s.heap) (gu : callerA.guards = some []) (hr : Room k callerA)
    (F : ∀ base : Heap, K.In base → base.Ns mainGlobals mg → FnG P w K mg base CX k fa fd [x] sp) (bnd : ∀ (s : Shared) (u : Value), BindsTo s fd ⟨[u], []⟩ [(x, u)])
    (hs : sp [.ref a] H (fun v _ => v = .bl true) fun _ _ _ => False) (hCX : ∀ e s', CX [] H s (fun _ _ _ => False) e s' → False) :
    codeAny (model P w) callerA (.call (.ref fa) ⟨[.ref a], []⟩) (fun r s' => r = .ok (.ret (.bool true)) ∧ OldK s.heap s'.heap ∧ s'.os = s.os ∧ AllBare s'.gens) s := by
  have M := lone_mod A ha hd KX hK g b bb lim
  have ev : Env0 P w K mg (hidT s.heap H) callerA [] s H := by
    refine ⟨rfl, M, fun c u e => of_hidT e, Nat.le_of_eq (hidT_size _ _), True.intro, ?_, hok, .of_eq hg⟩
    intro c hc
    cases hc
  refine codeAny_mono ((F _ M.kin M.glob).go callerA [] s H ⟨[.ref a], []⟩ [.ref a] [.ref a] _ _ gu hr ev (bnd s (.ref a)) (.cons rfl .nil) hs) ?_
  intro r s' h
  cases r with
  | error e => exact False.elim (hCX e s' h)
  | ok fl =>
    cases fl with
    | next => exact h.elim
    | brk => exact h.elim
    | cont => exact h.elim
    | ret u =>
      obtain ⟨v, H', os, bare, un, hok', r', q⟩ := h
      have ev : v = V.bl true := q
      rw [ev] at r'
      cases (show u = Value.bool true from r')
      refine ⟨rfl, OldK.of_keep ?_, os, bare⟩
      intro c u e
      cases q : H c with
      | none => exact un.keep c u e q (fun z => nomatch z) (fun z => nomatch z)
      | some y =>
        cases only c with
        | inl z =>
          rw [q] at z
          cases z
        | inr z =>
          obtain ⟨ob, xs, z⟩ := z
          have e1 := (hok c _ z).1
          have e2 := (hok' c _ (un.frzs c ob _ z)).1
          rw [e] at e1
          cases e1
          exact e2

theorem lawG {CX : CXT} {k : Nat} {fa : Addr} {fd : FuncData} {x : Str} {sp : Sp} {vs : List Value} {ns : List Int} (KX : K.In s.heap) (g : s.heap.Ns mainGlobals mg) (b : s.heap.Ns builtinsNs mb)
    (bb : ∀ x : Str, x ≠ "__name__" → mb x = bootBuiltins x) (lim : s.heap.NoLimit) (hg : s.gens = #[]) (ha : s.heap.get? a = some { cls := .type "list", data := .seq vs.toArray }) (hi : IntsAre vs ns) (hl : ns.length ≤ sizeLine)
    (gu : callerA.guards = some []) (hr : Room k callerA) (F : ∀ base : Heap, K.In base → base.Ns mainGlobals mg → FnG P w K mg base CX k fa fd [x] sp) (bnd : ∀ (s : Shared) (u : Value), BindsTo s fd ⟨[u], []⟩ [(x, u)])
    (hs : ∀ H : Hp, Only H → SqL K H a (ns.map V.int) → sp [.ref a] H (fun v _ => v = .bl true) fun _ _ _ => False) (hCX : ∀ H e s', CX [] H s (fun _ _ _ => False) e s' → False) :
    codeAny (model P w) callerA (.call (.ref fa) ⟨[.ref a], []⟩) (fun r s' => r = .ok (.ret (.bool true)) ∧ OldK s.heap s'.heap ∧ s'.os = s.os ∧ AllBare s'.gens) s := by
  have rv := vals_ints hi
  have nd : ∀ es n, ({ cls := .type "list", data := .seq vs.toArray } : Obj).data ≠ .dict es n := fun es n z => nomatch z
  cases hk : K.lookup a with
  | some o =>
    have e := KX a o hk
    rw [ha] at e
    cases e
    have sq : SqL K (fun _ => none) a (ns.map V.int) := Or.inr ⟨_, vs.toArray, _, hk, rfl, rfl, rfl, (by rw [List.size_toArray, hi.length]; exact hl), (by simpa using rv)⟩
    have on : Only (fun _ => none) := fun _ => Or.inl rfl
    exact lone_run (H := fun _ => none) (fun b z => absurd rfl z) ha nd KX (fun z => absurd rfl z) g b bb lim hg on (fun c u z => nomatch z) gu hr F bnd (hs _ on sq) (hCX _)
  | none =>
    have on : Only (upd (fun _ => none) a (.frz { cls := .type "list", data := .seq vs.toArray } (.lst (ns.map V.int)))) := fun c => by
      by_cases z : c = a
      · rw [z]
        exact Or.inr ⟨_, _, upd_same⟩
      · exact Or.inl (upd_ne z)
    refine lone_run (a := a) (fun c z => ?_) ha nd KX (fun _ => hk) g b bb lim hg on (fun c u z => ?_) gu hr F bnd (hs _ on (.inl (.inr ⟨_, upd_same⟩))) (hCX _)
    · by_cases y : c = a
      · exact y
      · exact (z (upd_ne y)).elim
    · by_cases y : c = a
      · rw [y, upd_same] at z
        cases z
        rw [y]
        exact ⟨ha, by rw [List.length_map]; exact hl, vs, _, rv, ha⟩
      · rw [upd_ne y] at z
        cases z
end

/-- the row's walk -/
theorem walkG {l : PySem.W.OpenLaw} {n k : Nat} {q : Program} {loose : List Str} {XP : (Str → Option Value) → Heap → Prop} {YP : World → Heap → Prop} {d : DefRec} {K : Params → PySem.W.Frag} {sp : PySem.W.Frag → Sp} {x : Str}
    (hn : l.most = some n) (hn2 : n ≤ sizeLine) (hdf : d.params.defaults = []) (gu : callerA.guards = some []) (hr : Room k callerA) (hY : ∀ (w : World) (h : Heap), YP w h → (K w.params).In h)
    (F : ∀ (w : World) (mg : Str → Option Value) (fa : Addr) (h : Heap), (K w.params).In h → h.Ns mainGlobals mg → mg d.name = some (.ref fa) →
      ∃ fd : FuncData, (∀ (s : Shared) (u : Value), BindsTo s fd ⟨[u], []⟩ [(x, u)]) ∧ ∀ base : Heap, (K w.params).In base → base.Ns mainGlobals mg → FnG l.prog w (K w.params) mg base CX0 k fa fd [x] (sp (K w.params)))
    (hs : ∀ (K : PySem.W.Frag) (H : Hp) (a : Addr) (ns : List Int), ns.length ≤ n → Only H → SqL K H a (ns.map V.int) → sp K [.ref a] H (fun v _ => v = .bl true) fun _ _ _ => False) :
    PySem.W.WalkO q loose XP YP l.row.toRowW d [] (fun f vs => PySem.call f vs) := by
  refine Att.attach_call hn hdf ?_
  intro w s0 s1 mg mb fa o pm cd doc a vs ns G Y ho hd hcd hmg hobj hints hlen hg
  have KX := hY w s1.heap Y
  obtain ⟨fd, bnd, FF⟩ := F w mg fa s1.heap KX G.T.g hmg
  exact lawG KX G.T.g G.T.b G.T.builtins G.T.nolimit hg hobj hints (Nat.le_trans hlen hn2) gu hr FF bnd (fun H on sq => hs (K w.params) H a ns hlen on sq) (fun _ _ _ z => z)
end Rw

set_option Elab.async false
set_option linter.all false
set_option maxRecDepth 100000
set_option maxHeartbeats 4000000
/-! TkC: data with dicts among them; repr of data. -/
namespace Rw
open PySem PySem.Spec PyProof.Rows L2

/-- how a dict's key reads -/
def keyD : Key → PyData
  | .inl i => .int i
  | .inr x => .str x
mutual
/-- what v is, as data: lists and tuples that are tracked, dicts with keys that are ints or texts -/
inductive Any (H : Hp) : V → PyData → Prop
  | non : Any H .non .none
  | bl (b : Bool) : Any H (.bl b) (.bool b)
  | int (i : Int) : Any H (.int i) (.int i)
  | str (x : Str) : Any H (.str x) (.str x)
  | lst {a : Addr} {xs : List V} {ds : List PyData} : H a = some (.lst xs) → AnyL H xs ds → Any H (.ref a) (.list ds)
  | tup {a : Addr} {xs : List V} {ds : List PyData} : H a = some (.tup xs) → AnyL H xs ds → Any H (.ref a) (.tuple ds)
  | dct {a : Addr} {kvs : List (Key × V)} {ds : List (PyData × PyData)} : H a = some (.dK kvs) → AnyK H kvs ds → Any H (.ref a) (.dict ds)
inductive AnyL (H : Hp) : List V → List PyData → Prop
  | nil : AnyL H [] []
  | cons {v : V} {vs : List V} {d : PyData} {ds : List PyData} : Any H v d → AnyL H vs ds → AnyL H (v :: vs) (d :: ds)
inductive AnyK (H : Hp) : List (Key × V) → List (PyData × PyData) → Prop
  | nil : AnyK H [] []
  | cons {k : Key} {v : V} {vs : List (Key × V)} {d : PyData} {ds : List (PyData × PyData)} : Any H v d → AnyK H vs ds → AnyK H ((k, v) :: vs) ((keyD k, d) :: ds)
end

/-! ### how such data is shown -/
section
variable {prog : Program} {w : World} {h : Heap}
/-- u lies as the data d in h, and is shown by repr -/
def Shows (prog : Program) (w : World) (h : Heap) (u : Value) (d : PyData) : Prop := ∃ as, Reads h u d as ∧ ∃ bs, ReadAtMost h d.depth bs ∧ ReprK prog w bs h d.depth u d.shown
def ShowsL (prog : Program) (w : World) (h : Heap) (us : List Value) (ds : List PyData) : Prop := ∃ as, ReadsAll h us ds as ∧ ∃ bs, ReadAtMost h (PyData.depthAll ds) bs ∧ ReprAllK prog w bs h (PyData.depthAll ds) us (PyData.shownAll ds)
theorem shows_flat {u : Value} {d : PyData} (r : Reads h u d []) (k : ReprIs prog w u d.shown) : Shows prog w h u d := ⟨[], r, [], fun _ z => (nomatch z), ReprK.of_is k [] h d.depth⟩
theorem showsL_nil : ShowsL prog w h [] [] := ⟨[], .nil, [], fun _ z => (nomatch z), by simp only [PyData.shownAll]; exact .nil⟩
theorem showsL_cons {u : Value} {d : PyData} {us : List Value} {ds : List PyData} (x : Shows prog w h u d) (y : ShowsL prog w h us ds) : ShowsL prog w h (u :: us) (d :: ds) := by
  obtain ⟨a1, r1, b1, m1, k1⟩ := x
  obtain ⟨a2, r2, b2, m2, k2⟩ := y
  have e : PyData.depthAll (d :: ds) = max d.depth (PyData.depthAll ds) := by simp only [PyData.depthAll]
  have l1 : d.depth ≤ max d.depth (PyData.depthAll ds) := Nat.le_max_left _ _
  have l2 : PyData.depthAll ds ≤ max d.depth (PyData.depthAll ds) := Nat.le_max_right _ _
  refine ⟨a1 ++ a2, .cons r1 r2, b1 ++ b2, ?_, ?_⟩
  · rw [e]
    exact ReadAtMost.append (m1.mono l1) (m2.mono l2)
  · rw [e]
    simp only [PyData.shownAll]
    exact .cons (ReprK.level_le (ReprK.more k1 fun b z => List.mem_append_left b2 z) l1) (ReprAllK.more_le (fun b z => List.mem_append_right b1 z) l2 k2)
theorem shown_le {ds : List PyData} {n : Nat} (z : ∀ t ∈ PyData.shownAll ds, t.length ≤ n) : ∀ d ∈ ds, d.shown.length ≤ n := by
  induction ds with
  | nil => intro d hd; cases hd
  | cons c cs ih =>
    intro d hd
    simp only [PyData.shownAll] at z
    rcases List.mem_cons.mp hd with e | e
    · rw [e]
      exact z _ List.mem_cons_self
    · exact ih (fun t ht => z t (List.mem_cons_of_mem _ ht)) d e
/-- the parts of a list -/
structure ListAt (h : Heap) (a : Addr) (us : List Value) (o : Obj) (n : Nat) : Prop where
  get : h.get? a = some o
  cls : o.cls = .type "list"
  dat : o.data = .seq us.toArray n
structure TupleAt (h : Heap) (a : Addr) (us : List Value) (o : Obj) (n : Nat) : Prop where
  get : h.get? a = some o
  cls : o.cls = .type "tuple"
  dat : o.data = .seq us.toArray n
structure DictAt' (h : Heap) (a : Addr) (es : Array DictEntry) (o : Obj) (n : Nat) : Prop where
  get : h.get? a = some o
  cls : o.cls = .type "dict"
  dat : o.data = .dict es n
  off : (a == sysModules) = false
theorem list_reads {a : Addr} {us : List Value} {o : Obj} {n : Nat} {ds : List PyData} {as : List Addr} (L : ListAt h a us o n) (r : ReadsAll h us ds as) : Reads h (.ref a) (.list ds) (a :: as) := .list L.get L.cls L.dat r
theorem tuple_reads {a : Addr} {us : List Value} {o : Obj} {n : Nat} {ds : List PyData} {as : List Addr} (L : TupleAt h a us o n) (r : ReadsAll h us ds as) : Reads h (.ref a) (.tuple ds) as := .tuple L.get L.cls L.dat r
theorem off_of {a : Addr} {d : PyData} {as bs : List Addr} {m : Nat} (r : Reads h (.ref a) d as) (e : d.depth = m + 1) (k : ReadAtMost h m bs) : a ∉ bs := not_mem_of_deeper r (by omega) k
theorem shows_list {a : Addr} {us : List Value} {o : Obj} {n : Nat} {ds : List PyData} (L : ListAt h a us o n) (x : ShowsL prog w h us ds) : Shows prog w h (.ref a) (.list ds) := by
  obtain ⟨as, r, bs, m, k⟩ := x
  have R := list_reads L r
  have dp : (PyData.list ds).depth = PyData.depthAll ds + 1 := by simp only [PyData.depth]
  refine ⟨_, R, a :: bs, ReadAtMost.cons R (by omega) m, ?_⟩
  rw [dp]
  simp only [PyData.shown]
  cases us with
  | nil =>
    cases r
    simp only [PyData.shownAll, listText_nil]
    exact ReprK.listEmpty L.get L.cls L.dat
  | cons u us => exact ReprK.list L.get L.cls L.dat (off_of R dp m) (by simpa using k.length_eq) (fun i y e => k.item i y (by simpa using e))
theorem shows_tuple {a : Addr} {us : List Value} {o : Obj} {n : Nat} {ds : List PyData} (L : TupleAt h a us o n) (x : ShowsL prog w h us ds) : Shows prog w h (.ref a) (.tuple ds) := by
  obtain ⟨as, r, bs, m, k⟩ := x
  have R := tuple_reads L r
  have dp : (PyData.tuple ds).depth = PyData.depthAll ds + 1 := by simp only [PyData.depth]
  refine ⟨_, R, a :: bs, ReadAtMost.cons R (by omega) m, ?_⟩
  rw [dp]
  simp only [PyData.shown]
  exact ReprK.tuple L.get L.cls L.dat (off_of R dp m) k
theorem shows_dict {a : Addr} {es : Array DictEntry} {o : Obj} {n : Nat} {kvs : List (PyData × PyData)} (L : DictAt' h a es o n) (x : ShowsL prog w h (es.toList.map (·.key)) (kvs.map (·.1))) (y : ShowsL prog w h (es.toList.map (·.val)) (kvs.map (·.2))) :
    (∃ as, Reads h (.ref a) (.dict kvs) as) ∧ (∃ bs, ReadAtMost h (PyData.depthKv kvs) bs ∧ a ∉ bs ∧ ReprEntriesK prog w bs h (PyData.depthKv kvs) es.toList (PyData.shownKv kvs)) := by
  obtain ⟨a1, r1, b1, m1, k1⟩ := x
  obtain ⟨a2, r2, b2, m2, k2⟩ := y
  have R : Reads h (.ref a) (.dict kvs) (a :: a1 ++ a2) := .dict L.get L.cls L.dat r1 r2
  have dp : (PyData.dict kvs).depth = PyData.depthKv kvs + 1 := by simp only [PyData.depth]
  have m : ReadAtMost h (PyData.depthKv kvs) (b1 ++ b2) := ReadAtMost.append (m1.mono (PyData.depthAll_keys_le kvs)) (m2.mono (PyData.depthAll_vals_le kvs))
  refine ⟨⟨_, R⟩, b1 ++ b2, m, off_of R dp m, ?_⟩
  rw [PyData.shownKv_eq]
  have j1 := ReprAllK.more_le (fun b z => List.mem_append_left b2 z) (PyData.depthAll_keys_le kvs) k1
  have j2 := ReprAllK.more_le (fun b z => List.mem_append_right b1 z) (PyData.depthAll_vals_le kvs) k2
  exact ReprEntriesK.of_two es.toList _ _ j1 j2
theorem shows_dict' {a : Addr} {es : Array DictEntry} {o : Obj} {n : Nat} {kvs : List (PyData × PyData)} (L : DictAt' h a es o n) (x : ShowsL prog w h (es.toList.map (·.key)) (kvs.map (·.1))) (y : ShowsL prog w h (es.toList.map (·.val)) (kvs.map (·.2))) :
    Shows prog w h (.ref a) (.dict kvs) := by
  obtain ⟨⟨as, R⟩, bs, m, na, k⟩ := shows_dict L x y
  have dp : (PyData.dict kvs).depth = PyData.depthKv kvs + 1 := by simp only [PyData.depth]
  refine ⟨as, R, a :: bs, ReadAtMost.cons R (by omega) m, ?_⟩
  rw [dp]
  simp only [PyData.shown]
  exact ReprK.dict L.get L.cls L.dat L.off na k
end

section
variable {X : Cx} {pins : List (Addr × Obj)} {σ : L2.St} {H : Hp} {s : Shared}
theorem key_shows {P : Program} {w : World} {h : Heap} (k : Key) (v : Value) (hk : (mixKind P w).is k v = true) (hs : (keyD k).showable = true) (hz : (keyD k).shown.length ≤ sizeLine) : Shows P w h v (keyD k) := by
  rcases keyIs_shape hk with ⟨i, t, e1, e2⟩ | ⟨x, t, e1, e2⟩
  · subst e1 e2
    refine shows_flat (.int i t) ?_
    simp only [keyD, PyData.shown]
    exact ReprIs.int t (by simpa [keyD, PyData.showable] using hs)
  · subst e1 e2
    refine shows_flat (.str x t) ?_
    simp only [keyD, PyData.shown]
    exact ReprIs.str x t (by simpa only [keyD, PyData.shown] using hz)
theorem lst_at (I : Inv X pins σ H s) {a : Addr} {xs : List V} (e : H a = some (.lst xs)) : ∃ us o n, ListAt s.heap a us o n ∧ Vals xs us := by
  obtain ⟨_, its, n, rv, g⟩ := (show ObjOk X.prog X.w H s.heap a (.lst xs) from I.hok a _ e)
  exact ⟨its, _, n, ⟨g, rfl, rfl⟩, rv⟩
theorem tup_at (I : Inv X pins σ H s) {a : Addr} {xs : List V} (e : H a = some (.tup xs)) : ∃ us o n, TupleAt s.heap a us o n ∧ Vals xs us := by
  obtain ⟨_, its, rv, o, g, c, n, dt⟩ := (show ObjOk X.prog X.w H s.heap a (.tup xs) from I.hok a _ e)
  exact ⟨its, o, n, ⟨g, c, dt⟩, rv⟩
theorem dct_at (I : Inv X pins σ H s) {a : Addr} {kvs : List (Key × V)} (e : H a = some (.dK kvs)) : ∃ vs es o n, DictAt' s.heap a es o n ∧ KV kvs vs ∧ Pairs (mixKind X.prog X.w) es.toList vs := by
  obtain ⟨_, off, vs, rel, o, es, n, g, c, dt, _, p, _⟩ := (show ObjOk X.prog X.w H s.heap a (.dK kvs) from I.hok a _ e)
  exact ⟨vs, es, o, n, ⟨g, c.1, dt, off⟩, rel, p⟩
mutual
theorem any_shows (I : Inv X pins σ H s) : ∀ (d : PyData) (v : V) (u : Value), Any H v d → RelV v u → d.showable = true → d.shown.length ≤ sizeLine → Shows X.prog X.w s.heap u d
  | .none, v, u, h, r, _, _ => by
    cases h
    cases (show u = Value.none from r)
    exact shows_flat .none (by simp only [PyData.shown]; exact ReprIs.none)
  | .bool b, v, u, h, r, _, _ => by
    cases h
    cases (show u = Value.bool b from r)
    exact shows_flat (.bool b) (by simp only [PyData.shown]; exact ReprIs.bool b)
  | .int i, v, u, h, r, sh, _ => by
    cases h
    obtain ⟨t, e⟩ := (show ∃ t, u = Value.int i t from r)
    rw [e]
    exact shows_flat (.int i t) (by simp only [PyData.shown]; exact ReprIs.int t (by simpa [PyData.showable] using sh))
  | .str x, v, u, h, r, _, sz => by
    cases h
    obtain ⟨t, e⟩ := (show ∃ t, u = Value.str x t from r)
    rw [e]
    exact shows_flat (.str x t) (by simp only [PyData.shown]; exact ReprIs.str x t (by simpa only [PyData.shown] using sz))
  | .list ds, v, u, h, r, sh, sz => by
    cases h with
    | lst ea ha =>
      rename_i a xs
      cases (show u = Value.ref a from r)
      obtain ⟨us, o, n, L, rv⟩ := lst_at I ea
      have z : (listText (PyData.shownAll ds)).length ≤ sizeLine := by simpa only [PyData.shown] using sz
      exact shows_list L (any_showsL I ds xs us ha rv (by simpa [PyData.showable] using sh) fun t ht => Nat.le_trans (listText_mem_le ht) z)
  | .tuple ds, v, u, h, r, sh, sz => by
    cases h with
    | tup ea ha =>
      rename_i a xs
      cases (show u = Value.ref a from r)
      obtain ⟨us, o, n, L, rv⟩ := tup_at I ea
      have z : (tupleText (PyData.shownAll ds)).length ≤ sizeLine := by simpa only [PyData.shown] using sz
      exact shows_tuple L (any_showsL I ds xs us ha rv (by simpa [PyData.showable] using sh) fun t ht => Nat.le_trans (tupleText_mem_le ht) z)
  | .dict ds, v, u, h, r, sh, sz => by
    cases h with
    | dct ea ha =>
      rename_i a kvs
      cases (show u = Value.ref a from r)
      obtain ⟨vs, es, o, n, L, rel, p⟩ := dct_at I ea
      have z : (dictText (PyData.shownKv ds)).length ≤ sizeLine := by simpa only [PyData.shown] using sz
      obtain ⟨x, y⟩ := any_showsK I ds kvs vs es.toList ha rel p (by simpa [PyData.showable] using sh) fun t ht => Nat.le_trans (dictText_mem_le ht) z
      exact shows_dict' L x y
theorem any_showsL (I : Inv X pins σ H s) : ∀ (ds : List PyData) (vs : List V) (us : List Value), AnyL H vs ds → Vals vs us → PyData.showableAll ds = true → (∀ t ∈ PyData.shownAll ds, t.length ≤ sizeLine) → ShowsL X.prog X.w s.heap us ds
  | [], vs, us, h, r, _, _ => by
    cases h
    cases r
    exact showsL_nil
  | d :: ds, vs, us, h, r, sh, sz => by
    have sh' : d.showable = true ∧ PyData.showableAll ds = true := by simpa [PyData.showableAll] using sh
    simp only [PyData.shownAll] at sz
    cases h with
    | cons h1 h2 =>
      cases r with
      | cons r1 r2 => exact showsL_cons (any_shows I d _ _ h1 r1 sh'.1 (sz _ List.mem_cons_self)) (any_showsL I ds _ _ h2 r2 sh'.2 fun t ht => sz t (List.mem_cons_of_mem _ ht))
theorem any_showsK (I : Inv X pins σ H s) : ∀ (ds : List (PyData × PyData)) (kvs : List (Key × V)) (us : List (Key × Value)) (es : List DictEntry), AnyK H kvs ds → KV kvs us → Pairs (mixKind X.prog X.w) es us → PyData.showableKv ds = true →
    (∀ t ∈ PyData.shownKv ds, t.length ≤ sizeLine) → ShowsL X.prog X.w s.heap (es.map (·.key)) (ds.map (·.1)) ∧ ShowsL X.prog X.w s.heap (es.map (·.val)) (ds.map (·.2))
  | [], vs, us, es, h, r, p, _, _ => by
    cases h
    cases r
    cases p
    exact ⟨showsL_nil, showsL_nil⟩
  | (kd, d) :: ds, vs, us, es, h, r, p, sh, sz => by
    have sh' : (kd.showable = true ∧ d.showable = true) ∧ PyData.showableKv ds = true := by simpa [PyData.showableKv] using sh
    simp only [PyData.shownKv] at sz
    have top := sz _ List.mem_cons_self
    rw [strLen_append, strLen_append] at top
    cases h with
    | cons h1 h2 =>
      cases r with
      | cons r1 r2 =>
        rename_i k v vs' q us'
        obtain ⟨kq, uq⟩ := q
        obtain ⟨ek, r1⟩ := r1
        cases (show k = kq from ek)
        cases p with
        | cons hk hv hp =>
          obtain ⟨x, y⟩ := any_showsK I ds _ _ _ h2 r2 hp sh'.2 fun t ht => sz t (List.mem_cons_of_mem _ ht)
          refine ⟨showsL_cons (key_shows k _ hk sh'.1.1 (by omega)) x, ?_⟩
          have e := any_shows I d _ _ h1 r1 sh'.1.2 (by omega)
          rw [← hv] at e
          exact showsL_cons e y
end
/-- repr of data that lies at an address -/
def rRepr : List V → Hp → VK → Prop := fun xs H Q => ∃ (a : Addr) (d : PyData), xs = [.ref a] ∧ Any H (.ref a) d ∧ d.showable = true ∧ d.depth ≤ 60 ∧ d.shown.length ≤ sizeLine ∧ Q (.str d.shown) H
theorem call_repr (gu : X.A.guards = some []) (hu : X.A.units + 64 < cLine) : CallR X (.builtin "repr") rRepr := by
  intro pins s σ H xs us Q I r h
  obtain ⟨a, d, e, an, sh, dp, sz, q⟩ := h
  subst e
  obtain ⟨u, e, ru⟩ := vals1 r
  subst e
  cases (show u = Value.ref a from ru)
  have fin : ∀ h' u tk, (∀ b o, s.heap.get? b = some o → h'.get? b = some o) → EP X pins σ Q (.str d.shown u) { s with heap := h', toks := tk } := fun h' t tk keep => ⟨V.str d.shown, H, Inv.kept I keep, ⟨t, rfl⟩, q⟩
  have gu1 : X.A.in1.guards = some [] := gu
  have un1 : X.A.in1.units = X.A.units + 1 := rfl
  cases an with
  | lst ea ha =>
    rename_i xs ds
    obtain ⟨us, o, n, L, rv⟩ := lst_at I ea
    have z : (listText (PyData.shownAll ds)).length ≤ sizeLine := by simpa only [PyData.shown] using sz
    have D : (PyData.list ds).depth = PyData.depthAll ds + 1 := by simp only [PyData.depth]
    obtain ⟨as, rd, bs, m, k⟩ := any_showsL I ds xs us ha rv (by simpa [PyData.showable] using sh) fun t ht => Nat.le_trans (listText_mem_le ht) z
    have ty : s.TypeIs (.ref a) "list" := ⟨o, L.get, L.cls⟩
    refine call_repr_slot (by omega) ty F.slot_list_repr.toG ?_
    simp only [PyData.shown] at fin
    cases us with
    | nil =>
      cases rd
      simp only [PyData.shownAll, listText_nil] at fin
      exact call_list_repr_empty ty L.get L.dat ⟨_, _, rfl, fin s.heap _ _ fun _ _ z => z⟩
    | cons u us => exact call_list_reprK L.get L.cls L.dat (off_of (list_reads L rd) D m) (by simpa using k.length_eq) (fun i y e => k.item i y (by simpa using e)) gu1 (fun b _ => Clear.nil b) (by omega) (fun _ _ z => z) (fun h' t tk keep => ⟨_, _, rfl, fin h' t tk keep⟩) z
  | tup ea ha =>
    rename_i xs ds
    obtain ⟨us, o, n, L, rv⟩ := tup_at I ea
    have z : (tupleText (PyData.shownAll ds)).length ≤ sizeLine := by simpa only [PyData.shown] using sz
    have D : (PyData.tuple ds).depth = PyData.depthAll ds + 1 := by simp only [PyData.depth]
    obtain ⟨as, rd, bs, m, k⟩ := any_showsL I ds xs us ha rv (by simpa [PyData.showable] using sh) fun t ht => Nat.le_trans (tupleText_mem_le ht) z
    refine call_repr_slot (by omega) ⟨o, L.get, L.cls⟩ F.slot_tuple_repr ?_
    simp only [PyData.shown] at fin
    exact call_tuple_reprK L.get L.cls L.dat (off_of (tuple_reads L rd) D m) k gu1 (fun b _ => Clear.nil b) (by omega) (fun _ _ z => z) (fun h' t tk keep => ⟨_, _, rfl, fin h' t tk keep⟩) z
  | dct ea ha =>
    rename_i kvs ds
    obtain ⟨vs, es, o, n, L, rel, p⟩ := dct_at I ea
    have z : (dictText (PyData.shownKv ds)).length ≤ sizeLine := by simpa only [PyData.shown] using sz
    have D : (PyData.dict ds).depth = PyData.depthKv ds + 1 := by simp only [PyData.depth]
    obtain ⟨x, y⟩ := any_showsK I ds kvs vs es.toList ha rel p (by simpa [PyData.showable] using sh) fun t ht => Nat.le_trans (dictText_mem_le ht) z
    obtain ⟨_, bs, m, na, k⟩ := shows_dict L x y
    refine call_repr_slot (by omega) ⟨o, L.get, L.cls⟩ F.slot_dict_repr ?_
    simp only [PyData.shown] at fin
    exact call_dict_reprK L.get L.cls L.dat L.off na k gu1 (fun b _ => Clear.nil b) (by omega) (fun _ _ z => z) (fun h' t tk keep => ⟨_, _, rfl, fin h' t tk keep⟩) z
/-- repr of a truth value -/
def boolS (b : Bool) : Str := if b then "True" else "False"
theorem call_reprB : CallR X (.builtin "repr") (fun xs H Q => ∃ b, xs = [.bl b] ∧ Q (.str (boolS b)) H) := by
  intro pins s σ H xs us Q I r h
  obtain ⟨b, e, q⟩ := h
  subst e
  obtain ⟨u, e, ru⟩ := vals1 r
  subst e
  cases (show u = Value.bool b from ru)
  exact PySem.P.repr_of_bool ⟨V.str (boolS b), H, I.tok _, ⟨_, rfl⟩, q⟩
end
end Rw

set_option Elab.async false
set_option linter.all false
set_option maxRecDepth 100000
set_option maxHeartbeats 4000000
/-! TkD: try with several except clauses, each with a name or without. -/
namespace Rw
open PySem PySem.Spec PyProof.Rows L2

/-- a clause: its class, the slot of its name, its suite -/
structure Cl where
  c : Value
  slot : Option Nat
  ts : Addr → Value → Option Addr → TS
/-- the suite with the error at a, its name bound ahead of it and gone behind it -/
def Cl.run (q : Cl) (a : Addr) (cls : Value) (d : Option Addr) : TS := fun D σ H => match q.slot with
  | none => q.ts a cls d D σ H
  | some i => q.ts a cls d { nx := fun τ J => D.nx (τ.set i none) J, rt := D.rt, bk := fun τ J => D.bk (τ.set i none) J, ct := fun τ J => D.ct (τ.set i none) J } (σ.set i (some (.ref a))) H
/-- what the clauses wish of an error -/
def wCls (K : PySem.W.Frag) (Wo : WX) (D : Ends) : List Cl → WX
  | [] => Wo
  | q :: r => fun cls d σ H => ∃ b, PySem.W.exmOne K cls q.c = some b ∧ (b = true → ∀ a, H a = none → q.run a cls d D σ H) ∧ (b = false → wCls K Wo D r cls d σ H)
def SuiteOk (X : Cx) (sts : List Stmt) (ts : Addr → Value → Option Addr → TS) : Prop :=
  ∀ (a : Addr) (oe : Obj) (cls : Value) (d : Option Addr) (pn : List (Addr × Obj)), Zc cls d oe → (∃ vs, oe.data = .fields vs) → PSs (X.suite a ((a, oe) :: pn)) sts (ts a cls d)
inductive ClsOk (X : Cx) : List ExceptHandler → List Cl → Prop
  | nil : ClsOk X [] []
  | anon {x : Str} {c : Value} {ts : Addr → Value → Option Addr → TS} {st : Stmt} {sts : List Stmt} {np hp : Pos} {hs : List ExceptHandler} {l : List Cl} (hc : Names X x c) (ok : SuiteOk X (st :: sts) ts) (r : ClsOk X hs l) :
      ClsOk X (.ExceptHandler (some (.Name x np)) none (st :: sts) hp :: hs) (⟨c, none, ts⟩ :: l)
  | as {x n : Str} {i : Nat} {c : Value} {ts : Addr → Value → Option Addr → TS} {st : Stmt} {sts : List Stmt} {np hp : Pos} {hs : List ExceptHandler} {l : List Cl} (hi : X.N[i]? = some n) (hl : X.env.kindOf n = some .local) (hc : Names X x c)
      (ok : SuiteOk X (st :: sts) ts) (r : ClsOk X hs l) : ClsOk X (.ExceptHandler (some (.Name x np)) (some n) (st :: sts) hp :: hs) (⟨c, some i, ts⟩ :: l)

section
variable {X : Cx}
/-- what stands when an error has landed in this frame -/
structure Down (X : Cx) (B : Heap) (pins : List (Addr × Obj)) (σ : L2.St) (H : Hp) (a : Addr) (cls : Value) (d : Option Addr) (sI s : Shared) : Prop where
  inv : Inv X pins σ H sI
  nb : ∀ b o, sI.heap.get? b = some o → b ∉ frs X.stack → B.get? b = some o
  os : s.os = sI.os
  ag : AllBare s.gens
  free : H a = none
  up : sI.heap.UpToSlots s.heap
  fly : HandSPX.FlyingZ B (X.env :: X.outer) a (Zc cls d) s.heap
theorem Down.goes {B : Heap} {pins : List (Addr × Obj)} {σ : L2.St} {H : Hp} {a : Addr} {cls : Value} {d : Option Addr} {sI s : Shared} (W : Down X B pins σ H a cls d sI s) : Inv X pins σ H s :=
  Inv.landed W.inv W.nb W.fly.1 W.up W.os W.ag
theorem Down.more {B : Heap} {pins : List (Addr × Obj)} {σ : L2.St} {H : Hp} {a : Addr} {cls : Value} {d : Option Addr} {sI s : Shared} {h : Heap} (W : Down X B pins σ H a cls d sI s)
    (fl : HandSPX.FlyingZ B (X.env :: X.outer) a (Zc cls d) h) (u : s.heap.UpToSlots h) : Down X B pins σ H a cls d sI { s with heap := h } :=
  ⟨W.inv, W.nb, W.os, W.ag, W.free, Heap.UpToSlots.trans W.up u, fl⟩
/-- the error's own object: none of the frames -/
theorem Down.off {B : Heap} {pins : List (Addr × Obj)} {σ : L2.St} {H : Hp} {a : Addr} {cls : Value} {d : Option Addr} {sI s : Shared} (W : Down X B pins σ H a cls d sI s) (hf : X.env.frame = some X.env.locals) :
    a ≠ X.env.locals ∧ a ∉ X.fs := by
  obtain ⟨oe, vs, he, _, hd⟩ := W.fly.there
  have no : a ∉ frs (X.env :: X.outer) := fun hm => by
    obtain ⟨_, o, e, nf⟩ := Heap.FunFrames.mem W.fly.2.2.1 hm
    rw [he] at e
    cases e
    exact nf vs hd
  constructor
  · intro z
    exact no (List.mem_filterMap.mpr ⟨X.env, List.mem_cons_self, hf.trans (congrArg some z.symm)⟩)
  · intro hm
    obtain ⟨e, he, q⟩ := List.mem_filterMap.mp hm
    exact no (List.mem_filterMap.mpr ⟨e, List.mem_cons_of_mem X.env he, q⟩)
/-- in the suite -/
theorem Down.suite {B : Heap} {pins : List (Addr × Obj)} {σ : L2.St} {H : Hp} {a : Addr} {cls : Value} {d : Option Addr} {sI s : Shared} (W : Down X B pins σ H a cls d sI s) (hf : X.env.frame = some X.env.locals) :
    ∃ oe : Obj, s.heap.get? a = some oe ∧ Zc cls d oe ∧ (∃ vs, oe.data = .fields vs) ∧ Inv (X.suite a ((a, oe) :: (X.pn ++ pins))) [] σ H s := by
  obtain ⟨oe, vs, he, hz, hd⟩ := W.fly.there
  obtain ⟨n1, n2⟩ := W.off hf
  exact ⟨oe, he, hz, ⟨vs, hd⟩, Inv.suite W.goes he hd W.free n1 n2⟩

/-- the class of a clause is looked up, and asked -/
theorem Down.asks {B : Heap} {pins : List (Addr × Obj)} {σ : L2.St} {H : Hp} {a : Addr} {cls c : Value} {d : Option Addr} {sI s : Shared} {x : Str} {np : Pos} {b : Bool} {E : Value → Shared → Prop} {Q : Bool → Shared → Prop}
    (W : Down X B pins σ H a cls d sI s) (hf : X.env.frame = some X.env.locals) (hc : Names X x c) (hb : PySem.W.exmOne X.K cls c = some b) (q : Q b s) :
    wpAny (model X.prog X.w) (X.A.mark (some (.ref a))) (eval (.Name x np) X.env) (fun v s' => v = c ∧ s' = s) E s := by
  obtain ⟨oe, he, hz, _, S⟩ := W.suite hf
  obtain ⟨hg, hdbg, hm⟩ := hc
  rcases hm with hm | ⟨hm, hv, hn⟩
  · exact ld_glob (X := X.suite a ((a, oe) :: (X.pn ++ pins))) S hg hm ⟨rfl, rfl⟩ hdbg
  · exact ld_blt (X := X.suite a ((a, oe) :: (X.pn ++ pins))) S hg hm hv ⟨rfl, rfl⟩ hn hdbg

/-- the clauses, one after the other -/
theorem Down.clauses {B : Heap} {pins : List (Addr × Obj)} {σ : L2.St} {H : Hp} {a : Addr} {cls : Value} {d : Option Addr} {sI : Shared} {Wo : WX} {D : Ends} (hs : X.stack = X.env :: X.outer) (hf : X.env.frame = some X.env.locals) (hN : X.N.Nodup) (tk : Takes X Wo) :
    ∀ {hds : List ExceptHandler} {l : List Cl}, ClsOk X hds l → ∀ {s : Shared}, Down X B pins σ H a cls d sI s → wCls X.K Wo D l cls d σ H → wpAny (model X.prog X.w) X.A (handleBy (.ref a) X.env hds) (SP X pins D) X.xe s := by
  intro hds l hk
  induction hk with
  | nil =>
    intro s W wish
    refine wpAny_handleBy_nil ?_
    obtain ⟨_, _, _, oe, vs, T, oT, ts, he, hz, hd, h1, hr⟩ := id W.fly
    have nT : ¬ ((Value.ref T == Value.none) = true) := by simp
    unfold PySem.passOn
    refine wpAny_bind (wpAny_field he hd h1 ?_)
    rw [if_neg nT]
    have out : wpAny (model X.prog X.w) X.A (setFlight (.ref a) X.env.frame) (fun _ s4 => wpAny (model X.prog X.w) X.A (throw (.ref a) : Sem Flow) (SP X pins D) X.xe s4) X.xe s := by
      rw [hf]
      refine HandSPX.setFlight_upZ W.fly ?_
      intro h4 hh4 up4
      refine wpAny_throw (tk (.ref a) _ ⟨a, B, sI, pins, σ, H, cls, d, rfl, W.inv, W.nb, W.up.trans up4, ?_, W.free, W.os, W.ag, wish⟩)
      rw [hs]
      exact Or.inr (Or.inr hh4)
    first
      | exact wpAny_bind (wpAny_pure (wpAny_bind out))
      | exact wpAny_bind out
  | @anon x c ts st sts np hp hs' l' hc ok r ih =>
    intro s W wish
    obtain ⟨b, hb, yes, no⟩ := wish
    refine wpAny_handleBy_cons (codeAny_handlers_test ?_) (fun q => nomatch q)
    refine wpAny_mono (W.asks (E := fun _ _ => False) (Q := fun _ _ => True) hf hc hb True.intro) ?_ (fun _ _ z => z.elim)
    rintro v s' ⟨rfl, rfl⟩
    obtain ⟨oe, he, hz, hd, S⟩ := W.suite hf
    have LT : PySem.W.Looks (model X.prog X.w) s'.heap (typeOf (.ref a)) cls := fun A Q E s2 k q => wpAny_typeOf_ref (k a oe he) (by rw [hz.1]; exact q)
    refine (PySem.W.exm_one (M := model X.prog X.w) S.kIn LT hb).here ?_
    cases b with
    | false => exact ih W (no rfl)
    | true =>
      refine codeAny_handlers_suite (HandSPX.lands_againZ W.fly ?_)
      intro h4 fl4 up4
      obtain ⟨oe4, he4, hz4, hd4, S4⟩ := (W.more fl4 up4).suite hf
      refine wpAny_mono (PSs.run (ok a oe4 cls d (X.pn ++ pins) hz4 hd4) [] _ σ H D S4 (yes rfl a W.free)) ?_ (fun _ _ z => z.elim)
      intro fl s6 hsp
      have ok0 := W.inv.ok
      cases fl with
      | ret u =>
        obtain ⟨v6, σ6, H6, S6, r6, q6⟩ := hsp
        exact ⟨v6, σ6, H6, Inv.unsuite S6 ok0, r6, q6⟩
      | next =>
        obtain ⟨σ6, H6, S6, q6⟩ := hsp
        exact ⟨σ6, H6, Inv.unsuite S6 ok0, q6⟩
      | brk =>
        obtain ⟨σ6, H6, S6, q6⟩ := hsp
        exact ⟨σ6, H6, Inv.unsuite S6 ok0, q6⟩
      | cont =>
        obtain ⟨σ6, H6, S6, q6⟩ := hsp
        exact ⟨σ6, H6, Inv.unsuite S6 ok0, q6⟩
  | @as x n i c ts st sts np hp hs' l' hi hl hc ok r ih =>
    intro s W wish
    obtain ⟨b, hb, yes, no⟩ := wish
    refine wpAny_handleBy_cons (codeAny_handlers_test ?_) (fun q => nomatch q)
    refine wpAny_mono (W.asks (E := fun _ _ => False) (Q := fun _ _ => True) hf hc hb True.intro) ?_ (fun _ _ z => z.elim)
    rintro v s' ⟨rfl, rfl⟩
    obtain ⟨oe, he, hz, hd, S⟩ := W.suite hf
    have LT : PySem.W.Looks (model X.prog X.w) s'.heap (typeOf (.ref a)) cls := fun A Q E s2 k q => wpAny_typeOf_ref (k a oe he) (by rw [hz.1]; exact q)
    refine (PySem.W.exm_one (M := model X.prog X.w) S.kIn LT hb).here ?_
    cases b with
    | false => exact ih W (no rfl)
    | true =>
      refine codeAny_handlers_suite_as (HandSPX.lands_againZ W.fly ?_)
      intro h4 fl4 up4
      obtain ⟨oe4, he4, hz4, hd4, S4⟩ := (W.more fl4 up4).suite hf
      have ok0 := W.inv.ok
      refine store_ok (X := X.suite a ((a, oe4) :: (X.pn ++ pins))) (v := .ref a) S4 hN hi (Or.inl hl) rfl ?_ (Or.inr hl)
      intro s5 S5
      refine wpAny_mono (PSs.run (ok a oe4 cls d (X.pn ++ pins) hz4 hd4) [] s5 _ H _ S5 (yes rfl a W.free)) ?_ (fun _ _ z => z.elim)
      intro fl s6 hsp
      have gone : ∀ {τ : L2.St} {J : Hp} {Q : Shared → Prop}, Inv (X.suite a ((a, oe4) :: (X.pn ++ pins))) [] τ J s6 → (∀ s7, Inv X pins (τ.set i none) J s7 → Q s7) →
          wpAny (model X.prog X.w) X.A (do bindName X.env n .none; unbindBehindTheSuite X.env n hp) (fun _ s7 => Q s7) X.xe s6 := by
        intro τ J Q S6 hq
        exact gone_ok (Inv.unsuite S6 ok0) hN hi hl hq
      cases fl with
      | ret u =>
        obtain ⟨v6, σ6, H6, S6, r6, q6⟩ := hsp
        exact gone S6 (fun s7 J7 => ⟨v6, _, H6, J7, r6, q6⟩)
      | next =>
        obtain ⟨σ6, H6, S6, q6⟩ := hsp
        exact gone S6 (fun s7 J7 => ⟨_, H6, J7, q6⟩)
      | brk =>
        obtain ⟨σ6, H6, S6, q6⟩ := hsp
        exact gone S6 (fun s7 J7 => ⟨_, H6, J7, q6⟩)
      | cont =>
        obtain ⟨σ6, H6, S6, q6⟩ := hsp
        exact gone S6 (fun s7 J7 => ⟨_, H6, J7, q6⟩)

/-- try: body / except ..: .. / except ..: .. -/
theorem ps_tries {body : List Stmt} {h0 : ExceptHandler} {hds : List ExceptHandler} {l : List Cl} {pos : Pos} {tb : WX → TS} {Wo : WX} (hs : X.stack = X.env :: X.outer) (hf : X.env.frame = some X.env.locals) (hN : X.N.Nodup) (tk : Takes X Wo)
    (hb : ∀ (W : WX) (pn : List (Addr × Obj)) (xe : Value → Shared → Prop), Takes (X.tr pn xe) W → PassesOwn (model X.prog X.w) X.A X.env xe → PSs (X.tr pn xe) body (tb W)) (hh : ClsOk X (h0 :: hds) l) :
    PS X (.Try body (h0 :: hds) [] [] pos) (fun D σ H => tb (wCls X.K Wo D l) D σ H) := by
  constructor
  intro pins s σ H D I h
  have ok0 := I.ok
  have fr : X.A.frames = some (X.env :: X.outer) := (Cx.Ok.frames ok0).trans (congrArg some hs)
  refine wpAny_Try_except ?_
  have land : ∀ (u : Value) (s' : Shared), XE (X.tr (X.pn ++ pins) (fun e s₁ => wpAny (model X.prog X.w) X.A (noteFrame e X.env) (fun _ s₂ => wpAny (model X.prog X.w) X.A (setFlight e none) (fun _ s₃ =>
      wpAny (model X.prog X.w) X.A (handleBy e X.env (h0 :: hds)) (SP X pins D) X.xe s₃) X.xe s₂) X.xe s₁)) (wCls X.K Wo D l) u s' →
      wpAny (model X.prog X.w) X.A (noteFrame u X.env) (fun _ s₂ => wpAny (model X.prog X.w) X.A (setFlight u none) (fun _ s₃ => wpAny (model X.prog X.w) X.A (handleBy u X.env (h0 :: hds)) (SP X pins D) X.xe s₃) X.xe s₂) X.xe s' := by
    intro u s' xx
    obtain ⟨a, B, sI, pins', τ, J, cls, d, eu, I', nb, up, sky, na, os, ag, wish⟩ := xx
    subst eu
    have sky2 : Sky B (X.env :: X.outer) a (Zc cls d) X.env.locals s'.heap := hs ▸ sky
    refine Sky.land Zc.steady fr hf sky2 ?_
    intro h3 fl3 up3
    exact Down.clauses hs hf hN tk hh ⟨Inv.ofTry I' ok0, nb, os, ag, na, up.trans up3, fl3⟩ wish
  refine wpAny_mono (PSs.run (hb (wCls X.K Wo D l) (X.pn ++ pins) _ land PassesOwn.looking) [] s σ H D (Inv.toTry I _) h) ?_ (fun e s1 he => he)
  intro fl s1 hsp
  cases fl with
  | ret u =>
    obtain ⟨v, τ, J, I', r, q⟩ := hsp
    exact ⟨v, τ, J, Inv.ofTry I' ok0, r, q⟩
  | next =>
    obtain ⟨τ, J, I', q⟩ := hsp
    exact wpAny_execs_nil ⟨τ, J, Inv.ofTry I' ok0, q⟩
  | brk =>
    obtain ⟨τ, J, I', q⟩ := hsp
    exact ⟨τ, J, Inv.ofTry I' ok0, q⟩
  | cont =>
    obtain ⟨τ, J, I', q⟩ := hsp
    exact ⟨τ, J, Inv.ofTry I' ok0, q⟩
end
end Rw

set_option Elab.async false
set_option linter.all false
set_option maxRecDepth 100000
set_option maxHeartbeats 4000000
/-! TkE: own defs by name (Own, OwnG), own errors with one value (Err), data kept over heaps, the kinds of things. -/
namespace Rw
open PySem PySem.Spec PyProof.Rows L2

/-! ### a def by its name -/
/-- x names a def that keeps sp when it is called with all but the values dvs -/
structure Own (P : Program) (w : World) (K : PySem.W.Frag) (mg : Str → Option Value) (base : Heap) (CX : CXT) (k : Nat) (x : Str) (ps : List Str) (dvs : List V) (sp : Sp) : Prop where
  has : ∃ (f : Addr) (fd : FuncData) (ds : List Value), mg x = some (.ref f) ∧ PySem.W.keepIn K (.ref f) = true ∧ FnOk P w K mg base CX k f fd ps sp ∧ Binds K fd ps ds ∧ Vals dvs ds
structure OwnG (P : Program) (w : World) (K : PySem.W.Frag) (mg : Str → Option Value) (base : Heap) (CX : CXT) (k : Nat) (x : Str) (ps : List Str) (dvs : List V) (sp : Sp) : Prop where
  has : ∃ (f : Addr) (fd : FuncData) (ds : List Value), mg x = some (.ref f) ∧ PySem.W.keepIn K (.ref f) = true ∧ FnG P w K mg base CX k f fd ps sp ∧ Binds K fd ps ds ∧ Vals dvs ds
/-- where a def of the text stands behind the top -/
structure Df (K : PySem.W.Frag) (mg : Str → Option Value) (x : Str) (st : Stmt) (ps : List Str) : Prop where
  has : ∃ (f : Addr) (fd : FuncData), mg x = some (.ref f) ∧ Fun K x x st f fd ∧ Binds K fd ps []
section
variable {P : Program} {w : World} {K : PySem.W.Frag} {mg : Str → Option Value} {base : Heap} {CX : CXT} {k : Nat} {x : Str} {ps : List Str} {dvs : List V} {sp : Sp} {st : Stmt}
theorem Df.own (D : Df K mg x st ps) (h : ∀ (f : Addr) (fd : FuncData), Fun K x x st f fd → FnOk P w K mg base CX k f fd ps sp) : Own P w K mg base CX k x ps [] sp := by
  obtain ⟨f, fd, g, F, b⟩ := D.has
  exact ⟨f, fd, [], g, F.kp, h f fd F, b, .nil⟩
theorem Df.ownG (D : Df K mg x st ps) (h : ∀ (f : Addr) (fd : FuncData), Fun K x x st f fd → FnG P w K mg base CX k f fd ps sp) : OwnG P w K mg base CX k x ps [] sp := by
  obtain ⟨f, fd, g, F, b⟩ := D.has
  exact ⟨f, fd, [], g, F.kp, h f fd F, b, .nil⟩
end
section
variable {X : Cx} {CX : CXT} {k : Nat} {ps : List Str} {sp : Sp} {dvs : List V} {E : XK} {x : Str} {p pos : Pos} {e : Expr} {es : List Expr} {t : TA}
theorem pe_own (F : Own X.prog X.w X.K X.mg X.base CX k x ps dvs sp) (hr : Room k X.A) (hx : Passes CX X E) (ha : PA X (e :: es) t) (hg : Gl X x := by rfl) (hdb : (x == ("__debug__" : Str)) = false := by decide)
    (he : starEach (e :: es) X.env = (false, eval e X.env) :: starEach es X.env := by rfl) (hpl : (backTo pos (starEach es X.env)).any (·.1) = false := by rfl) : PE X (.Call (.Name x p) (e :: es) [] pos) (tCall sp dvs E t) := by
  obtain ⟨f, fd, ds, hm, hk, G, b, v⟩ := F.has
  exact pe_call G hr hg hm hk b v hx ha hdb he hpl
theorem pe_ownG (F : OwnG X.prog X.w X.K X.mg X.base CX k x ps dvs sp) (gu : X.A.guards = some []) (hr : Room k X.A) (hx : Passes CX X E) (ha : PA X (e :: es) t) (hg : Gl X x := by rfl) (hdb : (x == ("__debug__" : Str)) = false := by decide)
    (he : starEach (e :: es) X.env = (false, eval e X.env) :: starEach es X.env := by rfl) (hpl : (backTo pos (starEach es X.env)).any (·.1) = false := by rfl) : PE X (.Call (.Name x p) (e :: es) [] pos) (tCall sp dvs E t) := by
  obtain ⟨f, fd, ds, hm, hk, G, b, v⟩ := F.has
  exact pe_callG G gu hr hg hm hk b v hx ha hdb he hpl
/-- such a call in a try's body: what is raised is wished for at the slots -/
def tOwnS (sp : Sp) (dvs : List V) (W : WX) (t : TA) : TE := fun σ H Q => t σ H fun vs H1 => sp (vs ++ dvs) H1 Q (fun cls d H' => W cls d σ H')
theorem pe_ownS {W : WX} (F : Own X.prog X.w X.K X.mg X.base CX k x ps dvs sp) (hr : Room k X.A) (hx : ∀ σ, PassesAt CX X σ (fun cls d H' => W cls d σ H')) (ha : PA X (e :: es) t) (hg : Gl X x := by rfl) (hdb : (x == ("__debug__" : Str)) = false := by decide)
    (he : starEach (e :: es) X.env = (false, eval e X.env) :: starEach es X.env := by rfl) (hpl : (backTo pos (starEach es X.env)).any (·.1) = false := by rfl) : PE X (.Call (.Name x p) (e :: es) [] pos) (tOwnS sp dvs W t) := by
  obtain ⟨f, fd, ds, hm, hk, G, b, v⟩ := F.has
  constructor
  intro pins s σ H Q I h
  refine wpAny_Call_Name_kw (ld_glob I hg hm ?_ hdb)
  refine PySem.W.callWith_K (h₀ := X.base) I.ok.mod.kin hk ?_ he hpl
  refine thn (PA.run ha pos pins s σ H _ I h) ?_
  intro us s1 hh
  obtain ⟨vs, H1, I1, r, q⟩ := hh
  refine ⟨I1.kIn, ?_⟩
  have r2 : Vals (vs ++ dvs) (us ++ ds) := Vals.append r v
  have cnt : (us ++ ds).length = ps.length := (r2.length).symm.trans (G.len _ _ _ _ q)
  refine wpAny_call (codeAny_mono (G.run X.A X.stack s1 H1 ⟨us, []⟩ (us ++ ds) (vs ++ dvs) Q _ hr I1.env0 (b s1 us I1.kIn cnt) r2 q) ?_)
  intro res s2 hq
  cases res with
  | error er => exact hx σ pins H1 s1 er s2 I1 hq
  | ok fl =>
    cases fl with
    | ret u => exact Inv.after I1 hq
    | next => exact hq.elim
    | brk => exact hq.elim
    | cont => exact hq.elim
end

/-! ### own errors: a class with __init__(self, value): self.value = value -/
/-- x names such a class, at C -/
structure Err (K : PySem.W.Frag) (mg : Str → Option Value) (x : Str) (C : Addr) : Prop where
  g : mg x = some (.ref C)
  ox : OexC K C
  xf : XfC K C
  no : PySem.W.findIn K (.ref C) "value" = some none
  ini : ∃ (f : Addr) (q : Str) (st : Stmt) (fd : FuncData), PySem.W.findIn K (.ref C) "__init__" = some (some (.ref f)) ∧ PySem.W.typeIn K (.ref f) = some (.type "function") ∧ Fun K "__init__" q st f fd ∧ Binds K fd ["self", "value"] [] ∧
    FnScope ["self", "value"] ["self", "value"] (defScope st) ∧
    (∀ X : Cx, X.N = (["self", "value"] : List Str) → X.env.scope = defScope st → ∃ t : TS, PSs X (defBody st) t ∧ (∀ D σ H, tOst X.K "value" (tVar 0) (tVar 1) D σ H → t D σ H))
/-- an error of the class at C with the value v is let out, all else as it was -/
def Thrown (C : Addr) (v : V) (H : Hp) (E : XK) : Prop := ∀ (d : Addr) (H' : Hp), Same H H' → H d = none → H' d = some (.xd [(("value" : Str), v)]) → E (.ref C) (some d) H'
def spIni (K : PySem.W.Frag) (C : Addr) : Sp := fun vs H Q _ => ∃ (a : Addr) (v : V), vs = [.ref a, v] ∧ H a = some (exo a C none) ∧ ∀ dx, H dx = none → dx ≠ a → Q .non (upd (upd H dx (exd dx [(("value" : Str), v)])) a (exo a C (some dx)))
section
variable {P : Program} {w : World} {K : PySem.W.Frag} {mg : Str → Option Value} {base : Heap}
theorem Err.init {x : Str} {C : Addr} (T : Err K mg x C) : ∃ (f : Addr) (fd : FuncData), PySem.W.findIn K (.ref C) "__init__" = some (some (.ref f)) ∧ PySem.W.typeIn K (.ref f) = some (.type "function") ∧ Binds K fd ["self", "value"] [] ∧
    FnOk P w K mg base CX0 1 f fd ["self", "value"] (spIni K C) := by
  obtain ⟨f, q, st, fd, h1, h2, F, b, S, dv⟩ := T.ini
  refine ⟨f, fd, h1, h2, b, F.ok S (fun vs H Q E h => ?_) (fun cdv A outer s H vs Q E hr h => ?_)⟩
  · obtain ⟨a, v, e, _⟩ := h
    rw [e]
    rfl
  · obtain ⟨a, v, e, ea, k⟩ := h
    subst e
    obtain ⟨t, d, go⟩ := dv (cxOf CX0 P w K mg base ["self", "value"] q (defScope st) f cdv A outer s H E).nox rfl rfl
    refine ⟨t, d, go _ _ _ ?_⟩
    exact ⟨v, rfl, .ref a, rfl, a, C, rfl, T.ox, T.no, Or.inl ⟨ea, k⟩⟩
end
section
variable {X : Cx} {x : Str} {C : Addr} {e : Expr} {te : TE} {p pos pos2 : Pos} {W : WX}
/-- raise x(e) -/
def tThrow (K : PySem.W.Frag) (C : Addr) (W : WX) (te : TE) : TS := fun _ σ H => tMkO C (spIni K C) [] (tCons te tNil) σ H fun cls d H' => W cls d σ H'
theorem ps_throw (T : Err X.K X.mg x C) (hc : X.calm = true) (hr : Room 2 X.A) (tk : Takes X W) (he : PE X e te) (hg : Gl X x := by rfl) (hdb : (x == ("__debug__" : Str)) = false := by decide)
    (hs : starEach (e :: []) X.env = (false, eval e X.env) :: starEach [] X.env := by rfl) (hpl : (backTo pos (starEach [] X.env)).any (·.1) = false := by rfl) :
    PS X (.Raise (some (.Call (.Name x p) [e] [] pos)) none pos2) (tThrow X.K C W te) := by
  obtain ⟨f, fd, h1, h2, b, F⟩ := T.init (P := X.prog) (w := X.w) (base := X.base)
  exact ps_raise (pos := pos2) hc tk (pmk_oex (x := x) (p := p) (pos := pos) (dvs := []) (ds := []) T.ox h1 h2 F hr b .nil pass0 hg T.g (pa_cons he pa_nil hs) hdb hs hpl)
/-- what the reading of a raise asks, from Thrown -/
theorem thrown_go {K : PySem.W.Frag} {H : Hp} {E : XK} {v : V} (h : Thrown C v H E) : [v].length ≤ 1000 ∧ ∀ a, H a = none → spIni K C (.ref a :: ([v] ++ [])) (upd H a (exo a C none))
    (fun u H2 => u = .non ∧ ∃ (d : Addr) (fs : List (Str × V)), H2 a = some (exo a C (some d)) ∧ H2 d = some (exd d fs) ∧ H d = none ∧ E (.ref C) (some d) (upd (del H2 a) d (.xd fs))) (fun _ _ _ => False) := by
  refine ⟨by show 1 ≤ 1000; decide, fun a ha => ⟨a, v, rfl, upd_same, fun dx hd ne => ⟨rfl, dx, _, upd_same, by rw [upd_ne ne, upd_same], ?_, ?_⟩⟩⟩
  · rw [upd_ne ne] at hd
    exact hd
  · rw [upd_ne ne] at hd
    refine h dx _ (fun b o e => ?_) hd upd_same
    rw [upd_ne (ne_of_none e hd), del_ne (ne_of_none e ha), upd_ne (ne_of_none e ha), upd_ne (ne_of_none e hd), upd_ne (ne_of_none e ha)]
    exact e
end
end Rw

set_option Elab.async false
set_option linter.all false
set_option maxRecDepth 100000
set_option maxHeartbeats 4000000
/-! TkF: the kinds of data, what data is kept over heaps, numbers among the primes. -/
namespace Rw
open PySem PySem.Spec PyProof.Rows L2

/-! ### kinds -/
def kindS : PyData → String
  | .none => "NoneType" | .bool _ => "bool" | .int _ => "int" | .str _ => "str" | .list _ => "list" | .tuple _ => "tuple" | .dict _ => "dict"
def intish : PyData → Bool
  | .int _ => true | .bool _ => true | _ => false
def boolish : PyData → Bool
  | .bool _ => true | _ => false
def isIntD : PyData → Bool
  | .int _ => true | _ => false
section
variable {K : PySem.W.Frag} {H H' : Hp} {v : V} {d : PyData}
theorem any_ty (h : Any H v d) : TyX K H v (.type (kindS d)) := by
  cases h with
  | non => exact .base .non
  | bl b => exact .base (.bl b)
  | int i => exact .base (.int i)
  | str x => exact .base (.str x)
  | lst e _ => exact .base (.lst e)
  | tup e _ => exact .base (.tup e)
  | dct e _ => exact .base (.dK e)
theorem kit_int (d : PyData) : PySem.W.kitOne K (.type (kindS d)) (.type "int") = some (intish d) := by
  cases d with
  | none => exact kit_ty (show kitB "NoneType" "int" = some false by decide +kernel)
  | bool b => exact kit_ty (show kitB "bool" "int" = some true by decide +kernel)
  | int i => exact kit_ty (show kitB "int" "int" = some true by decide +kernel)
  | str x => exact kit_ty (show kitB "str" "int" = some false by decide +kernel)
  | list xs => exact kit_ty (show kitB "list" "int" = some false by decide +kernel)
  | tuple xs => exact kit_ty (show kitB "tuple" "int" = some false by decide +kernel)
  | dict kvs => exact kit_ty (show kitB "dict" "int" = some false by decide +kernel)
theorem kit_bool (d : PyData) : PySem.W.kitOne K (.type (kindS d)) (.type "bool") = some (boolish d) := by
  cases d with
  | none => exact kit_ty (show kitB "NoneType" "bool" = some false by decide +kernel)
  | bool b => exact kit_ty (show kitB "bool" "bool" = some true by decide +kernel)
  | int i => exact kit_ty (show kitB "int" "bool" = some false by decide +kernel)
  | str x => exact kit_ty (show kitB "str" "bool" = some false by decide +kernel)
  | list xs => exact kit_ty (show kitB "list" "bool" = some false by decide +kernel)
  | tuple xs => exact kit_ty (show kitB "tuple" "bool" = some false by decide +kernel)
  | dict kvs => exact kit_ty (show kitB "dict" "bool" = some false by decide +kernel)
theorem int_of (h : Any H v d) (e : isIntD d = true) : ∃ n, d = .int n ∧ v = .int n := by
  cases h with
  | int i => exact ⟨i, rfl, rfl⟩
  | _ => cases e
mutual
theorem any_keep (k : Same H H') : ∀ (d : PyData) (v : V), Any H v d → Any H' v d
  | .none, _, h => by
    cases h
    exact .non
  | .bool b, _, h => by
    cases h
    exact .bl b
  | .int i, _, h => by
    cases h
    exact .int i
  | .str x, _, h => by
    cases h
    exact .str x
  | .list ds, _, h => by
    cases h with
    | lst e a => exact .lst (k _ _ e) (any_keepL k ds _ a)
  | .tuple ds, _, h => by
    cases h with
    | tup e a => exact .tup (k _ _ e) (any_keepL k ds _ a)
  | .dict ds, _, h => by
    cases h with
    | dct e a => exact .dct (k _ _ e) (any_keepK k ds _ a)
theorem any_keepL (k : Same H H') : ∀ (ds : List PyData) (vs : List V), AnyL H vs ds → AnyL H' vs ds
  | [], _, h => by
    cases h
    exact .nil
  | d :: ds, _, h => by
    cases h with
    | cons a b => exact .cons (any_keep k d _ a) (any_keepL k ds _ b)
theorem any_keepK (k : Same H H') : ∀ (ds : List (PyData × PyData)) (vs : List (Key × V)), AnyK H vs ds → AnyK H' vs ds
  | [], _, h => by
    cases h
    exact .nil
  | (_, d) :: ds, _, h => by
    cases h with
    | cons a b => exact .cons (any_keep k d _ a) (any_keepK k ds _ b)
end
theorem Any.keep (h : Any H v d) (k : Same H H') : Any H' v d := any_keep k d v h
end

/-! ### all but one object -/
/-- what was tracked but at p is as it was -/
def Grow (p : Addr) (H H' : Hp) : Prop := ∀ b o, b ≠ p → H b = some o → H' b = some o
theorem Grow.refl {p : Addr} {H : Hp} : Grow p H H := fun _ _ _ e => e
theorem Grow.trans {p : Addr} {H H1 H2 : Hp} (a : Grow p H H1) (b : Grow p H1 H2) : Grow p H H2 := fun c o n e => b c o n (a c o n e)
theorem Grow.of {p : Addr} {H H' : Hp} (a : Same H H') : Grow p H H' := fun c o _ e => a c o e
theorem Grow.put {p : Addr} {H : Hp} {o : HO} : Grow p H (upd H p o) := fun c u n e => by
  rw [upd_ne n]
  exact e
theorem Grow.del {p : Addr} {H H' : Hp} (a : Grow p H H') : Same (del H p) (del H' p) := fun c o e => by
  by_cases z : c = p
  · rw [z, del_same] at e
    cases e
  · rw [del_ne z] at e
    rw [del_ne z]
    exact a c o z e
theorem same_del {p : Addr} {H : Hp} : Same (del H p) H := fun c o e => by
  by_cases z : c = p
  · rw [z, del_same] at e
    cases e
  · rw [del_ne z] at e
    exact e
theorem same_new {p : Addr} {H : Hp} {o : HO} (h : H p = none) : Same H (upd H p o) := fun c u e => by
  rw [upd_ne (ne_of_none e h)]
  exact e
theorem del_new {p q : Addr} {H : Hp} {o : HO} (h : H q = none) : Same (del H p) (del (upd H q o) p) := Grow.del (Grow.of (same_new h))
theorem ne_new {H : Hp} {p q : Addr} {o : HO} (hp : H p = some o) (h : H q = none) : q ≠ p := (ne_of_none hp h).symm

/-! ### the primes -/
def primesL : List Int := [2, 3, 5, 7, 11, 13]
def isPr : PyData → Bool
  | .int n => decide (n ∈ primesL)
  | _ => false
theorem inV_ints (n : Int) : ∀ l : List Int, inV (.int n) (l.map V.int) = decide (n ∈ l)
  | [] => rfl
  | a :: l => by
    show (eqV (.int a) (.int n) || inV (.int n) (l.map V.int)) = _
    rw [inV_ints n l]
    show ((a == n) || decide (n ∈ l)) = _
    by_cases h : a = n
    · subst h
      simp
    · have h2 : ¬ n = a := fun z => h z.symm
      simp [h, h2]
theorem flat_ints : ∀ l : List Int, (l.map V.int).all flatV = true
  | [] => rfl
  | a :: l => by
    show (true && (l.map V.int).all flatV) = true
    rw [flat_ints l] <;> rfl
theorem prime_cases {p : Int} (h : p ∈ primesL) : p = 2 ∨ p = 3 ∨ p = 5 ∨ p = 7 ∨ p = 11 ∨ p = 13 := by
  simpa [primesL] using h
theorem prime_pos {p : Int} (h : p ∈ primesL) : 2 ≤ p ∧ p ≤ 13 := by
  rcases prime_cases h with e | e | e | e | e | e <;> omega
/-- a number that is no multiple of the prime has an inverse -/
theorem has_inverse {p n : Int} (h : p ∈ primesL) (hn : n % p ≠ 0) : ∃ j : Nat, ((j : Int) + 1) < p ∧ ((1 + (j : Int)) * n) % p = 1 := by
  have key : ∀ (p : Int) (r : Int), p ∈ primesL → 0 ≤ r → r < p → r ≠ 0 → ∃ j : Nat, ((j : Int) + 1) < p ∧ ((1 + (j : Int)) * r) % p = 1 := by
    intro p r hp h0 h1 h2
    have c : ∀ p ∈ [2, 3, 5, 7, 11, 13], ∀ r ∈ List.range p, r ≠ 0 → ∃ j ∈ List.range 12, j + 1 < p ∧ ((1 + j) * r) % p = 1 := by decide +kernel
    obtain ⟨j, _, a, b⟩ := c p.toNat (by rcases prime_cases hp with e | e | e | e | e | e <;> subst e <;> decide) r.toNat (List.mem_range.mpr (by omega)) (by omega)
    refine ⟨j, by omega, ?_⟩
    have e1 : ((p.toNat : Nat) : Int) = p := Int.toNat_of_nonneg (by omega)
    have e2 : ((r.toNat : Nat) : Int) = r := Int.toNat_of_nonneg h0
    have b2 : ((((1 + j) * r.toNat % p.toNat : Nat)) : Int) = ((1 : Nat) : Int) := by rw [b]
    rw [Int.natCast_emod, Int.natCast_mul, e1, e2, Int.natCast_add] at b2
    exact b2
  have hp := prime_pos h
  obtain ⟨j, a, b⟩ := key p (n % p) h (Int.emod_nonneg n (by omega)) (Int.emod_lt_of_pos n (by omega)) hn
  refine ⟨j, a, ?_⟩
  rw [Int.mul_emod, Int.emod_emod_of_dvd n (Int.dvd_refl p), ← Int.mul_emod] at b
  exact b
theorem fmod_pos {a b : Int} (h : 0 < b) : a.fmod b = a % b := Int.fmod_eq_emod_of_nonneg a (by omega)
end Rw

set_option Elab.async false
set_option linter.all false
set_option maxRecDepth 100000
set_option maxHeartbeats 4000000
/-! TkG: what stands behind the top, as facts that the kernel is asked. -/
namespace Rw
open PySem PySem.Spec PyProof.Rows L2
/-- a def of the text stands at f under the name x -/
def DefAt (K : PySem.W.Frag) (x qual : Str) (st : Stmt) (f : Addr) : Prop :=
  ∃ (oc : Value) (od : Option Addr) (kV dc pm : Value) (an : Option Addr) (cd ct : Value) (sl : Array (Option Value)), K.lookup f = some ⟨oc, od, .func (PySem.W.fnOf x qual (defArgs st) (defBody st) (defScope st) .none kV dc pm an cd ct), sl⟩ ∧
    PySem.W.codeIn K cd qual = true ∧ PySem.W.keepIn K (.ref f) = true
def DefHere (K : PySem.W.Frag) (x : Str) (st : Stmt) : Prop := ∃ f : Addr, PySem.W.nsIn K mainGlobals x = some (some (.ref f)) ∧ DefAt K x x st f
/-- a def with defaults -/
def DflHere (K : PySem.W.Frag) (x : Str) (st : Stmt) (ds : List Value) : Prop :=
  ∃ (f T : Addr) (oc : Value) (od : Option Addr) (kV dc pm : Value) (an : Option Addr) (cd ct : Value) (sl : Array (Option Value)) (tc : Value) (td : Option Addr) (n : Nat) (ts : Array (Option Value)), PySem.W.nsIn K mainGlobals x = some (some (.ref f)) ∧
    K.lookup f = some ⟨oc, od, .func (PySem.W.fnOf x x (defArgs st) (defBody st) (defScope st) (.ref T) kV dc pm an cd ct), sl⟩ ∧ PySem.W.codeIn K cd x = true ∧ PySem.W.keepIn K (.ref f) = true ∧
    K.lookup T = some ⟨tc, td, .seq ds.toArray n, ts⟩
/-- an own error class x below the class at R, its __init__ is st -/
def ErrHere (K : PySem.W.Frag) (x q : Str) (st : Stmt) (R C : Addr) : Prop :=
  ∃ (f N : Addr) (nm qn : Str) (bs : List Value) (sn : List Str) (sub : List Value) (ab : Bool) (col : Option Bool) (dd : Option Addr) (m0 m1 m2 m3 m5 : Option Value), PySem.W.nsIn K mainGlobals x = some (some (.ref C)) ∧
    K.lookup C = some (excClassObj nm qn C N bs [.ref R, .type "ValueError", .type "Exception", .type "BaseException", .type "object"] true sn sub ab col dd m0 m1 m2 m3 m5 "ValueError.__new__") ∧
    PySem.W.findIn K (.ref C) "__setattr__" = some (some (.builtin "object.__setattr__")) ∧ PySem.W.findIn K (.ref C) "__getattribute__" = some (some (.builtin "BaseException.__getattribute__")) ∧ PySem.W.findIn K (.ref C) "__getattr__" = some none ∧
    PySem.W.findIn K (.ref C) "value" = some none ∧ PySem.W.findIn K (.ref C) "__init__" = some (some (.ref f)) ∧ PySem.W.typeIn K (.ref f) = some (.type "function") ∧ DefAt K "__init__" q st f ∧
    PySem.W.keepIn K (.ref C) = true ∧ PySem.W.subIn K (.ref C) (.type "BaseException") = some true ∧ PySem.W.typeIn K (.ref C) = some (.type "type") ∧ PySem.W.hasDictIn K C = true
section
variable {K : PySem.W.Frag} {mg : Str → Option Value} {h : Heap}
theorem DefHere.df {x : Str} {st : Stmt} {ps : List Str} (D : DefHere K x st) (X : K.In h) (G : h.Ns mainGlobals mg)
    (b : ∀ (kV doc pm : Value) (an : Option Addr) (cdv ct : Value) (us : List Value), us.length = ps.length → bindArgs (PySem.W.fnOf x x (defArgs st) (defBody st) (defScope st) .none kV doc pm an cdv ct) ⟨us, []⟩ = pure (ps.zip us)) : Df K mg x st ps := by
  obtain ⟨f, g, oc, od, kV, dc, pm, an, cd, ct, sl, l, c, k⟩ := D
  have F := fun_mk (st := st) l c k
  exact ⟨f, _, PySem.W.mg_of X G g, F, F.binds b⟩
theorem exm_of {A C : Addr} {b : Bool} (h1 : PySem.W.subIn K (.ref C) (.type "BaseException") = some true) (h2 : PySem.W.isClsIn K C = true) (h3 : PySem.W.typeIn K (.ref C) = some (.type "type")) (h4 : PySem.W.subIn K (.ref A) (.ref C) = some b) :
    PySem.W.exmOne K (.ref A) (.ref C) = some b := by
  have e1 : (PySem.W.subIn K (.ref C) (.type "BaseException") == some true) = true := by
    rw [h1] <;> rfl
  have h2' : (PySem.W.clsIn K C).isSome = true := h2
  have e2 : ((PySem.W.clsIn K C).isSome && PySem.W.typeIn K (.ref C) == some (.type "type")) = true := by
    rw [h2', h3] <;> rfl
  unfold PySem.W.exmOne
  rw [if_pos e1]
  show (if ((PySem.W.clsIn K C).isSome && PySem.W.typeIn K (.ref C) == some (.type "type")) = true then PySem.W.subIn K (.ref A) (.ref C) else none) = some b
  rw [if_pos e2]
  exact h4
/-- the body of __init__(self, value): self.value = value -/
def IsIni (st : Stmt) : Prop := ∃ p1 p2 p3 p4 : Pos, defBody st = [.Assign [.Attribute (.Name "self" p1) "value" p2] (.Name "value" p3) p4] ∧ (defScope st).names.lookup ("self" : Str) = some NameKind.local ∧ (defScope st).names.lookup ("value" : Str) = some NameKind.local
theorem ini_walk {st : Stmt} (I : IsIni st) (X : Cx) (hN : X.N = (["self", "value"] : List Str)) (hS : X.env.scope = defScope st) : ∃ t : TS, PSs X (defBody st) t ∧ (∀ D σ H, tOst X.K "value" (tVar 0) (tVar 1) D σ H → t D σ H) := by
  obtain ⟨p1, p2, p3, p4, e, l1, l2⟩ := I
  rw [e]
  refine ⟨_, pss_one (ps_ost (pe_var (i := 0) (by rw [hN]; rfl) (.inl (by rw [hS]; exact l1))) (pe_var (i := 1) (by rw [hN]; rfl) (.inl (by rw [hS]; exact l2)))), fun D σ H z => z⟩
theorem ErrHere.err {x q : Str} {st : Stmt} {R C : Addr} (E : ErrHere K x q st R C) (X : K.In h) (G : h.Ns mainGlobals mg) (S : FnScope ["self", "value"] ["self", "value"] (defScope st)) (I : IsIni st)
    (b : ∀ (kV doc pm : Value) (an : Option Addr) (cdv ct : Value) (us : List Value), us.length = 2 → bindArgs (PySem.W.fnOf "__init__" q (defArgs st) (defBody st) (defScope st) .none kV doc pm an cdv ct) ⟨us, []⟩ = pure ((["self", "value"] : List Str).zip us)) : Err K mg x C := by
  obtain ⟨f, N, nm, qn, bs, sn, sub, ab, col, dd, m0, m1, m2, m3, m5, g, l, sa, ga, gg, no, ini, ty, ⟨oc, od, kV, dc, pm, an, cd, ct, sl, lf, cf, kf⟩, kc, ex, tc, hd⟩ := E
  have F := fun_mk (x := "__init__") (qual := q) (st := st) lf cf kf
  exact {
    g := PySem.W.mg_of X G g
    ox := ⟨⟨nm, qn, N, bs, _, sn, sub, ab, col, dd, m0, m1, m2, m3, m5, l, rfl⟩, sa, ex, tc, kc⟩
    xf := ⟨ga, gg, ex, hd⟩
    no := no
    ini := ⟨f, q, st, _, ini, ty, F, F.binds b, S, ini_walk I⟩ }
/-- a tuple of ints of the text -/
def IntsHere (K : PySem.W.Frag) (x : Str) (a : Addr) (us : List Value) : Prop := ∃ (dd : Option Addr) (n : Nat) (sl : Array (Option Value)), PySem.W.nsIn K mainGlobals x = some (some (.ref a)) ∧ K.lookup a = some ⟨.type "tuple", dd, .seq us.toArray n, sl⟩
theorem IntsHere.sq {x : Str} {a : Addr} {us : List Value} {xs : List V} (E : IntsHere K x a us) (r : Vals xs us) (z : us.length ≤ sizeLine) (H : Hp) : SqT K H a xs := by
  obtain ⟨dd, n, sl, _, l⟩ := E
  exact Or.inr ⟨_, us.toArray, n, l, rfl, rfl, by simpa using z, by simpa using r⟩
/-! the same from its facts, the rest found by the kernel -/
theorem DefHere.of {x : Str} {st : Stmt} {f : Addr} {oc : Value} {od : Option Addr} {kV dc pm : Value} {an : Option Addr} {cd ct : Value} {sl : Array (Option Value)} (g : PySem.W.nsIn K mainGlobals x = some (some (.ref f)))
    (l : K.lookup f = some ⟨oc, od, .func (PySem.W.fnOf x x (defArgs st) (defBody st) (defScope st) .none kV dc pm an cd ct), sl⟩) (c : PySem.W.codeIn K cd x = true) (k : PySem.W.keepIn K (.ref f) = true) : DefHere K x st :=
  ⟨f, g, oc, od, kV, dc, pm, an, cd, ct, sl, l, c, k⟩
theorem DflHere.of {x : Str} {st : Stmt} {ds : List Value} {f T : Addr} {oc : Value} {od : Option Addr} {kV dc pm : Value} {an : Option Addr} {cd ct : Value} {sl : Array (Option Value)} {tc : Value} {td : Option Addr} {n : Nat} {ts : Array (Option Value)}
    (g : PySem.W.nsIn K mainGlobals x = some (some (.ref f))) (l : K.lookup f = some ⟨oc, od, .func (PySem.W.fnOf x x (defArgs st) (defBody st) (defScope st) (.ref T) kV dc pm an cd ct), sl⟩) (c : PySem.W.codeIn K cd x = true) (k : PySem.W.keepIn K (.ref f) = true)
    (t : K.lookup T = some ⟨tc, td, .seq ds.toArray n, ts⟩) : DflHere K x st ds := ⟨f, T, oc, od, kV, dc, pm, an, cd, ct, sl, tc, td, n, ts, g, l, c, k, t⟩
theorem ErrHere.of {x q : Str} {st : Stmt} {R C f N : Addr} {nm qn : Str} {bs : List Value} {sn : List Str} {sub : List Value} {ab : Bool} {col : Option Bool} {dd : Option Addr} {m0 m1 m2 m3 m5 : Option Value}
    {oc : Value} {od : Option Addr} {kV dc pm : Value} {an : Option Addr} {cd ct : Value} {sl : Array (Option Value)} (g : PySem.W.nsIn K mainGlobals x = some (some (.ref C)))
    (xl : K.lookup C = some (excClassObj nm qn C N bs [.ref R, .type "ValueError", .type "Exception", .type "BaseException", .type "object"] true sn sub ab col dd m0 m1 m2 m3 m5 "ValueError.__new__"))
    (sa : PySem.W.findIn K (.ref C) "__setattr__" = some (some (.builtin "object.__setattr__"))) (ga : PySem.W.findIn K (.ref C) "__getattribute__" = some (some (.builtin "BaseException.__getattribute__"))) (gg : PySem.W.findIn K (.ref C) "__getattr__" = some none)
    (no : PySem.W.findIn K (.ref C) "value" = some none) (ini : PySem.W.findIn K (.ref C) "__init__" = some (some (.ref f))) (ty : PySem.W.typeIn K (.ref f) = some (.type "function"))
    (l : K.lookup f = some ⟨oc, od, .func (PySem.W.fnOf "__init__" q (defArgs st) (defBody st) (defScope st) .none kV dc pm an cd ct), sl⟩) (c : PySem.W.codeIn K cd q = true) (k : PySem.W.keepIn K (.ref f) = true)
    (kc : PySem.W.keepIn K (.ref C) = true) (ex : PySem.W.subIn K (.ref C) (.type "BaseException") = some true) (tc : PySem.W.typeIn K (.ref C) = some (.type "type")) (hd : PySem.W.hasDictIn K C = true) : ErrHere K x q st R C :=
  ⟨f, N, nm, qn, bs, sn, sub, ab, col, dd, m0, m1, m2, m3, m5, g, xl, sa, ga, gg, no, ini, ty, ⟨oc, od, kV, dc, pm, an, cd, ct, sl, l, c, k⟩, kc, ex, tc, hd⟩
theorem IntsHere.of {x : Str} {a : Addr} {us : List Value} {dd : Option Addr} {n : Nat} {sl : Array (Option Value)} (g : PySem.W.nsIn K mainGlobals x = some (some (.ref a))) (l : K.lookup a = some ⟨.type "tuple", dd, .seq us.toArray n, sl⟩) : IntsHere K x a us := ⟨dd, n, sl, g, l⟩
end
end Rw

set_option Elab.async false
set_option linter.all false
set_option maxRecDepth 100000
set_option maxHeartbeats 4000000
/-! TkZ: zip of lists and tuples, in any order. -/
namespace Rw
open PySem PySem.Spec PyProof.Rows L2

/-- a list (true) or a tuple (false) -/
def SqB (K : PySem.W.Frag) (H : Hp) : Bool → Addr → List V → Prop
  | true, a, xs => SqL K H a xs
  | false, a, xs => SqT K H a xs
def itB (h : Heap) : Bool → Addr → Addr → Nat → Prop
  | true, it, l, i => h.IsListIter it l i
  | false, it, l, i => h.IsTupleIter it l i
def sqB (h : Heap) : Bool → Addr → Array Value → Prop
  | true, l, xs => h.IsList l xs
  | false, l, xs => h.IsTuple l xs
def nmB : Bool → String
  | true => "list_iterator"
  | false => "tuple_iterator"
section
variable {X : Cx} {pins : List (Addr × Obj)} {σ : L2.St} {H : Hp} {s : Shared} {h h' : Heap} {k : Bool} {a it : Addr} {i : Nat} {xs ys : List V}
theorem sqB_inv (I : Inv X pins σ H s) (q : SqB X.K H k a xs) : ∃ its : List Value, Vals xs its ∧ sqB s.heap k a its.toArray ∧ a < s.heap.objs.size := by
  cases k with
  | true =>
    obtain ⟨its, r, p, _⟩ := I.list q
    exact ⟨its, r, p.isList, p.lt⟩
  | false =>
    obtain ⟨its, r, p, _⟩ := I.tuple q
    obtain ⟨o, ho, _⟩ := id p
    exact ⟨its, r, p, Heap.lt_size ho⟩
theorem sqB_inj (I : Inv X pins σ H s) (q : SqB X.K H k a xs) (q' : SqB X.K H k a ys) : xs = ys := by
  cases k with
  | true => exact I.list_inj q q'
  | false => exact I.tuple_inj q q'
theorem itB_obj (t : itB h k it a i) : ∃ o, h.get? it = some o ∧ ∀ v, o.data ≠ .cell v := by
  cases k with
  | true =>
    obtain ⟨o, e, _, d⟩ := t
    exact ⟨o, e, fun v q => by rw [d] at q; cases q⟩
  | false =>
    obtain ⟨o, e, _, d⟩ := t
    exact ⟨o, e, fun v q => by rw [d] at q; cases q⟩
theorem itB_at (t : itB h k it a i) (e : ∀ o, h.get? it = some o → h'.get? it = some o) : itB h' k it a i := by
  cases k with
  | true => exact Heap.IsListIter.at t e
  | false => exact Heap.IsTupleIter.at t e
theorem drawsB {prog : Program} {w : World} {A : Around} (hh : A.handled = none) (k : Bool) (it l : Addr) (hne : l ≠ it) (items : Array Value) :
    Draws prog w A it [it, l] items.size (fun i v => items[i]? = some v) (fun i h => itB h k it l i ∧ sqB h k l items) := by
  cases k with
  | true => exact Draws.list hh it l hne items
  | false => exact Draws.tuple hh it l hne items
theorem sepB {z TI TO i1 i2 a b : Addr} (D : ZipApart z TI TO i1 i2 a b) : ZipSep2 z TI TO i1 i2 [i1, a] [i2, b] where
  TIz := D.TIz
  TOz := D.TOz
  TITO := D.TITO
  TIi1 := D.TIi1
  mem1 := List.mem_cons_self
  zf1 := by simp; exact ⟨D.i1z.symm, D.l1z.symm⟩
  Tf1 := by simp; exact ⟨D.TOi1, D.l1TO.symm⟩
  TIi2 := D.TIi2
  mem2 := List.mem_cons_self
  zf2 := by simp; exact ⟨D.i2z.symm, D.l2z.symm⟩
  Tf2 := by simp; exact ⟨D.TOi2, D.l2TO.symm⟩
  sep1_2 := by simp; exact ⟨D.i12, D.l2i1.symm⟩
  sep2_1 := by simp; exact ⟨D.i12.symm, D.l1i2.symm⟩
end

/-- the lists or tuples at a and b as they stand at each turn, the items in new pairs -/
def ItB (K : PySem.W.Frag) (k1 k2 : Bool) (a b : Addr) : It :=
  ⟨fun i H => ∃ (xs ys : List V) (x y : V), SqB K H k1 a xs ∧ SqB K H k2 b ys ∧ xs[i]? = some x ∧ ys[i]? = some y,
    fun i H v H' => ∃ T x y, v = .ref T ∧ H T = none ∧ H' = upd H T (.tup [x, y]) ∧ (∀ xs, SqB K H k1 a xs → xs[i]? = some x) ∧ ∀ ys, SqB K H k2 b ys → ys[i]? = some y,
    fun i H => ∃ xs ys : List V, SqB K H k1 a xs ∧ SqB K H k2 b ys ∧ i ≤ xs.length ∧ i ≤ ys.length ∧ (xs.length = i ∨ ys.length = i)⟩
theorem turn_zipB {P : Program} {w : World} {K : PySem.W.Frag} {k1 k2 : Bool} {elts : List Expr} {kk : Nat} {tpos : Pos} {a b z TI TO i1 i2 : Addr} (D : ZipApart z TI TO i1 i2 a b) :
    Turn P w K (.Tuple elts kk tpos) (ItB K k1 k2 a b) [z, TI, TO, i1, i2] z (fun i h => IsZip h z TI TO .none ∧ IsPair h TI (.ref i1) (.ref i2) ∧ (∃ x y, IsPair h TO x y) ∧ itB h k1 i1 a i ∧ itB h k2 i2 b i) where
  mem := by simp
  obj := fun i h st c hc => by
    obtain ⟨hz, hTI, ⟨x, y, hTO⟩, h1, h2⟩ := st
    have e' : c = z ∨ c = TI ∨ c = TO ∨ c = i1 ∨ c = i2 := by simpa using hc
    rcases e' with q | q | q | q | q
    · rw [q]; exact ⟨_, hz, fun v q => nomatch q⟩
    · rw [q]; exact ⟨_, hTI, fun v q => nomatch q⟩
    · rw [q]; exact ⟨_, hTO, fun v q => nomatch q⟩
    · rw [q]; exact itB_obj h1
    · rw [q]; exact itB_obj h2
  keep := fun i h h' st k => by
    obtain ⟨hz, hTI, ⟨x, y, hTO⟩, h1, h2⟩ := st
    exact ⟨k z (by simp) _ hz, k TI (by simp) _ hTI, ⟨x, y, k TO (by simp) _ hTO⟩, itB_at h1 fun o q => k i1 (by simp) o q, itB_at h2 fun o q => k i2 (by simp) o q⟩
  item := by
    intro X hP hw hK hc i pins s σ H E I hf st hg
    subst hP hw hK
    obtain ⟨hz, hTI, ⟨x0, y0, hTO⟩, h1, h2⟩ := st
    obtain ⟨xs, ys, x, y, hqx, hqy, hx, hy⟩ := hg
    obtain ⟨its, rv, p, _⟩ := sqB_inv I hqx
    obtain ⟨its2, rv2, p2, _⟩ := sqB_inv I hqy
    obtain ⟨u, hu, ru⟩ := rv.get hx
    obtain ⟨u2, hu2, ru2⟩ := rv2.get hy
    have hzl : z < s.heap.objs.size := Heap.lt_size hz
    have hd : X.A.in1.handled = none := I.ok.hd hc
    have g1 : i < its.toArray.size := by
      have := (List.getElem?_eq_some_iff.mp hu).1
      simpa using this
    have g2 : i < its2.toArray.size := by
      have := (List.getElem?_eq_some_iff.mp hu2).1
      simpa using this
    refine wpAny_pyNext_zipD2_item (sepB D) (drawsB hd k1 i1 a D.l1i1 its.toArray) (drawsB hd k2 i2 b D.l2i2 its2.toArray) hz hTI hTO ⟨h1, p⟩ ⟨h2, p2⟩ g1 g2 fun x1 x2 h' tk e1 e2 z' TO' t1 t2 hT hsz hk => ?_
    have hx1 : x1 = u := by
      have q : its[i]? = some x1 := by simpa using e1
      rw [hu] at q
      exact (Option.some.inj q).symm
    have hx2 : x2 = u2 := by
      have q : its2[i]? = some x2 := by simpa using e2
      rw [hu2] at q
      exact (Option.some.inj q).symm
    subst hx1 hx2
    refine ⟨_, rfl, wpAny_letOwnedTupleGo_zip (s := { s with heap := h', toks := tk }) z' fun h'' z'' sb => ?_⟩
    have hT2 : h''.get? s.heap.objs.size = some { cls := .type "tuple", data := .seq #[x1, x2] } := (sb.2 _ (Nat.ne_of_gt hzl)).trans hT
    have new : ObjOk X.prog X.w (upd H s.heap.objs.size (.tup [x, y])) h'' s.heap.objs.size (.tup [x, y]) :=
      ⟨by show 2 ≤ sizeLine; decide, [x1, x2], .cons ru (.cons ru2 .nil), ⟨_, hT2, rfl, _, rfl⟩⟩
    have I1 : Inv X pins σ (upd H s.heap.objs.size (.tup [x, y])) { s with heap := h'', toks := tk } :=
      I.turnedNew (t' := tk) (ch := [z, TI, TO, i1, i2]) (fun c o hb q => (sb.2 c (fun q' => hb (by simp [q']))).trans (hk c o (fun q' => hb (by simp [q'])) (fun q' => hb (by simp [q'])) (fun q' => hb (by simp [q'])) (fun q' => hb (by simp [q'])) q)) hf (Nat.le_refl _) new
    refine ⟨.ref s.heap.objs.size, _, I1, rfl, ⟨_, x, y, rfl, I.hok.fresh (Nat.le_refl _), rfl, fun l hl => by rw [sqB_inj I hl hqx]; exact hx, fun l hl => by rw [sqB_inj I hl hqy]; exact hy⟩, ⟨z'', ?_, ⟨x1, x2, ?_⟩, ?_, ?_⟩, fun c hcm => ?_⟩
    · exact (sb.2 _ D.TIz).trans (hk _ _ D.TIz D.TITO D.TIi1 D.TIi2 hTI)
    · exact (sb.2 _ D.TOz).trans TO'
    · exact itB_at t1.1 fun o q => (sb.2 _ D.i1z).trans q
    · exact itB_at t2.1 fun o q => (sb.2 _ D.i2z).trans q
    · have hlt : c < s.heap.objs.size := by
        have e' : c = z ∨ c = TI ∨ c = TO ∨ c = i1 ∨ c = i2 := by simpa using hcm
        rcases e' with q | q | q | q | q
        · rw [q]; exact hzl
        · rw [q]; exact Heap.lt_size hTI
        · rw [q]; exact Heap.lt_size hTO
        · rw [q]; obtain ⟨_, e1, _⟩ := itB_obj h1; exact Heap.lt_size e1
        · rw [q]; obtain ⟨_, e2, _⟩ := itB_obj h2; exact Heap.lt_size e2
      rw [upd_ne (Nat.ne_of_lt hlt)]
      exact (hf c hcm).1
  done := by
    intro X hP hw hK hc i pins s σ H E I hf st hg
    subst hP hw hK
    obtain ⟨hz, hTI, ⟨x0, y0, hTO⟩, h1, h2⟩ := st
    obtain ⟨xs, ys, hqx, hqy, l1, l2, hend⟩ := hg
    obtain ⟨its, rv, p, _⟩ := sqB_inv I hqx
    obtain ⟨its2, rv2, p2, _⟩ := sqB_inv I hqy
    have m1 := rv.length
    have m2 := rv2.length
    have hd : X.A.in1.handled = none := I.ok.hd hc
    have z1 : its.toArray.size = its.length := by simp
    have z2 : its2.toArray.size = its2.length := by simp
    exact wpAny_pyNext_zipD2_end (sepB D) (drawsB hd k1 i1 a D.l1i1 its.toArray) (drawsB hd k2 i2 b D.l2i2 its2.toArray) hz hTI hTO ⟨h1, p⟩ ⟨h2, p2⟩ (by omega) (by omega) (by omega) fun h' tk hk => ⟨rfl, I.turnedL (t' := tk) (ch := [z, TI, TO, i1, i2]) (fun c o hb q =>
      hk c o (fun q' => hb (by simp [q'])) (fun q' => hb (by simp [q'])) (fun q' => hb (by simp [q'])) (fun q' => hb (by simp [q'])) q) hf⟩
  self := fun A i s Q E st h => wpAny_pyIter_zip st.1 h

abbrev zipBH1 (k1 : Bool) (h : Heap) (l1 : Addr) : Heap := h.push { cls := .type (nmB k1), data := .fields #[.ref l1, .int 0 0] }
abbrev zipBH2 (k1 k2 : Bool) (h : Heap) (l1 l2 : Addr) : Heap := (zipBH1 k1 h l1).push { cls := .type (nmB k2), data := .fields #[.ref l2, .int 0 0] }
abbrev zipBH3 (k1 k2 : Bool) (h : Heap) (l1 l2 : Addr) : Heap := (zipBH2 k1 k2 h l1 l2).push { cls := .type "tuple", data := .seq #[.ref h.objs.size, .ref (zipBH1 k1 h l1).objs.size] }
abbrev zipBH4 (k1 k2 : Bool) (h : Heap) (l1 l2 : Addr) : Heap := (zipBH3 k1 k2 h l1 l2).push { cls := .type "tuple", data := .seq #[.none, .none] }
abbrev zipBH5 (k1 k2 : Bool) (h : Heap) (l1 l2 : Addr) : Heap := (zipBH4 k1 k2 h l1 l2).push { cls := .type "zip", data := .fields #[.none, .bool false, .bool false, .ref (zipBH2 k1 k2 h l1 l2).objs.size, .ref (zipBH3 k1 k2 h l1 l2).objs.size] }
theorem meets_zipB_lt (l1 l2 : Addr) (xs ys : Array Value) :
    Meets (Builtin.«zip.__new__» ⟨[.type "zip", .ref l1, .ref l2], []⟩) (fun _ R s => s.heap.IsList l1 xs ∧ s.heap.IsTuple l2 ys ∧
      R (.ok (.ret (.ref (zipBH4 true false s.heap l1 l2).objs.size))) { s with heap := zipBH5 true false s.heap l1 l2 }) :=
  .of_wp fun prog w A R s h => by
    obtain ⟨hp, g, d, tk, os⟩ := s; obtain ⟨hl1, hl2, h⟩ := h
    have hsub := sub_zip
    have hL1 : Heap.IsList (Shared.heap ⟨hp, g, d, tk, os⟩) l1 xs := hl1
    have hL2 : Heap.IsTuple (Shared.heap ⟨hp.push { cls := .type "list_iterator", data := .fields #[.ref l1, .int 0 0] }, g, d, tk, os⟩) l2 ys := Heap.IsTuple.push hl2 _
    wp_walk using wpAny_pyIter_list hL1, wpAny_pyIter_tuple hL2
    exact ⟨_, rfl, h⟩
theorem meets_zipB_tl (l1 l2 : Addr) (xs ys : Array Value) :
    Meets (Builtin.«zip.__new__» ⟨[.type "zip", .ref l1, .ref l2], []⟩) (fun _ R s => s.heap.IsTuple l1 xs ∧ s.heap.IsList l2 ys ∧
      R (.ok (.ret (.ref (zipBH4 false true s.heap l1 l2).objs.size))) { s with heap := zipBH5 false true s.heap l1 l2 }) :=
  .of_wp fun prog w A R s h => by
    obtain ⟨hp, g, d, tk, os⟩ := s; obtain ⟨hl1, hl2, h⟩ := h
    have hsub := sub_zip
    have hL1 : Heap.IsTuple (Shared.heap ⟨hp, g, d, tk, os⟩) l1 xs := hl1
    have hL2 : Heap.IsList (Shared.heap ⟨hp.push { cls := .type "tuple_iterator", data := .fields #[.ref l1, .int 0 0] }, g, d, tk, os⟩) l2 ys := Heap.IsList.push hl2 _
    wp_walk using wpAny_pyIter_tuple hL1, wpAny_pyIter_list hL2
    exact ⟨_, rfl, h⟩
theorem meets_zipB (k1 k2 : Bool) (l1 l2 : Addr) (xs ys : Array Value) :
    Meets (Builtin.«zip.__new__» ⟨[.type "zip", .ref l1, .ref l2], []⟩) (fun _ R s => sqB s.heap k1 l1 xs ∧ sqB s.heap k2 l2 ys ∧
      R (.ok (.ret (.ref (zipBH4 k1 k2 s.heap l1 l2).objs.size))) { s with heap := zipBH5 k1 k2 s.heap l1 l2 }) := by
  cases k1 <;> cases k2
  · exact RZ.meets_zipT_new l1 l2 xs ys
  · exact meets_zipB_tl l1 l2 xs ys
  · exact meets_zipB_lt l1 l2 xs ys
  · exact meets_zip_new l1 l2 xs ys
theorem itB_new {h : Heap} {k : Bool} {it l : Addr} (e : h.get? it = some { cls := .type (nmB k), data := .fields #[.ref l, .int 0 0] }) : itB h k it l 0 := by
  cases k with
  | true => exact ⟨_, e, rfl, rfl⟩
  | false => exact ⟨_, e, rfl, rfl⟩
section
variable {prog : Program} {w : World} {A : Around} {E : Value → Shared → Prop} {s : Shared}
theorem call_zipB {k1 k2 : Bool} {l1 l2 : Addr} {xs ys : Array Value} {Q : Value → Shared → Prop} (hl1 : sqB s.heap k1 l1 xs) (hl2 : sqB s.heap k2 l2 ys)
    (h : ∀ h', IsZip h' (s.heap.objs.size + 4) (s.heap.objs.size + 2) (s.heap.objs.size + 3) .none → IsPair h' (s.heap.objs.size + 2) (.ref s.heap.objs.size) (.ref (s.heap.objs.size + 1)) →
      IsPair h' (s.heap.objs.size + 3) .none .none → itB h' k1 s.heap.objs.size l1 0 → itB h' k2 (s.heap.objs.size + 1) l2 0 → h'.objs.size = s.heap.objs.size + 5 →
      (∀ c o, s.heap.get? c = some o → h'.get? c = some o) → Q (.ref (s.heap.objs.size + 4)) { s with heap := h' }) :
    wpAny (model prog w) A (call (.type "zip") [.ref l1, .ref l2]) Q E s := by
  refine callType_new F.called_zip (by decide) (F.typeCall_zip_2 _ _) (F.newCall_zip_2 _ _) (fun obj => F.args_object_init_3 obj _ _) F.entry_zip_new
    (meets_zipB k1 k2 l1 l2 xs ys) ⟨hl1, hl2, ?_⟩
  have z1 : (zipBH1 k1 s.heap l1).objs.size = s.heap.objs.size + 1 := Heap.size_push ..
  have z2 : (zipBH2 k1 k2 s.heap l1 l2).objs.size = s.heap.objs.size + 2 := by rw [Heap.size_push, z1]
  have z3 : (zipBH3 k1 k2 s.heap l1 l2).objs.size = s.heap.objs.size + 3 := by rw [Heap.size_push, z2]
  have z4 : (zipBH4 k1 k2 s.heap l1 l2).objs.size = s.heap.objs.size + 4 := by rw [Heap.size_push, z3]
  have z5 : (zipBH5 k1 k2 s.heap l1 l2).objs.size = s.heap.objs.size + 5 := by rw [Heap.size_push, z4]
  have g5 : (zipBH5 k1 k2 s.heap l1 l2).get? (zipBH4 k1 k2 s.heap l1 l2).objs.size = some _ := Heap.get?_push_size _ rfl
  have g4 : (zipBH5 k1 k2 s.heap l1 l2).get? (zipBH3 k1 k2 s.heap l1 l2).objs.size = some _ := Heap.get?_push_of_some _ (Heap.get?_push_size _ rfl)
  have g3 : (zipBH5 k1 k2 s.heap l1 l2).get? (zipBH2 k1 k2 s.heap l1 l2).objs.size = some _ := Heap.get?_push_of_some _ (Heap.get?_push_of_some _ (Heap.get?_push_size _ rfl))
  have g2 : (zipBH5 k1 k2 s.heap l1 l2).get? (zipBH1 k1 s.heap l1).objs.size = some _ := Heap.get?_push_of_some _ (Heap.get?_push_of_some _ (Heap.get?_push_of_some _ (Heap.get?_push_size _ rfl)))
  have g1 : (zipBH5 k1 k2 s.heap l1 l2).get? s.heap.objs.size = some _ := Heap.get?_push_of_some _ (Heap.get?_push_of_some _ (Heap.get?_push_of_some _ (Heap.get?_push_of_some _ (Heap.get?_push_size _ rfl))))
  show _ ∧ _
  rw [z2, z3, z4] at g5
  rw [z1, z2] at g3
  rw [z3] at g4
  rw [z1] at g2
  rw [z4]
  exact ⟨⟨_, g5, rfl⟩, h _ g5 g3 g4 (itB_new g1) (itB_new g2) z5 fun c o x =>
    Heap.get?_push_of_some _ (Heap.get?_push_of_some _ (Heap.get?_push_of_some _ (Heap.get?_push_of_some _ (Heap.get?_push_of_some _ x))))⟩
end
def iZipB (K : PySem.W.Frag) (ta : TA) : TI := fun σ H R => ta σ H fun vs H1 => ∃ a b k1 k2 xs ys, vs = [.ref a, .ref b] ∧ SqB K H1 k1 a xs ∧ SqB K H1 k2 b ys ∧ R (ItB K k1 k2 a b) H1
theorem pi_zipB {X : Cx} {e e2 : Expr} {ta : TA} {p pos tpos : Pos} {elts : List Expr} {kk : Nat} (hg : Gl X "zip") (hm : X.mg "zip" = none) (ha : PA X [e, e2] ta)
    (hs : starEach [e, e2] X.env = (false, eval e X.env) :: starEach [e2] X.env := by rfl) (hpl : (backTo pos (starEach [e2] X.env)).any (·.1) = false := by rfl) :
    PI X (.Tuple elts kk tpos) (.Call (.Name "zip" p) [e, e2] [] pos) (iZipB X.K ta) := by
  refine ⟨fun pins s σ H R I h => ?_⟩
  refine Call_ (ld_blt I hg hm PyProof.Rows.boot_zip (PyProof.Rows.callWith_type1 (thn (ha.run pos pins s σ H _ I h) fun us s1 ⟨vs, H1, I1, r1, q1⟩ => ?_) hs hpl))
  obtain ⟨a, b, k1, k2, xs, ys, ex, hqx, hqy, q⟩ := q1
  subst ex
  cases r1 with
  | cons r rr =>
    cases rr with
    | cons r' rr =>
      cases rr
      cases r
      cases r'
      obtain ⟨its, rv, p1, la⟩ := sqB_inv I1 hqx
      obtain ⟨its2, rv2, p2, lb⟩ := sqB_inv I1 hqy
      refine call_zipB p1 p2 fun h' hz hTI hTO h1 h2 hsz hk => wpAny_pyIter_zip hz ?_
      have I2 : Inv X pins σ H1 { s1 with heap := h' } := I1.kept (t' := s1.toks) hk
      refine ⟨s1.heap.objs.size + 4, [s1.heap.objs.size + 4, s1.heap.objs.size + 2, s1.heap.objs.size + 3, s1.heap.objs.size, s1.heap.objs.size + 1], _, _, H1, rfl, I2, turn_zipB (PySem.W.ktu_apart s1.heap.objs.size a b la lb), ⟨hz, hTI, ⟨_, _, hTO⟩, h1, h2⟩, fun c hcm => ?_, q⟩
      have e' : c = s1.heap.objs.size + 4 ∨ c = s1.heap.objs.size + 2 ∨ c = s1.heap.objs.size + 3 ∨ c = s1.heap.objs.size ∨ c = s1.heap.objs.size + 1 := by simpa using hcm
      have hle : s1.heap.objs.size ≤ c := by
        rcases e' with z | z | z | z | z
        · rw [z]; exact Nat.le_add_right _ _
        · rw [z]; exact Nat.le_add_right _ _
        · rw [z]; exact Nat.le_add_right _ _
        · rw [z]; exact Nat.le_refl _
        · rw [z]; exact Nat.le_add_right _ _
      exact I1.fpOk hle (I1.hok.fresh hle)
end Rw

set_option Elab.async false
set_option linter.all false
set_option maxRecDepth 100000
set_option maxHeartbeats 4000000
/-! TkL: lists and tuples as data, comprehensions that make data of data. -/
namespace Rw
open PySem PySem.Spec PyProof.Rows L2

/-! ### lists and tuples as data -/
def isSeqD : PyData → Bool
  | .list _ => true | .tuple _ => true | _ => false
def itemsD : PyData → List PyData
  | .list ds => ds | .tuple ds => ds | _ => []
def isVecD (n : Int) (d : PyData) : Bool := isSeqD d && (decide (((itemsD d).length : Int) = n) && (itemsD d).all isIntD)
def isMatD (h w : Int) (d : PyData) : Bool := isSeqD d && (decide (((itemsD d).length : Int) = h) && (itemsD d).all (isVecD w))
/-- not too long, the ints not too great -/
structure Fit1 (d : PyData) : Prop where
  len : (itemsD d).length ≤ 1000
  sm : ∀ n, PyData.int n ∈ itemsD d → n.natAbs.log2 < 400
structure Fit (d : PyData) : Prop where
  top : Fit1 d
  sub : ∀ e, e ∈ itemsD d → Fit1 e
section
variable {K : PySem.W.Frag} {H H' : Hp} {v : V} {d : PyData} {xs : List V} {ds : List PyData}
theorem kit_seq (d : PyData) : PySem.W.kitAny K (.type (kindS d)) [.type "list", .type "tuple"] = some (isSeqD d) := by
  have z : PySem.W.kitAny K (.type (kindS d)) [] = some false := rfl
  have l0 : ∀ a, kitB a "list" = some false → kitB a "tuple" = some false → PySem.W.kitAny K (.type a) [.type "list", .type "tuple"] = some false := fun a p q =>
    kitAny_cons (b := false) (kit_ty p) (fun _ => kitAny_cons (b := false) (kit_ty q) (fun _ => z) (fun e => by cases e)) (fun e => by cases e)
  cases d with
  | none => exact l0 "NoneType" (by decide +kernel) (by decide +kernel)
  | bool b => exact l0 "bool" (by decide +kernel) (by decide +kernel)
  | int b => exact l0 "int" (by decide +kernel) (by decide +kernel)
  | str b => exact l0 "str" (by decide +kernel) (by decide +kernel)
  | dict b => exact l0 "dict" (by decide +kernel) (by decide +kernel)
  | list b => exact kitAny_cons (b := true) (kit_ty (show kitB "list" "list" = some true by decide +kernel)) (fun e => by cases e) (fun _ => rfl)
  | tuple b => exact kitAny_cons (b := false) (kit_ty (show kitB "tuple" "list" = some false by decide +kernel)) (fun _ => kitAny_cons (b := true) (kit_ty (show kitB "tuple" "tuple" = some true by decide +kernel)) (fun e => by cases e) (fun _ => rfl)) (fun e => by cases e)
theorem anyL_len : ∀ {xs : List V} {ds : List PyData}, AnyL H xs ds → xs.length = ds.length
  | _, _, .nil => rfl
  | _, _, .cons _ b => congrArg (· + 1) (anyL_len b)
theorem anyL_at : ∀ {xs : List V} {ds : List PyData} {i : Nat} {x : V}, AnyL H xs ds → xs[i]? = some x → ∃ d, ds[i]? = some d ∧ Any H x d
  | _, _, i, x, .nil, h => by simp at h
  | _, _, 0, x, .cons a _, h => by
    cases h
    exact ⟨_, rfl, a⟩
  | _, _, i + 1, x, .cons _ b, h => by
    obtain ⟨d, h1, h2⟩ := anyL_at (i := i) b (by simpa using h)
    exact ⟨d, by simpa using h1, h2⟩
theorem anyL_of : ∀ {xs : List V} {ds : List PyData} {i : Nat} {d : PyData}, AnyL H xs ds → ds[i]? = some d → ∃ x, xs[i]? = some x ∧ Any H x d
  | _, _, i, x, .nil, h => by simp at h
  | _, _, 0, x, .cons a _, h => by
    cases h
    exact ⟨_, rfl, a⟩
  | _, _, i + 1, x, .cons _ b, h => by
    obtain ⟨d, h1, h2⟩ := anyL_of (i := i) b (by simpa using h)
    exact ⟨d, by simpa using h1, h2⟩
theorem anyL_keep (k : Same H H') (h : AnyL H xs ds) : AnyL H' xs ds := any_keepL k ds xs h
theorem anyL_snoc : ∀ {xs : List V} {ds : List PyData} {x : V} {d : PyData}, AnyL H xs ds → Any H x d → AnyL H (xs ++ [x]) (ds ++ [d])
  | _, _, _, _, .nil, b => .cons b .nil
  | _, _, _, _, .cons a r, b => .cons a (anyL_snoc r b)
theorem anyL_ints : ∀ {ns : List Int} {xs : List V}, AnyL H xs (ns.map .int) → xs = ns.map V.int
  | [], _, h => by
    cases h
    rfl
  | n :: ns, _, h => by
    cases h with
    | cons a b =>
      cases a
      rw [anyL_ints b] <;> rfl
theorem anyL_bools : ∀ {ns : List Bool} {xs : List V}, AnyL H xs (ns.map .bool) → xs = ns.map V.bl
  | [], _, h => by
    cases h
    rfl
  | n :: ns, _, h => by
    cases h with
    | cons a b =>
      cases a
      rw [anyL_bools b] <;> rfl
theorem anyL_flags {g : PyData → Bool} {ds : List PyData} {xs : List V} (h : AnyL H xs (ds.map fun d => PyData.bool (g d))) : xs = (ds.map g).map V.bl := by
  refine anyL_bools (H := H) ?_
  rw [List.map_map]
  exact h
theorem ints_anyL : ∀ (ns : List Int), AnyL H (ns.map V.int) (ns.map .int)
  | [] => .nil
  | n :: ns => .cons (.int n) (ints_anyL ns)
/-- data that is a list or a tuple, with its items -/
theorem seq_of (h : Any H v d) (e : isSeqD d = true) : ∃ (k : Bool) (a : Addr) (xs : List V), v = .ref a ∧ (∀ {H' : Hp}, Same H H' → ∀ K, SqB K H' k a xs) ∧ AnyL H xs (itemsD d) := by
  cases h with
  | lst ea ha => exact ⟨true, _, _, rfl, fun k K => SqL.of (k _ _ ea), ha⟩
  | tup ea ha => exact ⟨false, _, _, rfl, fun k K => SqT.of (k _ _ ea), ha⟩
  | _ => cases e
theorem SqB.or {k : Bool} {a : Addr} (h : SqB K H k a xs) : SqL K H a xs ∨ SqT K H a xs := by
  cases k with
  | true => exact .inl h
  | false => exact .inr h
theorem vec_ints : ∀ {ds : List PyData}, ds.all isIntD = true → ∃ ns : List Int, ds = ns.map .int
  | [], _ => ⟨[], rfl⟩
  | d :: ds, h => by
    simp only [List.all_cons, Bool.and_eq_true] at h
    obtain ⟨ns, e⟩ := vec_ints h.2
    cases d with
    | int n => exact ⟨n :: ns, by rw [e] <;> rfl⟩
    | _ => cases h.1
end

/-! ### walks -/
def ItS (K : PySem.W.Frag) : Bool → Addr → It
  | true, a => Itl K a
  | false, a => Itt K a
def iSeq (K : PySem.W.Frag) (tl : TE) : TI := fun σ H R => tl σ H fun x H1 => ∃ a k xs, x = .ref a ∧ SqB K H1 k a xs ∧ R (ItS K k a) H1
theorem pi_seq {X : Cx} {tg l : Expr} {tl : TE} (hl : PE X l tl) : PI X tg l (iSeq X.K tl) := by
  refine ⟨fun pins s σ H R I h => ?_⟩
  refine thn (hl.run pins s σ H _ I h) fun v s1 ⟨x, H1, I1, r1, q1⟩ => ?_
  obtain ⟨a, k, xs, e, hq, q⟩ := q1
  subst e
  cases r1
  cases k with
  | true =>
    obtain ⟨its, rv, p, hz⟩ := I1.list hq
    refine wpAny_pyIter_list p.isList ?_
    refine ⟨s1.heap.objs.size, [s1.heap.objs.size], _, _, H1, rfl, I1.kept (t' := s1.toks) fun b o e => Heap.get?_push_of_some _ e, turn_list a _, ⟨_, Heap.get?_push_size _ rfl, rfl, rfl⟩, fun b hb => ?_, q⟩
    have e : b = s1.heap.objs.size := by simpa using hb
    subst e
    exact I1.fpOk (Nat.le_refl _) (I1.hok.fresh (Nat.le_refl _))
  | false =>
    obtain ⟨its, rv, p, hz⟩ := I1.tuple hq
    refine wpAny_pyIter_tuple (show s1.heap.IsTuple a its.toArray from p) ?_
    refine ⟨s1.heap.objs.size, [s1.heap.objs.size], _, _, H1, rfl, I1.kept (t' := s1.toks) fun b o e => Heap.get?_push_of_some _ e, turn_tuple a _, ⟨_, Heap.get?_push_size _ rfl, rfl, rfl⟩, fun b hb => ?_, q⟩
    have e : b = s1.heap.objs.size := by simpa using hb
    subst e
    exact I1.fpOk (Nat.le_refl _) (I1.hok.fresh (Nat.le_refl _))
section
variable {K : PySem.W.Frag} {k : Bool} {a : Addr} {xs : List V}
theorem walk_seq : Walk (ItS K k a) xs.length (fun H => SqB K H k a xs) (fun i H x H' => H' = H ∧ xs[i]? = some x) := by
  cases k with
  | true => exact walk_list
  | false => exact walk_tup
theorem walk_rng {n : Nat} : Walk (Itr 0 n) n (fun _ => True) (fun i H x H' => H' = H ∧ x = .int (i : Int)) :=
  walk_range.mono (fun _ z => z) fun i H x H' _ _ y => ⟨y.1, by
    have e := y.2
    simpa using e⟩
theorem walk_zipB {k1 k2 : Bool} {a b : Addr} {xs ys : List V} {n : Nat} (h1 : xs.length = n) (h2 : ys.length = n) : Walk (ItB K k1 k2 a b) n (fun H => SqB K H k1 a xs ∧ SqB K H k2 b ys) (YPair (fun i => xs[i]?) (fun i => ys[i]?)) := by
  refine ⟨fun i H hi q => ?_, fun H q => ⟨xs, ys, q.1, q.2, by omega, by omega, .inl h1⟩, fun i H v H' _ q y => ?_⟩
  · have g1 : i < xs.length := by omega
    have g2 : i < ys.length := by omega
    exact ⟨xs, ys, xs[i], ys[i], q.1, q.2, by simp [g1], by simp [g2]⟩
  · obtain ⟨T, x, z, h1, h2, h3, h4, h5⟩ := y
    exact ⟨T, x, z, h1, h2, h3, h4 xs q.1, h5 ys q.2⟩
end
theorem del_upd {H : Hp} {D : Addr} {o : HO} : del (upd H D o) D = del H D := by
  funext c
  by_cases e : c = D
  · rw [e, del_same, del_same]
  · rw [del_ne e, del_ne e, upd_ne e]
/-- new data of each turn, nothing else changed -/
theorem lc_same {J : It} {n : Nat} {G : Hp → Prop} {P : Nat → V → Prop} (w : Walk J n G (fun i H x H' => H' = H ∧ P i x)) {j : Nat} {σ : L2.St} {vs : List Nat} {te : TE} {H1 : Hp} {D : Addr} {Q : Hp → Prop} (hn : n ≤ 1000) (hD : H1 D = none) (hG : ∀ H, Same H1 H → G H) (f : Nat → PyData)
    (hs : ∀ i x H, i < n → P i x → Same H1 H → (∃ o, H D = some o) → wipe ((wipe σ vs).set j (some x)) vs = wipe σ vs ∧ ∀ k : VK, (∀ y H', Same H H' → Any (del H' D) y (f i) → k y H') → te ((wipe σ vs).set j (some x)) H k)
    (hq : ∀ H acc, Same H1 H → H D = some (.lst acc) → AnyL (del H D) acc ((List.range n).map f) → Q H) :
    ∃ W : Nat → Nat → Hp → Prop, (∃ m, W 0 m (upd H1 D (.lst []))) ∧ ∀ i m H, W i m H →
      (J.stop i H ∧ Q H) ∨ (J.go i H ∧ ∃ Nx : Hp → Prop, (∀ H', Nx H' → ∃ m', m' < m ∧ W (i + 1) m' H') ∧ ∀ x H', J.yld i H x H' → gName j x (wipe σ vs) H' fun σ2 H2 => wipe σ2 vs = wipe σ vs ∧ tYes σ2 H2 fun b H3 =>
        if b = true then te σ2 H3 fun y H4 => ∃ acc, H4 D = some (.lst acc) ∧ acc.length < sizeLine ∧ Nx (upd H4 D (.lst (acc ++ [y]))) else Nx H3) := by
  refine lc_it w (Qd := Q) (Pv := fun i H => Same H1 H ∧ ∃ acc, H D = some (.lst acc) ∧ acc.length = i ∧ AnyL (del H D) acc ((List.range i).map f)) ⟨same_new hD, [], upd_same, rfl, .nil⟩ (fun i H _ h => hG H h.1) ?_ ?_
  · rintro i x H H' hi ⟨s1, acc, ha, hl, an⟩ ⟨rfl, hp⟩
    obtain ⟨e1, e2⟩ := hs i x H' hi hp s1 ⟨_, ha⟩
    refine ⟨e1, ?_⟩
    show te _ _ _
    refine e2 _ fun y H4 s2 hy => ?_
    refine ⟨acc, s2 _ _ ha, Nat.lt_of_lt_of_le (by omega : acc.length < 1000) (by decide), ?_, acc ++ [y], upd_same, by rw [List.length_append, hl] <;> rfl, ?_⟩
    · intro b o e
      have ne : b ≠ D := ne_of_none e hD
      rw [upd_ne ne]
      exact s2 _ _ (s1 _ _ e)
    · rw [del_upd, List.range_succ, List.map_append]
      exact anyL_snoc (anyL_keep (Grow.del (Grow.of s2)) an) hy
  · rintro H ⟨s1, acc, ha, hl, an⟩
    exact hq H acc s1 ha an
theorem map_get {α β : Type} (g : α → β) (dd : α) : ∀ l : List α, (List.range l.length).map (fun i => g (l[i]?.getD dd)) = l.map g := by
  intro l
  apply List.ext_getElem
  · simp
  · intro i h1 h2
    simp at h1 h2
    simp [h1]
end Rw

set_option Elab.async false
set_option linter.all false
set_option maxRecDepth 100000
set_option maxHeartbeats 4000000
/-! TkQ: enumerate of a list or a tuple. -/
namespace Rw
open PySem PySem.Spec PyProof.Rows L2

set_option maxHeartbeats 1000000 in
theorem meets_enum_new1 {v : Value} {o : Obj} {H : Heap → Prop} (B : Begins v o H) :
    Meets (Builtin.«enumerate.__new__» ⟨[.type "enumerate", v], []⟩) (fun _ R s => H s.heap ∧
      R (.ok (.ret (.ref (s.heap.push o).objs.size))) { s with heap := (s.heap.push o).push { cls := .type "enumerate", data := .fields #[.none, .bool false, .ref s.heap.objs.size, rawInt 0, .none, .none] } }) :=
  .of_wp fun prog w A R s h => by
    obtain ⟨hp, g, d, tk, os⟩ := s; obtain ⟨h1, h⟩ := h
    have hsub := sub_enumerate
    have q1 : ∀ {A' : Around} {E : Value → Shared → Prop} {Q : Value → Shared → Prop}, Q (.ref hp.objs.size) ⟨hp.push o, g, d, tk, os⟩ → wpAny (model prog w) A' (pyIter v) Q E ⟨hp, g, d, tk, os⟩ :=
      fun q => B.iter prog w _ _ ⟨hp, g, d, tk, os⟩ _ h1 q
    wp_walk using q1
    refine wpAny_stack_any fun st => wpAny_pure ?_
    split
    · rename_i c _ _ _ _ _
      cases (c == Value.type "enumerate")
      · wp_walk using q1
        exact ⟨_, rfl, h⟩
      · wp_walk using q1
        exact ⟨_, rfl, h⟩
    · wp_walk using q1
      exact ⟨_, rfl, h⟩
section
variable {prog : Program} {w : World} {A : Around} {E : Value → Shared → Prop} {s : Shared}
theorem call_enum1 {v : Value} {o : Obj} {H : Heap → Prop} {Q : Value → Shared → Prop} (B : Begins v o H) (h1 : H s.heap)
    (h : ∀ h', IsEnum h' (s.heap.objs.size + 1) s.heap.objs.size 0 .none → h'.get? s.heap.objs.size = some o → h'.objs.size = s.heap.objs.size + 2 →
      (∀ b o, s.heap.get? b = some o → h'.get? b = some o) → Q (.ref (s.heap.objs.size + 1)) { s with heap := h' }) :
    wpAny (model prog w) A (call (.type "enumerate") [v]) Q E s := by
  refine callType_new F.called_enumerate (by decide) (F.typeCall_enumerate_1 _) (F.newCall_enumerate_1 _) (fun obj => F.args_object_init_2 obj _) F.entry_enumerate_new
    (meets_enum_new1 B) ⟨h1, ?_⟩
  have hz : (s.heap.push o).objs.size = s.heap.objs.size + 1 := Heap.size_push ..
  show _ ∧ _
  rw [hz]
  have he : IsEnum ((s.heap.push o).push { cls := .type "enumerate", data := .fields #[.none, .bool false, .ref s.heap.objs.size, rawInt 0, .none, .none] }) (s.heap.objs.size + 1) s.heap.objs.size 0 .none := by
    have := Heap.get?_push_size (s.heap.push o) (o := { cls := .type "enumerate", data := .fields #[.none, .bool false, .ref s.heap.objs.size, rawInt 0, .none, .none] }) rfl
    rw [hz] at this; exact this
  refine ⟨⟨_, he, rfl⟩, h _ he (Heap.get?_push_of_some _ (Heap.get?_push_size _ B.free)) (by rw [Heap.size_push, hz]) fun b o x => Heap.get?_push_of_some _ (Heap.get?_push_of_some _ x)⟩
end
def itObjB (k : Bool) (a : Addr) : Obj := { cls := .type (nmB k), data := .fields #[.ref a, .int 0 0] }
theorem begins_B (k : Bool) (a : Addr) (items : Array Value) : Begins (.ref a) (itObjB k a) fun h => sqB h k a items := by
  cases k with
  | true => exact begins_list a items
  | false => exact begins_tuple a items

/-- the list or tuple at a as it stands at each turn, each item in a new pair -/
def ItEB (K : PySem.W.Frag) (k : Bool) (a : Addr) : It :=
  ⟨fun i H => ∃ (xs : List V) (x : V), SqB K H k a xs ∧ xs[i]? = some x, fun i H v H' => ∃ T x, v = .ref T ∧ H T = none ∧ H' = upd H T (.tup [.int (i : Nat), x]) ∧ ∀ xs, SqB K H k a xs → xs[i]? = some x, fun i H => ∃ xs : List V, SqB K H k a xs ∧ xs.length = i⟩
theorem turn_enumB {P : Program} {w : World} {K : PySem.W.Frag} {k : Bool} {elts : List Expr} {kk : Nat} {tpos : Pos} (a e it : Addr) :
    Turn P w K (.Tuple elts kk tpos) (ItEB K k a) [e, it] e (fun i h => (∃ old, IsEnum h e it ((i : Nat) : Int) old) ∧ itB h k it a i ∧ e ≠ it ∧ a ≠ it ∧ e ≠ a) where
  mem := by simp
  obj := fun i h st b hb => by
    obtain ⟨⟨old, he⟩, hi, _⟩ := st
    have e' : b = e ∨ b = it := by simpa using hb
    rcases e' with z | z
    · rw [z]; exact ⟨_, he, fun v q => nomatch q⟩
    · rw [z]; exact itB_obj hi
  keep := fun i h h' st k => let ⟨⟨old, he⟩, hi, hne⟩ := st; ⟨⟨old, k e (by simp) _ he⟩, itB_at hi fun o q => k it (by simp) o q, hne⟩
  item := by
    intro X hP hw hK hc i pins s σ H E I hf st hg
    subst hP hw hK
    obtain ⟨⟨old, he⟩, hit, hne, hna, hea⟩ := st
    obtain ⟨xs, x, hq, hx⟩ := hg
    obtain ⟨its, rv, p, _⟩ := sqB_inv I hq
    obtain ⟨u, hu, ru⟩ := rv.get hx
    have hel : e < s.heap.objs.size := Heap.lt_size he
    have hil : it < s.heap.objs.size := by obtain ⟨_, q, _⟩ := itB_obj hit; exact Heap.lt_size q
    have hd : X.A.in1.handled = none := I.ok.hd hc
    have g1 : i < its.toArray.size := by
      have := (List.getElem?_eq_some_iff.mp hu).1
      simpa using this
    have hef : e ∉ [it, a] := by simp; exact ⟨hne, hea⟩
    refine wpAny_pyNext_enum_itemD (drawsB hd k it a hna its.toArray) he ⟨hit, p⟩ g1 hne hef fun x1 h' tk e1 ho hs' hT hsz hk => ?_
    have hx1 : x1 = u := by
      have q : its[i]? = some x1 := by simpa using e1
      rw [hu] at q
      exact (Option.some.inj q).symm
    subst hx1
    refine ⟨_, rfl, wpAny_letOwnedTupleGo_enum (s := { s with heap := h', toks := tk + 1 }) ho fun h'' he' sb => ?_⟩
    have hT2 : h''.get? s.heap.objs.size = some { cls := .type "tuple", data := .seq #[.int i tk, x1] } := (sb.2 _ (Nat.ne_of_gt hel)).trans hT
    have new : ObjOk X.prog X.w (upd H s.heap.objs.size (.tup [.int (i : Nat), x])) h'' s.heap.objs.size (.tup [.int (i : Nat), x]) :=
      ⟨by show 2 ≤ sizeLine; decide, [.int i tk, x1], .cons ⟨_, rfl⟩ (.cons ru .nil), ⟨_, hT2, rfl, _, rfl⟩⟩
    have I1 : Inv X pins σ (upd H s.heap.objs.size (.tup [.int (i : Nat), x])) { s with heap := h'', toks := tk + 1 } :=
      I.turnedNew (t' := tk + 1) (ch := [e, it]) (fun b ob hb q => (sb.2 b (fun z => hb (by simp [z]))).trans (hk b ob (fun z => hb (by simp [z])) (fun z => hb (by simp [z])) q)) hf (Nat.le_refl _) new
    refine ⟨.ref s.heap.objs.size, _, I1, rfl, ⟨_, x, rfl, I.hok.fresh (Nat.le_refl _), rfl, fun ys hy => by rw [sqB_inj I hy hq]; exact hx⟩, ⟨⟨x1, ?_⟩, itB_at hs'.1 fun o q => (sb.2 it (Ne.symm hne)).trans q, hne, hna, hea⟩, fun b hb => ?_⟩
    · have e1 : ((i + 1 : Nat) : Int) = (i : Int) + 1 := by omega
      rw [e1]; exact he'
    · have hb' : b < s.heap.objs.size := by
        have e' : b = e ∨ b = it := by simpa using hb
        rcases e' with z | z
        · rw [z]; exact hel
        · rw [z]; exact hil
      rw [upd_ne (Nat.ne_of_lt hb')]
      exact (hf b hb).1
  done := by
    intro X hP hw hK hc i pins s σ H E I hf st hg
    subst hP hw hK
    obtain ⟨⟨old, he⟩, hit, hne, hna, hea⟩ := st
    obtain ⟨xs, hq, hx⟩ := hg
    obtain ⟨its, rv, p, _⟩ := sqB_inv I hq
    obtain ⟨f0, f1, f2, f3, f4, f5⟩ := hf it (by simp)
    have hl := rv.length
    have hd : X.A.in1.handled = none := I.ok.hd hc
    have z1 : its.toArray.size = its.length := by simp
    have e1 : its.toArray.size = i := by omega
    refine wpAny_pyNext_enum_endD (drawsB hd k it a hna its.toArray) he (by rw [e1]; exact ⟨hit, p⟩) fun h' eb => ⟨rfl, I.turned (t' := s.toks) (fun b o hb q => eb b o hb q) f0 f1 f3 f4 f5⟩
  self := fun A i s Q E st h => let ⟨⟨_, he⟩, _⟩ := st; wpAny_pyIter_enum he h
def iEnumB (K : PySem.W.Frag) (ta : TA) : TI := fun σ H R => ta σ H fun vs H1 => ∃ a k xs, vs = [.ref a] ∧ SqB K H1 k a xs ∧ R (ItEB K k a) H1
theorem pi_enumB {X : Cx} {e : Expr} {ta : TA} {p pos tpos : Pos} {elts : List Expr} {kk : Nat} (hg : Gl X "enumerate") (hm : X.mg "enumerate" = none) (ha : PA X [e] ta) (hs : starEach [e] X.env = [(false, eval e X.env)] := by rfl) :
    PI X (.Tuple elts kk tpos) (.Call (.Name "enumerate" p) [e] [] pos) (iEnumB X.K ta) := by
  refine ⟨fun pins s σ H R I h => ?_⟩
  refine Call_ (ld_blt I hg hm boot_enumerate (PyProof.Rows.callWith_type1 (thn (ha.run pos pins s σ H _ I h) fun us s1 ⟨vs, H1, I1, r1, q1⟩ => ?_) hs rfl))
  obtain ⟨a, k, xs, ex, hq, q⟩ := q1
  subst ex
  cases r1 with
  | cons r rr =>
    cases rr
    cases r
    obtain ⟨its, rv, p', la⟩ := sqB_inv I1 hq
    refine call_enum1 (begins_B k a its.toArray) p' fun h' he hit hsz hk => wpAny_pyIter_enum he ?_
    have I2 : Inv X pins σ H1 { s1 with heap := h' } := I1.kept (t' := s1.toks) hk
    refine ⟨s1.heap.objs.size + 1, [s1.heap.objs.size + 1, s1.heap.objs.size], _, _, H1, rfl, I2, turn_enumB a (s1.heap.objs.size + 1) s1.heap.objs.size, ⟨⟨.none, he⟩, itB_new hit, Nat.succ_ne_self _, Nat.ne_of_lt la, fun z => Nat.lt_irrefl a (Nat.lt_of_lt_of_le la (Nat.le_trans (Nat.le_succ _) (Nat.le_of_eq z)))⟩, fun b hb => ?_, q⟩
    have e' : b = s1.heap.objs.size + 1 ∨ b = s1.heap.objs.size := by simpa using hb
    have hle : s1.heap.objs.size ≤ b := by
      rcases e' with z | z
      · rw [z]; exact Nat.le_add_right _ _
      · rw [z]; exact Nat.le_refl _
    exact I1.fpOk hle (I1.hok.fresh hle)
theorem walk_enumB {K : PySem.W.Frag} {k : Bool} {a : Addr} {xs : List V} : Walk (ItEB K k a) xs.length (fun H => SqB K H k a xs) (YPair (fun i => some (.int (i : Nat))) (fun i => xs[i]?)) := by
  refine ⟨fun i _ hi q => ⟨xs, xs[i], q, by simp [hi]⟩, fun _ q => ⟨xs, q, rfl⟩, fun i H v H' _ q y => ?_⟩
  obtain ⟨T, x, h1, h2, h3, h4⟩ := y
  exact ⟨T, .int (i : Nat), x, h1, h2, h3, rfl, h4 xs q⟩
end Rw

set_option Elab.async false
set_option linter.all false
set_option maxRecDepth 100000
set_option maxHeartbeats 4000000
/-! TkS: written dicts with int keys and with text keys: `in`, `d[k]`. -/
namespace Rw
open PySem PySem.Spec PyProof.Rows L2

inductive IntTab : List DictEntry → List (Int × Value) → Prop
  | nil : IntTab [] []
  | cons {e : DictEntry} {es : List DictEntry} {i : Int} {t : Tok} {v : Value} {kvs : List (Int × Value)} : e.key = .int i t → e.hash = hashInt i → e.val = v → IntTab es kvs → IntTab (e :: es) ((i, v) :: kvs)
inductive TxtTab (P : Params) : List DictEntry → List (Str × Value) → Prop
  | nil : TxtTab P [] []
  | cons {e : DictEntry} {es : List DictEntry} {x : Str} {t : Tok} {v : Value} {kvs : List (Str × Value)} : e.key = .str x t → e.hash = PyData.keyHash P x → e.val = v → TxtTab P es kvs → TxtTab P (e :: es) ((x, v) :: kvs)
def lookI (kvs : List (Int × Value)) (i : Int) : Option Value := (kvs.find? fun q => q.1 == i).map (·.2)
def lookS (kvs : List (Str × Value)) (x : Str) : Option Value := (kvs.find? fun q => q.1 == x).map (·.2)
theorem IntTab.find {es : List DictEntry} {kvs : List (Int × Value)} (T : IntTab es kvs) (i : Int) : findBy Value.isInt es.toArray i = lookI kvs i := by
  unfold findBy lookI
  rw [List.find?_toArray]
  induction T with
  | nil => rfl
  | cons k h v r ih =>
    rename_i e es j t u kvs
    rw [List.find?_cons, List.find?_cons]
    have e1 : Value.isInt i e.key = (j == i) := by rw [k] <;> rfl
    rw [e1]
    cases j == i with
    | true => simp [v]
    | false => exact ih
theorem TxtTab.find {P : Params} {es : List DictEntry} {kvs : List (Str × Value)} (T : TxtTab P es kvs) (x : Str) : findBy Value.isStrOf es.toArray x = lookS kvs x := by
  unfold findBy lookS
  rw [List.find?_toArray]
  induction T with
  | nil => rfl
  | cons k h v r ih =>
    rename_i e es y t u kvs
    rw [List.find?_cons, List.find?_cons]
    have e1 : Value.isStrOf x e.key = (y == x) := by rw [k] <;> rfl
    rw [e1]
    cases y == x with
    | true => simp [v]
    | false => exact ih
theorem IntTab.keys {es : List DictEntry} {kvs : List (Int × Value)} (T : IntTab es kvs) : ∀ e ∈ es, ∃ i t, e.key = .int i t ∧ e.hash = hashInt i := by
  induction T with
  | nil => intro e h; cases h
  | cons k h v r ih =>
    intro e he
    rcases List.mem_cons.mp he with z | z
    · rw [z]; exact ⟨_, _, k, h⟩
    · exact ih e z
theorem TxtTab.keys {P : Params} {es : List DictEntry} {kvs : List (Str × Value)} (T : TxtTab P es kvs) : ∀ e ∈ es, ∃ x t, e.key = .str x t ∧ e.hash = PyData.keyHash P x := by
  induction T with
  | nil => intro e h; cases h
  | cons k h v r ih =>
    intro e he
    rcases List.mem_cons.mp he with z | z
    · rw [z]; exact ⟨_, _, k, h⟩
    · exact ih e z
/-- at d: a written dict with int keys -/
structure TabI (K : PySem.W.Frag) (d : Addr) (kvs : List (Int × Value)) : Prop where
  at_ : ∃ (l : List DictEntry) (n : Nat), K.lookup d = some ⟨.type "dict", none, .dict l.toArray n, #[]⟩ ∧ IntTab l kvs
  low : (d == sysModules) = false
structure TabS (K : PySem.W.Frag) (w : World) (d : Addr) (kvs : List (Str × Value)) : Prop where
  at_ : ∃ (l : List DictEntry) (n : Nat), K.lookup d = some ⟨.type "dict", none, .dict l.toArray n, #[]⟩ ∧ TxtTab w.params l kvs
  low : (d == sysModules) = false
section
variable {X : Cx} {d : Addr} {pins : List (Addr × Obj)} {σ : L2.St} {H : Hp} {s : Shared}
theorem tabI_map {kvs : List (Int × Value)} (T : TabI X.K d kvs) (I : Inv X pins σ H s) : s.heap.MapOf (PySem.intKind X.prog X.w) d (lookI kvs) := by
  obtain ⟨l, n, hl, t⟩ := T.at_
  refine ⟨_, l.toArray, n, I.kIn _ _ hl, ⟨rfl, rfl, rfl⟩, rfl, fun e he => ?_, fun k => t.find k⟩
  obtain ⟨i, tk, e1, e2⟩ := t.keys e (by simpa using he)
  exact ⟨i, by rw [e1]; exact PySem.intKind_is X.prog X.w i tk, e2⟩
theorem tabS_map {kvs : List (Str × Value)} (T : TabS X.K X.w d kvs) (I : Inv X pins σ H s) : s.heap.MapOf (PySem.strKind X.prog X.w) d (lookS kvs) := by
  obtain ⟨l, n, hl, t⟩ := T.at_
  refine ⟨_, l.toArray, n, I.kIn _ _ hl, ⟨rfl, rfl, rfl⟩, rfl, fun e he => ?_, fun k => t.find k⟩
  obtain ⟨i, tk, e1, e2⟩ := t.keys e (by simpa using he)
  exact ⟨i, by rw [e1]; exact PySem.strKind_is X.prog X.w i tk, e2⟩
theorem op_in_ti {kvs : List (Int × Value)} (T : TabI X.K d kvs) : OpR X (compareOp .In) (fun x y H Q => ∃ i, x = .int i ∧ y = .ref d ∧ Q (.bl (lookI kvs i).isSome) H) := by
  intro pins s σ H x y v u Q I rx ry h
  obtain ⟨i, rfl, rfl, q⟩ := h
  obtain ⟨t, rfl⟩ := rx
  cases ry
  exact wpAny_in_of (PySem.intKind_is X.prog X.w i t) T.low (tabI_map T I) ⟨.bl _, H, I.tok _, rfl, q⟩
theorem op_in_ts {kvs : List (Str × Value)} (T : TabS X.K X.w d kvs) : OpR X (compareOp .In) (fun x y H Q => ∃ z, x = .str z ∧ y = .ref d ∧ Q (.bl (lookS kvs z).isSome) H) := by
  intro pins s σ H x y v u Q I rx ry h
  obtain ⟨z, rfl, rfl, q⟩ := h
  obtain ⟨t, rfl⟩ := rx
  cases ry
  exact wpAny_in_of (PySem.strKind_is X.prog X.w z t) T.low (tabS_map T I) ⟨.bl _, H, I.tok _, rfl, q⟩
theorem ix_ti {kvs : List (Int × Value)} (T : TabI X.K d kvs) : IxR X (fun x y H Q => ∃ i u v, x = .ref d ∧ y = .int i ∧ lookI kvs i = some u ∧ RelV v u ∧ Q v H) := by
  intro value slice pins s σ H x y v u Q I rx ry h hs
  obtain ⟨i, u0, r, rfl, rfl, e, ru, q⟩ := h
  obtain rfl : v = Value.ref d := rx
  obtain ⟨t, rfl⟩ := ry
  have hm := tabI_map T I
  exact tail_any hm.typeIs slot_dict_getitem.lookup (wpAny_getItem_of (PySem.intKind_is X.prog X.w i t) hm e ⟨r, H, I.tok _, ru, q⟩) hs
theorem ix_ts {kvs : List (Str × Value)} (T : TabS X.K X.w d kvs) : IxR X (fun x y H Q => ∃ z u v, x = .ref d ∧ y = .str z ∧ lookS kvs z = some u ∧ RelV v u ∧ Q v H) := by
  intro value slice pins s σ H x y v u Q I rx ry h hs
  obtain ⟨z, u0, r, rfl, rfl, e, ru, q⟩ := h
  obtain rfl : v = Value.ref d := rx
  obtain ⟨t, rfl⟩ := ry
  have hm := tabS_map T I
  exact tail_any hm.typeIs slot_dict_getitem.lookup (wpAny_getItem_of (PySem.strKind_is X.prog X.w z t) hm e ⟨r, H, I.tok _, ru, q⟩) hs
end
/-! the tables of this program -/
theorem prime_tab {us : List Value} {v1 v2 v3 v4 v5 v6 : Value} (i : Int) : (lookI [(2, v1), (3, v2), (5, v3), (7, v4), (11, v5), (13, v6)] i).isSome = decide (i ∈ primesL) := by
  unfold lookI primesL
  by_cases h : i ∈ ([2, 3, 5, 7, 11, 13] : List Int)
  · rw [decide_eq_true h]
    simp only [List.mem_cons, List.not_mem_nil, or_false] at h
    rcases h with e | e | e | e | e | e <;> subst e <;> rfl
  · rw [decide_eq_false h]
    simp only [List.mem_cons, List.not_mem_nil, or_false, not_or] at h
    obtain ⟨a, b, c, d, e, f⟩ := h
    have z : ∀ j : Int, ¬ i = j → (j == i) = false := fun j q => by simp; exact fun y => q y.symm
    simp [List.find?, z 2 a, z 3 b, z 5 c, z 7 d, z 11 e, z 13 f]
def isArr (c : Nat) : Bool := c == 62 || c == 60
theorem arr_tab {v1 v2 : Value} (c : Nat) : (lookS [(">", v1), ("<", v2)] ⟨#[c]⟩).isSome = isArr c := by
  unfold lookS isArr
  by_cases h1 : c = 62
  · subst h1; rfl
  · by_cases h2 : c = 60
    · subst h2; rfl
    · have z1 : ((">" : Str) == (⟨#[c]⟩ : Str)) = false := by
        refine beq_eq_false_iff_ne.mpr fun e => h1 ?_
        have := congrArg (fun x : Str => x.cps[0]?) e
        exact (Option.some.inj this).symm
      have z2 : (("<" : Str) == (⟨#[c]⟩ : Str)) = false := by
        refine beq_eq_false_iff_ne.mpr fun e => h2 ?_
        have := congrArg (fun x : Str => x.cps[0]?) e
        exact (Option.some.inj this).symm
      simp [List.find?, z1, z2, h1, h2]
end Rw

set_option Elab.async false
set_option linter.all false
set_option maxRecDepth 100000
set_option maxHeartbeats 4000000
/-! TkM: boxes, new data, what a law looks at. -/
namespace Rw
open PySem PySem.Spec PyProof.Rows L2
/-- any int of the script, or a number of the law's own -/
def spCellR (K : PySem.W.Frag) : Sp := fun vs H Q _ => ∃ (a : Addr) (ns : List Int) (j : Nat), vs = [.ref a, .int (j : Int)] ∧ SqL K H a (ns.map V.int) ∧ j < 1000 ∧ ∀ z : Int, Q (.int z) H
/-- at p a box that was drawn from at most n times -/
def Bx (H : Hp) (p : Addr) (n : Nat) : Prop := ∃ a b c : Int, H p = some (.lst [.int a, .int b, .int c]) ∧ 0 ≤ a ∧ 0 ≤ b ∧ b < 2147483629 ∧ 0 ≤ c ∧ c ≤ (n : Int)
theorem Bx.more {H : Hp} {p : Addr} {n m : Nat} (h : Bx H p n) (l : n ≤ m) : Bx H p m := by
  obtain ⟨a, b, c, h1, h2, h3, h4, h5, h6⟩ := h
  exact ⟨a, b, c, h1, h2, h3, h4, h5, by omega⟩
theorem Bx.keep {H H' : Hp} {p : Addr} {n : Nat} (h : Bx H p n) (k : Same H H') : Bx H' p n := by
  obtain ⟨a, b, c, h1, r⟩ := h
  exact ⟨a, b, c, k _ _ h1, r⟩
theorem Bx.ne {H : Hp} {p q : Addr} {n : Nat} (h : Bx H p n) (hq : H q = none) : p ≠ q := by
  obtain ⟨a, b, c, h1, _⟩ := h
  exact ne_of_none h1 hq
def spBoxR : Sp := fun vs H Q _ => ∃ z : Int, vs = [.int z] ∧ ∀ p H', H p = none → Same H H' → Bx H' p 0 → Q (.ref p) H'
def spTakeR : Sp := fun vs H Q _ => ∃ (p : Addr) (m : Int) (n : Nat), vs = [.ref p, .int m] ∧ 0 < m ∧ m < 2 ^ 200 ∧ Bx H p n ∧ n ≤ 1000000 ∧ ∀ r H', 0 ≤ r → r < m → Grow p H H' → Bx H' p (n + 1) → Q (.int r) H'
theorem fdiv_nonneg' {a m : Int} (h : 0 ≤ a) (hm : 0 < m) : 0 ≤ a / m := Int.ediv_nonneg h (by omega)
/-- the odd things, as data -/
def oddL : List PyData := [.none, .bool true, .bool false, .str "1", .str "", .tuple [], .list [], .tuple [.int 1], .list [.int 0], .dict [], .dict [(.str "a", .int 1)], .int (-1), .int (10 ^ Int.toNat 29), .int (-(10 ^ Int.toNat 29)), .tuple [.tuple [.int 1]], .str "><"]
theorem AnyL.get {H : Hp} : ∀ {vs : List V} {ds : List PyData}, AnyL H vs ds → ∀ i, i < ds.length → ∃ v d, vs[i]? = some v ∧ d ∈ ds ∧ Any H v d
  | _, _, .nil, i, h => absurd h (Nat.not_lt_zero i)
  | _, _, .cons a _, 0, _ => ⟨_, _, rfl, List.mem_cons_self, a⟩
  | _, _, .cons _ b, i + 1, h => by
    obtain ⟨v, d, h1, h2, h3⟩ := AnyL.get b i (Nat.lt_of_succ_lt_succ h)
    exact ⟨v, d, h1, List.mem_cons_of_mem _ h2, h3⟩
/-- what is new in H' -/
def nw (H H' : Hp) : Hp := fun a => if H a = none then H' a else none
theorem nw_put {H H' : Hp} {q : Addr} {o : HO} (h : H q = none) : nw H (upd H' q o) q = some o := by
  show (if H q = none then (upd H' q o) q else none) = _
  rw [if_pos h, upd_same]
theorem nw_same {H H1 H2 : Hp} (k : Same H1 H2) : Same (nw H H1) (nw H H2) := fun b o e => by
  have e' : (if H b = none then H1 b else none) = some o := e
  show (if H b = none then H2 b else none) = some o
  by_cases z : H b = none
  · rw [if_pos z] at e' ⊢
    exact k _ _ e'
  · rw [if_neg z] at e'
    cases e'
theorem nw_grow {H H1 H2 : Hp} {p : Addr} {o : HO} (hp : H p = some o) (k : Grow p H1 H2) : Same (nw H H1) (nw H H2) := fun b u e => by
  have e' : (if H b = none then H1 b else none) = some u := e
  show (if H b = none then H2 b else none) = some u
  by_cases z : H b = none
  · rw [if_pos z] at e' ⊢
    exact k _ _ (fun y => by rw [y, hp] at z; cases z) e'
  · rw [if_neg z] at e'
    cases e'
theorem nw_sub {H H' : Hp} : Same (nw H H') H' := fun b o e => by
  have e' : (if H b = none then H' b else none) = some o := e
  by_cases z : H b = none
  · rw [if_pos z] at e'
    exact e'
  · rw [if_neg z] at e'
    cases e'
theorem nw_del {H H' : Hp} {p : Addr} {o : HO} (hp : H p = some o) : Same (nw H H') (del H' p) := fun b u e => by
  have e' : (if H b = none then H' b else none) = some u := e
  by_cases z : H b = none
  · rw [if_pos z] at e'
    have ne : b ≠ p := fun y => by rw [y, hp] at z; cases z
    rw [del_ne ne]
    exact e'
  · rw [if_neg z] at e'
    cases e'
/-- some odd thing, all new -/
def spOddN : Sp := fun vs H Q _ => ∃ (p : Addr) (n : Nat), vs = [.ref p] ∧ Bx H p n ∧ n ≤ 1000000 ∧ ∀ v d H', d ∈ oddL → Any (nw H H') v d → Grow p H H' → Bx H' p (n + 1) → Q v H'
def spWholeR : Sp := fun vs H Q _ => ∃ v d, vs = [v] ∧ Any H v d ∧ Q (.bl (isIntD d)) H
/-! ### a list held against [] -/
def rNilE : R2 := fun x y H Q => ∃ a b xs, x = .ref a ∧ y = .ref b ∧ H a = some (.lst xs) ∧ H b = some (.lst []) ∧ Q (.bl xs.isEmpty) H
theorem op_eq_nil {X : Cx} (hu : X.A.units < cLine) : OpR X (compareOp .Eq) rNilE := by
  intro pins s σ H x y v u Q I rx ry h
  obtain ⟨a, b, xs, rfl, rfl, ea, eb, q⟩ := h
  obtain rfl : v = Value.ref a := rx
  obtain rfl : u = Value.ref b := ry
  obtain ⟨its, ra, pa, _⟩ := I.list (SqL.of ea)
  obtain ⟨its2, rb, pb, _⟩ := I.list (SqL.of eb)
  cases rb
  have ln := ra.length
  cases xs with
  | nil =>
    cases ra
    exact SeqAt.eq_listAt (e := fun _ => true) pa.isList pb.isList rfl hu (fun j h1 h2 => absurd h1 (Nat.not_lt_zero j)) ⟨.bl true, H, I, rfl, q⟩
  | cons z zs =>
    refine SeqAt.eq_list_lengthsAt pa.isList pb.isList ?_ hu ⟨.bl false, H, I, rfl, q⟩
    simp
    intro e
    rw [e] at ln
    cases ln
/-- some of the items, by a test of each; what is asked is whether there are any -/
theorem lc_filter {J : It} {n : Nat} {G : Hp → Prop} {P : Nat → V → Prop} (w : Walk J n G (fun i H x H' => H' = H ∧ P i x)) {j : Nat} {σ : L2.St} {vs : List Nat} {tt : TT} {te : TE} {H1 : Hp} {D : Addr} {Q : Hp → Prop} (hn : n ≤ 1000) (hD : H1 D = none) (hG : ∀ H, Same H1 H → G H) (f : Nat → Bool)
    (hs : ∀ i x H, i < n → P i x → Same H1 H → wipe ((wipe σ vs).set j (some x)) vs = wipe σ vs ∧ (∀ k : Bool → Hp → Prop, (∀ H', Same H H' → k (f i) H') → tt ((wipe σ vs).set j (some x)) H k) ∧ ∀ (k : VK) (H' : Hp), k x H' → te ((wipe σ vs).set j (some x)) H' k)
    (hq : ∀ H acc, Same H1 H → H D = some (.lst acc) → acc.isEmpty = (List.range n).all (fun i => !f i) → Q H) :
    ∃ W : Nat → Nat → Hp → Prop, (∃ m, W 0 m (upd H1 D (.lst []))) ∧ ∀ i m H, W i m H →
      (J.stop i H ∧ Q H) ∨ (J.go i H ∧ ∃ Nx : Hp → Prop, (∀ H', Nx H' → ∃ m', m' < m ∧ W (i + 1) m' H') ∧ ∀ x H', J.yld i H x H' → gName j x (wipe σ vs) H' fun σ2 H2 => wipe σ2 vs = wipe σ vs ∧ tt σ2 H2 fun b H3 =>
        if b = true then te σ2 H3 fun y H4 => ∃ acc, H4 D = some (.lst acc) ∧ acc.length < sizeLine ∧ Nx (upd H4 D (.lst (acc ++ [y]))) else Nx H3) := by
  refine lc_it w (Qd := Q) (Pv := fun i H => Same H1 H ∧ ∃ acc, H D = some (.lst acc) ∧ acc.length ≤ i ∧ acc.isEmpty = (List.range i).all (fun i => !f i)) ⟨same_new hD, [], upd_same, Nat.le_refl _, rfl⟩ (fun i H _ h => hG H h.1) ?_ ?_
  · rintro i x H H' hi ⟨s1, acc, ha, hl, ea⟩ ⟨rfl, hp⟩
    obtain ⟨e1, e2, e3⟩ := hs i x H' hi hp s1
    refine ⟨e1, e2 _ fun H4 s2 => ?_⟩
    cases fi : f i with
    | true =>
      refine iteT (e3 _ _ ⟨acc, s2 _ _ ha, Nat.lt_of_lt_of_le (by omega : acc.length < 1000) (by decide), ?_, acc ++ [x], upd_same, by rw [List.length_append]; exact Nat.succ_le_succ hl, ?_⟩)
      · intro b o e
        have ne : b ≠ D := ne_of_none e hD
        rw [upd_ne ne]
        exact s2 _ _ (s1 _ _ e)
      · rw [List.range_succ, List.all_append]
        simp [fi]
    | false =>
      refine iteF ⟨s1.trans s2, acc, s2 _ _ ha, by omega, ?_⟩
      rw [ea, List.range_succ, List.all_append]
      simp [fi]
  · rintro H ⟨s1, acc, ha, hl, ea⟩
    exact hq H acc s1 ha ea
theorem all_get {α : Type} (g : α → Bool) (dd : α) (l : List α) : (List.range l.length).all (fun i => g (l[i]?.getD dd)) = l.all g := by
  have e := congrArg (fun z : List Bool => z.all id) (map_get g dd l)
  simpa [List.all_map, Function.comp_def] using e
/-- None or an int -/
def oV : Option Int → V
  | none => .non | some n => .int n
def spRowR : Sp := fun vs H Q _ => ∃ v d wo, vs = [v, oV wo] ∧ Any H v d ∧ (itemsD d).length ≤ 1000 ∧ ∀ H', Same H H' → Q (.bl (isVecD (wo.getD (itemsD d).length) d)) H'
def spSheetR : Sp := fun vs H Q _ => ∃ v d ho w, vs = [v, oV ho, .int w] ∧ Any H v d ∧ Fit d ∧ ∀ H', Same H H' → Q (.bl (isMatD (ho.getD (itemsD d).length) w d)) H'
end Rw

set_option Elab.async false
set_option linter.all false
set_option maxRecDepth 100000
set_option maxHeartbeats 4000000
/-! TkT: rows as data: patterns, sizes, matrices; the promises of the program's defs about them. -/
namespace Rw
open PySem PySem.Spec PyProof.Rows L2

def intN : PyData → Int
  | .int n => n | _ => 0
def isPatD : PyData → Bool
  | .str x => decide (x.length ≤ 6) && x.cps.toList.all isArr
  | _ => false
def aboveD (n : Int) : PyData → Bool
  | .int l => decide (l ≤ n)
  | _ => true
def belowD (n : Int) : PyData → Bool
  | .int l => decide (n ≤ l)
  | _ => true
def inB : PyData → PyData → PyData → Bool
  | .int n, l, h => aboveD n l && belowD n h
  | _, _, _ => false
def isSzD (d : PyData) : Bool := inB d (.int 0) (.int 6)
def sizesOk (k : Nat) (d : PyData) : Bool := isSeqD d && (decide ((itemsD d).length = k + 1) && (itemsD d).all isSzD)
def mapsOk (k : Nat) (d : PyData) : Bool := isSeqD d && decide ((itemsD d).length = k)
def atD (d : PyData) (i : Nat) : PyData := (itemsD d)[i]?.getD .none
def isR (x : Str) (i : Nat) : Bool := x.cps.toList[i]? == some 62
def stA (x : Str) (i : Nat) : Nat := if isR x i then i else i + 1
def goA (x : Str) (i : Nat) : Nat := if isR x i then i + 1 else i
def szL (d : PyData) (i : Nat) : Int := intN (atD d i)
def matOk (x : Str) (ds dm : PyData) (i : Nat) : Bool := isMatD (szL ds (stA x i)) (szL ds (goA x i)) (atD dm i)
def badAt (x : Str) (ds dm : PyData) : Option Nat := (List.range x.length).find? fun i => !matOk x ds dm i
/-- the items modulo p -/
def modD (p : Int) : PyData → PyData
  | .int n => .int (n.fmod p) | d => d
def rowsM (p : Int) (m : PyData) : List PyData := (itemsD m).map fun r => .tuple ((itemsD r).map (modD p))
structure FitM (d : PyData) : Prop where
  len : (itemsD d).length ≤ 1000
  sub : ∀ e, e ∈ itemsD d → Fit e
theorem atD_fit {d : PyData} (f : FitM d) {i : Nat} (h : i < (itemsD d).length) : Fit (atD d i) := by
  unfold atD
  rw [List.getElem?_eq_getElem h]
  exact f.sub _ (List.getElem_mem h)
/-- a row: an instance of the class at C -/
def RowAt (C : Addr) (H : Hp) (a : Addr) (x : Str) (p : Int) (ss : List PyData) (mm : List (List PyData)) : Prop :=
  ∃ dx ts tm, H a = some (.ins C dx [("_pattern", .str x), ("_prime", .int p), ("_sizes", .ref ts), ("_maps", .ref tm)]) ∧ Any H (.ref ts) (.tuple ss) ∧ Any H (.ref tm) (.tuple (mm.map .tuple))
theorem RowAt.keep {C a : Addr} {H H' : Hp} {x : Str} {p : Int} {ss : List PyData} {mm : List (List PyData)} (r : RowAt C H a x p ss mm) (k : Same H H') : RowAt C H' a x p ss mm := by
  obtain ⟨dx, ts, tm, h1, h2, h3⟩ := r
  exact ⟨dx, ts, tm, k _ _ h1, h2.keep k, h3.keep k⟩

/-! ### the promises -/
def spNum : Sp := fun vs H Q _ => ∃ v d, vs = [v] ∧ Any H v d ∧ Q (.bl (isIntD d)) H
def spInt : Sp := fun vs H Q _ => ∃ v l h d dl dh, vs = [v, l, h] ∧ Any H v d ∧ Any H l dl ∧ Any H h dh ∧ Q (.bl (inB d dl dh)) H
def spPrime : Sp := fun vs H Q _ => ∃ v d, vs = [v] ∧ Any H v d ∧ Q (.bl (isPr d)) H
def spCheck (CP : Addr) : Sp := fun vs H Q E => ∃ v d, vs = [v] ∧ Any H v d ∧ (isPr d = true → Q .non H) ∧ (isPr d = false → Thrown CP v H E)
def spList : Sp := fun vs H Q _ => ∃ v d, vs = [v] ∧ Any H v d ∧ ∀ H', Same H H' → Q (.bl (isSeqD d)) H'
def spVec : Sp := fun vs H Q _ => ∃ v d n, vs = [v, .int n] ∧ Any H v d ∧ (itemsD d).length ≤ 1000 ∧ ∀ H', Same H H' → Q (.bl (isVecD n d)) H'
def spMat : Sp := fun vs H Q _ => ∃ v d h w, vs = [v, .int h, .int w] ∧ Any H v d ∧ Fit d ∧ ∀ H', Same H H' → Q (.bl (isMatD h w d)) H'
theorem seq_flag {v : V} {H : Hp} {d : PyData} (h : Any H v d) : (isSeqD d = true ∧ ∃ (k : Bool) (a : Addr) (xs : List V), v = .ref a ∧ (∀ {H' : Hp}, Same H H' → ∀ K, SqB K H' k a xs) ∧ AnyL H xs (itemsD d)) ∨ isSeqD d = false := by
  cases e : isSeqD d with
  | true => exact .inl ⟨rfl, seq_of h e⟩
  | false => exact .inr rfl
theorem Thrown.mono {C : Addr} {v : V} {H H1 : Hp} {E : XK} (h : Thrown C v H E) (k : Same H H1) : Thrown C v H1 E := fun d H' s hd hx => h d H' (k.trans s) (k.free hd) hx
/-- texts that are asked are no longer than a line -/
def Short (d : PyData) : Prop := ∀ x, d = .str x → x.length ≤ 1000
def spPat : Sp := fun vs H Q _ => ∃ v d, vs = [v] ∧ Any H v d ∧ Short d ∧ ∀ H', Same H H' → Q (.bl (isPatD d)) H'
def spCPat (CT : Addr) : Sp := fun vs H Q E => ∃ v d, vs = [v] ∧ Any H v d ∧ Short d ∧ (isPatD d = true → ∀ H', Same H H' → Q .non H') ∧ (isPatD d = false → Thrown CT v H E)
def spCSz (CZ : Addr) : Sp := fun vs H Q E => ∃ x v d, vs = [.str x, v] ∧ x.length ≤ 6 ∧ Any H v d ∧ (itemsD d).length ≤ 1000 ∧ (sizesOk x.length d = true → ∀ H', Same H H' → Q .non H') ∧ (sizesOk x.length d = false → Thrown CZ v H E)
def spWay : Sp := fun vs H Q _ => ∃ (x : Str) (i : Nat), vs = [.str x, .int (i : Int)] ∧ i < x.length ∧ x.length ≤ 6 ∧ ∀ t H', H t = none → Same H H' → H' t = some (.tup [.int (stA x i : Nat), .int (goA x i : Nat)]) → Q (.ref t) H'
def spCMaps (CA CM : Addr) : Sp := fun vs H Q E => ∃ x va vm ds dm, vs = [.str x, va, vm] ∧ x.length ≤ 6 ∧ Any H va ds ∧ sizesOk x.length ds = true ∧ Any H vm dm ∧ FitM dm ∧
  (mapsOk x.length dm = false → Thrown CA vm H E) ∧ (mapsOk x.length dm = true → (∀ i v H1, badAt x ds dm = some i → Same H H1 → Any H1 v (atD dm i) → Thrown CM v H1 E) ∧ (badAt x ds dm = none → ∀ H', Same H H' → Q .non H'))
/-- what Row(pattern, prime, sizes, maps) asks and tells -/
structure RowIn (H : Hp) (vp vq va vm : V) (dp dq ds dm : PyData) : Prop where
  ap : Any H vp dp
  aq : Any H vq dq
  as : Any H va ds
  am : Any H vm dm
  sp : Short dp
  ls : (itemsD ds).length ≤ 1000
  fm : FitM dm
structure RowErr (CT CP CZ CA CM : Addr) (H : Hp) (E : XK) (vp vq va vm : V) (dp dq ds dm : PyData) : Prop where
  pat : isPatD dp = false → Thrown CT vp H E
  pri : isPatD dp = true → isPr dq = false → Thrown CP vq H E
  siz : ∀ x, dp = .str x → isPatD dp = true → isPr dq = true → sizesOk x.length ds = false → Thrown CZ va H E
  map : ∀ x, dp = .str x → isPatD dp = true → isPr dq = true → sizesOk x.length ds = true → mapsOk x.length dm = false → Thrown CA vm H E
  mat : ∀ x i v H1, dp = .str x → isPatD dp = true → isPr dq = true → sizesOk x.length ds = true → mapsOk x.length dm = true → badAt x ds dm = some i → Same H H1 → Any H1 v (atD dm i) → Thrown CM v H1 E
def rowGood (x : Str) (p : Int) (ds dm : PyData) : Bool := isPatD (.str x) && (isPr (.int p) && (sizesOk x.length ds && (mapsOk x.length dm && (badAt x ds dm).isNone)))
def spIniR (C CT CP CZ CA CM : Addr) : Sp := fun vs H Q E => ∃ a dx vp vq va vm dp dq ds dm, vs = [.ref a, vp, vq, va, vm] ∧ H a = some (.ins C dx []) ∧ RowIn H vp vq va vm dp dq ds dm ∧ RowErr CT CP CZ CA CM H E vp vq va vm dp dq ds dm ∧
  ∀ x p H', dp = .str x → dq = .int p → rowGood x p ds dm = true → Grow a H H' → RowAt C H' a x p (itemsD ds) ((itemsD dm).map (rowsM p)) → Q .non H'
/-- the same of the call Row(..) -/
def tRowMk (C CT CP CZ CA CM : Addr) (H : Hp) (vs : List V) (Q : VK) (E : XK) : Prop := ∃ vp vq va vm dp dq ds dm, vs = [vp, vq, va, vm] ∧ RowIn H vp vq va vm dp dq ds dm ∧ RowErr CT CP CZ CA CM H E vp vq va vm dp dq ds dm ∧
  ∀ x p a H', dp = .str x → dq = .int p → rowGood x p ds dm = true → H a = none → Same H H' → RowAt C H' a x p (itemsD ds) ((itemsD dm).map (rowsM p)) → Q (.ref a) H'
theorem row_make {C CT CP CZ CA CM : Addr} {H : Hp} {vs : List V} {Q : VK} {E : XK} (h : tRowMk C CT CP CZ CA CM H vs Q E) : ∀ x dx, H x = none → H dx = none → dx ≠ x →
    spIniR C CT CP CZ CA CM (.ref x :: (vs ++ [])) (upd (upd H dx (.own x)) x (.ins C dx [])) (fun v H2 => v = .non ∧ Q (.ref x) H2) E := by
  obtain ⟨vp, vq, va, vm, dp, dq, ds, dm, rfl, i, e, q⟩ := h
  intro x dx hx hd ne
  have k1 : Same H (upd H dx (.own x)) := same_new hd
  have h2 : (upd H dx (.own x)) x = none := by rw [upd_ne ne.symm]; exact hx
  have k : Same H (upd (upd H dx (.own x)) x (.ins C dx [])) := k1.trans (same_new h2)
  refine ⟨x, dx, vp, vq, va, vm, dp, dq, ds, dm, rfl, upd_same, ⟨i.ap.keep k, i.aq.keep k, i.as.keep k, i.am.keep k, i.sp, i.ls, i.fm⟩, ⟨fun z => (e.pat z).mono k, fun z y => (e.pri z y).mono k, fun a b c d f => (e.siz a b c d f).mono k, fun a b c d f g => (e.map a b c d f g).mono k, fun y j v H1 h1 h2 h3 h4 h5 h6 h7 h8 => e.mat y j v H1 h1 h2 h3 h4 h5 h6 (k.trans h7) h8⟩, ?_⟩
  · intro y p H' e1 e2 g gr ra
    refine ⟨rfl, q y p x H' e1 e2 g hx (fun b o eb => ?_) ra⟩
    have nb : b ≠ x := ne_of_none eb hx
    exact gr b o nb (k _ _ eb)
end Rw

set_option Elab.async false
set_option linter.all false
set_option maxRecDepth 100000
set_option maxHeartbeats 4000000
/-! K57A: the program's looks at numbers, vectors, matrices, patterns. -/
namespace K57
open PySem PySem.Spec PyProof.Rows L2 Rw
def top (i : Nat) : Stmt := PySem.Challenge.pw_maprows_k57_streams_as_a_model.main.body.getD i (.Pass ⟨0, 0, 0, 0⟩)
abbrev sNum : Stmt := top 18
abbrev sInt : Stmt := top 19
abbrev sPrime : Stmt := top 20
abbrev sCheck : Stmt := top 21
abbrev sList : Stmt := top 22
abbrev sVec : Stmt := top 23
abbrev sMat : Stmt := top 24
abbrev sPat : Stmt := top 28
abbrev sCPat : Stmt := top 29
abbrev sCSz : Stmt := top 31
abbrev sWay : Stmt := top 34
theorem scNum : FnScope ["value"] ["value"] (defScope sNum) := ⟨rfl, rfl, rfl, by decide +kernel, rfl, by decide +kernel, by decide +kernel⟩
theorem scInt : FnScope ["value", "low", "high"] ["value", "low", "high"] (defScope sInt) := ⟨rfl, rfl, rfl, by decide +kernel, rfl, by decide +kernel, by decide +kernel⟩
theorem scPrime : FnScope ["value"] ["value"] (defScope sPrime) := ⟨rfl, rfl, rfl, by decide +kernel, rfl, by decide +kernel, by decide +kernel⟩
theorem scCheck : FnScope ["prime"] ["prime"] (defScope sCheck) := ⟨rfl, rfl, rfl, by decide +kernel, rfl, by decide +kernel, by decide +kernel⟩
theorem scList : FnScope ["value"] ["value"] (defScope sList) := ⟨rfl, rfl, rfl, by decide +kernel, rfl, by decide +kernel, by decide +kernel⟩
theorem scVec : FnScope ["value", "length", "item"] ["value", "length"] (defScope sVec) := ⟨rfl, rfl, rfl, by decide +kernel, rfl, by decide +kernel, by decide +kernel⟩
theorem scMat : FnScope ["value", "height", "width", "row"] ["value", "height", "width"] (defScope sMat) := ⟨rfl, rfl, rfl, by decide +kernel, rfl, by decide +kernel, by decide +kernel⟩
theorem scPat : FnScope ["value", "arrow"] ["value"] (defScope sPat) := ⟨rfl, rfl, rfl, by decide +kernel, rfl, by decide +kernel, by decide +kernel⟩
theorem scCPat : FnScope ["pattern"] ["pattern"] (defScope sCPat) := ⟨rfl, rfl, rfl, by decide +kernel, rfl, by decide +kernel, by decide +kernel⟩
theorem scCSz : FnScope ["pattern", "sizes", "size"] ["pattern", "sizes"] (defScope sCSz) := ⟨rfl, rfl, rfl, by decide +kernel, rfl, by decide +kernel, by decide +kernel⟩
theorem scWay : FnScope ["pattern", "index"] ["pattern", "index"] (defScope sWay) := ⟨rfl, rfl, rfl, by decide +kernel, rfl, by decide +kernel, by decide +kernel⟩

/-- what the top has left for the program's defs -/
structure Txt (K : PySem.W.Frag) (w : World) (mg : Str → Option Value) (aI aT CP CT CZ CA CM CL : Addr) (kI : List (Int × Value)) (kT : List (Str × Value)) : Prop where
  isi : mg "isinstance" = none
  int : mg "int" = none
  bool : mg "bool" = none
  str : mg "str" = none
  list : mg "list" = none
  tuple : mg "tuple" = none
  len : mg "len" = none
  all : mg "all" = none
  range : mg "range" = none
  enum : mg "enumerate" = none
  gI : mg "INVERSES" = some (.ref aI)
  tI : TabI K aI kI
  hI : ∀ i, (lookI kI i).isSome = decide (i ∈ primesL)
  gT : mg "TURNED" = some (.ref aT)
  tT : TabS K w aT kT
  hT : ∀ c, (lookS kT ⟨#[c]⟩).isSome = isArr c
  gM : ∃ t, mg "MOST" = some (.int 6 t)
  eP : Err K mg "InvalidPrime" CP
  eT : Err K mg "InvalidPattern" CT
  eZ : Err K mg "InvalidSizes" CZ
  eA : Err K mg "InvalidMaps" CA
  eM : Err K mg "InvalidMatrix" CM
  eL : Err K mg "InvalidPlace" CL
section
variable {P : Program} {w : World} {K : PySem.W.Frag} {mg : Str → Option Value} {base : Heap} {aI aT CP CT CZ CA CM CL : Addr} {kI : List (Int × Value)} {kT : List (Str × Value)}
theorem okNum {f : Addr} {fd : FuncData} (F : Fun K "is_number" "is_number" sNum f fd) (T : Txt K w mg aI aT CP CT CZ CA CM CL kI kT) : FnOk P w K mg base CX0 1 f fd ["value"] spNum := by
  refine F.ok scNum (fun vs H Q E h => ?_) (fun cdv A outer s H vs Q E hr h => ?_)
  · obtain ⟨v, d, rfl, _⟩ := h
    rfl
  · obtain ⟨v, d, rfl, an, q⟩ := h
    refine ⟨_, (pss_one (ps_ret (pe_and (pe_callB call_isi (by rfl) T.isi (by decide +kernel) (pa_cons (pv 0) (pa_cons (pe_bltn (v := .ty "int") rfl T.int boot_int rfl) pa_nil))) (pe_one (pe_not (pe_callB call_isi (by rfl) T.isi (by decide +kernel) (pa_cons (pv 0) (pa_cons (pe_bltn (v := .ty "bool") rfl T.bool (by decide +kernel) rfl) pa_nil)))))))), ?_⟩
    refine ⟨v, rfl, v, .ty "int", _, _, _, rfl, .ty _, any_ty an, kit_int d, _, rfl, ?_⟩
    cases an with
    | bl b => exact iteT ⟨_, rfl, _, .ty "bool", _, _, _, rfl, .ty _, any_ty (.bl b), kit_bool (.bool b), _, rfl, q⟩
    | int i => exact iteT ⟨_, rfl, _, .ty "bool", _, _, _, rfl, .ty _, any_ty (.int i), kit_bool (.int i), _, rfl, q⟩
    | _ => exact iteF q
theorem okInt {f : Addr} {fd : FuncData} (F : FunD K "is_integer" "is_integer" (defArgs sInt) (defBody sInt) (defScope sInt) [.non, .non] [] f fd) (GN : Own P w K mg base CX0 1 "is_number" ["value"] [] spNum) :
    FnOk P w K mg base CX0 2 f fd ["value", "low", "high"] spInt := by
  refine F.ok scInt (fun vs H Q E h => ?_) (fun cdv A outer s H vs Q E hr h => ?_)
  · obtain ⟨v, l, h, d, dl, dh, rfl, _⟩ := h
    rfl
  · obtain ⟨v, l, h, d, dl, dh, rfl, an, al, ah, q⟩ := h
    refine ⟨_, (pss_cons (ps_if (pt_not (pt_val (pe_own GN hr pass0 (pa_cons (pv 0) pa_nil)))) (pss_one (ps_ret pe_bl)) pss_nil)
      (pss_cons (ps_if (PW.pt (pw_and (pt_val (pe_own GN hr pass0 (pa_cons (pv 1) pa_nil))) (pw_and1 (pt_cmpR op_lt (pv 0) (pv 1) (nomark _))))) (pss_one (ps_ret pe_bl)) pss_nil)
      (pss_one (ps_ret (pe_not (pe_and (pe_own GN hr pass0 (pa_cons (pv 2) pa_nil)) (pe_one (pe_cmpR op_gt (pv 0) (pv 2) (nomark _))))))))), ?_⟩
    refine ⟨_, rfl, _, d, rfl, an, _, rfl, ?_⟩
    cases ed : isIntD d with
    | false =>
      refine iteT ?_
      have e : inB d dl dh = false := by cases d <;> first | rfl | cases ed
      rw [e] at q
      exact q
    | true =>
      obtain ⟨n, rfl, rfl⟩ := int_of an ed
      refine iteF ⟨_, rfl, _, dl, rfl, al, _, rfl, ?_⟩
      have last : aboveD n dl = true → tRet (tNotV (tAndV (tCall spNum [] E0 (tCons (tVar 2) tNil)) (tOp (rI0 fun i j => .bl (decide (j < i))) (tVar 0) (tVar 2)))) { nx := fun _ H' => Q .non H', rt := Q } (start ["value", "low", "high"] [.int n, l, h]) H := by
        intro ea
        refine ⟨_, rfl, _, dh, rfl, ah, _, rfl, ?_⟩
        cases eh : isIntD dh with
        | false =>
          refine iteF ⟨_, rfl, ?_⟩
          have e : inB (.int n) dl dh = true := by
            show (aboveD n dl && belowD n dh) = true
            rw [ea]
            cases dh <;> first | rfl | cases eh
          rw [e] at q
          exact q
        | true =>
          obtain ⟨m, rfl, rfl⟩ := int_of ah eh
          refine iteT ⟨_, rfl, _, rfl, _, _, rfl, rfl, _, rfl, ?_⟩
          have e : inB (.int n) dl (.int m) = !decide (m < n) := by
            show (aboveD n dl && decide (n ≤ m)) = _
            rw [ea]
            by_cases z : m < n
            · rw [decide_eq_true z, decide_eq_false (by omega)] <;> rfl
            · rw [decide_eq_false z, decide_eq_true (by omega)] <;> rfl
          rw [e] at q
          exact q
      cases el : isIntD dl with
      | false =>
        refine iteF (iteF (last ?_))
        cases dl <;> first | rfl | cases el
      | true =>
        obtain ⟨m, rfl, rfl⟩ := int_of al el
        refine iteT ⟨_, rfl, _, rfl, _, _, rfl, rfl, _, rfl, ?_⟩
        refine ite2 (fun z => ?_) (fun z => last ?_)
        · have e : inB (.int n) (.int m) dh = false := by
            show (decide (m ≤ n) && belowD n dh) = false
            have z2 := of_decide_eq_true z
            rw [decide_eq_false (by omega)] <;> rfl
          rw [e] at q
          exact q
        · have z2 : ¬ n < m := fun y => z (decide_eq_true y)
          exact decide_eq_true (by omega)
theorem okPrime {f : Addr} {fd : FuncData} (F : Fun K "is_prime" "is_prime" sPrime f fd) (T : Txt K w mg aI aT CP CT CZ CA CM CL kI kT) (GN : Own P w K mg base CX0 1 "is_number" ["value"] [] spNum) : FnOk P w K mg base CX0 2 f fd ["value"] spPrime := by
  refine F.ok scPrime (fun vs H Q E h => ?_) (fun cdv A outer s H vs Q E hr h => ?_)
  · obtain ⟨v, d, rfl, _⟩ := h
    rfl
  · obtain ⟨v, d, rfl, an, q⟩ := h
    refine ⟨_, (pss_one (ps_ret (pe_and (pe_own GN hr pass0 (pa_cons (pv 0) pa_nil)) (pe_one (pe_cmpR (op_in_ti T.tI) (pv 0) (pe_glob (v := .ref aI) rfl T.gI rfl) (by rfl)))))), ?_⟩
    refine ⟨_, rfl, _, d, rfl, an, _, rfl, ?_⟩
    cases ed : isIntD d with
    | false =>
      refine iteF ?_
      have e : isPr d = false := by cases d <;> first | rfl | cases ed
      rw [e] at q
      exact q
    | true =>
      obtain ⟨n, rfl, rfl⟩ := int_of an ed
      refine iteT ⟨_, rfl, n, rfl, rfl, ?_⟩
      rw [T.hI]
      exact q
theorem okCheck {f : Addr} {fd : FuncData} (F : Fun K "check_prime" "check_prime" sCheck f fd) (T : Txt K w mg aI aT CP CT CZ CA CM CL kI kT) (GP : Own P w K mg base CX0 2 "is_prime" ["value"] [] spPrime) : FnOk P w K mg base (L2.CX P w) 4 f fd ["prime"] (spCheck CP) := by
  refine F.okX scCheck (fun vs H Q E h => ?_) (fun cdv A outer s H vs Q E hr h => ?_)
  · obtain ⟨v, d, rfl, _⟩ := h
    rfl
  · obtain ⟨v, d, rfl, an, qt, qf⟩ := h
    refine ⟨_, (pss_one (ps_if (pt_not (pt_val (pe_own GP (hr.mono (by decide)) pass0 (pa_cons (pv 0) pa_nil)))) (pss_one (ps_throw T.eP rfl (hr.mono (by decide)) (takes_of rfl rfl rfl rfl) (pv 0))) pss_nil)), ?_⟩
    refine ⟨_, rfl, _, d, rfl, an, _, rfl, ?_⟩
    cases e : isPr d with
    | true => exact iteF (qt e)
    | false => exact iteT ⟨_, rfl, thrown_go (qf e)⟩
theorem okList {f : Addr} {fd : FuncData} (F : Fun K "is_list" "is_list" sList f fd) (T : Txt K w mg aI aT CP CT CZ CA CM CL kI kT) : FnOk P w K mg base CX0 1 f fd ["value"] spList := by
  refine F.ok scList (fun vs H Q E h => ?_) (fun cdv A outer s H vs Q E hr h => ?_)
  · obtain ⟨v, d, rfl, _⟩ := h
    rfl
  · obtain ⟨v, d, rfl, an, q⟩ := h
    refine ⟨_, (pss_one (ps_ret (pe_callB call_isiT (by rfl) T.isi (by decide +kernel) (pa_cons (pv 0) (pa_cons (pe_tup (pa_cons (pe_bltn (v := .ty "list") rfl T.list (by decide +kernel) rfl) (pa_cons (pe_bltn (v := .ty "tuple") rfl T.tuple (by decide +kernel) rfl) pa_nil))) pa_nil))))), ?_⟩
    refine ⟨v, rfl, (by show 2 ≤ sizeLine; decide), fun tp htp => ?_⟩
    exact ⟨v, tp, _, _, _, _, rfl, upd_same, .cons (.ty _) (.cons (.ty _) .nil), any_ty (an.keep (same_new htp)), kit_seq d, q _ (same_new htp)⟩
abbrev tIsi (K : PySem.W.Frag) : TE := tAndV (tCB (rIsi K) (tCons (tVar 2) (tCons (tC (V.ty "int")) tNil))) (tNotV (tCB (rIsi K) (tCons (tVar 2) (tCons (tC (V.ty "bool")) tNil))))
theorem okVec {f : Addr} {fd : FuncData} (F : Fun K "is_vector" "is_vector" sVec f fd) (T : Txt K w mg aI aT CP CT CZ CA CM CL kI kT) (GL : Own P w K mg base CX0 1 "is_list" ["value"] [] spList) : FnOk P w K mg base CX0 2 f fd ["value", "length"] spVec := by
  refine F.ok scVec (fun vs H Q E h => ?_) (fun cdv A outer s H vs Q E hr h => ?_)
  · obtain ⟨v, d, n, rfl, _⟩ := h
    rfl
  · obtain ⟨v, d, n, rfl, an, sz, q⟩ := h
    refine ⟨_, (pss_one (ps_ret (pe_and (pe_own GL hr pass0 (pa_cons (pv 0) pa_nil)) (pe_and (pe_cmpR op_eq (pe_callB call_len_seq (by rfl) T.len (by decide +kernel) (pa_cons (pv 0) pa_nil)) (pv 1) (nomark _)) (pe_one (pe_callB (cr_all rfl) (by rfl) T.all (by decide +kernel) (pa_cons (pe_lc (own := [("item", 2)]) (g := gName 2) (tt := tYes) (te := tIsi K) rfl scVec.nd (pi_seq (pv 0)) (blkOk_by (N := ["value", "length", "item"]) (sc := defScope sVec) (by decide +kernel)) (fun _ _ _ _ _ => (pg_name (i := 2) scVec.nd rfl (Or.inl rfl))) (fun _ _ _ _ _ => pts_nil)
      (fun _ _ _ _ _ => (pe_and (pe_callB call_isi (by rfl) T.isi (by decide +kernel) (pa_cons (pv 2) (pa_cons (pe_bltn (v := .ty "int") rfl T.int boot_int rfl) pa_nil))) (pe_one (pe_not (pe_callB call_isi (by rfl) T.isi (by decide +kernel) (pa_cons (pv 2) (pa_cons (pe_bltn (v := .ty "bool") rfl T.bool (by decide +kernel) rfl) pa_nil)))))))) pa_nil))))))), ?_⟩
    refine ⟨v, rfl, v, d, rfl, an, fun H1 k1 => ⟨_, rfl, ?_⟩⟩
    rcases seq_flag an with ⟨e, k, a, xs, rfl, hs, al⟩ | e
    · rw [e]
      have ln := anyL_len al
      refine iteT ⟨_, rfl, a, xs, rfl, (hs k1 K).or, _, rfl, rfl, _, rfl, ?_⟩
      have hv : isVecD n d = (decide (((itemsD d).length : Int) = n) && (itemsD d).all isIntD) := by
        unfold isVecD
        rw [e] <;> rfl
      rw [hv] at q
      refine ite2 (fun z => ?_) (fun z => ?_)
      · have z1 : V.int (xs.length : Int) = V.int n := of_decide_eq_true z
        have z2 : (((itemsD d).length : Nat) : Int) = n := by
          injection z1 with z3
          rw [← ln]
          exact z3
        rw [decide_eq_true z2] at q
        refine ⟨.ref a, rfl, a, k, xs, rfl, hs k1 K, fun D hD => ?_⟩
        refine lc_same walk_seq (by omega) hD (fun H' s' => hs (k1.trans s') K) (fun i => .bool (isIntD ((itemsD d)[i]?.getD .none))) ?_ ?_
        · refine fun i x H' hi hx s1 hd => ⟨rfl, fun k' hk => ?_⟩
          obtain ⟨dx, hdx, anx⟩ := anyL_at al hx
          have ax := anx.keep (k1.trans s1)
          have fin : ∀ b, b = isIntD dx → k' (.bl b) H' := fun b eb => by
            refine hk _ _ (fun _ _ z => z) ?_
            rw [hdx, eb]
            exact .bl _
          refine ⟨x, rfl, x, .ty "int", _, _, _, rfl, .ty _, any_ty ax, kit_int dx, _, rfl, ?_⟩
          cases ax with
          | bl b => exact iteT ⟨_, rfl, _, .ty "bool", _, _, _, rfl, .ty _, any_ty (.bl b), kit_bool (.bool b), _, rfl, fin _ rfl⟩
          | int i => exact iteT ⟨_, rfl, _, .ty "bool", _, _, _, rfl, .ty _, any_ty (.int i), kit_bool (.int i), _, rfl, fin _ rfl⟩
          | _ => exact iteF (fin _ rfl)
        · refine fun H' acc s1 ha hal => ?_
          rw [ln, map_get (fun d => PyData.bool (isIntD d)) .none] at hal
          have e2 := anyL_flags hal
          refine ⟨D, _, rfl, .inl (.inl (by rw [← e2]; exact ha)), ?_⟩
          have e3 : ((itemsD d).map isIntD).all id = (itemsD d).all isIntD := by simp
          rw [e3]
          exact q _ (k1.trans s1)
      · have z2 : ¬ (((itemsD d).length : Nat) : Int) = n := fun y => z (decide_eq_true (by rw [ln, y]))
        rw [decide_eq_false z2] at q
        exact q _ k1
    · rw [e]
      have hv : isVecD n d = false := by
        unfold isVecD
        rw [e] <;> rfl
      rw [hv] at q
      exact iteF (q _ k1)
theorem okMat {f : Addr} {fd : FuncData} (F : Fun K "is_matrix" "is_matrix" sMat f fd) (T : Txt K w mg aI aT CP CT CZ CA CM CL kI kT) (GL : Own P w K mg base CX0 1 "is_list" ["value"] [] spList) (GV : Own P w K mg base CX0 2 "is_vector" ["value", "length"] [] spVec) : FnOk P w K mg base CX0 3 f fd ["value", "height", "width"] spMat := by
  refine F.ok scMat (fun vs H Q E h => ?_) (fun cdv A outer s H vs Q E hr h => ?_)
  · obtain ⟨v, d, n, m, rfl, _⟩ := h
    rfl
  · obtain ⟨v, d, n, m, rfl, an, ft, q⟩ := h
    have sz := ft.top.len
    refine ⟨_, (pss_one (ps_ret (pe_and (pe_own GL (hr.mono (by decide)) pass0 (pa_cons (pv 0) pa_nil)) (pe_and (pe_cmpR op_eq (pe_callB call_len_seq (by rfl) T.len (by decide +kernel) (pa_cons (pv 0) pa_nil)) (pv 1) (nomark _)) (pe_one (pe_callB (cr_all rfl) (by rfl) T.all (by decide +kernel) (pa_cons (pe_lc (own := [("row", 3)]) (g := gName 3) (tt := tYes) rfl scMat.nd (pi_seq (pv 0)) (blkOk_by (N := ["value", "height", "width", "row"]) (sc := defScope sMat) (by decide +kernel)) (fun _ _ _ _ _ => (pg_name (i := 3) scMat.nd rfl (Or.inl rfl))) (fun _ _ _ _ _ => pts_nil) (fun _ _ _ _ _ => (pe_own GV (hr.mono (by decide)) pass0 (pa_cons (pv 3) (pa_cons (pv 2) pa_nil))))) pa_nil))))))), ?_⟩
    refine ⟨v, rfl, v, d, rfl, an, fun H1 k1 => ⟨_, rfl, ?_⟩⟩
    rcases seq_flag an with ⟨e, k, a, xs, rfl, hs, al⟩ | e
    · rw [e]
      have ln := anyL_len al
      refine iteT ⟨_, rfl, a, xs, rfl, (hs k1 K).or, _, rfl, rfl, _, rfl, ?_⟩
      have hv : isMatD n m d = (decide (((itemsD d).length : Int) = n) && (itemsD d).all (isVecD m)) := by
        unfold isMatD
        rw [e] <;> rfl
      rw [hv] at q
      refine ite2 (fun z => ?_) (fun z => ?_)
      · have z1 : V.int (xs.length : Int) = V.int n := of_decide_eq_true z
        have z2 : (((itemsD d).length : Nat) : Int) = n := by
          injection z1 with z3
          rw [← ln]
          exact z3
        rw [decide_eq_true z2] at q
        refine ⟨.ref a, rfl, a, k, xs, rfl, hs k1 K, fun D hD => ?_⟩
        refine lc_same walk_seq (by omega) hD (fun H' s' => hs (k1.trans s') K) (fun i => .bool (isVecD m ((itemsD d)[i]?.getD .none))) ?_ ?_
        · refine fun i x H' hi hx s1 hd => ⟨rfl, fun k' hk => ?_⟩
          obtain ⟨dx, hdx, anx⟩ := anyL_at al hx
          refine ⟨_, rfl, _, rfl, x, dx, m, rfl, anx.keep (k1.trans s1), (ft.sub dx (List.mem_of_getElem? hdx)).len, fun H4 s4 => ?_⟩
          refine hk _ _ s4 ?_
          rw [hdx]
          exact .bl _
        · refine fun H' acc s1 ha hal => ?_
          rw [ln, map_get (fun d => PyData.bool (isVecD m d)) .none] at hal
          have e2 := anyL_flags hal
          refine ⟨D, _, rfl, .inl (.inl (by rw [← e2]; exact ha)), ?_⟩
          have e3 : ((itemsD d).map (isVecD m)).all id = (itemsD d).all (isVecD m) := by simp
          rw [e3]
          exact q _ (k1.trans s1)
      · have z2 : ¬ (((itemsD d).length : Nat) : Int) = n := fun y => z (decide_eq_true (by rw [ln, y]))
        rw [decide_eq_false z2] at q
        exact q _ k1
    · rw [e]
      have hv : isMatD n m d = false := by
        unfold isMatD
        rw [e] <;> rfl
      rw [hv] at q
      exact iteF (q _ k1)
theorem kit_str (d : PyData) : PySem.W.kitOne K (.type (kindS d)) (.type "str") = some (match d with | .str _ => true | _ => false) := by
  cases d with
  | none => exact kit_ty (show kitB "NoneType" "str" = some false by decide +kernel)
  | bool b => exact kit_ty (show kitB "bool" "str" = some false by decide +kernel)
  | int i => exact kit_ty (show kitB "int" "str" = some false by decide +kernel)
  | str x => exact kit_ty (show kitB "str" "str" = some true by decide +kernel)
  | list xs => exact kit_ty (show kitB "list" "str" = some false by decide +kernel)
  | tuple xs => exact kit_ty (show kitB "tuple" "str" = some false by decide +kernel)
  | dict kvs => exact kit_ty (show kitB "dict" "str" = some false by decide +kernel)
theorem okPat {f : Addr} {fd : FuncData} (F : Fun K "is_pattern" "is_pattern" sPat f fd) (T : Txt K w mg aI aT CP CT CZ CA CM CL kI kT) : FnOk P w K mg base CX0 1 f fd ["value"] spPat := by
  refine F.ok scPat (fun vs H Q E h => ?_) (fun cdv A outer s H vs Q E hr h => ?_)
  · obtain ⟨v, d, rfl, _⟩ := h
    rfl
  · obtain ⟨v, d, rfl, an, sh, q⟩ := h
    obtain ⟨tM, gM⟩ := T.gM
    refine ⟨_, (pss_one (ps_ret (pe_and (pe_callB call_isi (by rfl) T.isi (by decide +kernel) (pa_cons (pv 0) (pa_cons (pe_bltn (v := .ty "str") rfl T.str (by decide +kernel) rfl) pa_nil))) (pe_and (pe_cmpR op_le (pe_callB call_len_str (by rfl) T.len (by decide +kernel) (pa_cons (pv 0) pa_nil)) (pe_glob (v := .int 6) rfl gM ⟨_, rfl⟩) (nomark _)) (pe_one (pe_callB (cr_all rfl) (by rfl) T.all (by decide +kernel) (pa_cons (pe_lc (own := [("arrow", 1)]) (g := gName 1) (tt := tYes) rfl scPat.nd (pi_str (pv 0)) (blkOk_by (N := ["value", "arrow"]) (sc := defScope sPat) (by decide +kernel)) (fun _ _ _ _ _ => (pg_name (i := 1) scPat.nd rfl (Or.inl rfl))) (fun _ _ _ _ _ => pts_nil) (fun _ _ _ _ _ => (pe_cmpR (op_in_ts T.tT) (pv 1) (pe_glob (v := .ref aT) rfl T.gT rfl) (by rfl)))) pa_nil))))))), ?_⟩
    refine ⟨v, rfl, v, .ty "str", _, _, _, rfl, .ty _, any_ty an, kit_str d, _, rfl, ?_⟩
    cases an with
    | str x =>
      have lx := sh x rfl
      refine iteT ⟨_, rfl, x, rfl, (Nat.le_trans lx (by decide)), _, _, rfl, rfl, _, rfl, ?_⟩
      refine ite2 (fun z => ?_) (fun z => ?_)
      · have z2 : x.length ≤ 6 := by
          have := of_decide_eq_true z
          omega
        have e1 : isPatD (.str x) = x.cps.toList.all isArr := by
          show (decide (x.length ≤ 6) && _) = _
          rw [decide_eq_true z2, Bool.true_and]
        refine ⟨_, rfl, x, rfl, fun D hD => ?_⟩
        refine lc_same walk_str (Nat.le_trans z2 (by decide)) hD (fun _ _ => trivial) (fun i => .bool (isArr (x.cps.toList[i]?.getD 0))) ?_ ?_
        · rintro i y H' hi ⟨c, hc, rfl⟩ s1 hd
          refine ⟨rfl, fun k' hk => ?_⟩
          refine ⟨_, rfl, _, rfl, rfl, hk _ _ (fun _ _ z => z) ?_⟩
          rw [T.hT, show x.cps.toList[i]? = some c by simpa using hc]
          exact .bl _
        · refine fun H' acc s1 ha hal => ?_
          have e4 : (List.range x.cps.size).map (fun i => PyData.bool (isArr (x.cps.toList[i]?.getD 0))) = (x.cps.toList.map isArr).map PyData.bool := by
            rw [show x.cps.size = x.cps.toList.length by simp, map_get (fun c => PyData.bool (isArr c)) 0, List.map_map] <;> rfl
          rw [e4] at hal
          have e2 := anyL_bools hal
          refine ⟨D, _, rfl, .inl (.inl (by rw [← e2]; exact ha)), ?_⟩
          have e3 : (x.cps.toList.map isArr).all id = x.cps.toList.all isArr := by simp
          rw [e3, ← e1]
          exact q _ s1
      · have e1 : isPatD (.str x) = false := by
          show (decide (x.length ≤ 6) && _) = _
          rw [decide_eq_false (fun y => z (decide_eq_true (by omega))), Bool.false_and]
        rw [e1] at q
        exact q _ (fun _ _ z => z)
    | _ => exact iteF (q _ (fun _ _ z => z))
theorem okCPat {f : Addr} {fd : FuncData} (F : Fun K "check_pattern" "check_pattern" sCPat f fd) (T : Txt K w mg aI aT CP CT CZ CA CM CL kI kT) (GP : Own P w K mg base CX0 1 "is_pattern" ["value"] [] spPat) : FnOk P w K mg base (L2.CX P w) 4 f fd ["pattern"] (spCPat CT) := by
  refine F.okX scCPat (fun vs H Q E h => ?_) (fun cdv A outer s H vs Q E hr h => ?_)
  · obtain ⟨v, d, rfl, _⟩ := h
    rfl
  · obtain ⟨v, d, rfl, an, sh, qt, qf⟩ := h
    refine ⟨_, (pss_one (ps_if (pt_not (pt_val (pe_own GP (hr.mono (by decide)) pass0 (pa_cons (pv 0) pa_nil)))) (pss_one (ps_throw T.eT rfl (hr.mono (by decide)) (takes_of rfl rfl rfl rfl) (pv 0))) pss_nil)), ?_⟩
    refine ⟨_, rfl, _, d, rfl, an, sh, fun H1 k1 => ⟨_, rfl, ?_⟩⟩
    cases e : isPatD d with
    | true => exact iteF (qt e _ k1)
    | false => exact iteT ⟨_, rfl, thrown_go ((qf e).mono k1)⟩
theorem okCSz {f : Addr} {fd : FuncData} (F : Fun K "check_sizes" "check_sizes" sCSz f fd) (T : Txt K w mg aI aT CP CT CZ CA CM CL kI kT) (GL : Own P w K mg base CX0 1 "is_list" ["value"] [] spList) (GI : Own P w K mg base CX0 2 "is_integer" ["value", "low", "high"] [] spInt) : FnOk P w K mg base (L2.CX P w) 4 f fd ["pattern", "sizes"] (spCSz CZ) := by
  refine F.okX scCSz (fun vs H Q E h => ?_) (fun cdv A outer s H vs Q E hr h => ?_)
  · obtain ⟨x, v, d, rfl, _⟩ := h
    rfl
  · obtain ⟨x, v, d, rfl, lx, an, sz, qt, qf⟩ := h
    obtain ⟨tM, gM⟩ := T.gM
    refine ⟨_, (pss_one (ps_if (pt_not (PW.pt (pw_and (pt_val (pe_own GL (hr.mono (by decide)) pass0 (pa_cons (pv 1) pa_nil))) (pw_and (pt_cmpR op_eq (pe_callB call_len_seq (by rfl) T.len (by decide +kernel) (pa_cons (pv 1) pa_nil)) (pe_op op_add (pe_callB call_len_str (by rfl) T.len (by decide +kernel) (pa_cons (pv 0) pa_nil)) pe_int) (nomark _)) (pw_and1 (pt_val (pe_callB (cr_all rfl) (by rfl) T.all (by decide +kernel) (pa_cons (pe_lc (own := [("size", 2)]) (g := gName 2) (tt := tYes) rfl scCSz.nd (pi_seq (pv 1)) (blkOk_by (N := ["pattern", "sizes", "size"]) (sc := defScope sCSz) (by decide +kernel)) (fun _ _ _ _ _ => (pg_name (i := 2) scCSz.nd rfl (Or.inl rfl))) (fun _ _ _ _ _ => pts_nil) (fun _ _ _ _ _ => (pe_own GI (hr.mono (by decide)) pass0 (pa_cons (pv 2) (pa_cons pe_int (pa_cons (pe_glob (v := .int 6) rfl gM ⟨_, rfl⟩) pa_nil)))))) pa_nil)))))))) (pss_one (ps_throw T.eZ rfl (hr.mono (by decide)) (takes_of rfl rfl rfl rfl) (pv 1))) pss_nil)), ?_⟩
    refine ⟨_, rfl, v, d, rfl, an, fun H1 k1 => ?_⟩
    rcases seq_flag an with ⟨e, k, a, xs, rfl, hs, al⟩ | e
    · rw [e]
      have ln := anyL_len al
      refine ⟨_, rfl, iteT ⟨_, rfl, a, xs, rfl, (hs k1 K).or, _, rfl, x, rfl, Nat.le_trans lx (by decide), _, _, rfl, rfl, rfl, _, rfl, ?_⟩⟩
      have hv : sizesOk x.length d = (decide ((itemsD d).length = x.length + 1) && (itemsD d).all isSzD) := by
        unfold sizesOk
        rw [e] <;> rfl
      rw [hv] at qt qf
      refine ite2 (fun z => ?_) (fun z => ?_)
      · have z1 : V.int (xs.length : Int) = V.int ((x.length : Int) + 1) := of_decide_eq_true z
        have z2 : (itemsD d).length = x.length + 1 := by
          injection z1 with z3
          omega
        rw [decide_eq_true z2, Bool.true_and] at qt qf
        refine ⟨.ref a, rfl, a, k, xs, rfl, hs k1 K, fun D hD => ?_⟩
        refine lc_same walk_seq (by omega) hD (fun H' s' => hs (k1.trans s') K) (fun i => .bool (isSzD ((itemsD d)[i]?.getD .none))) ?_ ?_
        · refine fun i y H' hi hx s1 hd => ⟨rfl, fun k' hk => ?_⟩
          obtain ⟨dx, hdx, anx⟩ := anyL_at al hx
          refine ⟨_, rfl, y, _, _, dx, .int 0, .int 6, rfl, anx.keep (k1.trans s1), .int _, .int _, hk _ _ (fun _ _ z => z) ?_⟩
          rw [hdx]
          exact .bl _
        · refine fun H' acc s1 ha hal => ?_
          rw [ln, map_get (fun d => PyData.bool (isSzD d)) .none] at hal
          have e2 := anyL_flags hal
          refine ⟨D, _, rfl, .inl (.inl (by rw [← e2]; exact ha)), _, rfl, ?_⟩
          have e3 : ((itemsD d).map isSzD).all id = (itemsD d).all isSzD := by simp
          rw [e3]
          cases ea : (itemsD d).all isSzD with
          | true => exact iteF (qt ea _ (k1.trans s1))
          | false => exact iteT ⟨_, rfl, thrown_go ((qf ea).mono (k1.trans s1))⟩
      · have z2 : ¬ (itemsD d).length = x.length + 1 := fun y => z (decide_eq_true (by rw [ln, y] <;> rfl))
        rw [decide_eq_false z2, Bool.false_and] at qf
        exact iteT ⟨_, rfl, thrown_go ((qf rfl).mono k1)⟩
    · rw [e]
      have hv : sizesOk x.length d = false := by
        unfold sizesOk
        rw [e] <;> rfl
      exact ⟨_, rfl, iteF (iteT ⟨_, rfl, thrown_go ((qf hv).mono k1)⟩)⟩
theorem okWay {f : Addr} {fd : FuncData} (F : Fun K "way" "way" sWay f fd) : FnOk P w K mg base CX0 1 f fd ["pattern", "index"] spWay := by
  refine F.ok scWay (fun vs H Q E h => ?_) (fun cdv A outer s H vs Q E hr h => ?_)
  · obtain ⟨x, i, rfl, _⟩ := h
    rfl
  · obtain ⟨x, i, rfl, hi, lx, q⟩ := h
    refine ⟨_, (pss_one (ps_ret (pe_ifExp (pt_cmpR op_eq (pe_ix ix_str (pv 0) (pv 1) (fun _ _ => rfl)) pe_str (nomark _)) (pe_tup (pa_cons (pv 1) (pa_cons (pe_op op_add (pv 1) pe_int) pa_nil))) (pe_tup (pa_cons (pe_op op_add (pv 1) pe_int) (pa_cons (pv 1) pa_nil)))))), ?_⟩
    have hi2 : i < x.cps.toList.length := by
      rw [Array.length_toList]
      exact hi
    refine ⟨_, rfl, _, rfl, x, _, x.cps.toList[i], rfl, rfl, Nat.le_trans lx (by decide), atI_nat (List.getElem?_eq_getElem hi2), rfl, _, rfl, ?_⟩
    have er : isR x i = (x.cps.toList[i] == 62) := by
      unfold isR
      rw [List.getElem?_eq_getElem hi2] <;> rfl
    refine ite2 (fun z => ?_) (fun z => ?_)
    · have z1 : V.str ⟨#[x.cps.toList[i]]⟩ = V.str ">" := of_decide_eq_true z
      have z2 : x.cps.toList[i] = 62 := by
        injection z1 with z3
        have := congrArg (fun y : Str => y.cps[0]?) z3
        exact Option.some.inj this
      have e2 : isR x i = true := by rw [er, z2] <;> rfl
      refine ⟨_, rfl, _, rfl, _, _, rfl, rfl, (by show 2 ≤ sizeLine; decide), fun t ht => q t _ ht (same_new ht) ?_⟩
      rw [upd_same]
      unfold stA goA
      rw [e2] <;> rfl
    · have z2 : ¬ x.cps.toList[i] = 62 := fun y => z (decide_eq_true (by rw [y] <;> rfl))
      have e2 : isR x i = false := by rw [er]; exact beq_eq_false_iff_ne.mpr z2
      refine ⟨_, rfl, _, _, rfl, rfl, _, rfl, (by show 2 ≤ sizeLine; decide), fun t ht => q t _ ht (same_new ht) ?_⟩
      rw [upd_same]
      unfold stA goA
      rw [e2] <;> rfl
end
end K57

set_option Elab.async false
set_option linter.all false
set_option maxRecDepth 100000
set_option maxHeartbeats 4000000
/-! TkH: sizes and matrices of rows, as data. -/
namespace Rw
open PySem PySem.Spec PyProof.Rows L2
theorem sizes_parts {k : Nat} {d : PyData} (h : sizesOk k d = true) : isSeqD d = true ∧ (itemsD d).length = k + 1 ∧ (itemsD d).all isSzD = true := by
  unfold sizesOk at h
  simp only [Bool.and_eq_true, decide_eq_true_eq] at h
  exact h
theorem maps_parts {k : Nat} {d : PyData} (h : mapsOk k d = true) : isSeqD d = true ∧ (itemsD d).length = k := by
  unfold mapsOk at h
  simp only [Bool.and_eq_true, decide_eq_true_eq] at h
  exact h
theorem sz_int {d : PyData} (h : isSzD d = true) : ∃ n, d = .int n ∧ 0 ≤ n ∧ n ≤ 6 := by
  cases d with
  | int n =>
    have h2 : (decide (0 ≤ n) && decide (n ≤ 6)) = true := h
    simp only [Bool.and_eq_true, decide_eq_true_eq] at h2
    exact ⟨n, rfl, h2⟩
  | _ => cases h
theorem stA_le (x : Str) (i : Nat) : stA x i ≤ i + 1 := by
  unfold stA
  split <;> omega
theorem goA_le (x : Str) (i : Nat) : goA x i ≤ i + 1 := by
  unfold goA
  split <;> omega
theorem atD_get {d : PyData} {i : Nat} {e : PyData} (h : (itemsD d)[i]? = some e) : atD d i = e := by
  unfold atD
  rw [h] <;> rfl
/-- an item of sizes, as a value -/
theorem sz_at {k : Nat} {ds : PyData} (h : sizesOk k ds = true) {xs : List V} {H : Hp} (al : AnyL H xs (itemsD ds)) {i : Nat} (hi : i ≤ k) : xs[i]? = some (.int (szL ds i)) ∧ 0 ≤ szL ds i ∧ szL ds i ≤ 6 := by
  obtain ⟨_, l, a⟩ := sizes_parts h
  have hi2 : i < (itemsD ds).length := by omega
  have e1 : (itemsD ds)[i]? = some (itemsD ds)[i] := List.getElem?_eq_getElem hi2
  obtain ⟨n, en, n0, n6⟩ := sz_int (List.all_eq_true.mp a _ (List.getElem_mem hi2))
  obtain ⟨v, hv, av⟩ := anyL_of al e1
  have es : szL ds i = n := by
    unfold szL
    rw [atD_get e1, en] <;> rfl
  rw [en] at av
  cases av
  rw [es]
  exact ⟨hv, n0, n6⟩
theorem bad_none {x : Str} {ds dm : PyData} (h : ∀ j, j < x.length → matOk x ds dm j = true) : badAt x ds dm = none := by
  unfold badAt
  rw [List.find?_eq_none]
  intro j hj
  rw [h j (List.mem_range.mp hj)]
  simp
theorem find_range (f : Nat → Bool) : ∀ (n i : Nat), i < n → f i = true → (∀ j, j < i → f j = false) → (List.range n).find? f = some i := by
  intro n
  induction n with
  | zero => intro i h; omega
  | succ n ih =>
    intro i h h1 h2
    rw [List.range_succ, List.find?_append]
    by_cases e : i < n
    · rw [ih i e h1 h2] <;> rfl
    · have e2 : i = n := by omega
      subst e2
      rw [List.find?_eq_none.mpr (fun j hj => by rw [h2 j (List.mem_range.mp hj)]; simp)]
      simp [h1]
theorem bad_some {x : Str} {ds dm : PyData} {i : Nat} (hi : i < x.length) (h : matOk x ds dm i = false) (h2 : ∀ j, j < i → matOk x ds dm j = true) : badAt x ds dm = some i := by
  unfold badAt
  exact find_range _ _ _ hi (by rw [h] <;> rfl) (fun j hj => by rw [h2 j hj] <;> rfl)
end Rw

set_option Elab.async false
set_option linter.all false
set_option maxRecDepth 100000
set_option maxHeartbeats 4000000
/-! K57B: the matrices of a row. -/
namespace K57
open PySem PySem.Spec PyProof.Rows L2 Rw
abbrev sCMaps : Stmt := top 36
abbrev NCMaps : List Str := ["pattern", "sizes", "maps", "index", "matrix", "start", "goal"]
theorem scCMaps : FnScope NCMaps ["pattern", "sizes", "maps"] (defScope sCMaps) := ⟨rfl, rfl, rfl, by decide +kernel, rfl, by decide +kernel, by decide +kernel⟩
section
variable {P : Program} {w : World} {K : PySem.W.Frag} {mg : Str → Option Value} {base : Heap} {aI aT CP CT CZ CA CM CL : Addr} {kI : List (Int × Value)} {kT : List (Str × Value)}
theorem okCMaps {f : Addr} {fd : FuncData} (F : Fun K "_check_maps" "_check_maps" sCMaps f fd) (T : Txt K w mg aI aT CP CT CZ CA CM CL kI kT) (GL : Own P w K mg base CX0 1 "is_list" ["value"] [] spList) (GW : Own P w K mg base CX0 1 "way" ["pattern", "index"] [] spWay)
    (GM : Own P w K mg base CX0 3 "is_matrix" ["value", "height", "width"] [] spMat) : FnOk P w K mg base (L2.CX P w) 5 f fd ["pattern", "sizes", "maps"] (spCMaps CA CM) := by
  refine F.okX scCMaps (fun vs H Q E h => ?_) (fun cdv A outer s H vs Q E hr h => ?_)
  · obtain ⟨x, va, vm, ds, dm, rfl, _⟩ := h
    rfl
  · obtain ⟨x, va, vm, ds, dm, rfl, lx, as, es, am, fm, xf, q⟩ := h
    refine ⟨_, (pss_cons (ps_if (pt_not (PW.pt (pw_and (pt_val (pe_own GL (hr.mono (by decide)) pass0 (pa_cons (pv 2) pa_nil))) (pw_and1 (pt_cmpR op_eq (pe_callB call_len_seq (by rfl) T.len (by decide +kernel) (pa_cons (pv 2) pa_nil)) (pe_callB call_len_str (by rfl) T.len (by decide +kernel) (pa_cons (pv 0) pa_nil)) (nomark _)))))) (pss_one (ps_throw T.eA rfl (hr.mono (by decide)) (takes_of rfl rfl rfl rfl) (pv 2))) pss_nil)
      (pss_one (ps_for (passes_of rfl) rfl (pi_enumB (by rfl) T.enum (pa_cons (pv 2) pa_nil)) (pg_tup rfl (pgs_cons (pg_name (i := 3) scCMaps.nd rfl (Or.inl rfl)) (pgs_cons (pg_name (i := 4) scCMaps.nd rfl (Or.inl rfl)) pgs_nil)))
        (pss_cons (ps_asg (pe_own GW (hr.mono (by decide)) pass0 (pa_cons (pv 0) (pa_cons (pv 3) pa_nil))) (pg_tup rfl (pgs_cons (pg_name (i := 5) scCMaps.nd rfl (Or.inl rfl)) (pgs_cons (pg_name (i := 6) scCMaps.nd rfl (Or.inl rfl)) pgs_nil))))
        (pss_one (ps_if (pt_not (pt_val (pe_own GM (hr.mono (by decide)) pass0 (pa_cons (pv 4) (pa_cons (pe_ix ix_seq (pv 1) (pv 5) (fun _ _ => rfl)) (pa_cons (pe_ix ix_seq (pv 1) (pv 6) (fun _ _ => rfl)) pa_nil)))))) (pss_one (ps_throw T.eM rfl (hr.mono (by decide)) (takes_of rfl rfl rfl rfl) (pv 4))) pss_nil)))))), ?_⟩
    refine ⟨_, rfl, vm, dm, rfl, am, fun H1 k1 => ?_⟩
    rcases seq_flag am with ⟨e, k, a, xs, rfl, hs, al⟩ | e
    · rw [e]
      have ln := anyL_len al
      have hv : mapsOk x.length dm = decide ((itemsD dm).length = x.length) := by
        unfold mapsOk
        rw [e] <;> rfl
      rw [hv] at xf q
      refine ⟨_, rfl, iteT ⟨_, rfl, a, xs, rfl, (hs k1 K).or, _, rfl, x, rfl, Nat.le_trans lx (by decide), rfl, _, rfl, ?_⟩⟩
      by_cases z2 : (itemsD dm).length = x.length
      · rw [decide_eq_true z2] at q
        obtain ⟨qb, qn⟩ := q rfl
        have z1 : decide (V.int (xs.length : Int) = V.int (x.length : Int)) = true := decide_eq_true (by rw [ln, z2])
        rw [z1]
        refine iteF ?_
        obtain ⟨ss, sl, sa⟩ := sizes_parts es
        obtain ⟨ks, b, ys, rfl, hss, als⟩ := seq_of as ss
        refine ⟨.ref a, rfl, a, k, xs, rfl, hs k1 K, ?_⟩
        refine for_it walk_enumB (fun i σ' H' => (∃ y3 y4 y5 y6, σ' = [some (.str x), some (.ref b), some (.ref a), y3, y4, y5, y6]) ∧ Same H1 H' ∧ ∀ j, j < i → matOk x ds dm j = true) ⟨⟨_, _, _, _, rfl⟩, fun _ _ z => z, fun j h => by omega⟩ (fun i σ' H' _ z => hs (k1.trans z.2.1) K) ?_ ?_
        · rintro i y σ' H2 H3 hi ⟨⟨y3, y4, y5, y6, rfl⟩, k2, ok⟩ ⟨T1, v1, v2, rfl, hT, rfl, h1, h2⟩
          cases h1
          obtain ⟨dx, hdx, anx⟩ := anyL_at al h2
          have k3 : Same H2 (upd H2 T1 (.tup [.int (i : Nat), v2])) := same_new hT
          have kk := (k1.trans k2).trans k3
          have hix : i < x.length := by omega
          refine ⟨T1, _, rfl, SqT.of upd_same, rfl, _, _, rfl, _, _, rfl, rfl, ?_⟩
          refine ⟨_, rfl, _, rfl, x, i, rfl, hix, lx, fun t H4 ht k4 e4 => ?_⟩
          have kk4 := kk.trans k4
          refine ⟨t, _, rfl, SqT.of e4, rfl, _, _, rfl, _, _, rfl, rfl, ?_⟩
          obtain ⟨s1, s2, s3⟩ := sz_at es als (Nat.le_trans (stA_le x i) (by omega))
          obtain ⟨g1, g2, g3⟩ := sz_at es als (Nat.le_trans (goA_le x i) (by omega))
          have ix : ∀ (j : Nat) (n : Int), ys[j]? = some (.int n) → ∀ k'' : VK, k'' (.int n) H4 → rIx K (.ref b) (.int (j : Int)) H4 k'' := fun j n hj k'' hk'' => by
            have q3 := hss kk4 K
            cases ks with
            | true => exact .inl ⟨b, ys, (j : Int), _, rfl, rfl, q3, atI_nat hj, hk''⟩
            | false => exact .inr (.inl ⟨b, ys, (j : Int), _, rfl, rfl, q3, atI_nat hj, hk''⟩)
          refine ⟨_, rfl, _, rfl, _, rfl, ix _ _ s1 _ ⟨_, rfl, _, rfl, ix _ _ g1 _ ?_⟩⟩
          have ed : atD dm i = dx := atD_get hdx
          refine ⟨v2, dx, _, _, rfl, anx.keep kk4, fm.sub dx (List.mem_of_getElem? hdx), fun H5 k5 => ⟨_, rfl, ?_⟩⟩
          have em : isMatD (szL ds (stA x i)) (szL ds (goA x i)) dx = matOk x ds dm i := by
            unfold matOk
            rw [ed]
          rw [em]
          cases eo : matOk x ds dm i with
          | true =>
            refine iteF ⟨⟨_, _, _, _, rfl⟩, ((k2.trans k3).trans k4).trans k5, fun j hj => ?_⟩
            by_cases e5 : j < i
            · exact ok j e5
            · rw [show j = i by omega]
              exact eo
          | false =>
            have kk5 := kk4.trans k5
            exact iteT ⟨_, rfl, thrown_go (qb i v2 _ (bad_some hix eo ok) kk5 (by rw [ed]; exact anx.keep kk5))⟩
        · rintro σ' H2 ⟨_, k2, ok⟩
          exact qn (bad_none fun j hj => ok j (by omega)) _ (k1.trans k2)
      · rw [decide_eq_false z2] at xf
        have z1 : decide (V.int (xs.length : Int) = V.int (x.length : Int)) = false := decide_eq_false (fun y => z2 (by
          injection y with y2
          rw [← ln]
          exact Int.ofNat.inj y2))
        rw [z1]
        exact iteT ⟨_, rfl, thrown_go ((xf rfl).mono k1)⟩
    · rw [e]
      have hv : mapsOk x.length dm = false := by
        unfold mapsOk
        rw [e] <;> rfl
      exact ⟨_, rfl, iteF (iteT ⟨_, rfl, thrown_go ((xf hv).mono k1)⟩)⟩
end
end K57

set_option Elab.async false
set_option linter.all false
set_option maxRecDepth 100000
set_option maxHeartbeats 4000000
/-! TkU: data over heaps in which an object that is no data changes; data without lists; tuples and lists made of data. -/
namespace Rw
open PySem PySem.Spec PyProof.Rows L2
/-- what is data stays -/
structure Keeps (H H' : Hp) : Prop where
  l : ∀ b xs, H b = some (.lst xs) → H' b = some (.lst xs)
  t : ∀ b xs, H b = some (.tup xs) → H' b = some (.tup xs)
  d : ∀ b kvs, H b = some (.dK kvs) → H' b = some (.dK kvs)
mutual
theorem any_keeps {H H' : Hp} (k : Keeps H H') : ∀ (d : PyData) (v : V), Any H v d → Any H' v d
  | .none, _, h => by cases h; exact .non
  | .bool b, _, h => by cases h; exact .bl b
  | .int i, _, h => by cases h; exact .int i
  | .str x, _, h => by cases h; exact .str x
  | .list ds, _, h => by
    cases h with
    | lst e a => exact .lst (k.l _ _ e) (anyL_keeps k ds _ a)
  | .tuple ds, _, h => by
    cases h with
    | tup e a => exact .tup (k.t _ _ e) (anyL_keeps k ds _ a)
  | .dict ds, _, h => by
    cases h with
    | dct e a => exact .dct (k.d _ _ e) (anyK_keeps k ds _ a)
theorem anyL_keeps {H H' : Hp} (k : Keeps H H') : ∀ (ds : List PyData) (vs : List V), AnyL H vs ds → AnyL H' vs ds
  | [], _, h => by cases h; exact .nil
  | d :: ds, _, h => by
    cases h with
    | cons a b => exact .cons (any_keeps k d _ a) (anyL_keeps k ds _ b)
theorem anyK_keeps {H H' : Hp} (k : Keeps H H') : ∀ (ds : List (PyData × PyData)) (vs : List (Key × V)), AnyK H vs ds → AnyK H' vs ds
  | [], _, h => by cases h; exact .nil
  | (_, d) :: ds, _, h => by
    cases h with
    | cons a b => exact .cons (any_keeps k d _ a) (anyK_keeps k ds _ b)
end
theorem Keeps.refl {H : Hp} : Keeps H H := ⟨fun _ _ z => z, fun _ _ z => z, fun _ _ z => z⟩
theorem Keeps.trans {H H1 H2 : Hp} (a : Keeps H H1) (b : Keeps H1 H2) : Keeps H H2 := ⟨fun c xs z => b.l c xs (a.l c xs z), fun c xs z => b.t c xs (a.t c xs z), fun c xs z => b.d c xs (a.d c xs z)⟩
theorem Keeps.of {H H' : Hp} (k : Same H H') : Keeps H H' := ⟨fun b _ e => k b _ e, fun b _ e => k b _ e, fun b _ e => k b _ e⟩
theorem keeps_ins {H H' : Hp} {a C dx : Addr} {fs : List (Str × V)} (e : H a = some (.ins C dx fs)) (g : Grow a H H') : Keeps H H' := by
  have ne : ∀ b o, H b = some o → (∀ fs', o ≠ .ins C dx fs') → b ≠ a := fun b o h n z => by
    rw [z, e] at h
    exact n fs (Option.some.inj h).symm
  exact ⟨fun b xs h => g b _ (ne b _ h fun _ z => nomatch z) h, fun b xs h => g b _ (ne b _ h fun _ z => nomatch z) h, fun b xs h => g b _ (ne b _ h fun _ z => nomatch z) h⟩
theorem Any.keeps {H H' : Hp} {v : V} {d : PyData} (h : Any H v d) (k : Keeps H H') : Any H' v d := any_keeps k d v h
mutual
/-- no list and no dict in it -/
def noL : PyData → Bool
  | .list _ => false
  | .dict _ => false
  | .tuple ds => noLs ds
  | _ => true
def noLs : List PyData → Bool
  | [] => true
  | d :: ds => noL d && noLs ds
end
theorem noLs_of : ∀ {ds : List PyData}, (∀ d, d ∈ ds → noL d = true) → noLs ds = true
  | [], _ => rfl
  | d :: ds, h => by
    show (noL d && noLs ds) = true
    rw [h d List.mem_cons_self, noLs_of fun e he => h e (List.mem_cons_of_mem _ he)] <;> rfl
mutual
theorem any_noL {H : Hp} {D : Addr} {xs : List V} (h : H D = some (.lst xs)) : ∀ (d : PyData) (v : V), Any H v d → noL d = true → Any (del H D) v d
  | .none, _, a, _ => by cases a; exact .non
  | .bool b, _, a, _ => by cases a; exact .bl b
  | .int i, _, a, _ => by cases a; exact .int i
  | .str x, _, a, _ => by cases a; exact .str x
  | .list ds, _, _, z => by cases z
  | .dict ds, _, _, z => by cases z
  | .tuple ds, _, a, z => by
    cases a with
    | tup e b =>
      rename_i q ys
      have ne : q ≠ D := fun y => by
        rw [y, h] at e
        cases e
      exact .tup (by rw [del_ne ne]; exact e) (anyL_noL h ds _ b z)
theorem anyL_noL {H : Hp} {D : Addr} {xs : List V} (h : H D = some (.lst xs)) : ∀ (ds : List PyData) (vs : List V), AnyL H vs ds → noLs ds = true → AnyL (del H D) vs ds
  | [], _, a, _ => by cases a; exact .nil
  | d :: ds, _, a, z => by
    have z2 : (noL d && noLs ds) = true := z
    rw [Bool.and_eq_true] at z2
    cases a with
    | cons a b => exact .cons (any_noL h d _ a z2.1) (anyL_noL h ds _ b z2.2)
end
/-- a comprehension that makes data without lists -/
theorem lc_tup {J : It} {n : Nat} {G : Hp → Prop} {P : Nat → V → Prop} (w : Walk J n G (fun i H x H' => H' = H ∧ P i x)) {j : Nat} {σ : L2.St} {vs : List Nat} {te : TE} {H1 : Hp} {D : Addr} {Q : Hp → Prop} (hn : n ≤ 1000) (hD : H1 D = none) (hG : ∀ H, Same H1 H → G H) (f : Nat → PyData)
    (nf : ∀ i, i < n → noL (f i) = true)
    (hs : ∀ i x H, i < n → P i x → Same H1 H → (∃ o, H D = some o) → wipe ((wipe σ vs).set j (some x)) vs = wipe σ vs ∧ ∀ k : VK, (∀ y H', Same H H' → Any H' y (f i) → k y H') → te ((wipe σ vs).set j (some x)) H k)
    (hq : ∀ H acc, Same H1 H → H D = some (.lst acc) → AnyL (del H D) acc ((List.range n).map f) → Q H) :
    ∃ W : Nat → Nat → Hp → Prop, (∃ m, W 0 m (upd H1 D (.lst []))) ∧ ∀ i m H, W i m H →
      (J.stop i H ∧ Q H) ∨ (J.go i H ∧ ∃ Nx : Hp → Prop, (∀ H', Nx H' → ∃ m', m' < m ∧ W (i + 1) m' H') ∧ ∀ x H', J.yld i H x H' → gName j x (wipe σ vs) H' fun σ2 H2 => wipe σ2 vs = wipe σ vs ∧ tYes σ2 H2 fun b H3 =>
        if b = true then te σ2 H3 fun y H4 => ∃ acc, H4 D = some (.lst acc) ∧ acc.length < sizeLine ∧ Nx (upd H4 D (.lst (acc ++ [y]))) else Nx H3) := by
  refine lc_it w (Qd := Q) (Pv := fun i H => Same H1 H ∧ ∃ acc, H D = some (.lst acc) ∧ acc.length = i ∧ AnyL (del H D) acc ((List.range i).map f)) ⟨same_new hD, [], upd_same, rfl, .nil⟩ (fun i H _ h => hG H h.1) ?_ ?_
  · rintro i x H H' hi ⟨s1, acc, ha, hl, an⟩ ⟨rfl, hp⟩
    obtain ⟨e1, e2⟩ := hs i x H' hi hp s1 ⟨_, ha⟩
    refine ⟨e1, ?_⟩
    show te _ _ _
    refine e2 _ fun y H4 s2 hy => ?_
    have h4 := s2 _ _ ha
    refine ⟨acc, h4, Nat.lt_of_lt_of_le (by omega : acc.length < 1000) (by decide), ?_, acc ++ [y], upd_same, by rw [List.length_append, hl] <;> rfl, ?_⟩
    · intro b o e
      have ne : b ≠ D := ne_of_none e hD
      rw [upd_ne ne]
      exact s2 _ _ (s1 _ _ e)
    · rw [del_upd, List.range_succ, List.map_append]
      exact anyL_snoc (anyL_keep (Grow.del (Grow.of s2)) an) (any_noL h4 _ _ hy (nf i hi))
  · rintro H ⟨s1, acc, ha, hl, an⟩
    exact hq H acc s1 ha an
abbrev rTupOf (K : PySem.W.Frag) : List V → Hp → VK → Prop := fun xs H Q => ∃ p ys, xs = [.ref p] ∧ ((SqL K H p ys ∧ ∀ l, H l = none → Q (.ref l) (upd H l (.tup ys))) ∨ (SqT K H p ys ∧ Q (.ref p) H))
abbrev rLstOf (K : PySem.W.Frag) : List V → Hp → VK → Prop := fun xs H Q => ∃ p ys, xs = [.ref p] ∧ (SqL K H p ys ∨ SqT K H p ys) ∧ ∀ l, H l = none → Q (.ref l) (upd H l (.lst ys))
section
variable {K : PySem.W.Frag} {H : Hp} {v : V} {d : PyData} {Q : VK}
/-- tuple(x) -/
theorem tup_of_any (an : Any H v d) (e : isSeqD d = true) (q : ∀ ts H', Same H H' → Any H' (.ref ts) (.tuple (itemsD d)) → Q (.ref ts) H') : rTupOf K [v] H Q := by
  cases an with
  | lst ea al => exact ⟨_, _, rfl, .inl ⟨SqL.of ea, fun l hl => q l _ (same_new hl) (.tup upd_same (anyL_keep (same_new hl) al))⟩⟩
  | tup ea al => exact ⟨_, _, rfl, .inr ⟨SqT.of ea, q _ _ (fun _ _ z => z) (.tup ea al)⟩⟩
  | _ => cases e
/-- list(x) -/
theorem list_of_any (an : Any H v d) (e : isSeqD d = true) (q : ∀ l ys, H l = none → AnyL H ys (itemsD d) → Q (.ref l) (upd H l (.lst ys))) : rLstOf K [v] H Q := by
  cases an with
  | lst ea al => exact ⟨_, _, rfl, .inl (SqL.of ea), fun l hl => q l _ hl al⟩
  | tup ea al => exact ⟨_, _, rfl, .inr (SqT.of ea), fun l hl => q l _ hl al⟩
  | _ => cases e
end
/-- tuple(x), list(x) of data -/
def rTupA : List V → Hp → VK → Prop := fun xs H Q => ∃ v d, xs = [v] ∧ Any H v d ∧ isSeqD d = true ∧ ∀ ts H', Same H H' → Any H' (.ref ts) (.tuple (itemsD d)) → Q (.ref ts) H'
def rLstA : List V → Hp → VK → Prop := fun xs H Q => ∃ v d, xs = [v] ∧ Any H v d ∧ isSeqD d = true ∧ ∀ l ys, H l = none → AnyL H ys (itemsD d) → Q (.ref l) (upd H l (.lst ys))
theorem call_tupA {X : Cx} : CallR X (.type "tuple") rTupA := by
  intro pins s σ H xs us Q I r h
  obtain ⟨v, d, rfl, an, e, q⟩ := h
  exact call_tuple_of pins s σ H _ us Q I r (tup_of_any an e q)
theorem call_lstA {X : Cx} : CallR X (.type "list") rLstA := by
  intro pins s σ H xs us Q I r h
  obtain ⟨v, d, rfl, an, e, q⟩ := h
  exact call_list_of pins s σ H _ us Q I r (list_of_any an e q)
theorem noL_mods {p : Int} {ds : List PyData} (h : ds.all isIntD = true) : noLs (ds.map (modD p)) = true := by
  refine noLs_of fun d hd => ?_
  obtain ⟨e, he, rfl⟩ := List.mem_map.mp hd
  have := List.all_eq_true.mp h e he
  cases e with
  | int n => rfl
  | _ => cases this
theorem vec_parts {n : Int} {d : PyData} (e : isVecD n d = true) : isSeqD d = true ∧ (((itemsD d).length : Nat) : Int) = n ∧ (itemsD d).all isIntD = true := by
  unfold isVecD at e
  simp only [Bool.and_eq_true, decide_eq_true_eq] at e
  exact e
theorem mat_parts {n m : Int} {d : PyData} (e : isMatD n m d = true) : isSeqD d = true ∧ (((itemsD d).length : Nat) : Int) = n ∧ ∀ x, x ∈ itemsD d → isVecD m x = true := by
  unfold isMatD at e
  simp only [Bool.and_eq_true, decide_eq_true_eq, List.all_eq_true] at e
  exact e
theorem noL_rows {p h w : Int} {m : PyData} (e : isMatD h w m = true) : noLs (rowsM p m) = true := by
  refine noLs_of fun d hd => ?_
  obtain ⟨r, hr, rfl⟩ := List.mem_map.mp hd
  exact noL_mods (vec_parts ((mat_parts e).2.2 r hr)).2.2
theorem bad_none_all {x : Str} {ds dm : PyData} (h : badAt x ds dm = none) : ∀ j, j < x.length → matOk x ds dm j = true := by
  intro j hj
  unfold badAt at h
  rw [List.find?_eq_none] at h
  have := h j (List.mem_range.mpr hj)
  simpa using this
end Rw

set_option Elab.async false
set_option linter.all false
set_option maxRecDepth 100000
set_option maxHeartbeats 4000000
/-! K57C: a row is made. -/
namespace K57
open PySem PySem.Spec PyProof.Rows L2 Rw
abbrev sIniR : Stmt := inClass (top 35) 0
abbrev NIniR : List Str := ["self", "pattern", "prime", "sizes", "maps", "matrix", "vector", "item"]
theorem scIniR : FnScope NIniR ["self", "pattern", "prime", "sizes", "maps"] (defScope sIniR) := ⟨rfl, rfl, rfl, by decide +kernel, rfl, by decide +kernel, by decide +kernel⟩
/-- the class of rows -/
structure RowCls (K : PySem.W.Frag) (C : Addr) : Prop where
  cl : Cls K C
  n1 : NoAttr K C "_pattern"
  n2 : NoAttr K C "_prime"
  n3 : NoAttr K C "_sizes"
  n4 : NoAttr K C "_maps"
abbrev tIt (K : PySem.W.Frag) : TE := tOp (rI (fun _ j => j ≠ 0) fun i j => .int (i.fmod j)) (tVar 7) (tVar 2)
abbrev tVc (K : PySem.W.Frag) : TE := tCB (rTupOf K) (tCons (tLc (iSeq K (tVar 6)) (gName 7) tYes (tIt K) [7]) tNil)
abbrev tMx (K : PySem.W.Frag) : TE := tCB (rTupOf K) (tCons (tLc (iSeq K (tVar 5)) (gName 6) tYes (tVc K) [6]) tNil)
section
variable {P : Program} {w : World} {K : PySem.W.Frag} {mg : Str → Option Value} {base : Heap} {aI aT C CP CT CZ CA CM CL : Addr} {kI : List (Int × Value)} {kT : List (Str × Value)}
theorem okIniR {f : Addr} {fd : FuncData} (F : Fun K "__init__" "Row.__init__" sIniR f fd) (T : Txt K w mg aI aT CP CT CZ CA CM CL kI kT) (R : RowCls K C) (GT : Own P w K mg base (L2.CX P w) 4 "check_pattern" ["pattern"] [] (spCPat CT)) (GP : Own P w K mg base (L2.CX P w) 4 "check_prime" ["prime"] [] (spCheck CP))
    (GZ : Own P w K mg base (L2.CX P w) 4 "check_sizes" ["pattern", "sizes"] [] (spCSz CZ)) (GA : Own P w K mg base (L2.CX P w) 5 "_check_maps" ["pattern", "sizes", "maps"] [] (spCMaps CA CM)) : FnOk P w K mg base (L2.CX P w) 6 f fd ["self", "pattern", "prime", "sizes", "maps"] (spIniR C CT CP CZ CA CM) := by
  refine F.okX scIniR (fun vs H Q E h => ?_) (fun cdv A outer s H vs Q E hr h => ?_)
  · obtain ⟨a, dx, vp, vq, va, vm, dp, dq, ds, dm, rfl, _⟩ := h
    rfl
  · obtain ⟨a, dx, vp, vq, va, vm, dp, dq, ds, dm, rfl, ea, I, er, q⟩ := h
    refine ⟨_, (pss_cons (ps_expr (pe_own (E := E) GT (hr.mono (by decide)) (passes_call (takes_of rfl rfl rfl rfl) (fun _ _ _ _ z => z)) (pa_cons (pv 1) pa_nil)))
      (pss_cons (ps_expr (pe_own (E := E) GP (hr.mono (by decide)) (passes_call (takes_of rfl rfl rfl rfl) (fun _ _ _ _ z => z)) (pa_cons (pv 2) pa_nil)))
      (pss_cons (ps_expr (pe_own (E := E) GZ (hr.mono (by decide)) (passes_call (takes_of rfl rfl rfl rfl) (fun _ _ _ _ z => z)) (pa_cons (pv 1) (pa_cons (pv 3) pa_nil))))
      (pss_cons (ps_expr (pe_own (E := E) GA (hr.mono (by decide)) (passes_call (takes_of rfl rfl rfl rfl) (fun _ _ _ _ z => z)) (pa_cons (pv 1) (pa_cons (pv 3) (pa_cons (pv 4) pa_nil)))))
      (pss_cons (ps_fld (pv 0) (pv 1) rfl)
      (pss_cons (ps_fld (pv 0) (pv 2) rfl)
      (pss_cons (ps_fld (pv 0) (pe_callTy call_tupA (by rfl) T.tuple (by decide +kernel) (pa_cons (pv 3) pa_nil)) rfl)
      (pss_one (ps_fld (pv 0) (pe_callTy call_tuple_of (by rfl) T.tuple (by decide +kernel) (pa_cons (pe_lc (own := [("matrix", 5)]) (g := gName 5) (tt := tYes) (te := tMx K) rfl scIniR.nd (pi_seq (pv 4)) (blkOk_by (N := NIniR) (sc := defScope sIniR) (by decide +kernel)) (fun _ _ _ _ _ => (pg_name (i := 5) scIniR.nd rfl (Or.inl rfl))) (fun _ _ _ _ _ => pts_nil)
        (fun _ _ _ _ _ => (pe_callTy call_tuple_of (by rfl) T.tuple (by decide +kernel) (pa_cons (pe_lc (own := [("vector", 6)]) (g := gName 6) (tt := tYes) (te := tVc K) rfl scIniR.nd (pi_seq (pv 5)) (blkOk_by (N := NIniR) (by rfl)) (fun _ _ _ _ _ => (pg_name (i := 6) scIniR.nd rfl (Or.inl rfl))) (fun _ _ _ _ _ => pts_nil)
          (fun _ _ _ _ _ => (pe_callTy call_tuple_of (by rfl) T.tuple (by decide +kernel) (pa_cons (pe_lc (own := [("item", 7)]) (g := gName 7) (tt := tYes) (te := tIt K) rfl scIniR.nd (pi_seq (pv 6)) (blkOk_by (N := NIniR) (by rfl)) (fun _ _ _ _ _ => (pg_name (i := 7) scIniR.nd rfl (Or.inl rfl))) (fun _ _ _ _ _ => pts_nil)
            (fun _ _ _ _ _ => (pe_op op_modN (pv 7) (pv 2)))) pa_nil)))) pa_nil)))) pa_nil)) rfl))))))))), ?_⟩
    have nolog : ∀ (v : V) (H : Hp), Same H H := fun _ _ _ _ z => z
    refine ⟨_, rfl, vp, dp, rfl, I.ap, I.sp, fun ep H1 k1 => ?_, er.pat⟩
    refine ⟨_, rfl, vq, dq, rfl, I.aq.keep k1, fun eq => ?_, fun eq => (er.pri ep eq).mono k1⟩
    obtain ⟨x, rfl⟩ : ∃ x, dp = .str x := by
      cases dp with
      | str x => exact ⟨x, rfl⟩
      | _ => cases ep
    obtain ⟨p, rfl, hp⟩ : ∃ p, dq = .int p ∧ p ∈ primesL := by
      cases dq with
      | int p => exact ⟨p, rfl, of_decide_eq_true eq⟩
      | _ => cases eq
    have lx : x.length ≤ 6 := by
      have h1 : (decide (x.length ≤ 6) && x.cps.toList.all isArr) = true := ep
      rw [Bool.and_eq_true] at h1
      exact of_decide_eq_true h1.1
    have ap := I.ap
    cases ap
    have aq := I.aq
    cases aq
    refine ⟨_, rfl, _, rfl, x, va, ds, rfl, lx, I.as.keep k1, I.ls, fun es H2 k2 => ?_, fun es => (er.siz x rfl ep eq es).mono k1⟩
    have k12 := k1.trans k2
    refine ⟨_, rfl, _, rfl, _, rfl, x, va, vm, ds, dm, rfl, lx, I.as.keep k12, es, I.am.keep k12, I.fm, fun em => (er.map x rfl ep eq es em).mono k12, fun em => ⟨fun i v H3 eb k3 av => er.mat x i v H3 rfl ep eq es em eb (k12.trans k3) av, fun eb H3 k3 => ?_⟩⟩
    have k13 := k12.trans k3
    have good : rowGood x p ds dm = true := by
      unfold rowGood
      rw [ep, eq, es, em, eb] <;> rfl
    refine ⟨_, rfl, _, rfl, a, C, dx, [], rfl, k13 _ _ ea, R.cl, R.n1, by decide, ?_⟩
    refine ⟨_, rfl, _, rfl, a, C, dx, _, rfl, upd_same, R.cl, R.n2, (by show 1 < 1000; decide), ?_⟩
    have g6 : Grow a H3 (upd (upd H3 a (.ins C dx (putF "_pattern" (.str x) []))) a (.ins C dx (putF "_prime" (.int p) (putF "_pattern" (.str x) [])))) := Grow.put.trans Grow.put
    have e6 : (upd (upd H3 a (.ins C dx (putF "_pattern" (.str x) []))) a (.ins C dx (putF "_prime" (.int p) (putF "_pattern" (.str x) [])))) a = some (.ins C dx [("_pattern", .str x), ("_prime", .int p)]) := upd_same
    generalize upd (upd H3 a (.ins C dx (putF "_pattern" (.str x) []))) a (.ins C dx (putF "_prime" (.int p) (putF "_pattern" (.str x) []))) = H6 at g6 e6 ⊢
    have G6 : Grow a H H6 := (Grow.of k13).trans g6
    have as6 := I.as.keeps (keeps_ins ea G6)
    obtain ⟨ss, _, _⟩ := sizes_parts es
    refine ⟨_, rfl, va, ds, rfl, as6, ss, fun ts H7 k7 at7 => ?_⟩
    refine ⟨_, rfl, a, C, dx, _, rfl, k7 _ _ e6, R.cl, R.n3, (by show 2 < 1000; decide), ?_⟩
    have e7 := k7 _ _ e6
    have g8 : Grow a H7 (upd H7 a (.ins C dx (putF "_sizes" (.ref ts) [("_pattern", .str x), ("_prime", .int p)]))) := Grow.put
    have at8 := at7.keeps (keeps_ins e7 g8)
    have e8 : (upd H7 a (.ins C dx (putF "_sizes" (.ref ts) [("_pattern", .str x), ("_prime", .int p)]))) a = some (.ins C dx [("_pattern", .str x), ("_prime", .int p), ("_sizes", .ref ts)]) := upd_same
    generalize upd H7 a (.ins C dx (putF "_sizes" (.ref ts) [("_pattern", .str x), ("_prime", .int p)])) = H8 at g8 at8 e8 ⊢
    have G8 : Grow a H H8 := (G6.trans (Grow.of k7)).trans g8
    have am8 := I.am.keeps (keeps_ins ea G8)
    obtain ⟨ms, ml⟩ := maps_parts em
    obtain ⟨k, b, xs, rfl, hs, al⟩ := seq_of am8 ms
    have ln := anyL_len al
    have fl := I.fm.len
    have all := bad_none_all eb
    have p0 : p ≠ 0 := by
      have := prime_pos hp
      omega
    refine ⟨.ref b, rfl, b, k, xs, rfl, hs (fun _ _ z => z) K, fun D hD => ?_⟩
    have mat : ∀ i, i < xs.length → ∃ h w, isMatD h w (atD dm i) = true := fun i hi => ⟨_, _, all i (by omega)⟩
    refine lc_tup walk_seq (by omega) hD (fun H' s' => hs s' K) (fun i => .tuple (rowsM p (atD dm i))) (fun i hi => by
      obtain ⟨h, w, e⟩ := mat i hi
      exact noL_rows e) ?_ ?_
    · rintro i y H9 hi hy s9 _
      refine ⟨rfl, fun k9 hk9 => ?_⟩
      obtain ⟨m, hm, am⟩ := anyL_at al hy
      obtain ⟨mh, mw, mo⟩ := mat i hi
      have em2 : atD dm i = m := atD_get hm
      rw [em2] at mo hk9
      have fm := I.fm.sub m (List.mem_of_getElem? hm)
      obtain ⟨m1, m2, m3⟩ := mat_parts mo
      obtain ⟨kv, b2, ys, rfl, hs2, al2⟩ := seq_of (am.keep s9) m1
      have ln2 := anyL_len al2
      have fl2 := fm.top.len
      refine ⟨.ref b2, rfl, b2, kv, ys, rfl, hs2 (fun _ _ z => z) K, fun D2 hD2 => ?_⟩
      refine lc_tup walk_seq (by omega) hD2 (fun H' s' => hs2 s' K) (fun j => .tuple ((itemsD (atD m j)).map (modD p))) (fun j hj => ?_) ?_ ?_
      · refine noL_mods (vec_parts (m3 _ ?_)).2.2
        unfold atD
        rw [List.getElem?_eq_getElem (show j < (itemsD m).length by omega)]
        exact List.getElem_mem _
      · rintro j z H10 hj hz s10 _
        refine ⟨rfl, fun k10 hk10 => ?_⟩
        obtain ⟨r, hr2, ar⟩ := anyL_at al2 hz
        have er2 : atD m j = r := atD_get hr2
        rw [er2] at hk10
        have hrm := List.mem_of_getElem? hr2
        obtain ⟨r1, r2, r3⟩ := vec_parts (m3 r hrm)
        obtain ⟨kr, b3, zs, rfl, hs3, al3⟩ := seq_of (ar.keep s10) r1
        have ln3 := anyL_len al3
        have fl3 := (fm.sub r hrm).len
        refine ⟨.ref b3, rfl, b3, kr, zs, rfl, hs3 (fun _ _ z => z) K, fun D3 hD3 => ?_⟩
        refine lc_tup walk_seq (by omega) hD3 (fun H' s' => hs3 s' K) (fun l => modD p ((itemsD r)[l]?.getD .none)) (fun l hl => ?_) ?_ ?_
        · have h1 : l < (itemsD r).length := by omega
          rw [List.getElem?_eq_getElem h1]
          have := List.all_eq_true.mp r3 _ (List.getElem_mem h1)
          show noL (modD p (itemsD r)[l]) = true
          cases hz : (itemsD r)[l] with
          | int n => rfl
          | _ => rw [hz] at this; cases this
        · rintro l u H11 hl hu s11 _
          refine ⟨rfl, fun k11 hk11 => ?_⟩
          obtain ⟨c, hc, ac⟩ := anyL_at al3 hu
          have ci := List.all_eq_true.mp r3 c (List.mem_of_getElem? hc)
          obtain ⟨n, rfl, rfl⟩ := int_of ac ci
          rw [hc] at hk11
          exact ⟨_, rfl, _, rfl, n, p, rfl, rfl, p0, hk11 _ _ (fun _ _ z => z) (.int _)⟩
        · intro H11 acc s11 ha hal
          rw [ln3, map_get (modD p) .none] at hal
          refine ⟨D3, acc, rfl, .inl ⟨SqL.of ha, fun l hl => hk10 _ _ (s11.trans (same_new hl)) (.tup upd_same (anyL_keep (same_del.trans (same_new hl)) hal))⟩⟩
      · intro H10 acc s10 ha hal
        have e3 : (List.range ys.length).map (fun j => PyData.tuple ((itemsD (atD m j)).map (modD p))) = rowsM p m := by
          rw [ln2]
          exact map_get (fun r => PyData.tuple ((itemsD r).map (modD p))) .none (itemsD m)
        rw [e3] at hal
        exact ⟨D2, acc, rfl, .inl ⟨SqL.of ha, fun l hl => hk9 _ _ (s10.trans (same_new hl)) (.tup upd_same (anyL_keep (same_del.trans (same_new hl)) hal))⟩⟩
    · intro H9 acc s9 ha hal
      have e3 : (List.range xs.length).map (fun j => PyData.tuple (rowsM p (atD dm j))) = ((itemsD dm).map (rowsM p)).map PyData.tuple := by
        rw [ln]
        have := map_get (fun r => PyData.tuple (rowsM p r)) .none (itemsD dm)
        rw [List.map_map]
        exact this
      rw [e3] at hal
      refine ⟨D, acc, rfl, .inl ⟨SqL.of ha, fun l hl => ?_⟩⟩
      have k10 := s9.trans (same_new (o := .tup acc) hl)
      have e10 := k10 _ _ e8
      refine ⟨_, rfl, a, C, dx, _, rfl, e10, R.cl, R.n4, (by show 3 < 1000; decide), ?_⟩
      have at10 := at8.keep k10
      have am10 : Any (upd H9 l (.tup acc)) (.ref l) (.tuple (((itemsD dm).map (rowsM p)).map PyData.tuple)) := .tup upd_same (anyL_keep (same_del.trans (same_new hl)) hal)
      have g11 : Grow a (upd H9 l (.tup acc)) (upd (upd H9 l (.tup acc)) a (.ins C dx (putF "_maps" (.ref l) [("_pattern", .str x), ("_prime", .int p), ("_sizes", .ref ts)]))) := Grow.put
      have kp := keeps_ins e10 g11
      exact q x p _ rfl rfl good ((G8.trans (Grow.of k10)).trans g11) ⟨dx, ts, l, upd_same, at10.keeps kp, am10.keeps kp⟩
end
end K57

set_option Elab.async false
set_option linter.all false
set_option maxRecDepth 100000
set_option maxHeartbeats 4000000
/-! TkY: ranges as values, walked; methods called in a try's body; bars as data. -/
namespace Rw
open PySem PySem.Spec PyProof.Rows L2
section
variable {X : Cx}
theorem cr_range1 : CallR X (.type "range") (fun vs H Q => ∃ j, vs = [V.int j] ∧ ∀ p, H p = none → Q (.ref p) (upd H p (.rng 0 j))) := by
  intro pins s σ H vs us Q I r h
  obtain ⟨j, rfl, q⟩ := h
  obtain ⟨u1, rfl, rj⟩ := vals1 r
  obtain ⟨t, rfl⟩ := rj
  refine call_range_1 ⟨.ref s.heap.objs.size, upd H s.heap.objs.size (.rng 0 j), I.laid (t' := s.toks + 1 + 1) (fun b o e => Heap.get?_push_of_some _ e) (Nat.le_refl _) ?_, rfl, q _ (I.hok.fresh (Nat.le_refl _))⟩
  exact ⟨s.toks, t, s.toks + 1, Heap.get?_push_size _ rfl⟩
def iRngV (te : TE) : TI := fun σ H R => te σ H fun x H1 => ∃ a lo hi, x = .ref a ∧ H1 a = some (.rng lo hi) ∧ (-(2 ^ 62) ≤ lo ∧ lo < 2 ^ 62 ∧ -(2 ^ 62) ≤ hi ∧ hi < 2 ^ 62) ∧ R (Itr lo (hi - lo).toNat) H1
theorem pi_rngV {tg e : Expr} {te : TE} (he : PE X e te) : PI X tg e (iRngV te) := by
  refine ⟨fun pins s σ H R I h => ?_⟩
  refine thn (he.run pins s σ H _ I h) fun v s1 ⟨x, H1, I1, r1, q1⟩ => ?_
  obtain ⟨a, lo, hi, e, ea, ⟨h1, h2, h3, h4⟩, q⟩ := q1
  subst e
  cases r1
  obtain ⟨t, u, v, hg⟩ := (show ObjOk X.prog X.w H1 s1.heap a (.rng lo hi) from I1.hok a _ ea)
  refine wpAny_pyIter_range (show IsRange s1.heap a lo hi 1 t u v from hg) (small_one h1 h2 h3 h4) ?_
  refine ⟨s1.heap.objs.size, [s1.heap.objs.size], _, _, H1, rfl, I1.kept (t' := s1.toks) fun b o e => Heap.get?_push_of_some _ e, turn_range _ lo (hi - lo).toNat, ?_, fun b hb => ?_, q⟩
  · have e1 : lo + ((0 : Nat) : Int) * 1 = lo := by simp
    have e2 : (((hi - lo).toNat : Nat) : Int) - ((0 : Nat) : Int) = Builtin.Range.rangeSize lo hi 1 := by rw [rangeSize_one]; split <;> omega
    show IsRangeIter _ _ (lo + ((0 : Nat) : Int) * 1) ((((hi - lo).toNat : Nat) : Int) - ((0 : Nat) : Int)) 1
    rw [e1, e2]
    exact Heap.get?_push_size _ rfl
  · have e : b = s1.heap.objs.size := by simpa using hb
    subst e
    exact I1.fpOk (Nat.le_refl _) (I1.hok.fresh (Nat.le_refl _))
end
section
variable {X : Cx} {CX : CXT} {k : Nat} {f C : Addr} {fd : FuncData} {ps : List Str} {sp : Sp} {dvs : List V} {ds : List Value} {m : Str} {p pos apos : Pos} {e o : Expr} {es : List Expr} {ta : TE} {t : TA}
/-- o.m(e, ..) in a try's body: what is raised is wished for at the slots -/
def tMethS (C : Addr) (m : Str) (sp : Sp) (dvs : List V) (W : WX) (ta : TE) (t : TA) : TE := fun σ H Q => ta σ H fun x H1 => ∃ a dx fs, x = .ref a ∧ H1 a = some (.ins C dx fs) ∧ fs.lookup m = none ∧ t σ H1 fun vs H2 => sp (x :: (vs ++ dvs)) H2 Q (fun cls d H' => W cls d σ H')
theorem run_ownS {W : WX} {pins : List (Addr × Obj)} {σ : L2.St} {H : Hp} {s : Shared} {Q : VK} {us : List Value} {vs : List V} (F : FnOk X.prog X.w X.K X.mg X.base CX k f fd ps sp) (hr : Room k X.A) (hb : Binds X.K fd ps ds) (hd : Vals dvs ds) (hx : PassesAt CX X σ (fun cls d H' => W cls d σ H'))
    (I : Inv X pins σ H s) (r : Vals vs us) (h : sp (vs ++ dvs) H Q (fun cls d H' => W cls d σ H')) : wpAny (model X.prog X.w) X.A (call (.ref f) us) (EP X pins σ Q) X.xe s := by
  have r2 : Vals (vs ++ dvs) (us ++ ds) := Vals.append r hd
  have cnt : (us ++ ds).length = ps.length := (r2.length).symm.trans (F.len _ _ _ _ h)
  refine wpAny_call (codeAny_mono (F.run X.A X.stack s H ⟨us, []⟩ (us ++ ds) (vs ++ dvs) Q _ hr I.env0 (hb s us I.kIn cnt) r2 h) ?_)
  intro res s2 hq
  cases res with
  | error er => exact hx pins H s er s2 I hq
  | ok fl =>
    cases fl with
    | ret u => exact Inv.after I hq
    | next => exact hq.elim
    | brk => exact hq.elim
    | cont => exact hq.elim
theorem pe_methS {W : WX} {pl : Sem Bool} (he : PE X o ta) (c : Cls X.K C) (hm : Meth X.K C m f) (F : FnOk X.prog X.w X.K X.mg X.base CX k f fd ps sp) (hr : Room k X.A) (hb : Binds X.K fd ps ds) (hd : Vals dvs ds) (hx : ∀ σ, PassesAt CX X σ (fun cls d H' => W cls d σ H')) (ha : PA X (e :: es) t)
    (hst : starEach (e :: es) X.env = (false, eval e X.env) :: starEach es X.env := by rfl) (hpl : (backTo pos (starEach es X.env)).any (·.1) = false := by rfl)
    (ht : eval (.Call (.Attribute o m apos) (e :: es) [] pos) X.env = (do
      let ov ← eval o X.env
      standAt apos.atName
      let (f, first) ← holding [ov] (getMethod ov m pl)
      callWith pos f first (backTo pos (starEach (e :: es) X.env)) (backToKw pos (keywordEach [] X.env))) := by rfl) :
    PE X (.Call (.Attribute o m apos) (e :: es) [] pos) (tMethS C m sp dvs W ta t) := by
  refine ⟨fun pins s σ H Q I h => ?_⟩
  refine PySem.W.methodCall_KW (pl := pl) (thn (he.run pins s σ H _ I h) fun u s1 ⟨x, H1, I1, rx, a, dx, fs, ex, ea, l, q⟩ => ?_) ht
  subst ex
  obtain rfl : u = Value.ref a := rx
  refine getmeth_ok I1 ea c hm l ?_
  refine PySem.W.callWith_K (first := [.ref a]) (h₀ := X.base) I.ok.mod.kin hm.kp (thn (ha.run pos pins s1 σ H1 _ I1 q) fun us s2 ⟨vs, H2, I2, r, q2⟩ => ⟨I2.kIn, ?_⟩) hst hpl
  exact run_ownS (us := .ref a :: us) (vs := .ref a :: vs) F hr hb hd (hx σ) I2 (.cons rfl r) q2
theorem run_makeS {W : WX} {pins : List (Addr × Obj)} {σ : L2.St} {H : Hp} {s : Shared} {Q : VK} {us : List Value} {vs : List V} (M : Mk X.K C f) (F : FnOk X.prog X.w X.K X.mg X.base CX k f fd ps sp) (hr : Room (k + 1) X.A) (hb : Binds X.K fd ps ds) (hd : Vals dvs ds)
    (hx : ∀ σ, PassesAt CX X σ (fun cls d H' => W cls d σ H')) (I : Inv X pins σ H s) (r : Vals vs us)
    (h : ∀ x dx, H x = none → H dx = none → dx ≠ x → sp (.ref x :: (vs ++ dvs)) (upd (upd H dx (.own x)) x (.ins C dx [])) (fun v H2 => v = .non ∧ Q (.ref x) H2) (fun cls d H' => W cls d σ H')) :
    wpAny (model X.prog X.w) X.A (call (.ref C) us) (EP X pins σ Q) X.xe s := by
  have hq := h (s.heap.objs.size + 1) s.heap.objs.size (I.hok.fresh (Nat.le_succ _)) (I.hok.fresh (Nat.le_refl _)) (Nat.ne_of_lt (Nat.lt_succ_self _))
  have I2 := Inv.made (C := C) I
  have r2 : Vals (V.ref (s.heap.objs.size + 1) :: (vs ++ dvs)) (Value.ref (s.heap.objs.size + 1) :: (us ++ ds)) := .cons rfl (r.append hd)
  have hl : (Value.ref (s.heap.objs.size + 1) :: us ++ ds).length = ps.length := by
    have e := r2.length
    rw [F.len _ _ _ _ hq] at e
    exact e.symm
  refine wpAny_call (make_map (f := f) I.kIn M.makes M.init (beq_iff_eq.mp M.fn) (codeAny_mono (F.run _ X.stack _ _ ⟨Value.ref (s.heap.objs.size + 1) :: us, []⟩ (Value.ref (s.heap.objs.size + 1) :: (us ++ ds)) _ _ _ (hr.make C us [])
    (I2.env0.make C us []) (hb _ (Value.ref (s.heap.objs.size + 1) :: us) I2.kIn hl) r2 hq) fun r s' hq' => ?_))
  cases r with
  | error e => exact hx σ pins _ _ e s' I2 hq'
  | ok fl =>
    cases fl with
    | ret u =>
      obtain ⟨v, H', I3, rv, ev, q3⟩ := I2.after hq'
      subst ev
      exact ⟨rv, ⟨V.ref (s.heap.objs.size + 1), H', I3, rfl, q3⟩⟩
    | next => exact False.elim hq'
    | brk => exact False.elim hq'
    | cont => exact False.elim hq'
/-- C(e, ..) in a try's body -/
def tMakeS (C : Addr) (sp : Sp) (dvs : List V) (W : WX) (t : TA) : TE := fun σ H Q => t σ H fun vs H1 => ∀ x dx, H1 x = none → H1 dx = none → dx ≠ x → sp (.ref x :: (vs ++ dvs)) (upd (upd H1 dx (.own x)) x (.ins C dx [])) (fun v H2 => v = .non ∧ Q (.ref x) H2) (fun cls d H' => W cls d σ H')
theorem pe_makeS {x : Str} {W : WX} (M : Mk X.K C f) (F : FnOk X.prog X.w X.K X.mg X.base CX k f fd ps sp) (hr : Room (k + 1) X.A) (hg : Gl X x) (hm : X.mg x = some (.ref C)) (hb : Binds X.K fd ps ds) (hd : Vals dvs ds) (hx : ∀ σ, PassesAt CX X σ (fun cls d H' => W cls d σ H'))
    (ha : PA X (e :: es) t) (hdb : (x == ("__debug__" : Str)) = false := by decide) (he : starEach (e :: es) X.env = (false, eval e X.env) :: starEach es X.env := by rfl) (hpl : (backTo pos (starEach es X.env)).any (·.1) = false := by rfl) :
    PE X (.Call (.Name x p) (e :: es) [] pos) (tMakeS C sp dvs W t) := by
  refine ⟨fun pins s σ H Q I h => ?_⟩
  refine wpAny_Call_Name_kw (ld_glob I hg hm ?_ hdb)
  refine PySem.W.callWith_K (h₀ := X.base) I.ok.mod.kin M.kp (thn (ha.run pos pins s σ H _ I h) fun us s1 ⟨vs, H1, I1, r, q⟩ => ⟨I1.kIn, ?_⟩) he hpl
  exact run_makeS M F hr hb hd hx I1 r q
end
/-! ### bars -/
def barD (q : Nat × Nat) : PyData := .tuple [.int (q.1 : Nat), .int (q.2 : Nat)]
def partL (a j : Nat) : List (Nat × Nat) := ((List.range j).filter fun b => decide (a ≤ b)).map fun b => (a, b)
def preL (n i : Nat) : List (Nat × Nat) := (List.range i).flatMap fun a => partL a n
def barsL (n : Nat) : List (Nat × Nat) := preL n n
theorem part_len (a j : Nat) : (partL a j).length ≤ j := by
  unfold partL
  rw [List.length_map]
  exact Nat.le_trans (List.length_filter_le _ _) (by simp)
theorem pre_len (n : Nat) : ∀ i, (preL n i).length ≤ i * n
  | 0 => by simp [preL]
  | i + 1 => by
    unfold preL
    rw [List.range_succ, List.flatMap_append, List.length_append, Nat.succ_mul]
    have h1 := pre_len n i
    have h2 := part_len i n
    unfold preL at h1
    simp only [List.flatMap_cons, List.flatMap_nil, List.append_nil]
    omega
theorem pre_succ (n i : Nat) : preL n (i + 1) = preL n i ++ partL i n := by
  unfold preL
  rw [List.range_succ, List.flatMap_append]
  simp
theorem part_succ (a j : Nat) : partL a (j + 1) = if a ≤ j then partL a j ++ [(a, j)] else partL a j := by
  unfold partL
  rw [List.range_succ, List.filter_append, List.map_append]
  by_cases h : a ≤ j
  · rw [if_pos h]
    simp [h]
  · rw [if_neg h]
    simp [h]
def spBars (CT : Addr) : Sp := fun vs H Q E => ∃ v d, vs = [v] ∧ Any H v d ∧ Short d ∧ (isPatD d = false → Thrown CT v H E) ∧
  ∀ x, d = .str x → isPatD d = true → ∀ l acc H', H l = none → Same H H' → H' l = some (.lst acc) → AnyL (del H' l) acc ((barsL (x.length + 1)).map barD) → Q (.ref l) H'
def spLenR (C : Addr) : Sp := fun vs H Q _ => ∃ a x p ss mm, vs = [.ref a] ∧ RowAt C H a x p ss mm ∧ Q (.int (ss.length : Nat)) H
def spMatx (C CL : Addr) : Sp := fun vs H Q E => ∃ a v d x p ss mm, vs = [.ref a, v] ∧ RowAt C H a x p ss mm ∧ Any H v d ∧ mm.length ≤ 1000 ∧ (inB d (.int 0) (.int ((mm.length : Nat) - 1 : Int)) = false → ∀ H1, Same H H1 → Thrown CL v H1 E) ∧
  (∀ i : Nat, d = .int i → i < mm.length → ∀ l ys H', H l = none → Same H H' → H' l = some (.lst ys) → AnyL (del H' l) ys (mm[i]?.getD []) → Q (.ref l) H')
def spMaps (C : Addr) : Sp := fun vs H Q _ => ∃ a x p ss mm, vs = [.ref a] ∧ RowAt C H a x p ss mm ∧ mm.length ≤ 1000 ∧ ∀ l acc H', H l = none → Same H H' → H' l = some (.lst acc) → AnyL (del H' l) acc (mm.map .list) → Q (.ref l) H'
end Rw

set_option Elab.async false
set_option linter.all false
set_option maxRecDepth 100000
set_option maxHeartbeats 4000000
/-! TkBC: an operator of an own class, in a try's body and outside. -/
namespace Rw
open PySem PySem.Spec PyProof.Rows L2
/-- a class with an own operator -/
structure OpC (K : PySem.W.Frag) (C : Addr) (op : Operator) (f : Addr) : Prop where
  at_ : PySem.W.findIn K (.ref C) (PySem.dunder op.info.2) = some (some (.ref f))
  fn : PySem.W.isFn K (.ref f) = true
  first : PySem.W.selfFirst K C = true
section
variable {X : Cx} {CX : CXT} {k : Nat} {f C : Addr} {fd : FuncData} {ps : List Str} {sp : Sp} {op : Operator} {a b : Expr} {ta tb : TE} {pos : Pos}
theorem back_of {v : V} {u : Value} {Q : Value → Shared → Prop} {s : Shared} (r : RelV v u) (h : Q u s) : PySem.W.CmpBack Q u s := by
  cases v with
  | int i => obtain ⟨t, rfl⟩ := r; exact h
  | str x => obtain ⟨t, rfl⟩ := r; exact h
  | ref p => cases r; exact h
  | bl q => cases r; exact h
  | non => cases r; exact h
  | ty n => cases r; exact h
  | byt b => obtain ⟨t, rfl⟩ := r; exact h
  | flt b => obtain ⟨t, rfl⟩ := r; exact h
theorem run_opS {W : WX} {pins : List (Addr × Obj)} {σ : L2.St} {H : Hp} {s : Shared} {Q : VK} {x y dx dy : Addr} {fs gs : List (Str × V)} (O : OpC X.K C op f) (F : FnOk X.prog X.w X.K X.mg X.base CX k f fd ps sp) (hr : Room k X.A) (hb : Binds X.K fd ps []) (hx : PassesAt CX X σ (fun cls d H' => W cls d σ H'))
    (I : Inv X pins σ H s) (ex : H x = some (.ins C dx fs)) (ey : H y = some (.ins C dy gs)) (h : sp [.ref x, .ref y] H Q (fun cls d H' => W cls d σ H')) : wpAny (model X.prog X.w) X.A (binaryOp op (.ref x) (.ref y)) (EP X pins σ Q) X.xe s := by
  obtain ⟨mA, J, _⟩ := ins_get I.hok ex
  obtain ⟨mB, J', _⟩ := ins_get I.hok ey
  obtain ⟨od, J, _⟩ := J.look
  obtain ⟨od', J', _⟩ := J'.look
  obtain ⟨m, hF⟩ := I.fr
  refine PySem.W.binop_K hF I.ok.mod.kin J J'.type O.first O.at_ O.fn ?_
  refine wpAny_mono (run_ownS (us := [.ref x, .ref y]) (vs := [.ref x, .ref y]) (ds := []) (dvs := []) F hr hb .nil hx I (.cons rfl (.cons rfl .nil)) h) (fun u s' z => ?_) fun _ _ z => z
  obtain ⟨v, H', I', r, q⟩ := z
  exact back_of r ⟨v, H', I', r, q⟩
/-- a op b by the class's own def, in a try's body -/
def tOpS (C : Addr) (sp : Sp) (W : WX) (ta tb : TE) : TE := fun σ H Q => ta σ H fun v H1 => tb σ H1 fun u H2 => ∃ x y dx dy fs gs, v = .ref x ∧ u = .ref y ∧ H2 x = some (.ins C dx fs) ∧ H2 y = some (.ins C dy gs) ∧ sp [.ref x, .ref y] H2 Q (fun cls d H' => W cls d σ H')
theorem pe_opS {W : WX} (O : OpC X.K C op f) (F : FnOk X.prog X.w X.K X.mg X.base CX k f fd ps sp) (hr : Room k X.A) (hb : Binds X.K fd ps []) (hx : ∀ σ, PassesAt CX X σ (fun cls d H' => W cls d σ H')) (ha : PE X a ta) (hb2 : PE X b tb) : PE X (.BinOp a op b pos) (tOpS C sp W ta tb) := by
  refine ⟨fun pins s σ H Q I h => ?_⟩
  refine wpAny_BinOp (binT ha hb2 I h fun v u s2 x y H2 I2 rx ry q => ?_)
  obtain ⟨x', y', dx, dy, fs, gs, rfl, rfl, ex, ey, q⟩ := q
  cases rx
  cases ry
  exact run_opS O F hr hb (hx σ) I2 ex ey q
end
end Rw

set_option Elab.async false
set_option linter.all false
set_option maxRecDepth 100000
set_option maxHeartbeats 4000000
/-! TkBA: what stands behind the top: methods of a class, written tables, ints, defs with two defaults. -/
namespace Rw
open PySem PySem.Spec PyProof.Rows L2
def MethHere (K : PySem.W.Frag) (C : Addr) (x q : Str) (st : Stmt) : Prop := ∃ f : Addr, PySem.W.findIn K (.ref C) x = some (some (.ref f)) ∧ PySem.W.isFn K (.ref f) = true ∧ DefAt K x q st f
def TabIHere (K : PySem.W.Frag) (x : Str) (d : Addr) (kvs : List (Int × Value)) : Prop := PySem.W.nsIn K mainGlobals x = some (some (.ref d)) ∧ TabI K d kvs
def TabSHere (K : PySem.W.Frag) (w : World) (x : Str) (d : Addr) (kvs : List (Str × Value)) : Prop := PySem.W.nsIn K mainGlobals x = some (some (.ref d)) ∧ TabS K w d kvs
/-- a property of a class -/
def PropHere (K : PySem.W.Frag) (C : Addr) (x q : Str) (st : Stmt) : Prop := ∃ p g : Addr, PropOf K C x p g ∧ DefAt K x q st g
section
variable {K : PySem.W.Frag} {mg : Str → Option Value} {h : Heap}
theorem PropHere.of {C : Addr} {x q : Str} {st : Stmt} {p g : Addr} {rest : List Value} {oc : Value} {od : Option Addr} {kV dc pm : Value} {an : Option Addr} {cd ct : Value} {sl : Array (Option Value)} (a : PySem.W.findIn K (.ref C) x = some (some (.ref p)))
    (ge : PySem.W.specialIn K (.ref p) "__get__" = some (some (.builtin "property.__get__"))) (ta : PySem.W.takesIn K (.ref p) = some true) (re : PySem.W.recIn K p "property" = some (.ref g :: rest))
    (l : K.lookup g = some ⟨oc, od, .func (PySem.W.fnOf x q (defArgs st) (defBody st) (defScope st) .none kV dc pm an cd ct), sl⟩) (c : PySem.W.codeIn K cd q = true) (k : PySem.W.keepIn K (.ref g) = true) : PropHere K C x q st :=
  ⟨p, g, ⟨a, ge, ta, ⟨rest, re⟩⟩, oc, od, kV, dc, pm, an, cd, ct, sl, l, c, k⟩
theorem PropHere.pr {C : Addr} {x q : Str} {st : Stmt} {ps : List Str} (D : PropHere K C x q st)
    (b : ∀ (kV doc pm : Value) (an : Option Addr) (cdv ct : Value) (us : List Value), us.length = ps.length → bindArgs (PySem.W.fnOf x q (defArgs st) (defBody st) (defScope st) .none kV doc pm an cdv ct) ⟨us, []⟩ = pure (ps.zip us)) :
    ∃ (p g : Addr) (fd : FuncData), PropOf K C x p g ∧ Fun K x q st g fd ∧ Binds K fd ps [] := by
  obtain ⟨p, g, hp, oc, od, kV, dc, pm, an, cd, ct, sl, l, c, k⟩ := D
  have F := fun_mk (x := x) (qual := q) (st := st) l c k
  exact ⟨p, g, _, hp, F, F.binds b⟩
theorem MethHere.of {C : Addr} {x q : Str} {st : Stmt} {f : Addr} {oc : Value} {od : Option Addr} {kV dc pm : Value} {an : Option Addr} {cd ct : Value} {sl : Array (Option Value)} (g : PySem.W.findIn K (.ref C) x = some (some (.ref f))) (fn : PySem.W.isFn K (.ref f) = true)
    (l : K.lookup f = some ⟨oc, od, .func (PySem.W.fnOf x q (defArgs st) (defBody st) (defScope st) .none kV dc pm an cd ct), sl⟩) (c : PySem.W.codeIn K cd q = true) (k : PySem.W.keepIn K (.ref f) = true) : MethHere K C x q st :=
  ⟨f, g, fn, oc, od, kV, dc, pm, an, cd, ct, sl, l, c, k⟩
theorem TabIHere.of {x : Str} {d : Addr} {kvs : List (Int × Value)} {l : List DictEntry} {n : Nat} (g : PySem.W.nsIn K mainGlobals x = some (some (.ref d))) (k : K.lookup d = some ⟨.type "dict", none, .dict l.toArray n, #[]⟩) (t : IntTab l kvs) (z : (d == sysModules) = false) : TabIHere K x d kvs :=
  ⟨g, ⟨⟨l, n, k, t⟩, z⟩⟩
theorem TabSHere.of {w : World} {x : Str} {d : Addr} {kvs : List (Str × Value)} {l : List DictEntry} {n : Nat} (g : PySem.W.nsIn K mainGlobals x = some (some (.ref d))) (k : K.lookup d = some ⟨.type "dict", none, .dict l.toArray n, #[]⟩) (t : TxtTab w.params l kvs) (z : (d == sysModules) = false) : TabSHere K w x d kvs :=
  ⟨g, ⟨⟨l, n, k, t⟩, z⟩⟩
theorem MethHere.mt {C : Addr} {x q : Str} {st : Stmt} {ps : List Str} (D : MethHere K C x q st)
    (b : ∀ (kV doc pm : Value) (an : Option Addr) (cdv ct : Value) (us : List Value), us.length = ps.length → bindArgs (PySem.W.fnOf x q (defArgs st) (defBody st) (defScope st) .none kV doc pm an cdv ct) ⟨us, []⟩ = pure (ps.zip us)) :
    ∃ (f : Addr) (fd : FuncData), PySem.W.findIn K (.ref C) x = some (some (.ref f)) ∧ PySem.W.isFn K (.ref f) = true ∧ PySem.W.keepIn K (.ref f) = true ∧ Fun K x q st f fd ∧ Binds K fd ps [] := by
  obtain ⟨f, g, fn, oc, od, kV, dc, pm, an, cd, ct, sl, l, c, k⟩ := D
  have F := fun_mk (x := x) (qual := q) (st := st) l c k
  exact ⟨f, _, g, fn, k, F, F.binds b⟩
end
/-- a def with two defaults None, called with all three -/
theorem DflHere.own3 {l : PySem.Program} {w : World} {K : PySem.W.Frag} {mg : Str → Option Value} {base h : Heap} {x p1 p2 p3 : Str} {st : Stmt} {CX : CXT} {k : Nat} {sp : Sp} (D : DflHere K x st [.none, .none]) (X : K.In h) (G : h.Ns mainGlobals mg)
    (b : ∀ (T : Addr) (kV doc pm : Value) (an : Option Addr) (cdv ct : Value) (us its : List Value), us.length = 3 → its.length = 2 →
      ∃ g, bindArgs (PySem.W.fnOf x x (defArgs st) (defBody st) (defScope st) (.ref T) kV doc pm an cdv ct) ⟨us, []⟩ = seqItems? (.ref T) >>= g ∧ g (some its.toArray) = pure (([p1, p2, p3] : List Str).zip (us ++ its.drop 2)))
    (ok : ∀ (f : Addr) (fd : FuncData), FunD K x x (defArgs st) (defBody st) (defScope st) [.non, .non] [] f fd → FnOk l w K mg base CX k f fd [p1, p2, p3] sp) : Own l w K mg base CX k x [p1, p2, p3] [] sp := by
  obtain ⟨f, T', oc, od, kV, dc, pm, an, cd, ct, sl, tc, td, n, ts, g, l', c', k', lT⟩ := D
  have F : FunD K x x (defArgs st) (defBody st) (defScope st) [.non, .non] [] f _ := ⟨⟨oc, od, _, kV, dc, pm, an, cd, ct, sl, rfl, l', c', .inr ⟨by simp, T', _, [.none, .none], n, rfl, lT, rfl, .cons rfl (.cons rfl .nil)⟩, .inl rfl⟩, k'⟩
  obtain ⟨ds, v, bb⟩ := F.binds1 (ps := [p1, p2, p3]) 3 2 (by simp) rfl b
  exact ⟨f, _, ds, PySem.W.mg_of X G g, k', ok f _ F, bb, v⟩
end Rw

set_option Elab.async false
set_option linter.all false
set_option maxRecDepth 100000
set_option maxHeartbeats 4000000
/-! TkBD: own errors without a field: their __init__ calls that of the root. -/
namespace Rw
open PySem PySem.Spec PyProof.Rows L2
/-- what is asked of the root, over ValueError, without an own __init__ -/
structure RootC (K : PySem.W.Frag) (CR : Addr) : Prop where
  sp : PySem.W.specialIn K (.ref CR) "__getattribute__" = some (some (.builtin "type.__getattribute__"))
  ty : PySem.W.typeIn K (.ref CR) = some (.type "type")
  rd : PySem.W.readsIn K CR (.type "type") = true
  ini : PySem.W.findCls K (.ref CR) (.type "type") "__init__" = some (.val (.builtin "ValueError.__init__"))
section
variable {X : Cx} {e : Expr} {es : List Expr} {ta : TA} {p1 p2 p pos pos2 : Pos} {x : Str} {CR : Addr}
theorem pe_rootini {pl : Sem Bool} (R : RootC X.K CR) (hg : Gl X x) (hm : X.mg x = some (.ref CR)) (ha : PA X (e :: es) ta) (hdb : (x == ("__debug__" : Str)) = false := by decide)
    (hc : eval (.Call (.Attribute (.Name x p1) "__init__" p2) (e :: es) [] pos) X.env = (do
      let ov ← eval (.Name x p1) X.env
      standAt p2.atName
      let (f, first) ← holding [ov] (getMethod ov "__init__" pl)
      callWith pos f first (backTo pos (starEach (e :: es) X.env)) (backToKw pos (keywordEach [] X.env))) := by rfl)
    (he : starEach (e :: es) X.env = (false, eval e X.env) :: starEach es X.env := by rfl) (hpl : (backTo pos (starEach es X.env)).any (·.1) = false := by rfl) :
    PE X (.Call (.Attribute (.Name x p1) "__init__" p2) (e :: es) [] pos) (tVeI X.K ta) := by
  refine ⟨fun pins s σ H Q I h => ?_⟩
  refine PySem.W.methodCall_KW (ld_glob I hg hm ?_ hdb) hc
  obtain ⟨m, fr⟩ := I.fr
  refine PySem.W.method_of_cls fr I.ok.mod.kin R.sp ?_
  refine PySem.W.cls_val fr I.ok.mod.kin R.ty R.rd R.ini (by decide +kernel) ?_
  show wpAny _ _ (callWith pos (Value.builtin "ValueError.__init__") [] (backTo pos (starEach (e :: es) X.env)) []) _ _ _
  refine PyProof.Rows.callWith_method1 (thn (ha.run pos pins _ σ H _ (I.tok _) h) fun us s1 ⟨vs, H1, I1, r1, a, C, ws, ev, hl, T, ea, q⟩ => ?_) he hpl
  subst ev
  cases r1 with
  | @cons _ u0 _ ur ra rw' =>
    obtain rfl : u0 = Value.ref a := ra
    have hlen : ur.length ≤ sizeLine := by
      rw [← Paired.length rw', sizeLine_eq]
      omega
    exact oinit_ok T I1 ea hlen fun s' J => ⟨.non, H1, J, rfl, q⟩
end
section
variable {X : Cx}
theorem mk_endN {pins : List (Addr × Obj)} {σ : L2.St} {H1 H2 : Hp} {Q : XK} {hp hp2 h2 : Heap} {g1 g2 : Array GenState} {d1 d2 : Drawn} {t1 t2 : Nat} {os1 os2 : OsState} {a C : Addr} (T : Raises X (.ref C)) (I1 : Inv X pins σ H1 ⟨hp, g1, d1, t1, os1⟩)
    (ha : hp.objs.size ≤ a) (k : ∀ b o, hp.get? b = some o → hp2.get? b = some o) (un : Un (frs X.stack) [] (upd H1 a (exo a C none)) H2 hp2 h2) (hok : HOk X.prog X.w H2 h2) (ho : os2 = os1) (hb : AllBare g2)
    (ea : H2 a = some (exo a C none)) (q : Q (.ref C) none (del H2 a)) : MkP X pins σ Q (.ref a) ⟨h2, g2, d2, t2, os2⟩ := by
  obtain ⟨t0, hoe⟩ := exo_at hok ea
  have hn : H1 a = none := I1.hok.fresh ha
  obtain ⟨G, g1', g2'⟩ := restrict h2 fun b => decide (b ≠ a)
  have gk : ∀ b, b ≠ a → G.get? b = h2.get? b := fun b hb => g1' b (decide_eq_true hb)
  have ge : G.get? a = none := g2' a (by simp)
  have nha : ∀ {b : Addr} {o : Obj}, hp.get? b = some o → b ≠ a := fun {b o} z => Nat.ne_of_lt (Nat.lt_of_lt_of_le (Heap.lt_size z) ha)
  have up : ∀ {b : Addr}, b ≠ a → H1 b = none → upd H1 a (exo a C none) b = none := fun {b} hb n => by rw [upd_ne hb]; exact n
  have U : Un (frs X.stack) [] H1 (del H2 a) hp G := {
    keep := fun b o z n hf hx => by
      rw [gk b (nha z)]
      exact un.keep b o (k b o z) (up (nha z) n) hf hx
    slot := fun b o z n hf hx => by
      rw [gk b (nha z)]
      exact un.slot b o (k b o z) (up (nha z) n) hf hx
    free := fun b o z n hx => by
      rw [del_ne (nha z)]
      exact un.free b o (k b o z) (up (nha z) n) hx
    there := fun b o z hx => by
      rw [gk b (nha z)]
      exact un.there b o (k b o z) hx
    tups := fun b xs z => by
      rw [del_ne (ne_of_none z hn)]
      exact un.tups b xs (by rw [upd_ne (ne_of_none z hn)]; exact z)
    frzs := fun b o v z => by
      rw [del_ne (ne_of_none z hn)]
      exact un.frzs b o v (by rw [upd_ne (ne_of_none z hn)]; exact z)
    tbls := fun b ps z => by
      rw [del_ne (ne_of_none z hn)]
      exact un.tbls b ps (by rw [upd_ne (ne_of_none z hn)]; exact z) }
  have hok3 : HOk X.prog X.w (del H2 a) G := fun b o z => by
    have hba : b ≠ a := fun e => by
      rw [e, del_same] at z
      cases z
    rw [del_ne hba] at z
    have noa : ∀ {c : Addr}, H2 c = some (.own b) → c ≠ a := fun {c} hc => at_ne ea hc exo_own
    exact (hok b o z).stay (fun c v hc y => by
        have hca : c ≠ a := by
          rcases hc with hc | hc
          · rw [hc]
            exact hba
          · exact noa hc
        rw [gk c hca]
        exact y)
      (fun c hc => by rw [del_ne (noa hc)]; exact hc) (fun c xs hc => by rw [del_ne (at_ne ea hc exo_tup)]; exact hc)
  have J : Inv X pins σ (del H2 a) ⟨G, g2, d2, t2, os2⟩ := I1.call' (ch := []) ho U hok3 hb (fun b z => absurd z (by simp))
  exact ⟨a, _, _, ⟨G, g2, d2, t2, os2⟩, _, .ref C, none, rfl, J, fun b o z => by
    by_cases hba : b = a
    · rw [hba, ge] at z
      cases z
    · exact (gk b hba).symm.trans z, ge, hoe, ⟨rfl, rfl⟩, rfl, rfl, del_same, rfl, hb, T, q⟩
/-- C(): an error without a field -/
def tMkN (C : Addr) (sp : Sp) : L2.St → Hp → XK → Prop := fun _ H Q => ∀ a, H a = none → sp [.ref a] (upd H a (exo a C none)) (fun v H2 => v = .non ∧ H2 a = some (exo a C none) ∧ Q (.ref C) none (del H2 a)) (fun _ _ _ => False)
theorem pmk_oexN {CX : CXT} {x : Str} {C fI : Addr} {k : Nat} {fd : FuncData} {ps : List Str} {sp : Sp} {p pos : Pos} (T : OexC X.K C) (iC : PySem.W.findIn X.K (.ref C) "__init__" = some (some (.ref fI))) (tI : PySem.W.typeIn X.K (.ref fI) = some (.type "function"))
    (F1 : FnOk X.prog X.w X.K X.mg X.base CX k fI fd ps sp) (hr : Room (k + 1) X.A) (hb : Binds X.K fd ps []) (hx : Passes CX X (fun _ _ _ => False)) (hg : Gl X x) (hm : X.mg x = some (.ref C)) (hdb : (x == ("__debug__" : Str)) = false := by decide) :
    PMk X (.Call (.Name x p) [] [] pos) (tMkN C sp) := by
  intro pins s σ H Q I h
  obtain ⟨nm, q, N, bs, bm, sn, sub, ab, col, dd, k0, k1, k2, k3, k5, hC, hbm⟩ := T.cls
  refine wpAny_Call_Name_kw (ld_glob I hg hm ?_ hdb)
  refine PySem.W.callWith_K0 I.kIn T.kC ?_
  show wpAny _ _ (call (.ref C) []) _ _ _
  obtain ⟨hp, g, dr, tk, os⟩ := s
  have hsz : hp.objs.size ≤ hp.objs.size + 1 := Nat.le_succ _
  have hn : H (hp.objs.size + 1) = none := I.hok.fresh hsz
  have hq := h (hp.objs.size + 1) hn
  have kk : ∀ b o, hp.get? b = some o → ((hp.push (PySem.W.kdv_tup [])).push (PySem.HandSPX.excO C hp.objs.size)).get? b = some o := fun b o e => Heap.get?_push_of_some _ (Heap.get?_push_of_some _ e)
  have hget : ((hp.push (PySem.W.kdv_tup [])).push (PySem.HandSPX.excO C hp.objs.size)).get? (hp.objs.size + 1) = some (PySem.HandSPX.excO C hp.objs.size) := by heap_get
  have I2 : Inv X pins σ (upd H (hp.objs.size + 1) (exo (hp.objs.size + 1) C none)) ⟨(hp.push (PySem.W.kdv_tup [])).push (PySem.HandSPX.excO C hp.objs.size), g, dr, tk, os⟩ :=
    I.laid (t' := tk) (a := hp.objs.size + 1) (o := exo (hp.objs.size + 1) C none) (h' := (hp.push (PySem.W.kdv_tup [])).push (PySem.HandSPX.excO C hp.objs.size)) kk hsz (exo_ok hget)
  have r2 : Vals [V.ref (hp.objs.size + 1)] [Value.ref (hp.objs.size + 1)] := .cons rfl .nil
  have hl : [Value.ref (hp.objs.size + 1)].length = ps.length := (F1.len _ _ _ _ hq).symm ▸ rfl
  refine wpAny_call (PySem.HandSPX.call_own F.excBase_ValueError (fun Y => PySem.HandSPX.refsVE_contains Y bm hbm) (I.kIn _ _ hC) (PySem.W.looks_findIn I.kIn iC) (fun self => PySem.W.bind_fn I.kIn self tI) (by show 0 ≤ _; exact Nat.zero_le _)
    (codeAny_mono (F1.run _ X.stack _ _ ⟨[Value.ref (hp.objs.size + 1)], []⟩ [Value.ref (hp.objs.size + 1)] _ _ (fun _ _ _ => False) (hr.make C [] []) (I2.env0.make C [] []) (by
      have := hb _ [Value.ref (hp.objs.size + 1)] I2.kIn (by simpa using hl)
      simpa using this) r2 hq) fun r s' hq' => ?_))
  cases r with
  | error er => exact hx pins σ _ _ er s' I2 hq'
  | ok fl =>
    cases fl with
    | ret u =>
      obtain ⟨v, H2, os2, bare2, un2, hok2, rv, ev, ea, q2⟩ := hq'
      subst ev
      obtain ⟨h2, g2, d2, t2, os'⟩ := s'
      exact ⟨rv, mk_endN (raises_own T.exC T.tyC) I hsz kk un2 hok2 os2 bare2 ea q2⟩
    | next => exact False.elim hq'
    | brk => exact False.elim hq'
    | cont => exact False.elim hq'
end

/-- the body of __init__(self): RowError.__init__(self) -/
def IsIniN (K : PySem.W.Frag) (mg : Str → Option Value) (st : Stmt) : Prop := ∀ (P : Program) (w : World) (base : Heap) (q : Str) (f : Addr) (cdv : Value) (A : Around) (outer : List Env) (s : Shared) (H : Hp) (E : XK),
  ∃ t : TS, PSs (cxOf CX0 P w K mg base ["self"] q (defScope st) f cdv A outer s H E).nox (defBody st) t ∧ ∀ D σ H, tDrop (tVeI K (tCons (tVar 0) tNil)) D σ H → t D σ H
def spIniN (K : PySem.W.Frag) (C : Addr) : Sp := fun vs H Q _ => ∃ a : Addr, vs = [.ref a] ∧ H a = some (exo a C none) ∧ Q .non H
/-- x names an error class without a field, at C -/
structure ErrN (K : PySem.W.Frag) (mg : Str → Option Value) (x : Str) (C : Addr) : Prop where
  g : mg x = some (.ref C)
  ox : OexC K C
  ini : ∃ (f : Addr) (q : Str) (st : Stmt) (fd : FuncData), PySem.W.findIn K (.ref C) "__init__" = some (some (.ref f)) ∧ PySem.W.typeIn K (.ref f) = some (.type "function") ∧ Fun K "__init__" q st f fd ∧ Binds K fd ["self"] [] ∧ FnScope ["self"] ["self"] (defScope st) ∧ IsIniN K mg st
/-- an error of the class at C is let out, all else as it was -/
def ThrownN (C : Addr) (H : Hp) (E : XK) : Prop := ∀ H' : Hp, Same H H' → E (.ref C) none H'
theorem ThrownN.mono {C : Addr} {H H1 : Hp} {E : XK} (h : ThrownN C H E) (k : Same H H1) : ThrownN C H1 E := fun H' s => h H' (k.trans s)
section
variable {P : Program} {w : World} {K : PySem.W.Frag} {mg : Str → Option Value} {base : Heap}
theorem ErrN.init {x : Str} {C : Addr} (T : ErrN K mg x C) : ∃ (f : Addr) (fd : FuncData), PySem.W.findIn K (.ref C) "__init__" = some (some (.ref f)) ∧ PySem.W.typeIn K (.ref f) = some (.type "function") ∧ Binds K fd ["self"] [] ∧
    FnOk P w K mg base CX0 1 f fd ["self"] (spIniN K C) := by
  obtain ⟨f, q, st, fd, h1, h2, F, b, S, dv⟩ := T.ini
  refine ⟨f, fd, h1, h2, b, F.ok S (fun vs H Q E h => ?_) (fun cdv A outer s H vs Q E hr h => ?_)⟩
  · obtain ⟨a, e, _⟩ := h
    rw [e]
    rfl
  · obtain ⟨a, e, ea, k⟩ := h
    subst e
    obtain ⟨t, d, go⟩ := dv P w base q f cdv A outer s H E
    refine ⟨t, d, go _ _ _ ?_⟩
    exact ⟨_, rfl, a, C, [], rfl, by decide, T.ox, ea, k⟩
end
section
variable {X : Cx} {x : Str} {C : Addr} {p pos pos2 : Pos} {W : WX}
/-- raise x() -/
def tThrowN (K : PySem.W.Frag) (C : Addr) (W : WX) : TS := fun _ σ H => tMkN C (spIniN K C) σ H fun cls d H' => W cls d σ H'
theorem ps_throwN (T : ErrN X.K X.mg x C) (hc : X.calm = true) (hr : Room 2 X.A) (tk : Takes X W) (hg : Gl X x := by rfl) (hdb : (x == ("__debug__" : Str)) = false := by decide) :
    PS X (.Raise (some (.Call (.Name x p) [] [] pos)) none pos2) (tThrowN X.K C W) := by
  obtain ⟨f, fd, h1, h2, b, F⟩ := T.init (P := X.prog) (w := X.w) (base := X.base)
  exact ps_raise (pos := pos2) hc tk (pmk_oexN (x := x) (p := p) (pos := pos) T.ox h1 h2 F hr b pass0 hg T.g hdb)
theorem thrownN_go {K : PySem.W.Frag} {H : Hp} {E : XK} (h : ThrownN C H E) : ∀ a, H a = none → spIniN K C [.ref a] (upd H a (exo a C none)) (fun v H2 => v = .non ∧ H2 a = some (exo a C none) ∧ E (.ref C) none (del H2 a)) (fun _ _ _ => False) := by
  intro a ha
  refine ⟨a, rfl, upd_same, rfl, upd_same, h _ fun b o e => ?_⟩
  rw [del_ne (ne_of_none e ha), upd_ne (ne_of_none e ha)]
  exact e
end
/-- such a class of the text -/
def ErrNHere (K : PySem.W.Frag) (x q : Str) (st : Stmt) (R C : Addr) : Prop :=
  ∃ (f N : Addr) (nm qn : Str) (bs : List Value) (sn : List Str) (sub : List Value) (ab : Bool) (col : Option Bool) (dd : Option Addr) (m0 m1 m2 m3 m5 : Option Value), PySem.W.nsIn K mainGlobals x = some (some (.ref C)) ∧
    K.lookup C = some (excClassObj nm qn C N bs [.ref R, .type "ValueError", .type "Exception", .type "BaseException", .type "object"] true sn sub ab col dd m0 m1 m2 m3 m5 "ValueError.__new__") ∧
    PySem.W.findIn K (.ref C) "__setattr__" = some (some (.builtin "object.__setattr__")) ∧ PySem.W.findIn K (.ref C) "__init__" = some (some (.ref f)) ∧ PySem.W.typeIn K (.ref f) = some (.type "function") ∧ DefAt K "__init__" q st f ∧
    PySem.W.keepIn K (.ref C) = true ∧ PySem.W.subIn K (.ref C) (.type "BaseException") = some true ∧ PySem.W.typeIn K (.ref C) = some (.type "type")
section
variable {K : PySem.W.Frag} {mg : Str → Option Value} {h : Heap}
theorem ErrNHere.err {x q : Str} {st : Stmt} {R C : Addr} (E : ErrNHere K x q st R C) (X : K.In h) (G : h.Ns mainGlobals mg) (S : FnScope ["self"] ["self"] (defScope st)) (I : IsIniN K mg st)
    (b : ∀ (kV doc pm : Value) (an : Option Addr) (cdv ct : Value) (us : List Value), us.length = 1 → bindArgs (PySem.W.fnOf "__init__" q (defArgs st) (defBody st) (defScope st) .none kV doc pm an cdv ct) ⟨us, []⟩ = pure ((["self"] : List Str).zip us)) : ErrN K mg x C := by
  obtain ⟨f, N, nm, qn, bs, sn, sub, ab, col, dd, m0, m1, m2, m3, m5, g, l, sa, ini, ty, ⟨oc, od, kV, dc, pm, an, cd, ct, sl, lf, cf, kf⟩, kc, ex, tc⟩ := E
  have F := fun_mk (x := "__init__") (qual := q) (st := st) lf cf kf
  exact {
    g := PySem.W.mg_of X G g
    ox := ⟨⟨nm, qn, N, bs, _, sn, sub, ab, col, dd, m0, m1, m2, m3, m5, l, rfl⟩, sa, ex, tc, kc⟩
    ini := ⟨f, q, st, _, ini, ty, F, F.binds b, S, I⟩ }
theorem ErrNHere.of {x q : Str} {st : Stmt} {R C f N : Addr} {nm qn : Str} {bs : List Value} {sn : List Str} {sub : List Value} {ab : Bool} {col : Option Bool} {dd : Option Addr} {m0 m1 m2 m3 m5 : Option Value}
    {oc : Value} {od : Option Addr} {kV dc pm : Value} {an : Option Addr} {cd ct : Value} {sl : Array (Option Value)} (g : PySem.W.nsIn K mainGlobals x = some (some (.ref C)))
    (xl : K.lookup C = some (excClassObj nm qn C N bs [.ref R, .type "ValueError", .type "Exception", .type "BaseException", .type "object"] true sn sub ab col dd m0 m1 m2 m3 m5 "ValueError.__new__"))
    (sa : PySem.W.findIn K (.ref C) "__setattr__" = some (some (.builtin "object.__setattr__"))) (ini : PySem.W.findIn K (.ref C) "__init__" = some (some (.ref f))) (ty : PySem.W.typeIn K (.ref f) = some (.type "function"))
    (l : K.lookup f = some ⟨oc, od, .func (PySem.W.fnOf "__init__" q (defArgs st) (defBody st) (defScope st) .none kV dc pm an cd ct), sl⟩) (c : PySem.W.codeIn K cd q = true) (k : PySem.W.keepIn K (.ref f) = true)
    (kc : PySem.W.keepIn K (.ref C) = true) (ex : PySem.W.subIn K (.ref C) (.type "BaseException") = some true) (tc : PySem.W.typeIn K (.ref C) = some (.type "type")) : ErrNHere K x q st R C :=
  ⟨f, N, nm, qn, bs, sn, sub, ab, col, dd, m0, m1, m2, m3, m5, g, xl, sa, ini, ty, ⟨oc, od, kV, dc, pm, an, cd, ct, sl, l, c, k⟩, kc, ex, tc⟩
end
end Rw

set_option Elab.async false
set_option linter.all false
set_option maxRecDepth 100000
set_option maxHeartbeats 4000000
/-! TkBE: zip of two tuples and a list. -/
namespace Rw
open PySem PySem.Spec PyProof.Rows L2
theorem notmem2 {z x y : Nat} (h1 : z ≠ x) (h2 : z ≠ y) : ¬ @Membership.mem Addr (List Addr) _ ([x, y] : List Addr) z := fun h => by
  rcases List.mem_cons.mp h with e | h
  · exact h1 e
  · exact h2 (List.mem_singleton.mp h)
theorem sep3 {n a b c : Nat} (ha : a < n) (hb : b < n) (hc : c < n) : ZipSep3 (n + 5) (n + 3) (n + 4) n (n + 1) (n + 2) [n, a] [n + 1, b] [n + 2, c] where
  TIz := PySem.W.neN (by omega)
  TOz := PySem.W.neN (by omega)
  TITO := PySem.W.neN (by omega)
  TIi1 := PySem.W.neN (by omega)
  mem1 := List.mem_cons_self
  zf1 := notmem2 (by omega) (by omega)
  Tf1 := notmem2 (by omega) (by omega)
  TIi2 := PySem.W.neN (by omega)
  mem2 := List.mem_cons_self
  zf2 := notmem2 (by omega) (by omega)
  Tf2 := notmem2 (by omega) (by omega)
  TIi3 := PySem.W.neN (by omega)
  mem3 := List.mem_cons_self
  zf3 := notmem2 (by omega) (by omega)
  Tf3 := notmem2 (by omega) (by omega)
  sep1_2 := notmem2 (by omega) (by omega)
  sep1_3 := notmem2 (by omega) (by omega)
  sep2_1 := notmem2 (by omega) (by omega)
  sep2_3 := notmem2 (by omega) (by omega)
  sep3_1 := notmem2 (by omega) (by omega)
  sep3_2 := notmem2 (by omega) (by omega)
/-- the lists or tuples at a, b and c as they stand at each turn, the items in new triples -/
def It3 (K : PySem.W.Frag) (k1 k2 k3 : Bool) (a b c : Addr) : It :=
  ⟨fun i H => ∃ (xs ys zs : List V) (x y z : V), SqB K H k1 a xs ∧ SqB K H k2 b ys ∧ SqB K H k3 c zs ∧ xs[i]? = some x ∧ ys[i]? = some y ∧ zs[i]? = some z,
    fun i H v H' => ∃ T x y z, v = .ref T ∧ H T = none ∧ H' = upd H T (.tup [x, y, z]) ∧ (∀ xs, SqB K H k1 a xs → xs[i]? = some x) ∧ (∀ ys, SqB K H k2 b ys → ys[i]? = some y) ∧ ∀ zs, SqB K H k3 c zs → zs[i]? = some z,
    fun i H => ∃ xs ys zs : List V, SqB K H k1 a xs ∧ SqB K H k2 b ys ∧ SqB K H k3 c zs ∧ i ≤ xs.length ∧ i ≤ ys.length ∧ i ≤ zs.length ∧ (xs.length = i ∨ ys.length = i ∨ zs.length = i)⟩
theorem turn_zip3 {P : Program} {w : World} {K : PySem.W.Frag} {k1 k2 k3 : Bool} {elts : List Expr} {kk : Nat} {tpos : Pos} {a b c z TI TO i1 i2 i3 : Addr} (D : ZipSep3 z TI TO i1 i2 i3 [i1, a] [i2, b] [i3, c]) (ai : a ≠ i1) (bi : b ≠ i2) (ci : c ≠ i3) :
    Turn P w K (.Tuple elts kk tpos) (It3 K k1 k2 k3 a b c) [z, TI, TO, i1, i2, i3] z (fun i h => IsZip h z TI TO .none ∧ IsTupOf3 h TI (.ref i1) (.ref i2) (.ref i3) ∧ (∃ x y u, IsTupOf3 h TO x y u) ∧ itB h k1 i1 a i ∧ itB h k2 i2 b i ∧ itB h k3 i3 c i) where
  mem := by simp
  obj := fun i h st e he => by
    obtain ⟨hz, hTI, ⟨x, y, u, hTO⟩, h1, h2, h3⟩ := st
    have e' : e = z ∨ e = TI ∨ e = TO ∨ e = i1 ∨ e = i2 ∨ e = i3 := by simpa using he
    rcases e' with q | q | q | q | q | q
    · rw [q]; exact ⟨_, hz, fun v q => nomatch q⟩
    · rw [q]; exact ⟨_, hTI, fun v q => nomatch q⟩
    · rw [q]; exact ⟨_, hTO, fun v q => nomatch q⟩
    · rw [q]; exact itB_obj h1
    · rw [q]; exact itB_obj h2
    · rw [q]; exact itB_obj h3
  keep := fun i h h' st k => by
    obtain ⟨hz, hTI, ⟨x, y, u, hTO⟩, h1, h2, h3⟩ := st
    exact ⟨k z (by simp) _ hz, k TI (by simp) _ hTI, ⟨x, y, u, k TO (by simp) _ hTO⟩, itB_at h1 fun o q => k i1 (by simp) o q, itB_at h2 fun o q => k i2 (by simp) o q, itB_at h3 fun o q => k i3 (by simp) o q⟩
  item := by
    intro X hP hw hK hc i pins s σ H E I hf st hg
    subst hP hw hK
    obtain ⟨hz, hTI, ⟨x0, y0, u0, hTO⟩, h1, h2, h3⟩ := st
    obtain ⟨xs, ys, zs, x, y, v, hqx, hqy, hqz, hx, hy, hv⟩ := hg
    obtain ⟨its, rv, p, _⟩ := sqB_inv I hqx
    obtain ⟨its2, rv2, p2, _⟩ := sqB_inv I hqy
    obtain ⟨its3, rv3, p3, _⟩ := sqB_inv I hqz
    obtain ⟨u, hu, ru⟩ := rv.get hx
    obtain ⟨u2, hu2, ru2⟩ := rv2.get hy
    obtain ⟨u3, hu3, ru3⟩ := rv3.get hv
    have hzl : z < s.heap.objs.size := Heap.lt_size hz
    have hd : X.A.in1.handled = none := I.ok.hd hc
    have g1 : i < its.toArray.size := by
      have := (List.getElem?_eq_some_iff.mp hu).1
      simpa using this
    have g2 : i < its2.toArray.size := by
      have := (List.getElem?_eq_some_iff.mp hu2).1
      simpa using this
    have g3 : i < its3.toArray.size := by
      have := (List.getElem?_eq_some_iff.mp hu3).1
      simpa using this
    refine wpAny_pyNext_zipD3_item D (drawsB hd k1 i1 a ai its.toArray) (drawsB hd k2 i2 b bi its2.toArray) (drawsB hd k3 i3 c ci its3.toArray) hz hTI hTO ⟨h1, p⟩ ⟨h2, p2⟩ ⟨h3, p3⟩ g1 g2 g3 fun x1 x2 x3 h' tk e1 e2 e3 z' TO' t1 t2 t3 hT hsz hk => ?_
    have hx1 : x1 = u := by
      have q : its[i]? = some x1 := by simpa using e1
      rw [hu] at q
      exact (Option.some.inj q).symm
    have hx2 : x2 = u2 := by
      have q : its2[i]? = some x2 := by simpa using e2
      rw [hu2] at q
      exact (Option.some.inj q).symm
    have hx3 : x3 = u3 := by
      have q : its3[i]? = some x3 := by simpa using e3
      rw [hu3] at q
      exact (Option.some.inj q).symm
    subst hx1 hx2 hx3
    refine ⟨_, rfl, wpAny_letOwnedTupleGo_zip (s := { s with heap := h', toks := tk }) z' fun h'' z'' sb => ?_⟩
    have hT2 : h''.get? s.heap.objs.size = some { cls := .type "tuple", data := .seq #[x1, x2, x3] } := (sb.2 _ (Nat.ne_of_gt hzl)).trans hT
    have new : ObjOk X.prog X.w (upd H s.heap.objs.size (.tup [x, y, v])) h'' s.heap.objs.size (.tup [x, y, v]) :=
      ⟨by show 3 ≤ sizeLine; decide, [x1, x2, x3], .cons ru (.cons ru2 (.cons ru3 .nil)), ⟨_, hT2, rfl, _, rfl⟩⟩
    have I1 : Inv X pins σ (upd H s.heap.objs.size (.tup [x, y, v])) { s with heap := h'', toks := tk } :=
      I.turnedNew (t' := tk) (ch := [z, TI, TO, i1, i2, i3]) (fun c o hb q => (sb.2 c (fun q' => hb (by simp [q']))).trans (hk c o (fun q' => hb (by simp [q'])) (fun q' => hb (by simp [q'])) (fun q' => hb (by simp [q'])) (fun q' => hb (by simp [q'])) (fun q' => hb (by simp [q'])) q)) hf (Nat.le_refl _) new
    refine ⟨.ref s.heap.objs.size, _, I1, rfl, ⟨_, x, y, v, rfl, I.hok.fresh (Nat.le_refl _), rfl, fun l hl => by rw [sqB_inj I hl hqx]; exact hx, fun l hl => by rw [sqB_inj I hl hqy]; exact hy, fun l hl => by rw [sqB_inj I hl hqz]; exact hv⟩, ⟨z'', ?_, ⟨x1, x2, x3, ?_⟩, ?_, ?_, ?_⟩, fun e hcm => ?_⟩
    · exact (sb.2 _ D.TIz).trans (hk _ _ D.TIz D.TITO D.TIi1 D.TIi2 D.TIi3 hTI)
    · exact (sb.2 _ D.TOz).trans TO'
    · exact itB_at t1.1 fun o q => (sb.2 _ D.zi1.symm).trans q
    · exact itB_at t2.1 fun o q => (sb.2 _ D.zi2.symm).trans q
    · exact itB_at t3.1 fun o q => (sb.2 _ D.zi3.symm).trans q
    · have hlt : e < s.heap.objs.size := by
        have e' : e = z ∨ e = TI ∨ e = TO ∨ e = i1 ∨ e = i2 ∨ e = i3 := by simpa using hcm
        rcases e' with q | q | q | q | q | q
        · rw [q]; exact hzl
        · rw [q]; exact Heap.lt_size hTI
        · rw [q]; exact Heap.lt_size hTO
        · rw [q]; obtain ⟨_, e1, _⟩ := itB_obj h1; exact Heap.lt_size e1
        · rw [q]; obtain ⟨_, e2, _⟩ := itB_obj h2; exact Heap.lt_size e2
        · rw [q]; obtain ⟨_, e3, _⟩ := itB_obj h3; exact Heap.lt_size e3
      rw [upd_ne (Nat.ne_of_lt hlt)]
      exact (hf e hcm).1
  done := by
    intro X hP hw hK hc i pins s σ H E I hf st hg
    subst hP hw hK
    obtain ⟨hz, hTI, ⟨x0, y0, u0, hTO⟩, h1, h2, h3⟩ := st
    obtain ⟨xs, ys, zs, hqx, hqy, hqz, l1, l2, l3, hend⟩ := hg
    obtain ⟨its, rv, p, _⟩ := sqB_inv I hqx
    obtain ⟨its2, rv2, p2, _⟩ := sqB_inv I hqy
    obtain ⟨its3, rv3, p3, _⟩ := sqB_inv I hqz
    have m1 := rv.length
    have m2 := rv2.length
    have m3 := rv3.length
    have hd : X.A.in1.handled = none := I.ok.hd hc
    have z1 : its.toArray.size = its.length := by simp
    have z2 : its2.toArray.size = its2.length := by simp
    have z3 : its3.toArray.size = its3.length := by simp
    exact wpAny_pyNext_zipD3_end D (drawsB hd k1 i1 a ai its.toArray) (drawsB hd k2 i2 b bi its2.toArray) (drawsB hd k3 i3 c ci its3.toArray) hz hTI hTO ⟨h1, p⟩ ⟨h2, p2⟩ ⟨h3, p3⟩ (by omega) (by omega) (by omega) (by omega) fun h' tk hk => ⟨rfl, I.turnedL (t' := tk) (ch := [z, TI, TO, i1, i2, i3]) (fun c o hb q =>
      hk c o (fun q' => hb (by simp [q'])) (fun q' => hb (by simp [q'])) (fun q' => hb (by simp [q'])) (fun q' => hb (by simp [q'])) (fun q' => hb (by simp [q'])) q) hf⟩
  self := fun A i s Q E st h => wpAny_pyIter_zip st.1 h

abbrev z3H1 (h : Heap) (l1 : Addr) : Heap := h.push { cls := .type "tuple_iterator", data := .fields #[.ref l1, .int 0 0] }
abbrev z3H2 (h : Heap) (l1 l2 : Addr) : Heap := (z3H1 h l1).push { cls := .type "tuple_iterator", data := .fields #[.ref l2, .int 0 0] }
abbrev z3H3 (h : Heap) (l1 l2 l3 : Addr) : Heap := (z3H2 h l1 l2).push { cls := .type "list_iterator", data := .fields #[.ref l3, .int 0 0] }
abbrev z3H4 (h : Heap) (l1 l2 l3 : Addr) : Heap := (z3H3 h l1 l2 l3).push { cls := .type "tuple", data := .seq #[.ref h.objs.size, .ref (z3H1 h l1).objs.size, .ref (z3H2 h l1 l2).objs.size] }
abbrev z3H5 (h : Heap) (l1 l2 l3 : Addr) : Heap := (z3H4 h l1 l2 l3).push { cls := .type "tuple", data := .seq #[.none, .none, .none] }
abbrev z3H6 (h : Heap) (l1 l2 l3 : Addr) : Heap := (z3H5 h l1 l2 l3).push { cls := .type "zip", data := .fields #[.none, .bool false, .bool false, .ref (z3H3 h l1 l2 l3).objs.size, .ref (z3H4 h l1 l2 l3).objs.size] }
theorem meets_zip3 (l1 l2 l3 : Addr) (xs ys zs : Array Value) :
    Meets (Builtin.«zip.__new__» ⟨[.type "zip", .ref l1, .ref l2, .ref l3], []⟩) (fun _ R s => s.heap.IsTuple l1 xs ∧ s.heap.IsTuple l2 ys ∧ s.heap.IsList l3 zs ∧
      R (.ok (.ret (.ref (z3H5 s.heap l1 l2 l3).objs.size))) { s with heap := z3H6 s.heap l1 l2 l3 }) :=
  .of_wp fun prog w A R s h => by
    obtain ⟨hp, g, d, tk, os⟩ := s; obtain ⟨hl1, hl2, hl3, h⟩ := h
    have hsub := sub_zip
    have hL1 : Heap.IsTuple (Shared.heap ⟨hp, g, d, tk, os⟩) l1 xs := hl1
    have hL2 : Heap.IsTuple (Shared.heap ⟨hp.push { cls := .type "tuple_iterator", data := .fields #[.ref l1, .int 0 0] }, g, d, tk, os⟩) l2 ys := Heap.IsTuple.push hl2 _
    have hL3 : Heap.IsList (Shared.heap ⟨(hp.push { cls := .type "tuple_iterator", data := .fields #[.ref l1, .int 0 0] }).push { cls := .type "tuple_iterator", data := .fields #[.ref l2, .int 0 0] }, g, d, tk, os⟩) l3 zs := Heap.IsList.push (Heap.IsList.push hl3 _) _
    wp_walk using wpAny_pyIter_tuple hL1, wpAny_pyIter_tuple hL2, wpAny_pyIter_list hL3
    exact ⟨_, rfl, h⟩
section
variable {prog : Program} {w : World} {A : Around} {E : Value → Shared → Prop} {s : Shared}
theorem call_zip3 {l1 l2 l3 : Addr} {xs ys zs : Array Value} {Q : Value → Shared → Prop} (hl1 : sqB s.heap false l1 xs) (hl2 : sqB s.heap false l2 ys) (hl3 : sqB s.heap true l3 zs)
    (h : ∀ h', IsZip h' (s.heap.objs.size + 5) (s.heap.objs.size + 3) (s.heap.objs.size + 4) .none → IsTupOf3 h' (s.heap.objs.size + 3) (.ref s.heap.objs.size) (.ref (s.heap.objs.size + 1)) (.ref (s.heap.objs.size + 2)) →
      IsTupOf3 h' (s.heap.objs.size + 4) .none .none .none → itB h' false s.heap.objs.size l1 0 → itB h' false (s.heap.objs.size + 1) l2 0 → itB h' true (s.heap.objs.size + 2) l3 0 → h'.objs.size = s.heap.objs.size + 6 →
      (∀ c o, s.heap.get? c = some o → h'.get? c = some o) → Q (.ref (s.heap.objs.size + 5)) { s with heap := h' }) :
    wpAny (model prog w) A (call (.type "zip") [.ref l1, .ref l2, .ref l3]) Q E s := by
  refine callType_new F.called_zip (by decide) (F.typeCall_zip_3 _ _ _) (F.newCall_zip_3 _ _ _) (fun obj => F.args_object_init_4 obj _ _ _) F.entry_zip_new
    (meets_zip3 l1 l2 l3 xs ys zs) ⟨hl1, hl2, hl3, ?_⟩
  have z1 : (z3H1 s.heap l1).objs.size = s.heap.objs.size + 1 := Heap.size_push ..
  have z2 : (z3H2 s.heap l1 l2).objs.size = s.heap.objs.size + 2 := by rw [Heap.size_push, z1]
  have z3 : (z3H3 s.heap l1 l2 l3).objs.size = s.heap.objs.size + 3 := by rw [Heap.size_push, z2]
  have z4 : (z3H4 s.heap l1 l2 l3).objs.size = s.heap.objs.size + 4 := by rw [Heap.size_push, z3]
  have z5 : (z3H5 s.heap l1 l2 l3).objs.size = s.heap.objs.size + 5 := by rw [Heap.size_push, z4]
  have z6 : (z3H6 s.heap l1 l2 l3).objs.size = s.heap.objs.size + 6 := by rw [Heap.size_push, z5]
  have g6 : (z3H6 s.heap l1 l2 l3).get? (z3H5 s.heap l1 l2 l3).objs.size = some _ := Heap.get?_push_size _ rfl
  have g5 : (z3H6 s.heap l1 l2 l3).get? (z3H4 s.heap l1 l2 l3).objs.size = some _ := Heap.get?_push_of_some _ (Heap.get?_push_size _ rfl)
  have g4 : (z3H6 s.heap l1 l2 l3).get? (z3H3 s.heap l1 l2 l3).objs.size = some _ := Heap.get?_push_of_some _ (Heap.get?_push_of_some _ (Heap.get?_push_size _ rfl))
  have g3 : (z3H6 s.heap l1 l2 l3).get? (z3H2 s.heap l1 l2).objs.size = some _ := Heap.get?_push_of_some _ (Heap.get?_push_of_some _ (Heap.get?_push_of_some _ (Heap.get?_push_size _ rfl)))
  have g2 : (z3H6 s.heap l1 l2 l3).get? (z3H1 s.heap l1).objs.size = some _ := Heap.get?_push_of_some _ (Heap.get?_push_of_some _ (Heap.get?_push_of_some _ (Heap.get?_push_of_some _ (Heap.get?_push_size _ rfl))))
  have g1 : (z3H6 s.heap l1 l2 l3).get? s.heap.objs.size = some _ := Heap.get?_push_of_some _ (Heap.get?_push_of_some _ (Heap.get?_push_of_some _ (Heap.get?_push_of_some _ (Heap.get?_push_of_some _ (Heap.get?_push_size _ rfl)))))
  show _ ∧ _
  rw [z3, z4, z5] at g6
  rw [z1, z2, z3] at g4
  rw [z4] at g5
  rw [z2] at g3
  rw [z1] at g2
  rw [z5]
  exact ⟨⟨_, g6, rfl⟩, h _ g6 g4 g5 (itB_new (k := false) g1) (itB_new (k := false) g2) (itB_new (k := true) g3) z6 fun c o x =>
    Heap.get?_push_of_some _ (Heap.get?_push_of_some _ (Heap.get?_push_of_some _ (Heap.get?_push_of_some _ (Heap.get?_push_of_some _ (Heap.get?_push_of_some _ x)))))⟩
end
def iZip3 (K : PySem.W.Frag) (ta : TA) : TI := fun σ H R => ta σ H fun vs H1 => ∃ a b c xs ys zs, vs = [.ref a, .ref b, .ref c] ∧ SqT K H1 a xs ∧ SqT K H1 b ys ∧ SqL K H1 c zs ∧ R (It3 K false false true a b c) H1
theorem pi_zip3 {X : Cx} {e e2 e3 : Expr} {ta : TA} {p pos tpos : Pos} {elts : List Expr} {kk : Nat} (hg : Gl X "zip") (hm : X.mg "zip" = none) (ha : PA X [e, e2, e3] ta)
    (hs : starEach [e, e2, e3] X.env = (false, eval e X.env) :: starEach [e2, e3] X.env := by rfl) (hpl : (backTo pos (starEach [e2, e3] X.env)).any (·.1) = false := by rfl) :
    PI X (.Tuple elts kk tpos) (.Call (.Name "zip" p) [e, e2, e3] [] pos) (iZip3 X.K ta) := by
  refine ⟨fun pins s σ H R I h => ?_⟩
  refine Call_ (ld_blt I hg hm PyProof.Rows.boot_zip (PyProof.Rows.callWith_type1 (thn (ha.run pos pins s σ H _ I h) fun us s1 ⟨vs, H1, I1, r1, q1⟩ => ?_) hs hpl))
  obtain ⟨a, b, c, xs, ys, zs, ex, hqx, hqy, hqz, q⟩ := q1
  subst ex
  cases r1 with
  | cons r rr =>
    cases rr with
    | cons r' rr =>
      cases rr with
      | cons r'' rr =>
        cases rr
        cases r
        cases r'
        cases r''
        obtain ⟨its, rv, p1, la⟩ := sqB_inv (k := false) I1 hqx
        obtain ⟨its2, rv2, p2, lb⟩ := sqB_inv (k := false) I1 hqy
        obtain ⟨its3, rv3, p3, lc⟩ := sqB_inv (k := true) I1 hqz
        refine call_zip3 p1 p2 p3 fun h' hz hTI hTO h1 h2 h3 hsz hk => wpAny_pyIter_zip hz ?_
        have I2 : Inv X pins σ H1 { s1 with heap := h' } := I1.kept (t' := s1.toks) hk
        refine ⟨s1.heap.objs.size + 5, [s1.heap.objs.size + 5, s1.heap.objs.size + 3, s1.heap.objs.size + 4, s1.heap.objs.size, s1.heap.objs.size + 1, s1.heap.objs.size + 2], _, _, H1, rfl, I2, turn_zip3 (sep3 la lb lc) (Nat.ne_of_lt la) (Nat.ne_of_lt (Nat.lt_succ_of_lt lb)) (Nat.ne_of_lt (Nat.lt_succ_of_lt (Nat.lt_succ_of_lt lc))), ⟨hz, hTI, ⟨_, _, _, hTO⟩, h1, h2, h3⟩, fun c hcm => ?_, q⟩
        have e' : c = s1.heap.objs.size + 5 ∨ c = s1.heap.objs.size + 3 ∨ c = s1.heap.objs.size + 4 ∨ c = s1.heap.objs.size ∨ c = s1.heap.objs.size + 1 ∨ c = s1.heap.objs.size + 2 := by simpa using hcm
        have hle : s1.heap.objs.size ≤ c := by
          rcases e' with z | z | z | z | z | z <;> rw [z] <;> first | exact Nat.le_add_right _ _ | exact Nat.le_refl _
        exact I1.fpOk hle (I1.hok.fresh hle)
theorem walk_zip3 {K : PySem.W.Frag} {k1 k2 k3 : Bool} {a b c : Addr} {xs ys zs : List V} {n : Nat} (h1 : xs.length = n) (h2 : ys.length = n) (h3 : zs.length = n) : Walk (It3 K k1 k2 k3 a b c) n (fun H => SqB K H k1 a xs ∧ SqB K H k2 b ys ∧ SqB K H k3 c zs)
    (fun i H v H' => ∃ T x y z, v = .ref T ∧ H T = none ∧ H' = upd H T (.tup [x, y, z]) ∧ xs[i]? = some x ∧ ys[i]? = some y ∧ zs[i]? = some z) := by
  refine ⟨fun i H hi q => ?_, fun H q => ⟨xs, ys, zs, q.1, q.2.1, q.2.2, by omega, by omega, by omega, .inl h1⟩, fun i H v H' _ q y => ?_⟩
  · have g1 : i < xs.length := by omega
    have g2 : i < ys.length := by omega
    have g3 : i < zs.length := by omega
    exact ⟨xs, ys, zs, xs[i], ys[i], zs[i], q.1, q.2.1, q.2.2, by simp [g1], by simp [g2], by simp [g3]⟩
  · obtain ⟨T, x, z, u, h1, h2, h3, h4, h5, h6⟩ := y
    exact ⟨T, x, z, u, h1, h2, h3, h4 xs q.1, h5 ys q.2.1, h6 zs q.2.2⟩
end Rw

set_option Elab.async false
set_option linter.all false
set_option maxRecDepth 100000
set_option maxHeartbeats 4000000
/-! TkN: data that is small enough to be shown. -/
namespace Rw
open PySem PySem.Spec PyProof.Rows L2
theorem list_len (t : Str) (r : List Str) : (listText (t :: r)).length = t.length + piled r + 2 := by
  have a : (listText (t :: r)).length = (textFrom 1 (("[" : Str) ++ (if (0 : Nat) > 0 then ", " else "" : String) ++ t) r).length + 1 := by
    show (textFrom 0 "[" (t :: r) ++ "]").length = _
    rw [strLen_append]
    rfl
  rw [a, textFrom_length_pos r 1 _ (by decide), strLen_append, strLen_append]
  show 1 + 0 + t.length + piled r + 1 = _
  omega
/-- small enough, at the n-th level of lists -/
structure Tm (n : Nat) (d : PyData) : Prop where
  sh : d.showable = true
  dp : d.depth ≤ 3 + n
  ln : d.shown.length ≤ 50 * 8 ^ n
theorem Tm.up {n m : Nat} {d : PyData} (h : Tm n d) (l : n ≤ m) : Tm m d := ⟨h.sh, by have := h.dp; omega, Nat.le_trans h.ln (Nat.mul_le_mul_left _ (Nat.pow_le_pow_right (by decide) l))⟩
theorem piled_le {B : Nat} : ∀ {ts : List Str}, (∀ t ∈ ts, t.length ≤ B) → piled ts ≤ ts.length * (B + 2)
  | [], _ => by rw [piled_nil]; exact Nat.zero_le _
  | t :: ts, h => by
    rw [piled_cons, List.length_cons, Nat.succ_mul]
    have a := h t List.mem_cons_self
    have b := piled_le (ts := ts) fun x hx => h x (List.mem_cons_of_mem _ hx)
    omega
theorem shownAll_map : ∀ ds : List PyData, PyData.shownAll ds = ds.map PyData.shown
  | [] => by simp only [PyData.shownAll]; rfl
  | d :: ds => by
    simp only [PyData.shownAll]
    rw [shownAll_map ds] <;> rfl
theorem tm_all {n : Nat} : ∀ {ds : List PyData}, (∀ d ∈ ds, Tm n d) → PyData.showableAll ds = true ∧ PyData.depthAll ds ≤ 3 + n ∧ ∀ t ∈ PyData.shownAll ds, t.length ≤ 50 * 8 ^ n
  | [], _ => ⟨by simp only [PyData.showableAll], by simp only [PyData.depthAll]; omega, fun t ht => by simp only [PyData.shownAll] at ht; cases ht⟩
  | d :: ds, h => by
    obtain ⟨a, b, c⟩ := tm_all (ds := ds) fun x hx => h x (List.mem_cons_of_mem _ hx)
    have e := h d List.mem_cons_self
    refine ⟨?_, ?_, ?_⟩
    · simp only [PyData.showableAll, e.sh, a, Bool.and_self]
    · simp only [PyData.depthAll]
      have := e.dp
      omega
    · intro t ht
      simp only [PyData.shownAll] at ht
      rcases List.mem_cons.mp ht with z | z
      · rw [z]
        exact e.ln
      · exact c t z
theorem tm_num {n : Nat} {k : Nat} (l : k ≤ 6) : k * (50 * 8 ^ n + 2) + 3 ≤ 50 * 8 ^ (n + 1) := by
  have p : 0 < 8 ^ n := Nat.pow_pos (by decide)
  have q : k * (50 * 8 ^ n + 2) ≤ 6 * (50 * 8 ^ n + 2) := Nat.mul_le_mul_right _ l
  rw [Nat.pow_succ]
  omega
theorem tm_list {n : Nat} {ds : List PyData} (l : ds.length ≤ 6) (h : ∀ d ∈ ds, Tm n d) : Tm (n + 1) (.list ds) := by
  obtain ⟨a, b, c⟩ := tm_all h
  refine ⟨by simp only [PyData.showable]; exact a, by simp only [PyData.depth]; omega, ?_⟩
  simp only [PyData.shown]
  have ln : (PyData.shownAll ds).length = ds.length := by rw [shownAll_map, List.length_map]
  have z := tm_num (n := n) l
  generalize PyData.shownAll ds = ts at c ln
  cases ts with
  | nil =>
    have e : (listText []).length = 2 := rfl
    rw [e]
    omega
  | cons t r =>
    rw [list_len]
    have p := piled_le c
    rw [piled_cons, ln] at p
    omega
theorem tm_tup {n : Nat} {ds : List PyData} (l : ds.length ≤ 6) (h : ∀ d ∈ ds, Tm n d) : Tm (n + 1) (.tuple ds) := by
  obtain ⟨a, b, c⟩ := tm_all h
  refine ⟨by simp only [PyData.showable]; exact a, by simp only [PyData.depth]; omega, ?_⟩
  simp only [PyData.shown]
  have ln : (PyData.shownAll ds).length = ds.length := by rw [shownAll_map, List.length_map]
  have z := tm_num (n := n) l
  generalize PyData.shownAll ds = ts at c ln
  have p := piled_le c
  rw [ln] at p
  have e : (tupleText ts).length ≤ 1 + (Str.join ", " ts).length + 2 := by
    show (("(" : Str) ++ Str.join ", " ts ++ (if ts.length == 1 then ",)" else ")" : String)).length ≤ _
    rw [strLen_append, strLen_append]
    have e1 : (("(" : String) : Str).length = 1 := rfl
    have e2 : ((if ts.length == 1 then ",)" else ")" : String) : Str).length ≤ 2 := by
      split
      · exact Nat.le_of_eq rfl
      · exact Nat.le_succ_of_le (Nat.le_of_eq rfl)
    omega
  cases ts with
  | nil =>
    have e3 : (Str.join ", " []).length = 0 := rfl
    omega
  | cons t r =>
    have e3 := join_length_add (t :: r) (by simp)
    omega
theorem int_len {n : Int} (h : n.natAbs < 10 ^ 40) : (PyData.int n).shown.length ≤ 41 := by
  simp only [PyData.shown]
  show (Str.ofString (toString n)).length ≤ 41
  rw [PySem.ofString_length]
  exact int_text_length_le10 (by decide) h
theorem log2_small {n : Int} (h : n.natAbs < 10 ^ 40) : n.natAbs.log2 < 400 := by
  by_cases z : n.natAbs = 0
  · rw [z]
    decide
  · exact (Nat.log2_lt z).mpr (Nat.lt_trans h (by decide +kernel))
theorem tm_int {n : Int} (h : n.natAbs < 10 ^ 40) : Tm 0 (.int n) := by
  refine ⟨?_, by simp only [PyData.depth]; omega, Nat.le_trans (int_len h) (by decide)⟩
  simp only [PyData.showable]
  exact decide_eq_true (Nat.lt_trans (log2_small h) (by decide))
def smallB (d : PyData) : Bool := match d with
  | .int n => decide (n.natAbs < 10 ^ 40) | _ => true
/-- a cell: an int that is not great, or an odd thing -/
structure Cell (d : PyData) : Prop where
  tm : Tm 0 d
  f1 : Fit1 d
  f2 : Fit d
  sm : smallB d = true
theorem cell_sm {d : PyData} {n : Int} (c : Cell d) (e : d = .int n) : n.natAbs.log2 < 400 := by
  have h := c.sm
  rw [e] at h
  exact log2_small (of_decide_eq_true h)
theorem fit1_flat {d : PyData} (e : itemsD d = []) : Fit1 d := ⟨by rw [e]; exact Nat.zero_le _, fun n h => by rw [e] at h; cases h⟩
theorem fit_flat {d : PyData} (e : itemsD d = []) : Fit d := ⟨fit1_flat e, fun x h => by rw [e] at h; cases h⟩
theorem cell_int {n : Int} (h : n.natAbs < 10 ^ 40) : Cell (.int n) := ⟨tm_int h, fit1_flat rfl, fit_flat rfl, decide_eq_true h⟩
theorem fit1_of {d : PyData} {ds : List PyData} (e : itemsD d = ds) (l : ds.length ≤ 1000) (h : ∀ x ∈ ds, smallB x = true) : Fit1 d :=
  ⟨by rw [e]; exact l, fun n hn => by rw [e] at hn; exact log2_small (of_decide_eq_true (h _ hn))⟩
theorem odd_cell : ∀ d ∈ oddL, Cell d := by
  have a : ∀ d ∈ oddL, d.showable = true ∧ d.depth ≤ 3 ∧ d.shown.length ≤ 50 := by decide +kernel
  have b : ∀ d ∈ oddL, (itemsD d).length ≤ 1000 ∧ (∀ e ∈ itemsD d, smallB e = true ∧ (itemsD e).length ≤ 1000 ∧ ∀ x ∈ itemsD e, smallB x = true) ∧ smallB d = true := by decide +kernel
  intro d hd
  obtain ⟨a1, a2, a3⟩ := a d hd
  obtain ⟨b1, b2, b3⟩ := b d hd
  have f1 : Fit1 d := fit1_of rfl b1 fun x hx => (b2 x hx).1
  exact ⟨⟨a1, a2, a3⟩, f1, ⟨f1, fun e he => fit1_of rfl (b2 e he).2.1 (b2 e he).2.2⟩, b3⟩
/-- a row: a cell, or a list of few cells -/
structure RowT (d : PyData) : Prop where
  tm : Tm 1 d
  f1 : Fit1 d
  sm : smallB d = true
theorem Cell.row {d : PyData} (c : Cell d) : RowT d := ⟨c.tm.up (by decide), c.f1, c.sm⟩
theorem row_list {ds : List PyData} (l : ds.length ≤ 6) (h : ∀ d ∈ ds, Cell d) : RowT (.list ds) := ⟨tm_list l fun d hd => (h d hd).tm, fit1_of (ds := ds) rfl (by omega) fun x hx => (h x hx).sm, rfl⟩
/-- a sheet: a cell, or few rows -/
structure SheetT (d : PyData) : Prop where
  tm : Tm 2 d
  f : Fit d
  few : (itemsD d).length ≤ 6
theorem Cell.sheet {d : PyData} (c : Cell d) (l : (itemsD d).length ≤ 6) : SheetT d := ⟨c.tm.up (by decide), c.f2, l⟩
theorem sheet_list {ds : List PyData} (l : ds.length ≤ 6) (h : ∀ d ∈ ds, RowT d) : SheetT (.list ds) := ⟨tm_list l fun d hd => (h d hd).tm, ⟨fit1_of (ds := ds) rfl (by omega) fun x hx => (h x hx).sm, fun e he => (h e he).f1⟩, l⟩
theorem sheet_tup {ds : List PyData} (l : ds.length ≤ 6) (h : ∀ d ∈ ds, RowT d) : SheetT (.tuple ds) := ⟨tm_tup l fun d hd => (h d hd).tm, ⟨fit1_of (ds := ds) rfl (by omega) fun x hx => (h x hx).sm, fun e he => (h e he).f1⟩, l⟩
theorem odd_few : ∀ d ∈ oddL, (itemsD d).length ≤ 6 := by decide +kernel
theorem odd_sheet {d : PyData} (h : d ∈ oddL) : SheetT d := (odd_cell d h).sheet (odd_few d h)
end Rw

set_option Elab.async false
set_option linter.all false
set_option maxRecDepth 100000
set_option maxHeartbeats 4000000
/-! TkP: sums, comprehensions beside a box, data held against data. -/
namespace Rw
open PySem PySem.Spec PyProof.Rows L2
/-! ### sums -/
def S : Nat → (Nat → Int) → Int
  | 0, _ => 0
  | n + 1, f => S n f + f n
theorem S_sum (f : Nat → Int) : ∀ n, ((List.range n).map f).sum = S n f
  | 0 => rfl
  | n + 1 => by
    rw [List.range_succ, List.map_append, List.sum_append, S_sum f n]
    show S n f + (f n + 0) = S n f + f n
    omega
theorem S_congr {f g : Nat → Int} : ∀ {n : Nat}, (∀ i, i < n → f i = g i) → S n f = S n g
  | 0, _ => rfl
  | n + 1, h => by
    show S n f + f n = S n g + g n
    rw [S_congr (n := n) fun i hi => h i (by omega), h n (by omega)]
theorem S_add (f g : Nat → Int) : ∀ n, S n (fun i => f i + g i) = S n f + S n g
  | 0 => rfl
  | n + 1 => by
    show S n (fun i => f i + g i) + (f n + g n) = (S n f + f n) + (S n g + g n)
    rw [S_add f g n]
    omega
theorem S_mul (a : Int) (f : Nat → Int) : ∀ n, S n (fun i => a * f i) = a * S n f
  | 0 => by show (0 : Int) = a * 0; rw [Int.mul_zero]
  | n + 1 => by
    show S n (fun i => a * f i) + a * f n = a * (S n f + f n)
    rw [S_mul a f n, Int.mul_add]
theorem S_zero : ∀ n, S n (fun _ => 0) = 0
  | 0 => rfl
  | n + 1 => by
    show S n (fun _ => 0) + 0 = 0
    rw [S_zero n] <;> rfl
theorem S_swap (f : Nat → Nat → Int) (m : Nat) : ∀ n, S n (fun i => S m (fun k => f i k)) = S m (fun k => S n (fun i => f i k))
  | 0 => by
    show (0 : Int) = S m (fun _ => 0)
    rw [S_zero]
  | n + 1 => by
    show S n (fun i => S m (fun k => f i k)) + S m (fun k => f n k) = S m (fun k => S n (fun i => f i k) + f n k)
    rw [S_swap f m n, S_add]
theorem S_mod (p : Int) {f g : Nat → Int} : ∀ {n : Nat}, (∀ i, i < n → f i % p = g i % p) → S n f % p = S n g % p
  | 0, _ => rfl
  | n + 1, h => by
    show (S n f + f n) % p = (S n g + g n) % p
    rw [Int.add_emod, S_mod p (n := n) fun i hi => h i (by omega), h n (by omega), ← Int.add_emod]
/-- leading by the product is leading twice -/
theorem S_assoc (p : Int) (v : Nat → Int) (a b : Nat → Nat → Int) (n m c : Nat) :
    S n (fun i => v i * (S m (fun k => a i k * b k c) % p)) % p = S m (fun k => (S n (fun i => v i * a i k) % p) * b k c) % p := by
  have e1 : S n (fun i => v i * (S m (fun k => a i k * b k c) % p)) % p = S n (fun i => S m (fun k => v i * a i k * b k c)) % p := by
    refine S_mod p fun i _ => ?_
    have : S m (fun k => v i * a i k * b k c) = v i * S m (fun k => a i k * b k c) := by
      rw [← S_mul]
      exact S_congr fun k _ => Int.mul_assoc _ _ _
    rw [this, Int.mul_emod, Int.emod_emod_of_dvd _ (Int.dvd_refl p), ← Int.mul_emod]
  have e2 : S m (fun k => (S n (fun i => v i * a i k) % p) * b k c) % p = S m (fun k => S n (fun i => v i * a i k * b k c)) % p := by
    refine S_mod p fun k _ => ?_
    have : S n (fun i => v i * a i k * b k c) = S n (fun i => v i * a i k) * b k c := by
      rw [Int.mul_comm (S n _) (b k c), ← S_mul]
      exact S_congr fun i _ => Int.mul_comm _ _
    rw [this, Int.mul_emod, Int.emod_emod_of_dvd _ (Int.dvd_refl p), ← Int.mul_emod]
  rw [e1, e2, S_swap]
/-! ### data held against data -/
mutual
theorem any_dp {K : PySem.W.Frag} {H : Hp} : ∀ (d : PyData) (v : V), Any H v d → d.canLay0 = true → Dp K H v d
  | .none, _, h, _ => by
    cases h
    exact .non
  | .bool b, _, h, _ => by
    cases h
    exact .bl b
  | .int i, _, h, _ => by
    cases h
    exact .int i
  | .str x, _, h, _ => by
    cases h
    exact .str x
  | .list ds, _, h, c => by
    cases h with
    | lst e a => exact .lst (SqL.of e) (any_dpL ds _ a (by simpa [PyData.canLay0] using c))
  | .tuple ds, _, h, c => by
    cases h with
    | tup e a => exact .tup (SqT.of e) (any_dpL ds _ a (by simpa [PyData.canLay0] using c))
  | .dict ds, _, h, c => by simp [PyData.canLay0] at c
theorem any_dpL {K : PySem.W.Frag} {H : Hp} : ∀ (ds : List PyData) (vs : List V), AnyL H vs ds → PyData.canLayAll0 ds = true → DpAll K H vs ds
  | [], _, h, _ => by
    cases h
    exact .nil
  | d :: ds, _, h, c => by
    have c' : d.canLay0 = true ∧ PyData.canLayAll0 ds = true := by simpa [PyData.canLayAll0] using c
    cases h with
    | cons a b => exact .cons (any_dp d _ a c'.1) (any_dpL ds _ b c'.2)
end
theorem lay_all : ∀ {ds : List PyData}, (∀ d, d ∈ ds → d.canLay0 = true) → PyData.canLayAll0 ds = true
  | [], _ => by simp [PyData.canLayAll0]
  | d :: ds, h => by simp [PyData.canLayAll0, h d List.mem_cons_self, lay_all (ds := ds) fun x hx => h x (List.mem_cons_of_mem _ hx)]
theorem lay_tup {ds : List PyData} (h : ∀ d, d ∈ ds → d.canLay0 = true) : (PyData.tuple ds).canLay0 = true := by
  simp [PyData.canLay0, lay_all h]
theorem lay_list {ds : List PyData} (h : ∀ d, d ∈ ds → d.canLay0 = true) : (PyData.list ds).canLay0 = true := by
  simp [PyData.canLay0, lay_all h]
theorem lay_ints (ns : List Int) : ∀ d, d ∈ ns.map PyData.int → d.canLay0 = true := by
  intro d hd
  obtain ⟨n, _, rfl⟩ := List.mem_map.mp hd
  simp [PyData.canLay0]
/-- the same data: not unlike -/
theorem ne_same {K : PySem.W.Frag} {H : Hp} {x y : V} {d : PyData} {Q : VK} (a : Any H x d) (b : Any H y d) (c : d.canLay0 = true) (l : d.depth ≤ 64) (q : Q (.bl false) H) : rNeD K x y H Q := by
  have s : SeqAt.shaped d = true := by
    unfold SeqAt.shaped
    rw [c, decide_eq_true l] <;> rfl
  refine ⟨d, d, any_dp d x a c, any_dp d y b c, s, s, ?_⟩
  rw [SeqAt.eqv_refl d c]
  exact q
theorem eq_same {K : PySem.W.Frag} {H : Hp} {x y : V} {d : PyData} {Q : VK} (a : Any H x d) (b : Any H y d) (c : d.canLay0 = true) (l : d.depth ≤ 64) (q : Q (.bl true) H) : rEqD K x y H Q := by
  have s : SeqAt.shaped d = true := by
    unfold SeqAt.shaped
    rw [c, decide_eq_true l] <;> rfl
  refine ⟨d, d, any_dp d x a c, any_dp d y b c, s, s, ?_⟩
  rw [SeqAt.eqv_refl d c]
  exact q
/-! ### comprehensions beside a box -/
theorem lc_box {J : It} {n : Nat} {G : Hp → Prop} {P : Nat → V → Prop} (w : Walk J n G (fun i H x H' => H' = H ∧ P i x)) {j : Nat} {σ : L2.St} {vs : List Nat} {te : TE} {H1 : Hp} {p D : Addr} {c t : Nat} {Q : Hp → Prop} (hn : n ≤ 1000) (hD : H1 D = none) (b0 : Bx H1 p c) (hG : ∀ H, Grow p H1 H → G H) (Good : PyData → Prop)
    (hs : ∀ i x H, i < n → P i x → Grow p H1 H → Bx H p (c + i * t) → (∃ o, H D = some o) → wipe ((wipe σ vs).set j (some x)) vs = wipe σ vs ∧ ∀ k : VK, (∀ y d H', Grow p H H' → Bx H' p (c + i * t + t) → Good d → Any (del (del H' p) D) y d → k y H') → te ((wipe σ vs).set j (some x)) H k)
    (hq : ∀ H acc ds, Grow p H1 H → Bx H p (c + n * t) → H D = some (.lst acc) → AnyL (del (del H p) D) acc ds → ds.length = n → (∀ d, d ∈ ds → Good d) → Q H) :
    ∃ W : Nat → Nat → Hp → Prop, (∃ m, W 0 m (upd H1 D (.lst []))) ∧ ∀ i m H, W i m H →
      (J.stop i H ∧ Q H) ∨ (J.go i H ∧ ∃ Nx : Hp → Prop, (∀ H', Nx H' → ∃ m', m' < m ∧ W (i + 1) m' H') ∧ ∀ x H', J.yld i H x H' → gName j x (wipe σ vs) H' fun σ2 H2 => wipe σ2 vs = wipe σ vs ∧ tYes σ2 H2 fun b H3 =>
        if b = true then te σ2 H3 fun y H4 => ∃ acc, H4 D = some (.lst acc) ∧ acc.length < sizeLine ∧ Nx (upd H4 D (.lst (acc ++ [y]))) else Nx H3) := by
  have pD := b0.ne hD
  refine lc_it w (Qd := Q) (Pv := fun i H => Grow p H1 H ∧ Bx H p (c + i * t) ∧ ∃ acc ds, H D = some (.lst acc) ∧ AnyL (del (del H p) D) acc ds ∧ ds.length = i ∧ ∀ d, d ∈ ds → Good d) ⟨Grow.of (same_new hD), by simpa using b0.keep (same_new hD), [], [], upd_same, .nil, rfl, fun d hd => (nomatch hd)⟩ (fun i H _ h => hG H h.1) ?_ ?_
  · rintro i x H H' hi ⟨g, b, acc, ds, ha, al, l, gd⟩ ⟨rfl, hp⟩
    obtain ⟨e1, e2⟩ := hs i x H' hi hp g b ⟨_, ha⟩
    refine ⟨e1, ?_⟩
    show te _ _ _
    refine e2 _ fun y d H4 g4 b4 gd4 an => ?_
    have ha4 := g4 _ _ pD.symm ha
    have ln := anyL_len al
    have eqd : ∀ o, del (del (upd H4 D o) p) D = del (del H4 p) D := fun o => by
      funext z
      by_cases y1 : z = D
      · rw [y1, del_same, del_same]
      · rw [del_ne y1, del_ne y1]
        by_cases y2 : z = p
        · rw [y2, del_same, del_same]
        · rw [del_ne y2, del_ne y2, upd_ne y1]
    refine ⟨acc, ha4, Nat.lt_of_lt_of_le (by omega : acc.length < 1000) (by decide), ?_, ?_, acc ++ [y], ds ++ [d], upd_same, ?_, by rw [List.length_append, l] <;> rfl, ?_⟩
    · intro z o ne eo
      rw [upd_ne (ne_of_none eo hD)]
      exact (g.trans g4) z o ne eo
    · obtain ⟨a1, a2, a3, h1, rest⟩ := b4
      refine Bx.more ⟨a1, a2, a3, by rw [upd_ne pD]; exact h1, rest⟩ ?_
      rw [Nat.succ_mul]
      omega
    · rw [eqd]
      exact anyL_snoc (anyL_keep (Grow.del (Grow.of g4.del)) al) an
    · intro z hz
      rcases List.mem_append.mp hz with q | q
      · exact gd z q
      · rw [List.mem_singleton.mp q]
        exact gd4
  · rintro H ⟨g, b, acc, ds, ha, al, l, gd⟩
    exact hq H acc ds g b ha al l gd
end Rw

set_option Elab.async false
set_option linter.all false
set_option maxRecDepth 100000
set_option maxHeartbeats 4000000
/-! TkX: data that is small enough to be shown, wider; comprehensions beside a box; texts of signs; drafts of rows. -/
namespace Rw
open PySem PySem.Spec PyProof.Rows L2
/-- small enough, at the n-th level of lists of at most twelve items -/
structure Tq (n : Nat) (d : PyData) : Prop where
  sh : d.showable = true
  dp : d.depth ≤ 3 + n
  ln : d.shown.length ≤ 80 * 13 ^ n
theorem Tq.up {n m : Nat} {d : PyData} (h : Tq n d) (l : n ≤ m) : Tq m d := ⟨h.sh, by have := h.dp; omega, Nat.le_trans h.ln (Nat.mul_le_mul_left _ (Nat.pow_le_pow_right (by decide) l))⟩
theorem Tm.q {n : Nat} {d : PyData} (h : Tm n d) : Tq n d := ⟨h.sh, h.dp, Nat.le_trans h.ln (Nat.mul_le_mul (by decide) (Nat.pow_le_pow_left (by decide) n))⟩
theorem tq_all {n : Nat} : ∀ {ds : List PyData}, (∀ d ∈ ds, Tq n d) → PyData.showableAll ds = true ∧ PyData.depthAll ds ≤ 3 + n ∧ ∀ t ∈ PyData.shownAll ds, t.length ≤ 80 * 13 ^ n
  | [], _ => ⟨by simp only [PyData.showableAll], by simp only [PyData.depthAll]; omega, fun t ht => by simp only [PyData.shownAll] at ht; cases ht⟩
  | d :: ds, h => by
    obtain ⟨a, b, c⟩ := tq_all (ds := ds) fun x hx => h x (List.mem_cons_of_mem _ hx)
    have e := h d List.mem_cons_self
    refine ⟨?_, ?_, ?_⟩
    · simp only [PyData.showableAll, e.sh, a, Bool.and_self]
    · simp only [PyData.depthAll]
      have := e.dp
      omega
    · intro t ht
      simp only [PyData.shownAll] at ht
      rcases List.mem_cons.mp ht with z | z
      · rw [z]
        exact e.ln
      · exact c t z
theorem tq_num {n : Nat} {k : Nat} (l : k ≤ 12) : k * (80 * 13 ^ n + 2) + 3 ≤ 80 * 13 ^ (n + 1) := by
  have p : 0 < 13 ^ n := Nat.pow_pos (by decide)
  have q : k * (80 * 13 ^ n + 2) ≤ 12 * (80 * 13 ^ n + 2) := Nat.mul_le_mul_right _ l
  rw [Nat.pow_succ]
  omega
theorem tq_list {n : Nat} {ds : List PyData} (l : ds.length ≤ 12) (h : ∀ d ∈ ds, Tq n d) : Tq (n + 1) (.list ds) := by
  obtain ⟨a, b, c⟩ := tq_all h
  refine ⟨by simp only [PyData.showable]; exact a, by simp only [PyData.depth]; omega, ?_⟩
  simp only [PyData.shown]
  have ln : (PyData.shownAll ds).length = ds.length := by rw [shownAll_map, List.length_map]
  have z := tq_num (n := n) l
  generalize PyData.shownAll ds = ts at c ln
  cases ts with
  | nil =>
    have e : (listText []).length = 2 := rfl
    rw [e]
    omega
  | cons t r =>
    rw [list_len]
    have p := piled_le c
    rw [piled_cons, ln] at p
    omega
theorem tq_tup {n : Nat} {ds : List PyData} (l : ds.length ≤ 12) (h : ∀ d ∈ ds, Tq n d) : Tq (n + 1) (.tuple ds) := by
  obtain ⟨a, b, c⟩ := tq_all h
  refine ⟨by simp only [PyData.showable]; exact a, by simp only [PyData.depth]; omega, ?_⟩
  simp only [PyData.shown]
  have ln : (PyData.shownAll ds).length = ds.length := by rw [shownAll_map, List.length_map]
  have z := tq_num (n := n) l
  generalize PyData.shownAll ds = ts at c ln
  have p := piled_le c
  rw [ln] at p
  have e : (tupleText ts).length ≤ 1 + (Str.join ", " ts).length + 2 := by
    show (("(" : Str) ++ Str.join ", " ts ++ (if ts.length == 1 then ",)" else ")" : String)).length ≤ _
    rw [strLen_append, strLen_append]
    have e1 : (("(" : String) : Str).length = 1 := rfl
    have e2 : ((if ts.length == 1 then ",)" else ")" : String) : Str).length ≤ 2 := by
      split
      · exact Nat.le_of_eq rfl
      · exact Nat.le_succ_of_le (Nat.le_of_eq rfl)
    omega
  cases ts with
  | nil =>
    have e3 : (Str.join ", " []).length = 0 := rfl
    omega
  | cons t r =>
    have e3 := join_length_add (t :: r) (by simp)
    omega
theorem tq_int {n : Int} (h : n.natAbs < 10 ^ 40) : Tq 0 (.int n) := (tm_int h).q
theorem tq_str {x : Str} (h : x.length ≤ 7) (c : ∀ z ∈ x.cps.toList, z < 16 ^ 8) : Tq 0 (.str x) := by
  refine ⟨by simp only [PyData.showable], by simp only [PyData.depth]; omega, ?_⟩
  simp only [PyData.shown]
  have := PySem.StrLaws.reprText_len x c
  show _ ≤ 80
  omega
theorem arr_small {x : Str} (h : x.cps.toList.all isArr = true) : ∀ z ∈ x.cps.toList, z < 16 ^ 8 := by
  intro z hz
  have := List.all_eq_true.mp h z hz
  unfold isArr at this
  simp only [Bool.or_eq_true, beq_iff_eq] at this
  rcases this with e | e <;> rw [e] <;> decide
/-! ### odd things -/
theorem odd_short : ∀ d ∈ oddL, Short d := by
  have h : ∀ d ∈ oddL, (match d with | .str x => decide (x.length ≤ 1000) | _ => true) = true := by decide +kernel
  intro d hd x e
  have := h d hd
  rw [e] at this
  exact of_decide_eq_true this
theorem odd_items : ∀ d ∈ oddL, ∀ e ∈ itemsD d, Cell e ∧ SheetT e := by
  have h : ∀ d ∈ oddL, ∀ e ∈ itemsD d, e = .int 1 ∨ e = .int 0 ∨ e = .tuple [.int 1] := by
    intro d hd e he
    have k : ∀ d ∈ oddL, itemsD d = [] ∨ itemsD d = [.int 1] ∨ itemsD d = [.int 0] ∨ itemsD d = [.tuple [.int 1]] := by
      intro d hd
      unfold oddL at hd
      simp only [List.mem_cons, List.not_mem_nil, or_false] at hd
      rcases hd with z | z | z | z | z | z | z | z | z | z | z | z | z | z | z | z <;> subst z <;> simp [itemsD]
    rcases k d hd with z | z | z | z <;> rw [z] at he
    · cases he
    · exact .inl (List.mem_singleton.mp he)
    · exact .inr (.inl (List.mem_singleton.mp he))
    · exact .inr (.inr (List.mem_singleton.mp he))
  intro d hd e he
  have c1 : ∀ n : Int, n.natAbs < 10 ^ 40 → Cell (.int n) ∧ SheetT (.int n) := fun n hn => ⟨cell_int hn, (cell_int hn).sheet (Nat.zero_le _)⟩
  rcases h d hd e he with z | z | z
  · rw [z]; exact c1 1 (by decide)
  · rw [z]; exact c1 0 (by decide)
  · rw [z]; have m : PyData.tuple [.int 1] ∈ oddL := by unfold oddL; simp
    exact ⟨odd_cell _ m, odd_sheet m⟩
theorem SheetT.fit {d : PyData} (s : SheetT d) : Fit d := s.f
theorem odd_fitM {d : PyData} (h : d ∈ oddL) : FitM d := ⟨by have := odd_few d h; omega, fun e he => (odd_items d h e he).2.f⟩
/-! ### comprehensions beside a box -/
theorem bx_at {H : Hp} {p : Addr} {n : Nat} (b : Bx H p n) : ∃ xs, H p = some (.lst xs) := by
  obtain ⟨_, _, _, e, _⟩ := b
  exact ⟨_, e⟩
theorem lc_boxN {J : It} {n : Nat} {G : Hp → Prop} {P : Nat → V → Prop} (w : Walk J n G (fun i H x H' => H' = H ∧ P i x)) {j : Nat} {σ : L2.St} {vs : List Nat} {te : TE} {H1 : Hp} {p D : Addr} {c t : Nat} {Q : Hp → Prop} (hn : n ≤ 1000) (hD : H1 D = none) (b0 : Bx H1 p c) (hG : ∀ H, Grow p H1 H → G H) (Good : PyData → Prop) (nf : ∀ d, Good d → noL d = true)
    (hs : ∀ i x H, i < n → P i x → Grow p H1 H → Bx H p (c + i * t) → wipe ((wipe σ vs).set j (some x)) vs = wipe σ vs ∧ ∀ k : VK, (∀ y d H', Grow p H H' → Bx H' p (c + i * t + t) → Good d → Any H' y d → k y H') → te ((wipe σ vs).set j (some x)) H k)
    (hq : ∀ H acc ds, Grow p H1 H → Bx H p (c + n * t) → H D = some (.lst acc) → AnyL H acc ds → ds.length = n → (∀ d, d ∈ ds → Good d) → Q H) :
    ∃ W : Nat → Nat → Hp → Prop, (∃ m, W 0 m (upd H1 D (.lst []))) ∧ ∀ i m H, W i m H →
      (J.stop i H ∧ Q H) ∨ (J.go i H ∧ ∃ Nx : Hp → Prop, (∀ H', Nx H' → ∃ m', m' < m ∧ W (i + 1) m' H') ∧ ∀ x H', J.yld i H x H' → gName j x (wipe σ vs) H' fun σ2 H2 => wipe σ2 vs = wipe σ vs ∧ tYes σ2 H2 fun b H3 =>
        if b = true then te σ2 H3 fun y H4 => ∃ acc, H4 D = some (.lst acc) ∧ acc.length < sizeLine ∧ Nx (upd H4 D (.lst (acc ++ [y]))) else Nx H3) := by
  have pD := b0.ne hD
  refine lc_it w (Qd := Q) (Pv := fun i H => Grow p H1 H ∧ Bx H p (c + i * t) ∧ ∃ acc ds, H D = some (.lst acc) ∧ AnyL H acc ds ∧ ds.length = i ∧ ∀ d, d ∈ ds → Good d) ⟨Grow.of (same_new hD), by simpa using b0.keep (same_new hD), [], [], upd_same, .nil, rfl, fun d hd => (nomatch hd)⟩ (fun i H _ h => hG H h.1) ?_ ?_
  · rintro i x H H' hi ⟨g, b, acc, ds, ha, al, l, gd⟩ ⟨rfl, hp⟩
    obtain ⟨e1, e2⟩ := hs i x H' hi hp g b
    refine ⟨e1, ?_⟩
    show te _ _ _
    refine e2 _ fun y d H4 g4 b4 gd4 an => ?_
    have ha4 := g4 _ _ pD.symm ha
    have ln := anyL_len al
    obtain ⟨bx, hbx⟩ := bx_at b
    have nd : noLs ds = true := noLs_of fun d hd => nf d (gd d hd)
    have al4 : AnyL H4 acc ds := anyL_keep same_del (anyL_keep (Grow.del g4) (anyL_noL hbx _ _ al nd))
    have down : ∀ {v : V} {e : PyData}, Any H4 v e → noL e = true → Any (upd H4 D (.lst (acc ++ [y]))) v e := fun a z => by
      have a1 := any_noL ha4 _ _ a z
      refine a1.keep fun q o eo => ?_
      by_cases y1 : q = D
      · rw [y1, del_same] at eo; cases eo
      · rw [del_ne y1] at eo
        rw [upd_ne y1]
        exact eo
    refine ⟨acc, ha4, Nat.lt_of_lt_of_le (by omega : acc.length < 1000) (by decide), ?_, ?_, acc ++ [y], ds ++ [d], upd_same, ?_, by rw [List.length_append, l] <;> rfl, ?_⟩
    · intro z o ne eo
      rw [upd_ne (ne_of_none eo hD)]
      exact (g.trans g4) z o ne eo
    · obtain ⟨a1, a2, a3, h1, rest⟩ := b4
      refine Bx.more ⟨a1, a2, a3, by rw [upd_ne pD]; exact h1, rest⟩ ?_
      rw [Nat.succ_mul]
      omega
    · refine anyL_snoc ?_ (down an (nf d gd4))
      refine anyL_keep (fun q o eo => ?_) (anyL_noL ha4 _ _ al4 nd)
      by_cases y1 : q = D
      · rw [y1, del_same] at eo; cases eo
      · rw [del_ne y1] at eo
        rw [upd_ne y1]
        exact eo
    · intro z hz
      rcases List.mem_append.mp hz with q | q
      · exact gd z q
      · rw [List.mem_singleton.mp q]
        exact gd4
  · rintro H ⟨g, b, acc, ds, ha, al, l, gd⟩
    exact hq H acc ds g b ha al l gd
/-! ### texts of signs -/
def sg (c : Nat) : Str := ⟨#[c]⟩
theorem join_sg : ∀ cs : List Nat, (Txt.join "" (cs.map sg)).cps.toList = cs := by
  have e0 : ∀ a : Str, (a ++ ("" : Str)) = a := fun a => by
    cases a with
    | mk c =>
      show (⟨c ++ #[]⟩ : Str) = _
      simp
  intro cs
  rw [TL.join_eq]
  induction cs with
  | nil => rfl
  | cons c cs ih =>
    cases cs with
    | nil => rfl
    | cons b r =>
      show ((sg c ++ ("" : Str)) ++ Str.join "" ((b :: r).map sg)).cps.toList = _
      rw [e0]
      show ((#[c] : Array Nat) ++ (Str.join "" ((b :: r).map sg)).cps).toList = _
      rw [Array.toList_append, ih] <;> rfl
/-! ### drafts of rows -/
def tupI (ns : List Int) : PyData := .tuple (ns.map .int)
def sheetD (m : List (List Int)) : PyData := .list (m.map tupI)
def natD (s : Nat) : PyData := .int (s : Nat)
def draftD (x : Str) (q : Int) (ss : List Nat) (ms : List (List (List Int))) : PyData := .list [.str x, .int q, .list (ss.map natD), .list (ms.map sheetD)]
structure MatOk (q : Int) (h w : Nat) (m : List (List Int)) : Prop where
  h : m.length = h
  w : ∀ r, r ∈ m → r.length = w ∧ ∀ e, e ∈ r → 0 ≤ e ∧ e < q
structure Draft (x : Str) (q : Int) (most : Nat) (ss : List Nat) (ms : List (List (List Int))) : Prop where
  sl : ss.length = x.length + 1
  sb : ∀ s, s ∈ ss → s ≤ most
  ml : ms.length = x.length
  mo : ∀ i m, ms[i]? = some m → MatOk q (ss[stA x i]?.getD 0) (ss[goA x i]?.getD 0) m
theorem noL_tupI (r : List Int) : noL (tupI r) = true := by
  show noLs (r.map PyData.int) = true
  refine noLs_of fun d hd => ?_
  obtain ⟨n, _, rfl⟩ := List.mem_map.mp hd
  rfl
/-- the pattern of a draw -/
structure Pat (x : Str) (m : Nat) : Prop where
  l : x.length ≤ m
  a : x.cps.toList.all isArr = true
def spPrimeR : Sp := fun vs H Q _ => ∃ (p : Addr) (n : Nat), vs = [.ref p] ∧ Bx H p n ∧ n ≤ 900000 ∧ ∀ q H', q ∈ primesL → Grow p H H' → Bx H' p (n + 1) → Q (.int q) H'
def spPatR : Sp := fun vs H Q _ => ∃ (p : Addr) (n m : Nat), vs = [.ref p, .int (m : Nat)] ∧ m ≤ 6 ∧ Bx H p n ∧ n ≤ 900000 ∧ ∀ x H', Pat x m → Grow p H H' → Bx H' p (n + 10) → Q (.str x) H'
def spMatR : Sp := fun vs H Q _ => ∃ (p : Addr) (n h w : Nat) (q : Int), vs = [.ref p, .int q, .int (h : Nat), .int (w : Nat)] ∧ q ∈ primesL ∧ h ≤ 6 ∧ w ≤ 6 ∧ Bx H p n ∧ n ≤ 900000 ∧ ∀ M acc m H', H M = none → Grow p H H' → Bx H' p (n + 80) → H' M = some (.lst acc) → AnyL H' acc (m.map tupI) → MatOk q h w m → Q (.ref M) H'
def spMeas : Sp := fun vs H Q _ => ∃ (x : Str) (a : Addr) (i : Nat) (ss : List Nat), vs = [.str x, .ref a, .int (i : Nat)] ∧ H a = some (.lst (ss.map fun s => V.int (s : Nat))) ∧ i < x.length ∧ x.length ≤ 6 ∧ ss.length = x.length + 1 ∧
  ∀ t H', H t = none → Same H H' → H' t = some (.tup [.int ((ss[stA x i]?.getD 0 : Nat) : Int), .int ((ss[goA x i]?.getD 0 : Nat) : Int)]) → Q (.ref t) H'
def spDraft : Sp := fun vs H Q _ => ∃ (p : Addr) (n most : Nat) (x : Str) (q : Int), vs = [.ref p, .str x, .int q, .int (most : Nat)] ∧ Pat x 6 ∧ q ∈ primesL ∧ most ≤ 6 ∧ Bx H p n ∧ n ≤ 800000 ∧
  ∀ l H' ss ms, Draft x q most ss ms → Grow p H H' → Bx H' p (n + 1000) → Any (del H' p) (.ref l) (draftD x q ss ms) → Q (.ref l) H'
end Rw

set_option Elab.async false
set_option linter.all false
set_option maxRecDepth 100000
set_option maxHeartbeats 4000000
/-! TkI: a list held against [] by !=; len of an own object; what is due of a row. -/
namespace Rw
open PySem PySem.Spec PyProof.Rows L2
def rNilN : R2 := fun x y H Q => ∃ a b xs, x = .ref a ∧ y = .ref b ∧ H a = some (.lst xs) ∧ H b = some (.lst []) ∧ Q (.bl (!xs.isEmpty)) H
theorem op_ne_nil {X : Cx} (hu : X.A.units < cLine) : OpR X (compareOp .NotEq) rNilN := by
  intro pins s σ H x y v u Q I rx ry h
  obtain ⟨a, b, xs, rfl, rfl, ea, eb, q⟩ := h
  obtain rfl : v = Value.ref a := rx
  obtain rfl : u = Value.ref b := ry
  obtain ⟨its, ra, pa, _⟩ := I.list (SqL.of ea)
  obtain ⟨its2, rb, pb, _⟩ := I.list (SqL.of eb)
  cases rb
  have ln := ra.length
  cases xs with
  | nil =>
    cases ra
    exact SeqAt.RcNeAt.lists (e := fun _ => true) pa.isList pb.isList rfl hu (fun j h1 h2 => absurd h1 (Nat.not_lt_zero j)) X.prog X.w _ _ ⟨.bl false, H, I, rfl, q⟩
  | cons z zs =>
    refine SeqAt.RcNeAt.lists_lengths pa.isList pb.isList ?_ hu X.prog X.w _ _ ⟨.bl true, H, I, rfl, q⟩
    simp
    intro e
    rw [e] at ln
    cases ln
theorem len_own {prog : Program} {w : World} {A : Around} {E : Value → Shared → Prop} {s : Shared} {K : PySem.W.Frag} {x C f : Addr} {ox : Obj} {od : Option Obj} {Q : Value → Shared → Prop} (X : K.In s.heap) (I : PySem.W.InstAt s.heap x ox C od)
    (hs : PySem.W.findIn K (.ref C) "__len__" = some (some (.ref f))) (hf : PySem.W.isFn K (.ref f) = true)
    (h : wpAny (model prog w) A.in1 (call (.ref f) [.ref x]) (PySem.W.LenBack Q) E s) : wpAny (model prog w) A (call (.builtin "len") [.ref x]) Q E s := by
  refine Calls.call_function_entry kind_len plain_len entry_len (args_len1 _) ?_
  unfold Builtin.«len»
  refine wpAny_bind (m := oneArg "len" _) (wpAny_pure ?_)
  refine wpAny_bind (m := callSpecial? (.ref x) (Str.ofString "__len__")) (PySem.W.special_fn X I hs (beq_iff_eq.mp hf) (wpAny_mono h (fun r s' hr => ?_) fun _ _ y => y))
  cases r <;> first | exact hr.elim | skip
  rename_i n u
  obtain ⟨⟨h0, h1⟩, hq⟩ := hr
  refine wpAny_bind (wpAny_holding (wpAny_pure ?_))
  refine wpAny_bind (wpAny_letGo ?_)
  show wpAny _ _ (if n < 0 then _ else _) _ _ _
  rw [if_neg (by omega)]
  show wpAny _ _ (if n ≥ 2 ^ 63 then _ else _) _ _ _
  rw [if_neg (by omega)]
  exact wpAny_bind (wpAny_mkInt (wpAny_pure ⟨_, rfl, hq⟩))
/-- len(o) by an own __len__ that raises nothing -/
def rLenO (C : Addr) (sp : Sp) : List V → Hp → VK → Prop := fun xs H Q => ∃ a dx fs, xs = [.ref a] ∧ H a = some (.ins C dx fs) ∧ sp [.ref a] H (fun v H' => ∃ n : Int, v = .int n ∧ 0 ≤ n ∧ n < 2 ^ 63 ∧ Q (.int n) H') (fun _ _ _ => False)
theorem call_lenO {X : Cx} {k : Nat} {f C : Addr} {fd : FuncData} {sp : Sp} (hl : PySem.W.findIn X.K (.ref C) "__len__" = some (some (.ref f))) (hfn : PySem.W.isFn X.K (.ref f) = true) (F : FnOk X.prog X.w X.K X.mg X.base CX0 k f fd ["self"] sp) (hr : Room (k + 1) X.A) (hb : Binds X.K fd ["self"] []) :
    CallR X (.builtin "len") (rLenO C sp) := by
  intro pins s σ H xs us Q I r h
  obtain ⟨a, dx, fs, rfl, ea, h⟩ := h
  obtain ⟨u, rfl, ru⟩ := vals1 r
  obtain rfl : u = Value.ref a := ru
  obtain ⟨mA, O, _, _, _, _⟩ := ins_get I.hok ea
  obtain ⟨od, J, _⟩ := O.look
  refine len_own I.kIn J hl hfn (wpAny_call ?_)
  refine codeAny_mono (F.run X.A.in1 X.stack s H ⟨[.ref a], []⟩ [.ref a] [.ref a] _ _ hr.in1 I.env0.in1 (hb _ [.ref a] I.kIn rfl) (.cons rfl .nil) h) fun r s' hq => ?_
  cases r with
  | error er => exact hq.elim
  | ok fl =>
    cases fl with
    | ret u =>
      obtain ⟨v, H', I3, rv, n, rfl, n0, n1, q3⟩ := I.after hq
      obtain ⟨t, rfl⟩ := rv
      exact ⟨⟨n0, n1⟩, .int n, H', I3.tok _, ⟨_, rfl⟩, q3⟩
    | next => exact False.elim hq
    | brk => exact False.elim hq
    | cont => exact False.elim hq
/-! ### what is due of a row -/
def strD : PyData → Str
  | .str x => x | _ => Str.empty
def wD (x : Str) (d : PyData) : PyData := .list [.str x, d]
def rowDue (d0 d1 d2 d3 : PyData) : PyData :=
  if isPatD d0 = true then (if isPr d1 = true then (if sizesOk (strD d0).length d2 = true then (if mapsOk (strD d0).length d3 = true then (match badAt (strD d0) d2 d3 with | some i => wD "matrix" (atD d3 i) | none => wD "told" (.int ((strD d0).length + 1 : Nat))) else wD "maps" d3) else wD "sizes" d2) else wD "prime" d1) else wD "pattern" d0
def barsDue (d : PyData) : PyData := if isPatD d = true then wD "told" (.int ((barsL ((strD d).length + 1)).length : Nat)) else wD "pattern" d
/-- what a thing to make a row of must be for all to go well -/
structure RowFit (d0 d2 d3 : PyData) : Prop where
  sp : Short d0
  ls : (itemsD d2).length ≤ 1000
  fm : FitM d3
def spDueR : Sp := fun vs H Q _ => ∃ v d0 d1 d2 d3, vs = [v] ∧ Any H v (.list [d0, d1, d2, d3]) ∧ RowFit d0 d2 d3 ∧ ∀ l H', Same H H' → Any H' (.ref l) (rowDue d0 d1 d2 d3) → Q (.ref l) H'
def spSheetL : Sp := fun vs H Q _ => ∃ v d h w, vs = [v, .int h, .int w] ∧ Any H v d ∧ Fit d ∧ ∀ H', Same H H' → Q (.bl (isMatD h w d)) H'
def spBarsC : Sp := fun vs H Q _ => ∃ v d, vs = [v] ∧ Any H v d ∧ Short d ∧ ∀ l H', Same H H' → Any H' (.ref l) (barsDue d) → Q (.ref l) H'
def spMeasD : Sp := fun vs H Q _ => ∃ (x : Str) (va : V) (i : Nat) (ds : PyData), vs = [.str x, va, .int (i : Nat)] ∧ Any H va ds ∧ sizesOk x.length ds = true ∧ i < x.length ∧ x.length ≤ 6 ∧
  ∀ t H', H t = none → Same H H' → H' t = some (.tup [.int (szL ds (stA x i)), .int (szL ds (goA x i))]) → Q (.ref t) H'
theorem any_list4 {H : Hp} {v : V} {d0 d1 d2 d3 : PyData} (h : Any H v (.list [d0, d1, d2, d3])) : ∃ a v0 v1 v2 v3, v = .ref a ∧ H a = some (.lst [v0, v1, v2, v3]) ∧ Any H v0 d0 ∧ Any H v1 d1 ∧ Any H v2 d2 ∧ Any H v3 d3 := by
  cases h with
  | lst e al =>
    cases al with
    | cons a0 al =>
      cases al with
      | cons a1 al =>
        cases al with
        | cons a2 al =>
          cases al with
          | cons a3 al =>
            cases al
            exact ⟨_, _, _, _, _, rfl, e, a0, a1, a2, a3⟩
theorem nats_ok {ss : List Nat} {k : Nat} (l : ss.length = k + 1) (h : ∀ s, s ∈ ss → s ≤ 6) : sizesOk k (.list (ss.map natD)) = true := by
  unfold sizesOk
  rw [Bool.and_eq_true, Bool.and_eq_true]
  refine ⟨rfl, decide_eq_true (by show (ss.map natD).length = _; rw [List.length_map]; exact l), List.all_eq_true.mpr fun d hd => ?_⟩
  obtain ⟨s, hs, rfl⟩ := List.mem_map.mp hd
  have := h s hs
  show (decide ((0 : Int) ≤ (s : Nat)) && decide (((s : Nat) : Int) ≤ 6)) = true
  rw [Bool.and_eq_true]
  exact ⟨decide_eq_true (by omega), decide_eq_true (by omega)⟩
theorem nats_sz {ss : List Nat} {j : Nat} : szL (.list (ss.map natD)) j = ((ss[j]?.getD 0 : Nat) : Int) := by
  unfold szL atD
  show intN ((ss.map natD)[j]?.getD .none) = _
  rw [List.getElem?_map]
  cases ss[j]? <;> rfl
end Rw

set_option Elab.async false
set_option linter.all false
set_option maxRecDepth 100000
set_option maxHeartbeats 4000000
/-! TkJ: drafts make rows; own rows made, in a try's body and outside. -/
namespace Rw
open PySem PySem.Spec PyProof.Rows L2
theorem pair_any {H : Hp} {l : Addr} {x : Str} {v : V} {d : PyData} (hl : H l = none) (h : Any H v d) : Any (upd H l (.lst [.str x, v])) (.ref l) (.list [.str x, d]) := .lst upd_same (.cons (.str x) (.cons (h.keep (same_new hl)) .nil))
theorem fmod_id {e q : Int} (h0 : 0 ≤ e) (h1 : e < q) : e.fmod q = e := by
  rw [fmod_pos (by omega)]
  exact Int.emod_eq_of_lt h0 h1
theorem rows_id {q : Int} {h w : Nat} {m : List (List Int)} (k : MatOk q h w m) : rowsM q (sheetD m) = m.map tupI := by
  unfold rowsM
  show (m.map tupI).map (fun r => PyData.tuple ((itemsD r).map (modD q))) = _
  rw [List.map_map]
  refine List.map_congr_left fun r hr => ?_
  show PyData.tuple (((r.map PyData.int)).map (modD q)) = _
  rw [List.map_map]
  unfold tupI
  congr 1
  refine List.map_congr_left fun e he => ?_
  obtain ⟨h0, h1⟩ := (k.w r hr).2 e he
  show PyData.int (e.fmod q) = _
  rw [fmod_id h0 h1]
theorem mat_is {q : Int} {h w : Nat} {m : List (List Int)} (k : MatOk q h w m) : isMatD (h : Nat) (w : Nat) (sheetD m) = true := by
  unfold isMatD
  rw [Bool.and_eq_true, Bool.and_eq_true]
  refine ⟨rfl, decide_eq_true (by show (((m.map tupI).length : Nat) : Int) = _; rw [List.length_map, k.h]), List.all_eq_true.mpr fun d hd => ?_⟩
  obtain ⟨r, hr, rfl⟩ := List.mem_map.mp hd
  unfold isVecD
  rw [Bool.and_eq_true, Bool.and_eq_true]
  refine ⟨rfl, decide_eq_true (by show (((r.map PyData.int).length : Nat) : Int) = _; rw [List.length_map, (k.w r hr).1]), List.all_eq_true.mpr fun e he => ?_⟩
  obtain ⟨n, _, rfl⟩ := List.mem_map.mp he
  rfl
theorem draft_at {ms : List (List (List Int))} {i : Nat} {m : List (List Int)} (h : ms[i]? = some m) : atD (.list (ms.map sheetD)) i = sheetD m := atD_get (by
  show (ms.map sheetD)[i]? = _
  rw [List.getElem?_map, h] <;> rfl)
theorem draft_good {x : Str} {q : Int} {most : Nat} {ss : List Nat} {ms : List (List (List Int))} (d : Draft x q most ss ms) (px : Pat x 6) (hq : q ∈ primesL) (m6 : most ≤ 6) : rowGood x q (.list (ss.map natD)) (.list (ms.map sheetD)) = true := by
  unfold rowGood
  have e1 : isPatD (.str x) = true := by
    show (decide (x.length ≤ 6) && x.cps.toList.all isArr) = true
    rw [decide_eq_true px.l, px.a] <;> rfl
  have e2 : isPr (.int q) = true := decide_eq_true hq
  have e3 : mapsOk x.length (.list (ms.map sheetD)) = true := by
    unfold mapsOk
    rw [Bool.and_eq_true]
    exact ⟨rfl, decide_eq_true (by show (ms.map sheetD).length = _; rw [List.length_map, d.ml])⟩
  have e4 : badAt x (.list (ss.map natD)) (.list (ms.map sheetD)) = none := bad_none fun j hj => by
    have hj2 : j < ms.length := by rw [d.ml]; exact hj
    have h1 : ms[j]? = some ms[j] := List.getElem?_eq_getElem hj2
    unfold matOk
    rw [draft_at h1, nats_sz, nats_sz]
    exact mat_is (d.mo j _ h1)
  rw [e1, e2, nats_ok d.sl (fun s hs => Nat.le_trans (d.sb s hs) m6), e3, e4] <;> rfl
theorem draft_rows {x : Str} {q : Int} {most : Nat} {ss : List Nat} {ms : List (List (List Int))} (d : Draft x q most ss ms) : (itemsD (.list (ms.map sheetD))).map (rowsM q) = ms.map fun m => m.map tupI := by
  show (ms.map sheetD).map (rowsM q) = _
  rw [List.map_map]
  refine List.map_congr_left fun m hm => ?_
  obtain ⟨i, hi⟩ := List.getElem?_of_mem hm
  exact rows_id (d.mo i m hi)
theorem mat_small {q : Int} {h w : Nat} {m : List (List Int)} (k : MatOk q h w m) (hq : q ∈ primesL) (h6 : h ≤ 6) (w6 : w ≤ 6) : Fit (sheetD m) ∧ SheetT (sheetD m) := by
  have pp := prime_pos hq
  have cell : ∀ r, r ∈ m → ∀ d, d ∈ r.map PyData.int → Cell d := fun r hr d hd => by
    obtain ⟨e, he, rfl⟩ := List.mem_map.mp hd
    obtain ⟨h0, h1⟩ := (k.w r hr).2 e he
    exact cell_int (Nat.lt_of_le_of_lt (by omega : e.natAbs ≤ 13) (by decide))
  have lr : ∀ r, r ∈ m → (r.map PyData.int).length ≤ 6 := fun r hr => by rw [List.length_map, (k.w r hr).1]; exact w6
  have lm : (m.map tupI).length ≤ 6 := by rw [List.length_map, k.h]; exact h6
  have row : ∀ d, d ∈ m.map tupI → RowT d := fun d hd => by
    obtain ⟨r, hr, rfl⟩ := List.mem_map.mp hd
    exact ⟨tm_tup (lr r hr) fun d hd => (cell r hr d hd).tm, fit1_of (ds := r.map PyData.int) rfl (by have := lr r hr; omega) fun d hd => (cell r hr d hd).sm, rfl⟩
  have s := sheet_list lm row
  exact ⟨s.f, s⟩
theorem st_le {x : Str} {i : Nat} (h : i < x.length) : stA x i ≤ x.length := Nat.le_trans (stA_le x i) h
theorem get_le {ss : List Nat} {most : Nat} (h : ∀ s, s ∈ ss → s ≤ most) (j : Nat) : ss[j]?.getD 0 ≤ most := by
  cases e : ss[j]? with
  | none => exact Nat.zero_le _
  | some s => exact h s (List.mem_of_getElem? e)
theorem draft_sheet {x : Str} {q : Int} {most : Nat} {ss : List Nat} {ms : List (List (List Int))} (d : Draft x q most ss ms) (hq : q ∈ primesL) (m6 : most ≤ 6) : ∀ e, e ∈ ms.map sheetD → SheetT e := by
  intro e he
  obtain ⟨m, hm, rfl⟩ := List.mem_map.mp he
  obtain ⟨i, hi⟩ := List.getElem?_of_mem hm
  exact (mat_small (d.mo i m hi) hq (Nat.le_trans (get_le d.sb _) m6) (Nat.le_trans (get_le d.sb _) m6)).2
theorem draft_fitM {x : Str} {q : Int} {most : Nat} {ss : List Nat} {ms : List (List (List Int))} (d : Draft x q most ss ms) (px : Pat x 6) (hq : q ∈ primesL) (m6 : most ≤ 6) : FitM (.list (ms.map sheetD)) :=
  ⟨by show (ms.map sheetD).length ≤ _; rw [List.length_map, d.ml]; have := px.l; omega, fun e he => (draft_sheet d hq m6 e he).f⟩
theorem pat_short {x : Str} {m : Nat} (p : Pat x m) (h : m ≤ 6) : Short (.str x) := fun y e => by
  cases e
  have := p.l
  omega
/-! ### rows made -/
/-- the class of rows, its methods at hand -/
structure RowsAt (P : Program) (w : World) (K : PySem.W.Frag) (mg : Str → Option Value) (base : Heap) (C CT CP CZ CA CM : Addr) : Prop where
  g : mg "Row" = some (.ref C)
  cl : Cls K C
  ini : ∃ (f : Addr) (fd : FuncData), Mk K C f ∧ FnOk P w K mg base (L2.CX P w) 6 f fd ["self", "pattern", "prime", "sizes", "maps"] (spIniR C CT CP CZ CA CM) ∧ Binds K fd ["self", "pattern", "prime", "sizes", "maps"] []
section
variable {X : Cx} {C CT CP CZ CA CM : Addr} {p pos : Pos} {e : Expr} {es : List Expr} {t : TA}
def tRowS (C CT CP CZ CA CM : Addr) (W : WX) (t : TA) : TE := fun σ H Q => t σ H fun vs H1 => tRowMk C CT CP CZ CA CM H1 vs Q (fun cls d H' => W cls d σ H')
def tRowN (C CT CP CZ CA CM : Addr) (E : XK) (t : TA) : TE := fun σ H Q => t σ H fun vs H1 => tRowMk C CT CP CZ CA CM H1 vs Q E
theorem pe_rowS {W : WX} (R : RowsAt X.prog X.w X.K X.mg X.base C CT CP CZ CA CM) (hr : Room 7 X.A) (hx : ∀ σ, PassesAt (L2.CX X.prog X.w) X σ (fun cls d H' => W cls d σ H')) (ha : PA X (e :: es) t) (hg : Gl X "Row" := by rfl)
    (he : starEach (e :: es) X.env = (false, eval e X.env) :: starEach es X.env := by rfl) (hpl : (backTo pos (starEach es X.env)).any (·.1) = false := by rfl) : PE X (.Call (.Name "Row" p) (e :: es) [] pos) (tRowS C CT CP CZ CA CM W t) := by
  obtain ⟨f, fd, M, F, hb⟩ := R.ini
  refine ⟨fun pins s σ H Q I h => ?_⟩
  refine wpAny_Call_Name_kw (ld_glob I hg R.g ?_ (by decide))
  refine PySem.W.callWith_K (h₀ := X.base) I.ok.mod.kin M.kp (thn (ha.run pos pins s σ H _ I h) fun us s1 ⟨vs, H1, I1, r, q⟩ => ⟨I1.kIn, ?_⟩) he hpl
  exact run_makeS M F hr hb .nil hx I1 r (row_make q)
theorem pe_rowN {E : XK} (R : RowsAt X.prog X.w X.K X.mg X.base C CT CP CZ CA CM) (hr : Room 7 X.A) (hx : Passes (L2.CX X.prog X.w) X E) (ha : PA X (e :: es) t) (hg : Gl X "Row" := by rfl)
    (he : starEach (e :: es) X.env = (false, eval e X.env) :: starEach es X.env := by rfl) (hpl : (backTo pos (starEach es X.env)).any (·.1) = false := by rfl) : PE X (.Call (.Name "Row" p) (e :: es) [] pos) (tRowN C CT CP CZ CA CM E t) := by
  obtain ⟨f, fd, M, F, hb⟩ := R.ini
  refine ⟨fun pins s σ H Q I h => ?_⟩
  refine wpAny_Call_Name_kw (ld_glob I hg R.g ?_ (by decide))
  refine PySem.W.callWith_K (h₀ := X.base) I.ok.mod.kin M.kp (thn (ha.run pos pins s σ H _ I h) fun us s1 ⟨vs, H1, I1, r, q⟩ => ⟨I1.kIn, ?_⟩) he hpl
  exact run_make M F hr hb .nil hx I1 r (row_make q)
end
def spRowL (C : Addr) : Sp := fun vs H Q _ => ∃ v x q most ss ms, vs = [v] ∧ Any H v (draftD x q ss ms) ∧ Draft x q most ss ms ∧ Pat x 6 ∧ q ∈ primesL ∧ most ≤ 6 ∧
  ∀ a H', H a = none → Same H H' → RowAt C H' a x q (ss.map natD) (ms.map fun m => m.map tupI) → Q (.ref a) H'
/-- of data that is right nothing is refused -/
theorem good_parts {x : Str} {p : Int} {ds dm : PyData} (h : rowGood x p ds dm = true) : isPatD (.str x) = true ∧ isPr (.int p) = true ∧ sizesOk x.length ds = true ∧ mapsOk x.length dm = true ∧ badAt x ds dm = none := by
  unfold rowGood at h
  simp only [Bool.and_eq_true, Option.isNone_iff_eq_none] at h
  exact h
theorem good_err {x : Str} {p : Int} {vp vq va vm : V} {ds dm : PyData} {CT CP CZ CA CM : Addr} {H : Hp} {E : XK} (h : rowGood x p ds dm = true) : RowErr CT CP CZ CA CM H E vp vq va vm (.str x) (.int p) ds dm := by
  obtain ⟨h1, h2, h3, h4, h5⟩ := good_parts h
  refine ⟨fun z => (by rw [h1] at z; cases z), fun _ z => (by rw [h2] at z; cases z), fun y e _ _ z => ?_, fun y e _ _ _ z => ?_, fun y i v H1 e _ _ _ _ z => ?_⟩
  · cases e; rw [h3] at z; cases z
  · cases e; rw [h4] at z; cases z
  · cases e; rw [h5] at z; cases z
def spMatC (C : Addr) : Sp := fun vs H Q _ => ∃ a v d x p ss mm, vs = [.ref a, v] ∧ RowAt C H a x p ss mm ∧ Any H v d ∧ mm.length ≤ 1000 ∧ ∀ l H', Same H H' → Any H' (.ref l) (if inB d (.int 0) (.int ((mm.length : Nat) - 1 : Int)) = true then wD "told" (.list (mm[(intN d).toNat]?.getD [])) else wD "place" d) → Q (.ref l) H'
def spBarsN : Sp := fun vs H Q _ => ∃ x, vs = [.str x] ∧ x.length ≤ 6 ∧ ∀ l acc H', H l = none → Same H H' → H' l = some (.lst acc) → AnyL H' acc ((barsL (x.length + 1)).map barD) → Q (.ref l) H'
end Rw

set_option Elab.async false
set_option linter.all false
set_option maxRecDepth 100000
set_option maxHeartbeats 4000000
/-! TkBG: a tuple times any number of times. -/
namespace Rw
open PySem PySem.Spec PyProof.Rows L2
theorem tuple_mul1 (l : Addr) (items : Array Value) (n : Nat) (dd : Option Addr) (sl : Array (Option Value)) (u : Tok) (ne : items.isEmpty = false) :
    Meets (Builtin.«tuple.__mul__» ⟨[.ref l, .int 1 u], []⟩) (fun _ R s => s.heap.get? l = some { cls := .type "tuple", dict := dd, data := .seq items n, slots := sl } ∧ R (.ok (.ret (Value.ref l))) s) :=
  .of_wp fun prog w A R s h => by
    obtain ⟨hp, g, d, tk, os⟩ := s
    obtain ⟨hl, h⟩ := h
    have f1 := AutoSeq1.idx_int
    wp_walk using wpAny_loadPart' hl
    exact ⟨_, rfl, h⟩
theorem tuple_mul0 (l : Addr) (items : Array Value) (n : Nat) (dd : Option Addr) (sl : Array (Option Value)) (x : Int) (u : Tok) (c0 : (decide (x < -(2 ^ 63)) || decide (x ≥ 2 ^ 63)) = false) (c1 : (items.isEmpty || x == 1) = false) (c2 : (decide (x ≤ 0) || items.isEmpty) = true) :
    Meets (Builtin.«tuple.__mul__» ⟨[.ref l, .int x u], []⟩) (fun _ R s => s.heap.get? l = some { cls := .type "tuple", dict := dd, data := .seq items n, slots := sl } ∧
      R (.ok (.ret (Value.ref s.heap.objs.size))) { s with heap := s.heap.push { cls := Value.type "tuple", data := Data.seq #[] }, toks := s.toks }) :=
  .of_wp fun prog w A R s h => by
    obtain ⟨hp, g, d, tk, os⟩ := s
    obtain ⟨hl, h⟩ := h
    have f1 := AutoSeq1.idx_int
    wp_walk using wpAny_loadPart' hl
    repeat (first
      | (refine wpAny_ite_false (decide_eq_false (by rw [c0]; exact Bool.false_ne_true)) ?_; wp_walk using wpAny_loadPart' hl)
      | (refine wpAny_ite_false (decide_eq_false (by rw [c1]; exact Bool.false_ne_true)) ?_; wp_walk using wpAny_loadPart' hl)
      | (refine wpAny_ite_true (decide_eq_true (by rw [c2])) ?_; wp_walk using wpAny_loadPart' hl))
    exact ⟨_, rfl, h⟩
/-- a tuple with one item, so many times -/
def rRepO : R2 := fun x y H Q => ∃ (l : Addr) (k : Nat) (a : V), x = .ref l ∧ y = .int (k : Nat) ∧ H l = some (.tup [a]) ∧ k ≤ 1000 ∧ ∀ p H', Same H H' → H' p = some (.tup (List.replicate k a)) → Q (.ref p) H'
theorem op_repO {X : Cx} : OpR X (binaryOp .Mult) rRepO := by
  intro pins s σ H x y v u Q I rx ry h
  obtain ⟨l, k, a, rfl, rfl, hT0, hk, q⟩ := h
  have hT : SqT X.K H l [a] := SqT.of hT0
  by_cases k2 : 2 ≤ k
  · refine op_repT pins s σ H _ _ v u Q I rx ry ⟨l, (k : Nat), [a], rfl, rfl, hT, by simp, by omega, by omega, by show 1 ≤ 1000; decide, fun p hp => q p _ (same_new hp) ?_⟩
    rw [upd_same]
    have e : (List.replicate ((k : Nat) : Int).toNat [a]).flatten = List.replicate k a := by
      rw [Int.toNat_natCast]
      simp
    rw [e]
  cases rx
  obtain ⟨t, rfl⟩ := ry
  obtain ⟨its, r, ⟨⟨cls, dd, data, sl⟩, ho, hc, n, hd⟩, hs⟩ := I.tuple hT
  simp only at hc hd
  subst hc hd
  have hle : its.length = 1 := r.length.symm
  have hi : its.toArray.isEmpty = false := by
    cases its with
    | nil => cases hle
    | cons a b => rfl
  have c0 : (decide (((k : Nat) : Int) < -(2 ^ 63)) || decide (((k : Nat) : Int) ≥ 2 ^ 63)) = false := by
    rw [decide_eq_false (by omega), decide_eq_false (by omega)] <;> rfl
  by_cases k1 : k = 1
  · subst k1
    refine wpAny_binaryOp_repeat_ref (T := "tuple") (U := "int") (by decide) ⟨_, ho, rfl⟩ (fun s' => typeIs_int s' _ t) noFill_tuple_mul F.fills_int_mul F.slot_int_rmul repeat_tuple F.slot_int_index.lookup
      (call_meets F.slot_int_rmul (typeIs_int s _ t) F.entry_int_rmul (F.args_int_rmul_2 _ _) (int_rmul_tuple _ t l its.toArray n dd sl)
        ⟨ho, rfl, ⟨_, ho, rfl⟩, call_meets F.slot_tuple_mul ⟨_, ho, rfl⟩ F.entry_tuple_mul (F.args_tuple_mul_2 _ _) (tuple_mul1 l its.toArray n dd sl t hi) ⟨ho, ?_⟩⟩)
    exact ⟨.ref l, H, I, rfl, q l H (Same.refl _) hT0⟩
  · have k0 : k = 0 := by omega
    subst k0
    have c1 : (its.toArray.isEmpty || ((0 : Nat) : Int) == 1) = false := by rw [hi] <;> rfl
    have c2 : (decide (((0 : Nat) : Int) ≤ 0) || its.toArray.isEmpty) = true := by rw [decide_eq_true (by omega)] <;> rfl
    refine wpAny_binaryOp_repeat_ref (T := "tuple") (U := "int") (by decide) ⟨_, ho, rfl⟩ (fun s' => typeIs_int s' _ t) noFill_tuple_mul F.fills_int_mul F.slot_int_rmul repeat_tuple F.slot_int_index.lookup
      (call_meets F.slot_int_rmul (typeIs_int s _ t) F.entry_int_rmul (F.args_int_rmul_2 _ _) (int_rmul_tuple _ t l its.toArray n dd sl)
        ⟨ho, rfl, ⟨_, ho, rfl⟩, call_meets F.slot_tuple_mul ⟨_, ho, rfl⟩ F.entry_tuple_mul (F.args_tuple_mul_2 _ _) (tuple_mul0 l its.toArray n dd sl _ t c0 c1 c2) ⟨ho, ?_⟩⟩)
    refine ⟨.ref s.heap.objs.size, _, I.laid (t' := s.toks) (o := .tup []) (fun b ob q => Heap.get?_push_of_some _ q) (Nat.le_refl _) ?_, rfl, q _ _ (same_new (I.hok.fresh (Nat.le_refl _))) upd_same⟩
    exact ⟨by show 0 ≤ sizeLine; decide, _, .nil, IsTup.new _ _⟩
end Rw

set_option Elab.async false
set_option linter.all false
set_option maxRecDepth 100000
set_option maxHeartbeats 4000000
/-! TkBF: rows, read and joined: the promises. -/
namespace Rw
open PySem PySem.Spec PyProof.Rows L2
theorem ints_at {ns : List Int} {i : Nat} {v : V} (h : (ns.map V.int)[i]? = some v) : ∃ n, ns[i]? = some n ∧ v = .int n := by
  rw [List.getElem?_map] at h
  cases e : ns[i]? with
  | none => rw [e] at h; cases h
  | some n =>
    rw [e] at h
    exact ⟨n, rfl, (Option.some.inj h).symm⟩
theorem anyL_app {H : Hp} : ∀ {xs ys : List V} {ds es : List PyData}, AnyL H xs ds → AnyL H ys es → AnyL H (xs ++ ys) (ds ++ es)
  | _, _, _, _, .nil, b => b
  | _, _, _, _, .cons a r, b => .cons a (anyL_app r b)
def spGetP (C : Addr) : Sp := fun vs H Q _ => ∃ a x p ss mm, vs = [.ref a] ∧ RowAt C H a x p ss mm ∧ Q (.str x) H
def spGetQ (C : Addr) : Sp := fun vs H Q _ => ∃ a x p ss mm, vs = [.ref a] ∧ RowAt C H a x p ss mm ∧ Q (.int p) H
def spGetS (C : Addr) : Sp := fun vs H Q _ => ∃ a x p ss mm, vs = [.ref a] ∧ RowAt C H a x p ss mm ∧ ∀ ts, Any H (.ref ts) (.tuple ss) → Q (.ref ts) H
/-- a property of rows at hand -/
structure PropAt (P : Program) (w : World) (K : PySem.W.Frag) (mg : Str → Option Value) (base : Heap) (C : Addr) (f : Str) (sp : Sp) : Prop where
  cl : Cls K C
  has : ∃ (p g : Addr) (fd : FuncData), PropOf K C f p g ∧ FnOk P w K mg base CX0 1 g fd ["self"] sp ∧ Binds K fd ["self"] []
section
variable {X : Cx} {C : Addr} {f : Str} {sp : Sp} {e : Expr} {ta : TE} {pos : Pos}
theorem pass0n : Passes CX0 X.nox E0 := pass0
theorem pe_prp (A : PropAt X.prog X.w X.K X.mg X.base C f sp) (hr : Room 2 X.A) (he : PE X e ta) (hab : attributeBase e f X.env (eval e X.env) = eval e X.env := by rfl) : PE X (.Attribute e f pos) (tProp C sp [] E0 ta) := by
  obtain ⟨p, g, fd, hp, F, hb⟩ := A.has
  exact pe_prop he A.cl hp F hr hb .nil pass0n hab
end
/-- a method of rows that raises nothing, without arguments -/
structure Meth0At (P : Program) (w : World) (K : PySem.W.Frag) (mg : Str → Option Value) (base : Heap) (C : Addr) (m : Str) (k : Nat) (sp : Sp) : Prop where
  cl : Cls K C
  has : ∃ (f : Addr) (fd : FuncData), Meth K C m f ∧ FnOk P w K mg base CX0 k f fd ["self"] sp ∧ Binds K fd ["self"] []
/-- the first of some numbers above 6 -/
def spLow (K : PySem.W.Frag) (CG : Addr) : Sp := fun vs H Q E => ∃ (a : Addr) (ns : List Int), vs = [.ref a] ∧ SqL K H a (ns.map V.int) ∧ ns.length ≤ 1000 ∧ ((∀ (i : Nat) (n : Int), ns[i]? = some n → n ≤ 6) → Q .non H) ∧
  (∀ (i : Nat) (n : Int), ns[i]? = some n → 6 < n → (∀ (j : Nat) (m : Int), j < i → ns[j]? = some m → m ≤ 6) → Thrown CG (.int n) H E)
def spAlike (C CU : Addr) : Sp := fun vs H Q E => ∃ a b x p ss mm y q ts nn, vs = [.ref a, .ref b] ∧ RowAt C H a x p ss mm ∧ RowAt C H b y q ts nn ∧ (x = y → p = q → Q .non H) ∧ (¬(x = y ∧ p = q) → ThrownN CU H E)
/-- the rows of the one, zeros behind, and those of the other, zeros ahead -/
def besM (m1 m2 : List (List Int)) (w k : Nat) : List (List Int) := m1.map (fun r => r ++ List.replicate k 0) ++ m2.map (fun r => List.replicate w 0 ++ r)
def spBes : Sp := fun vs H Q _ => ∃ v1 v2 m1 m2 w k, vs = [v1, v2, .int (w : Nat), .int (k : Nat)] ∧ Any H v1 (.tuple (m1.map tupI)) ∧ Any H v2 (.tuple (m2.map tupI)) ∧ m1.length ≤ 6 ∧ m2.length ≤ 6 ∧ w ≤ 6 ∧ k ≤ 6 ∧ (∀ r, r ∈ m1 → r.length ≤ 6) ∧ (∀ r, r ∈ m2 → r.length ≤ 6) ∧
  ∀ l acc H', H l = none → Same H H' → H' l = some (.lst acc) → AnyL (del H' l) acc ((besM m1 m2 w k).map tupI) → Q (.ref l) H'
theorem cat_tup {K : PySem.W.Frag} {H : Hp} {a b : Addr} {xs ys : List V} {Q : VK} (ha : H a = some (.tup xs)) (hb : H b = some (.tup ys)) (hl : xs.length + ys.length ≤ 1000) (q : ∀ p H', Same H H' → H' p = some (.tup (xs ++ ys)) → Q (.ref p) H') : rCatA K (.ref a) (.ref b) H Q := by
  refine ⟨a, b, xs, ys, rfl, rfl, SqT.of ha, SqT.of hb, Nat.le_trans hl (by decide), fun e => q b H (Same.refl _) ?_, fun _ e => q a H (Same.refl _) ?_, fun _ _ p hp => q p _ (same_new hp) upd_same⟩
  · rw [e]; exact hb
  · rw [e, List.append_nil]; exact ha
theorem any_tupI {H : Hp} {v : V} {r : List Int} (h : Any H v (tupI r)) : ∃ p, v = .ref p ∧ H p = some (.tup (r.map V.int)) := by
  cases h with
  | tup e al => exact ⟨_, rfl, by rw [e, anyL_ints al]⟩
theorem tupI_any {H : Hp} {p : Addr} {r : List Int} (h : H p = some (.tup (r.map V.int))) : Any H (.ref p) (tupI r) := .tup h (ints_anyL r)
theorem rep_ints (k : Nat) : List.replicate k (V.int 0) = (List.replicate k (0 : Int)).map V.int := by simp
end Rw

set_option Elab.async false
set_option linter.all false
set_option maxRecDepth 100000
set_option maxHeartbeats 4000000
/-! TkBH: rows beside one another, parts of rows: the drafts and the promises. -/
namespace Rw
open PySem PySem.Spec PyProof.Rows L2
def sumS (ss ts : List Nat) : List Nat := (List.range ss.length).map fun i => ss[i]?.getD 0 + ts[i]?.getD 0
def besMs (x : Str) (ss ts : List Nat) (ms ns : List (List (List Int))) : List (List (List Int)) := (List.range x.length).map fun i => besM (ms[i]?.getD []) (ns[i]?.getD []) (ss[goA x i]?.getD 0) (ts[goA x i]?.getD 0)
theorem sumS_len (ss ts : List Nat) : (sumS ss ts).length = ss.length := by
  unfold sumS
  rw [List.length_map, List.length_range]
theorem sumS_at {ss ts : List Nat} {i : Nat} (h : i < ss.length) : (sumS ss ts)[i]? = some (ss[i]?.getD 0 + ts[i]?.getD 0) := by
  unfold sumS
  rw [List.getElem?_map, List.getElem?_range h] <;> rfl
theorem besMs_len (x : Str) (ss ts : List Nat) (ms ns : List (List (List Int))) : (besMs x ss ts ms ns).length = x.length := by
  unfold besMs
  rw [List.length_map, List.length_range]
theorem besMs_at {x : Str} {ss ts : List Nat} {ms ns : List (List (List Int))} {i : Nat} (h : i < x.length) : (besMs x ss ts ms ns)[i]? = some (besM (ms[i]?.getD []) (ns[i]?.getD []) (ss[goA x i]?.getD 0) (ts[goA x i]?.getD 0)) := by
  unfold besMs
  rw [List.getElem?_map, List.getElem?_range h] <;> rfl
theorem Draft.at_ {x : Str} {q : Int} {most : Nat} {ss : List Nat} {ms : List (List (List Int))} (d : Draft x q most ss ms) {i : Nat} (h : i < x.length) : MatOk q (ss[stA x i]?.getD 0) (ss[goA x i]?.getD 0) (ms[i]?.getD []) := by
  have h2 : i < ms.length := by rw [d.ml]; exact h
  have e : ms[i]? = some ms[i] := List.getElem?_eq_getElem h2
  rw [e]
  exact d.mo i _ e
theorem go_le {x : Str} {i : Nat} (h : i < x.length) : goA x i ≤ x.length := by
  unfold goA
  split <;> omega
theorem st_le2 {x : Str} {i : Nat} (h : i < x.length) : stA x i ≤ x.length := by
  unfold stA
  split <;> omega
theorem bes_ok {q : Int} {h1 h2 w k : Nat} {m1 m2 : List (List Int)} (q0 : 0 < q) (a : MatOk q h1 w m1) (b : MatOk q h2 k m2) : MatOk q (h1 + h2) (w + k) (besM m1 m2 w k) := by
  refine ⟨?_, fun r hr => ?_⟩
  · unfold besM
    rw [List.length_append, List.length_map, List.length_map, a.h, b.h]
  · unfold besM at hr
    rcases List.mem_append.mp hr with z | z
    · obtain ⟨r0, h0, rfl⟩ := List.mem_map.mp z
      obtain ⟨l0, i0⟩ := a.w r0 h0
      refine ⟨by rw [List.length_append, l0, List.length_replicate], fun e he => ?_⟩
      rcases List.mem_append.mp he with y | y
      · exact i0 e y
      · rw [List.eq_of_mem_replicate y]
        exact ⟨Int.le_refl _, q0⟩
    · obtain ⟨r0, h0, rfl⟩ := List.mem_map.mp z
      obtain ⟨l0, i0⟩ := b.w r0 h0
      refine ⟨by rw [List.length_append, l0, List.length_replicate], fun e he => ?_⟩
      rcases List.mem_append.mp he with y | y
      · rw [List.eq_of_mem_replicate y]
        exact ⟨Int.le_refl _, q0⟩
      · exact i0 e y
theorem sum_draft {x : Str} {q : Int} {m1 m2 : Nat} {ss ts : List Nat} {ms ns : List (List (List Int))} (a : Draft x q m1 ss ms) (b : Draft x q m2 ts ns) (hq : q ∈ primesL) (h : ∀ (i n : Nat), (sumS ss ts)[i]? = some n → n ≤ 6) : Draft x q 6 (sumS ss ts) (besMs x ss ts ms ns) := by
  have q0 : 0 < q := by have := prime_pos hq; omega
  refine ⟨by rw [sumS_len]; exact a.sl, fun s hs => ?_, besMs_len x ss ts ms ns, fun i m hm => ?_⟩
  · obtain ⟨i, hi⟩ := List.getElem?_of_mem hs
    exact h i s hi
  · have hi : i < x.length := by
      have := (List.getElem?_eq_some_iff.mp hm).1
      rw [besMs_len] at this
      exact this
    rw [besMs_at hi] at hm
    cases hm
    have g := go_le hi
    have t := st_le2 hi
    rw [sumS_at (by rw [a.sl]; omega), sumS_at (by rw [a.sl]; omega)]
    exact bes_ok q0 (a.at_ hi) (b.at_ hi)
theorem nat_vals {H : Hp} {xs : List V} {ss : List Nat} (h : AnyL H xs (ss.map natD)) : xs = ss.map fun s => V.int (s : Nat) := by
  have e : ss.map natD = (ss.map fun s => ((s : Nat) : Int)).map PyData.int := by
    rw [List.map_map]
    rfl
  rw [e] at h
  rw [anyL_ints h, List.map_map] <;> rfl
theorem nats_anyL {H : Hp} (ss : List Nat) : AnyL H (ss.map fun s => V.int (s : Nat)) (ss.map natD) := by
  have e : ss.map natD = (ss.map fun s => ((s : Nat) : Int)).map PyData.int := by
    rw [List.map_map]
    rfl
  have e2 : (ss.map fun s => V.int (s : Nat)) = (ss.map fun s => ((s : Nat) : Int)).map V.int := by
    rw [List.map_map]
    rfl
  rw [e, e2]
  exact ints_anyL _
/-- a row that a draft tells -/
abbrev RowOf (C : Addr) (H : Hp) (a : Addr) (x : Str) (q : Int) (ss : List Nat) (ms : List (List (List Int))) : Prop := RowAt C H a x q (ss.map natD) (ms.map fun m => m.map tupI)
structure Good (x : Str) (q : Int) (ss : List Nat) (ms : List (List (List Int))) : Prop where
  d : Draft x q 6 ss ms
  p : Pat x 6
  q : q ∈ primesL
def spAdd (C CU CG : Addr) : Sp := fun vs H Q E => ∃ a b x p ss ms y q ts ns, vs = [.ref a, .ref b] ∧ RowOf C H a x p ss ms ∧ RowOf C H b y q ts ns ∧ Good x p ss ms ∧ Good y q ts ns ∧ (¬(x = y ∧ p = q) → ThrownN CU H E) ∧
  (x = y → p = q → (∀ (i n : Nat) (H1 : Hp), (sumS ss ts)[i]? = some n → 6 < n → (∀ (j m : Nat), j < i → (sumS ss ts)[j]? = some m → m ≤ 6) → Same H H1 → Thrown CG (.int (n : Nat)) H1 E) ∧
    ((∀ (i n : Nat), (sumS ss ts)[i]? = some n → n ≤ 6) → ∀ o H', H o = none → Same H H' → RowOf C H' o x p (sumS ss ts) (besMs x ss ts ms ns) → Q (.ref o) H'))
end Rw

set_option Elab.async false
set_option linter.all false
set_option maxRecDepth 100000
set_option maxHeartbeats 4000000
/-! TkBI: parts of rows: the drafts. -/
namespace Rw
open PySem PySem.Spec PyProof.Rows L2
theorem str_len (x : Str) : x.cps.toList.length = x.length := by
  show x.cps.toList.length = x.cps.size
  exact Array.length_toList
theorem cut_list {x : Str} {i j : Nat} (h : i ≤ j) (hj : j ≤ x.length) : (cutS x (some (i : Nat)) (some (j : Nat))).cps.toList = (x.cps.toList.drop i).take (j - i) := by
  show (((x.cps.toList.drop (HT.sIx x.length 0 (some ((i : Nat) : Int)))).take (HT.sIx x.length x.length (some ((j : Nat) : Int)) - HT.sIx x.length 0 (some ((i : Nat) : Int)))).toArray).toList = _
  rw [HT.sIx_nat, HT.sIx_nat, Nat.min_eq_left hj, Nat.min_eq_left (show i ≤ x.length by omega)]
theorem cut_len {x : Str} {i j : Nat} (h : i ≤ j) (hj : j ≤ x.length) : (cutS x (some (i : Nat)) (some (j : Nat))).length = j - i := by
  rw [← str_len, cut_list h hj, List.length_take, List.length_drop, str_len]
  omega
theorem cut_isR {x : Str} {i j k : Nat} (h : i ≤ j) (hj : j ≤ x.length) (hk : k < j - i) : isR (cutS x (some (i : Nat)) (some (j : Nat))) k = isR x (i + k) := by
  unfold isR
  rw [cut_list h hj, List.getElem?_take, if_pos hk, List.getElem?_drop]
theorem cut_st {x : Str} {i j k : Nat} (h : i ≤ j) (hj : j ≤ x.length) (hk : k < j - i) : i + stA (cutS x (some (i : Nat)) (some (j : Nat))) k = stA x (i + k) := by
  unfold stA
  rw [cut_isR h hj hk]
  split <;> omega
theorem cut_go {x : Str} {i j k : Nat} (h : i ≤ j) (hj : j ≤ x.length) (hk : k < j - i) : i + goA (cutS x (some (i : Nat)) (some (j : Nat))) k = goA x (i + k) := by
  unfold goA
  rw [cut_isR h hj hk]
  split <;> omega
theorem cut_pat {x : Str} {m i j : Nat} (p : Pat x m) (h : i ≤ j) (hj : j ≤ x.length) : Pat (cutS x (some (i : Nat)) (some (j : Nat))) m := by
  refine ⟨by rw [cut_len h hj]; have := p.l; omega, ?_⟩
  rw [cut_list h hj]
  refine List.all_eq_true.mpr fun c hc => ?_
  exact List.all_eq_true.mp p.a c (List.mem_of_mem_drop (List.mem_of_mem_take hc))
theorem get_cut {α : Type} {l : List α} {i n k : Nat} (h : k < n) : ((l.drop i).take n)[k]? = l[i + k]? := by
  rw [List.getElem?_take, if_pos h, List.getElem?_drop]
theorem part_draft {x : Str} {q : Int} {most : Nat} {ss : List Nat} {ms : List (List (List Int))} {i j : Nat} (d : Draft x q most ss ms) (h : i ≤ j) (hj : j ≤ x.length) : Draft (cutS x (some (i : Nat)) (some (j : Nat))) q most ((ss.drop i).take (j + 1 - i)) ((ms.drop i).take (j - i)) := by
  have l1 := d.sl
  have l2 := d.ml
  refine ⟨by rw [List.length_take, List.length_drop, cut_len h hj]; omega, fun s hs => d.sb s (List.mem_of_mem_drop (List.mem_of_mem_take hs)), by rw [List.length_take, List.length_drop, cut_len h hj]; omega, fun k m hm => ?_⟩
  have hk : k < j - i := by
    have := (List.getElem?_eq_some_iff.mp hm).1
    rw [List.length_take] at this
    omega
  rw [get_cut hk] at hm
  have ok := d.mo (i + k) m hm
  have s1 := cut_st h hj hk
  have g1 := cut_go h hj hk
  have s2 : stA (cutS x (some (i : Nat)) (some (j : Nat))) k ≤ k + 1 := stA_le _ _
  have g2 : goA (cutS x (some (i : Nat)) (some (j : Nat))) k ≤ k + 1 := goA_le _ _
  rw [get_cut (by omega), get_cut (by omega), s1, g1]
  exact ok
/-- a row's data as tuples -/
def tupM (m : List (List Int)) : PyData := .tuple (m.map tupI)
theorem mat_isT {q : Int} {h w : Nat} {m : List (List Int)} (k : MatOk q h w m) : isMatD (h : Nat) (w : Nat) (tupM m) = true := by
  have e := mat_is k
  unfold isMatD at e ⊢
  rw [Bool.and_eq_true] at e ⊢
  exact ⟨rfl, e.2⟩
theorem draft_goodT {x : Str} {q : Int} {most : Nat} {ss : List Nat} {ms : List (List (List Int))} (d : Draft x q most ss ms) (px : Pat x 6) (hq : q ∈ primesL) (m6 : most ≤ 6) : rowGood x q (.tuple (ss.map natD)) (.tuple (ms.map tupM)) = true := by
  have g := good_parts (draft_good d px hq m6)
  obtain ⟨g1, g2, g3, g4, g5⟩ := g
  unfold rowGood
  rw [g1, g2]
  have e3 : sizesOk x.length (.tuple (ss.map natD)) = true := by
    unfold sizesOk at g3 ⊢
    rw [Bool.and_eq_true] at g3 ⊢
    exact ⟨rfl, g3.2⟩
  have e4 : mapsOk x.length (.tuple (ms.map tupM)) = true := by
    unfold mapsOk
    rw [Bool.and_eq_true]
    exact ⟨rfl, decide_eq_true (by show (ms.map tupM).length = _; rw [List.length_map, d.ml])⟩
  have e5 : badAt x (.tuple (ss.map natD)) (.tuple (ms.map tupM)) = none := bad_none fun k hk => by
    have hk2 : k < ms.length := by rw [d.ml]; exact hk
    have h1 : ms[k]? = some ms[k] := List.getElem?_eq_getElem hk2
    have h2 : atD (.tuple (ms.map tupM)) k = tupM ms[k] := atD_get (by
      show (ms.map tupM)[k]? = _
      rw [List.getElem?_map, h1] <;> rfl)
    unfold matOk
    have n1 : ∀ u, szL (.tuple (ss.map natD)) u = szL (.list (ss.map natD)) u := fun u => rfl
    rw [h2, n1, n1, nats_sz, nats_sz]
    exact mat_isT (d.mo k _ h1)
  rw [e3, e4, e5] <;> rfl
theorem draft_rowsT {x : Str} {q : Int} {most : Nat} {ss : List Nat} {ms : List (List (List Int))} (d : Draft x q most ss ms) : (itemsD (.tuple (ms.map tupM))).map (rowsM q) = ms.map fun m => m.map tupI := by
  have e := draft_rows d
  rw [← e]
  show (ms.map tupM).map (rowsM q) = (ms.map sheetD).map (rowsM q)
  rw [List.map_map, List.map_map]
  rfl
theorem draft_fitT {x : Str} {q : Int} {most : Nat} {ss : List Nat} {ms : List (List (List Int))} (d : Draft x q most ss ms) (px : Pat x 6) (hq : q ∈ primesL) (m6 : most ≤ 6) : FitM (.tuple (ms.map tupM)) := by
  have f := draft_fitM d px hq m6
  refine ⟨by show (ms.map tupM).length ≤ _; rw [List.length_map, d.ml]; have := px.l; omega, fun e he => ?_⟩
  obtain ⟨m, hm, rfl⟩ := List.mem_map.mp he
  have g := f.sub (sheetD m) (List.mem_map_of_mem hm)
  exact ⟨⟨g.top.len, g.top.sm⟩, g.sub⟩
def spPart (C CL : Addr) : Sp := fun vs H Q E => ∃ a x p ss ms v1 v2 d1 d2, vs = [.ref a, v1, v2] ∧ RowOf C H a x p ss ms ∧ Good x p ss ms ∧ Any H v1 d1 ∧ Any H v2 d2 ∧
  (inB d1 (.int 0) (.int (x.length : Nat)) = false → Thrown CL v1 H E) ∧ (inB d1 (.int 0) (.int (x.length : Nat)) = true → inB d2 d1 (.int (x.length : Nat)) = false → Thrown CL v2 H E) ∧
  (∀ i j : Nat, d1 = .int (i : Nat) → d2 = .int (j : Nat) → i ≤ j → j ≤ x.length → ∀ o H', H o = none → Same H H' → RowOf C H' o (cutS x (some (i : Nat)) (some (j : Nat))) p ((ss.drop i).take (j + 1 - i)) ((ms.drop i).take (j - i)) → Q (.ref o) H')
/-- a slice of a tuple -/
theorem cut_tup {K : PySem.W.Frag} {H : Hp} {a : Addr} {xs : List V} {i j : Nat} {Q : VK} (h : H a = some (.tup xs)) (hi : i ≤ j) (hj : j ≤ xs.length) (q : ∀ p H', Same H H' → H' p = some (.tup ((xs.drop i).take (j - i))) → Q (.ref p) H') : rSlA K (.ref a) (some (i : Nat)) (some (j : Nat)) H Q := by
  have e1 : HT.sIx xs.length 0 (some ((i : Nat) : Int)) = i := by rw [HT.sIx_nat, Nat.min_eq_left (by omega)]
  have e2 : HT.sIx xs.length xs.length (some ((j : Nat) : Int)) = j := by rw [HT.sIx_nat, Nat.min_eq_left hj]
  refine ⟨a, xs, rfl, SqT.of h, fun e => q a H (Same.refl _) ?_, fun _ p hp => q p _ (same_new hp) ?_⟩
  · rw [e1, e2] at e
    obtain ⟨z1, z2⟩ := e
    rw [h, z1, z2]
    simp
  · rw [upd_same]
    unfold cutV
    rw [e1, e2]
theorem anyL_cut {H : Hp} : ∀ {xs : List V} {ds : List PyData}, AnyL H xs ds → ∀ (i n : Nat), AnyL H ((xs.drop i).take n) ((ds.drop i).take n)
  | _, _, .nil, i, n => by simp; exact .nil
  | _, _, .cons a r, 0, 0 => .nil
  | _, _, .cons a r, 0, n + 1 => .cons a (by have := anyL_cut r 0 n; simpa using this)
  | _, _, .cons a r, i + 1, n => anyL_cut r i n
theorem inB_nat {d : PyData} {lo hi : Nat} (h : inB d (.int (lo : Nat)) (.int (hi : Nat)) = true) : ∃ n : Nat, d = .int (n : Nat) ∧ lo ≤ n ∧ n ≤ hi := by
  cases d with
  | int n =>
    have h2 : (decide (((lo : Nat) : Int) ≤ n) && decide (n ≤ ((hi : Nat) : Int))) = true := h
    simp only [Bool.and_eq_true, decide_eq_true_eq] at h2
    exact ⟨n.toNat, by congr 1; omega, by omega, by omega⟩
  | _ => cases h
end Rw

set_option Elab.async false
set_option linter.all false
set_option maxRecDepth 100000
set_option maxHeartbeats 4000000
/-! TkBJ: what the law wishes of rows beside one another and of parts. -/
namespace Rw
open PySem PySem.Spec PyProof.Rows L2
def partD (x : Str) (q : Int) (ss : List Nat) (ms : List (List (List Int))) (d1 d2 : PyData) : PyData :=
  if inB d1 (.int 0) (.int (x.length : Nat)) = true then (if inB d2 d1 (.int (x.length : Nat)) = true then
    wD "told" (draftD (cutS x (some (intN d1)) (some (intN d2))) q ((ss.drop (intN d1).toNat).take ((intN d2).toNat + 1 - (intN d1).toNat)) ((ms.drop (intN d1).toNat).take ((intN d2).toNat - (intN d1).toNat))) else wD "place" d2) else wD "place" d1
def besD (x : Str) (p : Int) (ss : List Nat) (ms : List (List (List Int))) (y : Str) (q : Int) (ts : List Nat) (ns : List (List (List Int))) : PyData :=
  if x = y ∧ p = q then (match (sumS ss ts).find? (fun n => decide (6 < n)) with | some n => wD "large" (natD n) | none => wD "told" (draftD x p (sumS ss ts) (besMs x ss ts ms ns))) else .list [.str "unlike"]
def spShown (C : Addr) : Sp := fun vs H Q _ => ∃ a x q ss ms, vs = [.ref a] ∧ RowOf C H a x q ss ms ∧ ms.length ≤ 1000 ∧ ∀ l H', H l = none → Same H H' → Any H' (.ref l) (draftD x q ss ms) → Q (.ref l) H'
def spPartL : Sp := fun vs H Q _ => ∃ v v1 v2 d1 d2 x q ss ms, vs = [v, v1, v2] ∧ Any H v (draftD x q ss ms) ∧ Good x q ss ms ∧ Any H v1 d1 ∧ Any H v2 d2 ∧ ∀ l H', Same H H' → Any H' (.ref l) (partD x q ss ms d1 d2) → Q (.ref l) H'
def spCut (C : Addr) : Sp := fun vs H Q _ => ∃ a v1 v2 d1 d2 x q ss ms, vs = [.ref a, v1, v2] ∧ RowOf C H a x q ss ms ∧ Good x q ss ms ∧ Any H v1 d1 ∧ Any H v2 d2 ∧ ∀ l H', Same H H' → Any H' (.ref l) (partD x q ss ms d1 d2) → Q (.ref l) H'
def spBesL : Sp := fun vs H Q _ => ∃ v1 v2 x p ss ms y q ts ns, vs = [v1, v2] ∧ Any H v1 (draftD x p ss ms) ∧ Any H v2 (draftD y q ts ns) ∧ Good x p ss ms ∧ Good y q ts ns ∧ ∀ l H', Same H H' → Any H' (.ref l) (besD x p ss ms y q ts ns) → Q (.ref l) H'
def spBesC (C : Addr) : Sp := fun vs H Q _ => ∃ a b x p ss ms y q ts ns, vs = [.ref a, .ref b] ∧ RowOf C H a x p ss ms ∧ RowOf C H b y q ts ns ∧ Good x p ss ms ∧ Good y q ts ns ∧ ∀ l H', Same H H' → Any H' (.ref l) (besD x p ss ms y q ts ns) → Q (.ref l) H'
section
variable {X : Cx} {C : Addr} {m : Str} {k : Nat} {sp : Sp} {o : Expr} {ta : TE} {apos pos : Pos}
theorem pe_mth0 (A : Meth0At X.prog X.w X.K X.mg X.base C m k sp) (hr : Room k X.A) (he : PE X o ta) {pl : Sem Bool}
    (ht : eval (.Call (.Attribute o m apos) [] [] pos) X.env = (do
      let ov ← eval o X.env
      standAt apos.atName
      let (f, first) ← holding [ov] (getMethod ov m pl)
      callWith pos f first (backTo pos (starEach [] X.env)) (backToKw pos (keywordEach [] X.env))) := by rfl) : PE X (.Call (.Attribute o m apos) [] [] pos) (tMeth C m sp [] E0 ta tNil) := by
  obtain ⟨f, fd, hm, F, hb⟩ := A.has
  exact pe_meth0 he A.cl hm F hr hb .nil pass0 ht
end
theorem inB_no {d l h : PyData} (e : isIntD d = false) : inB d l h = false := by
  cases d with
  | int n => cases e
  | _ => rfl
theorem find_low {l : List Nat} {i n : Nat} (h : l[i]? = some n) (hn : 6 < n) (lo : ∀ (j m : Nat), j < i → l[j]? = some m → m ≤ 6) : l.find? (fun n => decide (6 < n)) = some n := by
  induction l generalizing i with
  | nil => cases h
  | cons a l ih =>
    cases i with
    | zero =>
      have e : a = n := by simpa using h
      subst e
      rw [List.find?_cons, decide_eq_true hn]
    | succ i =>
      have a6 := lo 0 a (Nat.succ_pos _) rfl
      rw [List.find?_cons, decide_eq_false (by omega)]
      exact ih (by simpa using h) fun j m hj hm => lo (j + 1) m (by omega) (by simpa using hm)
theorem find_none {l : List Nat} (h : ∀ (i n : Nat), l[i]? = some n → n ≤ 6) : l.find? (fun n => decide (6 < n)) = none := by
  rw [List.find?_eq_none]
  intro n hn
  obtain ⟨i, hi⟩ := List.getElem?_of_mem hn
  have := h i n hi
  simp
  omega
end Rw

set_option Elab.async false
set_option linter.all false
set_option maxRecDepth 100000
set_option maxHeartbeats 4000000
/-! TkO: sheets under way. -/
namespace Rw
open PySem PySem.Spec PyProof.Rows L2
/-- the rows of a new sheet: new lists of small ints, each another -/
structure RowsOk (H0 H : Hp) (A : Addr) (xs : List V) (rs : List (List Int)) : Prop where
  len : xs.length = rs.length
  row : ∀ (i : Nat) (r : List Int), rs[i]? = some r → ∃ b : Addr, xs[i]? = some (.ref b) ∧ H b = some (.lst (r.map V.int)) ∧ H0 b = none ∧ b ≠ A
  inj : ∀ (i j : Nat) (b : Addr), xs[i]? = some (.ref b) → xs[j]? = some (.ref b) → i = j
  wide : ∀ r, r ∈ rs → r.length ≤ 4 ∧ ∀ n, n ∈ r → n.natAbs ≤ 100
/-- a new list at A with new rows of any kind -/
structure Gen (H Hn : Hp) (p A : Addr) (c : Nat) : Prop where
  g : Grow p H Hn
  bx : Bx Hn p c
  new : H A = none
  ex : ∃ xs ds, Hn A = some (.lst xs) ∧ AnyL (del (nw H Hn) A) xs ds ∧ ds.length ≤ 5 ∧ ∀ d, d ∈ ds → RowT d
structure Shp (H Hn : Hp) (p A : Addr) (c hi wi : Nat) : Prop where
  g : Grow p H Hn
  bx : Bx Hn p c
  new : H A = none
  ex : ∃ xs rs, Hn A = some (.lst xs) ∧ RowsOk H Hn A xs rs ∧ rs.length = hi ∧ hi ≤ 4 ∧ ∀ r, r ∈ rs → r.length = wi
theorem anyL_all {H : Hp} : ∀ {xs : List V} {ds : List PyData}, xs.length = ds.length → (∀ (i : Nat) (x : V) (d : PyData), xs[i]? = some x → ds[i]? = some d → Any H x d) → AnyL H xs ds
  | [], [], _, _ => .nil
  | x :: xs, d :: ds, l, h => .cons (h 0 x d rfl rfl) (anyL_all (by simpa using l) fun i x d e1 e2 => h (i + 1) x d (by simpa using e1) (by simpa using e2))
theorem nw_at {H Hn : Hp} {b : Addr} {o : HO} (h0 : H b = none) (h : Hn b = some o) : nw H Hn b = some o := by
  show (if H b = none then Hn b else none) = _
  rw [if_pos h0]
  exact h
theorem ints_row {H : Hp} {b : Addr} {r : List Int} (h : H b = some (.lst (r.map V.int))) : Any H (.ref b) (.list (r.map .int)) := .lst h (ints_anyL r)
theorem row_ints {r : List Int} (h : r.length ≤ 4 ∧ ∀ n, n ∈ r → n.natAbs ≤ 100) : RowT (.list (r.map .int)) := row_list (by rw [List.length_map]; omega) (by
  intro d hd
  obtain ⟨n, hn, rfl⟩ := List.mem_map.mp hd
  exact cell_int (Nat.lt_of_le_of_lt (h.2 n hn) (by decide)))
theorem Shp.gen {H Hn : Hp} {p A : Addr} {c hi wi : Nat} (s : Shp H Hn p A c hi wi) : Gen H Hn p A c := by
  obtain ⟨xs, rs, ha, ok, l1, l2, l3⟩ := s.ex
  refine ⟨s.g, s.bx, s.new, xs, rs.map (fun r => .list (r.map .int)), ha, ?_, by rw [List.length_map]; omega, ?_⟩
  · refine anyL_all (by rw [List.length_map]; exact ok.len) fun i x d e1 e2 => ?_
    rw [List.getElem?_map] at e2
    cases e3 : rs[i]? with
    | none => rw [e3] at e2; cases e2
    | some r =>
      rw [e3] at e2
      cases e2
      obtain ⟨b, h1, h2, h3, h4⟩ := ok.row i r e3
      rw [e1] at h1
      cases h1
      refine ints_row ?_
      rw [del_ne h4]
      exact nw_at h3 h2
  · intro d hd
    obtain ⟨r, hr, rfl⟩ := List.mem_map.mp hd
    exact row_ints (ok.wide r hr)
theorem Gen.more {H Hn : Hp} {p A : Addr} {c e : Nat} (s : Gen H Hn p A c) (l : c ≤ e) : Gen H Hn p A e := ⟨s.g, s.bx.more l, s.new, s.ex⟩
theorem Gen.pA {H Hn : Hp} {p A : Addr} {c n : Nat} (s : Gen H Hn p A c) (b : Bx H p n) : p ≠ A := b.ne s.new
/-- only the box has turned, and new things have come -/
theorem Gen.grow {H Hn H2 : Hp} {p A : Addr} {c e n : Nat} (s : Gen H Hn p A c) (b0 : Bx H p n) (k : Grow p Hn H2) (b : Bx H2 p e) : Gen H H2 p A e := by
  obtain ⟨xs, ds, ha, al, l, r⟩ := s.ex
  obtain ⟨_, _, _, hp, _⟩ := id b0
  refine ⟨s.g.trans k, b, s.new, xs, ds, k _ _ (b0.ne s.new).symm ha, anyL_keep ?_ al, l, r⟩
  exact Grow.del (Grow.of (nw_grow hp k))
theorem Shp.grow {H Hn H2 : Hp} {p A : Addr} {c e n hi wi : Nat} (s : Shp H Hn p A c hi wi) (b0 : Bx H p n) (k : Grow p Hn H2) (b : Bx H2 p e) : Shp H H2 p A e hi wi := by
  obtain ⟨xs, rs, ha, ok, l1, l2, l3⟩ := s.ex
  refine ⟨s.g.trans k, b, s.new, xs, rs, k _ _ (b0.ne s.new).symm ha, ⟨ok.len, fun i r e => ?_, ok.inj, ok.wide⟩, l1, l2, l3⟩
  obtain ⟨q, h1, h2, h3, h4⟩ := ok.row i r e
  exact ⟨q, h1, k _ _ (b0.ne h3).symm h2, h3, h4⟩
/-- new in the later is new in the whole -/
theorem nw_from {H Hn H2 : Hp} {p : Addr} {n : Nat} (b0 : Bx Hn p n) (g : Grow p H Hn) : Same (nw Hn H2) (nw H H2) := fun b o e => by
  have e' : (if Hn b = none then H2 b else none) = some o := e
  by_cases z : Hn b = none
  · rw [if_pos z] at e'
    refine nw_at ?_ e'
    cases y : H b with
    | none => rfl
    | some u =>
      by_cases w : b = p
      · obtain ⟨_, _, _, hp, _⟩ := b0
        rw [w, hp] at z
        cases z
      · rw [g _ _ w y] at z
        cases z
  · rw [if_neg z] at e'
    cases e'
theorem anyL_set {H : Hp} : ∀ {xs : List V} {ds : List PyData} {j : Nat} {v : V} {d : PyData}, AnyL H xs ds → Any H v d → AnyL H (xs.set j v) (ds.set j d)
  | _, _, _, _, _, .nil, _ => .nil
  | _, _, 0, _, _, .cons _ r, a => .cons a r
  | _, _, j + 1, _, _, .cons b r, a => .cons b (anyL_set r a)
theorem mem_set {α : Type} {ds : List α} {j : Nat} {d e : α} (h : e ∈ ds.set j d) : e = d ∨ e ∈ ds := by
  rcases List.mem_or_eq_of_mem_set h with z | z
  · exact .inr z
  · exact .inl z
/-- an item of the list at A is set to a thing that is new since -/
theorem Gen.put {H Hn H2 : Hp} {p A : Addr} {c e n : Nat} (s : Gen H Hn p A c) (b0 : Bx H p n) (k : Grow p Hn H2) (b : Bx H2 p e) {v : V} {d : PyData} (a : Any (nw Hn H2) v d) (r : RowT d) :
    ∃ xs, H2 A = some (.lst xs) ∧ ∀ j, Gen H (upd H2 A (.lst (xs.set j v))) p A e := by
  obtain ⟨xs, ds, ha, al, l, rr⟩ := s.ex
  have pA := b0.ne s.new
  refine ⟨xs, k _ _ pA.symm ha, fun j => ?_⟩
  have new := s.new
  obtain ⟨x1, x2, x3, hp, _⟩ := id b0
  have s2 : Same (del (nw H Hn) A) (del (nw H (upd H2 A (.lst (xs.set j v)))) A) := fun q o eo => by
    by_cases y : q = A
    · rw [y, del_same] at eo
      cases eo
    · rw [del_ne y] at eo ⊢
      have e2 := nw_grow hp k _ _ eo
      have e3 : H q = none := by
        cases w : H q with
        | none => rfl
        | some u =>
          have e4 : (if H q = none then Hn q else none) = some o := eo
          rw [if_neg (by rw [w]; exact fun z => by cases z)] at e4
          cases e4
      refine nw_at e3 ?_
      rw [upd_ne y]
      have e5 : (if H q = none then H2 q else none) = some o := e2
      rw [if_pos e3] at e5
      exact e5
  have s3 : Same (nw Hn H2) (del (nw H (upd H2 A (.lst (xs.set j v)))) A) := fun q o eo => by
    have y : q ≠ A := fun y => by
      have e4 : (if Hn q = none then H2 q else none) = some o := eo
      rw [if_neg (by rw [y, ha]; exact fun z => by cases z)] at e4
      cases e4
    have e1 := nw_from s.bx s.g _ _ eo
    rw [del_ne y]
    have e3 : H q = none := by
      cases w : H q with
      | none => rfl
      | some u =>
        have e4 : (if H q = none then H2 q else none) = some o := e1
        rw [if_neg (by rw [w]; exact fun z => by cases z)] at e4
        cases e4
    refine nw_at e3 ?_
    rw [upd_ne y]
    have e5 : (if H q = none then H2 q else none) = some o := e1
    rw [if_pos e3] at e5
    exact e5
  refine ⟨?_, ?_, new, xs.set j v, ds.set j d, upd_same, anyL_set (anyL_keep s2 al) (a.keep s3), by rw [List.length_set]; exact l, fun d' hd => ?_⟩
  · intro q o ne eo
    rw [upd_ne (ne_of_none eo new)]
    exact (s.g.trans k) q o ne eo
  · obtain ⟨a1, a2, a3, h1, rest⟩ := b
    exact ⟨a1, a2, a3, by rw [upd_ne pA]; exact h1, rest⟩
  · rcases mem_set hd with z | z
    · rw [z]; exact r
    · exact rr d' z
/-- a new row behind the others -/
theorem Gen.snoc {H Hn H2 : Hp} {p A : Addr} {c e n : Nat} (s : Gen H Hn p A c) (b0 : Bx H p n) (k : Grow p Hn H2) (b : Bx H2 p e) {q : Addr} {r : List Int} (hq : Hn q = none) (h2 : H2 q = some (.lst (r.map V.int))) (rr : RowT (.list (r.map .int))) (few : ∀ xs, H2 A = some (.lst xs) → xs.length ≤ 4) :
    ∃ xs, H2 A = some (.lst xs) ∧ Gen H (upd H2 A (.lst (xs ++ [.ref q]))) p A e := by
  obtain ⟨xs, ds, ha, al, l, r0⟩ := s.ex
  have pA := b0.ne s.new
  have ha2 := k _ _ pA.symm ha
  have l4 := few xs ha2
  have ln := anyL_len al
  obtain ⟨x1, x2, x3, hp, _⟩ := id b0
  have new := s.new
  have q0 : H q = none := by
    cases y : H q with
    | none => rfl
    | some u =>
      obtain ⟨y1, y2, y3, hp2, _⟩ := s.bx
      by_cases w : q = p
      · rw [w, hp2] at hq
        cases hq
      · rw [s.g _ _ w y] at hq
        cases hq
  have qA : q ≠ A := fun y => by rw [y, ha] at hq; cases hq
  have s2 : Same (del (nw H Hn) A) (del (nw H (upd H2 A (.lst (xs ++ [.ref q])))) A) := fun z o eo => by
    by_cases y : z = A
    · rw [y, del_same] at eo
      cases eo
    · rw [del_ne y] at eo ⊢
      have e3 : H z = none := by
        cases w : H z with
        | none => rfl
        | some u =>
          have e4 : (if H z = none then Hn z else none) = some o := eo
          rw [if_neg (by rw [w]; exact fun z => by cases z)] at e4
          cases e4
      have e2 := nw_grow hp k _ _ eo
      refine nw_at e3 ?_
      rw [upd_ne y]
      have e5 : (if H z = none then H2 z else none) = some o := e2
      rw [if_pos e3] at e5
      exact e5
  refine ⟨xs, ha2, ?_, ?_, new, xs ++ [.ref q], ds ++ [.list (r.map .int)], upd_same, anyL_snoc (anyL_keep s2 al) (ints_row ?_), by rw [List.length_append, List.length_singleton]; omega, fun d hd => ?_⟩
  · intro z o ne eo
    rw [upd_ne (ne_of_none eo new)]
    exact (s.g.trans k) z o ne eo
  · obtain ⟨a1, a2, a3, h1, rest⟩ := b
    exact ⟨a1, a2, a3, by rw [upd_ne pA]; exact h1, rest⟩
  · rw [del_ne qA]
    refine nw_at q0 ?_
    rw [upd_ne qA]
    exact h2
  · rcases List.mem_append.mp hd with z | z
    · exact r0 d z
    · rw [List.mem_singleton.mp z]
      exact rr
/-- an item of a row is set to a thing that is new since -/
theorem Shp.cell {H Hn H2 : Hp} {p A : Addr} {c e n hi wi : Nat} (s : Shp H Hn p A c hi wi) (b0 : Bx H p n) (k : Grow p Hn H2) (b : Bx H2 p e) {v : V} {d : PyData} (a : Any (nw Hn H2) v d) (cd : Cell d) {i : Nat} (hi2 : i < hi) :
    ∃ (xs : List V) (q : Addr) (r : List Int), H2 A = some (.lst xs) ∧ xs[i]? = some (.ref q) ∧ H2 q = some (.lst (r.map V.int)) ∧ r.length = wi ∧ ∀ j, Gen H (upd H2 q (.lst ((r.map V.int).set j v))) p A e := by
  obtain ⟨xs, rs, ha, ok, l1, l2, l3⟩ := s.ex
  have hlt : i < rs.length := by omega
  obtain ⟨q, h1, h2, h3, h4⟩ := ok.row i rs[i] (List.getElem?_eq_getElem hlt)
  have hm : rs[i] ∈ rs := List.getElem_mem hlt
  have pA := b0.ne s.new
  have pq := b0.ne h3
  have new := s.new
  obtain ⟨x1, x2, x3, hp, _⟩ := id b0
  have ha2 := k _ _ pA.symm ha
  refine ⟨xs, q, rs[i], ha2, h1, k _ _ pq.symm h2, l3 _ hm, fun j => ?_⟩
  have s3 : Same (nw Hn H2) (del (nw H (upd H2 q (.lst ((rs[i].map V.int).set j v)))) A) := fun z o eo => by
    have off : ∀ {w : Addr} {u : HO}, Hn w = some u → z ≠ w := fun e y => by
      have e4 : (if Hn z = none then H2 z else none) = some o := eo
      rw [if_neg (by rw [y, e]; exact fun z => by cases z)] at e4
      cases e4
    have e1 := nw_from s.bx s.g _ _ eo
    rw [del_ne (off ha)]
    have e3 : H z = none := by
      cases w : H z with
      | none => rfl
      | some u =>
        have e4 : (if H z = none then H2 z else none) = some o := e1
        rw [if_neg (by rw [w]; exact fun z => by cases z)] at e4
        cases e4
    refine nw_at e3 ?_
    rw [upd_ne (off h2)]
    have e5 : (if H z = none then H2 z else none) = some o := e1
    rw [if_pos e3] at e5
    exact e5
  have inner : AnyL (del (nw H (upd H2 q (.lst ((rs[i].map V.int).set j v)))) A) ((rs[i].map V.int).set j v) ((rs[i].map PyData.int).set j d) := anyL_set (ints_anyL _) (a.keep s3)
  refine ⟨?_, ?_, new, xs, (rs.map (fun r => PyData.list (r.map .int))).set i (.list ((rs[i].map PyData.int).set j d)), ?_, ?_, by rw [List.length_set, List.length_map]; omega, fun e' he => ?_⟩
  · intro z o ne eo
    rw [upd_ne (ne_of_none eo h3)]
    exact (s.g.trans k) z o ne eo
  · obtain ⟨a1, a2, a3, h1, rest⟩ := b
    exact ⟨a1, a2, a3, by rw [upd_ne pq]; exact h1, rest⟩
  · rw [upd_ne h4.symm]
    exact ha2
  · refine anyL_all (by rw [List.length_set, List.length_map]; exact ok.len) fun t x dd e1 e2 => ?_
    by_cases y : t = i
    · subst y
      rw [h1] at e1
      cases e1
      rw [List.getElem?_set_self (by rw [List.length_map]; exact hlt)] at e2
      cases e2
      refine .lst ?_ inner
      rw [del_ne h4]
      refine nw_at h3 ?_
      exact upd_same
    · rw [List.getElem?_set_ne (fun z => y z.symm), List.getElem?_map] at e2
      cases e3 : rs[t]? with
      | none => rw [e3] at e2; cases e2
      | some r =>
        rw [e3] at e2
        cases e2
        obtain ⟨w, g1, g2, g3, g4⟩ := ok.row t r e3
        rw [e1] at g1
        cases g1
        refine ints_row ?_
        rw [del_ne g4]
        refine nw_at g3 ?_
        have wq : w ≠ q := fun z => y (ok.inj t i w e1 (by rw [z]; exact h1))
        rw [upd_ne wq]
        exact k _ _ (b0.ne g3).symm g2
  · rcases mem_set he with z | z
    · rw [z]
      have wide := ok.wide _ hm
      refine row_list (by rw [List.length_set, List.length_map]; omega) fun x hx => ?_
      rcases mem_set hx with y | y
      · rw [y]; exact cd
      · obtain ⟨n, hn, rfl⟩ := List.mem_map.mp y
        exact cell_int (Nat.lt_of_le_of_lt (wide.2 n hn) (by decide))
    · obtain ⟨r, hr, rfl⟩ := List.mem_map.mp z
      exact row_ints (ok.wide r hr)
theorem anyL_drop {H : Hp} : ∀ {xs : List V} {ds : List PyData} (j : Nat), AnyL H xs ds → AnyL H (xs.drop j) (ds.drop j)
  | _, _, 0, h => h
  | _, _, _ + 1, .nil => .nil
  | _, _, j + 1, .cons _ r => anyL_drop j r
theorem anyL_take {H : Hp} : ∀ {xs : List V} {ds : List PyData} (j : Nat), AnyL H xs ds → AnyL H (xs.take j) (ds.take j)
  | _, _, 0, _ => .nil
  | _, _, _ + 1, .nil => .nil
  | _, _, j + 1, .cons a r => .cons a (anyL_take j r)
/-- one row more -/
theorem Shp.snoc {H Hn H2 : Hp} {p A : Addr} {c e n i wi : Nat} (s : Shp H Hn p A c i wi) (b0 : Bx H p n) (k : Grow p Hn H2) (b : Bx H2 p e) {q : Addr} {r : List Int} (hq : Hn q = none) (h2 : H2 q = some (.lst (r.map V.int))) (rl : r.length = wi) (w4 : wi ≤ 4) (sm : ∀ n, n ∈ r → n.natAbs ≤ 100) (l4 : i + 1 ≤ 4) :
    ∃ xs, H2 A = some (.lst xs) ∧ xs.length = i ∧ Shp H (upd H2 A (.lst (xs ++ [.ref q]))) p A e (i + 1) wi := by
  obtain ⟨xs, rs, ha, ok, l1, l2, l3⟩ := s.ex
  have pA := b0.ne s.new
  have ha2 := k _ _ pA.symm ha
  have new := s.new
  have qA : q ≠ A := fun y => by rw [y, ha] at hq; cases hq
  have q0 : H q = none := by
    cases y : H q with
    | none => rfl
    | some u =>
      obtain ⟨y1, y2, y3, hp2, _⟩ := s.bx
      by_cases w : q = p
      · rw [w, hp2] at hq
        cases hq
      · rw [s.g _ _ w y] at hq
        cases hq
  have ln := ok.len
  have in_old : ∀ (t : Nat) (z : Addr), (xs ++ [V.ref q])[t]? = some (.ref z) → (xs[t]? = some (.ref z) ∧ z ≠ q) ∨ (t = xs.length ∧ z = q) := by
    intro t z e1
    by_cases y : t < xs.length
    · rw [List.getElem?_append_left y] at e1
      refine .inl ⟨e1, fun zq => ?_⟩
      have y2 : t < rs.length := by omega
      obtain ⟨w, g1, g2, g3, g4⟩ := ok.row t rs[t] (List.getElem?_eq_getElem y2)
      rw [e1] at g1
      cases g1
      rw [zq, hq] at g2
      cases g2
    · rw [List.getElem?_append_right (by omega)] at e1
      have e3 : t - xs.length = 0 := by
        cases y3 : t - xs.length with
        | zero => rfl
        | succ m => rw [y3] at e1; simp at e1
      rw [e3] at e1
      refine .inr ⟨by omega, ?_⟩
      have e4 : V.ref q = V.ref z := Option.some.inj e1
      injection e4 with e5
      exact e5.symm
  refine ⟨xs, ha2, by omega, ?_, ?_, new, xs ++ [.ref q], rs ++ [r], upd_same, ⟨by rw [List.length_append, List.length_append, ln] <;> rfl, ?_, ?_, ?_⟩, by rw [List.length_append, l1] <;> rfl, l4, ?_⟩
  · intro z o ne eo
    rw [upd_ne (ne_of_none eo new)]
    exact (s.g.trans k) z o ne eo
  · obtain ⟨a1, a2, a3, h1, rest⟩ := b
    exact ⟨a1, a2, a3, by rw [upd_ne pA]; exact h1, rest⟩
  · intro t r' e1
    by_cases y : t < rs.length
    · rw [List.getElem?_append_left y] at e1
      obtain ⟨w, g1, g2, g3, g4⟩ := ok.row t r' e1
      refine ⟨w, by rw [List.getElem?_append_left (by omega)]; exact g1, ?_, g3, g4⟩
      rw [upd_ne g4]
      exact k _ _ (b0.ne g3).symm g2
    · rw [List.getElem?_append_right (by omega)] at e1
      have e3 : t - rs.length = 0 := by
        cases y3 : t - rs.length with
        | zero => rfl
        | succ m => rw [y3] at e1; simp at e1
      rw [e3] at e1
      have e4 : r = r' := Option.some.inj e1
      subst e4
      have e5 : t = xs.length := by omega
      refine ⟨q, by rw [e5, List.getElem?_append_right (Nat.le_refl _), Nat.sub_self] <;> rfl, ?_, q0, qA⟩
      rw [upd_ne qA]
      exact h2
  · intro t t' z e1 e2
    rcases in_old t z e1 with ⟨a1, a2⟩ | ⟨a1, a2⟩
    · rcases in_old t' z e2 with ⟨b1, b2⟩ | ⟨b1, b2⟩
      · exact ok.inj t t' z a1 b1
      · exact absurd b2 a2
    · rcases in_old t' z e2 with ⟨b1, b2⟩ | ⟨b1, b2⟩
      · exact absurd a2 b2
      · omega
  · intro r' hr
    rcases List.mem_append.mp hr with z | z
    · exact ok.wide r' z
    · rw [List.mem_singleton.mp z]
      exact ⟨by omega, sm⟩
  · intro r' hr
    rcases List.mem_append.mp hr with z | z
    · exact l3 r' z
    · rw [List.mem_singleton.mp z]
      exact rl
end Rw

set_option Elab.async false
set_option linter.all false
set_option maxRecDepth 100000
set_option maxHeartbeats 4000000
/-! TkK: sheets that are bent; things to make rows of. -/
namespace Rw
open PySem PySem.Spec PyProof.Rows L2
theorem ixn {n j : Nat} (hj : j < n) : ixN n (j : Int) = some j := by
  unfold ixN
  rw [if_pos (by omega), if_pos (by omega)]
  simp
theorem fresh_of {H H1 : Hp} {p q : Addr} {c : Nat} (g : Grow p H H1) (bx : Bx H1 p c) (hq : H1 q = none) : H q = none := by
  cases y : H q with
  | none => rfl
  | some u =>
    obtain ⟨y1, y2, y3, hp2, _⟩ := bx
    by_cases w : q = p
    · rw [w, hp2] at hq
      cases hq
    · rw [g _ _ w y] at hq
      cases hq
def spBentS : Sp := fun vs H Q _ => ∃ (p : Addr) (v : V) (n h w : Nat) (q : Int) (m : List (List Int)), vs = [.ref p, v] ∧ Any (del H p) v (sheetD m) ∧ MatOk q h w m ∧ q ∈ primesL ∧ h ≤ 4 ∧ w ≤ 4 ∧ Bx H p n ∧ n ≤ 900000 ∧ ∀ v d H', SheetT d → Any (nw H H') v d → Grow p H H' → Bx H' p (n + 100) → Q v H'
end Rw
namespace Rw
open PySem PySem.Spec PyProof.Rows L2
/-! ### things to make rows of -/
def off (p F : Addr) (H : Hp) : Hp := del (del H p) F
theorem off_same {p F : Addr} {H H' : Hp} (k : ∀ b o, b ≠ p → b ≠ F → H b = some o → H' b = some o) : Same (off p F H) (off p F H') := fun b o e => by
  unfold off at e ⊢
  by_cases y1 : b = F
  · rw [y1, del_same] at e; cases e
  · rw [del_ne y1] at e ⊢
    by_cases y2 : b = p
    · rw [y2, del_same] at e; cases e
    · rw [del_ne y2] at e ⊢
      exact k b o y2 y1 e
theorem off_sub {p F : Addr} {H : Hp} : Same (off p F H) H := same_del.trans same_del
theorem off_subp {p F : Addr} {H : Hp} : Same (off p F H) (del H p) := same_del
theorem nw_off {p F : Addr} {H H' : Hp} (hp : H p ≠ none) (hF : H F ≠ none) : Same (nw H H') (off p F H') := fun b o e => by
  have e2 : (if H b = none then H' b else none) = some o := e
  split at e2
  · rename_i h
    unfold off
    rw [del_ne (fun z => hF (by rw [← z]; exact h)), del_ne (fun z => hp (by rw [← z]; exact h))]
    exact e2
  · cases e2
structure StrT (d : PyData) : Prop where
  tm : Tq 0 d
  sh : Short d
structure SizT (k : Nat) (d : PyData) : Prop where
  tm : Tq 1 d
  l : (itemsD d).length ≤ k
  c : ∀ e, e ∈ itemsD d → Cell e
structure MapT (k : Nat) (d : PyData) : Prop where
  tm : Tq 3 d
  l : (itemsD d).length ≤ k
  c : ∀ e, e ∈ itemsD d → SheetT e
theorem SizT.up {k m : Nat} {d : PyData} (s : SizT k d) (h : k ≤ m) : SizT m d := ⟨s.tm, Nat.le_trans s.l h, s.c⟩
theorem MapT.up {k m : Nat} {d : PyData} (s : MapT k d) (h : k ≤ m) : MapT m d := ⟨s.tm, Nat.le_trans s.l h, s.c⟩
theorem siz_list {k : Nat} {ds : List PyData} (h : k ≤ 12) (l : ds.length ≤ k) (c : ∀ e, e ∈ ds → Cell e) : SizT k (.list ds) := ⟨tq_list (by omega) fun d hd => (c d hd).tm.q, l, c⟩
theorem map_list {k : Nat} {ds : List PyData} (h : k ≤ 12) (l : ds.length ≤ k) (c : ∀ e, e ∈ ds → SheetT e) : MapT k (.list ds) := ⟨tq_list (by omega) fun d hd => (c d hd).tm.q, l, c⟩
theorem odd_one : ∀ d ∈ oddL, (itemsD d).length ≤ 1 := by
  intro d hd
  unfold oddL at hd
  simp only [List.mem_cons, List.not_mem_nil, or_false] at hd
  rcases hd with z | z | z | z | z | z | z | z | z | z | z | z | z | z | z | z <;> subst z <;> simp [itemsD]
theorem odd_str {d : PyData} (h : d ∈ oddL) : StrT d := ⟨(odd_cell d h).tm.q, odd_short d h⟩
theorem odd_siz {d : PyData} (h : d ∈ oddL) {k : Nat} (hk : 1 ≤ k) : SizT k d := ⟨(odd_cell d h).tm.q.up (by decide), Nat.le_trans (odd_one d h) hk, fun e he => (odd_items d h e he).1⟩
theorem odd_map {d : PyData} (h : d ∈ oddL) {k : Nat} (hk : 1 ≤ k) : MapT k d := ⟨(odd_cell d h).tm.q.up (by decide), Nat.le_trans (odd_one d h) hk, fun e he => (odd_items d h e he).2⟩
structure Fnd (H Hn : Hp) (p F : Addr) (c a b : Nat) : Prop where
  g : Grow p H Hn
  bx : Bx Hn p c
  new : H F = none
  ex : ∃ u0 u1 u2 u3 d0 d1 d2 d3, Hn F = some (.lst [u0, u1, u2, u3]) ∧ Any (off p F Hn) u0 d0 ∧ Any (off p F Hn) u1 d1 ∧ Any (off p F Hn) u2 d2 ∧ Any (off p F Hn) u3 d3 ∧ StrT d0 ∧ Tq 0 d1 ∧ SizT a d2 ∧ MapT b d3
theorem Fnd.grow {H Hn H2 : Hp} {p F : Addr} {c e n a b : Nat} (s : Fnd H Hn p F c a b) (b0 : Bx H p n) (k : Grow p Hn H2) (bx : Bx H2 p e) : Fnd H H2 p F e a b := by
  obtain ⟨u0, u1, u2, u3, d0, d1, d2, d3, hF, a0, a1, a2, a3, r⟩ := s.ex
  have pF := b0.ne s.new
  have kk : Same (off p F Hn) (off p F H2) := off_same fun x o n1 n2 ex => k x o n1 ex
  exact ⟨s.g.trans k, bx, s.new, u0, u1, u2, u3, d0, d1, d2, d3, k _ _ pF.symm hF, a0.keep kk, a1.keep kk, a2.keep kk, a3.keep kk, r⟩
theorem Fnd.more {H Hn : Hp} {p F : Addr} {c e a b a' b' : Nat} (s : Fnd H Hn p F c a b) (h : c ≤ e) (ha : a ≤ a') (hb : b ≤ b') : Fnd H Hn p F e a' b' := by
  obtain ⟨u0, u1, u2, u3, d0, d1, d2, d3, hF, a0, a1, a2, a3, r0, r1, r2, r3⟩ := s.ex
  exact ⟨s.g, s.bx.more h, s.new, u0, u1, u2, u3, d0, d1, d2, d3, hF, a0, a1, a2, a3, r0, r1, r2.up ha, r3.up hb⟩
/-- the list is written anew -/
theorem Fnd.put {H Hn : Hp} {p F : Addr} {c n a b : Nat} (g : Grow p H Hn) (bx : Bx Hn p c) (new : H F = none) (b0 : Bx H p n) {u0 u1 u2 u3 : V} {d0 d1 d2 d3 : PyData} (a0 : Any (off p F Hn) u0 d0) (a1 : Any (off p F Hn) u1 d1) (a2 : Any (off p F Hn) u2 d2) (a3 : Any (off p F Hn) u3 d3)
    (r0 : StrT d0) (r1 : Tq 0 d1) (r2 : SizT a d2) (r3 : MapT b d3) : Fnd H (upd Hn F (.lst [u0, u1, u2, u3])) p F c a b := by
  have pF := b0.ne new
  have kk : Same (off p F Hn) (off p F (upd Hn F (.lst [u0, u1, u2, u3]))) := off_same fun x o n1 n2 ex => by rw [upd_ne n2]; exact ex
  refine ⟨fun x o n1 ex => ?_, ?_, new, u0, u1, u2, u3, d0, d1, d2, d3, upd_same, a0.keep kk, a1.keep kk, a2.keep kk, a3.keep kk, r0, r1, r2, r3⟩
  · rw [upd_ne (ne_of_none ex new)]
    exact g x o n1 ex
  · obtain ⟨c1, c2, c3, h1, rest⟩ := bx
    exact ⟨c1, c2, c3, by rw [upd_ne pF]; exact h1, rest⟩
structure ThingT (d : PyData) : Prop where
  ex : ∃ d0 d1 d2 d3, d = .list [d0, d1, d2, d3] ∧ StrT d0 ∧ Tq 0 d1 ∧ SizT 7 d2 ∧ MapT 6 d3
def spBent : Sp := fun vs H Q _ => ∃ (p : Addr) (v : V) (n : Nat) (x : Str) (q : Int) (ss : List Nat) (ms : List (List (List Int))), vs = [.ref p, v] ∧ Any (del H p) v (draftD x q ss ms) ∧ Draft x q 3 ss ms ∧ Pat x 4 ∧ q ∈ primesL ∧ Bx H p n ∧ n ≤ 800000 ∧
  ∀ v' d H', ThingT d → Any (del H' p) v' d → Grow p H H' → Bx H' p (n + 1000) → Q v' H'
theorem op_mul_str {X : Cx} : OpR X (binaryOp .Mult) (fun x y H Q => ∃ z n, x = .str z ∧ y = .int n ∧ PySem.MulOk z n ∧ Q (.str (Txt.mul z n)) H) := by
  intro pins s σ H x y v u Q I rx ry h
  obtain ⟨z, n, rfl, rfl, ok, q⟩ := h
  obtain ⟨t, rfl⟩ := rx
  obtain ⟨t', rfl⟩ := ry
  exact PySem.SB.mul ok fun t' k => ⟨.str _, H, I.tok _, ⟨_, rfl⟩, q⟩
end Rw

set_option Elab.async false
set_option linter.all false
set_option maxRecDepth 100000
set_option maxHeartbeats 4000000
/-! TkKb: the four parts of a thing, one exchanged. -/
namespace Rw
open PySem PySem.Spec PyProof.Rows L2
theorem off_from {H Hn : Hp} {p F : Addr} (new : H F = none) (g : Grow p H Hn) : Same (del H p) (off p F Hn) := fun b o e => by
  unfold off
  by_cases y : b = p
  · rw [y, del_same] at e; cases e
  · rw [del_ne y] at e
    have n2 : b ≠ F := ne_of_none e new
    rw [del_ne n2, del_ne y]
    exact g b o y e
/-- what was there stays, when a new list is written -/
theorem off_put {H1 H3 : Hp} {p F L : Addr} {o : HO} (hL : H1 L = none) (k : ∀ x u, x ≠ p → x ≠ F → H1 x = some u → H3 x = some u) : Same (off p F H1) (off p F (upd H3 L o)) := off_same fun x u n1 n2 ex => by
  rw [upd_ne (ne_of_none ex hL)]
  exact k x u n1 n2 ex
theorem nw_offput {H H' : Hp} {p F L : Addr} {o : HO} (hp : H p ≠ none) (hF : H F ≠ none) (hL : H L ≠ none) : Same (nw H H') (off p F (upd H' L o)) := fun b u e => by
  have e2 : (if H b = none then H' b else none) = some u := e
  split at e2
  · rename_i h
    unfold off
    rw [del_ne (fun z => hF (by rw [← z]; exact h)), del_ne (fun z => hp (by rw [← z]; exact h)), upd_ne (fun z => hL (by rw [← z]; exact h))]
    exact e2
  · cases e2
theorem Bx.some {H : Hp} {p : Addr} {n : Nat} (b : Bx H p n) : H p ≠ none := by
  obtain ⟨_, _, _, h, _⟩ := b
  rw [h]
  exact fun z => by cases z
section
variable {H Hn : Hp} {p F : Addr} {c n a b : Nat}
theorem Fnd.here (s : Fnd H Hn p F c a b) : Hn F ≠ none := by
  obtain ⟨u0, u1, u2, u3, d0, d1, d2, d3, hF, _⟩ := s.ex
  rw [hF]
  exact fun z => by cases z
theorem Fnd.odd (s : Fnd H Hn p F c a b) (b0 : Bx H p n) (ha : 1 ≤ a) (hb : 1 ≤ b) {v : V} {d : PyData} (hd : d ∈ oddL) (an : Any (off p F Hn) v d) {j : Nat} (hj : j < 4) : ∃ us, Hn F = some (.lst us) ∧ us.length = 4 ∧ Fnd H (upd Hn F (.lst (us.set j v))) p F c a b := by
  obtain ⟨u0, u1, u2, u3, d0, d1, d2, d3, hF, a0, a1, a2, a3, r0, r1, r2, r3⟩ := s.ex
  refine ⟨_, hF, rfl, ?_⟩
  rcases (by omega : j = 0 ∨ j = 1 ∨ j = 2 ∨ j = 3) with e | e | e | e <;> subst e
  · exact Fnd.put s.g s.bx s.new b0 an a1 a2 a3 (odd_str hd) r1 r2 r3
  · exact Fnd.put s.g s.bx s.new b0 a0 an a2 a3 r0 (odd_cell d hd).tm.q r2 r3
  · exact Fnd.put s.g s.bx s.new b0 a0 a1 an a3 r0 r1 (odd_siz hd ha) r3
  · exact Fnd.put s.g s.bx s.new b0 a0 a1 a2 an r0 r1 r2 (odd_map hd hb)
theorem Fnd.str (s : Fnd H Hn p F c a b) (b0 : Bx H p n) {v : V} {d : PyData} (r : StrT d) (an : Any (off p F Hn) v d) : ∃ us, Hn F = some (.lst us) ∧ us.length = 4 ∧ Fnd H (upd Hn F (.lst (us.set 0 v))) p F c a b := by
  obtain ⟨u0, u1, u2, u3, d0, d1, d2, d3, hF, a0, a1, a2, a3, r0, r1, r2, r3⟩ := s.ex
  exact ⟨_, hF, rfl, Fnd.put s.g s.bx s.new b0 an a1 a2 a3 r r1 r2 r3⟩
theorem Fnd.siz (s : Fnd H Hn p F c a b) (b0 : Bx H p n) {v : V} {d : PyData} {a' : Nat} (r : SizT a' d) (an : Any (off p F Hn) v d) : ∃ us, Hn F = some (.lst us) ∧ us.length = 4 ∧ Fnd H (upd Hn F (.lst (us.set 2 v))) p F c a' b := by
  obtain ⟨u0, u1, u2, u3, d0, d1, d2, d3, hF, a0, a1, a2, a3, r0, r1, r2, r3⟩ := s.ex
  exact ⟨_, hF, rfl, Fnd.put s.g s.bx s.new b0 a0 a1 an a3 r0 r1 r r3⟩
theorem Fnd.map (s : Fnd H Hn p F c a b) (b0 : Bx H p n) {v : V} {d : PyData} {b' : Nat} (r : MapT b' d) (an : Any (off p F Hn) v d) : ∃ us, Hn F = some (.lst us) ∧ us.length = 4 ∧ Fnd H (upd Hn F (.lst (us.set 3 v))) p F c a b' := by
  obtain ⟨u0, u1, u2, u3, d0, d1, d2, d3, hF, a0, a1, a2, a3, r0, r1, r2, r3⟩ := s.ex
  exact ⟨_, hF, rfl, Fnd.put s.g s.bx s.new b0 a0 a1 a2 an r0 r1 r2 r⟩
theorem Fnd.at2 (s : Fnd H Hn p F c a b) : ∃ us u d, Hn F = some (.lst us) ∧ us.length = 4 ∧ us[2]? = some u ∧ Any (off p F Hn) u d ∧ SizT a d := by
  obtain ⟨u0, u1, u2, u3, d0, d1, d2, d3, hF, a0, a1, a2, a3, r0, r1, r2, r3⟩ := s.ex
  exact ⟨_, _, _, hF, rfl, rfl, a2, r2⟩
theorem Fnd.at3 (s : Fnd H Hn p F c a b) : ∃ us u d, Hn F = some (.lst us) ∧ us.length = 4 ∧ us[3]? = some u ∧ Any (off p F Hn) u d ∧ MapT b d := by
  obtain ⟨u0, u1, u2, u3, d0, d1, d2, d3, hF, a0, a1, a2, a3, r0, r1, r2, r3⟩ := s.ex
  exact ⟨_, _, _, hF, rfl, rfl, a3, r3⟩
/-- the new list in the place of the sizes is written -/
theorem Fnd.in2 (s : Fnd H Hn p F c a b) (b0 : Bx H p n) {us zs : List V} {ds : List PyData} {L : Addr} {H3 : Hp} {e a' : Nat} (hF : Hn F = some (.lst us)) (hL : Hn L = none) (k : ∀ x o, x ≠ p → x ≠ F → Hn x = some o → H3 x = some o)
    (h3 : H3 F = some (.lst (us.set 2 (.ref L)))) (bx : Bx H3 p e) (al : AnyL (off p F (upd H3 L (.lst zs))) zs ds) (r : SizT a' (.list ds)) : Fnd H (upd H3 L (.lst zs)) p F e a' b := by
  obtain ⟨u0, u1, u2, u3, d0, d1, d2, d3, hF', a0, a1, a2, a3, r0, r1, r2, r3⟩ := s.ex
  rw [hF] at hF'
  cases hF'
  have LF : L ≠ F := fun z => by rw [z, hF] at hL; cases hL
  have Lp : L ≠ p := fun z => s.bx.some (by rw [← z]; exact hL)
  have kk : Same (off p F Hn) (off p F (upd H3 L (.lst zs))) := off_put hL k
  refine ⟨fun x o n1 ex => ?_, ?_, s.new, u0, u1, .ref L, u3, d0, d1, .list ds, d3, by rw [upd_ne (Ne.symm LF)]; exact h3, a0.keep kk, a1.keep kk, .lst ?_ al, a3.keep kk, r0, r1, r, r3⟩
  · have e1 := s.g x o n1 ex
    rw [upd_ne (ne_of_none e1 hL)]
    exact k x o n1 (ne_of_none ex s.new) e1
  · obtain ⟨c1, c2, c3, h1, rest⟩ := bx
    exact ⟨c1, c2, c3, by rw [upd_ne (Ne.symm Lp)]; exact h1, rest⟩
  · unfold off
    rw [del_ne LF, del_ne Lp, upd_same]
theorem Fnd.in3 (s : Fnd H Hn p F c a b) (b0 : Bx H p n) {us zs : List V} {ds : List PyData} {L : Addr} {H3 : Hp} {e b' : Nat} (hF : Hn F = some (.lst us)) (hL : Hn L = none) (k : ∀ x o, x ≠ p → x ≠ F → Hn x = some o → H3 x = some o)
    (h3 : H3 F = some (.lst (us.set 3 (.ref L)))) (bx : Bx H3 p e) (al : AnyL (off p F (upd H3 L (.lst zs))) zs ds) (r : MapT b' (.list ds)) : Fnd H (upd H3 L (.lst zs)) p F e a b' := by
  obtain ⟨u0, u1, u2, u3, d0, d1, d2, d3, hF', a0, a1, a2, a3, r0, r1, r2, r3⟩ := s.ex
  rw [hF] at hF'
  cases hF'
  have LF : L ≠ F := fun z => by rw [z, hF] at hL; cases hL
  have Lp : L ≠ p := fun z => s.bx.some (by rw [← z]; exact hL)
  have kk : Same (off p F Hn) (off p F (upd H3 L (.lst zs))) := off_put hL k
  refine ⟨fun x o n1 ex => ?_, ?_, s.new, u0, u1, u2, .ref L, d0, d1, d2, .list ds, by rw [upd_ne (Ne.symm LF)]; exact h3, a0.keep kk, a1.keep kk, a2.keep kk, .lst ?_ al, r0, r1, r2, r⟩
  · have e1 := s.g x o n1 ex
    rw [upd_ne (ne_of_none e1 hL)]
    exact k x o n1 (ne_of_none ex s.new) e1
  · obtain ⟨c1, c2, c3, h1, rest⟩ := bx
    exact ⟨c1, c2, c3, by rw [upd_ne (Ne.symm Lp)]; exact h1, rest⟩
  · unfold off
    rw [del_ne LF, del_ne Lp, upd_same]
theorem Fnd.thing (s : Fnd H Hn p F c 7 6) (b0 : Bx H p n) : ∃ d, ThingT d ∧ Any (del Hn p) (.ref F) d := by
  have pF := b0.ne s.new
  obtain ⟨u0, u1, u2, u3, d0, d1, d2, d3, hF, a0, a1, a2, a3, r0, r1, r2, r3⟩ := s.ex
  exact ⟨_, ⟨d0, d1, d2, d3, rfl, r0, r1, r2, r3⟩, .lst (by
    rw [del_ne (Ne.symm pF)]
    exact hF) (.cons (a0.keep off_subp) (.cons (a1.keep off_subp) (.cons (a2.keep off_subp) (.cons (a3.keep off_subp) .nil))))⟩
end
theorem str_t {x : Str} (h : x.length ≤ 7) (c : ∀ z ∈ x.cps.toList, z < 16 ^ 8) : StrT (.str x) := ⟨tq_str h c, fun y e => by cases e; omega⟩
theorem str_app_len (x y : Str) : (x ++ y).length = x.length + y.length := by
  show (x.cps ++ y.cps).size = _
  rw [Array.size_append]
  rfl
theorem str_app_mem {x y : Str} {P : Nat → Prop} (h1 : ∀ z ∈ x.cps.toList, P z) (h2 : ∀ z ∈ y.cps.toList, P z) : ∀ z ∈ (x ++ y).cps.toList, P z := by
  intro z hz
  have hz2 : z ∈ (x.cps ++ y.cps).toList := hz
  rw [Array.toList_append] at hz2
  rcases List.mem_append.mp hz2 with e | e
  · exact h1 z e
  · exact h2 z e
theorem str_app_t {x y : Str} (px : Pat x 4) (ly : y.length ≤ 1) (cy : ∀ z ∈ y.cps.toList, z < 16 ^ 8) : StrT (.str (x ++ y)) :=
  str_t (by rw [str_app_len]; have := px.l; omega) (str_app_mem (arr_small px.a) cy)
theorem str_cut_t {x : Str} (px : Pat x 4) (lo hi : Option Int) : StrT (.str (cutS x lo hi)) := by
  refine str_t (by have := cutS_length x lo hi; have := px.l; omega) fun z hz => ?_
  have hz2 : z ∈ (x.cps.toList.drop (HT.sIx x.length 0 lo)).take (HT.sIx x.length x.length hi - HT.sIx x.length 0 lo) := by simpa [cutS] using hz
  exact arr_small px.a z (List.mem_of_mem_drop (List.mem_of_mem_take hz2))
end Rw

set_option Elab.async false
set_option linter.all false
set_option maxRecDepth 100000
set_option maxHeartbeats 4000000
/-! TkBK: drafts are small enough to be shown and compared; rows stay. -/
namespace Rw
open PySem PySem.Spec PyProof.Rows L2
theorem _root_.L2.Same.grow {p : Addr} {H H1 H2 : Hp} (s : Same H H1) (hp : H p = none) (g : Grow p H1 H2) : Same H H2 := fun b o e => g b o (ne_of_none e hp) (s b o e)
theorem str_same (a : Str) : decide (V.str a = V.str a) = true := decide_eq_true rfl
theorem passN {X : Cx} : Passes (L2.CX X.prog X.w) X E0 := fun _ _ _ _ _ _ _ h => by
  obtain ⟨_, _, _, _, _, _, _, _, _, _, _, _, z⟩ := h
  exact z.elim
theorem tm_ok {n : Nat} {d : PyData} (h : Tm n d) (l : n ≤ 5) : d.showable = true ∧ d.depth ≤ 60 ∧ d.shown.length ≤ sizeLine := by
  have h6 := h.up l
  exact ⟨h.sh, by have := h6.dp; omega, Nat.le_trans h6.ln (by decide +kernel)⟩
theorem tm_short {x : Str} (h : (reprText x).length ≤ 50) : Tm 0 (.str x) := ⟨by simp only [PyData.showable], by simp only [PyData.depth]; omega, by simp only [PyData.shown]; exact h⟩
theorem tm_w {n : Nat} {x : Str} {d : PyData} (hx : (reprText x).length ≤ 50) (h : Tm n d) : Tm (n + 1) (wD x d) := tm_list (by show 2 ≤ 6; decide) (by
  intro e he
  rcases List.mem_cons.mp he with z | z
  · rw [z]; exact (tm_short hx).up (Nat.zero_le _)
  · rw [List.mem_singleton.mp z]; exact h)
theorem tm_tq {n m k : Nat} {d : PyData} (h : Tq n d) (l1 : n ≤ m) (l2 : 80 * 13 ^ n ≤ 50 * 8 ^ m) : Tm m d := ⟨h.sh, by have := h.dp; omega, Nat.le_trans h.ln l2⟩
theorem tm_draft {x : Str} {q : Int} {ss : List Nat} {ms : List (List (List Int))} (g : Good x q ss ms) : Tm 4 (draftD x q ss ms) := by
  have lx := g.p.l
  have q20 : q.natAbs < 20 := by
    have := prime_pos g.q
    omega
  refine tm_list (by show 4 ≤ 6; decide) fun e he => ?_
  rcases List.mem_cons.mp he with z | he
  · rw [z]
    exact tm_tq (k := 0) (tq_str (by omega) (arr_small g.p.a)) (Nat.zero_le _) (by decide)
  rcases List.mem_cons.mp he with z | he
  · rw [z]
    exact (tm_int (Nat.lt_trans q20 (by decide))).up (Nat.zero_le _)
  rcases List.mem_cons.mp he with z | he
  · rw [z]
    refine tm_tq (k := 0) (n := 1) (tq_list (by rw [List.length_map, g.d.sl]; omega) fun d hd => ?_) (by decide) (by decide)
    obtain ⟨s, hs, rfl⟩ := List.mem_map.mp hd
    have := g.d.sb s hs
    exact tq_int (Nat.lt_of_le_of_lt (by omega : ((s : Nat) : Int).natAbs ≤ 6) (by decide))
  · rw [List.mem_singleton.mp he]
    refine tm_list (by rw [List.length_map, g.d.ml]; omega) fun d hd => ?_
    exact (draft_sheet g.d g.q (Nat.le_refl _) d hd).tm
theorem sumS_lt {ss ts : List Nat} {i n : Nat} (h1 : ∀ s, s ∈ ss → s ≤ 6) (h2 : ∀ s, s ∈ ts → s ≤ 6) (h : (sumS ss ts)[i]? = some n) : n ≤ 12 := by
  have hi : i < ss.length := by
    have := (List.getElem?_eq_some_iff.mp h).1
    rw [sumS_len] at this
    exact this
  rw [sumS_at hi] at h
  cases h
  have a := get_le h1 i
  have b := get_le h2 i
  omega
theorem tm_besD {x y : Str} {p q : Int} {ss ts : List Nat} {ms ns : List (List (List Int))} (g : Good x p ss ms) (k : Good y q ts ns) : Tm 5 (besD x p ss ms y q ts ns) := by
  unfold besD
  split
  · rename_i h
    obtain ⟨e1, e2⟩ := h
    subst e1
    subst e2
    cases e : (sumS ss ts).find? (fun n => decide (6 < n)) with
    | some n =>
      have hm := List.mem_of_find?_eq_some e
      obtain ⟨i, hi⟩ := List.getElem?_of_mem hm
      have := sumS_lt g.d.sb k.d.sb hi
      exact (tm_w (by decide +kernel) (tm_int (n := ((n : Nat) : Int)) (Nat.lt_of_le_of_lt (by omega : _ ≤ 12) (by decide)))).up (by decide)
    | none =>
      rw [List.find?_eq_none] at e
      have low : ∀ (i n : Nat), (sumS ss ts)[i]? = some n → n ≤ 6 := fun i n hi => by
        have := e n (List.mem_of_getElem? hi)
        simp at this
        exact this
      exact tm_w (by decide +kernel) (tm_draft ⟨sum_draft g.d k.d g.q low, g.p, g.q⟩)
  · refine (tm_list (n := 0) (by show 1 ≤ 6; decide) fun e he => ?_).up (by decide)
    rw [List.mem_singleton.mp he]
    exact tm_short (by decide +kernel)
theorem tm_partD {x : Str} {q : Int} {ss : List Nat} {ms : List (List (List Int))} {d1 d2 : PyData} (g : Good x q ss ms) (h1 : Tm 0 d1) (h2 : Tm 0 d2) : Tm 5 (partD x q ss ms d1 d2) := by
  unfold partD
  split
  · rename_i i1
    split
    · rename_i i2
      obtain ⟨i, rfl, i0, il⟩ := inB_nat (lo := 0) i1
      obtain ⟨j, rfl, j0, jl⟩ := inB_nat i2
      exact tm_w (by decide +kernel) (tm_draft ⟨part_draft g.d j0 jl, cut_pat g.p j0 jl, g.q⟩)
    · exact (tm_w (by decide +kernel) h2).up (by decide)
  · exact (tm_w (by decide +kernel) h1).up (by decide)
theorem noL_mats (ms : List (List (List Int))) : noL (.tuple ((ms.map fun m => m.map tupI).map .tuple)) = true := by
  show noLs _ = true
  refine noLs_of fun d hd => ?_
  rw [List.map_map] at hd
  obtain ⟨m, _, rfl⟩ := List.mem_map.mp hd
  show noLs (m.map tupI) = true
  refine noLs_of fun e he => ?_
  obtain ⟨r, _, rfl⟩ := List.mem_map.mp he
  exact noL_tupI r
theorem noL_nats (ss : List Nat) : noL (.tuple (ss.map natD)) = true := by
  show noLs _ = true
  refine noLs_of fun d hd => ?_
  obtain ⟨n, _, rfl⟩ := List.mem_map.mp hd
  rfl
theorem row_away {C a p : Addr} {H : Hp} {n : Nat} {x : Str} {q : Int} {ss : List Nat} {ms : List (List (List Int))} (b : Bx H p n) (r : RowAt C H a x q (ss.map natD) (ms.map fun m => m.map tupI)) : RowAt C (del H p) a x q (ss.map natD) (ms.map fun m => m.map tupI) := by
  obtain ⟨dx, ts, tm, h1, h2, h3⟩ := r
  obtain ⟨b1, b2, b3, hp, _⟩ := b
  refine ⟨dx, ts, tm, ?_, any_noL hp _ _ h2 (noL_nats ss), any_noL hp _ _ h3 (noL_mats ms)⟩
  rw [del_ne (fun z => by rw [z, hp] at h1; cases h1)]
  exact h1
theorem lay_draft {x : Str} {m : Nat} (px : Pat x m) (q : Int) (ss : List Nat) (ms : List (List (List Int))) : (draftD x q ss ms).canLay0 = true := by
  refine lay_list fun d hd => ?_
  rcases List.mem_cons.mp hd with z | hd
  · rw [z]
    simp only [PyData.canLay0]
    unfold PyData.strOk
    rw [← Array.all_toList]
    refine List.all_eq_true.mpr fun c hc => decide_eq_true ?_
    have := List.all_eq_true.mp px.a c hc
    unfold isArr at this
    simp only [Bool.or_eq_true, beq_iff_eq] at this
    omega
  rcases List.mem_cons.mp hd with z | hd
  · rw [z]
    first | rfl | simp only [PyData.canLay0]
  rcases List.mem_cons.mp hd with z | hd
  · rw [z]
    refine lay_list fun e he => ?_
    obtain ⟨s, _, rfl⟩ := List.mem_map.mp he
    first | rfl | simp only [natD, PyData.canLay0]
  · rw [List.mem_singleton.mp hd]
    refine lay_list fun e he => ?_
    obtain ⟨m, _, rfl⟩ := List.mem_map.mp he
    refine lay_list fun e he => ?_
    obtain ⟨r, _, rfl⟩ := List.mem_map.mp he
    exact lay_tup (lay_ints r)
theorem dep_draft {x : Str} {q : Int} {ss : List Nat} {ms : List (List (List Int))} (g : Good x q ss ms) : (draftD x q ss ms).depth ≤ 64 := by
  have := (tm_draft g).dp
  omega
end Rw

set_option Elab.async false
set_option linter.all false
set_option maxRecDepth 100000
set_option maxHeartbeats 4000000
/-! TkCA: only lists change; rows held against one another; == by an own __eq__. -/
namespace Rw
open PySem PySem.Spec PyProof.Rows L2
/-- no object but lists has changed -/
def Lt (H H' : Hp) : Prop := ∀ b o, H b = some o → (∀ xs, o ≠ .lst xs) → H' b = some o
theorem Lt.refl {H : Hp} : Lt H H := fun _ _ e _ => e
theorem Lt.trans {H H1 H2 : Hp} (a : Lt H H1) (b : Lt H1 H2) : Lt H H2 := fun c o e n => b c o (a c o e n) n
theorem Lt.of {H H' : Hp} (k : Same H H') : Lt H H' := fun b o e _ => k b o e
theorem Lt.put {H : Hp} {a : Addr} {xs ys : List V} (h : H a = some (.lst xs)) : Lt H (upd H a (.lst ys)) := fun b o e n => by
  have ne : b ≠ a := fun z => by
    rw [z, h] at e
    exact n xs (Option.some.inj e).symm
  rw [upd_ne ne]
  exact e
mutual
theorem any_lt {H H' : Hp} (k : Lt H H') : ∀ (d : PyData) (v : V), Any H v d → noL d = true → Any H' v d
  | .none, _, a, _ => by cases a; exact .non
  | .bool b, _, a, _ => by cases a; exact .bl b
  | .int i, _, a, _ => by cases a; exact .int i
  | .str x, _, a, _ => by cases a; exact .str x
  | .list ds, _, _, z => by cases z
  | .dict ds, _, _, z => by cases z
  | .tuple ds, _, a, z => by
    cases a with
    | tup e b => exact .tup (k _ _ e fun xs y => by cases y) (anyL_lt k ds _ b z)
theorem anyL_lt {H H' : Hp} (k : Lt H H') : ∀ (ds : List PyData) (vs : List V), AnyL H vs ds → noLs ds = true → AnyL H' vs ds
  | [], _, a, _ => by cases a; exact .nil
  | d :: ds, _, a, z => by
    have z2 : (noL d && noLs ds) = true := z
    rw [Bool.and_eq_true] at z2
    cases a with
    | cons a b => exact .cons (any_lt k d _ a z2.1) (anyL_lt k ds _ b z2.2)
end
theorem row_lt {C a : Addr} {H H' : Hp} {x : Str} {q : Int} {ss : List Nat} {ms : List (List (List Int))} (r : RowOf C H a x q ss ms) (k : Lt H H') : RowOf C H' a x q ss ms := by
  obtain ⟨dx, ts, tm, h1, h2, h3⟩ := r
  exact ⟨dx, ts, tm, k _ _ h1 (fun xs z => by cases z), any_lt k _ _ h2 (noL_nats ss), any_lt k _ _ h3 (noL_mats ms)⟩
/-! ### the same data -/
theorem eqvAll_map {α : Type} [DecidableEq α] (f : α → PyData) (h : ∀ a b, PyData.eqv (f a) (f b) = decide (a = b)) : ∀ as bs : List α, PyData.eqvAll (as.map f) (bs.map f) = decide (as = bs)
  | [], [] => by simp [PyData.eqvAll]
  | [], b :: bs => by simp [PyData.eqvAll]
  | a :: as, [] => by simp [PyData.eqvAll]
  | a :: as, b :: bs => by
    show PyData.eqvAll (f a :: as.map f) (f b :: bs.map f) = _
    rw [PyData.eqvAll, h, eqvAll_map f h as bs]
    by_cases e1 : a = b
    · by_cases e2 : as = bs
      · rw [decide_eq_true e1, decide_eq_true e2, decide_eq_true (by rw [e1, e2])] <;> rfl
      · rw [decide_eq_true e1, decide_eq_false e2, decide_eq_false (fun z => e2 (List.cons.inj z).2)] <;> rfl
    · rw [decide_eq_false e1, decide_eq_false (fun z => e1 (List.cons.inj z).1), Bool.false_and]
theorem eqv_int (a b : Int) : PyData.eqv (.int a) (.int b) = decide (a = b) := by
  simp [PyData.eqv]
  by_cases h : a = b
  · rw [decide_eq_true h, h]; simp
  · rw [decide_eq_false h]; simpa using h
theorem eqv_nat (a b : Nat) : PyData.eqv (natD a) (natD b) = decide (a = b) := by
  unfold natD
  rw [eqv_int]
  by_cases h : a = b
  · rw [decide_eq_true h, decide_eq_true (by rw [h])]
  · rw [decide_eq_false h, decide_eq_false (by omega)]
theorem eqv_tupI (a b : List Int) : PyData.eqv (tupI a) (tupI b) = decide (a = b) := by
  unfold tupI
  rw [PyData.eqv]
  exact eqvAll_map PyData.int eqv_int a b
theorem eqv_tupM (a b : List (List Int)) : PyData.eqv (tupM a) (tupM b) = decide (a = b) := by
  unfold tupM
  rw [PyData.eqv]
  exact eqvAll_map tupI eqv_tupI a b
theorem eqv_sheet (a b : List (List Int)) : PyData.eqv (sheetD a) (sheetD b) = decide (a = b) := by
  unfold sheetD
  rw [PyData.eqv]
  exact eqvAll_map tupI eqv_tupI a b
theorem eqv_str (a b : Str) : PyData.eqv (.str a) (.str b) = decide (a = b) := by
  simp [PyData.eqv]
  by_cases h : a = b
  · rw [decide_eq_true h, h]; simp
  · rw [decide_eq_false h]; simpa using h
def sameRow (x : Str) (q : Int) (ss : List Nat) (ms : List (List (List Int))) (y : Str) (p : Int) (ts : List Nat) (ns : List (List (List Int))) : Bool := decide (x = y) && (decide (q = p) && (decide (ss = ts) && decide (ms = ns)))
theorem eqv_draft (x y : Str) (q p : Int) (ss ts : List Nat) (ms ns : List (List (List Int))) : PyData.eqv (draftD x q ss ms) (draftD y p ts ns) = sameRow x q ss ms y p ts ns := by
  unfold draftD sameRow
  have e1 : PyData.eqv (.list (ss.map natD)) (.list (ts.map natD)) = decide (ss = ts) := by
    rw [PyData.eqv]
    exact eqvAll_map natD eqv_nat ss ts
  have e2 : PyData.eqv (.list (ms.map sheetD)) (.list (ns.map sheetD)) = decide (ms = ns) := by
    rw [PyData.eqv]
    exact eqvAll_map sheetD eqv_sheet ms ns
  rw [PyData.eqv, PyData.eqvAll, PyData.eqvAll, PyData.eqvAll, PyData.eqvAll, PyData.eqvAll, eqv_str, eqv_int, e1, e2, Bool.and_true]
theorem lay_tupI (r : List Int) : (tupI r).canLay0 = true := lay_tup (lay_ints r)
theorem lay_nats (ss : List Nat) : (PyData.tuple (ss.map natD)).canLay0 = true := lay_tup fun d hd => by
  obtain ⟨s, _, rfl⟩ := List.mem_map.mp hd
  first | rfl | simp only [natD, PyData.canLay0]
theorem lay_mats (ms : List (List (List Int))) : (PyData.tuple (ms.map tupM)).canLay0 = true := lay_tup fun d hd => by
  obtain ⟨m, _, rfl⟩ := List.mem_map.mp hd
  refine lay_tup fun e he => ?_
  obtain ⟨r, _, rfl⟩ := List.mem_map.mp he
  exact lay_tupI r
theorem dep_le {n : Nat} : ∀ {ds : List PyData}, (∀ d, d ∈ ds → d.depth ≤ n) → PyData.depthAll ds ≤ n
  | [], _ => by simp only [PyData.depthAll]; omega
  | d :: ds, h => by
    simp only [PyData.depthAll]
    have a := h d List.mem_cons_self
    have b := dep_le (ds := ds) fun e he => h e (List.mem_cons_of_mem _ he)
    omega
theorem dep_int (n : Int) : (PyData.int n).depth ≤ 3 := by simp only [PyData.depth]; omega
theorem dep_nats (ss : List Nat) : (PyData.tuple (ss.map natD)).depth ≤ 64 := by
  have : PyData.depthAll (ss.map natD) ≤ 3 := dep_le fun d hd => by
    obtain ⟨s, _, rfl⟩ := List.mem_map.mp hd
    exact dep_int _
  simp only [PyData.depth]
  omega
theorem dep_tupM (m : List (List Int)) : (tupM m).depth ≤ 20 := by
  have : PyData.depthAll (m.map tupI) ≤ 10 := dep_le fun d hd => by
    obtain ⟨r, _, rfl⟩ := List.mem_map.mp hd
    have : PyData.depthAll (r.map PyData.int) ≤ 3 := dep_le fun d hd => by
      obtain ⟨s, _, rfl⟩ := List.mem_map.mp hd
      exact dep_int _
    unfold tupI
    simp only [PyData.depth]
    omega
  unfold tupM
  simp only [PyData.depth]
  omega
theorem dep_mats (ms : List (List (List Int))) : (PyData.tuple (ms.map tupM)).depth ≤ 64 := by
  have : PyData.depthAll (ms.map tupM) ≤ 20 := dep_le fun d hd => by
    obtain ⟨m, _, rfl⟩ := List.mem_map.mp hd
    exact dep_tupM m
  simp only [PyData.depth]
  omega
/-- two data held by == -/
theorem eq_two {K : PySem.W.Frag} {H : Hp} {x y : V} {d e : PyData} {Q : VK} (a : Any H x d) (b : Any H y e) (c1 : d.canLay0 = true) (c2 : e.canLay0 = true) (l1 : d.depth ≤ 64) (l2 : e.depth ≤ 64) (q : Q (.bl (PyData.eqv d e)) H) : rEqD K x y H Q := by
  refine ⟨d, e, any_dp d x a c1, any_dp e y b c2, ?_, ?_, q⟩
  · unfold SeqAt.shaped
    rw [c1, decide_eq_true l1] <;> rfl
  · unfold SeqAt.shaped
    rw [c2, decide_eq_true l2] <;> rfl
/-! ### == by an own __eq__ -/
/-- what a class with an own __eq__ asks -/
structure EqC (K : PySem.W.Frag) (C f : Addr) : Prop where
  at_ : PySem.W.findIn K (.ref C) "__eq__" = some (some (.ref f))
  fn : PySem.W.isFn K (.ref f) = true
  nl : PySem.W.notFirst K C (.type "list") = true
  ns : PySem.W.notFirst K C (.type "str") = true
def rEqO (C : Addr) (sp : Sp) : R2 := fun x y H Q => ∃ a dx fs, x = .ref a ∧ H a = some (.ins C dx fs) ∧ ((∃ b dy gs, y = .ref b ∧ H b = some (.ins C dy gs)) ∨ (∃ b xs, y = .ref b ∧ H b = some (.lst xs)) ∨ ∃ z, y = .str z) ∧ sp [x, y] H (fun v H' => ∃ b, v = .bl b ∧ Q (.bl b) H') (fun _ _ _ => False)
theorem op_eqO {X : Cx} {k : Nat} {f C : Addr} {fd : FuncData} {ps : List Str} {sp : Sp} (O : EqC X.K C f) (F : FnOk X.prog X.w X.K X.mg X.base CX0 k f fd ps sp) (hr : Room k X.A) (hb : Binds X.K fd ps []) : OpR X (compareOp .Eq) (rEqO C sp) := by
  intro pins s σ H x y v u Q I rx ry h
  obtain ⟨a, dx, fs, rfl, ea, hy, h⟩ := h
  obtain rfl : v = Value.ref a := rx
  obtain ⟨mA, J, _⟩ := ins_get I.hok ea
  obtain ⟨od, J, _⟩ := J.look
  obtain ⟨m, hF⟩ := I.fr
  show wpAny (model X.prog X.w) X.A (richCompare .Eq (.ref a) u) (EP X pins σ Q) X.xe s
  have go : ∀ (tb : Value), PySem.W.Looks (model X.prog X.w) s.heap (typeOf u) tb → PySem.W.notFirst X.K C tb = true → wpAny (model X.prog X.w) X.A (richCompare .Eq (.ref a) u) (EP X pins σ Q) X.xe s := fun tb ht hn => by
    refine PySem.W.cmp_K (op := .Eq) (tb := tb) hr.units0 hF I.ok.mod.kin J ht hn O.at_ O.fn ?_
    have r2 : Vals [V.ref a, y] [Value.ref a, u] := .cons rfl (.cons ry .nil)
    have hl := F.len _ _ _ _ h
    refine wpAny_call (codeAny_mono (F.run X.A X.stack s H ⟨[.ref a, u], []⟩ [.ref a, u] [.ref a, y] _ _ hr I.env0 (by
      have := hb s [.ref a, u] I.kIn (by simpa using hl)
      simpa using this) r2 h) fun r s' hq => ?_)
    cases r with
    | error e => exact False.elim hq
    | ok fl =>
      cases fl with
      | ret w' =>
        obtain ⟨z, H', I', rz, b, ez, q⟩ := I.after hq
        subst ez
        cases rz
        exact ⟨.bl b, H', I', rfl, q⟩
      | next => exact False.elim hq
      | brk => exact False.elim hq
      | cont => exact False.elim hq
  rcases hy with ⟨b, dy, gs, rfl, eb⟩ | ⟨b, xs, rfl, eb⟩ | ⟨z, rfl⟩
  · obtain rfl : u = Value.ref b := ry
    obtain ⟨mB, J', _⟩ := ins_get I.hok eb
    obtain ⟨od', J', _⟩ := J'.look
    exact go (.ref C) J'.type (by simp [PySem.W.notFirst])
  · obtain rfl : u = Value.ref b := ry
    obtain ⟨its, r, p, _⟩ := I.list (SqL.of (K := X.K) eb)
    obtain ⟨o, n, eo, ec, _, _⟩ := p
    exact go (.type "list") (by
      have l := (PySem.W.Looks.ld (M := model X.prog X.w) (part := some headPart) eo).andThen (f := fun ob => (pure ob.cls : Sem Value)) .now
      rw [ec] at l
      exact l) O.nl
  · obtain ⟨t, rfl⟩ := ry
    exact go (.type "str") (PySem.W.Looks.of_pure rfl) O.ns
end Rw

set_option Elab.async false
set_option linter.all false
set_option maxRecDepth 100000
set_option maxHeartbeats 4000000
/-! TkCB: what a comprehension lays is new; rows held against one another; what is told is new. -/
namespace Rw
open PySem PySem.Spec PyProof.Rows L2
theorem dnw_put {H H' : Hp} {D q : Addr} {o : HO} (h : H q = none) (ne : q ≠ D) : del (nw H (upd H' q o)) D q = some o := by
  rw [del_ne ne]
  exact nw_put h
theorem dnw_same {H H1 H2 : Hp} {D : Addr} (k : Same H1 H2) : Same (del (nw H H1) D) (del (nw H H2) D) := fun b o e => by
  by_cases z : b = D
  · rw [z, del_same] at e; cases e
  · rw [del_ne z] at e ⊢
    exact nw_same k b o e
theorem dnw_upd {H H1 : Hp} {D : Addr} {o : HO} : del (nw H (upd H1 D o)) D = del (nw H H1) D := by
  funext b
  by_cases z : b = D
  · rw [z, del_same, del_same]
  · rw [del_ne z, del_ne z]
    show (if H b = none then (upd H1 D o) b else none) = (if H b = none then H1 b else none)
    rw [upd_ne z]
theorem dnw_at {H H1 : Hp} {D b : Addr} {o : HO} (e : del (nw H H1) D b = some o) : H b = none ∧ H1 b = some o ∧ b ≠ D := by
  have ne : b ≠ D := fun z => by rw [z, del_same] at e; cases e
  rw [del_ne ne] at e
  have e' : (if H b = none then H1 b else none) = some o := e
  by_cases z : H b = none
  · rw [if_pos z] at e'
    exact ⟨z, e', ne⟩
  · rw [if_neg z] at e'
    cases e'
/-- of lists that are laid: what is laid is new -/
theorem lc_new {J : It} {n : Nat} {G : Hp → Prop} {P : Nat → V → Prop} (w : Walk J n G (fun i H x H' => H' = H ∧ P i x)) {j : Nat} {σ : L2.St} {vs : List Nat} {te : TE} {H0 H1 : Hp} {D : Addr} {Q : Hp → Prop} (hn : n ≤ 1000) (hD : H1 D = none) (hG : ∀ H, Same H1 H → G H) (f : Nat → PyData)
    (hs : ∀ i x H, i < n → P i x → Same H1 H → (∃ o, H D = some o) → wipe ((wipe σ vs).set j (some x)) vs = wipe σ vs ∧ ∀ k : VK, (∀ y H', Same H H' → Any (del (nw H0 H') D) y (f i) → k y H') → te ((wipe σ vs).set j (some x)) H k)
    (hq : ∀ H acc, Same H1 H → H D = some (.lst acc) → AnyL (del (nw H0 H) D) acc ((List.range n).map f) → Q H) :
    ∃ W : Nat → Nat → Hp → Prop, (∃ m, W 0 m (upd H1 D (.lst []))) ∧ ∀ i m H, W i m H →
      (J.stop i H ∧ Q H) ∨ (J.go i H ∧ ∃ Nx : Hp → Prop, (∀ H', Nx H' → ∃ m', m' < m ∧ W (i + 1) m' H') ∧ ∀ x H', J.yld i H x H' → gName j x (wipe σ vs) H' fun σ2 H2 => wipe σ2 vs = wipe σ vs ∧ tYes σ2 H2 fun b H3 =>
        if b = true then te σ2 H3 fun y H4 => ∃ acc, H4 D = some (.lst acc) ∧ acc.length < sizeLine ∧ Nx (upd H4 D (.lst (acc ++ [y]))) else Nx H3) := by
  refine lc_it w (Qd := Q) (Pv := fun i H => Same H1 H ∧ ∃ acc, H D = some (.lst acc) ∧ acc.length = i ∧ AnyL (del (nw H0 H) D) acc ((List.range i).map f)) ⟨same_new hD, [], upd_same, rfl, .nil⟩ (fun i H _ h => hG H h.1) ?_ ?_
  · rintro i x H H' hi ⟨s1, acc, ha, hl, an⟩ ⟨rfl, hp⟩
    obtain ⟨e1, e2⟩ := hs i x H' hi hp s1 ⟨_, ha⟩
    refine ⟨e1, ?_⟩
    show te _ _ _
    refine e2 _ fun y H4 s2 hy => ?_
    refine ⟨acc, s2 _ _ ha, Nat.lt_of_lt_of_le (by omega : acc.length < 1000) (by decide), ?_, acc ++ [y], upd_same, by rw [List.length_append, hl] <;> rfl, ?_⟩
    · intro b o e
      have ne : b ≠ D := ne_of_none e hD
      rw [upd_ne ne]
      exact s2 _ _ (s1 _ _ e)
    · rw [dnw_upd, List.range_succ, List.map_append]
      exact anyL_snoc (anyL_keep (dnw_same s2) an) hy
  · rintro H ⟨s1, acc, ha, hl, an⟩
    exact hq H acc s1 ha an
/-- rows told: the outer list and the sheets are new -/
def spMapsN (C : Addr) : Sp := fun vs H Q _ => ∃ a x p ss ms, vs = [.ref a] ∧ RowOf C H a x p ss ms ∧ ms.length ≤ 1000 ∧ (∀ m, m ∈ ms → m.length ≤ 1000) ∧ ∀ l acc H', H l = none → Same H H' → H' l = some (.lst acc) → AnyL (del H' l) acc (ms.map sheetD) →
  (∀ v, v ∈ acc → ∃ b xs, v = .ref b ∧ H b = none ∧ b ≠ l ∧ H' b = some (.lst xs) ∧ xs.length ≤ 1000) → Q (.ref l) H'
def spEqR (C : Addr) : Sp := fun vs H Q _ => ∃ a v x p ss ms, vs = [.ref a, v] ∧ RowOf C H a x p ss ms ∧
  ((∃ b y q ts ns, v = .ref b ∧ RowOf C H b y q ts ns ∧ Q (.bl (sameRow x p ss ms y q ts ns)) H) ∨ (((∃ b xs, v = .ref b ∧ H b = some (.lst xs)) ∨ ∃ z, v = .str z) ∧ Q (.bl false) H))
/-- isinstance of an own class, also of lists and texts -/
structure KitC (K : PySem.W.Frag) (C : Addr) : Prop where
  kl : PySem.W.kitOne K (.type "list") (.ref C) = some false
  ks : PySem.W.kitOne K (.type "str") (.ref C) = some false
theorem two_nats {K : PySem.W.Frag} {H : Hp} {x y : V} {ss ts : List Nat} {Q : VK} (a : Any H x (.tuple (ss.map natD))) (b : Any H y (.tuple (ts.map natD))) (q : Q (.bl (decide (ss = ts))) H) : rEqD K x y H Q := by
  refine eq_two a b (lay_nats ss) (lay_nats ts) (dep_nats ss) (dep_nats ts) ?_
  rw [PyData.eqv, eqvAll_map natD eqv_nat]
  exact q
theorem mats_tup (ms : List (List (List Int))) : PyData.tuple ((ms.map fun m => m.map tupI).map .tuple) = .tuple (ms.map tupM) := by
  rw [List.map_map]
  rfl
theorem two_mats {K : PySem.W.Frag} {H : Hp} {x y : V} {ms ns : List (List (List Int))} {Q : VK} (a : Any H x (.tuple ((ms.map fun m => m.map tupI).map .tuple))) (b : Any H y (.tuple ((ns.map fun m => m.map tupI).map .tuple))) (q : Q (.bl (decide (ms = ns))) H) : rEqD K x y H Q := by
  rw [mats_tup] at a b
  refine eq_two a b (lay_mats ms) (lay_mats ns) (dep_mats ms) (dep_mats ns) ?_
  rw [PyData.eqv, eqvAll_map tupM eqv_tupM]
  exact q
end Rw

set_option Elab.async false
set_option linter.all false
set_option maxRecDepth 100000
set_option maxHeartbeats 4000000
/-! TkCC: what a law asks of a row told. -/
namespace Rw
open PySem PySem.Spec PyProof.Rows L2
theorem ne_two {K : PySem.W.Frag} {H : Hp} {x y : V} {d e : PyData} {Q : VK} (a : Any H x d) (b : Any H y e) (c1 : d.canLay0 = true) (c2 : e.canLay0 = true) (l1 : d.depth ≤ 64) (l2 : e.depth ≤ 64) (q : Q (.bl (!PyData.eqv d e)) H) : rNeD K x y H Q := by
  refine ⟨d, e, any_dp d x a c1, any_dp e y b c2, ?_, ?_, q⟩
  · unfold SeqAt.shaped
    rw [c1, decide_eq_true l1] <;> rfl
  · unfold SeqAt.shaped
    rw [c2, decide_eq_true l2] <;> rfl
/-- pattern, prime, sizes, length -/
def heads (x : Str) (q : Int) (ss : List Nat) : PyData := .list [.str x, .int q, .tuple (ss.map natD), natD ss.length]
theorem heads_eqv (x : Str) (q : Int) (ss : List Nat) : PyData.eqv (heads x q ss) (heads x q ss) = true := by
  unfold heads
  have e1 : PyData.eqv (.tuple (ss.map natD)) (.tuple (ss.map natD)) = true := by
    rw [PyData.eqv, eqvAll_map natD eqv_nat, decide_eq_true rfl]
  rw [PyData.eqv, PyData.eqvAll, PyData.eqvAll, PyData.eqvAll, PyData.eqvAll, PyData.eqvAll, eqv_str, eqv_int, eqv_nat, e1, decide_eq_true rfl, decide_eq_true rfl, decide_eq_true rfl] <;> rfl
theorem lay_str {x : Str} {m : Nat} (px : Pat x m) : (PyData.str x).canLay0 = true := by
  simp only [PyData.canLay0]
  unfold PyData.strOk
  rw [← Array.all_toList]
  refine List.all_eq_true.mpr fun c hc => decide_eq_true ?_
  have := List.all_eq_true.mp px.a c hc
  unfold isArr at this
  simp only [Bool.or_eq_true, beq_iff_eq] at this
  omega
theorem lay_heads {x : Str} {m : Nat} (px : Pat x m) (q : Int) (ss : List Nat) : (heads x q ss).canLay0 = true := by
  refine lay_list fun d hd => ?_
  rcases List.mem_cons.mp hd with z | hd
  · rw [z]; exact lay_str px
  rcases List.mem_cons.mp hd with z | hd
  · rw [z]; first | rfl | simp only [PyData.canLay0]
  rcases List.mem_cons.mp hd with z | hd
  · rw [z]; exact lay_nats ss
  · rw [List.mem_singleton.mp hd]
    first | rfl | simp only [natD, PyData.canLay0]
theorem dep_heads (x : Str) (q : Int) (ss : List Nat) : (heads x q ss).depth ≤ 64 := by
  have h0 : PyData.depthAll (ss.map natD) ≤ 3 := dep_le fun d hd => by
    obtain ⟨s, _, rfl⟩ := List.mem_map.mp hd
    exact dep_int _
  have h1 : PyData.depthAll [.str x, .int q, .tuple (ss.map natD), natD ss.length] ≤ 10 := dep_le fun d hd => by
    rcases List.mem_cons.mp hd with z | hd
    · rw [z]; simp only [PyData.depth]; omega
    rcases List.mem_cons.mp hd with z | hd
    · rw [z]; simp only [PyData.depth]; omega
    rcases List.mem_cons.mp hd with z | hd
    · rw [z]; simp only [PyData.depth]; omega
    · rw [List.mem_singleton.mp hd]
      have := dep_int ((ss.length : Nat) : Int)
      show (PyData.int _).depth ≤ 10
      omega
  unfold heads
  simp only [PyData.depth]
  omega
theorem same_heads {K : PySem.W.Frag} {H : Hp} {v u : V} {x : Str} {m : Nat} {q : Int} {ss : List Nat} {Q : VK} (px : Pat x m) (a : Any H v (heads x q ss)) (b : Any H u (heads x q ss)) (k : Q (.bl false) H) : rNeD K v u H Q := by
  refine ne_two a b (lay_heads px q ss) (lay_heads px q ss) (dep_heads x q ss) (dep_heads x q ss) ?_
  rw [heads_eqv]
  exact k
theorem heads_any {H : Hp} {l : Addr} {v : V} {x : Str} {q : Int} {ss : List Nat} {n : Nat} (e : H l = some (.lst [.str x, .int q, v, .int (n : Nat)])) (a : Any H v (.tuple (ss.map natD))) (hn : n = ss.length) : Any H (.ref l) (heads x q ss) := by
  subst hn
  exact .lst e (.cons (.str x) (.cons (.int q) (.cons a (.cons (.int _) .nil))))
theorem in_ok {i n : Nat} (h : i < n) : inB (.int (i : Nat)) (.int 0) (.int ((n : Nat) - 1 : Int)) = true := by
  show (decide ((0 : Int) ≤ (i : Nat)) && decide (((i : Nat) : Int) ≤ (n : Nat) - 1)) = true
  rw [Bool.and_eq_true]
  exact ⟨decide_eq_true (by omega), decide_eq_true (by omega)⟩
/-- the matrices of a draft -/
abbrev mapsD (ms : List (List (List Int))) : PyData := .list (ms.map sheetD)
theorem tm_maps {x : Str} {q : Int} {ss : List Nat} {ms : List (List (List Int))} (g : Good x q ss ms) : Tm 3 (mapsD ms) := by
  have lx := g.p.l
  refine tm_list (by rw [List.length_map, g.d.ml]; omega) fun d hd => ?_
  exact (draft_sheet g.d g.q (Nat.le_refl _) d hd).tm
theorem lay_maps (ms : List (List (List Int))) : (mapsD ms).canLay0 = true := lay_list fun e he => by
  obtain ⟨m, _, rfl⟩ := List.mem_map.mp he
  refine lay_list fun e he => ?_
  obtain ⟨r, _, rfl⟩ := List.mem_map.mp he
  exact lay_tup (lay_ints r)
theorem dep_maps {x : Str} {q : Int} {ss : List Nat} {ms : List (List (List Int))} (g : Good x q ss ms) : (mapsD ms).depth ≤ 64 := by
  have := (tm_maps g).dp
  omega
theorem maps_eqv (ms ns : List (List (List Int))) : PyData.eqv (mapsD ms) (mapsD ns) = decide (ms = ns) := by
  rw [PyData.eqv]
  exact eqvAll_map sheetD eqv_sheet ms ns
theorem same_maps {K : PySem.W.Frag} {H : Hp} {v u : V} {x : Str} {q : Int} {ss : List Nat} {ms : List (List (List Int))} {Q : VK} (g : Good x q ss ms) (a : Any H v (mapsD ms)) (b : Any H u (mapsD ms)) (k : Q (.bl false) H) : rNeD K v u H Q := by
  refine ne_two a b (lay_maps ms) (lay_maps ms) (dep_maps g) (dep_maps g) ?_
  rw [maps_eqv, decide_eq_true rfl]
  exact k
theorem any_listD {H : Hp} {v : V} {ds : List PyData} (a : Any H v (.list ds)) : ∃ p ys, v = .ref p ∧ H p = some (.lst ys) ∧ AnyL H ys ds := by
  cases a with
  | lst e al => exact ⟨_, _, rfl, e, al⟩
theorem mat_get {ms : List (List (List Int))} {i : Nat} (h : i < ms.length) : (ms.map fun m => m.map tupI)[i]?.getD [] = ms[i].map tupI := by
  rw [List.getElem?_map, List.getElem?_eq_getElem h] <;> rfl
theorem noL_rowsT (m : List (List Int)) : noLs (m.map tupI) = true := noLs_of fun d hd => by
  obtain ⟨r, _, rfl⟩ := List.mem_map.mp hd
  exact noL_tupI r
def spTold (C : Addr) : Sp := fun vs H Q _ => ∃ v a x q ss ms, vs = [v, .ref a] ∧ Any H v (draftD x q ss ms) ∧ RowOf C H a x q ss ms ∧ Good x q ss ms ∧ ∀ H', Same H H' → Q (.bl true) H'
theorem good_high {x : Str} {q : Int} {ss : List Nat} {ms : List (List (List Int))} (g : Good x q ss ms) : ∀ m, m ∈ ms → m.length ≤ 6 := fun m hm => by
  obtain ⟨i, hi⟩ := List.getElem?_of_mem hm
  have := (g.d.mo i m hi).h
  rw [this]
  exact get_le g.d.sb _
structure RowLenAt2 (P : Program) (w : World) (K : PySem.W.Frag) (mg : Str → Option Value) (base : Heap) (C : Addr) : Prop where
  has : ∃ (f : Addr) (fd : FuncData), PySem.W.findIn K (.ref C) "__len__" = some (some (.ref f)) ∧ PySem.W.isFn K (.ref f) = true ∧ FnOk P w K mg base CX0 1 f fd ["self"] (spLenR C) ∧ Binds K fd ["self"] []
structure RowMatAt2 (P : Program) (w : World) (K : PySem.W.Frag) (mg : Str → Option Value) (base : Heap) (C CL : Addr) : Prop where
  has : ∃ (f : Addr) (fd : FuncData), Meth K C "matrix" f ∧ FnOk P w K mg base (L2.CX P w) 4 f fd ["self", "index"] (spMatx C CL) ∧ Binds K fd ["self", "index"] []
end Rw

set_option Elab.async false
set_option linter.all false
set_option maxRecDepth 100000
set_option maxHeartbeats 4000000
/-! TkCD: matrices as lists, the items otherwise by multiples of the prime, all new. -/
namespace Rw
open PySem PySem.Spec PyProof.Rows L2
def lstI (r : List Int) : PyData := .list (r.map .int)
def sheetL (w : List (List Int)) : PyData := .list (w.map lstI)
/-- the rows are none of the sheets, no sheet stands twice -/
def Ap (H : Hp) (vs : List V) : Prop := vs.Nodup ∧ ∀ b rs, V.ref b ∈ vs → H b = some (.lst rs) → ∀ r, r ∈ rs → r ∉ vs
def redR (q : Int) (r : List Int) : List Int := r.map fun e => e.fmod q
def redM (q : Int) (w : List (List Int)) : List (List Int) := w.map (redR q)
def smallR (r : List Int) : Prop := ∀ e, e ∈ r → e.natAbs.log2 < 400
def smallM (w : List (List Int)) : Prop := ∀ r, r ∈ w → smallR r
theorem anyL_mem {M : Hp} : ∀ {xs : List V} {ds : List PyData}, AnyL M xs ds → ∀ v, v ∈ xs → ∃ d, d ∈ ds ∧ Any M v d
  | _, _, .nil, v, h => nomatch h
  | _, _, .cons a r, v, h => by
    rcases List.mem_cons.mp h with z | z
    · rw [z]; exact ⟨_, List.mem_cons_self, a⟩
    · obtain ⟨d, h1, h2⟩ := anyL_mem r v z
      exact ⟨d, List.mem_cons_of_mem _ h1, h2⟩
theorem any_lstI {M : Hp} {v : V} {r : List Int} (a : Any M v (lstI r)) : ∃ c, v = .ref c ∧ M c = some (.lst (r.map V.int)) := by
  obtain ⟨c, ys, e1, e2, al⟩ := any_listD a
  rw [anyL_ints al] at e2
  exact ⟨c, e1, e2⟩
theorem rows_mem {M : Hp} {rs : List V} {w : List (List Int)} (al : AnyL M rs (w.map lstI)) : ∀ r, r ∈ rs → ∃ c e, r = .ref c ∧ e ∈ w ∧ M c = some (.lst (e.map V.int)) := fun r hr => by
  obtain ⟨d, hd, an⟩ := anyL_mem al r hr
  obtain ⟨e, he, rfl⟩ := List.mem_map.mp hd
  obtain ⟨c, e1, e2⟩ := any_lstI an
  exact ⟨c, e, e1, he, e2⟩
theorem sheets_mem {M : Hp} {acc : List V} {ws : List (List (List Int))} (al : AnyL M acc (ws.map sheetL)) : ∀ v, v ∈ acc → ∃ b rs w, v = .ref b ∧ w ∈ ws ∧ M b = some (.lst rs) ∧ AnyL M rs (w.map lstI) := fun v hv => by
  obtain ⟨d, hd, an⟩ := anyL_mem al v hv
  obtain ⟨w, hw, rfl⟩ := List.mem_map.mp hd
  obtain ⟨b, rs, e1, e2, al2⟩ := any_listD an
  exact ⟨b, rs, w, e1, hw, e2, al2⟩
theorem dl_at {H : Hp} {p b : Addr} {o : HO} (e : del H p b = some o) : b ≠ p ∧ H b = some o := by
  have ne : b ≠ p := fun z => by rw [z, del_same] at e; cases e
  rw [del_ne ne] at e
  exact ⟨ne, e⟩
theorem grow_free {H H2 : Hp} {p b : Addr} {o : HO} (g : Grow p H H2) (hp : H2 p = some o) (h : H2 b = none) : H b = none := by
  cases e : H b with
  | none => rfl
  | some u =>
    have ne : b ≠ p := fun z => by rw [z, hp] at h; cases h
    rw [g b u ne e] at h
    cases h
/-- what was new since later is new since earlier -/
theorem nw_nw {H H2 H3 : Hp} {p D G : Addr} {o u z : HO} (g : Grow p H H2) (hp : H2 p = some o) (hG : H2 G = some u) : Same (del (nw H2 H3) D) (del (nw H (upd H3 G z)) G) := fun b y e => by
  obtain ⟨h1, h2, h3⟩ := dnw_at e
  have ne : b ≠ G := fun z => by rw [z, hG] at h1; cases h1
  rw [del_ne ne]
  show (if H b = none then (upd H3 G z) b else none) = some y
  rw [if_pos (grow_free g hp h1), upd_ne ne]
  exact h2
theorem dnw_grow {H H1 H2 : Hp} {p D : Addr} {o : HO} (hp : H p = some o) (k : Grow p H1 H2) : Same (del (nw H H1) D) (del (nw H H2) D) := fun b u e => by
  by_cases z : b = D
  · rw [z, del_same] at e; cases e
  · rw [del_ne z] at e ⊢
    exact nw_grow hp k b u e
theorem ap_add {H H2 H3 : Hp} {p G D : Addr} {o u z : HO} {acc ac : List V} {ws : List (List (List Int))} {w : List (List Int)} (hp : H p = some o) (g3 : Grow p H2 H3) (hG : H2 G = some u) (hD : H2 D = none) (al : AnyL (del (nw H H2) G) acc (ws.map sheetL)) (ap : Ap H2 acc) (eD : H3 D = some (.lst ac)) (al2 : AnyL (del (nw H2 H3) D) ac (w.map lstI)) : Ap (upd H3 G z) (acc ++ [.ref D]) := by
  have old : ∀ b, V.ref b ∈ acc → ∃ (rs : List V) (w : List (List Int)), H b = none ∧ H2 b = some (.lst rs) ∧ b ≠ G ∧ AnyL (del (nw H H2) G) rs (w.map lstI) := fun b hb => by
    obtain ⟨b', rs, w, e1, _, e2, al⟩ := sheets_mem al _ hb
    cases e1
    obtain ⟨h1, h2, h3⟩ := dnw_at e2
    exact ⟨rs, w, h1, h2, h3, al⟩
  have DG : D ≠ G := fun y => by rw [y, hG] at hD; cases hD
  have nD : V.ref D ∉ acc := fun y => by
    obtain ⟨rs, w, _, h2, _⟩ := old D y
    rw [hD] at h2
    cases h2
  refine ⟨?_, fun b rs hb e r hr hm => ?_⟩
  · rw [List.nodup_append]
    refine ⟨ap.1, by simp, fun a ha b hb => ?_⟩
    rw [List.mem_singleton.mp hb]
    exact fun y => nD (by rw [← y]; exact ha)
  · rcases List.mem_append.mp hb with hb | hb
    · obtain ⟨rs2, w2, h1, h2, h3, al3⟩ := old b hb
      rw [upd_ne h3, g3 b _ (fun y => by rw [y, hp] at h1; cases h1) h2] at e
      cases e
      rcases List.mem_append.mp hm with hm | hm
      · exact ap.2 b _ hb h2 r hr hm
      · rw [List.mem_singleton.mp hm] at hr
        obtain ⟨c, e4, e5, _, e6⟩ := rows_mem al3 _ hr
        cases e5
        rw [(dnw_at e6).2.1] at hD
        cases hD
    · cases List.mem_singleton.mp hb
      rw [upd_ne DG, eD] at e
      cases e
      obtain ⟨c, e4, rfl, _, e6⟩ := rows_mem al2 _ hr
      obtain ⟨h1, h2, h3⟩ := dnw_at e6
      rcases List.mem_append.mp hm with hm | hm
      · obtain ⟨rs2, w2, _, h5, _⟩ := old c hm
        rw [h1] at h5
        cases h5
      · cases List.mem_singleton.mp hm
        exact h3 rfl
def spGrown : Sp := fun vs H Q _ => ∃ p v x q ss ms n, vs = [.ref p, v] ∧ Bx H p n ∧ n ≤ 500000 ∧ Any (del H p) v (draftD x q ss ms) ∧ Good x q ss ms ∧
  ∀ G acc (ws : List (List (List Int))) H', H G = none → Grow p H H' → Bx H' p (n + 216) → H' G = some (.lst acc) → AnyL (del (nw H H') G) acc (ws.map sheetL) → Ap H' acc → ws.map (redM q) = ms → (∀ w, w ∈ ws → smallM w) → Q (.ref G) H'
theorem grow_item {e q t : Int} (h0 : 0 ≤ e) (h1 : e < q) (hq : q < 20) (t0 : 0 ≤ t) (t1 : t < 5) : (e + q * (t - 2) * (10 ^ Int.toNat 27)).fmod q = e ∧ (e + q * (t - 2) * (10 ^ Int.toNat 27)).natAbs.log2 < 400 := by
  have e1 : (10 : Int) ^ Int.toNat 27 = 1000000000000000000000000000 := by decide
  rw [e1]
  constructor
  · rw [Int.fmod_eq_emod_of_nonneg _ (by omega), Int.mul_assoc, Int.add_mul_emod_self_left]
    exact Int.emod_eq_of_lt h0 h1
  · have b : (e + q * (t - 2) * 1000000000000000000000000000).natAbs < 10 ^ 40 := by
      have h2 : -60 ≤ q * (t - 2) ∧ q * (t - 2) ≤ 60 := by
        rcases (by omega : t = 0 ∨ t = 1 ∨ t = 2 ∨ t = 3 ∨ t = 4) with z | z | z | z | z <;> subst z <;> omega
      generalize q * (t - 2) = u at h2 ⊢
      omega
    exact log2_small b
end Rw

set_option Elab.async false
set_option linter.all false
set_option maxRecDepth 100000
set_option maxHeartbeats 4000000
/-! TkCE: a draft under change: its lists are new and apart. -/
namespace Rw
open PySem PySem.Spec PyProof.Rows L2
theorem Lt.grow {p : Addr} {H H' : Hp} {xs : List V} (g : Grow p H H') (h : H p = some (.lst xs)) : Lt H H' := fun b o e n => g b o (fun z => by rw [z, h] at e; exact n xs (Option.some.inj e).symm) e
def ShAt (H : Hp) (bs : List Addr) (ns : List (List (List Int))) : Prop := bs.length = ns.length ∧ ∀ (i : Nat) (b : Addr) (m : List (List Int)), bs[i]? = some b → ns[i]? = some m → ∃ rs, H b = some (.lst rs) ∧ AnyL H rs (m.map tupI)
theorem ShAt.lt {H H' : Hp} {bs : List Addr} {ns : List (List (List Int))} (h : ShAt H bs ns) (k : Lt H H') (e : ∀ b o, b ∈ bs → H b = some o → H' b = some o) : ShAt H' bs ns :=
  ⟨h.1, fun i b m hb hm => by
    obtain ⟨rs, h1, h2⟩ := h.2 i b m hb hm
    exact ⟨rs, e b _ (List.mem_of_getElem? hb) h1, anyL_lt k _ _ h2 (noL_rowsT m)⟩⟩
/-- a draft whose lists are new -/
structure Ot (H0 H : Hp) (F A M : Addr) (bs : List Addr) (y : Str) (q : Int) (ts : List Nat) (ns : List (List (List Int))) : Prop where
  f : H F = some (.lst [.str y, .int q, .ref A, .ref M])
  a : H A = some (.lst (ts.map fun s => V.int (s : Nat)))
  m : H M = some (.lst (bs.map V.ref))
  nf : H0 F = none
  na : H0 A = none
  nm : H0 M = none
  nb : ∀ b, b ∈ bs → H0 b = none
  fa : F ≠ A
  fm : F ≠ M
  am : A ≠ M
  bx : ∀ b, b ∈ bs → b ≠ F ∧ b ≠ A ∧ b ≠ M
  nd : bs.Nodup
  sh : ShAt H bs ns
section
variable {H0 H H' : Hp} {p F A M : Addr} {bs : List Addr} {y : Str} {q : Int} {ts : List Nat} {ns : List (List (List Int))}
theorem Ot.grow {xs : List V} {o : HO} (h : Ot H0 H F A M bs y q ts ns) (hp : H0 p = some o) (hq : H p = some (.lst xs)) (g : Grow p H H') : Ot H0 H' F A M bs y q ts ns := by
  have ne : ∀ b, H0 b = none → b ≠ p := fun b hb z => by rw [z, hp] at hb; cases hb
  exact ⟨g _ _ (ne _ h.nf) h.f, g _ _ (ne _ h.na) h.a, g _ _ (ne _ h.nm) h.m, h.nf, h.na, h.nm, h.nb, h.fa, h.fm, h.am, h.bx, h.nd, h.sh.lt (Lt.grow g hq) fun b o hb e => g _ _ (ne _ (h.nb b hb)) e⟩
theorem Ot.keep (h : Ot H0 H F A M bs y q ts ns) (k : Same H H') : Ot H0 H' F A M bs y q ts ns :=
  ⟨k _ _ h.f, k _ _ h.a, k _ _ h.m, h.nf, h.na, h.nm, h.nb, h.fa, h.fm, h.am, h.bx, h.nd, h.sh.lt (Lt.of k) fun b o _ e => k _ _ e⟩
theorem sheets_any {M0 : Hp} : ∀ {bs : List Addr} {ns : List (List (List Int))}, bs.length = ns.length → (∀ (i : Nat) (b : Addr) (m : List (List Int)), bs[i]? = some b → ns[i]? = some m → ∃ rs, M0 b = some (.lst rs) ∧ AnyL M0 rs (m.map tupI)) → AnyL M0 (bs.map V.ref) (ns.map sheetD)
  | [], [], _, _ => .nil
  | b :: bs, m :: ns, hl, h => by
    obtain ⟨rs, e1, e2⟩ := h 0 b m rfl rfl
    exact .cons (.lst e1 e2) (sheets_any (by simpa using hl) fun i b' m' h1 h2 => h (i + 1) b' m' (by simpa using h1) (by simpa using h2))
theorem Ot.any {xs : List V} {o : HO} (h : Ot H0 H F A M bs y q ts ns) (hp : H0 p = some o) (hq : H p = some (.lst xs)) : Any (del H p) (.ref F) (draftD y q ts ns) := by
  have ne : ∀ b, H0 b = none → b ≠ p := fun b hb z => by rw [z, hp] at hb; cases hb
  refine .lst (by rw [del_ne (ne _ h.nf)]; exact h.f) (.cons (.str y) (.cons (.int q) (.cons (.lst (by rw [del_ne (ne _ h.na)]; exact h.a) (nats_anyL ts)) (.cons (.lst (by rw [del_ne (ne _ h.nm)]; exact h.m) (sheets_any h.sh.1 fun i b m h1 h2 => ?_)) .nil))))
  obtain ⟨rs, e1, e2⟩ := h.sh.2 i b m h1 h2
  exact ⟨rs, by rw [del_ne (ne _ (h.nb b (List.mem_of_getElem? h1)))]; exact e1, anyL_noL hq _ _ e2 (noL_rowsT m)⟩
end
def spOther : Sp := fun vs H Q _ => ∃ p v x q ss ms n, vs = [.ref p, v] ∧ Bx H p n ∧ n ≤ 500000 ∧ Any (del H p) v (draftD x q ss ms) ∧ Good x q ss ms ∧
  ∀ l H' y q2 ts ns, Good y q2 ts ns → Grow p H H' → Bx H' p (n + 10) → Any (del H' p) (.ref l) (draftD y q2 ts ns) → Q (.ref l) H'
end Rw

set_option Elab.async false
set_option linter.all false
set_option maxRecDepth 100000
set_option maxHeartbeats 4000000
/-! TkCF: drafts changed in one thing: what stays right. -/
namespace Rw
open PySem PySem.Spec PyProof.Rows L2
theorem shnew_add {H1 H2 H3 : Hp} {M l : Addr} {bs : List Addr} {ms : List (List (List Int))} {m : List (List Int)} {rs : List V} (s1 : Same H1 H2) (nd : bs.Nodup) (nb : ∀ b, b ∈ bs → H1 b = none ∧ b ≠ M ∧ ∃ o, H2 b = some o) (sh : ShAt H2 bs ms) (hM : H1 M = none) (eM : H2 M = some (.lst (bs.map V.ref))) (hl : H2 l = none) (k : Same H2 H3) (el : H3 l = some (.lst rs)) (al : AnyL H3 rs (m.map tupI)) :
    ∃ bs2 : List Addr, Same H1 (upd H3 M (.lst (bs.map V.ref ++ [.ref l]))) ∧ (upd H3 M (.lst (bs.map V.ref ++ [.ref l]))) M = some (.lst (bs2.map V.ref)) ∧ bs2.Nodup ∧ (∀ b, b ∈ bs2 → H1 b = none ∧ b ≠ M ∧ ∃ o, (upd H3 M (.lst (bs.map V.ref ++ [.ref l]))) b = some o) ∧ ShAt (upd H3 M (.lst (bs.map V.ref ++ [.ref l]))) bs2 (ms ++ [m]) := by
  have lM : l ≠ M := fun z => by rw [z, eM] at hl; cases hl
  have k3 := k _ _ eM
  have lt : Lt H3 (upd H3 M (.lst (bs.map V.ref ++ [.ref l]))) := Lt.put k3
  refine ⟨bs ++ [l], fun b o e => ?_, by rw [List.map_append]; exact upd_same, ?_, fun b hb => ?_, ?_, fun i b m' h1 h2 => ?_⟩
  · rw [upd_ne (ne_of_none e hM)]
    exact k _ _ (s1 _ _ e)
  · rw [List.nodup_append]
    refine ⟨nd, by simp, fun a ha b hb => ?_⟩
    rw [List.mem_singleton.mp hb]
    intro z
    obtain ⟨_, _, o, e⟩ := nb a ha
    rw [z, hl] at e
    cases e
  · rcases List.mem_append.mp hb with z | z
    · obtain ⟨h1, h2, o, e⟩ := nb b z
      exact ⟨h1, h2, o, by rw [upd_ne h2]; exact k _ _ e⟩
    · rw [List.mem_singleton.mp z]
      exact ⟨s1.free hl, lM, _, by rw [upd_ne lM]; exact el⟩
  · rw [List.length_append, List.length_append, sh.1] <;> rfl
  · by_cases hi : i < bs.length
    · rw [List.getElem?_append_left hi] at h1
      rw [List.getElem?_append_left (by rw [← sh.1]; exact hi)] at h2
      obtain ⟨rs', e1, e2⟩ := sh.2 i b m' h1 h2
      obtain ⟨_, bM, _⟩ := nb b (List.mem_of_getElem? h1)
      exact ⟨rs', by rw [upd_ne bM]; exact k _ _ e1, anyL_lt ((Lt.of k).trans lt) _ _ e2 (noL_rowsT _)⟩
    · rw [List.getElem?_append_right (by omega)] at h1
      rw [List.getElem?_append_right (by rw [← sh.1]; omega)] at h2
      have h0 : i - bs.length = 0 := by
        have := (List.getElem?_eq_some_iff.mp h1).1
        simp at this
        omega
      rw [h0] at h1
      rw [← sh.1, h0] at h2
      have e1 : l = b := by simpa using h1
      have e2 : m = m' := by simpa using h2
      subst e1
      subst e2
      exact ⟨rs, by rw [upd_ne lM]; exact el, anyL_lt lt _ _ al (noL_rowsT _)⟩
theorem bx_on {H H' : Hp} {p : Addr} {n : Nat} (b : Bx H p n) (k : ∀ o, H p = some o → H' p = some o) : Bx H' p n := by
  obtain ⟨c1, c2, c3, h1, rest⟩ := b
  exact ⟨c1, c2, c3, k _ h1, rest⟩
theorem ne_unit {K : PySem.W.Frag} {H : Hp} {v u : V} {r : List Int} {Q : VK} (hr : r.length ≤ 1000) (a : Any H v (tupI r)) (b : Any H u (.tuple [])) (k : Q (.bl (!r.isEmpty)) H) : rNeD K v u H Q := by
  have d1 : (tupI r).depth ≤ 64 := by
    have : PyData.depthAll (r.map PyData.int) ≤ 3 := dep_le fun d hd => by
      obtain ⟨s, _, rfl⟩ := List.mem_map.mp hd
      exact dep_int _
    unfold tupI
    simp only [PyData.depth]
    omega
  refine ne_two a b (lay_tupI r) (lay_tup fun d hd => nomatch hd) d1 (by decide) ?_
  have e : PyData.eqv (tupI r) (.tuple []) = r.isEmpty := by
    have := eqv_tupI r []
    unfold tupI at this ⊢
    rw [List.map_nil] at this
    rw [this]
    cases r with
    | nil => rfl
    | cons a t => exact decide_eq_false fun z => nomatch z
  rw [e]
  exact k
/-! ### the next prime -/
def nextK : List (Key × V) := [(.inl 2, .int 3), (.inl 3, .int 5), (.inl 5, .int 7), (.inl 7, .int 11), (.inl 11, .int 13), (.inl 13, .int 2)]
theorem next_val {q : Int} (h : q ∈ primesL) : ∃ r, r ∈ primesL ∧ some (V.int r) = valV (mergeK [] nextK) (.inl q) := by
  simp only [primesL, List.mem_cons, List.not_mem_nil, or_false] at h
  rcases h with z | z | z | z | z | z <;> subst z
  · exact ⟨3, by decide, rfl⟩
  · exact ⟨5, by decide, rfl⟩
  · exact ⟨7, by decide, rfl⟩
  · exact ⟨11, by decide, rfl⟩
  · exact ⟨13, by decide, rfl⟩
  · exact ⟨2, by decide, rfl⟩
theorem draft_mod {y : Str} {q r : Int} {ts : List Nat} {ns : List (List (List Int))} (d : Draft y q 6 ts ns) (hr : 0 < r) : Draft y r 6 ts (ns.map (redM r)) := by
  refine ⟨d.sl, d.sb, by rw [List.length_map]; exact d.ml, fun i m hm => ?_⟩
  rw [List.getElem?_map] at hm
  cases e : ns[i]? with
  | none => rw [e] at hm; cases hm
  | some m0 =>
    rw [e] at hm
    cases Option.some.inj hm
    have o := d.mo i m0 e
    refine ⟨by unfold redM; rw [List.length_map]; exact o.h, fun x hx => ?_⟩
    obtain ⟨x0, h0, rfl⟩ := List.mem_map.mp hx
    refine ⟨by unfold redR; rw [List.length_map]; exact (o.w x0 h0).1, fun e he => ?_⟩
    obtain ⟨e0, _, rfl⟩ := List.mem_map.mp he
    rw [Int.fmod_eq_emod_of_nonneg _ (by omega)]
    exact ⟨Int.emod_nonneg _ (by omega), Int.emod_lt_of_pos _ hr⟩
theorem draft_item {y : Str} {q v : Int} {ts : List Nat} {ns : List (List (List Int))} {k j : Nat} {m : List (List Int)} {r : List Int} (d : Draft y q 6 ts ns) (hm : ns[k]? = some m) (hr : m[j]? = some r) (v0 : 0 ≤ v) (v1 : v < q) : Draft y q 6 ts (ns.set k (m.set j (r.set 0 v))) := by
  refine ⟨d.sl, d.sb, by rw [List.length_set]; exact d.ml, fun i m' h => ?_⟩
  by_cases z : k = i
  · subst z
    rw [List.getElem?_set_self (List.getElem?_eq_some_iff.mp hm).1] at h
    cases Option.some.inj h
    have o := d.mo k m hm
    refine ⟨by rw [List.length_set]; exact o.h, fun x hx => ?_⟩
    rcases List.mem_or_eq_of_mem_set hx with h1 | h1
    · exact o.w x h1
    · subst h1
      obtain ⟨w1, w2⟩ := o.w r (List.mem_of_getElem? hr)
      refine ⟨by rw [List.length_set]; exact w1, fun e he => ?_⟩
      rcases List.mem_or_eq_of_mem_set he with h2 | h2
      · exact w2 e h2
      · rw [h2]; exact ⟨v0, v1⟩
  · rw [List.getElem?_set_ne z] at h
    exact d.mo i m' h
theorem nodup_inj {α : Type} : ∀ {l : List α} (_ : l.Nodup) {i j : Nat} {a : α} (_ : l[i]? = some a) (_ : l[j]? = some a), i = j
  | [], _, i, j, a, h, _ => by simp at h
  | x :: l, nd, 0, 0, a, _, _ => rfl
  | x :: l, nd, 0, j + 1, a, h1, h2 => by
    have e : x = a := by simpa using h1
    subst e
    exact absurd (List.mem_of_getElem? (by simpa using h2)) (List.nodup_cons.mp nd).1
  | x :: l, nd, i + 1, 0, a, h1, h2 => by
    have e : x = a := by simpa using h2
    subst e
    exact absurd (List.mem_of_getElem? (by simpa using h1)) (List.nodup_cons.mp nd).1
  | x :: l, nd, i + 1, j + 1, a, h1, h2 => by
    rw [nodup_inj (List.nodup_cons.mp nd).2 (i := i) (j := j) (by simpa using h1) (by simpa using h2)]
/-- one sheet's row exchanged -/
theorem ShAt.row {H : Hp} {bs : List Addr} {ns : List (List (List Int))} {k j : Nat} {b t : Addr} {m : List (List Int)} {r : List Int} {rs : List V} (h : ShAt H bs ns) (nd : bs.Nodup) (hb : bs[k]? = some b) (hm : ns[k]? = some m) (eb : H b = some (.lst rs)) (al : AnyL H rs (m.map tupI)) (et : H t = some (.tup (r.map V.int))) : ShAt (upd H b (.lst (rs.set j (.ref t)))) bs (ns.set k (m.set j r)) := by
  have lt : Lt H (upd H b (.lst (rs.set j (.ref t)))) := Lt.put eb
  refine ⟨by rw [List.length_set]; exact h.1, fun i b' m' h1 h2 => ?_⟩
  by_cases z : k = i
  · subst z
    rw [hb] at h1
    cases Option.some.inj h1
    rw [List.getElem?_set_self (List.getElem?_eq_some_iff.mp hm).1] at h2
    cases Option.some.inj h2
    refine ⟨_, upd_same, anyL_lt lt _ _ ?_ (noL_rowsT _)⟩
    rw [List.map_set]
    exact anyL_set al (tupI_any et)
  · rw [List.getElem?_set_ne z] at h2
    obtain ⟨rs', e1, e2⟩ := h.2 i b' m' h1 h2
    have ne : b' ≠ b := fun y => by
      subst y
      have i1 := (List.getElem?_eq_some_iff.mp h1)
      have i2 := (List.getElem?_eq_some_iff.mp hb)
      obtain ⟨l1, g1⟩ := i1
      obtain ⟨l2, g2⟩ := i2
      exact z (nodup_inj nd h1 hb).symm
    exact ⟨rs', by rw [upd_ne ne]; exact e1, anyL_lt lt _ _ e2 (noL_rowsT _)⟩
theorem draft_flip {y z : Str} {q : Int} {ts : List Nat} {ns : List (List (List Int))} (d : Draft y q 6 ts ns) (hl : z.length = y.length) (h0 : ∀ s, s ∈ ts → s = 0) : Draft z q 6 ts ns := by
  have g0 : ∀ i : Nat, ts[i]?.getD 0 = 0 := fun i => by
    cases e : ts[i]? with
    | none => rfl
    | some s => exact h0 s (List.mem_of_getElem? e)
  refine ⟨by rw [hl]; exact d.sl, d.sb, by rw [hl]; exact d.ml, fun i m hm => ?_⟩
  have := d.mo i m hm
  rw [g0, g0] at this ⊢
  exact this
theorem draft_low {y : Str} {q : Int} {ts : List Nat} {ns : List (List (List Int))} {s : Nat} (d : Draft y q 6 ts ns) (hl : ts.length = 1) (hs : s ≤ 6) : Draft y q 6 (ts.set 0 s) ns := by
  have l0 : y.length = 0 := by have := d.sl; omega
  have n0 : ns = [] := List.length_eq_zero_iff.mp (by rw [d.ml]; exact l0)
  refine ⟨by rw [List.length_set]; exact d.sl, fun t ht => ?_, d.ml, fun i m hm => ?_⟩
  · rcases List.mem_or_eq_of_mem_set ht with h | h
    · exact d.sb t h
    · omega
  · rw [n0] at hm
    cases hm
def flipK : List (Key × V) := [(.inr ">", .str "<"), (.inr "<", .str ">")]
theorem flip_val {c : Nat} (h : isArr c = true) : ∃ u : Nat, isArr u = true ∧ some (V.str ⟨#[u]⟩) = valV (mergeK [] flipK) (.inr ⟨#[c]⟩) := by
  unfold isArr at h
  rw [Bool.or_eq_true, beq_iff_eq, beq_iff_eq] at h
  rcases h with z | z <;> subst z
  · exact ⟨60, by decide, by decide⟩
  · exact ⟨62, by decide, by decide⟩
theorem flip_pat {y : Str} {u : Nat} (py : Pat y 6) (hy : y.length ≠ 0) (hu : isArr u = true) : Pat ((⟨#[u]⟩ : Str) ++ cutS y (some 1) none) 6 ∧ ((⟨#[u]⟩ : Str) ++ cutS y (some 1) none).length = y.length := by
  have e : ((⟨#[u]⟩ : Str) ++ cutS y (some 1) none).cps.toList = u :: y.cps.toList.drop 1 := by
    show (#[u] ++ (cutS y (some 1) none).cps).toList = _
    rw [Array.toList_append]
    have e1 : HT.sIx y.length 0 (some 1) = 1 := by
      have := HT.sIx_nat y.length 0 1
      rw [Nat.min_eq_left (by omega)] at this
      exact this
    have e2 : HT.sIx y.length y.length none = y.length := HT.sIx_none _ _
    show [u] ++ ((y.cps.toList.drop (HT.sIx y.length 0 (some 1))).take (HT.sIx y.length y.length none - HT.sIx y.length 0 (some 1))) = _
    rw [e1, e2, List.take_of_length_le (by rw [List.length_drop, str_len]; omega)] <;> rfl
  have l : ((⟨#[u]⟩ : Str) ++ cutS y (some 1) none).length = y.length := by
    rw [← str_len, e, List.length_cons, List.length_drop, str_len]
    omega
  refine ⟨⟨by rw [l]; exact py.l, ?_⟩, l⟩
  rw [e, List.all_cons, hu, Bool.true_and]
  exact List.all_eq_true.mpr fun c hc => List.all_eq_true.mp py.a c (List.mem_of_mem_drop hc)
end Rw

set_option Elab.async false
set_option linter.all false
set_option maxRecDepth 100000
set_option maxHeartbeats 4000000
/-! TkCG: rows made of what was handed in; what was handed in is changed. -/
namespace Rw
open PySem PySem.Spec PyProof.Rows L2
theorem good_of {x : Str} {q : Int} {ds dm : PyData} (px : Pat x 6) (hq : q ∈ primesL) (hs : sizesOk x.length ds = true) (hl : isSeqD dm = true) (l : (itemsD dm).length = x.length) (hm : ∀ k, k < x.length → matOk x ds dm k = true) : rowGood x q ds dm = true := by
  unfold rowGood
  have e1 : isPatD (.str x) = true := by
    show (decide (x.length ≤ 6) && x.cps.toList.all isArr) = true
    rw [decide_eq_true px.l, px.a] <;> rfl
  have e2 : isPr (.int q) = true := decide_eq_true hq
  have e3 : mapsOk x.length dm = true := by
    unfold mapsOk
    rw [Bool.and_eq_true]
    exact ⟨hl, decide_eq_true (by rw [l])⟩
  rw [e1, e2, hs, e3, bad_none hm] <;> rfl
theorem sheetL_is {q : Int} {h w : Nat} {u : List (List Int)} (k : MatOk q h w (redM q u)) : isMatD (h : Nat) (w : Nat) (sheetL u) = true := by
  unfold isMatD
  rw [Bool.and_eq_true, Bool.and_eq_true]
  have lh := k.h
  unfold redM at lh
  rw [List.length_map] at lh
  refine ⟨rfl, decide_eq_true (by show (((u.map lstI).length : Nat) : Int) = _; rw [List.length_map, lh]), List.all_eq_true.mpr fun d hd => ?_⟩
  obtain ⟨r, hr, rfl⟩ := List.mem_map.mp hd
  have lw := (k.w (redR q r) (List.mem_map_of_mem hr)).1
  unfold redR at lw
  rw [List.length_map] at lw
  unfold isVecD
  rw [Bool.and_eq_true, Bool.and_eq_true]
  refine ⟨rfl, decide_eq_true (by show (((r.map PyData.int).length : Nat) : Int) = _; rw [List.length_map, lw]), List.all_eq_true.mpr fun e he => ?_⟩
  obtain ⟨n, _, rfl⟩ := List.mem_map.mp he
  rfl
section
variable {x : Str} {q : Int} {ss : List Nat} {ms ws : List (List (List Int))}
theorem grown_good (g : Good x q ss ms) (e : ws.map (redM q) = ms) : rowGood x q (.list (ss.map natD)) (.list (ws.map sheetL)) = true := by
  have lw : ws.length = x.length := by rw [← g.d.ml, ← e, List.length_map]
  refine good_of g.p g.q (nats_ok g.d.sl g.d.sb) rfl (by show (ws.map sheetL).length = _; rw [List.length_map, lw]) fun k hk => ?_
  have hk2 : k < ws.length := by omega
  have h1 : ms[k]? = some (redM q ws[k]) := by rw [← e, List.getElem?_map, List.getElem?_eq_getElem hk2] <;> rfl
  have h2 : atD (.list (ws.map sheetL)) k = sheetL ws[k] := atD_get (by
    show (ws.map sheetL)[k]? = _
    rw [List.getElem?_map, List.getElem?_eq_getElem hk2] <;> rfl)
  unfold matOk
  rw [h2, nats_sz, nats_sz]
  exact sheetL_is (g.d.mo k _ h1)
theorem rows_red (u : List (List Int)) : rowsM q (sheetL u) = (redM q u).map tupI := by
  unfold rowsM redM
  show (u.map lstI).map (fun r => PyData.tuple ((itemsD r).map (modD q))) = _
  rw [List.map_map, List.map_map]
  refine List.map_congr_left fun r _ => ?_
  show PyData.tuple ((r.map PyData.int).map (modD q)) = .tuple ((redR q r).map .int)
  unfold redR
  rw [List.map_map, List.map_map]
  rfl
theorem grown_rows (e : ws.map (redM q) = ms) : (itemsD (.list (ws.map sheetL))).map (rowsM q) = ms.map fun m => m.map tupI := by
  show (ws.map sheetL).map (rowsM q) = _
  rw [← e, List.map_map, List.map_map]
  exact List.map_congr_left fun u _ => rows_red u
theorem fit_lst {r : List Int} (l : r.length ≤ 1000) (s : smallR r) : Fit1 (lstI r) := ⟨by show (r.map PyData.int).length ≤ _; rw [List.length_map]; exact l, fun n hn => by
  obtain ⟨e, he, h⟩ := List.mem_map.mp (show PyData.int n ∈ r.map PyData.int from hn)
  injection h with h
  subst h
  exact s e he⟩
theorem grown_fit (g : Good x q ss ms) (e : ws.map (redM q) = ms) (sm : ∀ w, w ∈ ws → smallM w) : FitM (.list (ws.map sheetL)) := by
  have lw : ws.length = x.length := by rw [← g.d.ml, ← e, List.length_map]
  have lx := g.p.l
  refine ⟨by show (ws.map sheetL).length ≤ _; rw [List.length_map]; omega, fun d hd => ?_⟩
  obtain ⟨u, hu, rfl⟩ := List.mem_map.mp (show d ∈ ws.map sheetL from hd)
  obtain ⟨k, hk⟩ := List.getElem?_of_mem hu
  have h1 : ms[k]? = some (redM q u) := by rw [← e, List.getElem?_map, hk] <;> rfl
  have o := g.d.mo k _ h1
  have lh : u.length ≤ 6 := by
    have := o.h
    unfold redM at this
    rw [List.length_map] at this
    rw [this]
    exact get_le g.d.sb _
  refine ⟨⟨by show (u.map lstI).length ≤ _; rw [List.length_map]; omega, fun n hn => ?_⟩, fun r hr => ?_⟩
  · obtain ⟨r, _, h⟩ := List.mem_map.mp (show PyData.int n ∈ u.map lstI from hn)
    cases h
  · obtain ⟨r, h2, rfl⟩ := List.mem_map.mp (show r ∈ u.map lstI from hr)
    refine fit_lst ?_ (sm u hu r h2)
    have := (o.w (redR q r) (List.mem_map_of_mem h2)).1
    unfold redR at this
    rw [List.length_map] at this
    rw [this]
    exact Nat.le_trans (get_le g.d.sb _) (by decide)
theorem twin_good (g : Good x q ss ms) : rowGood x q (.tuple (ss.map natD)) (.tuple (ms.map sheetD)) = true := by
  have e3 : sizesOk x.length (.tuple (ss.map natD)) = true := by
    have := nats_ok g.d.sl g.d.sb
    unfold sizesOk at this ⊢
    rw [Bool.and_eq_true] at this ⊢
    exact ⟨rfl, this.2⟩
  refine good_of g.p g.q e3 rfl (by show (ms.map sheetD).length = _; rw [List.length_map, g.d.ml]) fun k hk => ?_
  have hk2 : k < ms.length := by rw [g.d.ml]; exact hk
  have h1 : ms[k]? = some ms[k] := List.getElem?_eq_getElem hk2
  have h2 : atD (.tuple (ms.map sheetD)) k = sheetD ms[k] := atD_get (by
    show (ms.map sheetD)[k]? = _
    rw [List.getElem?_map, h1] <;> rfl)
  unfold matOk
  have n1 : ∀ u, szL (.tuple (ss.map natD)) u = szL (.list (ss.map natD)) u := fun u => rfl
  rw [h2, n1, n1, nats_sz, nats_sz]
  exact mat_is (g.d.mo k _ h1)
theorem twin_fit (g : Good x q ss ms) : FitM (.tuple (ms.map sheetD)) := by
  have f := draft_fitM g.d g.p g.q (Nat.le_refl _)
  exact ⟨f.len, f.sub⟩
theorem sameRow_comm (y : Str) (p : Int) (ts : List Nat) (ns : List (List (List Int))) : sameRow x q ss ms y p ts ns = sameRow y p ts ns x q ss ms := by
  unfold sameRow
  rw [decide_eq_decide.mpr (show (x = y) ↔ (y = x) from eq_comm), decide_eq_decide.mpr (show (q = p) ↔ (p = q) from eq_comm), decide_eq_decide.mpr (show (ss = ts) ↔ (ts = ss) from eq_comm), decide_eq_decide.mpr (show (ms = ns) ↔ (ns = ms) from eq_comm)]
theorem sameRow_self : sameRow x q ss ms x q ss ms = true := by
  unfold sameRow
  rw [decide_eq_true rfl, decide_eq_true rfl, decide_eq_true rfl, decide_eq_true rfl] <;> rfl
/-- a row with sizes 0 alone -/
theorem zero_good (px : Pat x 6) (hq : q ∈ primesL) : Good x q (List.replicate (x.length + 1) 0) (List.replicate x.length []) := by
  refine ⟨⟨List.length_replicate, fun s hs => by rw [List.eq_of_mem_replicate hs]; omega, List.length_replicate, fun i m hm => ?_⟩, px, hq⟩
  have hi := (List.getElem?_eq_some_iff.mp hm)
  obtain ⟨l, e⟩ := hi
  rw [List.getElem_replicate] at e
  subst e
  have z : ∀ j : Nat, (List.replicate (x.length + 1) 0)[j]?.getD 0 = 0 := fun j => by
    rw [List.getElem?_replicate]
    split <;> rfl
  rw [z, z]
  exact ⟨rfl, fun r hr => nomatch hr⟩
end
theorem draft_rd {H : Hp} {p D : Addr} {x : Str} {q : Int} {ss : List Nat} {ms : List (List (List Int))} (a : Any (del H p) (.ref D) (draftD x q ss ms)) : ∃ v2 v3, H D = some (.lst [.str x, .int q, v2, v3]) ∧ Any H v2 (.list (ss.map natD)) ∧ Any H v3 (mapsD ms) ∧ Any H (.ref D) (draftD x q ss ms) := by
  obtain ⟨dp, v0, v1, v2, v3, e0, ed, a0, a1, a2, a3⟩ := any_list4 a
  cases e0
  cases a0
  cases a1
  exact ⟨v2, v3, (dl_at ed).2, a2.keep same_del, a3.keep same_del, a.keep same_del⟩
theorem bars_len {n : Nat} (h : n ≤ 7) : (barsL n).length ≤ 49 := by
  have h1 := pre_len n n
  have h3 : n * n ≤ 7 * 7 := Nat.mul_le_mul h h
  exact Nat.le_trans h1 h3
theorem pat_is {x : Str} (px : Pat x 6) : isPatD (.str x) = true := by
  show (decide (x.length ≤ 6) && x.cps.toList.all isArr) = true
  rw [decide_eq_true px.l, px.a] <;> rfl
/-! ### bars -/
theorem eqv_bar (a b : Nat × Nat) : PyData.eqv (barD a) (barD b) = decide (a = b) := by
  obtain ⟨a1, a2⟩ := a
  obtain ⟨b1, b2⟩ := b
  unfold barD
  rw [PyData.eqv, PyData.eqvAll, PyData.eqvAll, PyData.eqvAll, Bool.and_true]
  have h1 := eqv_nat a1 b1
  have h2 := eqv_nat a2 b2
  unfold natD at h1 h2
  rw [h1, h2]
  by_cases e1 : a1 = b1
  · by_cases e2 : a2 = b2
    · rw [decide_eq_true e1, decide_eq_true e2, decide_eq_true (by rw [e1, e2])] <;> rfl
    · rw [decide_eq_true e1, decide_eq_false e2, decide_eq_false (fun z => e2 (Prod.mk.inj z).2)] <;> rfl
  · rw [decide_eq_false e1, decide_eq_false (fun z => e1 (Prod.mk.inj z).1), Bool.false_and]
theorem same_bars {K : PySem.W.Frag} {H : Hp} {v u : V} {l : List (Nat × Nat)} {Q : VK} (a : Any H v (.list (l.map barD))) (b : Any H u (.list (l.map barD))) (k : Q (.bl false) H) : rNeD K v u H Q := by
  have c : (PyData.list (l.map barD)).canLay0 = true := lay_list fun d hd => by
    obtain ⟨z, _, rfl⟩ := List.mem_map.mp hd
    refine lay_tup fun e he => ?_
    rcases List.mem_cons.mp he with y | he
    · rw [y]; first | rfl | simp only [PyData.canLay0]
    · rw [List.mem_singleton.mp he]
      first | rfl | simp only [PyData.canLay0]
  have dp : (PyData.list (l.map barD)).depth ≤ 64 := by
    have : PyData.depthAll (l.map barD) ≤ 20 := dep_le fun d hd => by
      obtain ⟨z, _, rfl⟩ := List.mem_map.mp hd
      have : PyData.depthAll [.int (z.1 : Nat), .int (z.2 : Nat)] ≤ 3 := dep_le fun e he => by
        rcases List.mem_cons.mp he with y | he
        · rw [y]; exact dep_int _
        · rw [List.mem_singleton.mp he]
          exact dep_int _
      unfold barD
      simp only [PyData.depth]
      omega
    simp only [PyData.depth]
    omega
  refine ne_two a b c c dp dp ?_
  rw [PyData.eqv, eqvAll_map barD eqv_bar, decide_eq_true rfl]
  exact k
/-! ### what was handed in is changed -/
structure GAt (H0 H1 : Hp) (G : Addr) (acc : List V) : Prop where
  nd : acc.Nodup
  s : ∀ v, v ∈ acc → ∃ b rs, v = .ref b ∧ H0 b = none ∧ b ≠ G ∧ H1 b = some (.lst rs) ∧ ∀ r, r ∈ rs → r ∉ acc ∧ ∃ c xs, r = .ref c ∧ H0 c = none ∧ c ≠ G ∧ H1 c = some (.lst xs) ∧ xs.length ≤ 1000
theorem gat_of {H0 H1 : Hp} {G : Addr} {acc : List V} {ws : List (List (List Int))} (al : AnyL (del (nw H0 H1) G) acc (ws.map sheetL)) (ap : Ap H1 acc) (sm : ∀ w, w ∈ ws → ∀ r, r ∈ w → r.length ≤ 1000) : GAt H0 H1 G acc := ⟨ap.1, fun v hv => by
  obtain ⟨b, rs, w, rfl, hw, eb, al2⟩ := sheets_mem al v hv
  obtain ⟨h1, h2, h3⟩ := dnw_at eb
  refine ⟨b, rs, rfl, h1, h3, h2, fun r hr => ⟨ap.2 b rs hv h2 r hr, ?_⟩⟩
  obtain ⟨c, e, rfl, he, ec⟩ := rows_mem al2 r hr
  obtain ⟨c1, c2, c3⟩ := dnw_at ec
  exact ⟨c, _, rfl, c1, c3, c2, by rw [List.length_map]; exact sm w hw e he⟩⟩
structure MI (H0 H1 Hs : Hp) (p G : Addr) (N : Nat) (acc : List V) (i L : Nat) (H : Hp) : Prop where
  g : Grow p H0 H
  b : Bx H p N
  c : H G = some (.lst acc)
  t : Lt Hs H
  e : ∀ j b rs, i ≤ j → acc[j]? = some (.ref b) → H1 b = some (.lst rs) → H b = some (.lst rs)
  f : ∀ b rs r c, V.ref b ∈ acc → H1 b = some (.lst rs) → r ∈ rs → r = .ref c → ∃ xs, H c = some (.lst xs) ∧ xs.length ≤ L
section
variable {H0 H1 Hs H : Hp} {p G : Addr} {N i L : Nat} {acc : List V} {o : HO}
theorem MI.row {b c : Addr} {rs xs : List V} {y : V} (g : GAt H0 H1 G acc) (hp : H0 p = some o) (m : MI H0 H1 Hs p G N acc i L H) (hb : V.ref b ∈ acc) (eb : H1 b = some (.lst rs)) (hc : V.ref c ∈ rs) (ec : H c = some (.lst xs)) (lx : xs.length ≤ L) : MI H0 H1 Hs p G N acc i (L + 1) (upd H c (.lst (xs ++ [y]))) := by
  obtain ⟨b', rs', e1, h1, h2, h3, h4⟩ := g.s _ hb
  cases e1
  rw [eb] at h3
  cases h3
  obtain ⟨n1, c', xs', e2, c0, cG, _⟩ := h4 _ hc
  cases e2
  have cp : p ≠ c := fun z => by rw [← z, hp] at c0; cases c0
  refine ⟨fun d u ne e => ?_, bx_on m.b fun u e => by rw [upd_ne cp]; exact e, by rw [upd_ne cG.symm]; exact m.c, m.t.trans (Lt.put ec), fun j d ds hj hd ed => ?_, fun d ds r u hd ed hr er => ?_⟩
  · rw [upd_ne (ne_of_none e c0)]
    exact m.g d u ne e
  · have : d ≠ c := fun z => n1 (by rw [← z]; exact List.mem_of_getElem? hd)
    rw [upd_ne this]
    exact m.e j d ds hj hd ed
  · obtain ⟨zs, e5, l5⟩ := m.f d ds r u hd ed hr er
    by_cases z : u = c
    · rw [z]
      exact ⟨_, upd_same, by rw [List.length_append]; show xs.length + 1 ≤ _; omega⟩
    · exact ⟨zs, by rw [upd_ne z]; exact e5, by omega⟩
theorem MI.mono {L' : Nat} (m : MI H0 H1 Hs p G N acc i L H) (h : L ≤ L') : MI H0 H1 Hs p G N acc i L' H := ⟨m.g, m.b, m.c, m.t, m.e, fun b rs r c hb eb hr er => by
  obtain ⟨xs, e, l⟩ := m.f b rs r c hb eb hr er
  exact ⟨xs, e, by omega⟩⟩
theorem MI.sheet {b : Addr} {rs : List V} {y : V} (g : GAt H0 H1 G acc) (hp : H0 p = some o) (m : MI H0 H1 Hs p G N acc i L H) (hb : acc[i]? = some (.ref b)) (eb : H b = some (.lst rs)) : MI H0 H1 Hs p G N acc (i + 1) L (upd H b (.lst (rs ++ [y]))) := by
  have hm := List.mem_of_getElem? hb
  obtain ⟨b', rs', e1, h1, h2, h3, h4⟩ := g.s _ hm
  cases e1
  have bp : p ≠ b := fun z => by rw [← z, hp] at h1; cases h1
  refine ⟨fun d u ne e => ?_, bx_on m.b fun u e => by rw [upd_ne bp]; exact e, by rw [upd_ne h2.symm]; exact m.c, m.t.trans (Lt.put eb), fun j d ds hj hd ed => ?_, fun d ds r u hd ed hr er => ?_⟩
  · rw [upd_ne (ne_of_none e h1)]
    exact m.g d u ne e
  · have : d ≠ b := fun z => by
      rw [z] at hd
      have := nodup_inj g.nd hd hb
      omega
    rw [upd_ne this]
    exact m.e j d ds (by omega) hd ed
  · obtain ⟨d', ds', e5, _, _, e6, h7⟩ := g.s _ hd
    cases e5
    rw [ed] at e6
    cases e6
    have n1 := (h7 r hr).1
    obtain ⟨zs, e5, l5⟩ := m.f d ds r u hd ed hr er
    have : u ≠ b := fun z => n1 (by rw [er, z]; exact hm)
    exact ⟨zs, by rw [upd_ne this]; exact e5, l5⟩
end
end Rw

set_option Elab.async false
set_option linter.all false
set_option maxRecDepth 100000
set_option maxHeartbeats 4000000
/-! TkFA: a row with one arrow and one place more. -/
namespace Rw
open PySem PySem.Spec PyProof.Rows L2
theorem lenT (x : Str) : x.cps.toList.length = x.length := Array.length_toList
theorem catT_list (x y : Str) : (x ++ y).cps.toList = x.cps.toList ++ y.cps.toList := by
  show (x.cps ++ y.cps).toList = _
  rw [Array.toList_append]
theorem catT_len (x y : Str) : (x ++ y).length = x.length + y.length := by
  rw [← lenT, catT_list, List.length_append, lenT, lenT]
/-- the sign of an arrow that leads on -/
def arrS (r : Bool) : Str := if r = true then ">" else "<"
theorem arrS_list (r : Bool) : (arrS r).cps.toList = [if r = true then 62 else 60] := by cases r <;> rfl
theorem arrS_len (r : Bool) : (arrS r).length = 1 := by cases r <;> rfl
theorem more_len (x : Str) (r : Bool) : (x ++ arrS r).length = x.length + 1 := by rw [catT_len, arrS_len]
theorem more_old {x : Str} {r : Bool} {i : Nat} (h : i < x.length) : isR (x ++ arrS r) i = isR x i := by
  unfold isR
  rw [catT_list, List.getElem?_append_left (by rw [lenT]; exact h)]
theorem more_new (x : Str) (r : Bool) : isR (x ++ arrS r) x.length = r := by
  unfold isR
  rw [catT_list, List.getElem?_append_right (by rw [lenT]; exact Nat.le_refl _), lenT, Nat.sub_self, arrS_list]
  cases r <;> rfl
theorem more_st {x : Str} {r : Bool} {i : Nat} (h : i < x.length) : stA (x ++ arrS r) i = stA x i ∧ goA (x ++ arrS r) i = goA x i := by
  unfold stA goA
  rw [more_old h]
  exact ⟨rfl, rfl⟩
theorem more_pat {x : Str} {r : Bool} (p : Pat x 6) (h : x.length < 6) : Pat (x ++ arrS r) 6 := by
  refine ⟨by rw [more_len]; omega, ?_⟩
  rw [catT_list, List.all_append, p.a, arrS_list]
  cases r <;> rfl
/-- the last size, and the measures that one more arrow asks for -/
def lastS (ss : List Nat) : Nat := ss[ss.length - 1]?.getD 0
def highS (r : Bool) (ss : List Nat) (n : Nat) : Nat := if r = true then lastS ss else n
def wideS (r : Bool) (ss : List Nat) (n : Nat) : Nat := if r = true then n else lastS ss
def moreSz (ss : List Nat) (n : Nat) : PyData := .tuple (ss.map natD ++ [natD n])
def moreMp (ms : List (List (List Int))) (d : PyData) : PyData := .list (ms.map sheetD ++ [d])
theorem sz_old {ss : List Nat} {n j : Nat} (h : j < ss.length) : szL (moreSz ss n) j = ((ss[j]?.getD 0 : Nat) : Int) := by
  unfold szL atD
  show intN ((ss.map natD ++ [natD n])[j]?.getD .none) = _
  rw [List.getElem?_append_left (by rw [List.length_map]; exact h), List.getElem?_map]
  cases ss[j]? <;> rfl
theorem sz_new {ss : List Nat} {n : Nat} : szL (moreSz ss n) ss.length = (n : Int) := by
  unfold szL atD
  show intN ((ss.map natD ++ [natD n])[ss.length]?.getD .none) = _
  rw [List.getElem?_append_right (by rw [List.length_map]; exact Nat.le_refl _), List.length_map, Nat.sub_self] <;> rfl
theorem more_good {x : Str} {q : Int} {ss : List Nat} {ms : List (List (List Int))} {r : Bool} {n : Nat} {d : PyData} (g : Good x q ss ms) (h : x.length < 6) (hn : n ≤ 6) :
    isPatD (.str (x ++ arrS r)) = true ∧ isPr (.int q) = true ∧ sizesOk (x ++ arrS r).length (moreSz ss n) = true ∧ mapsOk (x ++ arrS r).length (moreMp ms d) = true ∧
    badAt (x ++ arrS r) (moreSz ss n) (moreMp ms d) = (if isMatD (highS r ss n : Nat) (wideS r ss n : Nat) d = true then none else some x.length) ∧ atD (moreMp ms d) x.length = d := by
  have pm := more_pat (r := r) g.p h
  have l1 : ss.length = x.length + 1 := g.d.sl
  have l2 : ms.length = x.length := g.d.ml
  have e6 : atD (moreMp ms d) x.length = d := by
    unfold atD
    show ((ms.map sheetD ++ [d])[x.length]?).getD .none = d
    rw [List.getElem?_append_right (by rw [List.length_map, l2]; exact Nat.le_refl _), List.length_map, l2, Nat.sub_self] <;> rfl
  refine ⟨?_, decide_eq_true g.q, ?_, ?_, ?_, e6⟩
  · show (decide ((x ++ arrS r).length ≤ 6) && (x ++ arrS r).cps.toList.all isArr) = true
    rw [decide_eq_true pm.l, pm.a] <;> rfl
  · unfold sizesOk
    rw [Bool.and_eq_true, Bool.and_eq_true]
    refine ⟨rfl, decide_eq_true (by show (ss.map natD ++ [natD n]).length = _; rw [List.length_append, List.length_map, l1, more_len] <;> rfl), List.all_eq_true.mpr fun e he => ?_⟩
    obtain ⟨s, hs, rfl⟩ : ∃ s, s ≤ 6 ∧ e = natD s := by
      rcases List.mem_append.mp he with z | z
      · obtain ⟨s, hs, rfl⟩ := List.mem_map.mp z
        exact ⟨s, g.d.sb s hs, rfl⟩
      · exact ⟨n, hn, List.mem_singleton.mp z⟩
    show (decide ((0 : Int) ≤ (s : Nat)) && decide (((s : Nat) : Int) ≤ 6)) = true
    rw [Bool.and_eq_true]
    exact ⟨decide_eq_true (by omega), decide_eq_true (by omega)⟩
  · unfold mapsOk
    rw [Bool.and_eq_true]
    exact ⟨rfl, decide_eq_true (by show (ms.map sheetD ++ [d]).length = _; rw [List.length_append, List.length_map, l2, more_len] <;> rfl)⟩
  · have old : ∀ j, j < x.length → matOk (x ++ arrS r) (moreSz ss n) (moreMp ms d) j = true := fun j hj => by
      obtain ⟨s1, s2⟩ := more_st (r := r) hj
      have hj2 : j < ms.length := by rw [l2]; exact hj
      have h1 : ms[j]? = some ms[j] := List.getElem?_eq_getElem hj2
      have ed : atD (moreMp ms d) j = sheetD ms[j] := by
        unfold atD
        show ((ms.map sheetD ++ [d])[j]?).getD .none = _
        rw [List.getElem?_append_left (by rw [List.length_map]; exact hj2), List.getElem?_map, h1] <;> rfl
      have a1 := stA_le x j
      have a2 := goA_le x j
      unfold matOk
      rw [s1, s2, sz_old (by omega), sz_old (by omega), ed]
      exact mat_is (g.d.mo j _ h1)
    have new : matOk (x ++ arrS r) (moreSz ss n) (moreMp ms d) x.length = isMatD (highS r ss n : Nat) (wideS r ss n : Nat) d := by
      have el : lastS ss = ss[x.length]?.getD 0 := by unfold lastS; rw [l1, Nat.add_sub_cancel]
      unfold matOk stA goA highS wideS
      rw [e6, more_new]
      cases r with
      | true =>
        rw [if_pos rfl, if_pos rfl, if_pos rfl, if_pos rfl, sz_old (j := x.length) (by omega), el, show x.length + 1 = ss.length by omega, sz_new]
      | false =>
        rw [if_neg (by decide), if_neg (by decide), if_neg (by decide), if_neg (by decide), sz_old (j := x.length) (by omega), el, show x.length + 1 = ss.length by omega, sz_new]
    cases e : isMatD (highS r ss n : Nat) (wideS r ss n : Nat) d with
    | true =>
      rw [if_pos rfl]
      refine bad_none fun j hj => ?_
      rw [more_len] at hj
      by_cases hj2 : j < x.length
      · exact old j hj2
      · rw [show j = x.length by omega, new, e]
    | false =>
      rw [if_neg (by decide)]
      exact bad_some (by rw [more_len]; omega) (by rw [new, e]) old
end Rw

set_option Elab.async false
set_option linter.all false
set_option maxRecDepth 100000
set_option maxHeartbeats 4000000
/-! TkDA: vectors mixed, matrices joined and exchanged: the promises. -/
namespace Rw
open PySem PySem.Spec PyProof.Rows L2
def spWid : Sp := fun vs H Q _ => ∃ v d w, vs = [v, .int w] ∧ Any H v d ∧ Fit d ∧ ∀ H', Same H H' → Q (.bl (isMatD (itemsD d).length w d)) H'
def intD : PyData → Int
  | .int n => n | _ => 0
def cellD (e : PyData) (c : Nat) : Int := intD ((itemsD e)[c]?.getD .none)
def prodsL (dv dm : PyData) (c : Nat) : List Int := ((itemsD dv).zip (itemsD dm)).map fun q => intD q.1 * cellD q.2 c
/-- the sum of rows, each times its factor -/
def mixL (p : Int) (dv dm : PyData) (w : Nat) : List Int := (List.range w).map fun c => (prodsL dv dm c).sum.fmod p
def colL (p : Int) (dm : PyData) (c : Nat) : List Int := (itemsD dm).map fun e => (cellD e c).fmod p
def spMixed : Sp := fun vs H Q _ => ∃ (p : Int) (va vm : V) (dv dm : PyData) (w : Nat), vs = [.int p, va, vm, .int (w : Int)] ∧ p ≠ 0 ∧ Any H va dv ∧ Any H vm dm ∧ Fit1 dv ∧ Fit dm ∧ isVecD (itemsD dm).length dv = true ∧ isMatD (itemsD dm).length w dm = true ∧ w ≤ 1000 ∧
  ∀ t H', H t = none → Same H H' → H' t = some (.tup ((mixL p dv dm w).map V.int)) → Q (.ref t) H'
def spLed (CP CV CM : Addr) : Sp := fun vs H Q E => ∃ (pv va vm : V) (dp dv dm : PyData) (w : Nat), vs = [pv, va, vm, .int (w : Int)] ∧ Any H pv dp ∧ Any H va dv ∧ Any H vm dm ∧ Fit dv ∧ Fit dm ∧ w ≤ 1000 ∧
  (isPr dp = false → Thrown CP pv H E) ∧ (isPr dp = true → isVecD (itemsD dv).length dv = false → Thrown CV va H E) ∧
  (isPr dp = true → isVecD (itemsD dv).length dv = true → isMatD (itemsD dv).length w dm = false → Thrown CM vm H E) ∧
  (∀ p, dp = .int p → p ∈ primesL → isVecD (itemsD dv).length dv = true → isMatD (itemsD dv).length w dm = true → ∀ t H', H t = none → Same H H' → H' t = some (.tup ((mixL p dv dm w).map V.int)) → Q (.ref t) H')
def spJoined (CP CM : Addr) : Sp := fun vs H Q E => ∃ (pv va vm : V) (dp dv dm : PyData) (w : Nat), vs = [pv, va, vm, .int (w : Int)] ∧ Any H pv dp ∧ Any H va dv ∧ Any H vm dm ∧ Fit dv ∧ Fit dm ∧ w ≤ 1000 ∧
  (isPr dp = false → Thrown CP pv H E) ∧ (isPr dp = true → isMatD (itemsD dm).length w dm = false → Thrown CM vm H E) ∧
  (isPr dp = true → isMatD (itemsD dm).length w dm = true → isMatD (itemsD dv).length (itemsD dm).length dv = false → Thrown CM va H E) ∧
  (∀ p, dp = .int p → p ∈ primesL → isMatD (itemsD dm).length w dm = true → isMatD (itemsD dv).length (itemsD dm).length dv = true → ∀ l acc H', H l = none → Same H H' → H' l = some (.lst acc) → AnyL (del H' l) acc ((itemsD dv).map fun e => tupI (mixL p e dm w)) → Q (.ref l) H')
def spExch (CP CM : Addr) : Sp := fun vs H Q E => ∃ (pv vm : V) (dp dm : PyData) (w : Nat), vs = [pv, vm, .int (w : Int)] ∧ Any H pv dp ∧ Any H vm dm ∧ Fit dm ∧ w ≤ 1000 ∧
  (isPr dp = false → Thrown CP pv H E) ∧ (isPr dp = true → isMatD (itemsD dm).length w dm = false → Thrown CM vm H E) ∧
  (∀ p, dp = .int p → p ∈ primesL → isMatD (itemsD dm).length w dm = true → ∀ l acc H', H l = none → Same H H' → H' l = some (.lst acc) → AnyL (del H' l) acc ((List.range w).map fun c => tupI (colL p dm c)) → Q (.ref l) H')
theorem pr_int {d : PyData} (e : isPr d = true) : ∃ p, d = .int p ∧ p ∈ primesL := by
  cases d with
  | int n => exact ⟨n, rfl, of_decide_eq_true e⟩
  | _ => cases e
theorem mulW_ok {a b : Int} (h1 : a.natAbs.log2 < 400) (h2 : b.natAbs.log2 < 400) : CMulW a b := by
  show a.natAbs.log2 + b.natAbs.log2 < 1000000
  omega
/-- the sums of the first rows, each times its factor -/
def totL (dv dm : PyData) (w i : Nat) : List Int := (List.range w).map fun c => ((prodsL dv dm c).take i).sum
theorem totL_len (dv dm : PyData) (w i : Nat) : (totL dv dm w i).length = w := by
  unfold totL
  rw [List.length_map, List.length_range]
theorem totL_at {dv dm : PyData} {w i c : Nat} (h : c < w) : (totL dv dm w i)[c]? = some ((prodsL dv dm c).take i).sum := by
  unfold totL
  rw [List.getElem?_map, List.getElem?_range h] <;> rfl
theorem tot_succ {dv dm : PyData} {i c : Nat} {x : Int} (h : (prodsL dv dm c)[i]? = some x) : ((prodsL dv dm c).take (i + 1)).sum = ((prodsL dv dm c).take i).sum + x := by
  rw [List.take_add_one, h]
  simp
theorem totL_zero (dv dm : PyData) (w : Nat) : (totL dv dm w 0).map V.int = (List.replicate w [V.int 0]).flatten := by
  have h : ∀ w, (List.replicate w [V.int 0]).flatten = List.replicate w (V.int 0) := fun w => by simp
  rw [h]
  unfold totL
  rw [List.map_map]
  apply List.ext_getElem
  · simp
  · intro j h1 h2
    simp
end Rw

set_option Elab.async false
set_option linter.all false
set_option maxRecDepth 100000
set_option maxHeartbeats 4000000
/-! TkFB: the promises about one map more. -/
namespace Rw
open PySem PySem.Spec PyProof.Rows L2
def isArD : PyData → Bool
  | .str z => decide (z = ">") || decide (z = "<")
  | _ => false
theorem arD_of {d : PyData} (h : isArD d = true) : ∃ r, d = .str (arrS r) := by
  cases d with
  | str z =>
    have h2 : (decide (z = ">") || decide (z = "<")) = true := h
    rw [Bool.or_eq_true, decide_eq_true_iff, decide_eq_true_iff] at h2
    rcases h2 with e | e
    · exact ⟨true, by rw [e] <;> rfl⟩
    · exact ⟨false, by rw [e] <;> rfl⟩
  | _ => cases h
theorem arD_is (r : Bool) : isArD (.str (arrS r)) = true := by cases r <;> decide
theorem arr_tab2 {v1 v2 : Value} (z : Str) : (lookS [(">", v1), ("<", v2)] z).isSome = isArD (.str z) := by
  unfold lookS
  show _ = (decide (z = ">") || decide (z = "<"))
  by_cases h1 : z = ">"
  · subst h1
    simp
  · by_cases h2 : z = "<"
    · subst h2
      simp
    · have h3 : ¬ ((">" : String) : Str) = z := fun e => h1 e.symm
      have h4 : ¬ (("<" : String) : Str) = z := fun e => h2 e.symm
      simp [h1, h2, h3, h4]
def spCSize (CS : Addr) : Sp := fun vs H Q E => ∃ v d, vs = [v] ∧ Any H v d ∧ (isSzD d = true → Q .non H) ∧ (isSzD d = false → Thrown CS v H E)
def spCArrow (CW CG : Addr) : Sp := fun vs H Q E => ∃ x v d, vs = [.str x, v] ∧ x.length ≤ 6 ∧ Any H v d ∧ (isArD d = false → Thrown CW v H E) ∧ (isArD d = true → x.length = 6 → Thrown CG (.int 7) H E) ∧ (isArD d = true → x.length < 6 → Q .non H)
def spGrow (C CW CG CS CM : Addr) : Sp := fun vs H Q E => ∃ a va vn vm x p ss ms da dn dm, vs = [.ref a, va, vn, vm] ∧ RowOf C H a x p ss ms ∧ Good x p ss ms ∧ Any H va da ∧ Any H vn dn ∧ Any H vm dm ∧ Fit dm ∧
  (isArD da = false → Thrown CW va H E) ∧ (isArD da = true → x.length = 6 → Thrown CG (.int 7) H E) ∧ (isArD da = true → x.length < 6 → isSzD dn = false → Thrown CS vn H E) ∧
  (∀ r (n : Nat) v H1, da = .str (arrS r) → x.length < 6 → dn = natD n → n ≤ 6 → isMatD (highS r ss n : Nat) (wideS r ss n : Nat) dm = false → Same H H1 → Any H1 v dm → Thrown CM v H1 E) ∧
  ∀ r (n : Nat) o H', da = .str (arrS r) → x.length < 6 → dn = natD n → n ≤ 6 → isMatD (highS r ss n : Nat) (wideS r ss n : Nat) dm = true → H o = none → Same H H' →
    RowAt C H' o (x ++ arrS r) p ((ss ++ [n]).map natD) (ms.map (fun m => m.map tupI) ++ [rowsM p dm]) → Q (.ref o) H'
theorem sz_of {d : PyData} (h : isSzD d = true) : ∃ n : Nat, d = natD n ∧ n ≤ 6 := by
  cases d with
  | int i =>
    have h2 : (decide ((0 : Int) ≤ i) && decide (i ≤ 6)) = true := h
    rw [Bool.and_eq_true] at h2
    have a1 := of_decide_eq_true h2.1
    have a2 := of_decide_eq_true h2.2
    exact ⟨i.toNat, by show PyData.int i = .int (i.toNat : Nat); rw [Int.toNat_of_nonneg a1], by omega⟩
  | _ => cases h
end Rw

set_option Elab.async false
set_option linter.all false
set_option maxRecDepth 100000
set_option maxHeartbeats 4000000
/-! K57D: a row is read, cut, held against another, and grows. -/
namespace K57
open PySem PySem.Spec PyProof.Rows L2 Rw
abbrev sGetP : Stmt := inClass (top 35) 1
abbrev sGetQ : Stmt := inClass (top 35) 2
abbrev sGetS : Stmt := inClass (top 35) 3
abbrev sMaps : Stmt := inClass (top 35) 4
abbrev sEqR : Stmt := inClass (top 35) 7
abbrev sPart : Stmt := inClass (top 35) 9
abbrev sCSize : Stmt := top 30
abbrev sCArrow : Stmt := top 40
abbrev sGrow : Stmt := top 39
theorem scGetP : FnScope ["self"] ["self"] (defScope sGetP) := ⟨rfl, rfl, rfl, by decide +kernel, rfl, by decide +kernel, by decide +kernel⟩
theorem scGetQ : FnScope ["self"] ["self"] (defScope sGetQ) := ⟨rfl, rfl, rfl, by decide +kernel, rfl, by decide +kernel, by decide +kernel⟩
theorem scGetS : FnScope ["self"] ["self"] (defScope sGetS) := ⟨rfl, rfl, rfl, by decide +kernel, rfl, by decide +kernel, by decide +kernel⟩
abbrev NMaps : List Str := ["self", "matrix"]
theorem scMaps : FnScope NMaps ["self"] (defScope sMaps) := ⟨rfl, rfl, rfl, by decide +kernel, rfl, by decide +kernel, by decide +kernel⟩
theorem scEqR : FnScope ["self", "other"] ["self", "other"] (defScope sEqR) := ⟨rfl, rfl, rfl, by decide +kernel, rfl, by decide +kernel, by decide +kernel⟩
theorem scPart : FnScope ["self", "first", "last"] ["self", "first", "last"] (defScope sPart) := ⟨rfl, rfl, rfl, by decide +kernel, rfl, by decide +kernel, by decide +kernel⟩
theorem scCSize : FnScope ["size"] ["size"] (defScope sCSize) := ⟨rfl, rfl, rfl, by decide +kernel, rfl, by decide +kernel, by decide +kernel⟩
theorem scCArrow : FnScope ["pattern", "arrow"] ["pattern", "arrow"] (defScope sCArrow) := ⟨rfl, rfl, rfl, by decide +kernel, rfl, by decide +kernel, by decide +kernel⟩
theorem scGrow : FnScope ["row", "arrow", "size", "matrix"] ["row", "arrow", "size", "matrix"] (defScope sGrow) := ⟨rfl, rfl, rfl, by decide +kernel, rfl, by decide +kernel, by decide +kernel⟩
/-- what the class of rows is to isinstance -/
structure TxE (K : PySem.W.Frag) (mg : Str → Option Value) (C : Addr) : Prop where
  gC : mg "Row" = some (.ref C)
  isC : C8.InsC K C
  kit : KitC K C
section
variable {P : Program} {w : World} {K : PySem.W.Frag} {mg : Str → Option Value} {base : Heap} {aI aT C CP CT CZ CA CM CL CW CG CS : Addr} {kI : List (Int × Value)} {kT : List (Str × Value)}
theorem okGetP {f : Addr} {fd : FuncData} (F : Fun K "pattern" "Row.pattern" sGetP f fd) (R : RowCls K C) : FnOk P w K mg base CX0 1 f fd ["self"] (spGetP C) := by
  refine F.ok scGetP (fun vs H Q E h => ?_) (fun cdv A outer s H vs Q E hr h => ?_)
  · obtain ⟨a, x, p, ss, mm, rfl, _⟩ := h
    rfl
  · obtain ⟨a, x, p, ss, mm, rfl, ⟨dx, ts, tm, ea, _, _⟩, q⟩ := h
    exact ⟨_, (pss_one (ps_ret (pe_fld (pv 0) rfl))), _, rfl, a, C, dx, _, _, rfl, ea, R.cl, R.n1, rfl, q⟩
theorem okGetQ {f : Addr} {fd : FuncData} (F : Fun K "prime" "Row.prime" sGetQ f fd) (R : RowCls K C) : FnOk P w K mg base CX0 1 f fd ["self"] (spGetQ C) := by
  refine F.ok scGetQ (fun vs H Q E h => ?_) (fun cdv A outer s H vs Q E hr h => ?_)
  · obtain ⟨a, x, p, ss, mm, rfl, _⟩ := h
    rfl
  · obtain ⟨a, x, p, ss, mm, rfl, ⟨dx, ts, tm, ea, _, _⟩, q⟩ := h
    exact ⟨_, (pss_one (ps_ret (pe_fld (pv 0) rfl))), _, rfl, a, C, dx, _, _, rfl, ea, R.cl, R.n2, rfl, q⟩
theorem okGetS {f : Addr} {fd : FuncData} (F : Fun K "sizes" "Row.sizes" sGetS f fd) (R : RowCls K C) : FnOk P w K mg base CX0 1 f fd ["self"] (spGetS C) := by
  refine F.ok scGetS (fun vs H Q E h => ?_) (fun cdv A outer s H vs Q E hr h => ?_)
  · obtain ⟨a, x, p, ss, mm, rfl, _⟩ := h
    rfl
  · obtain ⟨a, x, p, ss, mm, rfl, ⟨dx, ts, tm, ea, as, _⟩, q⟩ := h
    exact ⟨_, (pss_one (ps_ret (pe_fld (pv 0) rfl))), _, rfl, a, C, dx, _, _, rfl, ea, R.cl, R.n3, rfl, q _ as⟩
theorem okMaps {f : Addr} {fd : FuncData} (F : Fun K "maps" "Row.maps" sMaps f fd) (T : Txt K w mg aI aT CP CT CZ CA CM CL kI kT) (R : RowCls K C) : FnOk P w K mg base CX0 1 f fd ["self"] (spMapsN C) := by
  refine F.ok scMaps (fun vs H Q E h => ?_) (fun cdv A outer s H vs Q E hr h => ?_)
  · obtain ⟨a, x, p, ss, ms, rfl, _⟩ := h
    rfl
  · obtain ⟨a, x, p, ss, ms, rfl, ⟨dx, ts, tm, ea, _, am⟩, lm, rm, q⟩ := h
    refine ⟨_, (pss_one (ps_ret (pe_lc (own := [("matrix", 1)]) (g := gName 1) (tt := tYes) (te := tCB (rLstOf K) (tCons (tVar 1) tNil)) rfl scMaps.nd (pi_seq (pe_fld (pv 0) rfl)) (blkOk_by (N := NMaps) (sc := defScope sMaps) (by decide +kernel)) (fun _ _ _ _ _ => (pg_name (i := 1) scMaps.nd rfl (Or.inl rfl))) (fun _ _ _ _ _ => pts_nil)
      (fun _ _ _ _ _ => (pe_callTy call_list_of (by rfl) T.list (by decide +kernel) (pa_cons (pv 1) pa_nil)))))), ?_⟩
    rw [mats_tup] at am
    cases am with
    | tup em al =>
      rename_i ys
      have ln := anyL_len al
      rw [List.length_map] at ln
      refine ⟨_, rfl, a, C, dx, _, _, rfl, ea, R.cl, R.n4, rfl, tm, false, ys, rfl, SqT.of em, fun D hD => ?_⟩
      refine lc_it walk_seq (Pv := fun i H' => Same H H' ∧ ∃ acc, H' D = some (.lst acc) ∧ AnyL (del H' D) acc ((ms.take i).map sheetD) ∧ ∀ v, v ∈ acc → ∃ b xs, v = .ref b ∧ H b = none ∧ b ≠ D ∧ H' b = some (.lst xs) ∧ xs.length ≤ 1000) ⟨same_new hD, [], upd_same, .nil, fun v hv => by cases hv⟩ (fun i H' _ z => SqT.of (z.1 _ _ em)) ?_ ?_
      · rintro i y H1 H2 hi ⟨s1, acc, ha, an, nw1⟩ ⟨rfl, hy⟩
        refine ⟨rfl, ?_⟩
        unfold tYes
        refine Eq.mpr (if_pos (rfl : true = true)) ?_
        obtain ⟨d, hd2, any⟩ := anyL_at al hy
        rw [List.getElem?_map] at hd2
        have hi2 : i < ms.length := by omega
        rw [List.getElem?_eq_getElem hi2] at hd2
        cases Option.some.inj hd2
        cases any with
        | tup et al2 =>
          refine ⟨_, rfl, _, _, rfl, .inr (SqT.of (s1 _ _ et)), fun l hl => ?_⟩
          have ne : l ≠ D := fun z => by rw [z, ha] at hl; cases hl
          have hl0 := s1.free hl
          have la : acc.length ≤ 1000 := by
            rw [anyL_len an, List.length_map, List.length_take]
            omega
          have l2 := anyL_len al2
          rw [List.length_map] at l2
          refine ⟨acc, by rw [upd_ne (ne_of_none ha hl)]; exact ha, Nat.lt_of_le_of_lt la (by decide), fun b o e => ?_, acc ++ [.ref l], upd_same, ?_, fun v hv => ?_⟩
          · rw [upd_ne (ne_of_none e hD), upd_ne (ne_of_none (s1 _ _ e) hl)]
            exact s1 _ _ e
          · rw [del_upd, List.take_add_one, List.getElem?_eq_getElem hi2, List.map_append]
            refine anyL_snoc (anyL_keep (del_new hl) an) (.lst (by rw [del_ne ne]; exact upd_same) (anyL_keep (fun b o e => ?_) al2))
            rw [del_ne (ne_of_none e hD), upd_ne (ne_of_none (s1 _ _ e) hl)]
            exact s1 _ _ e
          · rcases List.mem_append.mp hv with z | z
            · obtain ⟨b, xs, h1, h2, h3, h4, h5⟩ := nw1 v z
              refine ⟨b, xs, h1, h2, h3, ?_, h5⟩
              rw [upd_ne h3, upd_ne (ne_of_none h4 hl)]
              exact h4
            · rw [List.mem_singleton.mp z]
              refine ⟨l, _, rfl, hl0, ne, by rw [upd_ne ne]; exact upd_same, ?_⟩
              rw [l2]
              exact rm _ (List.getElem_mem hi2)
      · rintro H1 ⟨s1, acc, ha, an, nw1⟩
        refine q D acc H1 hD s1 ha ?_ nw1
        rw [List.take_of_length_le (by omega)] at an
        exact an
theorem okEqR {f : Addr} {fd : FuncData} (F : Fun K "__eq__" "Row.__eq__" sEqR f fd) (T : Txt K w mg aI aT CP CT CZ CA CM CL kI kT) (R : RowCls K C) (TE : TxE K mg C) : FnOk P w K mg base CX0 1 f fd ["self", "other"] (spEqR C) := by
  refine F.ok scEqR (fun vs H Q E h => ?_) (fun cdv A outer s H vs Q E hr h => ?_)
  · obtain ⟨a, v, x, p, ss, ms, rfl, _⟩ := h
    rfl
  · obtain ⟨a, v, x, p, ss, ms, rfl, ⟨dx, ts, tm, ea, as, am⟩, h⟩ := h
    refine ⟨_, (pss_one (ps_ret (pe_and (pe_callB call_isi (by rfl) T.isi (by decide +kernel) (pa_cons (pv 1) (pa_cons (pe_glob (v := .ref C) rfl TE.gC rfl) pa_nil))) (pe_and (pe_cmpR op_eq (pe_fld (pv 0) rfl) (pe_fld (pv 1) rfl) (nomark _)) (pe_and (pe_cmpR op_eq (pe_fld (pv 0) rfl) (pe_fld (pv 1) rfl) (nomark _)) (pe_and (pe_cmpR (op_eqD hr.units) (pe_fld (pv 0) rfl) (pe_fld (pv 1) rfl) (by rfl)) (pe_one (pe_cmpR (op_eqD hr.units) (pe_fld (pv 0) rfl) (pe_fld (pv 1) rfl) (by rfl))))))))), ?_⟩
    rcases h with ⟨b, y, q, us, ns, rfl, ⟨dy, ts2, tm2, eb, as2, am2⟩, k⟩ | ⟨⟨b, xs, rfl, eb⟩ | ⟨z, rfl⟩, k⟩
    · refine ⟨_, rfl, _, _, _, _, _, rfl, .own C, .base (.ins eb TE.isC.cl TE.isC.ha TE.isC.hn TE.isC.htk TE.isC.hm), TE.isC.me, _, rfl, iteT ⟨_, rfl, a, C, dx, _, _, rfl, ea, R.cl, R.n1, rfl, _, rfl, b, C, dy, _, _, rfl, eb, R.cl, R.n1, rfl, rfl, _, rfl, ?_⟩⟩
      unfold sameRow at k
      by_cases e1 : x = y
      · subst e1
        rw [decide_eq_true (rfl : x = x), Bool.true_and] at k
        rw [decide_eq_true (rfl : V.str x = V.str x)]
        refine iteT ⟨_, rfl, a, C, dx, _, _, rfl, ea, R.cl, R.n2, rfl, _, rfl, b, C, dy, _, _, rfl, eb, R.cl, R.n2, rfl, rfl, _, rfl, ?_⟩
        by_cases e2 : p = q
        · subst e2
          rw [decide_eq_true (rfl : p = p), Bool.true_and] at k
          rw [decide_eq_true (rfl : V.int p = V.int p)]
          refine iteT ⟨_, rfl, a, C, dx, _, _, rfl, ea, R.cl, R.n3, rfl, _, rfl, b, C, dy, _, _, rfl, eb, R.cl, R.n3, rfl, two_nats as as2 ⟨_, rfl, ?_⟩⟩
          by_cases e3 : ss = us
          · rw [decide_eq_true e3, Bool.true_and] at k
            rw [decide_eq_true e3]
            exact iteT ⟨_, rfl, a, C, dx, _, _, rfl, ea, R.cl, R.n4, rfl, _, rfl, b, C, dy, _, _, rfl, eb, R.cl, R.n4, rfl, two_mats am am2 k⟩
          · rw [decide_eq_false e3, Bool.false_and] at k
            rw [decide_eq_false e3]
            exact iteF k
        · rw [decide_eq_false e2, Bool.false_and] at k
          rw [decide_eq_false (fun z => e2 (V.int.inj z))]
          exact iteF k
      · rw [decide_eq_false e1, Bool.false_and] at k
        rw [decide_eq_false (fun z => e1 (V.str.inj z))]
        exact iteF k
    · exact ⟨_, rfl, _, _, _, _, _, rfl, .own C, .base (.lst eb), TE.kit.kl, _, rfl, iteF k⟩
    · exact ⟨_, rfl, _, _, _, _, _, rfl, .own C, .base (.str z), TE.kit.ks, _, rfl, iteF k⟩
theorem okPart {f : Addr} {fd : FuncData} (F : Fun K "part" "Row.part" sPart f fd) (T : Txt K w mg aI aT CP CT CZ CA CM CL kI kT) (R : RowCls K C) (RA : RowsAt P w K mg base C CT CP CZ CA CM)
    (GI : Own P w K mg base CX0 2 "is_integer" ["value", "low", "high"] [] spInt) : FnOk P w K mg base (L2.CX P w) 8 f fd ["self", "first", "last"] (spPart C CL) := by
  refine F.okX scPart (fun vs H Q E h => ?_) (fun cdv A outer s H vs Q E hr h => ?_)
  · obtain ⟨a, x, p, ss, ms, v1, v2, d1, d2, rfl, _⟩ := h
    rfl
  · obtain ⟨a, x, p, ss, ms, v1, v2, d1, d2, rfl, ra, ga, an1, an2, x1, x2, q⟩ := h
    obtain ⟨dx, sa, ma, ea, asa, ama⟩ := ra
    have lx := ga.p.l
    have lz : x.length ≤ sizeLine := Nat.le_trans lx (by decide)
    refine ⟨_, (pss_cons (ps_if (pt_not (pt_val (pe_own GI (hr.mono (by decide)) pass0 (pa_cons (pv 1) (pa_cons pe_int (pa_cons (pe_callB call_len_str (by rfl) T.len (by decide +kernel) (pa_cons (pe_fld (pv 0) rfl) pa_nil)) pa_nil)))))) (pss_one (ps_throw T.eL rfl (hr.mono (by decide)) (takes_of rfl rfl rfl rfl) (pv 1))) pss_nil)
      (pss_cons (ps_if (pt_not (pt_val (pe_own GI (hr.mono (by decide)) pass0 (pa_cons (pv 2) (pa_cons (pv 1) (pa_cons (pe_callB call_len_str (by rfl) T.len (by decide +kernel) (pa_cons (pe_fld (pv 0) rfl) pa_nil)) pa_nil)))))) (pss_one (ps_throw T.eL rfl (hr.mono (by decide)) (takes_of rfl rfl rfl rfl) (pv 2))) pss_nil)
      (pss_one (ps_ret (pe_rowN (E := E) RA hr (passes_call (takes_of rfl rfl rfl rfl) (fun _ _ _ _ z => z)) (pa_cons (pe_slice sl_str (pe_fld (pv 0) rfl) (po_some (pv 1)) (po_some (pv 2))) (pa_cons (pe_fld (pv 0) rfl) (pa_cons (pe_slice sl_tupA (pe_fld (pv 0) rfl) (po_some (pv 1)) (po_some (pe_op op_add (pv 2) pe_int))) (pa_cons (pe_slice sl_tupA (pe_fld (pv 0) rfl) (po_some (pv 1)) (po_some (pv 2))) pa_nil))))))))), ?_⟩
    refine ⟨_, rfl, _, rfl, a, C, dx, _, _, rfl, ea, R.cl, R.n1, rfl, x, rfl, lz, v1, _, _, d1, .int 0, .int (x.length : Nat), rfl, an1, .int _, .int _, _, rfl, ?_⟩
    cases e1 : inB d1 (.int 0) (.int (x.length : Nat)) with
    | false => exact iteT ⟨_, rfl, thrown_go (x1 e1)⟩
    | true =>
      obtain ⟨i, rfl, i0, il⟩ := inB_nat (lo := 0) e1
      cases an1
      refine iteF ⟨_, rfl, _, rfl, _, rfl, a, C, dx, _, _, rfl, ea, R.cl, R.n1, rfl, x, rfl, lz, v2, _, _, d2, .int (i : Nat), .int (x.length : Nat), rfl, an2, .int _, .int _, _, rfl, ?_⟩
      cases e2 : inB d2 (.int (i : Nat)) (.int (x.length : Nat)) with
      | false => exact iteT ⟨_, rfl, thrown_go (x2 e1 e2)⟩
      | true =>
        obtain ⟨j, rfl, j0, jl⟩ := inB_nat e2
        cases an2
        have dP := part_draft ga.d j0 jl
        have pP := cut_pat ga.p j0 jl
        cases asa with
        | tup esa alsa =>
        cases ama with
        | tup ema alma =>
        rename_i xsa xma
        have na := anyL_len alsa
        have nm := anyL_len alma
        rw [List.length_map, ga.d.sl] at na
        rw [List.length_map, List.length_map, ga.d.ml] at nm
        refine iteF ⟨_, rfl, a, C, dx, _, _, rfl, ea, R.cl, R.n1, rfl, _, rfl, _, rfl, _, rfl, _, rfl, x, rfl, lz, ?_⟩
        refine ⟨_, rfl, a, C, dx, _, _, rfl, ea, R.cl, R.n2, rfl, _, rfl, a, C, dx, _, _, rfl, ea, R.cl, R.n3, rfl, _, rfl, _, rfl, _, rfl, _, _, rfl, rfl, _, rfl, ?_⟩
        refine cut_tup (i := i) (j := j + 1) esa (by omega) (by omega) fun p1 H1 k1 h1 => ?_
        refine ⟨_, rfl, a, C, dx, _, _, rfl, k1 _ _ ea, R.cl, R.n4, rfl, _, rfl, _, rfl, _, rfl, _, rfl, ?_⟩
        refine cut_tup (i := i) (j := j) (k1 _ _ ema) (by omega) (by omega) fun p2 H2 k2 h2 => ?_
        have good := draft_goodT dP pP ga.q (Nat.le_refl _)
        have c1 : ((ss.map natD).drop i).take (j + 1 - i) = ((ss.drop i).take (j + 1 - i)).map natD := by rw [List.map_take, List.map_drop]
        have c2 : (((ms.map fun m => m.map tupI).map PyData.tuple).drop i).take (j - i) = ((ms.drop i).take (j - i)).map tupM := by
          rw [List.map_map, List.map_take, List.map_drop] <;> rfl
        refine ⟨_, _, _, _, .str _, .int p, .tuple (((ss.drop i).take (j + 1 - i)).map natD), .tuple (((ms.drop i).take (j - i)).map tupM), rfl, ⟨.str _, .int p, .tup (k2 _ _ h1) ?_, .tup h2 ?_, pat_short pP (by decide), ?_, draft_fitT dP pP ga.q (Nat.le_refl _)⟩, good_err good, ?_⟩
        · rw [← c1]
          exact anyL_keep (k1.trans k2) (anyL_cut alsa _ _)
        · rw [← c2]
          exact anyL_keep (k1.trans k2) (anyL_cut alma _ _)
        · show (((ss.drop i).take (j + 1 - i)).map natD).length ≤ 1000
          rw [List.length_map, dP.sl, cut_len j0 jl]
          omega
        · intro y p' o H' y0 y1 g ho k ro
          cases y0
          cases y1
          rw [draft_rowsT dP] at ro
          exact q i j rfl rfl j0 jl o H' ((k1.trans k2).free ho) ((k1.trans k2).trans k) ro

theorem okCSize {f : Addr} {fd : FuncData} (F : Fun K "check_size" "check_size" sCSize f fd) (T : Txt K w mg aI aT CP CT CZ CA CM CL kI kT) (eS : Err K mg "InvalidSize" CS) (GI : Own P w K mg base CX0 2 "is_integer" ["value", "low", "high"] [] spInt) : FnOk P w K mg base (L2.CX P w) 4 f fd ["size"] (spCSize CS) := by
  refine F.okX scCSize (fun vs H Q E h => ?_) (fun cdv A outer s H vs Q E hr h => ?_)
  · obtain ⟨v, d, rfl, _⟩ := h
    rfl
  · obtain ⟨v, d, rfl, an, qt, qf⟩ := h
    obtain ⟨tM, gM⟩ := T.gM
    refine ⟨_, (pss_one (ps_if (pt_not (pt_val (pe_own GI (hr.mono (by decide)) pass0 (pa_cons (pv 0) (pa_cons pe_int (pa_cons (pe_glob (v := .int 6) rfl gM ⟨_, rfl⟩) pa_nil)))))) (pss_one (ps_throw eS rfl (hr.mono (by decide)) (takes_of rfl rfl rfl rfl) (pv 0))) pss_nil)), ?_⟩
    refine ⟨_, rfl, v, _, _, d, .int 0, .int 6, rfl, an, .int _, .int _, _, rfl, ?_⟩
    cases e : isSzD d with
    | true =>
      rw [show inB d (.int 0) (.int 6) = true from e]
      exact iteF (qt e)
    | false =>
      rw [show inB d (.int 0) (.int 6) = false from e]
      exact iteT ⟨_, rfl, thrown_go (qf e)⟩
theorem okCArrow {f : Addr} {fd : FuncData} (F : Fun K "_check_arrow" "_check_arrow" sCArrow f fd) (T : Txt K w mg aI aT CP CT CZ CA CM CL kI kT) (h2 : ∀ z, (lookS kT z).isSome = isArD (.str z)) (eW : Err K mg "InvalidArrow" CW) (eG : Err K mg "TooLarge" CG) : FnOk P w K mg base (L2.CX P w) 4 f fd ["pattern", "arrow"] (spCArrow CW CG) := by
  refine F.okX scCArrow (fun vs H Q E h => ?_) (fun cdv A outer s H vs Q E hr h => ?_)
  · obtain ⟨x, v, d, rfl, _⟩ := h
    rfl
  · obtain ⟨x, v, d, rfl, lx, an, q1, q2, q3⟩ := h
    obtain ⟨tM, gM⟩ := T.gM
    have lz : x.length ≤ sizeLine := Nat.le_trans lx (by decide)
    refine ⟨_, (pss_cons (ps_if (pt_not (PW.pt (pw_and (pt_val (pe_callB call_isi (by rfl) T.isi (by decide +kernel) (pa_cons (pv 1) (pa_cons (pe_bltn (v := .ty "str") rfl T.str (by decide +kernel) rfl) pa_nil)))) (pw_and1 (pt_cmpR (op_in_ts T.tT) (pv 1) (pe_glob (v := .ref aT) rfl T.gT rfl) (by rfl)))))) (pss_one (ps_throw eW rfl (hr.mono (by decide)) (takes_of rfl rfl rfl rfl) (pv 1))) pss_nil)
      (pss_one (ps_if (pt_cmpR op_eq (pe_callB call_len_str (by rfl) T.len (by decide +kernel) (pa_cons (pv 0) pa_nil)) (pe_glob (v := .int 6) rfl gM ⟨_, rfl⟩) (nomark _)) (pss_one (ps_throw eG rfl (hr.mono (by decide)) (takes_of rfl rfl rfl rfl) (pe_op op_add (pe_glob (v := .int 6) rfl gM ⟨_, rfl⟩) pe_int))) pss_nil))), ?_⟩
    refine ⟨v, rfl, v, .ty "str", _, _, _, rfl, .ty _, any_ty an, kit_str d, _, rfl, ?_⟩
    cases an with
    | str z =>
      refine iteT ⟨_, rfl, z, rfl, rfl, _, rfl, ?_⟩
      rw [h2]
      cases ea : isArD (.str z) with
      | false => exact iteT ⟨_, rfl, thrown_go (q1 ea)⟩
      | true =>
        refine iteF ⟨_, rfl, x, rfl, lz, rfl, _, rfl, ite2 (fun y => ?_) (fun y => ?_)⟩
        · have e6 : x.length = 6 := by
            have h3 : V.int (x.length : Int) = V.int 6 := of_decide_eq_true y
            injection h3 with h4
            omega
          exact ⟨_, _, rfl, rfl, thrown_go (q2 ea e6)⟩
        · have e6 : ¬ x.length = 6 := fun z => y (decide_eq_true (by rw [z] <;> rfl))
          exact q3 ea (by omega)
    | _ => exact iteF (iteT ⟨_, rfl, thrown_go (q1 rfl)⟩)
set_option pp.maxSteps 300 in
theorem okGrow {f : Addr} {fd : FuncData} (F : Fun K "grown" "grown" sGrow f fd) (PP : PropAt P w K mg base C "pattern" (spGetP C)) (PQ : PropAt P w K mg base C "prime" (spGetQ C)) (PS : PropAt P w K mg base C "sizes" (spGetS C)) (MM : Meth0At P w K mg base C "maps" 1 (spMapsN C)) (RA : RowsAt P w K mg base C CT CP CZ CA CM)
    (GA : Own P w K mg base (L2.CX P w) 4 "_check_arrow" ["pattern", "arrow"] [] (spCArrow CW CG)) (GS : Own P w K mg base (L2.CX P w) 4 "check_size" ["size"] [] (spCSize CS)) : FnOk P w K mg base (L2.CX P w) 8 f fd ["row", "arrow", "size", "matrix"] (spGrow C CW CG CS CM) := by
  refine F.okX scGrow (fun vs H Q E h => ?_) (fun cdv A outer s H vs Q E hr h => ?_)
  · obtain ⟨a, va, vn, vm, x, p, ss, ms, da, dn, dm, rfl, _⟩ := h
    rfl
  · obtain ⟨a, va, vn, vm, x, p, ss, ms, da, dn, dm, rfl, ra, ga, aa, an, am, fm, t1, t2, t3, t4, q⟩ := h
    have ra0 := ra
    obtain ⟨dx, sa, ma, ea, asa, ama⟩ := ra
    have lx := ga.p.l
    have lz : x.length ≤ sizeLine := Nat.le_trans lx (by decide)
    have pc := passes_call (X := (cxOf (L2.CX P w) P w K mg base ["row", "arrow", "size", "matrix"] "grown" (defScope sGrow) f cdv A outer s H E)) (E := E) (takes_of rfl rfl rfl rfl) (fun _ _ _ _ z => z)
    refine ⟨_, (pss_cons (ps_expr (pe_own GA (hr.mono (by decide)) pc (pa_cons (pe_prp PP (hr.mono (by decide)) (pv 0)) (pa_cons (pv 1) pa_nil))))
      (pss_cons (ps_expr (pe_own GS (hr.mono (by decide)) pc (pa_cons (pv 2) pa_nil)))
      (pss_one (ps_ret (pe_rowN (E := E) RA hr pc (pa_cons (pe_op op_add_str (pe_prp PP (hr.mono (by decide)) (pv 0)) (pv 1)) (pa_cons (pe_prp PQ (hr.mono (by decide)) (pv 0)) (pa_cons (pe_op op_catT (pe_prp PS (hr.mono (by decide)) (pv 0)) (pe_tup (pa_cons (pv 2) pa_nil))) (pa_cons (pe_op op_cat (pe_mth0 MM (hr.mono (by decide)) (pv 0)) (pe_lst (pa_cons (pv 3) pa_nil))) pa_nil))))))))), ?_⟩
    refine ⟨_, rfl, a, dx, _, rfl, ea, a, x, p, _, _, rfl, ra0, _, rfl, x, va, da, rfl, lx, aa, t1, t2, fun g1 l6 => ?_⟩
    obtain ⟨r, rfl⟩ := arD_of g1
    refine ⟨_, rfl, vn, dn, rfl, an, fun g2 => ?_, fun g2 => t3 g1 l6 g2⟩
    obtain ⟨n, rfl, n6⟩ := sz_of g2
    obtain ⟨b1, b2, b3, b4, b5, b6⟩ := more_good (r := r) (n := n) (d := dm) ga l6 n6
    cases aa
    cases an
    refine ⟨_, rfl, a, dx, _, rfl, ea, a, x, p, _, _, rfl, ra0, _, rfl, x, arrS r, rfl, rfl, by rw [arrS_len]; exact Nat.le_trans (by omega : _ ≤ 7) (by decide), ?_⟩
    refine ⟨_, rfl, a, dx, _, rfl, ea, a, x, p, _, _, rfl, ra0, ?_⟩
    refine ⟨_, rfl, a, dx, _, rfl, ea, a, x, p, _, _, rfl, ra0, fun ts ats => ?_⟩
    cases ats with
    | tup ets als =>
    rename_i xss
    have ns := anyL_len als
    rw [List.length_map, ga.d.sl] at ns
    refine ⟨_, rfl, by show 1 ≤ sizeLine; decide, fun t ht => ?_⟩
    have k1 := same_new (o := .tup [.int (n : Nat)]) ht
    refine ⟨ts, t, xss, [.int (n : Nat)], rfl, rfl, SqT.of (k1 _ _ ets), SqT.of upd_same, (fun z => by rw [z] at ns; cases ns), Nat.le_trans (by show xss.length + 1 ≤ 8; omega) (by decide), (fun z => nomatch z), fun _ t2 ht2 => ?_⟩
    have k2 := same_new (o := .tup (xss ++ [.int (n : Nat)])) ht2
    have k12 := k1.trans k2
    have e2 : (upd (upd H t (.tup [.int (n : Nat)])) t2 (.tup (xss ++ [.int (n : Nat)]))) t2 = some (.tup (xss ++ [.int (n : Nat)])) := upd_same
    have a2 : Any _ (.ref t2) (moreSz ss n) := .tup e2 (anyL_snoc (anyL_keep k12 als) (.int _))
    generalize upd (upd H t (.tup [.int (n : Nat)])) t2 (.tup (xss ++ [.int (n : Nat)])) = H2 at k12 a2 ⊢
    refine ⟨_, rfl, a, dx, _, rfl, k12 _ _ ea, rfl, a, x, p, ss, ms, rfl, ra0.keep k12, by rw [ga.d.ml]; omega, fun m hm => Nat.le_trans (good_high ga m hm) (by decide), fun l acc H3 hl k3 el al nwl => ?_⟩
    have ln := anyL_len al
    rw [List.length_map, ga.d.ml] at ln
    refine ⟨_, rfl, by show 1 ≤ sizeLine; decide, fun l1 hl1 => ?_⟩
    have k4 := same_new (o := .lst [vm]) hl1
    refine ⟨l, l1, acc, [vm], rfl, rfl, k4 _ _ el, upd_same, Nat.le_trans (by show acc.length + 1 ≤ 7; omega) (by decide), fun l2 hl2 => ?_⟩
    have k5 := same_new (o := .lst (acc ++ [vm])) hl2
    have k35 := (k3.trans k4).trans k5
    have k15 := k12.trans k35
    have a5 : Any _ (.ref l2) (moreMp ms dm) := .lst upd_same (anyL_snoc (anyL_keep ((same_del.trans k4).trans k5) al) (am.keep k15))
    generalize upd (upd H3 l1 (.lst [vm])) l2 (.lst (acc ++ [vm])) = H5 at k15 a5 k35 ⊢
    have fit : FitM (moreMp ms dm) := ⟨by show (ms.map sheetD ++ [dm]).length ≤ 1000; rw [List.length_append, List.length_map, ga.d.ml]; show x.length + 1 ≤ 1000; omega, fun e he => by
      rcases List.mem_append.mp he with z | z
      · exact (draft_sheet ga.d ga.q (by decide) e z).f
      · rw [List.mem_singleton.mp z]; exact fm⟩
    refine ⟨_, _, _, _, .str (x ++ arrS r), .int p, moreSz ss n, moreMp ms dm, rfl, ⟨.str _, .int p, a2.keep k35, a5, fun y e => by cases e; rw [more_len]; omega, ?_, fit⟩, ⟨fun z => ?_, fun _ z => ?_, fun y e _ _ z => ?_, fun y e _ _ _ z => ?_, fun y i v H6 e _ _ _ _ z k6 av => ?_⟩, fun y p' o H' e e' gd ho k6 ro => ?_⟩
    · show (ss.map natD ++ [natD n]).length ≤ 1000
      rw [List.length_append, List.length_map, ga.d.sl]
      show x.length + 1 + 1 ≤ 1000
      omega
    · rw [b1] at z; cases z
    · rw [b2] at z; cases z
    · cases e; rw [b3] at z; cases z
    · cases e; rw [b4] at z; cases z
    · cases e
      rw [b5] at z
      cases em : isMatD (highS r ss n : Nat) (wideS r ss n : Nat) dm with
      | true => rw [em, if_pos rfl] at z; cases z
      | false =>
        rw [em, if_neg (by decide)] at z
        cases Option.some.inj z
        rw [b6] at av
        exact t4 r n v H6 rfl l6 rfl n6 em (k15.trans k6) av
    · cases e
      cases e'
      obtain ⟨_, _, _, _, h5⟩ := good_parts gd
      rw [b5] at h5
      cases em : isMatD (highS r ss n : Nat) (wideS r ss n : Nat) dm with
      | false => rw [em, if_neg (by decide)] at h5; cases h5
      | true =>
        refine q r n o H' rfl l6 rfl n6 em (k15.free ho) (k15.trans k6) ?_
        have r1 : itemsD (moreSz ss n) = (ss ++ [n]).map natD := by
          show ss.map natD ++ [natD n] = _
          rw [List.map_append] <;> rfl
        have r2 : (itemsD (moreMp ms dm)).map (rowsM p) = ms.map (fun m => m.map tupI) ++ [rowsM p dm] := by
          show (ms.map sheetD ++ [dm]).map (rowsM p) = _
          rw [List.map_append]
          have := draft_rows ga.d
          rw [show (ms.map sheetD).map (rowsM p) = ms.map fun m => m.map tupI from this] <;> rfl
        rw [r1, r2] at ro
        exact ro
end
end K57

set_option Elab.async false
set_option linter.all false
set_option maxRecDepth 100000
set_option maxHeartbeats 4000000
/-! TkFC: xs[::s] with s 1 or -1; drawn vectors and rows with great numbers. -/
namespace Rw
open PySem PySem.Spec PyProof.Rows L2
theorem pick_one (items : Array Value) : slicePick items none none (some 1) = items := by
  have e : sliceBounds none none (none : Option Int) items.size = (((0 : Nat) : Int), ((items.size : Nat) : Int), 1) := by
    unfold sliceBounds
    simp
  show slicePick items none none none = items
  rw [PySem.W.kmk_pick_nat items e]
  have h : items.toList.length = items.size := Array.length_toList
  rw [List.drop_zero, Nat.sub_zero, ← h, List.take_length]
def tStepL (K : PySem.W.Frag) (te ts : TE) : TE := fun σ H Q => te σ H fun x H1 => tPart ts σ H1 fun z H2 => ∃ (a : Addr) (xs : List V) (r : Bool), x = .ref a ∧ SqL K H2 a xs ∧ z = some (if r = true then -1 else 1) ∧ ∀ p, H2 p = none → Q (.ref p) (upd H2 p (.lst (if r = true then xs.reverse else xs)))
theorem pe_stepL {X : Cx} {e st : PySem.Expr} {te ts : TE} {p3 pos : Pos} (he : PE X e te) (hs : PE X st ts)
    (hq : ∀ (a b : Addr), subscripted (.Slice none none (some st) p3) false (.ref a) (.ref b) = operate [.ref a, .ref b] (getItem (.ref a) (.ref b)) := by intros; with_unfolding_all rfl) : PE X (.Subscript e (.Slice none none (some st) p3) pos) (tStepL X.K te ts) := by
  refine ⟨fun pins s σ H Q I h => ?_⟩
  refine Subscript_ (thn (he.run pins s σ H _ I h) fun v s1 ⟨x, H1, I1, r1, q1⟩ => ?_)
  have hst : PO X (some st) (tPart ts) := po_some hs
  refine wpAny_Slice (thn (po_none.run pins s1 σ H1 (fun o H2 => o = none ∧ H2 = H1) I1 ⟨rfl, rfl⟩) fun vl s2 ⟨l, H2, I2, pl, el, e2⟩ => ?_)
  subst el e2
  refine thn (po_none.run pins s2 σ H2 (fun o H3 => o = none ∧ H3 = H2) I2 ⟨rfl, rfl⟩) fun vu s3 ⟨u, H3, I3, pu, eu, e3⟩ => ?_
  subst eu e3
  refine thn (hst.run pins s3 σ H3 _ I3 q1) fun vs s4 ⟨o, H4, I4, ps, a, xs, r, ex, hx, eo, q⟩ => ?_
  subst ex eo
  cases r1
  have I5 : Inv X pins σ H4 { s4 with heap := s4.heap.push { cls := .type "slice", data := .fields #[vl, vu, vs] } } := I4.kept (t' := s4.toks) fun b ob q => Heap.get?_push_of_some _ q
  obtain ⟨its, rr, ht, hz⟩ := I5.list hx
  have hlen := rr.length
  show wpAny (model X.prog X.w) X.A (subscriptTail e (.Slice none none (some st) p3) (.ref a) (.ref s4.heap.objs.size)) (EP X pins σ Q) X.xe { s4 with heap := s4.heap.push { cls := .type "slice", data := .fields #[vl, vu, vs] } }
  refine tail_any (ops := [.ref a, .ref s4.heap.objs.size]) ht.isList.typeIs (PySem.slot_list_getitem.lookup) ?_ (hq _ _)
  refine wpAny_getItem_list_slice ht.isList (Heap.IsSliceOf.new _ vl vu vs) pl pu ps (by cases r <;> decide) ?_ (by rw [List.size_toArray]; omega)
  cases r with
  | true =>
    rw [if_pos rfl, PySem.W.krv_pick]
    refine ⟨.ref _, _, I5.laid (t' := s4.toks) (o := .lst xs.reverse) (fun b ob q => Heap.get?_push_of_some _ q) (Nat.le_refl _) ?_, rfl, q _ (I5.hok.fresh (Nat.le_refl _))⟩
    exact ⟨by rw [List.length_reverse]; exact hz, _, 0, rr.reverse, Heap.get?_push_size _ rfl⟩
  | false =>
    rw [if_neg (by decide), pick_one]
    refine ⟨.ref _, _, I5.laid (t' := s4.toks) (o := .lst xs) (fun b ob q => Heap.get?_push_of_some _ q) (Nat.le_refl _) ?_, rfl, q _ (I5.hok.fresh (Nat.le_refl _))⟩
    exact ⟨hz, _, 0, rr, Heap.get?_push_size _ rfl⟩
end Rw

set_option Elab.async false
set_option linter.all false
set_option maxRecDepth 100000
set_option maxHeartbeats 4000000
/-! TkFD: drawn vectors and webs, with great numbers; the row of a web. -/
namespace Rw
open PySem PySem.Spec PyProof.Rows L2
def Big (e : Int) : Prop := e.natAbs < 10 ^ 29
structure BigM (k w : Nat) (m : List (List Int)) : Prop where
  h : m.length = k
  w : ∀ r, r ∈ m → r.length = w ∧ ∀ e, e ∈ r → Big e
structure Web (x : Str) (q : Int) (high : Nat) (ss : List Nat) (ms : List (List (List Int))) : Prop where
  sl : ss.length = x.length + 1
  sb : ∀ s, s ∈ ss → s ≤ high
  ml : ms.length = x.length
  mo : ∀ i m, ms[i]? = some m → BigM (ss[stA x i]?.getD 0) (ss[goA x i]?.getD 0) m
def spDigit : Sp := fun vs H Q _ => ∃ (p : Addr) (q : Int) (n : Nat), vs = [.ref p, .int q] ∧ q ∈ primesL ∧ Bx H p n ∧ n ≤ 900000 ∧ ∀ e H', Big e → Grow p H H' → Bx H' p (n + 3) → Q (.int e) H'
def spVecs : Sp := fun vs H Q _ => ∃ (p : Addr) (q : Int) (w k n : Nat), vs = [.ref p, .int q, .int (w : Nat), .int (k : Nat)] ∧ q ∈ primesL ∧ w ≤ 6 ∧ k ≤ 6 ∧ Bx H p n ∧ n ≤ 850000 ∧
  ∀ l acc m H', H l = none → Grow p H H' → Bx H' p (n + 300) → H' l = some (.lst acc) → AnyL H' acc (m.map tupI) → BigM k w m → Q (.ref l) H'
def spWeb : Sp := fun vs H Q _ => ∃ (p : Addr) (most high n : Nat), vs = [.ref p, .int (most : Nat), .int (high : Nat)] ∧ most ≤ 6 ∧ high ≤ 6 ∧ Bx H p n ∧ n ≤ 800000 ∧
  ∀ l x q ss ms H', Web x q high ss ms → Pat x most → q ∈ primesL → Grow p H H' → Bx H' p (n + 3000) → Any (del H' p) (.ref l) (draftD x q ss ms) → Q (.ref l) H'
def spMade (C : Addr) : Sp := fun vs H Q _ => ∃ v x q high ss ms, vs = [v] ∧ Any H v (draftD x q ss ms) ∧ Web x q high ss ms ∧ Pat x 6 ∧ q ∈ primesL ∧ high ≤ 6 ∧ ∀ a H', H a = none → Same H H' → RowOf C H' a x q ss (ms.map (redM q)) → Q (.ref a) H'
def spShape : Sp := fun vs H Q _ => ∃ (r : Bool) (a b : Nat), vs = [.str (arrS r), .int (a : Nat), .int (b : Nat)] ∧ ∀ t H', Same H H' → H' t = some (.tup [.int ((if r = true then a else b : Nat) : Int), .int ((if r = true then b else a : Nat) : Int)]) → Q (.ref t) H'
theorem tups_lt {H H' : Hp} {acc : List V} {m : List (List Int)} (a : AnyL H acc (m.map tupI)) (k : Lt H H') : AnyL H' acc (m.map tupI) := anyL_lt k _ _ a (noLs_of fun d hd => by
  obtain ⟨r, _, rfl⟩ := List.mem_map.mp hd
  exact noL_tupI r)
theorem grow_lt {p : Addr} {H H' : Hp} {n : Nat} (b : Bx H p n) (g : Grow p H H') : Lt H H' := fun c o e nl => by
  obtain ⟨xs, hp⟩ := bx_at b
  exact g c o (fun z => by rw [z, hp] at e; exact nl xs (Option.some.inj e).symm) e
theorem tup_row {H : Hp} {acc : List V} {m : List (List Int)} {j : Nat} (a : AnyL H acc (m.map tupI)) (h : j < m.length) : ∃ t r, acc[j]? = some (.ref t) ∧ r ∈ m ∧ H t = some (.tup (r.map V.int)) := by
  have hl := anyL_len a
  rw [List.length_map] at hl
  have h2 : acc[j]? = some acc[j] := List.getElem?_eq_getElem (by omega)
  obtain ⟨d, hd, ad⟩ := anyL_at a h2
  rw [List.getElem?_map, List.getElem?_eq_getElem h] at hd
  cases Option.some.inj hd
  generalize acc[j] = v at ad h2
  cases ad with
  | tup e al => exact ⟨_, _, h2, List.getElem_mem h, by rw [e, anyL_ints al]⟩
theorem big_sm {e : Int} (h : Big e) : smallB (.int e) = true := decide_eq_true (Nat.lt_trans h (by decide))
theorem bigM_sheet {k w : Nat} {m : List (List Int)} (b : BigM k w m) (hk : k ≤ 6) (hw : w ≤ 6) (f : List Int → PyData) (hf : ∀ r, f r = .tuple (r.map .int) ∨ f r = .list (r.map .int)) : SheetT (.list (m.map f)) := by
  refine sheet_list (by rw [List.length_map, b.h]; exact hk) fun d hd => ?_
  obtain ⟨r, hr, rfl⟩ := List.mem_map.mp hd
  obtain ⟨h1, h2⟩ := b.w r hr
  have cell : ∀ d, d ∈ r.map PyData.int → Cell d := fun d hd => by
    obtain ⟨e, he, rfl⟩ := List.mem_map.mp hd
    exact cell_int (Nat.lt_trans (h2 e he) (by decide))
  have lr : (r.map PyData.int).length ≤ 6 := by rw [List.length_map, h1]; exact hw
  rcases hf r with z | z
  · rw [z]
    exact ⟨tm_tup lr fun d hd => (cell d hd).tm, fit1_of (ds := r.map PyData.int) rfl (by omega) fun d hd => (cell d hd).sm, rfl⟩
  · rw [z]
    exact row_list lr cell
theorem isMat_f {k w : Nat} {m : List (List Int)} (h : m.length = k) (hw : ∀ r, r ∈ m → r.length = w) (f : List Int → PyData) (hf : ∀ r, f r = .tuple (r.map .int) ∨ f r = .list (r.map .int)) : isMatD (k : Nat) (w : Nat) (.list (m.map f)) = true := by
  unfold isMatD
  rw [Bool.and_eq_true, Bool.and_eq_true]
  refine ⟨rfl, decide_eq_true (by show (((m.map f).length : Nat) : Int) = _; rw [List.length_map, h]), List.all_eq_true.mpr fun d hd => ?_⟩
  obtain ⟨r, hr, rfl⟩ := List.mem_map.mp hd
  have key : isSeqD (f r) = true ∧ itemsD (f r) = r.map .int := by
    rcases hf r with z | z <;> rw [z] <;> exact ⟨rfl, rfl⟩
  unfold isVecD
  rw [Bool.and_eq_true, Bool.and_eq_true, key.1, key.2]
  refine ⟨rfl, decide_eq_true (by rw [List.length_map, hw r hr]), List.all_eq_true.mpr fun e he => ?_⟩
  obtain ⟨n, _, rfl⟩ := List.mem_map.mp he
  rfl
theorem rows_redF (q : Int) (m : List (List Int)) (f : List Int → PyData) (hf : ∀ r, f r = .tuple (r.map .int) ∨ f r = .list (r.map .int)) : rowsM q (.list (m.map f)) = (redM q m).map tupI := by
  unfold rowsM redM redR tupI
  show (m.map f).map _ = _
  rw [List.map_map, List.map_map]
  refine List.map_congr_left fun r _ => ?_
  have key : itemsD (f r) = r.map .int := by rcases hf r with z | z <;> rw [z] <;> rfl
  show PyData.tuple ((itemsD (f r)).map (modD q)) = .tuple ((r.map fun e => e.fmod q).map .int)
  rw [key, List.map_map, List.map_map] <;> rfl
theorem tupI_or (r : List Int) : tupI r = .tuple (r.map .int) ∨ tupI r = .list (r.map .int) := .inl rfl
theorem red_mat {q : Int} {k w : Nat} {m : List (List Int)} (hq : q ∈ primesL) (b : BigM k w m) : MatOk q k w (redM q m) := by
  have pp := prime_pos hq
  refine ⟨by unfold redM; rw [List.length_map, b.h], fun r hr => ?_⟩
  unfold redM at hr
  obtain ⟨r0, h0, rfl⟩ := List.mem_map.mp hr
  unfold redR
  refine ⟨by rw [List.length_map]; exact (b.w r0 h0).1, fun e he => ?_⟩
  obtain ⟨e0, _, rfl⟩ := List.mem_map.mp he
  rw [fmod_pos (by omega)]
  exact ⟨Int.emod_nonneg _ (by omega), Int.emod_lt_of_pos _ (by omega)⟩
theorem web_red {x : Str} {q : Int} {high : Nat} {ss : List Nat} {ms : List (List (List Int))} (w : Web x q high ss ms) (p : Pat x 6) (hq : q ∈ primesL) (h6 : high ≤ 6) : Good x q ss (ms.map (redM q)) := by
  refine ⟨⟨w.sl, fun s hs => Nat.le_trans (w.sb s hs) h6, by rw [List.length_map]; exact w.ml, fun i m hm => ?_⟩, p, hq⟩
  rw [List.getElem?_map] at hm
  cases e : ms[i]? with
  | none => rw [e] at hm; cases hm
  | some m0 =>
    rw [e] at hm
    cases Option.some.inj hm
    exact red_mat hq (w.mo i m0 e)
theorem web_le {x : Str} {q : Int} {high : Nat} {ss : List Nat} {ms : List (List (List Int))} (w : Web x q high ss ms) (j : Nat) : ss[j]?.getD 0 ≤ high := get_le w.sb j
theorem web_good {x : Str} {q : Int} {high : Nat} {ss : List Nat} {ms : List (List (List Int))} (d : Web x q high ss ms) (px : Pat x 6) (hq : q ∈ primesL) (m6 : high ≤ 6) : rowGood x q (.list (ss.map natD)) (.list (ms.map sheetD)) = true := by
  unfold rowGood
  have e1 : isPatD (.str x) = true := by
    show (decide (x.length ≤ 6) && x.cps.toList.all isArr) = true
    rw [decide_eq_true px.l, px.a] <;> rfl
  have e2 : isPr (.int q) = true := decide_eq_true hq
  have e3 : mapsOk x.length (.list (ms.map sheetD)) = true := by
    unfold mapsOk
    rw [Bool.and_eq_true]
    exact ⟨rfl, decide_eq_true (by show (ms.map sheetD).length = _; rw [List.length_map, d.ml])⟩
  have e4 : badAt x (.list (ss.map natD)) (.list (ms.map sheetD)) = none := bad_none fun j hj => by
    have hj2 : j < ms.length := by rw [d.ml]; exact hj
    have h1 : ms[j]? = some ms[j] := List.getElem?_eq_getElem hj2
    unfold matOk
    rw [draft_at h1, nats_sz, nats_sz]
    have b := d.mo j _ h1
    exact isMat_f b.h (fun r hr => (b.w r hr).1) tupI tupI_or
  rw [e1, e2, nats_ok d.sl (fun s hs => Nat.le_trans (d.sb s hs) m6), e3, e4] <;> rfl
theorem web_rows {q : Int} {ms : List (List (List Int))} : (itemsD (.list (ms.map sheetD))).map (rowsM q) = (ms.map (redM q)).map fun m => m.map tupI := by
  show (ms.map sheetD).map (rowsM q) = _
  rw [List.map_map, List.map_map]
  exact List.map_congr_left fun m _ => rows_redF q m tupI tupI_or
theorem web_sheet {x : Str} {q : Int} {high : Nat} {ss : List Nat} {ms : List (List (List Int))} (d : Web x q high ss ms) (m6 : high ≤ 6) : ∀ e, e ∈ ms.map sheetD → SheetT e := by
  intro e he
  obtain ⟨m, hm, rfl⟩ := List.mem_map.mp he
  obtain ⟨i, hi⟩ := List.getElem?_of_mem hm
  exact bigM_sheet (d.mo i m hi) (Nat.le_trans (web_le d _) m6) (Nat.le_trans (web_le d _) m6) tupI tupI_or
theorem web_fitM {x : Str} {q : Int} {high : Nat} {ss : List Nat} {ms : List (List (List Int))} (d : Web x q high ss ms) (px : Pat x 6) (m6 : high ≤ 6) : FitM (.list (ms.map sheetD)) :=
  ⟨by show (ms.map sheetD).length ≤ _; rw [List.length_map, d.ml]; have := px.l; omega, fun e he => (web_sheet d m6 e he).f⟩
theorem digit_big {q a : Int} {c : Int} (hq : q ∈ primesL) (a0 : 0 ≤ a) (a1 : a < q) (h : c.natAbs ≤ 10 ^ 27) : Big (a + q * c) := by
  have pp := prime_pos hq
  unfold Big
  have h1 : (q * c).natAbs = q.natAbs * c.natAbs := Int.natAbs_mul q c
  have h2 : (a + q * c).natAbs ≤ a.natAbs + (q * c).natAbs := Int.natAbs_add_le a (q * c)
  have h3 : q.natAbs * c.natAbs ≤ 13 * 10 ^ 27 := Nat.mul_le_mul (by omega) h
  have h4 : (10 : Nat) ^ 29 = 100 * 10 ^ 27 := by decide
  omega
theorem arrT_at {x : Str} {m i : Nat} (p : Pat x m) (h : i < x.length) : ∃ c, x.cps.toList[i]? = some c ∧ isArr c = true := by
  have h2 : i < x.cps.toList.length := by rw [lenT]; exact h
  exact ⟨_, List.getElem?_eq_getElem h2, List.all_eq_true.mp p.a _ (List.getElem_mem h2)⟩
theorem signT_eq {x : Str} {i c : Nat} (h : x.cps.toList[i]? = some c) (a : isArr c = true) : decide (V.str ⟨#[c]⟩ = V.str "<") = !isR x i := by
  have e : isR x i = (c == 62) := by
    unfold isR
    rw [h] <;> rfl
  have h2 : c = 62 ∨ c = 60 := by
    have : (c == 62 || c == 60) = true := a
    simpa using this
  rw [e]
  rcases h2 with z | z <;> subst z <;> decide
end Rw

set_option Elab.async false
set_option linter.all false
set_option maxRecDepth 100000
set_option maxHeartbeats 4000000
/-! TkFE: what is due where one map more is refused; the odd things. -/
namespace Rw
open PySem PySem.Spec PyProof.Rows L2
def isGt : PyData → Bool
  | .str z => decide (z = ">")
  | _ => false
def growDue (x : Str) (ss : List Nat) (da dn dm : PyData) : PyData :=
  if isArD da = true then (if x.length = 6 then wD "large" (.int 7) else if isSzD dn = true then (if isMatD (highS (isGt da) ss (intN dn).toNat : Nat) (wideS (isGt da) ss (intN dn).toNat : Nat) dm = true then .list [.str "told"] else wD "matrix" dm) else wD "size" dn) else wD "arrow" da
theorem isGt_arrS (r : Bool) : isGt (.str (arrS r)) = r := by cases r <;> decide
def spGrowC (C : Addr) : Sp := fun vs H Q _ => ∃ a va vn vm x p ss ms da dn dm, vs = [.ref a, va, vn, vm] ∧ RowOf C H a x p ss ms ∧ Good x p ss ms ∧ Any H va da ∧ Any H vn dn ∧ Any H vm dm ∧ Fit dm ∧ ∀ l H', H l = none → Same H H' → Any H' (.ref l) (growDue x ss da dn dm) → Q (.ref l) H'
def spRefusedG (C : Addr) : Sp := fun vs H Q _ => ∃ v a x p ss ms, ∃ (r : Bool) (n : Nat), vs = [v, .ref a, .str (arrS r), .int (n : Nat)] ∧ RowOf C H a x p ss ms ∧ Good x p ss ms ∧ n ≤ 6 ∧ ∀ H', Same H H' → Q (.bl true) H'
theorem atI_neg1 {α : Type} {xs : List α} {v : α} (h : xs[xs.length - 1]? = some v) : atI xs (-1) = some v := by
  have hne : xs ≠ [] := fun z => by rw [z] at h; cases h
  have e : xs = xs.dropLast ++ [v] := by
    have h2 := List.dropLast_concat_getLast hne
    rw [List.getLast_eq_getElem] at h2
    have hl : xs.length - 1 < xs.length := Nat.sub_lt (List.length_pos_iff.mpr hne) (by decide)
    rw [List.getElem?_eq_getElem hl] at h
    rw [← Option.some.inj h]
    exact h2.symm
  rw [e]
  exact atI_last _ _
theorem flat_one {α : Type} (v : α) : ∀ k : Nat, (List.replicate k [v]).flatten = List.replicate k v
  | 0 => rfl
  | k + 1 => by
    rw [List.replicate_succ, List.flatten_cons, flat_one v k, List.replicate_succ] <;> rfl
/-! ### small things -/
def fitB (d : PyData) : Bool := decide ((itemsD d).length ≤ 1000) && (itemsD d).all fun e => smallB e && (decide ((itemsD e).length ≤ 1000) && (itemsD e).all smallB)
theorem fit_ofB {d : PyData} (h : fitB d = true) : Fit d := by
  unfold fitB at h
  rw [Bool.and_eq_true, decide_eq_true_iff, List.all_eq_true] at h
  obtain ⟨h1, h2⟩ := h
  have h3 : ∀ e ∈ itemsD d, smallB e = true ∧ (itemsD e).length ≤ 1000 ∧ ∀ x ∈ itemsD e, smallB x = true := fun e he => by
    have := h2 e he
    rw [Bool.and_eq_true, Bool.and_eq_true, decide_eq_true_iff, List.all_eq_true] at this
    exact ⟨this.1, this.2.1, this.2.2⟩
  exact ⟨fit1_of rfl h1 fun x hx => (h3 x hx).1, fun e he => fit1_of rfl (h3 e he).2.1 (h3 e he).2.2⟩
def tqB (n : Nat) (d : PyData) : Bool := d.showable && (decide (d.depth ≤ 3 + n) && decide (d.shown.length ≤ 80 * 13 ^ n))
theorem tq_ofB {n : Nat} {d : PyData} (h : tqB n d = true) : Tq n d := by
  unfold tqB at h
  rw [Bool.and_eq_true, Bool.and_eq_true, decide_eq_true_iff, decide_eq_true_iff] at h
  exact ⟨h.1, h.2.1, h.2.2⟩
def oddArrs : List PyData := [.none, .int 3, .str "", .str "><", .str ">>", .str "x", .list [.str ">"], .bool true, .dict [], .str " >"]
theorem oddArrs_ok : ∀ d ∈ oddArrs, isArD d = false ∧ Tq 1 d ∧ Fit d := by
  have c : ∀ d ∈ oddArrs, isArD d = false ∧ tqB 1 d = true ∧ fitB d = true := by decide +kernel
  intro d hd
  obtain ⟨h1, h2, h3⟩ := c d hd
  exact ⟨h1, tq_ofB h2, fit_ofB h3⟩
def oddSzs : List PyData := [.none, .int (-1), .int 7, .bool true, .str "2", .list [.int 2], .int (10 ^ Int.toNat 29)]
theorem oddSzs_ok : ∀ d ∈ oddSzs, isSzD d = false ∧ Tq 1 d ∧ Fit d := by
  have c : ∀ d ∈ oddSzs, isSzD d = false ∧ tqB 1 d = true ∧ fitB d = true := by decide +kernel
  intro d hd
  obtain ⟨h1, h2, h3⟩ := c d hd
  exact ⟨h1, tq_ofB h2, fit_ofB h3⟩
def zeroR (w : Nat) : List Int := List.replicate w 0
def zeroM (h w : Nat) : List (List Int) := List.replicate h (zeroR w)
def oddM1 (h w : Nat) : List PyData := [.none, .int 3, .str "0", .dict [], .bool true, .list ((zeroM h w).map tupI ++ [tupI (zeroR w)]), .list (List.replicate (h + 1) (tupI (zeroR (w + 1))))]
def oddM2 (h w : Nat) : List PyData := [.list ((zeroM (h - 1) w).map tupI), .list (List.replicate h .none), .list (List.replicate h (.tuple (List.replicate (max 1 w) (.bool true)))), .list ((zeroM (h - 1) w).map tupI ++ [.tuple ((zeroR w).map .int ++ [.str "0"])])]
theorem oddM1_ok {h w : Nat} (hh : h ≤ 6) (hw : w ≤ 6) : ∀ d ∈ oddM1 h w, isMatD h w d = false ∧ Tq 2 d ∧ Fit d := by
  have c : ∀ h ∈ List.range 7, ∀ w ∈ List.range 7, ∀ d ∈ oddM1 h w, isMatD h w d = false ∧ tqB 2 d = true ∧ fitB d = true := by decide +kernel
  intro d hd
  obtain ⟨h1, h2, h3⟩ := c h (List.mem_range.mpr (by omega)) w (List.mem_range.mpr (by omega)) d hd
  exact ⟨h1, tq_ofB h2, fit_ofB h3⟩
theorem oddM2_ok {h w : Nat} (h0 : 0 < h) (hh : h ≤ 6) (hw : w ≤ 6) : ∀ d ∈ oddM2 h w, isMatD h w d = false ∧ Tq 2 d ∧ Fit d := by
  have c : ∀ h ∈ List.range 7, 0 < h → ∀ w ∈ List.range 7, ∀ d ∈ oddM2 h w, isMatD h w d = false ∧ tqB 2 d = true ∧ fitB d = true := by decide +kernel
  intro d hd
  obtain ⟨h1, h2, h3⟩ := c h (List.mem_range.mpr (by omega)) h0 w (List.mem_range.mpr (by omega)) d hd
  exact ⟨h1, tq_ofB h2, fit_ofB h3⟩
theorem anyL_rep {H : Hp} {v : V} {d : PyData} (a : Any H v d) : ∀ k : Nat, AnyL H (List.replicate k v) (List.replicate k d)
  | 0 => .nil
  | k + 1 => .cons a (anyL_rep a k)
theorem any_zero {H : Hp} {t : Addr} {w : Nat} (h : H t = some (.tup (List.replicate w (.int 0)))) : Any H (.ref t) (tupI (zeroR w)) := .tup h (by
  unfold zeroR
  rw [List.map_replicate]
  exact anyL_rep (.int 0) w)
end Rw

set_option Elab.async false
set_option linter.all false
set_option maxRecDepth 100000
set_option maxHeartbeats 4000000
/-! TkFF: a matrix handed in as lists and tuples; the web with one map more. -/
namespace Rw
open PySem PySem.Spec PyProof.Rows L2
/-- rows of numbers, each a list or a tuple -/
inductive Like : List PyData → List (List Int) → Prop
  | nil : Like [] []
  | cons {d : PyData} {r : List Int} {ds : List PyData} {m : List (List Int)} : d = tupI r ∨ d = lstI r → Like ds m → Like (d :: ds) (r :: m)
theorem Like.snoc {ds : List PyData} {m : List (List Int)} {d : PyData} {r : List Int} (a : Like ds m) (h : d = tupI r ∨ d = lstI r) : Like (ds ++ [d]) (m ++ [r]) := by
  induction a with
  | nil => exact .cons h .nil
  | cons k _ ih => exact .cons k ih
theorem Like.len {ds : List PyData} {m : List (List Int)} (a : Like ds m) : ds.length = m.length := by
  induction a with
  | nil => rfl
  | cons k _ ih => rw [List.length_cons, List.length_cons, ih]
theorem Like.mem {ds : List PyData} {m : List (List Int)} (a : Like ds m) : ∀ d, d ∈ ds → ∃ r, r ∈ m ∧ (d = tupI r ∨ d = lstI r) := by
  induction a with
  | nil => intro d hd; cases hd
  | cons k _ ih =>
    intro d hd
    rcases List.mem_cons.mp hd with z | z
    · rw [z]; exact ⟨_, List.mem_cons_self, k⟩
    · obtain ⟨r, hr, h⟩ := ih d z
      exact ⟨r, List.mem_cons_of_mem _ hr, h⟩
theorem like_tups : ∀ m : List (List Int), Like (m.map tupI) m
  | [] => .nil
  | r :: m => .cons (.inl rfl) (like_tups m)
theorem like_items {d : PyData} {r : List Int} (h : d = tupI r ∨ d = lstI r) : isSeqD d = true ∧ itemsD d = r.map .int := by
  rcases h with z | z <;> rw [z] <;> exact ⟨rfl, rfl⟩
theorem like_row {k w : Nat} {m : List (List Int)} {d : PyData} {r : List Int} (b : BigM k w m) (hw : w ≤ 6) (hr : r ∈ m) (h : d = tupI r ∨ d = lstI r) : RowT d := by
  obtain ⟨h1, h2⟩ := b.w r hr
  have cell : ∀ d, d ∈ r.map PyData.int → Cell d := fun d hd => by
    obtain ⟨e, he, rfl⟩ := List.mem_map.mp hd
    exact cell_int (Nat.lt_trans (h2 e he) (by decide))
  have lr : (r.map PyData.int).length ≤ 6 := by rw [List.length_map, h1]; exact hw
  rcases h with z | z
  · rw [z]
    exact ⟨tm_tup lr fun d hd => (cell d hd).tm, fit1_of (ds := r.map PyData.int) rfl (by omega) fun x hx => (cell x hx).sm, rfl⟩
  · rw [z]
    exact row_list lr cell
theorem like_sheet {k w : Nat} {m : List (List Int)} {ds : List PyData} (a : Like ds m) (b : BigM k w m) (hk : k ≤ 6) (hw : w ≤ 6) : SheetT (.list ds) ∧ SheetT (.tuple ds) := by
  have l : ds.length ≤ 6 := by rw [a.len, b.h]; exact hk
  have h : ∀ d, d ∈ ds → RowT d := fun d hd => by
    obtain ⟨r, hr, z⟩ := a.mem d hd
    exact like_row b hw hr z
  exact ⟨sheet_list l h, sheet_tup l h⟩
theorem like_isMat {k w : Nat} {m : List (List Int)} {ds : List PyData} {D : PyData} (a : Like ds m) (b : BigM k w m) (s : isSeqD D = true) (i : itemsD D = ds) : isMatD (k : Nat) (w : Nat) D = true := by
  unfold isMatD
  rw [i, Bool.and_eq_true, Bool.and_eq_true]
  refine ⟨s, decide_eq_true (by rw [a.len, b.h]), List.all_eq_true.mpr fun d hd => ?_⟩
  obtain ⟨r, hr, z⟩ := a.mem d hd
  obtain ⟨h1, h2⟩ := like_items z
  unfold isVecD
  rw [Bool.and_eq_true, Bool.and_eq_true, h1, h2]
  refine ⟨rfl, decide_eq_true (by rw [List.length_map, (b.w r hr).1]), List.all_eq_true.mpr fun e he => ?_⟩
  obtain ⟨n, _, rfl⟩ := List.mem_map.mp he
  rfl
theorem like_rowsL {q : Int} {m : List (List Int)} {ds : List PyData} (a : Like ds m) : ds.map (fun r => PyData.tuple ((itemsD r).map (modD q))) = (redM q m).map tupI := by
  induction a with
  | nil => rfl
  | @cons d r ds m k _ ih =>
    obtain ⟨_, h2⟩ := like_items k
    show PyData.tuple ((itemsD d).map (modD q)) :: ds.map (fun r => PyData.tuple ((itemsD r).map (modD q))) = tupI (redR q r) :: (redM q m).map tupI
    rw [ih, h2, List.map_map]
    unfold tupI redR
    rw [List.map_map] <;> rfl
theorem like_rows {q : Int} {m : List (List Int)} {ds : List PyData} {D : PyData} (a : Like ds m) (i : itemsD D = ds) : rowsM q D = (redM q m).map tupI := by
  unfold rowsM
  rw [i]
  exact like_rowsL a
/-- the web with one map more -/
theorem more_web {x : Str} {q : Int} {ss : List Nat} {ms : List (List (List Int))} {r : Bool} {n : Nat} {m : List (List Int)} (w : Web x q 3 ss ms) (n6 : n ≤ 6) (b : BigM (highS r ss n) (wideS r ss n) m) : Web (x ++ arrS r) q 6 (ss ++ [n]) (ms ++ [m]) := by
  have l1 := w.sl
  have l2 := w.ml
  refine ⟨by rw [List.length_append, more_len, l1] <;> rfl, fun s hs => ?_, by rw [List.length_append, more_len, l2] <;> rfl, fun i m' hi => ?_⟩
  · rcases List.mem_append.mp hs with z | z
    · exact Nat.le_trans (w.sb s z) (by decide)
    · rw [List.mem_singleton.mp z]; exact n6
  · have old : ∀ j, j ≤ x.length → (ss ++ [n])[j]?.getD 0 = ss[j]?.getD 0 := fun j hj => by rw [List.getElem?_append_left (by omega)]
    have new : (ss ++ [n])[x.length + 1]?.getD 0 = n := by
      rw [List.getElem?_append_right (by omega), l1, Nat.sub_self] <;> rfl
    by_cases h : i < x.length
    · obtain ⟨s1, s2⟩ := more_st (r := r) h
      rw [s1, s2, old _ (by have := stA_le x i; omega), old _ (by have := goA_le x i; omega)]
      rw [List.getElem?_append_left (by omega)] at hi
      exact w.mo i m' hi
    · have hlt := (List.getElem?_eq_some_iff.mp hi).1
      rw [List.length_append, List.length_cons, List.length_nil, l2] at hlt
      have ei : i = x.length := by omega
      subst ei
      rw [List.getElem?_append_right (by omega), l2, Nat.sub_self] at hi
      cases Option.some.inj hi
      have el : lastS ss = ss[x.length]?.getD 0 := by unfold lastS; rw [l1, Nat.add_sub_cancel]
      have e1 : (ss ++ [n])[stA (x ++ arrS r) x.length]?.getD 0 = highS r ss n := by
        unfold stA highS
        rw [more_new]
        cases r with
        | true => rw [if_pos rfl, if_pos rfl, old _ (Nat.le_refl _), el]
        | false => rw [if_neg (by decide), if_neg (by decide), new]
      have e2 : (ss ++ [n])[goA (x ++ arrS r) x.length]?.getD 0 = wideS r ss n := by
        unfold goA wideS
        rw [more_new]
        cases r with
        | true => rw [if_pos rfl, if_pos rfl, new]
        | false => rw [if_neg (by decide), if_neg (by decide), old _ (Nat.le_refl _), el]
      rw [e1, e2]
      exact b
theorem last_le {ss : List Nat} {k : Nat} (h : ∀ s, s ∈ ss → s ≤ k) : lastS ss ≤ k := get_le h _
theorem high_le {ss : List Nat} {n : Nat} {r : Bool} (h : ∀ s, s ∈ ss → s ≤ 3) (hn : n ≤ 6) : highS r ss n ≤ 6 := by
  have := last_le h
  unfold highS
  split <;> omega
theorem wide_le {ss : List Nat} {n : Nat} {r : Bool} (h : ∀ s, s ∈ ss → s ≤ 3) (hn : n ≤ 6) : wideS r ss n ≤ 6 := by
  have := last_le h
  unfold wideS
  split <;> omega
theorem same_row (x : Str) (q : Int) (ss : List Nat) (ms : List (List (List Int))) : sameRow x q ss ms x q ss ms = true := by
  unfold sameRow
  rw [decide_eq_true rfl, decide_eq_true rfl, decide_eq_true rfl, decide_eq_true rfl] <;> rfl
/-- the whole of a text, cut -/
theorem cut_all (x : Str) : cutS x (some ((0 : Nat) : Int)) (some ((x.length : Nat) : Int)) = x := by
  unfold cutS
  rw [HT.sIx_nat, HT.sIx_nat, Nat.min_self, Nat.zero_min, Nat.sub_zero, List.drop_zero, List.take_of_length_le (by rw [lenT]; exact Nat.le_refl _)]
theorem cut_more (x y : Str) : cutS (x ++ y) (some ((0 : Nat) : Int)) (some ((x.length : Nat) : Int)) = x := by
  unfold cutS
  have e1 : min x.length (x ++ y).length = x.length := by rw [catT_len]; omega
  rw [HT.sIx_nat, HT.sIx_nat, e1, Nat.zero_min, Nat.sub_zero, List.drop_zero, catT_list, ← lenT x, List.take_left']
  rfl
theorem arrS_inj {a b : Bool} (h : arrS a = arrS b) : a = b := by
  cases a <;> cases b <;> first | rfl | (exfalso; revert h; decide)
theorem szD_nat {n : Nat} (h : n ≤ 6) : isSzD (natD n) = true := by
  show (decide ((0 : Int) ≤ (n : Nat)) && decide (((n : Nat) : Int) ≤ 6)) = true
  rw [Bool.and_eq_true]
  exact ⟨decide_eq_true (by omega), decide_eq_true (by omega)⟩
theorem two_rows {C a b : Addr} {H : Hp} {x : Str} {q : Int} {ss : List Nat} {ms : List (List (List Int))} {Q : VK} (ra : RowOf C H a x q ss ms) (rb : RowOf C H b x q ss ms) (k : Q (.bl true) H) : rEqO C (spEqR C) (.ref a) (.ref b) H Q := by
  obtain ⟨d1, _, _, e1, _, _⟩ := id ra
  obtain ⟨d2, _, _, e2, _, _⟩ := id rb
  refine ⟨a, d1, _, rfl, e1, .inl ⟨b, d2, _, rfl, e2⟩, a, .ref b, x, q, ss, ms, rfl, ra, .inl ⟨b, x, q, ss, ms, rfl, rb, _, rfl, ?_⟩⟩
  rw [same_row]
  exact k
theorem grown_go {C CW CG CS CM R : Addr} {H : Hp} {x : Str} {q : Int} {ss : List Nat} {ms : List (List (List Int))} {rr : Bool} {n : Nat} {v : V} {D : PyData} {m : List (List Int)} {Q : VK} {E : XK} (ra : RowOf C H R x q ss (ms.map (redM q))) (g : Good x q ss (ms.map (redM q))) (l6 : x.length < 6) (n6 : n ≤ 6) (aD : Any H v D) (fit : Fit D)
    (mat : isMatD (highS rr ss n : Nat) (wideS rr ss n : Nat) D = true) (rows : rowsM q D = (redM q m).map tupI)
    (k : ∀ o H', H o = none → Same H H' → RowOf C H' o (x ++ arrS rr) q (ss ++ [n]) ((ms ++ [m]).map (redM q)) → Q (.ref o) H') : spGrow C CW CG CS CM [.ref R, .str (arrS rr), .int (n : Nat), v] H Q E := by
  have inj : ∀ {r2 : Bool} {n2 : Nat}, PyData.str (arrS rr) = .str (arrS r2) → natD n = natD n2 → r2 = rr ∧ n2 = n := fun e1 e2 => by
    refine ⟨(arrS_inj (PyData.str.inj e1)).symm, ?_⟩
    have := PyData.int.inj e2
    omega
  refine ⟨R, .str (arrS rr), .int (n : Nat), v, x, q, ss, ms.map (redM q), .str (arrS rr), natD n, D, rfl, ra, g, .str _, .int _, aD, fit, fun z => ?_, fun _ z => ?_, fun _ _ z => ?_, fun r2 n2 v2 H1 e1 _ e2 _ z _ _ => ?_, fun r2 n2 o H' e1 _ e2 _ _ ho k1 ro => ?_⟩
  · rw [arD_is] at z; cases z
  · omega
  · rw [szD_nat n6] at z; cases z
  · obtain ⟨rfl, rfl⟩ := inj e1 e2
    rw [mat] at z; cases z
  · obtain ⟨rfl, rfl⟩ := inj e1 e2
    refine k o H' ho k1 ?_
    rw [rows] at ro
    have e : (ms.map (redM q)).map (fun m => m.map tupI) ++ [(redM q m).map tupI] = ((ms ++ [m]).map (redM q)).map fun m => m.map tupI := by
      rw [List.map_append, List.map_append] <;> rfl
    rw [e] at ro
    exact ro
theorem inB_yes {i lo hi : Int} (h1 : lo ≤ i) (h2 : i ≤ hi) : inB (.int i) (.int lo) (.int hi) = true := by
  show (decide (lo ≤ i) && decide (i ≤ hi)) = true
  rw [Bool.and_eq_true]
  exact ⟨decide_eq_true h1, decide_eq_true h2⟩
end Rw

set_option Elab.async false
set_option linter.all false
set_option maxRecDepth 100000
set_option maxHeartbeats 4000000
/-! TkGA: streams: a row with the rows ahead of it and behind it. -/
namespace Rw
open PySem PySem.Spec PyProof.Rows L2
structure Dr where
  x : Str
  q : Int
  ss : List Nat
  ms : List (List (List Int))
def Dr.D (d : Dr) : PyData := draftD d.x d.q d.ss d.ms
abbrev RowD (C : Addr) (H : Hp) (a : Addr) (d : Dr) : Prop := RowOf C H a d.x d.q d.ss d.ms
abbrev GoodD (d : Dr) : Prop := Good d.x d.q d.ss d.ms
inductive RowsL (C : Addr) (H : Hp) : List V → List Dr → Prop
  | nil : RowsL C H [] []
  | cons {a : Addr} {d : Dr} {vs : List V} {ds : List Dr} : RowD C H a d → RowsL C H vs ds → RowsL C H (.ref a :: vs) (d :: ds)
theorem RowsL.len {C : Addr} {H : Hp} {vs : List V} {ds : List Dr} (h : RowsL C H vs ds) : vs.length = ds.length := by
  induction h with
  | nil => rfl
  | cons _ _ ih => rw [List.length_cons, List.length_cons, ih]
theorem RowsL.move {C : Addr} {H H' : Hp} {vs : List V} {ds : List Dr} (k : ∀ a d, RowD C H a d → RowD C H' a d) (h : RowsL C H vs ds) : RowsL C H' vs ds := by
  induction h with
  | nil => exact .nil
  | cons r _ ih => exact .cons (k _ _ r) ih
theorem RowsL.app {C : Addr} {H : Hp} {vs us : List V} {ds es : List Dr} (h : RowsL C H vs ds) (g : RowsL C H us es) : RowsL C H (vs ++ us) (ds ++ es) := by
  induction h with
  | nil => exact g
  | cons r _ ih => exact .cons r ih
theorem RowsL.one {C a : Addr} {H : Hp} {d : Dr} (r : RowD C H a d) : RowsL C H [.ref a] [d] := .cons r .nil
theorem RowsL.split {C : Addr} {H : Hp} {d : Dr} : ∀ {ds : List Dr} {vs : List V}, RowsL C H vs (ds ++ [d]) → ∃ us a, vs = us ++ [.ref a] ∧ RowsL C H us ds ∧ RowD C H a d
  | [], _, h => by
    cases h with
    | cons r t =>
      cases t
      exact ⟨[], _, rfl, .nil, r⟩
  | e :: ds, _, h => by
    cases h with
    | cons r t =>
      obtain ⟨us, a, rfl, h1, h2⟩ := RowsL.split (ds := ds) t
      exact ⟨_ :: us, a, rfl, .cons r h1, h2⟩
/-- the rows ahead (the oldest first), the present one, the rows behind (the one due next first) -/
structure St where
  past : List Dr
  here : Dr
  later : List Dr
def St.D (s : St) : PyData := .list [.list (s.past.map Dr.D), s.here.D, .list (s.later.map Dr.D)]
structure GoodS (n : Nat) (s : St) : Prop where
  p : ∀ d, d ∈ s.past → GoodD d
  h : GoodD s.here
  l : ∀ d, d ∈ s.later → GoodD d
  n : s.past.length + s.later.length ≤ n
def Str0 (D : Addr) (H : Hp) (a dx R tp tu : Addr) : Prop := H a = some (.ins D dx [("_row", .ref R), ("_past", .ref tp), ("_undone", .ref tu)])
structure StrIn (D C : Addr) (H : Hp) (a dx R tp tu : Addr) (ps us : List V) (s : St) : Prop where
  o : Str0 D H a dx R tp tu
  r : RowD C H R s.here
  ep : H tp = some (.tup ps)
  p : RowsL C H ps s.past
  eu : H tu = some (.tup us)
  u : RowsL C H us s.later.reverse
def StrAt (D C : Addr) (H : Hp) (a : Addr) (s : St) : Prop := ∃ dx R tp tu ps us, StrIn D C H a dx R tp tu ps us s
theorem StrAt.keep {D C a : Addr} {H H' : Hp} {s : St} (h : StrAt D C H a s) (k : Same H H') : StrAt D C H' a s := by
  obtain ⟨dx, R, tp, tu, ps, us, i⟩ := h
  exact ⟨dx, R, tp, tu, ps, us, k _ _ i.o, i.r.keep k, k _ _ i.ep, i.p.move fun _ _ r => RowAt.keep r k, k _ _ i.eu, i.u.move fun _ _ r => RowAt.keep r k⟩
theorem StrAt.lt {D C a : Addr} {H H' : Hp} {s : St} (h : StrAt D C H a s) (k : Lt H H') : StrAt D C H' a s := by
  obtain ⟨dx, R, tp, tu, ps, us, i⟩ := h
  exact ⟨dx, R, tp, tu, ps, us, k _ _ i.o (fun _ z => nomatch z), row_lt i.r k, k _ _ i.ep (fun _ z => nomatch z), i.p.move fun _ _ r => row_lt r k, k _ _ i.eu (fun _ z => nomatch z), i.u.move fun _ _ r => row_lt r k⟩
/-- a row is kept where a stream changes -/
theorem row_go {D C b dx : Addr} {fs : List (Str × V)} {H H' : Hp} (ne : C ≠ D) (e : H b = some (.ins D dx fs)) (g : Grow b H H') {a : Addr} {d : Dr} (r : RowD C H a d) : RowD C H' a d := by
  obtain ⟨dy, ts, tm, h1, h2, h3⟩ := r
  have ab : a ≠ b := fun z => by
    rw [z, e] at h1
    injection Option.some.inj h1 with h4
    exact ne h4.symm
  exact ⟨dy, ts, tm, g _ _ ab h1, h2.keeps (keeps_ins e g), h3.keeps (keeps_ins e g)⟩
theorem StrIn.lasts {D C a b dx R tp tu : Addr} {ps us : List V} {H H' : Hp} {s : St} {dy : Addr} {fs : List (Str × V)} (i : StrIn D C H a dx R tp tu ps us s) (ne : C ≠ D) (e : H b = some (.ins D dy fs)) (g : Grow b H H') : RowD C H' R s.here ∧ H' tp = some (.tup ps) ∧ RowsL C H' ps s.past ∧ H' tu = some (.tup us) ∧ RowsL C H' us s.later.reverse :=
  ⟨row_go ne e g i.r, (keeps_ins e g).t _ _ i.ep, i.p.move fun _ _ r => row_go ne e g r, (keeps_ins e g).t _ _ i.eu, i.u.move fun _ _ r => row_go ne e g r⟩
theorem StrAt.go {D C a b : Addr} {H H' : Hp} {s t : St} (h : StrAt D C H a s) (h2 : StrAt D C H b t) (ab : a ≠ b) (ne : C ≠ D) (g : Grow b H H') : StrAt D C H' a s := by
  obtain ⟨dx, R, tp, tu, ps, us, i⟩ := h
  obtain ⟨dy, _, _, _, _, _, j⟩ := h2
  obtain ⟨h1, h2, h3, h4, h5⟩ := i.lasts ne j.o g
  exact ⟨dx, R, tp, tu, ps, us, g _ _ ab i.o, h1, h2, h3, h4, h5⟩
theorem StrAt.keeps {D C a : Addr} {H H' : Hp} {s : St} (h : StrAt D C H a s) (g : Grow a H H') : Keeps H H' := by
  obtain ⟨dx, R, tp, tu, ps, us, i⟩ := h
  exact keeps_ins i.o g
theorem StrAt.ins {D C a : Addr} {H : Hp} {s : St} (h : StrAt D C H a s) : ∃ dx fs, H a = some (.ins D dx fs) := by
  obtain ⟨dx, R, tp, tu, ps, us, i⟩ := h
  exact ⟨_, _, i.o⟩
/-! ### what becomes of a row -/
def newDr (q : Int) (n : Nat) : Dr := ⟨"", q, [n], []⟩
def cutDr (d : Dr) (c : Nat) : Dr := ⟨cutS d.x (some (c : Nat)) (some (d.x.length : Nat)), d.q, d.ss.drop c, d.ms.drop c⟩
def growDr (d : Dr) (r : Bool) (n : Nat) (m : List (List Int)) : Dr := ⟨d.x ++ arrS r, d.q, d.ss ++ [n], d.ms ++ [m]⟩
theorem new_good {q : Int} {n : Nat} (hq : q ∈ primesL) (hn : n ≤ 6) : GoodD (newDr q n) :=
  ⟨⟨rfl, fun s hs => by rw [List.mem_singleton.mp hs]; exact hn, rfl, fun i m h => by simp [newDr] at h⟩, ⟨by show 0 ≤ 6; omega, rfl⟩, hq⟩
theorem cut_parts {d : Dr} {c : Nat} (g : GoodD d) (h : c ≤ d.x.length) : (d.ss.drop c).take (d.x.length + 1 - c) = d.ss.drop c ∧ (d.ms.drop c).take (d.x.length - c) = d.ms.drop c := by
  have h1 := g.d.sl
  have h2 := g.d.ml
  exact ⟨List.take_of_length_le (by rw [List.length_drop]; omega), List.take_of_length_le (by rw [List.length_drop]; omega)⟩
theorem cut_good {d : Dr} {c : Nat} (g : GoodD d) (h : c ≤ d.x.length) : GoodD (cutDr d c) := by
  obtain ⟨e1, e2⟩ := cut_parts g h
  have := part_draft g.d h (Nat.le_refl _)
  rw [e1, e2] at this
  exact ⟨this, cut_pat g.p h (Nat.le_refl _), g.q⟩
theorem cutS_end (x : Str) (c : Nat) : cutS x (some ((c : Nat) : Int)) none = cutS x (some ((c : Nat) : Int)) (some ((x.length : Nat) : Int)) := by
  unfold cutS
  have : HT.sIx x.length x.length (some ((x.length : Nat) : Int)) = x.length := by rw [HT.sIx_nat, Nat.min_self]
  rw [this] <;> rfl
theorem grow_good {d : Dr} {r : Bool} {n : Nat} {m : List (List Int)} (g : GoodD d) (l6 : d.x.length < 6) (n6 : n ≤ 6) (b : MatOk d.q (highS r d.ss n) (wideS r d.ss n) m) : GoodD (growDr d r n m) := by
  obtain ⟨x, q, ss, ms⟩ := d
  have w := g.d
  have l1 : ss.length = x.length + 1 := w.sl
  have l2 : ms.length = x.length := w.ml
  refine ⟨⟨by show (ss ++ [n]).length = (x ++ arrS r).length + 1; rw [List.length_append, more_len, l1] <;> rfl, fun s hs => ?_, by show (ms ++ [m]).length = (x ++ arrS r).length; rw [List.length_append, more_len, l2] <;> rfl, fun i m' hi => ?_⟩, more_pat g.p l6, g.q⟩
  · rcases List.mem_append.mp hs with z | z
    · exact w.sb s z
    · rw [List.mem_singleton.mp z]; exact n6
  · show MatOk q ((ss ++ [n])[stA (x ++ arrS r) i]?.getD 0) ((ss ++ [n])[goA (x ++ arrS r) i]?.getD 0) m'
    have hi : (ms ++ [m])[i]? = some m' := hi
    have old : ∀ j, j ≤ x.length → (ss ++ [n])[j]?.getD 0 = ss[j]?.getD 0 := fun j hj => by rw [List.getElem?_append_left (by omega)]
    have new : (ss ++ [n])[x.length + 1]?.getD 0 = n := by
      rw [List.getElem?_append_right (by omega), l1, Nat.sub_self] <;> rfl
    by_cases h : i < x.length
    · obtain ⟨s1, s2⟩ := more_st (r := r) h
      rw [s1, s2, old _ (st_le2 h), old _ (go_le h)]
      rw [List.getElem?_append_left (by omega)] at hi
      exact w.mo i m' hi
    · have hlt := (List.getElem?_eq_some_iff.mp hi).1
      rw [List.length_append, List.length_cons, List.length_nil, l2] at hlt
      have ei : i = x.length := by omega
      subst ei
      rw [List.getElem?_append_right (by omega), l2, Nat.sub_self] at hi
      cases Option.some.inj hi
      have el : lastS ss = ss[x.length]?.getD 0 := by unfold lastS; rw [l1, Nat.add_sub_cancel]
      have e1 : (ss ++ [n])[stA (x ++ arrS r) x.length]?.getD 0 = highS r ss n := by
        unfold stA highS
        rw [more_new]
        cases r with
        | true => rw [if_pos rfl, if_pos rfl, old _ (Nat.le_refl _), el]
        | false => rw [if_neg (by decide), if_neg (by decide), new]
      have e2 : (ss ++ [n])[goA (x ++ arrS r) x.length]?.getD 0 = wideS r ss n := by
        unfold goA wideS
        rw [more_new]
        cases r with
        | true => rw [if_pos rfl, if_pos rfl, new]
        | false => rw [if_neg (by decide), if_neg (by decide), old _ (Nat.le_refl _), el]
      rw [e1, e2]
      exact b
/-! ### what is promised -/
def spIniS (D C CP CS : Addr) : Sp := fun vs H Q _ => ∃ a dx q n, vs = [.ref a, .int q, .int (n : Nat)] ∧ H a = some (.ins D dx []) ∧ q ∈ primesL ∧ n ≤ 6 ∧ ∀ H', Grow a H H' → StrAt D C H' a ⟨[], newDr q n, []⟩ → Q .non H'
def spDo (D C : Addr) : Sp := fun vs H Q _ => ∃ a R s d, vs = [.ref a, .ref R] ∧ StrAt D C H a s ∧ s.past.length ≤ 100 ∧ RowD C H R d ∧ ∀ H', Grow a H H' → StrAt D C H' a ⟨s.past ++ [s.here], d, []⟩ → Q .non H'
def spGrowM (D C CW CG CS CM : Addr) : Sp := fun vs H Q E => ∃ a va vn vm s da dn dm m, vs = [.ref a, va, vn, vm] ∧ StrAt D C H a s ∧ GoodD s.here ∧ s.past.length ≤ 100 ∧ Any H va da ∧ Any H vn dn ∧ Any H vm dm ∧ Fit dm ∧
  (isArD da = false → Thrown CW va H E) ∧ (isArD da = true → s.here.x.length = 6 → Thrown CG (.int 7) H E) ∧ (isArD da = true → s.here.x.length < 6 → isSzD dn = false → Thrown CS vn H E) ∧
  (∀ r (n : Nat) v H1, da = .str (arrS r) → s.here.x.length < 6 → dn = natD n → n ≤ 6 → isMatD (highS r s.here.ss n : Nat) (wideS r s.here.ss n : Nat) dm = false → Same H H1 → Any H1 v dm → Thrown CM v H1 E) ∧
  ∀ r (n : Nat), da = .str (arrS r) → s.here.x.length < 6 → dn = natD n → n ≤ 6 → isMatD (highS r s.here.ss n : Nat) (wideS r s.here.ss n : Nat) dm = true → rowsM s.here.q dm = m.map tupI ∧ ∀ H', Grow a H H' → StrAt D C H' a ⟨s.past ++ [s.here], growDr s.here r n m, []⟩ → Q .non H'
def spCutM (D C CB : Addr) : Sp := fun vs H Q E => ∃ a v s d, vs = [.ref a, v] ∧ StrAt D C H a s ∧ GoodD s.here ∧ s.past.length ≤ 100 ∧ Any H v d ∧ (inB d (.int 1) (.int (s.here.x.length : Nat)) = false → Thrown CB v H E) ∧
  ∀ c : Nat, d = natD c → 1 ≤ c → c ≤ s.here.x.length → ∀ H', Grow a H H' → StrAt D C H' a ⟨s.past ++ [s.here], cutDr s.here c, []⟩ → Q .non H'
def spUndo (D C CU : Addr) : Sp := fun vs H Q E => ∃ a s, vs = [.ref a] ∧ StrAt D C H a s ∧ s.past.length ≤ 100 ∧ s.later.length ≤ 100 ∧ (s.past = [] → ThrownN CU H E) ∧
  ∀ ps d, s.past = ps ++ [d] → ∀ H', Grow a H H' → StrAt D C H' a ⟨ps, d, s.here :: s.later⟩ → Q .non H'
def spRedo (D C CV : Addr) : Sp := fun vs H Q E => ∃ a s, vs = [.ref a] ∧ StrAt D C H a s ∧ s.past.length ≤ 100 ∧ s.later.length ≤ 100 ∧ (s.later = [] → ThrownN CV H E) ∧
  ∀ d ls, s.later = d :: ls → ∀ H', Grow a H H' → StrAt D C H' a ⟨s.past ++ [s.here], d, ls⟩ → Q .non H'
def spRowS (D C : Addr) : Sp := fun vs H Q _ => ∃ a s, vs = [.ref a] ∧ StrAt D C H a s ∧ ∀ R, RowD C H R s.here → Q (.ref R) H
def spLenS (D C : Addr) : Sp := fun vs H Q _ => ∃ a s, vs = [.ref a] ∧ StrAt D C H a s ∧ s.here.ss.length ≤ 1000 ∧ Q (.int (s.here.ss.length : Nat)) H
def spUndoable (D C : Addr) : Sp := fun vs H Q _ => ∃ a s, vs = [.ref a] ∧ StrAt D C H a s ∧ s.past.length ≤ 100 ∧ Q (.int (s.past.length : Nat)) H
def spRedoable (D C : Addr) : Sp := fun vs H Q _ => ∃ a s, vs = [.ref a] ∧ StrAt D C H a s ∧ s.later.length ≤ 100 ∧ Q (.int (s.later.length : Nat)) H
/-- all but the last of a tuple -/
theorem cut_last {K : PySem.W.Frag} {H : Hp} {a : Addr} {xs : List V} {v : V} {Q : VK} (h : H a = some (.tup (xs ++ [v]))) (q : ∀ p H', Same H H' → H' p = some (.tup xs) → Q (.ref p) H') : rSlA K (.ref a) none (some (-1)) H Q := by
  have l : (xs ++ [v]).length = xs.length + 1 := by rw [List.length_append] <;> rfl
  have e2 : HT.sIx (xs ++ [v]).length (xs ++ [v]).length (some (-1)) = xs.length := by
    rw [l]
    unfold HT.sIx
    simp
    omega
  refine ⟨a, _, rfl, SqT.of h, fun e => ?_, fun _ p hp => q p _ (same_new hp) ?_⟩
  · rw [e2, l] at e
    omega
  · rw [upd_same]
    unfold cutV
    rw [e2]
    have e1 : HT.sIx (xs ++ [v]).length 0 none = 0 := rfl
    rw [e1, List.drop_zero, Nat.sub_zero, List.take_left']
    rfl
end Rw

set_option Elab.async false
set_option linter.all false
set_option maxRecDepth 100000
set_option maxHeartbeats 4000000
/-! K57E: the law's draws: cells, boxes, primes, matrices. -/
namespace K57
open PySem PySem.Spec PyProof.Rows L2 Rw
abbrev sCell : Stmt := top 44
abbrev sBox : Stmt := top 45
abbrev sTake : Stmt := top 46
abbrev sPrimeL : Stmt := top 47
abbrev sMatL : Stmt := top 48
abbrev NCell : List Str := ["_law_script", "_law_k"]
theorem scCell : FnScope NCell ["_law_script", "_law_k"] (defScope sCell) := ⟨rfl, rfl, rfl, by decide +kernel, rfl, by decide +kernel, by decide +kernel⟩
abbrev NBox : List Str := ["_law_cell_here"]
theorem scBox : FnScope NBox ["_law_cell_here"] (defScope sBox) := ⟨rfl, rfl, rfl, by decide +kernel, rfl, by decide +kernel, by decide +kernel⟩
abbrev NTake : List Str := ["_law_box_here", "_law_many", "_law_digit", "_law_figure"]
theorem scTake : FnScope NTake ["_law_box_here", "_law_many"] (defScope sTake) := ⟨rfl, rfl, rfl, by decide +kernel, rfl, by decide +kernel, by decide +kernel⟩
abbrev NPrimeL : List Str := ["_law_box_here"]
theorem scPrimeL : FnScope NPrimeL ["_law_box_here"] (defScope sPrimeL) := ⟨rfl, rfl, rfl, by decide +kernel, rfl, by decide +kernel, by decide +kernel⟩
abbrev NMatL : List Str := ["_law_box_here", "_law_p", "_law_high", "_law_wide", "_law_odds", "_law_k", "_law_j"]
theorem scMatL : FnScope NMatL ["_law_box_here", "_law_p", "_law_high", "_law_wide"] (defScope sMatL) := ⟨rfl, rfl, rfl, by decide +kernel, rfl, by decide +kernel, by decide +kernel⟩
section
variable {P : Program} {w : World} {K : PySem.W.Frag} {mg : Str → Option Value} {base : Heap}
theorem okCell {f : Addr} {fd : FuncData} (F : Fun K "_law_cell" "_law_cell" sCell f fd) (zl : mg "len" = none) : FnOk P w K mg base CX0 1 f fd ["_law_script", "_law_k"] (spCellR K) := by
  refine F.ok scCell (fun vs H Q E h => ?_) (fun cdv A outer s H vs Q E hr h => ?_)
  · obtain ⟨a, ns, j, rfl, _⟩ := h
    rfl
  · obtain ⟨a, ns, j, rfl, hs, hj, q⟩ := h
    refine ⟨_, (pss_cons (ps_if (pt_cmpR op_lt (pv 1) (pe_callB call_len_seq (by rfl) zl PySem.boot_len (pa_cons (pv 0) pa_nil)) (nomark _)) (pss_one (ps_ret (pe_ix ix_list (pv 0) (pv 1) (fun _ _ => rfl)))) pss_nil)
      (pss_one (ps_ret (pe_op op_add (pe_op op_mul pe_int (pv 1)) pe_int)))), ?_⟩
    refine ⟨_, rfl, _, rfl, a, _, rfl, .inl hs, _, _, rfl, rfl, _, rfl, ?_⟩
    refine ite2 (fun z => ?_) (fun z => ?_)
    · have z2 := of_decide_eq_true z
      have z3 : j < ns.length := by
        rw [List.length_map] at z2
        omega
      exact ⟨_, rfl, _, rfl, a, _, _, _, rfl, rfl, hs, atI_nat (j := j) (v := .int ns[j]) (by rw [List.getElem?_map, List.getElem?_eq_getElem z3] <;> rfl), q _⟩
    · exact ⟨_, rfl, _, _, rfl, rfl, .inr ⟨by omega, by omega⟩, _, _, rfl, rfl, q _⟩
theorem okBox {f : Addr} {fd : FuncData} (F : Fun K "_law_box" "_law_box" sBox f fd) (zm : mg "max" = none) (zi : mg "int" = none) : FnOk P w K mg base CX0 1 f fd ["_law_cell_here"] spBoxR := by
  refine F.ok scBox (fun vs H Q E h => ?_) (fun cdv A outer s H vs Q E hr h => ?_)
  · obtain ⟨z, rfl, _⟩ := h
    rfl
  · obtain ⟨z, rfl, q⟩ := h
    refine ⟨_, (pss_one (ps_ret (pe_lst (pa_cons (pe_callB (call_max2 rfl) (by rfl) zm (by decide +kernel) (pa_cons pe_int (pa_cons (pe_op op_sub (pv 0) (pe_op op_pow pe_int pe_int)) pa_nil))) (pa_cons (pe_op op_modN (pe_callTy call_int1 (by rfl) zi (by decide +kernel) (pa_cons (pv 0) pa_nil)) pe_int) (pa_cons pe_int pa_nil)))))), ?_⟩
    refine ⟨_, rfl, _, _, rfl, rfl, ⟨by decide, by decide, by decide⟩, _, _, rfl, rfl, _, _, rfl, _, rfl, .inl ⟨_, rfl, _, _, rfl, rfl, (by dsimp only; omega), (by show 3 ≤ sizeLine; decide), fun p hp => ?_⟩⟩
    refine q p _ hp (same_new hp) ⟨_, _, _, upd_same, ?_, ?_, ?_, by omega, by omega⟩
    · split <;> omega
    · rw [fmod_pos (by decide)]
      exact Int.emod_nonneg _ (by decide)
    · rw [fmod_pos (by decide)]
      exact Int.emod_lt_of_pos _ (by decide)
theorem okTake {f : Addr} {fd : FuncData} (F : Fun K "_law_take" "_law_take" sTake f fd) (zi : mg "int" = none) : FnOk P w K mg base CX0 1 f fd ["_law_box_here", "_law_many"] spTakeR := by
  refine F.ok scTake (fun vs H Q E h => ?_) (fun cdv A outer s H vs Q E hr h => ?_)
  · obtain ⟨p, m, n, rfl, _⟩ := h
    rfl
  · obtain ⟨p, m, n, rfl, m0, m1, ⟨a, b, c, hp, a0, b0, b1, c0, c1⟩, hn, q⟩ := h
    refine ⟨_, (pss_cons (ps_if (pt_cmpR op_gt (pe_ix ix_list (pv 0) pe_int (fun _ _ => rfl)) pe_int (nomark _)) (pss_cons (ps_set (i := 2) scTake.nd rfl (Or.inl rfl) (pe_op op_modN (pe_callTy call_int1 (by rfl) zi (by decide +kernel) (pa_cons (pe_ix ix_list (pv 0) pe_int (fun _ _ => rfl)) pa_nil)) (pv 1)))
        (pss_cons (ps_asg (pe_op op_fdivW (pe_ix ix_list (pv 0) pe_int (fun _ _ => rfl)) (pv 1)) (pg_sub (pv 0) pe_int set_list))
        (pss_one (ps_ret (pv 2))))) pss_nil)
      (pss_cons (ps_asg (pe_op op_add (pe_ix ix_list (pv 0) pe_int (fun _ _ => rfl)) pe_int) (pg_sub (pv 0) pe_int set_list))
      (pss_cons (ps_set (i := 3) scTake.nd rfl (Or.inl rfl) (pe_op op_modN (pe_op op_pow (pe_callTy call_int1 (by rfl) zi (by decide +kernel) (pa_cons (pe_op op_add (pe_op op_add (pe_ix ix_list (pv 0) pe_int (fun _ _ => rfl)) (pe_op op_mul pe_int (pe_ix ix_list (pv 0) pe_int (fun _ _ => rfl)))) pe_int) pa_nil)) pe_int) pe_int))
      (pss_cons (ps_set (i := 3) scTake.nd rfl (Or.inl rfl) (pe_op op_modN (pe_op op_pow (pe_callTy call_int1 (by rfl) zi (by decide +kernel) (pa_cons (pe_op op_add (pv 3) (pe_op op_mul pe_int (pe_ix ix_list (pv 0) pe_int (fun _ _ => rfl)))) pa_nil)) pe_int) pe_int))
      (pss_one (ps_ret (pe_op op_modN (pe_callTy call_int1 (by rfl) zi (by decide +kernel) (pa_cons (pe_op op_fdivW (pv 3) pe_int) pa_nil)) (pv 1)))))))), ?_⟩
    refine ⟨_, rfl, p, _, 0, _, rfl, rfl, SqL.of hp, atI_nat (j := 0) rfl, _, _, rfl, rfl, _, rfl, ?_⟩
    refine ite2 (fun z => ?_) (fun z => ?_)
    · refine ⟨_, rfl, p, _, 0, _, rfl, rfl, SqL.of hp, atI_nat (j := 0) rfl, .inl ⟨_, rfl, _, rfl, _, _, rfl, rfl, (by show m ≠ 0; omega), ?_⟩⟩
      refine ⟨_, rfl, p, _, 0, _, rfl, rfl, SqL.of hp, atI_nat (j := 0) rfl, _, rfl, _, _, rfl, rfl, wide_div (b := 200) m0 (by omega) (by decide) (by decide), _, rfl, p, _, 0, 0, rfl, rfl, hp, rfl, ?_⟩
      refine ⟨_, rfl, ?_⟩
      show Q (.int (a.fmod m)) _
      rw [fmod_pos m0]
      exact q _ _ (Int.emod_nonneg _ (by omega)) (Int.emod_lt_of_pos _ m0) Grow.put ⟨_, b, c, upd_same, fdiv_nonneg' a0 m0, b0, b1, c0, by omega⟩
    · refine ⟨_, rfl, p, _, 2, _, rfl, rfl, SqL.of hp, atI_nat (j := 2) rfl, _, _, rfl, rfl, _, rfl, p, _, 2, 2, rfl, rfl, hp, rfl, ?_⟩
      have hp2 : (upd H p (.lst ([V.int a, V.int b, V.int c].set 2 (.int (c + 1))))) p = some (.lst [.int a, .int b, .int (c + 1)]) := upd_same
      refine ⟨_, rfl, p, _, 1, _, rfl, rfl, SqL.of hp2, atI_nat (j := 1) rfl, _, rfl, p, _, 2, _, rfl, rfl, SqL.of hp2, atI_nat (j := 2) rfl, _, _, rfl, rfl, .inl ⟨by omega, by omega⟩, _, _, rfl, rfl, _, _, rfl, rfl, .inl ⟨_, rfl, _, _, rfl, rfl, ⟨by decide, by decide, by omega⟩, _, _, rfl, rfl, (by dsimp only; omega), ?_⟩⟩
      generalize ((b + _ * (c + 1) + _) ^ _ : Int) = y1
      have y2 : 0 ≤ y1.fmod 2147483647 ∧ y1.fmod 2147483647 < 2147483647 := by
        rw [fmod_pos (by decide)]
        exact ⟨Int.emod_nonneg _ (by decide), Int.emod_lt_of_pos _ (by decide)⟩
      refine ⟨_, rfl, _, rfl, p, _, 2, _, rfl, rfl, SqL.of hp2, atI_nat (j := 2) rfl, _, _, rfl, rfl, .inl ⟨by omega, by omega⟩, _, _, rfl, rfl, .inl ⟨_, rfl, _, _, rfl, rfl, ⟨by decide, by decide, by omega⟩, _, _, rfl, rfl, (by dsimp only; omega), ?_⟩⟩
      generalize ((y1.fmod 2147483647 + _ * (c + 1)) ^ _ : Int) = y4
      refine ⟨_, rfl, _, _, rfl, rfl, ⟨by decide, by decide +kernel⟩, .inl ⟨_, rfl, _, rfl, _, _, rfl, rfl, (by show m ≠ 0; omega), ?_⟩⟩
      show Q (.int (Int.fmod _ m)) _
      rw [fmod_pos m0]
      exact q _ _ (Int.emod_nonneg _ (by omega)) (Int.emod_lt_of_pos _ m0) Grow.put ⟨a, b, c + 1, hp2, a0, b0, b1, by omega, by omega⟩
theorem okPrimeL {f : Addr} {fd : FuncData} (F : Fun K "_law_prime" "_law_prime" sPrimeL f fd) (GT : Own P w K mg base CX0 1 "_law_take" ["_law_box_here", "_law_many"] [] spTakeR) : FnOk P w K mg base CX0 2 f fd ["_law_box_here"] spPrimeR := by
  refine F.ok scPrimeL (fun vs H Q E h => ?_) (fun cdv A outer s H vs Q E hr h => ?_)
  · obtain ⟨p, n, rfl, _⟩ := h
    rfl
  · obtain ⟨p, n, rfl, bx, hn, q⟩ := h
    refine ⟨_, (pss_one (ps_ret (pe_ix ix_list (pe_lst (pa_cons pe_int (pa_cons pe_int (pa_cons pe_int (pa_cons pe_int (pa_cons pe_int (pa_cons pe_int (pa_cons pe_int (pa_cons pe_int pa_nil))))))))) (pe_own GT hr pass0 (pa_cons (pv 0) (pa_cons pe_int pa_nil))) (fun _ _ => rfl)))), ?_⟩
    refine ⟨by show 8 ≤ sizeLine; decide, fun l hl => ?_⟩
    have nl : l ≠ p := (bx.ne hl).symm
    refine ⟨_, rfl, p, 8, n, rfl, by decide, by decide, bx.keep (same_new hl), by omega, fun r H' r0 r1 G B => ?_⟩
    obtain ⟨i, rfl⟩ : ∃ i : Nat, r = (i : Int) := ⟨r.toNat, by omega⟩
    have hi : i < ([2, 3, 5, 2, 3, 7, 11, 13] : List Int).length := by show i < 8; omega
    have mem : ∀ z ∈ ([2, 3, 5, 2, 3, 7, 11, 13] : List Int), z ∈ primesL := by decide
    refine ⟨l, ([2, 3, 5, 2, 3, 7, 11, 13] : List Int).map V.int, _, _, rfl, rfl, SqL.of (G l _ nl upd_same), atI_nat (v := .int (([2, 3, 5, 2, 3, 7, 11, 13] : List Int)[i])) (by rw [List.getElem?_map, List.getElem?_eq_getElem hi] <;> rfl), q _ H' (mem _ (List.getElem_mem hi)) ((Grow.of (same_new hl)).trans G) B⟩
theorem okMatL {f : Addr} {fd : FuncData} (F : Fun K "_law_matrix" "_law_matrix" sMatL f fd) (zr : mg "range" = none) (zt : mg "tuple" = none) (zi : mg "int" = none) (GT : Own P w K mg base CX0 1 "_law_take" ["_law_box_here", "_law_many"] [] spTakeR) : FnOk P w K mg base CX0 2 f fd ["_law_box_here", "_law_p", "_law_high", "_law_wide"] spMatR := by
  refine F.ok scMatL (fun vs H Q E h => ?_) (fun cdv A outer s H vs Q E hr h => ?_)
  · obtain ⟨p, n, hh, ww, q, rfl, _⟩ := h
    rfl
  · obtain ⟨p, n, hh, ww, q, rfl, hq, h6, w6, bx, hn, k0⟩ := h
    have pp := prime_pos hq
    refine ⟨_, (pss_cons (ps_set (i := 4) scMatL.nd rfl (Or.inr rfl) (pe_op op_add pe_int (pe_own GT hr pass0 (pa_cons (pv 0) (pa_cons pe_int pa_nil)))))
      (pss_one (ps_ret (pe_lc (own := [("_law_k", 5)]) (g := gName 5) (tt := tYes) (te := tCB (rTupOf K) (tCons (tLc (iRng1 (tCons (tVar 3) tNil)) (gName 6) tYes _ [6]) tNil)) rfl scMatL.nd (pi_range1 rfl zr (pa_cons (pv 2) pa_nil)) (blkOk_by (N := NMatL) (sc := defScope sMatL) (by decide +kernel)) (fun _ _ _ _ _ => (pg_name (i := 5) scMatL.nd rfl (Or.inl rfl))) (fun _ _ _ _ _ => pts_nil)
        (fun _ _ _ _ _ => (pe_callTy call_tuple_of (by rfl) zt (by decide +kernel) (pa_cons (pe_lc (own := [("_law_j", 6)]) (g := gName 6) (tt := tYes) rfl scMatL.nd (pi_range1 (by rfl) zr (pa_cons (pv 3) pa_nil)) (blkOk_by (N := NMatL) (by rfl)) (fun _ _ _ _ _ => (pg_name (i := 6) scMatL.nd rfl (Or.inl rfl))) (fun _ _ _ _ _ => pts_nil)
          (fun _ _ _ _ _ => (pe_op op_mul (pe_own GT hr pass0 (pa_cons (pv 0) (pa_cons (pv 1) pa_nil))) (pe_callTy call_int1 (by rfl) zi (by decide +kernel) (pa_cons (pe_cmpR op_eq (pe_own GT hr pass0 (pa_cons (pv 0) (pa_cons (pv 4) pa_nil))) pe_int (nomark _)) pa_nil))))) pa_nil))))))), ?_⟩
    refine ⟨_, rfl, p, 3, n, rfl, by decide, by decide, bx, by omega, fun od H1 o0 o1 G1 B1 => ⟨_, _, rfl, rfl, ?_⟩⟩
    refine ⟨_, rfl, (hh : Int), rfl, by omega, by omega, fun D hD => ?_⟩
    have pD := B1.ne hD
    refine lc_boxN (walk_rng (n := hh)) (by omega) hD B1 (fun _ _ => trivial) (t := 12) (fun d => ∃ r : List Int, d = tupI r ∧ r.length = ww ∧ ∀ e, e ∈ r → 0 ≤ e ∧ e < q) (by rintro d ⟨r, rfl, _⟩; exact noL_tupI r) ?_ ?_
    · rintro i x H2 hi rfl g2 b2
      refine ⟨rfl, fun k hk => ?_⟩
      refine ⟨_, rfl, (ww : Int), rfl, by omega, by omega, fun D2 hD2 => ?_⟩
      refine lc_boxN (walk_rng (n := ww)) (by omega) hD2 b2 (fun _ _ => trivial) (t := 2) (fun d => ∃ e : Int, d = .int e ∧ 0 ≤ e ∧ e < q) (by rintro d ⟨e, rfl, _⟩; rfl) ?_ ?_
      · rintro j y H3 hj rfl g3 b3
        refine ⟨rfl, fun k3 hk3 => ?_⟩
        refine ⟨_, rfl, _, rfl, p, q, _, rfl, by omega, by omega, b3, by omega, fun e H4 e0 e1 G4 B4 => ?_⟩
        refine ⟨_, rfl, _, rfl, p, _, _, rfl, by omega, by omega, B4, by omega, fun t H5 t0 t1 G5 B5 => ?_⟩
        refine ⟨rfl, .inr ⟨_, rfl, _, _, rfl, rfl, .inl ⟨by omega, by omega⟩, ?_⟩⟩
        have ez : 0 ≤ e * (if decide (V.int t = V.int 0) = true then (1 : Int) else 0) ∧ e * (if decide (V.int t = V.int 0) = true then (1 : Int) else 0) < q := by
          split
          · rw [Int.mul_one]; exact ⟨e0, e1⟩
          · rw [Int.mul_zero]; exact ⟨Int.le_refl _, by omega⟩
        exact hk3 _ _ _ (G4.trans G5) (B5.more (by omega)) ⟨_, rfl, ez⟩ (.int _)
      · intro H3 acc ds g3 b3 ha al ld gd
        obtain ⟨r, e1, e2⟩ : ∃ r : List Int, ds = r.map .int ∧ ∀ e, e ∈ r → 0 ≤ e ∧ e < q := by
          clear al ld
          induction ds with
          | nil => exact ⟨[], rfl, fun e he => (nomatch he)⟩
          | cons d ds ih =>
            obtain ⟨r, h1, h2⟩ := ih fun e he => gd e (List.mem_cons_of_mem _ he)
            obtain ⟨e, h3, h4⟩ := gd d List.mem_cons_self
            exact ⟨e :: r, by rw [h3, h1] <;> rfl, fun z hz => (List.mem_cons.mp hz).elim (fun y => by rw [y]; exact h4) (h2 z)⟩
        refine ⟨D2, acc, rfl, .inl ⟨SqL.of ha, fun l hl => hk _ (tupI r) _ (g3.trans (Grow.of (same_new hl))) ((b3.keep (same_new hl)).more (by omega)) ⟨r, rfl, by rw [e1, List.length_map] at ld; exact ld, e2⟩ (.tup upd_same ?_)⟩⟩
        rw [← e1]
        exact anyL_keep (same_new hl) al
    · intro H2 acc ds g2 b2 ha al ld gd
      obtain ⟨m, e1, e2⟩ : ∃ m : List (List Int), ds = m.map tupI ∧ ∀ r, r ∈ m → r.length = ww ∧ ∀ e, e ∈ r → 0 ≤ e ∧ e < q := by
        clear al ld
        induction ds with
        | nil => exact ⟨[], rfl, fun e he => (nomatch he)⟩
        | cons d ds ih =>
          obtain ⟨m, h1, h2⟩ := ih fun e he => gd e (List.mem_cons_of_mem _ he)
          obtain ⟨r, h3, h4, h5⟩ := gd d List.mem_cons_self
          exact ⟨r :: m, by rw [h3, h1] <;> rfl, fun z hz => (List.mem_cons.mp hz).elim (fun y => by rw [y]; exact ⟨h4, h5⟩) (h2 z)⟩
      have hD0 : H D = none := by
        cases y : H D with
        | none => rfl
        | some u =>
          obtain ⟨xs, hp⟩ := bx_at B1
          by_cases z : D = p
          · rw [z, hp] at hD; cases hD
          · rw [G1 _ _ z y] at hD; cases hD
      exact k0 D acc m H2 hD0 (G1.trans g2) (b2.more (by omega)) ha (by rw [← e1]; exact al) ⟨by rw [e1, List.length_map] at ld; exact ld, e2⟩
end
end K57

set_option Elab.async false
set_option linter.all false
set_option maxRecDepth 100000
set_option maxHeartbeats 4000000
/-! TkGB: a method without arguments in a try's body; repr of data of any kind. -/
namespace Rw
open PySem PySem.Spec PyProof.Rows L2
section
variable {X : Cx} {CX : CXT} {C f : Addr} {m : Str} {k : Nat} {fd : FuncData} {ps : List Str} {ds : List Value} {dvs : List V} {sp : Sp} {o : Expr} {ta : TE} {apos pos : Pos}
theorem pe_methS0 {W : WX} {pl : Sem Bool} (he : PE X o ta) (c : Cls X.K C) (hm : Meth X.K C m f) (F : FnOk X.prog X.w X.K X.mg X.base CX k f fd ps sp) (hr : Room k X.A) (hb : Binds X.K fd ps ds) (hd : Vals dvs ds) (hx : ∀ σ, PassesAt CX X σ (fun cls d H' => W cls d σ H'))
    (ht : eval (.Call (.Attribute o m apos) [] [] pos) X.env = (do
      let ov ← eval o X.env
      standAt apos.atName
      let (f, first) ← holding [ov] (getMethod ov m pl)
      callWith pos f first (backTo pos (starEach [] X.env)) (backToKw pos (keywordEach [] X.env))) := by rfl) :
    PE X (.Call (.Attribute o m apos) [] [] pos) (tMethS C m sp dvs W ta tNil) := by
  refine ⟨fun pins s σ H Q I h => ?_⟩
  refine PySem.W.methodCall_KW (pl := pl) (thn (he.run pins s σ H _ I h) fun u s1 ⟨x, H1, I1, rx, a, dx, fs, ex, ea, l, q⟩ => ?_) ht
  subst ex
  obtain rfl : u = Value.ref a := rx
  refine getmeth_ok I1 ea c hm l ?_
  exact PySem.W.callWith_K0 (first := [.ref a]) I1.kIn hm.kp (run_ownS (us := [.ref a]) (vs := [.ref a]) F hr hb hd (hx σ) I1 (.cons rfl .nil) q)
end
section
variable {X : Cx}
def rReprA : List V → Hp → VK → Prop := fun xs H Q => ∃ (v : V) (d : PyData), xs = [v] ∧ Any H v d ∧ d.showable = true ∧ d.depth ≤ 60 ∧ d.shown.length ≤ sizeLine ∧ Q (.str d.shown) H
theorem call_reprA (gu : X.A.guards = some []) (hu : X.A.units + 64 < cLine) : CallR X (.builtin "repr") rReprA := by
  intro pins s σ H xs us Q I r h
  obtain ⟨v, d, rfl, an, sh, dp, sz, q⟩ := h
  cases v with
  | ref a => exact call_repr gu hu pins s σ H _ us Q I r ⟨a, d, rfl, an, sh, dp, sz, q⟩
  | _ =>
    obtain ⟨u, rfl, ru⟩ := vals1 r
    cases an <;> first
      | (cases (show u = Value.none from ru); exact PySem.P.repr_of_none ⟨V.str "None", H, I.tok _, ⟨_, rfl⟩, by simpa only [PyData.shown] using q⟩)
      | (cases (show u = Value.bool _ from ru); exact PySem.P.repr_of_bool ⟨V.str _, H, I.tok _, ⟨_, rfl⟩, by simpa only [PyData.shown] using q⟩)
      | (obtain ⟨t, rfl⟩ := (show ∃ t, u = Value.int _ t from ru); exact PySem.P.repr_of_int (by simpa [PyData.showable] using sh) ⟨V.str _, H, I.tok _, ⟨_, rfl⟩, by simpa only [PyData.shown] using q⟩)
      | (obtain ⟨t, rfl⟩ := (show ∃ t, u = Value.str _ t from ru); exact PySem.P.repr_of_str ⟨V.str _, H, I.tok _, ⟨_, rfl⟩, by simpa only [PyData.shown] using q⟩ (by simpa only [PyData.shown] using sz))
end
end Rw

set_option Elab.async false
set_option linter.all false
set_option maxRecDepth 100000
set_option maxHeartbeats 4000000
/-! K57F: what a stream does. -/
namespace K57
open PySem PySem.Spec PyProof.Rows L2 Rw
abbrev sLenR : Stmt := inClass (top 35) 6
abbrev sIniStr : Stmt := inClass (top 42) 0
abbrev sRowS : Stmt := inClass (top 42) 1
abbrev sLenS : Stmt := inClass (top 42) 2
abbrev sGrowM : Stmt := inClass (top 42) 6
abbrev sCutM : Stmt := inClass (top 42) 7
abbrev sUndo : Stmt := inClass (top 42) 8
abbrev sRedo : Stmt := inClass (top 42) 9
abbrev sUab : Stmt := inClass (top 42) 10
abbrev sRab : Stmt := inClass (top 42) 11
abbrev sDo : Stmt := inClass (top 42) 14
theorem scLenR : FnScope ["self"] ["self"] (defScope sLenR) := ⟨rfl, rfl, rfl, by decide +kernel, rfl, by decide +kernel, by decide +kernel⟩
theorem scIniStr : FnScope ["self", "prime", "size"] ["self", "prime", "size"] (defScope sIniStr) := ⟨rfl, rfl, rfl, by decide +kernel, rfl, by decide +kernel, by decide +kernel⟩
theorem scRowS : FnScope ["self"] ["self"] (defScope sRowS) := ⟨rfl, rfl, rfl, by decide +kernel, rfl, by decide +kernel, by decide +kernel⟩
theorem scLenS : FnScope ["self"] ["self"] (defScope sLenS) := ⟨rfl, rfl, rfl, by decide +kernel, rfl, by decide +kernel, by decide +kernel⟩
theorem scGrowM : FnScope ["self", "arrow", "size", "matrix"] ["self", "arrow", "size", "matrix"] (defScope sGrowM) := ⟨rfl, rfl, rfl, by decide +kernel, rfl, by decide +kernel, by decide +kernel⟩
theorem scCutM : FnScope ["self", "count", "last"] ["self", "count"] (defScope sCutM) := ⟨rfl, rfl, rfl, by decide +kernel, rfl, by decide +kernel, by decide +kernel⟩
theorem scUndo : FnScope ["self"] ["self"] (defScope sUndo) := ⟨rfl, rfl, rfl, by decide +kernel, rfl, by decide +kernel, by decide +kernel⟩
theorem scRedo : FnScope ["self"] ["self"] (defScope sRedo) := ⟨rfl, rfl, rfl, by decide +kernel, rfl, by decide +kernel, by decide +kernel⟩
theorem scUab : FnScope ["self"] ["self"] (defScope sUab) := ⟨rfl, rfl, rfl, by decide +kernel, rfl, by decide +kernel, by decide +kernel⟩
theorem scRab : FnScope ["self"] ["self"] (defScope sRab) := ⟨rfl, rfl, rfl, by decide +kernel, rfl, by decide +kernel, by decide +kernel⟩
theorem scDo : FnScope ["self", "row"] ["self", "row"] (defScope sDo) := ⟨rfl, rfl, rfl, by decide +kernel, rfl, by decide +kernel, by decide +kernel⟩
/-- what the class of streams is -/
structure StrCls (K : PySem.W.Frag) (C D : Addr) : Prop where
  cl : Cls K D
  r : NoAttr K D "_row"
  p : NoAttr K D "_past"
  u : NoAttr K D "_undone"
  ne : C ≠ D
/-- _do at hand -/
structure DoAt (P : Program) (w : World) (K : PySem.W.Frag) (mg : Str → Option Value) (base : Heap) (D C : Addr) : Prop where
  has : ∃ (f : Addr) (fd : FuncData), Meth K D "_do" f ∧ FnOk P w K mg base CX0 1 f fd ["self", "row"] (spDo D C) ∧ Binds K fd ["self", "row"] []
structure RLen (P : Program) (w : World) (K : PySem.W.Frag) (mg : Str → Option Value) (base : Heap) (C : Addr) : Prop where
  has : ∃ (f : Addr) (fd : FuncData), PySem.W.findIn K (.ref C) "__len__" = some (some (.ref f)) ∧ PySem.W.isFn K (.ref f) = true ∧ FnOk P w K mg base CX0 1 f fd ["self"] (spLenR C) ∧ Binds K fd ["self"] []
structure PartAt (P : Program) (w : World) (K : PySem.W.Frag) (mg : Str → Option Value) (base : Heap) (C CL : Addr) : Prop where
  cl : Cls K C
  has : ∃ (f : Addr) (fd : FuncData), Meth K C "part" f ∧ FnOk P w K mg base (L2.CX P w) 8 f fd ["self", "first", "last"] (spPart C CL) ∧ Binds K fd ["self", "first", "last"] []
section
variable {P : Program} {w : World} {K : PySem.W.Frag} {mg : Str → Option Value} {base : Heap} {aI aT C D CP CT CZ CA CM CL CW CG CS CB CU CV : Addr} {kI : List (Int × Value)} {kT : List (Str × Value)}
theorem okLenR {f : Addr} {fd : FuncData} (F : Fun K "__len__" "Row.__len__" sLenR f fd) (T : Txt K w mg aI aT CP CT CZ CA CM CL kI kT) (R : RowCls K C) : FnOk P w K mg base CX0 1 f fd ["self"] (spLenR C) := by
  refine F.ok scLenR (fun vs H Q E h => ?_) (fun cdv A outer s H vs Q E hr h => ?_)
  · obtain ⟨a, x, p, ss, mm, rfl, _⟩ := h
    rfl
  · obtain ⟨a, x, p, ss, mm, rfl, ⟨dx, ts, tm, ea, at_, am⟩, q⟩ := h
    refine ⟨_, (pss_one (ps_ret (pe_callB call_len_seq (by rfl) T.len (by decide +kernel) (pa_cons (pe_fld (pv 0) rfl) pa_nil)))), ?_⟩
    cases at_ with
    | tup et al =>
      refine ⟨_, rfl, a, C, dx, _, _, rfl, ea, R.cl, R.n3, rfl, ts, _, rfl, .inr (SqT.of et), ?_⟩
      rw [anyL_len al]
      exact q
theorem okRowS {f : Addr} {fd : FuncData} (F : Fun K "row" "Stream.row" sRowS f fd) (S : StrCls K C D) : FnOk P w K mg base CX0 1 f fd ["self"] (spRowS D C) := by
  refine F.ok scRowS (fun vs H Q E h => ?_) (fun cdv A outer s H vs Q E hr h => ?_)
  · obtain ⟨a, s, rfl, _⟩ := h
    rfl
  · obtain ⟨a, s, rfl, ⟨dx, R, tp, tu, ps, us, i⟩, q⟩ := h
    exact ⟨_, (pss_one (ps_ret (pe_fld (pv 0) rfl))), _, rfl, a, D, dx, _, _, rfl, i.o, S.cl, S.r, rfl, q _ i.r⟩
theorem okUab {f : Addr} {fd : FuncData} (F : Fun K "undoable" "Stream.undoable" sUab f fd) (S : StrCls K C D) (zl : mg "len" = none) : FnOk P w K mg base CX0 1 f fd ["self"] (spUndoable D C) := by
  refine F.ok scUab (fun vs H Q E h => ?_) (fun cdv A outer s H vs Q E hr h => ?_)
  · obtain ⟨a, s, rfl, _⟩ := h
    rfl
  · obtain ⟨a, s, rfl, ⟨dx, R, tp, tu, ps, us, i⟩, l, q⟩ := h
    refine ⟨_, (pss_one (ps_ret (pe_callB call_len_seq (by rfl) zl (by decide +kernel) (pa_cons (pe_fld (pv 0) rfl) pa_nil)))), ?_⟩
    refine ⟨_, rfl, a, D, dx, _, _, rfl, i.o, S.cl, S.p, rfl, tp, _, rfl, .inr (SqT.of i.ep), ?_⟩
    rw [i.p.len]
    exact q
theorem okRab {f : Addr} {fd : FuncData} (F : Fun K "redoable" "Stream.redoable" sRab f fd) (S : StrCls K C D) (zl : mg "len" = none) : FnOk P w K mg base CX0 1 f fd ["self"] (spRedoable D C) := by
  refine F.ok scRab (fun vs H Q E h => ?_) (fun cdv A outer s H vs Q E hr h => ?_)
  · obtain ⟨a, s, rfl, _⟩ := h
    rfl
  · obtain ⟨a, s, rfl, ⟨dx, R, tp, tu, ps, us, i⟩, l, q⟩ := h
    refine ⟨_, (pss_one (ps_ret (pe_callB call_len_seq (by rfl) zl (by decide +kernel) (pa_cons (pe_fld (pv 0) rfl) pa_nil)))), ?_⟩
    refine ⟨_, rfl, a, D, dx, _, _, rfl, i.o, S.cl, S.u, rfl, tu, _, rfl, .inr (SqT.of i.eu), ?_⟩
    rw [i.u.len, List.length_reverse]
    exact q
theorem okLenS {f : Addr} {fd : FuncData} (F : Fun K "__len__" "Stream.__len__" sLenS f fd) (S : StrCls K C D) (zl : mg "len" = none) (L : RLen P w K mg base C) : FnOk P w K mg base CX0 3 f fd ["self"] (spLenS D C) := by
  obtain ⟨fl, fdl, hl, hfn, Fl, bl⟩ := L.has
  refine F.ok scLenS (fun vs H Q E h => ?_) (fun cdv A outer s H vs Q E hr h => ?_)
  · obtain ⟨a, s, rfl, _⟩ := h
    rfl
  · obtain ⟨a, s, rfl, ⟨dx, R, tp, tu, ps, us, i⟩, lz, q⟩ := h
    refine ⟨_, (pss_one (ps_ret (pe_callB (call_lenO hl hfn Fl (hr.mono (by decide)) bl) (by rfl) zl (by decide +kernel) (pa_cons (pe_fld (pv 0) rfl) pa_nil)))), ?_⟩
    obtain ⟨dy, ts, tm, er, _, _⟩ := id i.r
    refine ⟨_, rfl, a, D, dx, _, _, rfl, i.o, S.cl, S.r, rfl, R, dy, _, rfl, er, R, s.here.x, s.here.q, _, _, rfl, i.r, _, rfl, ?_⟩
    rw [List.length_map]
    exact ⟨by omega, by omega, q⟩
theorem okDo {f : Addr} {fd : FuncData} (F : Fun K "_do" "Stream._do" sDo f fd) (S : StrCls K C D) : FnOk P w K mg base CX0 1 f fd ["self", "row"] (spDo D C) := by
  refine F.ok scDo (fun vs H Q E h => ?_) (fun cdv A outer s H vs Q E hr h => ?_)
  · obtain ⟨a, R, s, d, rfl, _⟩ := h
    rfl
  · obtain ⟨a, R2, s, d, rfl, st, l, rd, q⟩ := h
    obtain ⟨dx, R, tp, tu, ps, us, i⟩ := st
    have lp := i.p.len
    refine ⟨_, (pss_cons (ps_fld (pv 0) (pe_op op_catA (pe_fld (pv 0) rfl) (pe_tup (pa_cons (pe_fld (pv 0) rfl) pa_nil))) rfl)
      (pss_cons (ps_fld (pv 0) (pv 1) rfl)
      (pss_one (ps_fld (pv 0) (pe_tup pa_nil) rfl)))), ?_⟩
    refine ⟨_, rfl, a, D, dx, _, _, rfl, i.o, S.cl, S.p, rfl, _, rfl, a, D, dx, _, _, rfl, i.o, S.cl, S.r, rfl, by show 1 ≤ sizeLine; decide, fun t ht => ?_⟩
    have k1 := same_new (o := .tup [.ref R]) ht
    refine cat_tup (K := K) (k1 _ _ i.ep) upd_same (by show ps.length + 1 ≤ 1000; omega) fun p H2 k2 h2 => ?_
    have k12 := k1.trans k2
    have e2 := k12 _ _ i.o
    refine ⟨_, rfl, a, D, dx, _, rfl, e2, S.cl, S.p, (by show 3 < 1000; decide), ?_⟩
    refine ⟨_, rfl, _, rfl, a, D, dx, _, rfl, upd_same, S.cl, S.r, (by show 3 < 1000; decide), ?_⟩
    have g4 : Grow a H2 (upd (upd H2 a (.ins D dx (putF "_past" (.ref p) [("_row", .ref R), ("_past", .ref tp), ("_undone", .ref tu)]))) a (.ins D dx [("_row", .ref R2), ("_past", .ref p), ("_undone", .ref tu)])) := Grow.trans Grow.put Grow.put
    have e4 : (upd (upd H2 a (.ins D dx (putF "_past" (.ref p) [("_row", .ref R), ("_past", .ref tp), ("_undone", .ref tu)]))) a (.ins D dx [("_row", .ref R2), ("_past", .ref p), ("_undone", .ref tu)])) a = some (.ins D dx [("_row", .ref R2), ("_past", .ref p), ("_undone", .ref tu)]) := upd_same
    refine ⟨by show 0 ≤ sizeLine; decide, fun t3 ht3 => ?_⟩
    have k5 := same_new (o := .tup []) ht3
    have e5 : (upd (upd (upd H2 a (.ins D dx (putF "_past" (.ref p) [("_row", .ref R), ("_past", .ref tp), ("_undone", .ref tu)]))) a (.ins D dx [("_row", .ref R2), ("_past", .ref p), ("_undone", .ref tu)])) t3 (.tup [])) t3 = some (.tup []) := upd_same
    refine ⟨_, rfl, a, D, dx, _, rfl, k5 _ _ e4, S.cl, S.u, (by show 3 < 1000; decide), ?_⟩
    have g6 : Grow a (upd (upd (upd H2 a (.ins D dx (putF "_past" (.ref p) [("_row", .ref R), ("_past", .ref tp), ("_undone", .ref tu)]))) a (.ins D dx [("_row", .ref R2), ("_past", .ref p), ("_undone", .ref tu)])) t3 (.tup [])) (upd (upd (upd (upd H2 a (.ins D dx (putF "_past" (.ref p) [("_row", .ref R), ("_past", .ref tp), ("_undone", .ref tu)]))) a (.ins D dx [("_row", .ref R2), ("_past", .ref p), ("_undone", .ref tu)])) t3 (.tup [])) a (.ins D dx [("_row", .ref R2), ("_past", .ref p), ("_undone", .ref t3)])) := Grow.put
    have e6 : (upd (upd (upd (upd H2 a (.ins D dx (putF "_past" (.ref p) [("_row", .ref R), ("_past", .ref tp), ("_undone", .ref tu)]))) a (.ins D dx [("_row", .ref R2), ("_past", .ref p), ("_undone", .ref tu)])) t3 (.tup [])) a (.ins D dx [("_row", .ref R2), ("_past", .ref p), ("_undone", .ref t3)])) a = some (.ins D dx [("_row", .ref R2), ("_past", .ref p), ("_undone", .ref t3)]) := upd_same
    have g26 := (g4.trans (Grow.of k5)).trans g6
    have g := (Grow.of k12).trans g26
    have kp := keeps_ins e2 g26
    exact q _ g ⟨dx, R2, p, t3, ps ++ [.ref R], [], e6, row_go S.ne i.o g rd, kp.t _ _ h2, (i.p.move fun _ _ r => row_go S.ne i.o g r).app (.one (row_go S.ne i.o g i.r)), (keeps_ins (k5 _ _ e4) g6).t _ _ e5, .nil⟩
theorem okUndo {f : Addr} {fd : FuncData} (F : Fun K "undo" "Stream.undo" sUndo f fd) (S : StrCls K C D) (zl : mg "len" = none) (eU : ErrN K mg "NothingToUndo" CU) : FnOk P w K mg base (L2.CX P w) 4 f fd ["self"] (spUndo D C CU) := by
  refine F.okX scUndo (fun vs H Q E h => ?_) (fun cdv A outer s H vs Q E hr h => ?_)
  · obtain ⟨a, s, rfl, _⟩ := h
    rfl
  · obtain ⟨a, s, rfl, st, l1, l2, qn, q⟩ := h
    obtain ⟨dx, R, tp, tu, ps, us, i⟩ := st
    have lp := i.p.len
    have lu := i.u.len
    rw [List.length_reverse] at lu
    refine ⟨_, (pss_cons (ps_if (pt_cmpR op_eq (pe_callB call_len_seq (by rfl) zl (by decide +kernel) (pa_cons (pe_fld (pv 0) rfl) pa_nil)) pe_int (nomark _)) (pss_one (ps_throwN eU rfl (hr.mono (by decide)) (takes_of rfl rfl rfl rfl))) pss_nil)
      (pss_cons (ps_fld (pv 0) (pe_op op_catA (pe_fld (pv 0) rfl) (pe_tup (pa_cons (pe_fld (pv 0) rfl) pa_nil))) rfl)
      (pss_cons (ps_fld (pv 0) (pe_ix ix_tup (pe_fld (pv 0) rfl) (pe_un un_neg pe_int) (fun _ _ => rfl)) rfl)
      (pss_one (ps_fld (pv 0) (pe_slice sl_tupA (pe_fld (pv 0) rfl) po_none (po_some (pe_un un_neg pe_int))) rfl))))), ?_⟩
    refine ⟨_, rfl, a, D, dx, _, _, rfl, i.o, S.cl, S.p, rfl, tp, _, rfl, .inr (SqT.of i.ep), rfl, _, rfl, ite2 (fun y => ?_) (fun y => ?_)⟩
    · have e : s.past = [] := by
        have h3 : V.int (ps.length : Int) = V.int 0 := of_decide_eq_true y
        injection h3 with h4
        exact List.eq_nil_of_length_eq_zero (by omega)
      exact thrownN_go (qn e)
    have ne0 : s.past ≠ [] := fun z => y (decide_eq_true (by rw [z] at lp; rw [show ps.length = 0 from lp] <;> rfl))
    obtain ⟨qs, d, eq⟩ : ∃ qs d, s.past = qs ++ [d] := ⟨_, _, (List.dropLast_concat_getLast ne0).symm⟩
    have ip := i.p
    rw [eq] at ip
    obtain ⟨ws, Ra, ew, iw, ir⟩ := ip.split
    subst ew
    refine ⟨_, rfl, a, D, dx, _, _, rfl, i.o, S.cl, S.u, rfl, _, rfl, a, D, dx, _, _, rfl, i.o, S.cl, S.r, rfl, by show 1 ≤ sizeLine; decide, fun t ht => ?_⟩
    have k1 := same_new (o := .tup [.ref R]) ht
    refine cat_tup (K := K) (k1 _ _ i.eu) upd_same (by show us.length + 1 ≤ 1000; omega) fun p H2 k2 h2 => ?_
    have k12 := k1.trans k2
    have e2 := k12 _ _ i.o
    refine ⟨_, rfl, a, D, dx, _, rfl, e2, S.cl, S.u, (by show 3 < 1000; decide), ?_⟩
    have e3 : (upd H2 a (.ins D dx [("_row", .ref R), ("_past", .ref tp), ("_undone", .ref p)])) a = some (.ins D dx [("_row", .ref R), ("_past", .ref tp), ("_undone", .ref p)]) := upd_same
    have g3 : Grow a H2 (upd H2 a (.ins D dx [("_row", .ref R), ("_past", .ref tp), ("_undone", .ref p)])) := Grow.put
    have t3 := (keeps_ins e2 g3).t _ _ (k12 _ _ i.ep)
    refine ⟨_, rfl, a, D, dx, _, _, rfl, e3, S.cl, S.p, rfl, _, rfl, tp, _, -1, _, rfl, rfl, SqT.of t3, atI_last _ _, ?_⟩
    refine ⟨_, rfl, a, D, dx, _, rfl, e3, S.cl, S.r, (by show 3 < 1000; decide), ?_⟩
    have e4 : (upd (upd H2 a (.ins D dx [("_row", .ref R), ("_past", .ref tp), ("_undone", .ref p)])) a (.ins D dx [("_row", .ref Ra), ("_past", .ref tp), ("_undone", .ref p)])) a = some (.ins D dx [("_row", .ref Ra), ("_past", .ref tp), ("_undone", .ref p)]) := upd_same
    have g4 : Grow a H2 (upd (upd H2 a (.ins D dx [("_row", .ref R), ("_past", .ref tp), ("_undone", .ref p)])) a (.ins D dx [("_row", .ref Ra), ("_past", .ref tp), ("_undone", .ref p)])) := g3.trans Grow.put
    have t4 := (keeps_ins e2 g4).t _ _ (k12 _ _ i.ep)
    refine ⟨_, rfl, a, D, dx, _, _, rfl, e4, S.cl, S.p, rfl, _, rfl, _, rfl, ?_⟩
    refine cut_last (K := K) t4 fun tl H5 k5 h5 => ?_
    refine ⟨_, rfl, a, D, dx, _, rfl, k5 _ _ e4, S.cl, S.p, (by show 3 < 1000; decide), ?_⟩
    have e6 : (upd H5 a (.ins D dx [("_row", .ref Ra), ("_past", .ref tl), ("_undone", .ref p)])) a = some (.ins D dx [("_row", .ref Ra), ("_past", .ref tl), ("_undone", .ref p)]) := upd_same
    have g6 : Grow a H5 (upd H5 a (.ins D dx [("_row", .ref Ra), ("_past", .ref tl), ("_undone", .ref p)])) := Grow.put
    have g26 := (g4.trans (Grow.of k5)).trans g6
    have g := (Grow.of k12).trans g26
    refine q qs d eq _ g ⟨dx, Ra, tl, p, ws, us ++ [.ref R], e6, row_go S.ne i.o g ir, (keeps_ins (k5 _ _ e4) g6).t _ _ h5, iw.move fun _ _ r => row_go S.ne i.o g r, (keeps_ins e2 g26).t _ _ h2, ?_⟩
    show RowsL C _ _ (s.here :: s.later).reverse
    rw [List.reverse_cons]
    exact (i.u.move fun _ _ r => row_go S.ne i.o g r).app (.one (row_go S.ne i.o g i.r))
theorem okRedo {f : Addr} {fd : FuncData} (F : Fun K "redo" "Stream.redo" sRedo f fd) (S : StrCls K C D) (zl : mg "len" = none) (eV : ErrN K mg "NothingToRedo" CV) : FnOk P w K mg base (L2.CX P w) 4 f fd ["self"] (spRedo D C CV) := by
  refine F.okX scRedo (fun vs H Q E h => ?_) (fun cdv A outer s H vs Q E hr h => ?_)
  · obtain ⟨a, s, rfl, _⟩ := h
    rfl
  · obtain ⟨a, s, rfl, st, l1, l2, qn, q⟩ := h
    obtain ⟨dx, R, tp, tu, ps, us, i⟩ := st
    have lp := i.p.len
    have lu := i.u.len
    rw [List.length_reverse] at lu
    refine ⟨_, (pss_cons (ps_if (pt_cmpR op_eq (pe_callB call_len_seq (by rfl) zl (by decide +kernel) (pa_cons (pe_fld (pv 0) rfl) pa_nil)) pe_int (nomark _)) (pss_one (ps_throwN eV rfl (hr.mono (by decide)) (takes_of rfl rfl rfl rfl))) pss_nil)
      (pss_cons (ps_fld (pv 0) (pe_op op_catA (pe_fld (pv 0) rfl) (pe_tup (pa_cons (pe_fld (pv 0) rfl) pa_nil))) rfl)
      (pss_cons (ps_fld (pv 0) (pe_ix ix_tup (pe_fld (pv 0) rfl) (pe_un un_neg pe_int) (fun _ _ => rfl)) rfl)
      (pss_one (ps_fld (pv 0) (pe_slice sl_tupA (pe_fld (pv 0) rfl) po_none (po_some (pe_un un_neg pe_int))) rfl))))), ?_⟩
    refine ⟨_, rfl, a, D, dx, _, _, rfl, i.o, S.cl, S.u, rfl, tu, _, rfl, .inr (SqT.of i.eu), rfl, _, rfl, ite2 (fun y => ?_) (fun y => ?_)⟩
    · have e : s.later = [] := by
        have h3 : V.int (us.length : Int) = V.int 0 := of_decide_eq_true y
        injection h3 with h4
        exact List.eq_nil_of_length_eq_zero (by omega)
      exact thrownN_go (qn e)
    obtain ⟨d, ls, eq⟩ : ∃ d ls, s.later = d :: ls := by
      cases e : s.later with
      | nil => exact absurd (decide_eq_true (by rw [e] at lu; rw [show us.length = 0 from lu] <;> rfl)) y
      | cons d ls => exact ⟨d, ls, rfl⟩
    have iu := i.u
    rw [eq, List.reverse_cons] at iu
    obtain ⟨ws, Ra, ew, iw, ir⟩ := iu.split
    subst ew
    refine ⟨_, rfl, a, D, dx, _, _, rfl, i.o, S.cl, S.p, rfl, _, rfl, a, D, dx, _, _, rfl, i.o, S.cl, S.r, rfl, by show 1 ≤ sizeLine; decide, fun t ht => ?_⟩
    have k1 := same_new (o := .tup [.ref R]) ht
    refine cat_tup (K := K) (k1 _ _ i.ep) upd_same (by show ps.length + 1 ≤ 1000; omega) fun p H2 k2 h2 => ?_
    have k12 := k1.trans k2
    have e2 := k12 _ _ i.o
    refine ⟨_, rfl, a, D, dx, _, rfl, e2, S.cl, S.p, (by show 3 < 1000; decide), ?_⟩
    have e3 : (upd H2 a (.ins D dx [("_row", .ref R), ("_past", .ref p), ("_undone", .ref tu)])) a = some (.ins D dx [("_row", .ref R), ("_past", .ref p), ("_undone", .ref tu)]) := upd_same
    have g3 : Grow a H2 (upd H2 a (.ins D dx [("_row", .ref R), ("_past", .ref p), ("_undone", .ref tu)])) := Grow.put
    have t3 := (keeps_ins e2 g3).t _ _ (k12 _ _ i.eu)
    refine ⟨_, rfl, a, D, dx, _, _, rfl, e3, S.cl, S.u, rfl, _, rfl, tu, _, -1, _, rfl, rfl, SqT.of t3, atI_last _ _, ?_⟩
    refine ⟨_, rfl, a, D, dx, _, rfl, e3, S.cl, S.r, (by show 3 < 1000; decide), ?_⟩
    have e4 : (upd (upd H2 a (.ins D dx [("_row", .ref R), ("_past", .ref p), ("_undone", .ref tu)])) a (.ins D dx [("_row", .ref Ra), ("_past", .ref p), ("_undone", .ref tu)])) a = some (.ins D dx [("_row", .ref Ra), ("_past", .ref p), ("_undone", .ref tu)]) := upd_same
    have g4 : Grow a H2 (upd (upd H2 a (.ins D dx [("_row", .ref R), ("_past", .ref p), ("_undone", .ref tu)])) a (.ins D dx [("_row", .ref Ra), ("_past", .ref p), ("_undone", .ref tu)])) := g3.trans Grow.put
    have t4 := (keeps_ins e2 g4).t _ _ (k12 _ _ i.eu)
    refine ⟨_, rfl, a, D, dx, _, _, rfl, e4, S.cl, S.u, rfl, _, rfl, _, rfl, ?_⟩
    refine cut_last (K := K) t4 fun tl H5 k5 h5 => ?_
    refine ⟨_, rfl, a, D, dx, _, rfl, k5 _ _ e4, S.cl, S.u, (by show 3 < 1000; decide), ?_⟩
    have e6 : (upd H5 a (.ins D dx [("_row", .ref Ra), ("_past", .ref p), ("_undone", .ref tl)])) a = some (.ins D dx [("_row", .ref Ra), ("_past", .ref p), ("_undone", .ref tl)]) := upd_same
    have g6 : Grow a H5 (upd H5 a (.ins D dx [("_row", .ref Ra), ("_past", .ref p), ("_undone", .ref tl)])) := Grow.put
    have g26 := (g4.trans (Grow.of k5)).trans g6
    have g := (Grow.of k12).trans g26
    exact q d ls eq _ g ⟨dx, Ra, p, tl, ps ++ [.ref R], ws, e6, row_go S.ne i.o g ir, (keeps_ins e2 g26).t _ _ h2, (i.p.move fun _ _ r => row_go S.ne i.o g r).app (.one (row_go S.ne i.o g i.r)), (keeps_ins (k5 _ _ e4) g6).t _ _ h5, iw.move fun _ _ r => row_go S.ne i.o g r⟩
end
end K57

set_option Elab.async false
set_option linter.all false
set_option maxRecDepth 100000
set_option maxHeartbeats 800000
/-! K57G: a stream is made, grows, is cut. -/
namespace K57
open PySem PySem.Spec PyProof.Rows L2 Rw
section
variable {P : Program} {w : World} {K : PySem.W.Frag} {mg : Str → Option Value} {base : Heap} {aI aT C D CP CT CZ CA CM CL CW CG CS CB CU CV : Addr} {kI : List (Int × Value)} {kT : List (Str × Value)}
theorem okIniS {f : Addr} {fd : FuncData} (F : Fun K "__init__" "Stream.__init__" sIniStr f fd) (S : StrCls K C D) (RA : RowsAt P w K mg base C CT CP CZ CA CM) (GP : Own P w K mg base (L2.CX P w) 4 "check_prime" ["prime"] [] (spCheck CP)) (GS : Own P w K mg base (L2.CX P w) 4 "check_size" ["size"] [] (spCSize CS)) :
    FnOk P w K mg base (L2.CX P w) 8 f fd ["self", "prime", "size"] (spIniS D C CP CS) := by
  refine F.okX scIniStr (fun vs H Q E h => ?_) (fun cdv A outer s H vs Q E hr h => ?_)
  · obtain ⟨a, dx, q, n, rfl, _⟩ := h
    rfl
  · obtain ⟨a, dx, q, n, rfl, ea, hq, n6, k⟩ := h
    refine ⟨_, (pss_cons (ps_expr (pe_own (E := E) GP (hr.mono (by decide)) (passes_call (takes_of rfl rfl rfl rfl) (fun _ _ _ _ z => z)) (pa_cons (pv 1) pa_nil)))
      (pss_cons (ps_expr (pe_own (E := E) GS (hr.mono (by decide)) (passes_call (takes_of rfl rfl rfl rfl) (fun _ _ _ _ z => z)) (pa_cons (pv 2) pa_nil)))
      (pss_cons (ps_fld (pv 0) (pe_rowN (E := E) RA hr (passes_call (takes_of rfl rfl rfl rfl) (fun _ _ _ _ z => z)) (pa_cons pe_str (pa_cons (pv 1) (pa_cons (pe_lst (pa_cons (pv 2) pa_nil)) (pa_cons (pe_lst pa_nil) pa_nil))))) rfl)
      (pss_cons (ps_fld (pv 0) (pe_tup pa_nil) rfl)
      (pss_one (ps_fld (pv 0) (pe_tup pa_nil) rfl)))))), ?_⟩
    have hp : isPr (.int q) = true := by show decide (q ∈ primesL) = true; exact decide_eq_true hq
    refine ⟨_, rfl, .int q, .int q, rfl, .int q, fun _ => ?_, fun z => by rw [hp] at z; cases z⟩
    refine ⟨_, rfl, .int (n : Nat), natD n, rfl, .int _, fun _ => ?_, fun z => by rw [szD_nat n6] at z; cases z⟩
    refine ⟨_, rfl, _, rfl, by show 1 ≤ sizeLine; decide, fun l1 h1 => ?_⟩
    have k1 := same_new (o := .lst [.int (n : Nat)]) h1
    have a1 : Any (upd H l1 (.lst [.int (n : Nat)])) (.ref l1) (.list ([n].map natD)) := .lst upd_same (.cons (.int _) .nil)
    refine ⟨by show 0 ≤ sizeLine; decide, fun l2 h2 => ?_⟩
    have k2 := same_new (o := .lst []) h2
    have a2 : Any (upd (upd H l1 (.lst [.int (n : Nat)])) l2 (.lst [])) (.ref l2) (.list (([] : List (List (List Int))).map sheetD)) := .lst upd_same .nil
    have g := new_good (q := q) hq n6
    have gd : rowGood "" q (.list ([n].map natD)) (.list (([] : List (List (List Int))).map sheetD)) = true := draft_good g.d g.p hq (Nat.le_refl _)
    refine ⟨.str "", .int q, .ref l1, .ref l2, .str "", .int q, .list ([n].map natD), .list (([] : List (List (List Int))).map sheetD), rfl, ⟨.str _, .int q, a1.keep k2, a2, pat_short g.p (by decide), by show 1 ≤ 1000; decide, draft_fitM g.d g.p hq (Nat.le_refl _)⟩, good_err gd, fun y p' R H3 e0 e1 _ hR k3 ra => ?_⟩
    cases e0
    cases e1
    have K3 := (k1.trans k2).trans k3
    have e3 := K3 _ _ ea
    refine ⟨_, rfl, a, D, dx, _, rfl, e3, S.cl, S.r, (by show 0 < 1000; decide), ?_⟩
    have g4 : Grow a H3 (upd H3 a (.ins D dx [("_row", .ref R)])) := Grow.put
    have e4 : (upd H3 a (.ins D dx [("_row", .ref R)])) a = some (.ins D dx [("_row", .ref R)]) := upd_same
    refine ⟨by show 0 ≤ sizeLine; decide, fun tp hp => ?_⟩
    have k5 := same_new (o := .tup []) hp
    refine ⟨_, rfl, a, D, dx, _, rfl, k5 _ _ e4, S.cl, S.p, (by show 1 < 1000; decide), ?_⟩
    have g6 : Grow a (upd (upd H3 a (.ins D dx [("_row", .ref R)])) tp (.tup [])) (upd (upd (upd H3 a (.ins D dx [("_row", .ref R)])) tp (.tup [])) a (.ins D dx [("_row", .ref R), ("_past", .ref tp)])) := Grow.put
    have e6 : (upd (upd (upd H3 a (.ins D dx [("_row", .ref R)])) tp (.tup [])) a (.ins D dx [("_row", .ref R), ("_past", .ref tp)])) a = some (.ins D dx [("_row", .ref R), ("_past", .ref tp)]) := upd_same
    have t6 := (keeps_ins (k5 _ _ e4) g6).t tp [] upd_same
    refine ⟨by show 0 ≤ sizeLine; decide, fun tu hu => ?_⟩
    have k7 := same_new (o := .tup []) hu
    refine ⟨_, rfl, a, D, dx, _, rfl, k7 _ _ e6, S.cl, S.u, (by show 2 < 1000; decide), ?_⟩
    have g8 : Grow a (upd (upd (upd (upd H3 a (.ins D dx [("_row", .ref R)])) tp (.tup [])) a (.ins D dx [("_row", .ref R), ("_past", .ref tp)])) tu (.tup [])) (upd (upd (upd (upd (upd H3 a (.ins D dx [("_row", .ref R)])) tp (.tup [])) a (.ins D dx [("_row", .ref R), ("_past", .ref tp)])) tu (.tup [])) a (.ins D dx [("_row", .ref R), ("_past", .ref tp), ("_undone", .ref tu)])) := Grow.put
    have e8 : (upd (upd (upd (upd (upd H3 a (.ins D dx [("_row", .ref R)])) tp (.tup [])) a (.ins D dx [("_row", .ref R), ("_past", .ref tp)])) tu (.tup [])) a (.ins D dx [("_row", .ref R), ("_past", .ref tp), ("_undone", .ref tu)])) a = some (.ins D dx [("_row", .ref R), ("_past", .ref tp), ("_undone", .ref tu)]) := upd_same
    have kp8 := keeps_ins (k7 _ _ e6) g8
    have g38 := (((g4.trans (Grow.of k5)).trans g6).trans (Grow.of k7)).trans g8
    exact k _ ((Grow.of K3).trans g38) ⟨dx, R, tp, tu, [], [], e8, row_go S.ne e3 g38 (d := newDr q n) ra, kp8.t _ _ (k7 _ _ t6), .nil, kp8.t tu [] upd_same, .nil⟩
theorem okGrowM {f : Addr} {fd : FuncData} (F : Fun K "grow" "Stream.grow" sGrowM f fd) (S : StrCls K C D) (DA : DoAt P w K mg base D C) (GG : Own P w K mg base (L2.CX P w) 8 "grown" ["row", "arrow", "size", "matrix"] [] (spGrow C CW CG CS CM)) :
    FnOk P w K mg base (L2.CX P w) 9 f fd ["self", "arrow", "size", "matrix"] (spGrowM D C CW CG CS CM) := by
  obtain ⟨fd2, fdd, hm, Fd, bd⟩ := DA.has
  refine F.okX scGrowM (fun vs H Q E h => ?_) (fun cdv A outer s H vs Q E hr h => ?_)
  · obtain ⟨a, va, vn, vm, s, da, dn, dm, m, rfl, _⟩ := h
    rfl
  · obtain ⟨a, va, vn, vm, s, da, dn, dm, m, rfl, st, g, lp, aa, an, am, fm, t1, t2, t3, t4, q⟩ := h
    refine ⟨_, (pss_one (ps_expr (pe_meth (pv 0) S.cl hm Fd (hr.mono (by decide)) bd .nil pass0 (pa_cons (pe_own (E := E) GG hr (passes_call (takes_of rfl rfl rfl rfl) (fun _ _ _ _ z => z)) (pa_cons (pe_fld (pv 0) rfl) (pa_cons (pv 1) (pa_cons (pv 2) (pa_cons (pv 3) pa_nil))))) pa_nil)))), ?_⟩
    obtain ⟨dx, R, tp, tu, ps, us, i⟩ := id st
    refine ⟨_, rfl, a, dx, _, rfl, i.o, rfl, _, rfl, a, D, dx, _, _, rfl, i.o, S.cl, S.r, rfl, _, rfl, _, rfl, _, rfl, ?_⟩
    refine ⟨R, va, vn, vm, s.here.x, s.here.q, s.here.ss, s.here.ms, da, dn, dm, rfl, i.r, g, aa, an, am, fm, t1, t2, t3, t4, fun r n o H' ea l6 en n6 mt ho k ro => ?_⟩
    obtain ⟨q1, q2⟩ := q r n ea l6 en n6 mt
    rw [q1] at ro
    have rd : RowD C H' o (growDr s.here r n m) := by
      have e : s.here.ms.map (fun m => m.map tupI) ++ [m.map tupI] = (s.here.ms ++ [m]).map fun m => m.map tupI := by
        rw [List.map_append] <;> rfl
      rw [e] at ro
      exact ro
    exact ⟨a, o, s, growDr s.here r n m, rfl, st.keep k, lp, rd, fun H2 g2 st2 => q2 H2 ((Grow.of k).trans g2) st2⟩
theorem okCutM {f : Addr} {fd : FuncData} (F : Fun K "cut" "Stream.cut" sCutM f fd) (S : StrCls K C D) (DA : DoAt P w K mg base D C) (zl : mg "len" = none) (L : RLen P w K mg base C) (PA : PartAt P w K mg base C CL) (eB : Err K mg "InvalidNumber" CB)
    (GI : Own P w K mg base CX0 2 "is_integer" ["value", "low", "high"] [] spInt) : FnOk P w K mg base (L2.CX P w) 9 f fd ["self", "count"] (spCutM D C CB) := by
  obtain ⟨fd2, fdd, hm, Fd, bd⟩ := DA.has
  obtain ⟨fl, fdl, hl, hfn, Fl, bl⟩ := L.has
  obtain ⟨fp, fdp, hp, Fp, bp⟩ := PA.has
  refine F.okX scCutM (fun vs H Q E h => ?_) (fun cdv A outer s H vs Q E hr h => ?_)
  · obtain ⟨a, v, s, d, rfl, _⟩ := h
    rfl
  · obtain ⟨a, v, s, d, rfl, st, g, lp, an, qn, q⟩ := h
    refine ⟨_, (pss_cons (ps_set (i := 2) scCutM.nd rfl (Or.inl rfl) (pe_op op_sub (pe_callB (call_lenO hl hfn Fl (hr.mono (by decide)) bl) (by rfl) zl (by decide +kernel) (pa_cons (pe_fld (pv 0) rfl) pa_nil)) pe_int))
      (pss_cons (ps_if (pt_not (pt_val (pe_own GI (hr.mono (by decide)) pass0 (pa_cons (pv 1) (pa_cons pe_int (pa_cons (pv 2) pa_nil)))))) (pss_one (ps_throw eB rfl (hr.mono (by decide)) (takes_of rfl rfl rfl rfl) (pv 1))) pss_nil)
      (pss_one (ps_expr (pe_meth (pv 0) S.cl hm Fd (hr.mono (by decide)) bd .nil pass0 (pa_cons (pe_meth (E := E) (pe_fld (pv 0) rfl) PA.cl hp Fp hr bp .nil (passes_call (takes_of rfl rfl rfl rfl) (fun _ _ _ _ z => z)) (pa_cons (pv 1) (pa_cons (pv 2) pa_nil))) pa_nil)))))), ?_⟩
    obtain ⟨dx, R, tp, tu, ps, us, i⟩ := id st
    obtain ⟨dy, ts, tm, er, _, _⟩ := id i.r
    have sl := g.d.sl
    have lx := g.p.l
    refine ⟨_, rfl, a, D, dx, _, _, rfl, i.o, S.cl, S.r, rfl, R, dy, _, rfl, er, R, s.here.x, s.here.q, _, _, rfl, i.r, _, rfl, ?_⟩
    rw [List.length_map]
    refine ⟨by omega, by omega, _, _, rfl, rfl, ?_⟩
    have e1 : ((s.here.ss.length : Nat) : Int) - 1 = (s.here.x.length : Nat) := by omega
    show gName 2 (.int (((s.here.ss.length : Nat) : Int) - 1)) _ _ _
    rw [e1]
    refine ⟨_, rfl, _, rfl, v, _, _, d, .int 1, .int (s.here.x.length : Nat), rfl, an, .int _, .int _, _, rfl, ?_⟩
    cases e : inB d (.int 1) (.int (s.here.x.length : Nat)) with
    | false => exact iteT ⟨_, rfl, thrown_go (qn e)⟩
    | true =>
      obtain ⟨c, rfl, c1, c2⟩ := inB_nat (lo := 1) e
      cases an
      refine iteF ⟨_, rfl, a, dx, _, rfl, i.o, rfl, _, rfl, a, D, dx, _, _, rfl, i.o, S.cl, S.r, rfl, R, dy, _, rfl, er, rfl, _, rfl, _, rfl, ?_⟩
      refine ⟨R, s.here.x, s.here.q, s.here.ss, s.here.ms, .int (c : Nat), .int (s.here.x.length : Nat), .int (c : Nat), .int (s.here.x.length : Nat), rfl, i.r, g, .int _, .int _, fun z => ?_, fun _ z => ?_, fun i2 j2 ei ej ij jl o H' ho k ro => ?_⟩
      · rw [inB_yes (by omega) (by omega)] at z; cases z
      · rw [inB_yes (by omega) (by omega)] at z; cases z
      have ei2 : i2 = c := by
        have := PyData.int.inj ei
        omega
      have ej2 : j2 = s.here.x.length := by
        have := PyData.int.inj ej
        omega
      subst ei2
      subst ej2
      obtain ⟨p1, p2⟩ := cut_parts g c2
      rw [p1, p2] at ro
      exact ⟨a, o, s, cutDr s.here i2, rfl, st.keep k, lp, ro, fun H2 g2 st2 => q i2 rfl c1 c2 H2 ((Grow.of k).trans g2) st2⟩
end
end K57

set_option Elab.async false
set_option linter.all false
set_option maxRecDepth 100000
set_option maxHeartbeats 800000
/-! TkGC: data away from what changes; the deeds of streams and what is due. -/
namespace Rw
open PySem PySem.Spec PyProof.Rows L2
/-! ### a heap without some objects -/
def msk (M : List Addr) (H : Hp) : Hp := fun b => if b ∈ M then none else H b
theorem msk_out {M : List Addr} {H : Hp} {b : Addr} (h : b ∉ M) : msk M H b = H b := if_neg h
theorem msk_at {M : List Addr} {H : Hp} {b : Addr} {o : HO} (e : msk M H b = some o) : b ∉ M ∧ H b = some o := by
  unfold msk at e
  by_cases z : b ∈ M
  · rw [if_pos z] at e; cases e
  · rw [if_neg z] at e; exact ⟨z, e⟩
theorem msk_sub {M : List Addr} {H : Hp} : Same (msk M H) H := fun b o e => (msk_at e).2
theorem msk_grow {M : List Addr} {H H' : Hp} {p : Addr} (hp : p ∈ M) (g : Grow p H H') : Same (msk M H) (msk M H') := fun b o e => by
  obtain ⟨z, e⟩ := msk_at e
  rw [msk_out z]
  exact g b o (fun y => z (by rw [y]; exact hp)) e
theorem msk_same {M : List Addr} {H H' : Hp} (k : Same H H') : Same (msk M H) (msk M H') := fun b o e => by
  obtain ⟨z, e⟩ := msk_at e
  rw [msk_out z]
  exact k b o e
theorem msk_nil {H : Hp} : Same H (msk [] H) := fun b o e => by rw [msk_out (by simp)]; exact e
theorem msk_put {M : List Addr} {H : Hp} {p : Addr} {o : HO} (hp : p ∈ M) : msk M (upd H p o) = msk M H := by
  funext b
  unfold msk
  by_cases z : b ∈ M
  · rw [if_pos z, if_pos z]
  · rw [if_neg z, if_neg z, upd_ne (fun y => z (by rw [y]; exact hp))]
def MOk (M : List Addr) (H : Hp) : Prop := ∀ b, b ∈ M → ∃ o, H b = some o ∧ ∀ xs, o ≠ .tup xs
theorem MOk.new {M : List Addr} {H : Hp} {l : Addr} (m : MOk M H) (h : H l = none) : l ∉ M := fun z => by
  obtain ⟨o, e, _⟩ := m l z
  rw [h] at e
  cases e
theorem MOk.keep {M : List Addr} {H H' : Hp} (m : MOk M H) (k : Same H H') : MOk M H' := fun b hb => by
  obtain ⟨o, e, n⟩ := m b hb
  exact ⟨o, k _ _ e, n⟩
theorem MOk.grow {M : List Addr} {H H' : Hp} {p : Addr} {o : HO} (m : MOk M H) (g : Grow p H H') (hp : H' p = some o) (n : ∀ xs, o ≠ .tup xs) : MOk M H' := fun b hb => by
  by_cases z : b = p
  · rw [z]; exact ⟨o, hp, n⟩
  · obtain ⟨u, e, nu⟩ := m b hb
    exact ⟨u, g _ _ z e, nu⟩
theorem MOk.box {M : List Addr} {H H' : Hp} {p : Addr} {n : Nat} (m : MOk M H) (g : Grow p H H') (b : Bx H' p n) : MOk M H' := by
  obtain ⟨xs, e⟩ := bx_at b
  exact m.grow g e fun _ z => by cases z
theorem mok_nil {H : Hp} : MOk [] H := fun b hb => by cases hb
mutual
theorem any_msk {M : List Addr} {H : Hp} (m : MOk M H) : ∀ (d : PyData) (v : V), Any H v d → noL d = true → Any (msk M H) v d
  | .none, _, a, _ => by cases a; exact .non
  | .bool b, _, a, _ => by cases a; exact .bl b
  | .int i, _, a, _ => by cases a; exact .int i
  | .str x, _, a, _ => by cases a; exact .str x
  | .list ds, _, _, z => by cases z
  | .dict ds, _, _, z => by cases z
  | .tuple ds, _, a, z => by
    cases a with
    | tup e b =>
      rename_i q ys
      have nm : q ∉ M := fun y => by
        obtain ⟨o, eo, n⟩ := m q y
        rw [e] at eo
        exact n ys (Option.some.inj eo).symm
      exact .tup (by rw [msk_out nm]; exact e) (anyL_msk m ds _ b z)
theorem anyL_msk {M : List Addr} {H : Hp} (m : MOk M H) : ∀ (ds : List PyData) (vs : List V), AnyL H vs ds → noLs ds = true → AnyL (msk M H) vs ds
  | [], _, a, _ => by cases a; exact .nil
  | d :: ds, _, a, z => by
    have z2 : (noL d && noLs ds) = true := z
    rw [Bool.and_eq_true] at z2
    cases a with
    | cons a b => exact .cons (any_msk m d _ a z2.1) (anyL_msk m ds _ b z2.2)
end
theorem msk_new {M : List Addr} {H : Hp} {l : Addr} {o : HO} (m : MOk M H) (h : H l = none) : Same (msk M H) (msk M (upd H l o)) ∧ msk M (upd H l o) l = some o :=
  ⟨msk_same (same_new h), by rw [msk_out (m.new h)]; exact upd_same⟩
theorem list_src {K : PySem.W.Frag} {G H : Hp} {v : V} {d : PyData} (an : Any G v d) (k : Same G H) (e : isSeqD d = true) : ∃ p ys, v = .ref p ∧ (SqL K H p ys ∨ SqT K H p ys) ∧ AnyL G ys (itemsD d) := by
  cases an with
  | lst ea al => exact ⟨_, _, rfl, .inl (SqL.of (k _ _ ea)), al⟩
  | tup ea al => exact ⟨_, _, rfl, .inr (SqT.of (k _ _ ea)), al⟩
  | _ => cases e
theorem any_list1 {H : Hp} {v : V} {d0 : PyData} (h : Any H v (.list [d0])) : ∃ a v0, v = .ref a ∧ H a = some (.lst [v0]) ∧ Any H v0 d0 := by
  cases h with
  | lst e al =>
    cases al with
    | cons a0 al =>
      cases al
      exact ⟨_, _, rfl, e, a0⟩
theorem any_list2 {H : Hp} {v : V} {d0 d1 : PyData} (h : Any H v (.list [d0, d1])) : ∃ a v0 v1, v = .ref a ∧ H a = some (.lst [v0, v1]) ∧ Any H v0 d0 ∧ Any H v1 d1 := by
  cases h with
  | lst e al =>
    cases al with
    | cons a0 al =>
      cases al with
      | cons a1 al =>
        cases al
        exact ⟨_, _, _, rfl, e, a0, a1⟩
theorem any_list3 {H : Hp} {v : V} {d0 d1 d2 : PyData} (h : Any H v (.list [d0, d1, d2])) : ∃ a v0 v1 v2, v = .ref a ∧ H a = some (.lst [v0, v1, v2]) ∧ Any H v0 d0 ∧ Any H v1 d1 ∧ Any H v2 d2 := by
  cases h with
  | lst e al =>
    cases al with
    | cons a0 al =>
      cases al with
      | cons a1 al =>
        cases al with
        | cons a2 al =>
          cases al
          exact ⟨_, _, _, _, rfl, e, a0, a1, a2⟩
theorem cutV_drop {xs : List V} {c : Nat} (h : c ≤ xs.length) : cutV xs (some ((c : Nat) : Int)) none = xs.drop c := by
  unfold cutV
  rw [HT.sIx_nat, HT.sIx_none, Nat.min_eq_left h]
  exact List.take_of_length_le (by rw [List.length_drop]; omega)
theorem cutV_last {xs : List V} {v : V} : cutV (xs ++ [v]) none (some (-1)) = xs := by
  have l : (xs ++ [v]).length = xs.length + 1 := by rw [List.length_append] <;> rfl
  have e2 : HT.sIx (xs ++ [v]).length (xs ++ [v]).length (some (-1)) = xs.length := by
    rw [l]
    unfold HT.sIx
    simp
    omega
  unfold cutV
  rw [e2, HT.sIx_none, List.drop_zero, Nat.sub_zero, List.take_left']
  rfl
/-! ### deeds -/
/-- a matrix with its rows as lists -/
def asL : PyData → PyData
  | .list ds => .list (ds.map fun d => .list (itemsD d))
  | d => d
def seqsB : PyData → Bool
  | .list ds => ds.all isSeqD
  | .none => true
  | .str _ => true
  | _ => false
def wN : PyData := .list [.str "none"]
def dnD : PyData := .list [.str "done", .none]
inductive Res
  | no (d : PyData)
  | ok (t : St)
def Res.due : Res → PyData
  | .no d => d
  | .ok t => t.D
def Res.told : Res → PyData
  | .no d => d
  | .ok _ => dnD
def Res.st (s : St) : Res → St
  | .no _ => s
  | .ok t => t
/-- what is refused, and how -/
def Refuse (d : Dr) (da dn dm due : PyData) : Prop := (isArD da = false ∧ due = wD "arrow" da) ∨ (isArD da = true ∧ d.x.length = 6 ∧ due = wD "large" (.int 7)) ∨ (isArD da = true ∧ d.x.length < 6 ∧ isSzD dn = false ∧ due = wD "size" dn) ∨
  ∃ r n, da = .str (arrS r) ∧ d.x.length < 6 ∧ dn = natD n ∧ n ≤ 6 ∧ isMatD (highS r d.ss n : Nat) (wideS r d.ss n : Nat) dm = false ∧ due = wD "matrix" dm
structure Hand (dm : PyData) : Prop where
  s : seqsB dm = true
  n : (itemsD dm).length ≤ 1000
  i : ∀ e, e ∈ itemsD dm → (itemsD e).length ≤ 1000
  f : Fit (asL dm)
  q : Tq 3 (asL dm)
inductive Due (s : St) : PyData → Res → Prop
  | grow {r : Bool} {n : Nat} {w m : List (List Int)} : s.here.x.length < 6 → n ≤ 6 → MatOk s.here.q (highS r s.here.ss n) (wideS r s.here.ss n) m → redM s.here.q w = m → Hand (sheetL w) → Due s (.list [.str "grow", .str (arrS r), natD n, sheetL w]) (.ok ⟨s.past ++ [s.here], growDr s.here r n m, []⟩)
  | growNo {da dn dm due : PyData} : Hand dm → Refuse s.here da dn (asL dm) due → Due s (.list [.str "grow", da, dn, dm]) (.no due)
  | cutNo {d : PyData} : inB d (.int 1) (.int (s.here.x.length : Nat)) = false → Due s (.list [.str "cut", d]) (.no (wD "figure" d))
  | cut {c : Nat} : 1 ≤ c → c ≤ s.here.x.length → Due s (.list [.str "cut", natD c]) (.ok ⟨s.past ++ [s.here], cutDr s.here c, []⟩)
  | undoNo : s.past = [] → Due s (.list [.str "undo"]) (.no wN)
  | undo {ps : List Dr} {d : Dr} : s.past = ps ++ [d] → Due s (.list [.str "undo"]) (.ok ⟨ps, d, s.here :: s.later⟩)
  | redoNo : s.later = [] → Due s (.list [.str "redo"]) (.no wN)
  | redo {d : Dr} {ls : List Dr} : s.later = d :: ls → Due s (.list [.str "redo"]) (.ok ⟨s.past ++ [s.here], d, ls⟩)
theorem GoodS.more {n m : Nat} {s : St} (g : GoodS n s) (h : n ≤ m) : GoodS m s := ⟨g.p, g.h, g.l, Nat.le_trans g.n h⟩
theorem due_good {n : Nat} {s : St} {d : PyData} {r : Res} (g : GoodS n s) (h : Due s d r) : GoodS (n + 1) (r.st s) := by
  have gn := g.n
  have pre : ∀ e, e ∈ s.past ++ [s.here] → GoodD e := fun e he => by
    rcases List.mem_append.mp he with z | z
    · exact g.p e z
    · rw [List.mem_singleton.mp z]; exact g.h
  have ln : (s.past ++ [s.here]).length = s.past.length + 1 := by rw [List.length_append] <;> rfl
  cases h with
  | grow l6 n6 mo rd hd =>
    exact ⟨pre, grow_good g.h l6 n6 mo, fun e he => (nomatch he), by show (s.past ++ [s.here]).length + 0 ≤ n + 1; rw [ln]; omega⟩
  | cut c1 c2 => exact ⟨pre, cut_good g.h c2, fun e he => (nomatch he), by show (s.past ++ [s.here]).length + 0 ≤ n + 1; rw [ln]; omega⟩
  | undo e =>
    rename_i ps d
    have hl : s.past.length = ps.length + 1 := by rw [e, List.length_append] <;> rfl
    refine ⟨fun x hx => g.p x (by rw [e]; exact List.mem_append_left _ hx), g.p _ (by rw [e]; exact List.mem_append_right _ List.mem_cons_self), fun x hx => ?_, by show ps.length + (s.later.length + 1) ≤ n + 1; omega⟩
    rcases List.mem_cons.mp hx with z | z
    · rw [z]; exact g.h
    · exact g.l x z
  | redo e =>
    rename_i d ls
    have hl : s.later.length = ls.length + 1 := by rw [e] <;> rfl
    exact ⟨pre, g.l _ (by rw [e]; exact List.mem_cons_self), fun x hx => g.l x (by rw [e]; exact List.mem_cons_of_mem _ hx), by show (s.past ++ [s.here]).length + ls.length ≤ n + 1; rw [ln]; omega⟩
  | _ => exact g.more (by omega)
/-! ### what the law's own defs promise -/
def spShownD (C : Addr) : Sp := fun vs H Q _ => ∃ a d, vs = [.ref a] ∧ RowD C H a d ∧ GoodD d ∧ ∀ l H', Same H H' → Any H' (.ref l) d.D → Q (.ref l) H'
def spCutL : Sp := fun vs H Q _ => ∃ M v d c, vs = [v, .int (c : Nat)] ∧ MOk M H ∧ Any (msk M H) v d.D ∧ GoodD d ∧ c ≤ d.x.length ∧ ∀ l H', Same H H' → Any (msk M H') (.ref l) (cutDr d c).D → Q (.ref l) H'
def spAsL : Sp := fun vs H Q _ => ∃ M v d, vs = [v] ∧ MOk M H ∧ Any (msk M H) v d ∧ seqsB d = true ∧ (itemsD d).length ≤ 1000 ∧ (∀ e, e ∈ itemsD d → (itemsD e).length ≤ 1000) ∧ ∀ u H', Same H H' → Any (msk M H') u (asL d) →
  (∀ ds, d = .list ds → ∃ l acc, u = .ref l ∧ H l = none ∧ H' l = some (.lst acc) ∧ acc.length ≤ 1000 ∧ ∀ v, v ∈ acc → ∃ b xs, v = .ref b ∧ H b = none ∧ b ≠ l ∧ H' b = some (.lst xs) ∧ xs.length ≤ 1000) → Q u H'
def spLonger : Sp := fun vs H Q _ => ∃ M p v d n, vs = [.ref p, v] ∧ p ∈ M ∧ MOk M H ∧ Bx H p n ∧ n ≤ 500000 ∧ Any (msk M H) v d.D ∧ GoodD d ∧
  ∀ l H' r k m, k ≤ 3 → MatOk d.q (highS r d.ss k) (wideS r d.ss k) m → Grow p H H' → MOk M H' → Bx H' p (n + 100) → Any (msk M H') (.ref l) (.list [.str (arrS r), natD k, sheetD m, (growDr d r k m).D]) → Q (.ref l) H'
def spDeed : Sp := fun vs H Q _ => ∃ M p v s n N, vs = [.ref p, v] ∧ p ∈ M ∧ MOk M H ∧ Bx H p n ∧ n ≤ 400000 ∧ Any (msk M H) v s.D ∧ GoodS N s ∧ N ≤ 100 ∧
  ∀ l H' d r, Due s d r → Tq 4 r.told → Grow p H H' → MOk M H' → Bx H' p (n + 1000) → Any (msk M H') (.ref l) (.list [d, r.due]) → Q (.ref l) H'
def spWrong : Sp := fun vs H Q _ => ∃ M p v s n N, vs = [.ref p, v] ∧ p ∈ M ∧ MOk M H ∧ Bx H p n ∧ n ≤ 450000 ∧ Any (msk M H) v s.here.D ∧ GoodS N s ∧ N ≤ 100 ∧
  ∀ l H' d r, Due s d r → Tq 4 r.told → Grow p H H' → MOk M H' → Bx H' p (n + 900) → Any (msk M H') (.ref l) (.list [d, r.due]) → Q (.ref l) H'
def spDone (D C : Addr) : Sp := fun vs H Q _ => ∃ a v s d r N, vs = [.ref a, v] ∧ StrAt D C H a s ∧ GoodS N s ∧ N ≤ 100 ∧ Any H v d ∧ Due s d r ∧
  ∀ u H', Grow a H H' → StrAt D C H' a (r.st s) → Any H' (.ref u) r.told → Q (.ref u) H'
def spStands (D C : Addr) : Sp := fun vs H Q _ => ∃ a v s N, vs = [.ref a, v] ∧ StrAt D C H a s ∧ GoodS N s ∧ N ≤ 100 ∧ Any H v s.D ∧ ∀ H', Same H H' → Q (.bl true) H'
end Rw

set_option Elab.async false
set_option linter.all false
set_option maxRecDepth 100000
set_option maxHeartbeats 800000
/-! K57H: rows shown and cut, matrices as lists, a place more. -/
namespace K57
open PySem PySem.Spec PyProof.Rows L2 Rw
abbrev sShown : Stmt := top 49
abbrev sCutL : Stmt := top 50
abbrev sLonger : Stmt := top 51
abbrev sAsL : Stmt := top 54
theorem scShown : FnScope ["_law_row"] ["_law_row"] (defScope sShown) := ⟨rfl, rfl, rfl, by decide +kernel, rfl, by decide +kernel, by decide +kernel⟩
theorem scCutL : FnScope ["_law_draft", "_law_count"] ["_law_draft", "_law_count"] (defScope sCutL) := ⟨rfl, rfl, rfl, by decide +kernel, rfl, by decide +kernel, by decide +kernel⟩
abbrev NLonger : List Str := ["_law_box_here", "_law_draft", "_law_sign", "_law_amount", "_law_last", "_law_high", "_law_wide", "_law_piece"]
theorem scLonger : FnScope NLonger ["_law_box_here", "_law_draft"] (defScope sLonger) := ⟨rfl, rfl, rfl, by decide +kernel, rfl, by decide +kernel, by decide +kernel⟩
abbrev NAsL : List Str := ["_law_thing", "_law_row"]
theorem scAsL : FnScope NAsL ["_law_thing"] (defScope sAsL) := ⟨rfl, rfl, rfl, by decide +kernel, rfl, by decide +kernel, by decide +kernel⟩
section
variable {P : Program} {w : World} {K : PySem.W.Frag} {mg : Str → Option Value} {base : Heap} {aI aT C D CP CT CZ CA CM CL CW CG CS CB CU CV : Addr} {kI : List (Int × Value)} {kT : List (Str × Value)}
theorem okShown {f : Addr} {fd : FuncData} (F : Fun K "_law_shown" "_law_shown" sShown f fd) (zl : mg "list" = none) (PP : PropAt P w K mg base C "pattern" (spGetP C)) (PQ : PropAt P w K mg base C "prime" (spGetQ C)) (PS : PropAt P w K mg base C "sizes" (spGetS C))
    (MM : Meth0At P w K mg base C "maps" 1 (spMapsN C)) : FnOk P w K mg base CX0 3 f fd ["_law_row"] (spShownD C) := by
  refine F.ok scShown (fun vs H Q E h => ?_) (fun cdv A outer s H vs Q E hr h => ?_)
  · obtain ⟨a, d, rfl, _⟩ := h
    rfl
  · obtain ⟨a, ⟨x, q, ss, ms⟩, rfl, ra, g, k0⟩ := h
    have ra0 := ra
    have lm : ms.length ≤ 1000 ∧ ∀ m, m ∈ ms → m.length ≤ 1000 := ⟨by have := g.d.ml; have := g.p.l; simp only at *; omega, fun m hm => Nat.le_trans (good_high g m hm) (by decide)⟩
    obtain ⟨dx, sa, ma, ea, _, _⟩ := ra
    refine ⟨_, (pss_one (ps_ret (pe_lst (pa_cons (pe_prp PP hr (pv 0)) (pa_cons (pe_prp PQ hr (pv 0)) (pa_cons (pe_callTy call_lstA (by rfl) zl (by decide +kernel) (pa_cons (pe_prp PS hr (pv 0)) pa_nil)) (pa_cons (pe_mth0 MM (hr.mono (by decide)) (pv 0)) pa_nil))))))), ?_⟩
    refine ⟨_, rfl, a, dx, _, rfl, ea, a, x, q, _, _, rfl, ra0, ?_⟩
    refine ⟨_, rfl, a, dx, _, rfl, ea, a, x, q, _, _, rfl, ra0, ?_⟩
    refine ⟨_, rfl, a, dx, _, rfl, ea, a, x, q, _, _, rfl, ra0, fun ts ats => ⟨_, _, rfl, ats, rfl, fun l1 ys h1 al1 => ?_⟩⟩
    have k1 := same_new (o := .lst ys) h1
    refine ⟨_, rfl, a, dx, _, rfl, k1 _ _ ea, rfl, a, x, q, ss, ms, rfl, ra0.keep k1, lm.1, lm.2, fun l2 acc H2 h2 k2 e2 al2 _ => ⟨by show 4 ≤ sizeLine; decide, fun l hl => ?_⟩⟩
    have k3 := same_new (o := .lst [.str x, .int q, .ref l1, .ref l2]) hl
    have kk := (k1.trans k2).trans k3
    refine k0 l _ kk ?_
    have e1 : (upd H l1 (.lst ys)) l1 = some (.lst ys) := upd_same
    exact .lst upd_same (.cons (.str x) (.cons (.int q) (.cons (.lst (k3 _ _ (k2 _ _ e1)) (anyL_keep kk al1)) (.cons (.lst (k3 _ _ e2) (anyL_keep (same_del.trans k3) al2)) .nil))))
theorem okCutL {f : Addr} {fd : FuncData} (F : Fun K "_law_cut" "_law_cut" sCutL f fd) : FnOk P w K mg base CX0 1 f fd ["_law_draft", "_law_count"] spCutL := by
  refine F.ok scCutL (fun vs H Q E h => ?_) (fun cdv A outer s H vs Q E hr h => ?_)
  · obtain ⟨M, v, d, c, rfl, _⟩ := h
    rfl
  · obtain ⟨M, v, d, c, rfl, mo, an, g, hc, k0⟩ := h
    refine ⟨_, (pss_one (ps_ret (pe_lst (pa_cons (pe_slice sl_str (pe_ix ix_list (pv 0) pe_int (fun _ _ => rfl)) (po_some (pv 1)) po_none) (pa_cons (pe_ix ix_list (pv 0) pe_int (fun _ _ => rfl)) (pa_cons (pe_slice sl_list (pe_ix ix_list (pv 0) pe_int (fun _ _ => rfl)) (po_some (pv 1)) po_none) (pa_cons (pe_slice sl_list (pe_ix ix_list (pv 0) pe_int (fun _ _ => rfl)) (po_some (pv 1)) po_none) pa_nil))))))), ?_⟩
    obtain ⟨W, v0, v1, v2, v3, rfl, eW, a0, a1, a2, a3⟩ := any_list4 an
    cases a0
    cases a1
    cases a2 with
    | lst eA alA =>
    rename_i A xA
    cases a3 with
    | lst eS alS =>
    rename_i S xS
    have lA := anyL_len alA
    have lS := anyL_len alS
    rw [List.length_map, g.d.sl] at lA
    rw [List.length_map, g.d.ml] at lS
    have lx := g.p.l
    have eW0 := msk_sub _ _ eW
    refine ⟨_, rfl, W, _, 0, _, rfl, rfl, SqL.of eW0, atI_nat (j := 0) rfl, _, rfl, _, rfl, d.x, rfl, Nat.le_trans lx (by decide), ?_⟩
    refine ⟨_, rfl, W, _, 1, _, rfl, rfl, SqL.of eW0, atI_nat (j := 1) rfl, ?_⟩
    refine ⟨_, rfl, W, _, 2, _, rfl, rfl, SqL.of eW0, atI_nat (j := 2) rfl, _, rfl, _, rfl, A, xA, rfl, SqL.of (msk_sub _ _ eA), fun l1 h1 => ?_⟩
    rw [cutV_drop (by omega)]
    obtain ⟨k1, e1⟩ := msk_new (o := .lst (xA.drop c)) mo h1
    have s1 := same_new (o := .lst (xA.drop c)) h1
    have mo1 := mo.keep s1
    have a1 : Any (msk M (upd H l1 (.lst (xA.drop c)))) (.ref l1) (.list ((d.ss.drop c).map natD)) := .lst e1 (by rw [List.map_drop]; exact anyL_keep k1 (anyL_drop _ alA))
    generalize upd H l1 (.lst (xA.drop c)) = H1 at k1 a1 s1 mo1 ⊢
    refine ⟨_, rfl, W, _, 3, _, rfl, rfl, SqL.of (s1 _ _ eW0), atI_nat (j := 3) rfl, _, rfl, _, rfl, S, xS, rfl, SqL.of (s1 _ _ (msk_sub _ _ eS)), fun l2 h2 => ?_⟩
    rw [cutV_drop (by omega)]
    obtain ⟨k2, e2⟩ := msk_new (o := .lst (xS.drop c)) mo1 h2
    have s2 := same_new (o := .lst (xS.drop c)) h2
    have mo2 := mo1.keep s2
    have a2 : Any (msk M (upd H1 l2 (.lst (xS.drop c)))) (.ref l2) (.list ((d.ms.drop c).map sheetD)) := .lst e2 (by rw [List.map_drop]; exact anyL_keep (k1.trans k2) (anyL_drop _ alS))
    have a1 := a1.keep k2
    generalize upd H1 l2 (.lst (xS.drop c)) = H2 at k2 a1 a2 s2 mo2 ⊢
    refine ⟨by show 4 ≤ sizeLine; decide, fun l hl => ?_⟩
    obtain ⟨k3, e3⟩ := msk_new (o := .lst [.str (cutS d.x (some (c : Nat)) none), .int d.q, .ref l1, .ref l2]) mo2 hl
    refine k0 l _ ((s1.trans s2).trans (same_new hl)) (.lst e3 (.cons ?_ (.cons (.int _) (.cons (a1.keep k3) (.cons (a2.keep k3) .nil)))))
    rw [cutS_end]
    exact .str _
theorem okAsL {f : Addr} {fd : FuncData} (F : Fun K "_law_as_lists" "_law_as_lists" sAsL f fd) (zi : mg "isinstance" = none) (zl : mg "list" = none) : FnOk P w K mg base CX0 1 f fd ["_law_thing"] spAsL := by
  refine F.ok scAsL (fun vs H Q E h => ?_) (fun cdv A outer s H vs Q E hr h => ?_)
  · obtain ⟨M, v, d, rfl, _⟩ := h
    rfl
  · obtain ⟨M, v, d, rfl, mo, an, sq, ln, li, k0⟩ := h
    refine ⟨_, (pss_one (ps_ret (pe_ifExp (pt_val (pe_callB call_isi (by rfl) zi (by decide +kernel) (pa_cons (pv 0) (pa_cons (pe_bltn (v := .ty "list") rfl zl (by decide +kernel) rfl) pa_nil)))) (pe_lc (own := [("_law_row", 1)]) (g := gName 1) (tt := tYes) (te := tCB (rLstOf K) (tCons (tVar 1) tNil)) rfl scAsL.nd (pi_list (pv 0)) (blkOk_by (N := NAsL) (sc := defScope sAsL) (by decide +kernel)) (fun _ _ _ _ _ => (pg_name (i := 1) scAsL.nd rfl (Or.inl rfl))) (fun _ _ _ _ _ => pts_nil) (fun _ _ _ _ _ => (pe_callTy call_list_of (by rfl) zl (by decide +kernel) (pa_cons (pv 1) pa_nil)))) (pv 0)))), ?_⟩
    have ty := any_ty (K := K) (an.keep msk_sub)
    cases d with
    | none =>
      refine ⟨v, rfl, v, .ty "list", _, _, false, rfl, .ty _, ty, kit_ty (show kitB "NoneType" "list" = some false by decide +kernel), _, rfl, iteF ⟨_, rfl, ?_⟩⟩
      exact k0 v H (fun _ _ z => z) an (fun ds z => by cases z)
    | str x =>
      refine ⟨v, rfl, v, .ty "list", _, _, false, rfl, .ty _, ty, kit_ty (show kitB "str" "list" = some false by decide +kernel), _, rfl, iteF ⟨_, rfl, ?_⟩⟩
      exact k0 v H (fun _ _ z => z) an (fun ds z => by cases z)
    | list ds =>
      refine ⟨v, rfl, v, .ty "list", _, _, true, rfl, .ty _, ty, kit_ty (show kitB "list" "list" = some true by decide +kernel), _, rfl, iteT ?_⟩
      cases an with
      | lst ea al =>
      rename_i a xs
      have lx := anyL_len al
      have ln' : ds.length ≤ 1000 := ln
      have sq' := List.all_eq_true.mp (show ds.all isSeqD = true from sq)
      refine ⟨_, rfl, a, rfl, ⟨_, SqL.of (msk_sub _ _ ea)⟩, fun D hD => ?_⟩
      have nD := mo.new hD
      refine lc_it walk_list (Pv := fun i H' => Same H H' ∧ ∃ acc, H' D = some (.lst acc) ∧ AnyL (del (msk M H') D) acc ((ds.take i).map fun d => .list (itemsD d)) ∧ ∀ v, v ∈ acc → ∃ b xs, v = .ref b ∧ H b = none ∧ b ≠ D ∧ H' b = some (.lst xs) ∧ xs.length ≤ 1000) ⟨same_new hD, [], upd_same, .nil, fun v hv => by cases hv⟩ (fun i H' _ z => SqL.of (z.1 _ _ (msk_sub _ _ ea))) ?_ ?_
      · rintro i y H1 H2 hi ⟨s1, acc, ha, an, nw1⟩ ⟨rfl, hy⟩
        refine ⟨rfl, ?_⟩
        unfold tYes
        refine Eq.mpr (if_pos (rfl : true = true)) ?_
        obtain ⟨d, hd2, any⟩ := anyL_at al hy
        have hi2 : i < ds.length := (List.getElem?_eq_some_iff.mp hd2).1
        have hm := List.mem_of_getElem? hd2
        obtain ⟨q, ys, rfl, hq, al2⟩ := list_src (K := K) any (msk_sub.trans s1) (sq' _ hm)
        refine ⟨_, rfl, q, ys, rfl, hq, fun l hl => ?_⟩
        have ne : l ≠ D := fun z => by rw [z, ha] at hl; cases hl
        have hl0 := s1.free hl
        have la : acc.length ≤ 1000 := by
          rw [anyL_len an, List.length_map, List.length_take]
          omega
        have l2 := anyL_len al2
        have nl := (mo.keep s1).new hl
        refine ⟨acc, by rw [upd_ne (ne_of_none ha hl)]; exact ha, Nat.lt_of_le_of_lt la (by decide), fun b o e => ?_, acc ++ [.ref l], upd_same, ?_, fun v hv => ?_⟩
        · rw [upd_ne (ne_of_none e hD), upd_ne (ne_of_none (s1 _ _ e) hl)]
          exact s1 _ _ e
        · have eqd : ∀ o, del (msk M (upd (upd H2 l (.lst ys)) D o)) D = del (msk M (upd H2 l (.lst ys))) D := fun o => by
            funext z
            by_cases y1 : z = D
            · rw [y1, del_same, del_same]
            · rw [del_ne y1, del_ne y1]
              unfold msk
              split
              · rfl
              · exact upd_ne y1
          rw [eqd, List.take_add_one, hd2, List.map_append]
          have kk : Same (del (msk M H2) D) (del (msk M (upd H2 l (.lst ys))) D) := Grow.del (Grow.of (msk_same (same_new hl)))
          refine anyL_snoc (anyL_keep kk an) (.lst (by rw [del_ne ne, msk_out nl]; exact upd_same) ?_)
          refine anyL_keep (fun b o e => ?_) al2
          obtain ⟨z1, z2⟩ := msk_at e
          rw [del_ne (ne_of_none z2 hD), msk_out z1, upd_ne (ne_of_none (s1 _ _ z2) hl)]
          exact s1 _ _ z2
        · rcases List.mem_append.mp hv with z | z
          · obtain ⟨b, xs, h1, h2, h3, h4, h5⟩ := nw1 v z
            refine ⟨b, xs, h1, h2, h3, ?_, h5⟩
            rw [upd_ne h3, upd_ne (ne_of_none h4 hl)]
            exact h4
          · rw [List.mem_singleton.mp z]
            refine ⟨l, _, rfl, hl0, ne, by rw [upd_ne ne]; exact upd_same, ?_⟩
            rw [l2]
            exact li _ hm
      · rintro H1 ⟨s1, acc, ha, an, nw1⟩
        rw [List.take_of_length_le (by omega)] at an
        have lacc : acc.length ≤ 1000 := by
          rw [anyL_len an, List.length_map]
          exact ln'
        exact k0 (.ref D) H1 s1 (.lst (by rw [msk_out nD]; exact ha) (anyL_keep same_del an)) fun ds' e => ⟨D, acc, rfl, hD, ha, lacc, nw1⟩
    | _ => cases sq
end
end K57

set_option Elab.async false
set_option linter.all false
set_option maxRecDepth 100000
set_option maxHeartbeats 800000
/-! K57I: one place more. -/
namespace K57
open PySem PySem.Spec PyProof.Rows L2 Rw
section
variable {P : Program} {w : World} {K : PySem.W.Frag} {mg : Str → Option Value} {base : Heap}
theorem okLonger {f : Addr} {fd : FuncData} (F : Fun K "_law_longer" "_law_longer" sLonger f fd) (GT : Own P w K mg base CX0 1 "_law_take" ["_law_box_here", "_law_many"] [] spTakeR) (GM : Own P w K mg base CX0 2 "_law_matrix" ["_law_box_here", "_law_p", "_law_high", "_law_wide"] [] spMatR) :
    FnOk P w K mg base CX0 3 f fd ["_law_box_here", "_law_draft"] spLonger := by
  refine F.ok scLonger (fun vs H Q E h => ?_) (fun cdv A outer s H vs Q E hr h => ?_)
  · obtain ⟨M, p, v, d, n, rfl, _⟩ := h
    rfl
  · obtain ⟨M, p, v, ⟨x, q, ss, ms⟩, n, rfl, hp, mo, bx, hn, an, g, k0⟩ := h
    refine ⟨_, (pss_cons (ps_par (i := 2) (j := 3) (by rfl) scLonger.nd rfl rfl (by decide) rfl rfl (pa_cons (pe_ix ix_str pe_str (pe_own GT (hr.mono (by decide)) pass0 (pa_cons (pv 0) (pa_cons pe_int pa_nil))) (fun _ _ => rfl)) (pa_cons (pe_own GT (hr.mono (by decide)) pass0 (pa_cons (pv 0) (pa_cons pe_int pa_nil))) pa_nil)) (by rfl))
      (pss_cons (ps_set (i := 4) scLonger.nd rfl (Or.inl rfl) (pe_ix ix_list (pe_ix ix_list (pv 1) pe_int (fun _ _ => rfl)) (pe_un un_neg pe_int) (fun _ _ => rfl)))
      (Evl.pss_cut (ps_asg (pe_ifExp (pt_cmpR op_eq (pv 2) pe_str (nomark _)) (pe_tup (pa_cons (pv 4) (pa_cons (pv 3) pa_nil))) (pe_tup (pa_cons (pv 3) (pa_cons (pv 4) pa_nil)))) (pg_tup rfl (pgs_cons (pg_name (i := 5) scLonger.nd rfl (Or.inl rfl)) (pgs_cons (pg_name (i := 6) scLonger.nd rfl (Or.inl rfl)) pgs_nil))))
      (pss_cons (ps_set (i := 7) scLonger.nd rfl (Or.inl rfl) (pe_own GM hr pass0 (pa_cons (pv 0) (pa_cons (pe_ix ix_list (pv 1) pe_int (fun _ _ => rfl)) (pa_cons (pv 5) (pa_cons (pv 6) pa_nil))))))
      (pss_one (ps_ret (pe_lst (pa_cons (pv 2) (pa_cons (pv 3) (pa_cons (pv 7) (pa_cons (pe_lst (pa_cons (pe_op op_add_str (pe_ix ix_list (pv 1) pe_int (fun _ _ => rfl)) (pv 2)) (pa_cons (pe_ix ix_list (pv 1) pe_int (fun _ _ => rfl)) (pa_cons (pe_op op_cat (pe_ix ix_list (pv 1) pe_int (fun _ _ => rfl)) (pe_lst (pa_cons (pv 3) pa_nil))) (pa_cons (pe_op op_cat (pe_ix ix_list (pv 1) pe_int (fun _ _ => rfl)) (pe_lst (pa_cons (pv 7) pa_nil))) pa_nil))))) pa_nil))))))))))), ?_⟩
    obtain ⟨W, v0, v1, v2, v3, rfl, eW, a0, a1, a2, a3⟩ := any_list4 an
    cases a0
    cases a1
    cases a2 with
    | lst eA alA =>
    rename_i A xA
    cases a3 with
    | lst eS alS =>
    rename_i S3 xS
    have lA := anyL_len alA
    have lS := anyL_len alS
    have sl : ss.length = x.length + 1 := g.d.sl
    have ml : ms.length = x.length := g.d.ml
    rw [List.length_map, sl] at lA
    rw [List.length_map, ml] at lS
    have lx : x.length ≤ 6 := g.p.l
    have hq : q ∈ primesL := g.q
    -- the sign and the amount
    refine ⟨_, rfl, p, 2, _, rfl, by decide, by decide, bx, by omega, fun r1 H3 r10 r11 G3 B3 => ?_⟩
    obtain ⟨rr, c, ec, es⟩ : ∃ (rr : Bool) (c : Nat), atI (("><" : String) : Str).cps.toList r1 = some c ∧ (⟨#[c]⟩ : Str) = arrS rr := by
      rcases (by omega : r1 = 0 ∨ r1 = 1) with e | e <;> subst e
      · exact ⟨true, 62, rfl, rfl⟩
      · exact ⟨false, 60, rfl, rfl⟩
    refine ⟨_, _, c, rfl, rfl, (by decide), ec, ?_⟩
    rw [es]
    refine ⟨_, rfl, p, 4, _, rfl, by decide, by decide, B3, by omega, fun n' H4 n0 n1 G4 B4 => ?_⟩
    obtain ⟨k, rfl⟩ : ∃ j : Nat, n' = (j : Int) := ⟨n'.toNat, by omega⟩
    have k3 : k ≤ 3 := by omega
    refine ⟨_, _, rfl, ?_⟩
    have G24 := G3.trans G4
    have K4 := msk_grow hp G24
    have mo4 := mo.box G24 B4
    have eW4 := K4 _ _ eW
    have eA4 := K4 _ _ eA
    have hlast : xA[xA.length - 1]? = some (.int ((lastS ss : Nat) : Int)) := by
      have h1 : xA[xA.length - 1]? = some xA[xA.length - 1] := List.getElem?_eq_getElem (by omega)
      obtain ⟨d, hd, ad⟩ := anyL_at alA h1
      rw [List.getElem?_map, lA] at hd
      have hl : ss[x.length + 1 - 1]? = some (lastS ss) := by
        unfold lastS
        rw [sl, List.getElem?_eq_getElem (by omega)] <;> rfl
      rw [hl] at hd
      cases Option.some.inj hd
      rw [h1]
      generalize xA[xA.length - 1] = w0 at ad
      cases ad
      rfl
    refine ⟨_, rfl, W, _, 2, _, rfl, rfl, SqL.of (msk_sub _ _ eW4), atI_nat (j := 2) rfl, _, rfl, A, xA, -1, _, rfl, rfl, SqL.of (msk_sub _ _ eA4), atI_neg1 hlast, ?_⟩
    refine ⟨fun σ' H' => σ' = [some (.ref p), some (.ref W), some (.str (arrS rr)), some (.int (k : Nat)), some (.int ((lastS ss : Nat) : Int)), some (.int ((highS rr ss k : Nat) : Int)), some (.int ((wideS rr ss k : Nat) : Int)), none] ∧ Same H4 H', ?_, ?_⟩
    · cases rr with
      | true =>
        refine ⟨_, rfl, rfl, _, rfl, iteT ?_⟩
        refine ⟨_, rfl, _, rfl, by show 2 ≤ sizeLine; decide, fun t ht => ?_⟩
        exact ⟨t, _, rfl, SqT.of upd_same, rfl, _, _, rfl, _, _, rfl, rfl, rfl, same_new ht⟩
      | false =>
        refine ⟨_, rfl, rfl, _, rfl, iteF ?_⟩
        refine ⟨_, rfl, _, rfl, by show 2 ≤ sizeLine; decide, fun t ht => ?_⟩
        exact ⟨t, _, rfl, SqT.of upd_same, rfl, _, _, rfl, _, _, rfl, rfl, rfl, same_new ht⟩
    rintro σ' H5 ⟨rfl, k5⟩
    have K5 := K4.trans (msk_same k5)
    have mo5 := mo4.keep k5
    have eW5 := K5 _ _ eW
    have last6 : lastS ss ≤ 6 := last_le g.d.sb
    have hh6 : highS rr ss k ≤ 6 := by unfold highS; split <;> omega
    have ww6 : wideS rr ss k ≤ 6 := by unfold wideS; split <;> omega
    refine ⟨_, rfl, _, rfl, W, _, 1, _, rfl, rfl, SqL.of (msk_sub _ _ eW5), atI_nat (j := 1) rfl, _, rfl, _, rfl, p, _, highS rr ss k, wideS rr ss k, q, rfl, hq, hh6, ww6, B4.keep k5, by omega, fun Mx acc m H6 hM G6 B6 eM alM bm => ?_⟩
    have K6 := K5.trans (msk_grow hp G6)
    have mo6 := mo5.box G6 B6
    have aM : Any (msk M H6) (.ref Mx) (sheetD m) := .lst (by rw [msk_out (mo5.new hM)]; exact eM) (anyL_msk mo6 _ _ alM (noL_rowsT m))
    have G06 : Grow p H H6 := (G24.trans (Grow.of k5)).trans G6
    have eW6 := msk_sub _ _ (K6 _ _ eW)
    refine ⟨_, rfl, _, rfl, _, rfl, ?_⟩
    refine ⟨_, rfl, W, _, 0, _, rfl, rfl, SqL.of eW6, atI_nat (j := 0) rfl, _, rfl, x, arrS rr, rfl, rfl, by rw [arrS_len]; exact Nat.le_trans (by omega : _ ≤ 7) (by decide), ?_⟩
    refine ⟨_, rfl, W, _, 1, _, rfl, rfl, SqL.of eW6, atI_nat (j := 1) rfl, ?_⟩
    refine ⟨_, rfl, W, _, 2, _, rfl, rfl, SqL.of eW6, atI_nat (j := 2) rfl, _, rfl, by show 1 ≤ sizeLine; decide, fun l1 hl1 => ?_⟩
    have k1 := same_new (o := .lst [.int (k : Nat)]) hl1
    refine ⟨A, l1, xA, [.int (k : Nat)], rfl, rfl, k1 _ _ (msk_sub _ _ (K6 _ _ eA)), upd_same, Nat.le_trans (by show xA.length + 1 ≤ 8; omega) (by decide), fun l2 hl2 => ?_⟩
    have k2 := same_new (o := .lst (xA ++ [.int (k : Nat)])) hl2
    have k12 := k1.trans k2
    have mo8 := mo6.keep k12
    have aSz : Any (msk M (upd (upd H6 l1 (.lst [.int (k : Nat)])) l2 (.lst (xA ++ [.int (k : Nat)])))) (.ref l2) (.list ((ss ++ [k]).map natD)) := .lst (by rw [msk_out ((mo6.keep k1).new hl2)]; exact upd_same) (by
      rw [List.map_append]
      exact anyL_snoc (anyL_keep (K6.trans (msk_same k12)) alA) (.int _))
    generalize upd (upd H6 l1 (.lst [.int (k : Nat)])) l2 (.lst (xA ++ [.int (k : Nat)])) = H8 at k12 aSz mo8 ⊢
    refine ⟨_, rfl, W, _, 3, _, rfl, rfl, SqL.of (k12 _ _ eW6), atI_nat (j := 3) rfl, _, rfl, by show 1 ≤ sizeLine; decide, fun l3 hl3 => ?_⟩
    have k3' := same_new (o := .lst [.ref Mx]) hl3
    refine ⟨S3, l3, xS, [.ref Mx], rfl, rfl, k3' _ _ (k12 _ _ (msk_sub _ _ (K6 _ _ eS))), upd_same, Nat.le_trans (by show xS.length + 1 ≤ 8; omega) (by decide), fun l4 hl4 => ?_⟩
    have k4 := same_new (o := .lst (xS ++ [.ref Mx])) hl4
    have k34 := k3'.trans k4
    have k14 := k12.trans k34
    have mo9 := mo8.keep k34
    have aMp : Any (msk M (upd (upd H8 l3 (.lst [.ref Mx])) l4 (.lst (xS ++ [.ref Mx])))) (.ref l4) (.list ((ms ++ [m]).map sheetD)) := .lst (by rw [msk_out ((mo8.keep k3').new hl4)]; exact upd_same) (by
      rw [List.map_append]
      exact anyL_snoc (anyL_keep (K6.trans (msk_same k14)) alS) (aM.keep (msk_same k14)))
    have aSz := aSz.keep (msk_same (M := M) k34)
    generalize upd (upd H8 l3 (.lst [.ref Mx])) l4 (.lst (xS ++ [.ref Mx])) = H9 at k14 aSz aMp mo9 ⊢
    refine ⟨by show 4 ≤ sizeLine; decide, fun l5 hl5 => ?_⟩
    obtain ⟨j5, e5⟩ := msk_new (o := .lst [.str (x ++ arrS rr), .int q, .ref l2, .ref l4]) mo9 hl5
    have k5' := same_new (o := .lst [.str (x ++ arrS rr), .int q, .ref l2, .ref l4]) hl5
    have mo10 := mo9.keep k5'
    have aF : Any (msk M (upd H9 l5 (.lst [.str (x ++ arrS rr), .int q, .ref l2, .ref l4]))) (.ref l5) (growDr ⟨x, q, ss, ms⟩ rr k m).D := .lst e5 (.cons (.str _) (.cons (.int _) (.cons (aSz.keep j5) (.cons (aMp.keep j5) .nil))))
    have K15 := k14.trans k5'
    generalize upd H9 l5 (.lst [.str (x ++ arrS rr), .int q, .ref l2, .ref l4]) = H10 at K15 aF mo10 ⊢
    refine ⟨by show 4 ≤ sizeLine; decide, fun l6 hl6 => ?_⟩
    obtain ⟨j6, e6⟩ := msk_new (o := .lst [.str (arrS rr), .int (k : Nat), .ref Mx, .ref l5]) mo10 hl6
    have k6 := same_new (o := .lst [.str (arrS rr), .int (k : Nat), .ref Mx, .ref l5]) hl6
    have K16 := K15.trans k6
    exact k0 l6 _ rr k m k3 bm (G06.trans (Grow.of K16)) (mo10.keep k6) ((B6.keep K16).more (by omega)) (.lst e6 (.cons (.str _) (.cons (.int _) (.cons (aM.keep ((msk_same K15).trans j6)) (.cons (aF.keep j6) .nil)))))
end
end K57

set_option Elab.async false
set_option linter.all false
set_option maxRecDepth 100000
set_option maxHeartbeats 800000
/-! TkGD: what is handed to streams. -/
namespace Rw
open PySem PySem.Spec PyProof.Rows L2
theorem lay {M : List Addr} {H : Hp} {l : Addr} {vs : List V} {ds : List PyData} (m : MOk M H) (hl : H l = none) (al : AnyL (msk M H) vs ds) : Any (msk M (upd H l (.lst vs))) (.ref l) (.list ds) ∧ Same H (upd H l (.lst vs)) ∧ MOk M (upd H l (.lst vs)) := by
  obtain ⟨k, e⟩ := msk_new (o := .lst vs) m hl
  exact ⟨.lst e (anyL_keep k al), same_new hl, m.keep (same_new hl)⟩
theorem layT {M : List Addr} {H : Hp} {l : Addr} {vs : List V} {ds : List PyData} (m : MOk M H) (hl : H l = none) (al : AnyL (msk M H) vs ds) : Any (msk M (upd H l (.tup vs))) (.ref l) (.tuple ds) ∧ Same H (upd H l (.tup vs)) ∧ MOk M (upd H l (.tup vs)) := by
  obtain ⟨k, e⟩ := msk_new (o := .tup vs) m hl
  exact ⟨.tup e (anyL_keep k al), same_new hl, m.keep (same_new hl)⟩
theorem asL_sheet (m : List (List Int)) : asL (sheetD m) = sheetL m := by
  show PyData.list ((m.map tupI).map fun d => .list (itemsD d)) = .list (m.map lstI)
  rw [List.map_map] <;> rfl
theorem asL_far (m : List (List Int)) : asL (sheetL m) = sheetL m := by
  show PyData.list ((m.map lstI).map fun d => .list (itemsD d)) = .list (m.map lstI)
  rw [List.map_map] <;> rfl
theorem like_lsts : ∀ m : List (List Int), Like (m.map lstI) m
  | [] => .nil
  | r :: m => .cons (.inr rfl) (like_lsts m)
theorem big_of {q : Int} {h w : Nat} {m : List (List Int)} (hq : q ∈ primesL) (b : MatOk q h w m) : BigM h w m := ⟨b.h, fun r hr => ⟨(b.w r hr).1, fun e he => by
  have h1 := (b.w r hr).2 e he
  have h2 := prime_pos hq
  show e.natAbs < 10 ^ 29
  have : e.natAbs < 13 := by omega
  exact Nat.lt_trans this (by decide)⟩⟩
theorem hand_of {h w : Nat} {m : List (List Int)} (b : BigM h w m) (h6 : h ≤ 6) (w6 : w ≤ 6) {D : PyData} {ds : List PyData} (e : D = .list ds) (l : Like ds m) (ea : asL D = sheetL m) : Hand D := by
  obtain ⟨s, _⟩ := like_sheet (like_lsts m) b h6 w6
  subst e
  refine ⟨List.all_eq_true.mpr fun d hd => ?_, by show ds.length ≤ 1000; rw [l.len, b.h]; omega, fun d hd => ?_, by rw [ea]; exact s.f, by rw [ea]; exact s.tm.q.up (by decide)⟩
  · obtain ⟨r, _, z⟩ := l.mem d hd
    exact (like_items z).1
  · obtain ⟨r, hr, z⟩ := l.mem d hd
    rw [(like_items z).2, List.length_map, (b.w r hr).1]
    omega
theorem hand_sheet {h w : Nat} {m : List (List Int)} (b : BigM h w m) (h6 : h ≤ 6) (w6 : w ≤ 6) : Hand (sheetD m) := hand_of b h6 w6 rfl (like_tups m) (asL_sheet m)
theorem hand_far {h w : Nat} {m : List (List Int)} (b : BigM h w m) (h6 : h ≤ 6) (w6 : w ≤ 6) : Hand (sheetL m) := hand_of b h6 w6 rfl (like_lsts m) (asL_far m)
def oddCut (k : Nat) : List PyData := [.bool true, .none, .str "1", .int 0, natD k, .tuple [.int 1]]
theorem oddCut_ok {n : Nat} (h : n ≤ 6) : ∀ d ∈ oddCut (n + 1), inB d (.int 1) (.int (n : Nat)) = false ∧ Tq 1 d := by
  have c : ∀ n ∈ List.range 7, ∀ d ∈ oddCut (n + 1), inB d (.int 1) (.int (n : Nat)) = false ∧ tqB 1 d = true := by decide +kernel
  intro d hd
  obtain ⟨h1, h2⟩ := c n (List.mem_range.mpr (by omega)) d hd
  exact ⟨h1, tq_ofB h2⟩
def oddArr : List PyData := [.str "<<", .str "", .none, .int 1, .str "=", .list [.str ">"]]
theorem oddArr_ok : ∀ d ∈ oddArr, isArD d = false ∧ Tq 1 d := by
  have c : ∀ d ∈ oddArr, isArD d = false ∧ tqB 1 d = true := by decide +kernel
  intro d hd
  obtain ⟨h1, h2⟩ := c d hd
  exact ⟨h1, tq_ofB h2⟩
def oddSz : List PyData := [.int 7, .int (-1), .bool true, .none, .str "1", .tuple [.int 2]]
theorem oddSz_ok : ∀ d ∈ oddSz, isSzD d = false ∧ Tq 1 d := by
  have c : ∀ d ∈ oddSz, isSzD d = false ∧ tqB 1 d = true := by decide +kernel
  intro d hd
  obtain ⟨h1, h2⟩ := c d hd
  exact ⟨h1, tq_ofB h2⟩
def z7 : List Int := [0, 0, 0, 0, 0, 0, 0]
def oddMat (m : List (List Int)) : List PyData := [.list (m.map tupI ++ [tupI z7]), .none, .list [.list [.none]], .str "x"]
theorem hand_no {d : PyData} (h : seqsB d = true ∧ decide ((itemsD d).length ≤ 1000) = true ∧ ((itemsD d).all fun e => decide ((itemsD e).length ≤ 1000)) = true ∧ fitB (asL d) = true ∧ tqB 3 (asL d) = true) : Hand d :=
  ⟨h.1, of_decide_eq_true h.2.1, fun e he => of_decide_eq_true (List.all_eq_true.mp h.2.2.1 e he), fit_ofB h.2.2.2.1, tq_ofB h.2.2.2.2⟩
theorem oddMat_ok {h w : Nat} {m : List (List Int)} (b : BigM h w m) (h6 : h ≤ 6) (w6 : w ≤ 6) : ∀ d ∈ oddMat m, Hand d ∧ isMatD (h : Nat) (w : Nat) (asL d) = false := by
  intro d hd
  rcases List.mem_cons.mp hd with z | hd
  · subst z
    have ea : asL (.list (m.map tupI ++ [tupI z7])) = .list (m.map lstI ++ [lstI z7]) := by
      show PyData.list ((m.map tupI ++ [tupI z7]).map fun d => .list (itemsD d)) = _
      rw [List.map_append, List.map_map] <;> rfl
    have fz : Fit (.list [lstI z7]) := fit_ofB (by decide +kernel)
    have rz : Fit1 (lstI z7) := fz.sub _ List.mem_cons_self
    have sz : smallB (lstI z7) = true := by decide +kernel
    have tz : Tq 2 (lstI z7) := tq_ofB (by decide +kernel)
    have rows : ∀ e, e ∈ m.map lstI → RowT e := fun e he => by
      obtain ⟨r, hr, rfl⟩ := List.mem_map.mp he
      exact like_row b w6 hr (.inr rfl)
    have lm : (m.map lstI).length = h := by rw [List.length_map, b.h]
    have lm2 : (m.map lstI ++ [lstI z7]).length = h + 1 := by rw [List.length_append, lm] <;> rfl
    refine ⟨⟨List.all_eq_true.mpr fun e he => ?_, by show (m.map tupI ++ [tupI z7]).length ≤ 1000; rw [List.length_append, List.length_map, b.h]; show h + 1 ≤ 1000; omega, fun e he => ?_, ?_, ?_⟩, ?_⟩
    · rcases List.mem_append.mp he with z | z
      · obtain ⟨r, _, rfl⟩ := List.mem_map.mp z
        rfl
      · rw [List.mem_singleton.mp z] <;> rfl
    · rcases List.mem_append.mp he with z | z
      · obtain ⟨r, hr, rfl⟩ := List.mem_map.mp z
        show (r.map PyData.int).length ≤ 1000
        rw [List.length_map, (b.w r hr).1]
        omega
      · rw [List.mem_singleton.mp z]
        decide
    · rw [ea]
      refine ⟨fit1_of (ds := m.map lstI ++ [lstI z7]) rfl (by rw [lm2]; omega) fun e he => ?_, fun e he => ?_⟩
      · rcases List.mem_append.mp he with z | z
        · exact (rows e z).sm
        · rw [List.mem_singleton.mp z]; exact sz
      · rcases List.mem_append.mp (show e ∈ m.map lstI ++ [lstI z7] from he) with z | z
        · exact (rows e z).f1
        · rw [List.mem_singleton.mp z]; exact rz
    · rw [ea]
      refine tq_list (by rw [lm2]; omega) fun e he => ?_
      rcases List.mem_append.mp he with z | z
      · exact (rows e z).tm.q.up (by decide)
      · rw [List.mem_singleton.mp z]; exact tz
    · rw [ea]
      unfold isMatD
      have : decide (((itemsD (.list (m.map lstI ++ [lstI z7]))).length : Int) = (h : Nat)) = false := decide_eq_false (by
        show ¬ (((m.map lstI ++ [lstI z7]).length : Nat) : Int) = (h : Nat)
        rw [lm2]
        omega)
      rw [this, Bool.false_and, Bool.and_false]
  rcases List.mem_cons.mp hd with z | hd
  · subst z
    exact ⟨hand_no (by decide +kernel), rfl⟩
  rcases List.mem_cons.mp hd with z | hd
  · subst z
    refine ⟨hand_no (by decide +kernel), ?_⟩
    have c : ∀ h ∈ List.range 7, ∀ w ∈ List.range 7, isMatD (h : Nat) (w : Nat) (asL (.list [.list [.none]])) = false := by decide +kernel
    exact c h (List.mem_range.mpr (by omega)) w (List.mem_range.mpr (by omega))
  · rw [List.mem_singleton.mp hd]
    exact ⟨hand_no (by decide +kernel), rfl⟩
theorem tq_fig : Tq 0 (.str "figure") := tq_str (by decide +kernel) (by decide +kernel)
theorem tq_arrW : Tq 0 (.str "arrow") := tq_str (by decide +kernel) (by decide +kernel)
theorem tq_largeW : Tq 0 (.str "large") := tq_str (by decide +kernel) (by decide +kernel)
theorem tq_sizeW : Tq 0 (.str "size") := tq_str (by decide +kernel) (by decide +kernel)
theorem tq_matW : Tq 0 (.str "matrix") := tq_str (by decide +kernel) (by decide +kernel)
theorem tq_wX {n : Nat} {x : Str} {d : PyData} (hx : Tq 0 (.str x)) (h : Tq n d) : Tq (n + 1) (wD x d) := tq_list (by show 2 ≤ 12; decide) (by
  intro e he
  rcases List.mem_cons.mp he with z | z
  · rw [z]; exact hx.up (Nat.zero_le _)
  · rw [List.mem_singleton.mp z]; exact h)
theorem tq_dn : Tq 4 dnD := tq_ofB (by decide +kernel)
theorem tq_wN : Tq 4 wN := tq_ofB (by decide +kernel)
theorem tq_fine {d : PyData} (h : Tq 4 d) : d.showable = true ∧ d.depth ≤ 60 ∧ d.shown.length ≤ sizeLine :=
  ⟨h.sh, by have := h.dp; omega, Nat.le_trans h.ln (by decide +kernel)⟩
end Rw

set_option Elab.async false
set_option linter.all false
set_option maxRecDepth 100000
set_option maxHeartbeats 800000
/-! K57J: deeds with something of another kind. -/
namespace K57
open PySem PySem.Spec PyProof.Rows L2 Rw
abbrev sWrong : Stmt := top 53
abbrev NWrong : List Str := ["_law_box_here", "_law_here", "_law_sign", "_law_amount", "_law_piece", "_law_fresh", "_law_thing", "_law_way"]
theorem scWrong : FnScope NWrong ["_law_box_here", "_law_here"] (defScope sWrong) := ⟨rfl, rfl, rfl, by decide +kernel, rfl, by decide +kernel, by decide +kernel⟩
section
variable {P : Program} {w : World} {K : PySem.W.Frag} {mg : Str → Option Value} {base : Heap}
set_option pp.maxSteps 300 in
theorem okWrong {f : Addr} {fd : FuncData} (F : Fun K "_law_wrong" "_law_wrong" sWrong f fd) (zl : mg "len" = none) (GT : Own P w K mg base CX0 1 "_law_take" ["_law_box_here", "_law_many"] [] spTakeR) (GL : Own P w K mg base CX0 3 "_law_longer" ["_law_box_here", "_law_draft"] [] spLonger)
    (GA : Own P w K mg base CX0 1 "_law_as_lists" ["_law_thing"] [] spAsL) : FnOk P w K mg base CX0 4 f fd ["_law_box_here", "_law_here"] spWrong := by
  refine F.ok scWrong (fun vs H Q E h => ?_) (fun cdv A outer s H vs Q E hr h => ?_)
  · obtain ⟨M, p, v, s, n, N, rfl, _⟩ := h
    rfl
  · obtain ⟨M, p, v, s, n, N, rfl, hp, mo, bx, hn, an, g, hN, k0⟩ := h
    refine ⟨_, (pss_cons (ps_asg (pe_own GL hr pass0 (pa_cons (pv 0) (pa_cons (pv 1) pa_nil))) (pg_lst rfl (pgs_cons (pg_name (i := 2) scWrong.nd rfl (Or.inl rfl)) (pgs_cons (pg_name (i := 3) scWrong.nd rfl (Or.inl rfl)) (pgs_cons (pg_name (i := 4) scWrong.nd rfl (Or.inl rfl)) (pgs_cons (pg_name (i := 5) scWrong.nd rfl (Or.inl rfl)) pgs_nil))))))
      (pss_cons (ps_if (pt_cmpR op_eq (pe_own GT (hr.mono (by decide)) pass0 (pa_cons (pv 0) (pa_cons pe_int pa_nil))) pe_int (nomark _)) (pss_cons (ps_set (i := 6) scWrong.nd rfl (Or.inl rfl) (pe_ix ix_list (pe_lst (pa_cons pe_bl (pa_cons pe_non (pa_cons pe_str (pa_cons pe_int (pa_cons (pe_callB call_len_seq (by rfl) zl (by decide +kernel) (pa_cons (pe_ix ix_list (pv 1) pe_int (fun _ _ => rfl)) pa_nil)) (pa_cons (pe_tup (pa_cons pe_int pa_nil)) pa_nil))))))) (pe_own GT (hr.mono (by decide)) pass0 (pa_cons (pv 0) (pa_cons pe_int pa_nil))) (fun _ _ => rfl)))
        (pss_one (ps_ret (pe_lst (pa_cons (pe_lst (pa_cons pe_str (pa_cons (pv 6) pa_nil))) (pa_cons (pe_lst (pa_cons pe_str (pa_cons (pv 6) pa_nil))) pa_nil)))))) pss_nil)
      (pss_cons (ps_set (i := 6) scWrong.nd rfl (Or.inl rfl) (pe_ix ix_list (pe_lst (pa_cons pe_str (pa_cons pe_str (pa_cons pe_non (pa_cons pe_int (pa_cons pe_str (pa_cons (pe_lst (pa_cons pe_str pa_nil)) pa_nil))))))) (pe_own GT (hr.mono (by decide)) pass0 (pa_cons (pv 0) (pa_cons pe_int pa_nil))) (fun _ _ => rfl)))
      (pss_cons (ps_set (i := 7) scWrong.nd rfl (Or.inl rfl) (pe_own GT (hr.mono (by decide)) pass0 (pa_cons (pv 0) (pa_cons pe_int pa_nil))))
      (pss_cons (ps_if (pt_cmpR op_eq (pv 7) pe_int (nomark _)) (pss_one (ps_ret (pe_lst (pa_cons (pe_lst (pa_cons pe_str (pa_cons (pv 6) (pa_cons (pv 3) (pa_cons (pv 4) pa_nil))))) (pa_cons (pe_lst (pa_cons pe_str (pa_cons (pv 6) pa_nil))) pa_nil))))) pss_nil)
      (pss_cons (ps_if (pt_cmpR op_eq (pe_callB call_len_str (by rfl) zl (by decide +kernel) (pa_cons (pe_ix ix_list (pv 1) pe_int (fun _ _ => rfl)) pa_nil)) pe_int (nomark _)) (pss_one (ps_ret (pe_lst (pa_cons (pe_lst (pa_cons pe_str (pa_cons (pv 2) (pa_cons pe_non (pa_cons pe_non pa_nil))))) (pa_cons (pe_lst (pa_cons pe_str (pa_cons pe_int pa_nil))) pa_nil))))) pss_nil)
      (pss_cons (ps_if (pt_cmpR op_eq (pv 7) pe_int (nomark _)) (pss_cons (ps_set (i := 6) scWrong.nd rfl (Or.inl rfl) (pe_ix ix_list (pe_lst (pa_cons pe_int (pa_cons (pe_un un_neg pe_int) (pa_cons pe_bl (pa_cons pe_non (pa_cons pe_str (pa_cons (pe_tup (pa_cons pe_int pa_nil)) pa_nil))))))) (pe_own GT (hr.mono (by decide)) pass0 (pa_cons (pv 0) (pa_cons pe_int pa_nil))) (fun _ _ => rfl)))
        (pss_one (ps_ret (pe_lst (pa_cons (pe_lst (pa_cons pe_str (pa_cons (pv 2) (pa_cons (pv 6) (pa_cons (pv 4) pa_nil))))) (pa_cons (pe_lst (pa_cons pe_str (pa_cons (pv 6) pa_nil))) pa_nil)))))) pss_nil)
      (pss_cons (ps_set (i := 6) scWrong.nd rfl (Or.inl rfl) (pe_ix ix_list (pe_lst (pa_cons (pe_op op_cat (pv 4) (pe_lst (pa_cons (pe_op op_repO (pe_tup (pa_cons pe_int pa_nil)) pe_int) pa_nil))) (pa_cons pe_non (pa_cons (pe_lst (pa_cons (pe_lst (pa_cons pe_non pa_nil)) pa_nil)) (pa_cons pe_str pa_nil))))) (pe_own GT (hr.mono (by decide)) pass0 (pa_cons (pv 0) (pa_cons pe_int pa_nil))) (fun _ _ => rfl)))
      (pss_one (ps_ret (pe_lst (pa_cons (pe_lst (pa_cons pe_str (pa_cons (pv 2) (pa_cons (pv 3) (pa_cons (pv 6) pa_nil))))) (pa_cons (pe_lst (pa_cons pe_str (pa_cons (pe_own GA (hr.mono (by decide)) pass0 (pa_cons (pv 6) pa_nil)) pa_nil))) pa_nil))))))))))))), ?_⟩
    have gh := g.h
    have sl := gh.d.sl
    have lx := gh.p.l
    refine ⟨_, rfl, _, rfl, M, p, v, s.here, n, rfl, hp, mo, bx, by omega, an, gh, fun L H1 r k m k3 bm G1 mo1 B1 aL => ?_⟩
    obtain ⟨L', u0, u1, u2, u3, eL, eL1, b0, b1, b2, b3⟩ := any_list4 aL
    cases eL
    cases b0
    cases b1
    refine ⟨_, _, rfl, SqL.of (msk_sub _ _ eL1), rfl, _, _, rfl, _, _, rfl, _, _, rfl, _, _, rfl, rfl, ?_⟩
    have K1 := msk_grow hp G1
    have an := an.keep K1
    have hB : BigM (highS r s.here.ss k) (wideS r s.here.ss k) m := big_of gh.q bm
    have last6 : lastS s.here.ss ≤ 6 := last_le gh.d.sb
    have hh6 : highS r s.here.ss k ≤ 6 := by unfold highS; split <;> omega
    have ww6 : wideS r s.here.ss k ≤ 6 := by unfold wideS; split <;> omega
    have hs := hand_sheet hB hh6 ww6
    obtain ⟨W, w0, w1, w2, w3, rfl, eW, a0, a1, a2, a3⟩ := any_list4 an
    cases a0
    cases a1
    cases a2 with
    | lst eA alA =>
    rename_i A' xA
    have lA := anyL_len alA
    rw [List.length_map, sl] at lA
    have eW0 := msk_sub _ _ eW
    clear K1 bx mo
    refine ⟨_, rfl, p, 4, _, rfl, by decide, by decide, B1, by omega, fun r2 H2 r20 r21 G2 B2 => ?_⟩
    have K2 := msk_grow hp G2
    have mo2 := mo1.box G2 B2
    have G02 := G1.trans G2
    have b2 := b2.keep K2
    refine ⟨rfl, _, rfl, ite2 (fun _ => ?_) (fun _ => ?_)⟩
    · -- a cut
      refine ⟨_, rfl, W, _, 2, _, rfl, rfl, SqL.of (msk_sub _ _ (K2 _ _ eW)), atI_nat (j := 2) rfl, A', xA, rfl, .inl (SqL.of (msk_sub _ _ (K2 _ _ eA))), ?_⟩
      refine ⟨by show 1 ≤ sizeLine; decide, fun t ht => ?_⟩
      obtain ⟨at1, k1, m1⟩ := layT mo2 ht (ds := [.int 1]) (.cons (.int 1) .nil)
      rw [lA]
      refine ⟨by show 6 ≤ sizeLine; decide, fun l hl => ?_⟩
      obtain ⟨al2, k2, m2⟩ := lay m1 hl (ds := oddCut (s.here.x.length + 1)) (.cons (.bl true) (.cons .non (.cons (.str "1") (.cons (.int 0) (.cons (.int _) (.cons at1 .nil))))))
      obtain ⟨_, ys, eq, el, al⟩ := any_listD al2
      cases eq
      refine ⟨_, rfl, p, 6, _, rfl, by decide, by decide, (B2.keep (k1.trans k2)), by omega, fun i5 H5 i0 i1 G5 B5 => ?_⟩
      obtain ⟨i, rfl⟩ : ∃ j : Nat, i5 = (j : Int) := ⟨i5.toNat, by omega⟩
      obtain ⟨v, d, hv, hd, av⟩ := AnyL.get al i (by show i < 6; omega)
      have K5 := msk_grow hp G5
      refine ⟨l, ys, _, v, rfl, rfl, SqL.of (msk_sub _ _ (K5 _ _ el)), atI_nat hv, ?_⟩
      have av := av.keep K5
      have m5 := m2.box G5 B5
      obtain ⟨o1, o2⟩ := oddCut_ok lx d hd
      refine ⟨_, rfl, by show 2 ≤ sizeLine; decide, fun l1 h1 => ?_⟩
      obtain ⟨c1, j1, n1⟩ := lay m5 h1 (.cons (.str "cut") (.cons av .nil))
      refine ⟨_, rfl, by show 2 ≤ sizeLine; decide, fun l2 h2 => ?_⟩
      obtain ⟨c2, j2, n2⟩ := lay n1 h2 (.cons (.str "figure") (.cons (av.keep (msk_same j1)) .nil))
      refine ⟨by show 2 ≤ sizeLine; decide, fun l3 h3 => ?_⟩
      obtain ⟨c3, j3, n3⟩ := lay n2 h3 (.cons (c1.keep (msk_same j2)) (.cons c2 .nil))
      have J := (j1.trans j2).trans j3
      exact k0 l3 _ (.list [.str "cut", d]) (.no (wD "figure" d)) (.cutNo o1) ((tq_wX tq_fig o2).up (by decide)) (((G02.trans (Grow.of (k1.trans k2))).trans G5).trans (Grow.of J)) n3 ((B5.keep J).more (by omega)) c3
    -- one place more
    refine ⟨by show 1 ≤ sizeLine; decide, fun t ht => ?_⟩
    obtain ⟨at1, k1, m1⟩ := lay mo2 ht (ds := [.str ">"]) (.cons (.str ">") .nil)
    refine ⟨by show 6 ≤ sizeLine; decide, fun l hl => ?_⟩
    obtain ⟨al2, k2, m2⟩ := lay m1 hl (ds := oddArr) (.cons (.str "<<") (.cons (.str "") (.cons .non (.cons (.int 1) (.cons (.str "=") (.cons at1 .nil))))))
    obtain ⟨_, ys, eq, el, al⟩ := any_listD al2
    cases eq
    refine ⟨_, rfl, p, 6, _, rfl, by decide, by decide, (B2.keep (k1.trans k2)), by omega, fun i5 H5 i0 i1 G5 B5 => ?_⟩
    obtain ⟨i, rfl⟩ : ∃ j : Nat, i5 = (j : Int) := ⟨i5.toNat, by omega⟩
    obtain ⟨v, d, hv, hd, av⟩ := AnyL.get al i (by show i < 6; omega)
    have K5 := msk_grow hp G5
    refine ⟨l, ys, _, v, rfl, rfl, SqL.of (msk_sub _ _ (K5 _ _ el)), atI_nat hv, ?_⟩
    refine ⟨_, rfl, p, 3, _, rfl, by decide, by decide, B5, by omega, fun w6 H6 w60 w61 G6 B6 => ?_⟩
    have K6 := msk_grow hp G6
    have av := (av.keep K5).keep K6
    have m6 := (m2.box G5 B5).box G6 B6
    obtain ⟨o1, o2⟩ := oddArr_ok d hd
    have G06 := (G02.trans (Grow.of (k1.trans k2))).trans (G5.trans G6)
    have K26 : Same (msk M H2) (msk M H6) := ((msk_same (k1.trans k2)).trans K5).trans K6
    have b2 := b2.keep K26
    have eW6 := K26 _ _ (K2 _ _ eW)
    clear K5 K6 G5 G6 B5 al2 el al at1 m1 m2 k1 k2 B2 mo2 mo1 eL1 aL b3 G2 hl ht
    refine ⟨_, rfl, rfl, _, rfl, ite2 (fun _ => ?_) (fun _ => ?_)⟩
    · refine ⟨_, rfl, _, rfl, _, rfl, by show 4 ≤ sizeLine; decide, fun l1 h1 => ?_⟩
      obtain ⟨c1, j1, n1⟩ := lay m6 h1 (.cons (.str "grow") (.cons av (.cons (.int _) (.cons b2 .nil))))
      refine ⟨_, rfl, by show 2 ≤ sizeLine; decide, fun l2 h2 => ?_⟩
      obtain ⟨c2, j2, n2⟩ := lay n1 h2 (.cons (.str "arrow") (.cons (av.keep (msk_same j1)) .nil))
      refine ⟨by show 2 ≤ sizeLine; decide, fun l3 h3 => ?_⟩
      obtain ⟨c3, j3, n3⟩ := lay n2 h3 (.cons (c1.keep (msk_same j2)) (.cons c2 .nil))
      have J := (j1.trans j2).trans j3
      exact k0 l3 _ (.list [.str "grow", d, natD k, sheetD m]) (.no (wD "arrow" d)) (.growNo hs (.inl ⟨o1, rfl⟩)) ((tq_wX tq_arrW o2).up (by decide)) (G06.trans (Grow.of J)) n3 ((B6.keep J).more (by omega)) c3
    refine ⟨_, rfl, W, _, 0, _, rfl, rfl, SqL.of (msk_sub _ _ eW6), atI_nat (j := 0) rfl, s.here.x, rfl, Nat.le_trans lx (by decide), rfl, _, rfl, ite2 (fun y => ?_) (fun y => ?_)⟩
    · have e6 : s.here.x.length = 6 := by
        have h3 : V.int (s.here.x.length : Int) = V.int 6 := of_decide_eq_true y
        injection h3 with h4
        omega
      refine ⟨_, rfl, by show 4 ≤ sizeLine; decide, fun l1 h1 => ?_⟩
      obtain ⟨c1, j1, n1⟩ := lay m6 h1 (.cons (.str "grow") (.cons (.str (arrS r)) (.cons .non (.cons .non .nil))))
      refine ⟨by show 2 ≤ sizeLine; decide, fun l2 h2 => ?_⟩
      obtain ⟨c2, j2, n2⟩ := lay n1 h2 (.cons (.str "large") (.cons (.int 7) .nil))
      refine ⟨by show 2 ≤ sizeLine; decide, fun l3 h3 => ?_⟩
      obtain ⟨c3, j3, n3⟩ := lay n2 h3 (.cons (c1.keep (msk_same j2)) (.cons c2 .nil))
      have J := (j1.trans j2).trans j3
      exact k0 l3 _ (.list [.str "grow", .str (arrS r), .none, .none]) (.no (wD "large" (.int 7))) (.growNo (hand_no (by decide +kernel)) (.inr (.inl ⟨arD_is r, e6, rfl⟩))) ((tq_wX tq_largeW (tq_int (by decide))).up (by decide)) (G06.trans (Grow.of J)) n3 ((B6.keep J).more (by omega)) c3
    have l6 : s.here.x.length < 6 := by
      have : ¬ s.here.x.length = 6 := fun z => y (decide_eq_true (by rw [z] <;> rfl))
      omega
    clear o1 o2 av hd hv
    refine ⟨_, rfl, rfl, _, rfl, ite2 (fun _ => ?_) (fun _ => ?_)⟩
    · refine ⟨_, rfl, by show 1 ≤ sizeLine; decide, fun t ht => ?_⟩
      obtain ⟨at1, k1, m1⟩ := layT m6 ht (ds := [.int 2]) (.cons (.int 2) .nil)
      refine ⟨by show 6 ≤ sizeLine; decide, fun l hl => ?_⟩
      obtain ⟨al2, k2, m2⟩ := lay m1 hl (ds := oddSz) (.cons (.int 7) (.cons (.int (-1)) (.cons (.bl true) (.cons .non (.cons (.str "1") (.cons at1 .nil))))))
      obtain ⟨_, ys, eq, el, al⟩ := any_listD al2
      cases eq
      refine ⟨_, rfl, p, 6, _, rfl, by decide, by decide, (B6.keep (k1.trans k2)), by omega, fun i5 H7 i0 i1 G7 B7 => ?_⟩
      obtain ⟨i, rfl⟩ : ∃ j : Nat, i5 = (j : Int) := ⟨i5.toNat, by omega⟩
      obtain ⟨v, d, hv, hd, av⟩ := AnyL.get al i (by show i < 6; omega)
      have K7 := msk_grow hp G7
      refine ⟨l, ys, _, v, rfl, rfl, SqL.of (msk_sub _ _ (K7 _ _ el)), atI_nat hv, ?_⟩
      have av := av.keep K7
      have m7 := m2.box G7 B7
      obtain ⟨o1, o2⟩ := oddSz_ok d hd
      have b2 := b2.keep ((msk_same (k1.trans k2)).trans K7)
      refine ⟨_, rfl, _, rfl, _, rfl, by show 4 ≤ sizeLine; decide, fun l1 h1 => ?_⟩
      obtain ⟨c1, j1, n1⟩ := lay m7 h1 (.cons (.str "grow") (.cons (.str (arrS r)) (.cons av (.cons b2 .nil))))
      refine ⟨_, rfl, by show 2 ≤ sizeLine; decide, fun l2 h2 => ?_⟩
      obtain ⟨c2, j2, n2⟩ := lay n1 h2 (.cons (.str "size") (.cons (av.keep (msk_same j1)) .nil))
      refine ⟨by show 2 ≤ sizeLine; decide, fun l3 h3 => ?_⟩
      obtain ⟨c3, j3, n3⟩ := lay n2 h3 (.cons (c1.keep (msk_same j2)) (.cons c2 .nil))
      have J := (j1.trans j2).trans j3
      exact k0 l3 _ (.list [.str "grow", .str (arrS r), d, sheetD m]) (.no (wD "size" d)) (.growNo hs (.inr (.inr (.inl ⟨arD_is r, l6, o1, rfl⟩)))) ((tq_wX tq_sizeW o2).up (by decide)) ((G06.trans (Grow.of (k1.trans k2))).trans (G7.trans (Grow.of J))) n3 ((B7.keep J).more (by omega)) c3
    -- a matrix of another kind
    obtain ⟨Mx, xm, eq, eM, alM⟩ := any_listD b2
    cases eq
    have lM := anyL_len alM
    rw [List.length_map, bm.h] at lM
    refine ⟨_, rfl, by show 1 ≤ sizeLine; decide, fun t ht => ⟨t, 7, .int 0, rfl, rfl, upd_same, by decide, fun pz Hz kz ez => ?_⟩⟩
    have kz := (same_new ht).trans kz
    have mz := m6.keep kz
    have az : Any (msk M Hz) (.ref pz) (tupI z7) := any_msk mz _ _ (.tup ez (ints_anyL z7)) (by decide)
    refine ⟨by show 1 ≤ sizeLine; decide, fun l1 h1 => ?_⟩
    have s1 := same_new (o := .lst [.ref pz]) h1
    have m1 := mz.keep s1
    refine ⟨Mx, l1, xm, [.ref pz], rfl, rfl, s1 _ _ (kz _ _ (msk_sub _ _ eM)), upd_same, Nat.le_trans (by show xm.length + 1 ≤ 8; omega) (by decide), fun l2 h2 => ?_⟩
    obtain ⟨aA, s2, m2⟩ := lay m1 h2 (ds := m.map tupI ++ [tupI z7]) (anyL_snoc (anyL_keep (msk_same (kz.trans s1)) alM) (az.keep (msk_same s1)))
    refine ⟨by show 1 ≤ sizeLine; decide, fun l3 h3 => ?_⟩
    obtain ⟨aB, s3, m3⟩ := lay m2 h3 (ds := [.none]) (.cons .non .nil)
    refine ⟨by show 1 ≤ sizeLine; decide, fun l4 h4 => ?_⟩
    obtain ⟨aC, s4, m4⟩ := lay m3 h4 (ds := [.list [.none]]) (.cons aB .nil)
    refine ⟨by show 4 ≤ sizeLine; decide, fun l hl => ?_⟩
    obtain ⟨al2, s5, m5⟩ := lay m4 hl (ds := oddMat m) (.cons (aA.keep (msk_same (s3.trans s4))) (.cons .non (.cons aC (.cons (.str "x") .nil))))
    have S5 := (((kz.trans s1).trans s2).trans (s3.trans s4)).trans s5
    obtain ⟨_, ys, eq, el, al⟩ := any_listD al2
    cases eq
    refine ⟨_, rfl, p, 4, _, rfl, by decide, by decide, (B6.keep S5), by omega, fun i5 H7 i0 i1 G7 B7 => ?_⟩
    obtain ⟨i, rfl⟩ : ∃ j : Nat, i5 = (j : Int) := ⟨i5.toNat, by omega⟩
    obtain ⟨v, d, hv, hd, av⟩ := AnyL.get al i (by show i < 4; omega)
    have K7 := msk_grow hp G7
    refine ⟨l, ys, _, v, rfl, rfl, SqL.of (msk_sub _ _ (K7 _ _ el)), atI_nat hv, ?_⟩
    have av := av.keep K7
    have m7 := m5.box G7 B7
    obtain ⟨hd1, hd2⟩ := oddMat_ok hB hh6 ww6 d hd
    refine ⟨_, rfl, _, rfl, _, rfl, by show 4 ≤ sizeLine; decide, fun q1 g1 => ?_⟩
    obtain ⟨c1, j1, n1⟩ := lay m7 g1 (.cons (.str "grow") (.cons (.str (arrS r)) (.cons (.int _) (.cons av .nil))))
    refine ⟨_, rfl, M, v, d, rfl, n1, av.keep (msk_same j1), hd1.s, hd1.n, hd1.i, fun u H8 k8 au _ => ?_⟩
    have n8 := n1.keep k8
    refine ⟨by show 2 ≤ sizeLine; decide, fun q2 g2 => ?_⟩
    obtain ⟨c2, j2, n2⟩ := lay n8 g2 (.cons (.str "matrix") (.cons au .nil))
    refine ⟨by show 2 ≤ sizeLine; decide, fun q3 g3 => ?_⟩
    obtain ⟨c3, j3, n3⟩ := lay n2 g3 (.cons (c1.keep (msk_same (k8.trans j2))) (.cons c2 .nil))
    have J := ((j1.trans k8).trans j2).trans j3
    exact k0 q3 _ (.list [.str "grow", .str (arrS r), natD k, d]) (.no (wD "matrix" (asL d))) (.growNo hd1 (.inr (.inr (.inr ⟨r, k, rfl, l6, rfl, by omega, hd2, rfl⟩)))) (tq_wX tq_matW hd1.q) ((G06.trans (Grow.of S5)).trans (G7.trans (Grow.of J))) n3 ((B7.keep J).more (by omega)) c3
end
end K57

set_option Elab.async false
set_option linter.all false
set_option maxRecDepth 100000
set_option maxHeartbeats 4000000
/-! K57K: a deed, and what is due behind it. -/
namespace Rw
open PySem PySem.Spec PyProof.Rows L2
theorem anyL_last {H : Hp} {d : PyData} : ∀ {ds : List PyData} {xs : List V}, AnyL H xs (ds ++ [d]) → ∃ ys y, xs = ys ++ [y] ∧ AnyL H ys ds ∧ Any H y d
  | [], _, h => by
    cases h with
    | cons a b =>
      cases b
      exact ⟨[], _, rfl, .nil, a⟩
  | e :: ds, _, h => by
    cases h with
    | cons a b =>
      obtain ⟨ys, y, rfl, h1, h2⟩ := anyL_last (ds := ds) b
      exact ⟨_ :: ys, y, rfl, .cons a h1, h2⟩
theorem anyL_uncons {H : Hp} {d : PyData} {ds : List PyData} {xs : List V} (h : AnyL H xs (d :: ds)) : ∃ y ys, xs = y :: ys ∧ Any H y d ∧ AnyL H ys ds := by
  cases h with
  | cons a b => exact ⟨_, _, rfl, a, b⟩
theorem far_item {q e c : Int} (hq : q ∈ primesL) (h0 : 0 ≤ e) (h1 : e < q) : (e + q * c).fmod q = e := by
  have pp := prime_pos hq
  rw [Int.fmod_eq_emod_of_nonneg _ (by omega), Int.add_mul_emod_self_left]
  exact Int.emod_eq_of_lt h0 h1
end Rw
namespace K57
open PySem PySem.Spec PyProof.Rows L2 Rw
abbrev sDeed : Stmt := top 52
abbrev NDeed : List Str := ["_law_box_here", "_law_state", "_law_past", "_law_here", "_law_later", "_law_way", "_law_sign", "_law_amount", "_law_piece", "_law_fresh", "_law_far", "_law_count", "_law_line", "_law_item"]
theorem scDeed : FnScope NDeed ["_law_box_here", "_law_state"] (defScope sDeed) := ⟨rfl, rfl, rfl, by decide +kernel, rfl, by decide +kernel, by decide +kernel⟩
abbrev tFarI (K : PySem.W.Frag) : TE := tOp (rI0 fun i j => .int (i + j)) (tVar 13) (tOp (rI CMul fun i j => .int (i * j)) (tOp (rIxL K) (tVar 3) (tC (.int 1))) (tOp (rIxL K) (tLst (tCons (tC (.int 0)) (tCons (tUn (rU fun i => .int (-i)) (tC (.int 1))) (tCons (tOp (rI CPow fun i j => .int (i ^ j.toNat)) (tC (.int 10)) (tC (.int 27))) tNil)))) (tCall spTakeR [] E0 (tCons (tVar 0) (tCons (tC (.int 3)) tNil)))))
abbrev tFar (K : PySem.W.Frag) : TE := tLc (iSeq K (tVar 12)) (gName 13) tYes (tFarI K) [13]
section
variable {P : Program} {w : World} {K : PySem.W.Frag} {mg : Str → Option Value} {base : Heap}
set_option pp.maxSteps 300 in
theorem okDeed {f : Addr} {fd : FuncData} (F : Fun K "_law_deed" "_law_deed" sDeed f fd) (zl : mg "len" = none) (GT : Own P w K mg base CX0 1 "_law_take" ["_law_box_here", "_law_many"] [] spTakeR) (GL : Own P w K mg base CX0 3 "_law_longer" ["_law_box_here", "_law_draft"] [] spLonger)
    (GC : Own P w K mg base CX0 1 "_law_cut" ["_law_draft", "_law_count"] [] spCutL) (GW : Own P w K mg base CX0 4 "_law_wrong" ["_law_box_here", "_law_here"] [] spWrong) : FnOk P w K mg base CX0 5 f fd ["_law_box_here", "_law_state"] spDeed := by
  refine F.ok scDeed (fun vs H Q E h => ?_) (fun cdv A outer s H vs Q E hr h => ?_)
  · obtain ⟨M, p, v, s, n, N, rfl, _⟩ := h
    rfl
  · obtain ⟨M, p, v, s, n, N, rfl, hp, mo, bx, hn, an, g, hN, k0⟩ := h
    refine ⟨_, (pss_cons (ps_asg (pv 1) (pg_lst rfl (pgs_cons (pg_name (i := 2) scDeed.nd rfl (Or.inl rfl)) (pgs_cons (pg_name (i := 3) scDeed.nd rfl (Or.inr rfl)) (pgs_cons (pg_name (i := 4) scDeed.nd rfl (Or.inl rfl)) pgs_nil)))))
      (pss_cons (ps_set (i := 5) scDeed.nd rfl (Or.inl rfl) (pe_own GT (hr.mono (by decide)) pass0 (pa_cons (pv 0) (pa_cons pe_int pa_nil))))
      (pss_cons (ps_if (pt_cmpR op_lt (pv 5) pe_int (nomark _)) (pss_cons (ps_asg (pe_own GL (hr.mono (by decide)) pass0 (pa_cons (pv 0) (pa_cons (pv 3) pa_nil))) (pg_lst rfl (pgs_cons (pg_name (i := 6) scDeed.nd rfl (Or.inl rfl)) (pgs_cons (pg_name (i := 7) scDeed.nd rfl (Or.inl rfl)) (pgs_cons (pg_name (i := 8) scDeed.nd rfl (Or.inl rfl)) (pgs_cons (pg_name (i := 9) scDeed.nd rfl (Or.inl rfl)) pgs_nil))))))
        (pss_cons (ps_if (pt_cmpR op_eq (pe_callB call_len_str (by rfl) zl (by decide +kernel) (pa_cons (pe_ix ix_list (pv 3) pe_int (fun _ _ => rfl)) pa_nil)) pe_int (nomark _)) (pss_one (ps_ret (pe_lst (pa_cons (pe_lst (pa_cons pe_str (pa_cons (pv 6) (pa_cons (pv 7) (pa_cons (pv 8) pa_nil))))) (pa_cons (pe_lst (pa_cons pe_str (pa_cons pe_int pa_nil))) pa_nil))))) pss_nil)
        (pss_cons (ps_setLc (i := 10) (own := [("_law_line", 12)]) (g := gName 12) (tt := tYes) (te := tFar K) rfl scDeed.nd rfl rfl (sw_true rfl rfl rfl (by decide +kernel)) (pi_list (pv 8)) (blkOk_by (N := NDeed) (sc := defScope sDeed) (by decide +kernel)) (fun _ _ _ _ _ => (pg_name (i := 12) scDeed.nd rfl (Or.inl rfl))) (fun _ _ _ _ _ => pts_nil) (fun _ _ _ _ _ => (pe_lc (own := [("_law_item", 13)]) (g := gName 13) (tt := tYes) (te := tFarI K) rfl scDeed.nd (pi_seq (pv 12)) (blkOk_by (N := NDeed) (by rfl)) (fun _ _ _ _ _ => (pg_name (i := 13) scDeed.nd rfl (Or.inl rfl))) (fun _ _ _ _ _ => pts_nil) (fun _ _ _ _ _ => (pe_op op_add (pv 13) (pe_op op_mul (pe_ix ix_list (pv 3) pe_int (fun _ _ => rfl)) (pe_ix ix_list (pe_lst (pa_cons pe_int (pa_cons (pe_un un_neg pe_int) (pa_cons (pe_op op_pow pe_int pe_int) pa_nil)))) (pe_own GT (hr.mono (by decide)) pass0 (pa_cons (pv 0) (pa_cons pe_int pa_nil))) (fun _ _ => rfl))))))))
        (pss_one (ps_ret (pe_lst (pa_cons (pe_lst (pa_cons pe_str (pa_cons (pv 6) (pa_cons (pv 7) (pa_cons (pv 10) pa_nil))))) (pa_cons (pe_lst (pa_cons (pe_op op_cat (pv 2) (pe_lst (pa_cons (pv 3) pa_nil))) (pa_cons (pv 9) (pa_cons (pe_lst pa_nil) pa_nil)))) pa_nil)))))))) pss_nil)
      (pss_cons (ps_if (pt_cmpR op_eq (pv 5) pe_int (nomark _)) (pss_cons (ps_set (i := 11) scDeed.nd rfl (Or.inl rfl) (pe_op op_sub (pe_own GT (hr.mono (by decide)) pass0 (pa_cons (pv 0) (pa_cons (pe_op op_add (pe_callB call_len_seq (by rfl) zl (by decide +kernel) (pa_cons (pe_ix ix_list (pv 3) pe_int (fun _ _ => rfl)) pa_nil)) pe_int) pa_nil))) pe_int))
        (pss_cons (ps_if (pt_not (pt_chain op_le op_lt pe_int (pv 11) (pe_callB call_len_seq (by rfl) zl (by decide +kernel) (pa_cons (pe_ix ix_list (pv 3) pe_int (fun _ _ => rfl)) pa_nil)))) (pss_one (ps_ret (pe_lst (pa_cons (pe_lst (pa_cons pe_str (pa_cons (pv 11) pa_nil))) (pa_cons (pe_lst (pa_cons pe_str (pa_cons (pv 11) pa_nil))) pa_nil))))) pss_nil)
        (pss_one (ps_ret (pe_lst (pa_cons (pe_lst (pa_cons pe_str (pa_cons (pv 11) pa_nil))) (pa_cons (pe_lst (pa_cons (pe_op op_cat (pv 2) (pe_lst (pa_cons (pv 3) pa_nil))) (pa_cons (pe_own GC (hr.mono (by decide)) pass0 (pa_cons (pv 3) (pa_cons (pv 11) pa_nil))) (pa_cons (pe_lst pa_nil) pa_nil)))) pa_nil))))))) pss_nil)
      (pss_cons (ps_if (pt_cmpR op_lt (pv 5) pe_int (nomark _)) (pss_one (ps_ret (pe_lst (pa_cons (pe_lst (pa_cons pe_str pa_nil)) (pa_cons (pe_ifExp (pt_cmpR (op_eq_nil hr.units0) (pv 2) (pe_lst pa_nil) (by rfl)) (pe_lst (pa_cons pe_str pa_nil)) (pe_lst (pa_cons (pe_slice sl_list (pv 2) po_none (po_some (pe_un un_neg pe_int))) (pa_cons (pe_ix ix_list (pv 2) (pe_un un_neg pe_int) (fun _ _ => rfl)) (pa_cons (pe_op op_cat (pe_lst (pa_cons (pv 3) pa_nil)) (pv 4)) pa_nil))))) pa_nil))))) pss_nil)
      (pss_cons (ps_if (pt_cmpR op_lt (pv 5) pe_int (nomark _)) (pss_one (ps_ret (pe_lst (pa_cons (pe_lst (pa_cons pe_str pa_nil)) (pa_cons (pe_ifExp (pt_cmpR (op_eq_nil hr.units0) (pv 4) (pe_lst pa_nil) (by rfl)) (pe_lst (pa_cons pe_str pa_nil)) (pe_lst (pa_cons (pe_op op_cat (pv 2) (pe_lst (pa_cons (pv 3) pa_nil))) (pa_cons (pe_ix ix_list (pv 4) pe_int (fun _ _ => rfl)) (pa_cons (pe_slice sl_list (pv 4) (po_some pe_int) po_none) pa_nil))))) pa_nil))))) pss_nil)
      (pss_one (ps_ret (pe_own GW hr pass0 (pa_cons (pv 0) (pa_cons (pv 3) pa_nil))))))))))), ?_⟩
    have gh := g.h
    have sl := gh.d.sl
    have lx := gh.p.l
    have gn := g.n
    obtain ⟨Sv, x0, x1, x2, rfl, eSv, b0, b1, b2⟩ := any_list3 an
    obtain ⟨Pl, xp, rfl, ePl, alP⟩ := any_listD b0
    obtain ⟨Ll, xl, rfl, eLl, alL⟩ := any_listD b2
    obtain ⟨W, w0, w1, w2, w3, rfl, eW, a0, a1, a2, a3⟩ := any_list4 b1
    cases a0
    cases a1
    obtain ⟨A', xA, rfl, eA, alA⟩ := any_listD a2
    have lA := anyL_len alA
    rw [List.length_map, sl] at lA
    have lP := anyL_len alP
    rw [List.length_map] at lP
    have lL := anyL_len alL
    rw [List.length_map] at lL
    refine ⟨_, rfl, Sv, _, rfl, SqL.of (msk_sub _ _ eSv), rfl, _, _, rfl, _, _, rfl, _, _, rfl, rfl, ?_⟩
    refine ⟨_, rfl, p, 10, _, rfl, by decide, by decide, bx, by omega, fun w5 H1 w50 w51 G1 B1 => ?_⟩
    have K1 := msk_grow hp G1
    have mo1 := mo.box G1 B1
    have b1 := b1.keep K1
    have b2 := b2.keep K1
    have alP := anyL_keep K1 alP
    have alL := anyL_keep K1 alL
    have ePl := K1 _ _ ePl
    have eLl := K1 _ _ eLl
    have eW := K1 _ _ eW
    have eA := K1 _ _ eA
    clear b0 a2 a3 alA K1 bx mo an eSv
    refine ⟨_, rfl, _, _, rfl, rfl, _, rfl, ite2 (fun _ => ?_) (fun _ => ?_)⟩
    · -- one place more
      refine ⟨_, rfl, _, rfl, M, p, _, s.here, _, rfl, hp, mo1, B1, by omega, b1, gh, fun L H2 r k m k3 bm G2 mo2 B2 aL => ?_⟩
      obtain ⟨L', u0, u1, u2, u3, eL, eL1, d0, d1, d2, d3⟩ := any_list4 aL
      cases eL
      cases d0
      cases d1
      refine ⟨_, _, rfl, SqL.of (msk_sub _ _ eL1), rfl, _, _, rfl, _, _, rfl, _, _, rfl, _, _, rfl, rfl, ?_⟩
      have K2 := msk_grow hp G2
      have hB : BigM (highS r s.here.ss k) (wideS r s.here.ss k) m := big_of gh.q bm
      have last6 : lastS s.here.ss ≤ 6 := last_le gh.d.sb
      have hh6 : highS r s.here.ss k ≤ 6 := by unfold highS; split <;> omega
      have ww6 : wideS r s.here.ss k ≤ 6 := by unfold wideS; split <;> omega
      have eW2 := K2 _ _ eW
      have ePl2 := K2 _ _ ePl
      have alP2 := anyL_keep K2 alP
      have b12 := b1.keep K2
      obtain ⟨Mx, xm, eq, eM, alM⟩ := any_listD d2
      cases eq
      have lM := anyL_len alM
      rw [List.length_map, bm.h] at lM
      have G12 := G1.trans G2
      clear K2 eW ePl alP b1 eL1 aL G1 G2 mo1 B1 eLl alL b2 eA
      refine ⟨_, rfl, W, _, 0, _, rfl, rfl, SqL.of (msk_sub _ _ eW2), atI_nat (j := 0) rfl, s.here.x, rfl, Nat.le_trans lx (by decide), rfl, _, rfl, ite2 (fun y => ?_) (fun y => ?_)⟩
      · have e6 : s.here.x.length = 6 := by
          have h3 : V.int (s.here.x.length : Int) = V.int 6 := of_decide_eq_true y
          injection h3 with h4
          omega
        refine ⟨_, rfl, _, rfl, _, rfl, by show 4 ≤ sizeLine; decide, fun l1 h1 => ?_⟩
        obtain ⟨c1, j1, n1⟩ := lay mo2 h1 (.cons (.str "grow") (.cons (.str (arrS r)) (.cons (.int _) (.cons d2 .nil))))
        refine ⟨by show 2 ≤ sizeLine; decide, fun l2 h2 => ?_⟩
        obtain ⟨c2, j2, n2⟩ := lay n1 h2 (.cons (.str "large") (.cons (.int 7) .nil))
        refine ⟨by show 2 ≤ sizeLine; decide, fun l3 h3 => ?_⟩
        obtain ⟨c3, j3, n3⟩ := lay n2 h3 (.cons (c1.keep (msk_same j2)) (.cons c2 .nil))
        have J := (j1.trans j2).trans j3
        exact k0 l3 _ (.list [.str "grow", .str (arrS r), natD k, sheetD m]) (.no (wD "large" (.int 7))) (.growNo (hand_sheet hB hh6 ww6) (.inr (.inl ⟨arD_is r, e6, rfl⟩))) ((tq_wX tq_largeW (tq_int (by decide))).up (by decide)) (G12.trans (Grow.of J)) n3 ((B2.keep J).more (by omega)) c3
      have l6 : s.here.x.length < 6 := by
        have : ¬ s.here.x.length = 6 := fun z => y (decide_eq_true (by rw [z] <;> rfl))
        omega
      refine ⟨_, rfl, Mx, rfl, ⟨_, SqL.of (msk_sub _ _ eM)⟩, fun D hD => ?_⟩
      have nD := mo2.new hD
      have pD := B2.ne hD
      refine lc_it walk_list (Pv := fun j H' => Grow p H2 H' ∧ Bx H' p (n + 120 + 20 * j) ∧ ∃ acc u, H' D = some (.lst acc) ∧ AnyL (del (msk M H') D) acc (u.map lstI) ∧ redM s.here.q u = m.take j ∧ u.length = j ∧ ∀ r', r' ∈ u → r'.length = wideS r s.here.ss k ∧ ∀ e, e ∈ r' → Big e) ⟨Grow.of (same_new hD), (B2.keep (same_new hD)).more (by omega), [], [], upd_same, .nil, rfl, rfl, fun _ h => (nomatch h)⟩ (fun j H' _ z => SqL.of (msk_sub _ _ (msk_grow hp z.1 _ _ eM))) ?_ ?_
      · rintro j y H8 H7 hj ⟨g7, b7, acc, u, eD, alD, rd, lu, bu⟩ ⟨rfl, hy⟩
        refine ⟨rfl, ?_⟩
        unfold tYes
        refine Eq.mpr (if_pos (rfl : true = true)) ?_
        obtain ⟨d, hd2, any⟩ := anyL_at alM hy
        rw [List.getElem?_map] at hd2
        have hj2 : j < m.length := by rw [bm.h]; omega
        rw [List.getElem?_eq_getElem hj2] at hd2
        cases Option.some.inj hd2
        cases any with
        | tup et6 al2 =>
        rename_i t6 xs6
        have ex := anyL_ints al2
        subst ex
        have K7 := msk_grow hp g7
        have mo7 := mo2.box g7 b7
        have et7 := msk_sub _ _ (K7 _ _ et6)
        have rw6 := bm.w _ (List.getElem_mem hj2)
        refine ⟨_, rfl, t6, false, _, rfl, SqT.of et7, fun D2 hD2 => ?_⟩
        have nD2 := mo7.new hD2
        have D2D : D2 ≠ D := fun z => by rw [z, eD] at hD2; cases hD2
        have pD2 := b7.ne hD2
        refine lc_it walk_seq (Pv := fun i H' => Grow p H7 H' ∧ Bx H' p (n + 120 + 20 * j + i) ∧ ∃ r' : List Int, H' D2 = some (.lst (r'.map V.int)) ∧ redR s.here.q r' = (m[j]).take i ∧ r'.length = i ∧ ∀ e, e ∈ r' → Big e) ⟨Grow.of (same_new hD2), (b7.keep (same_new hD2)).more (by omega), [], upd_same, rfl, rfl, fun _ h => (nomatch h)⟩ (fun i H' _ z => SqT.of (msk_sub _ _ (msk_grow hp z.1 _ _ (K7 _ _ et6)))) ?_ ?_
        · rintro i y H10 H9 hi ⟨g9, b9, r', eD2, rr, lr, br⟩ ⟨rfl, hyi⟩
          refine ⟨rfl, ?_⟩
          unfold tYes
          refine Eq.mpr (if_pos (rfl : true = true)) ?_
          obtain ⟨e, he, rfl⟩ := ints_at hyi
          obtain ⟨e0, e1⟩ := rw6.2 e (List.mem_of_getElem? he)
          have li : i < (m[j]).length := (List.getElem?_eq_some_iff.mp he).1
          have pp := prime_pos gh.q
          have eW9 := msk_sub _ _ ((msk_grow hp (g7.trans g9)) _ _ eW2)
          refine ⟨_, rfl, _, rfl, W, _, 1, _, rfl, rfl, SqL.of eW9, atI_nat (j := 1) rfl, ?_⟩
          refine ⟨_, rfl, _, _, rfl, rfl, ⟨by decide, by decide, by decide⟩, by show 3 ≤ sizeLine; decide, fun l hl => ?_⟩
          have s9 := same_new (o := .lst [.int 0, .int (-1), .int (10 ^ Int.toNat 27)]) hl
          have pl := b9.ne hl
          refine ⟨_, rfl, p, 3, _, rfl, by decide, by decide, b9.keep s9, by omega, fun i3 H11 i30 i31 G11 B11 => ?_⟩
          obtain ⟨j3, rfl⟩ : ∃ j : Nat, i3 = (j : Int) := ⟨i3.toNat, by omega⟩
          have hj3 : j3 < ([0, -1, 10 ^ Int.toNat 27] : List Int).length := by show j3 < 3; omega
          have mem : ∀ z ∈ ([0, -1, 10 ^ Int.toNat 27] : List Int), z.natAbs ≤ 10 ^ 27 := by decide
          refine ⟨l, ([0, -1, 10 ^ Int.toNat 27] : List Int).map V.int, _, _, rfl, rfl, SqL.of (G11 l _ pl.symm upd_same), atI_nat (v := .int (([0, -1, 10 ^ Int.toNat 27] : List Int)[j3])) (by rw [List.getElem?_map, List.getElem?_eq_getElem hj3] <;> rfl), ?_⟩
          generalize hc : ([0, -1, 10 ^ Int.toNat 27] : List Int)[j3] = c
          have cb : c.natAbs ≤ 10 ^ 27 := by rw [← hc]; exact mem _ (List.getElem_mem hj3)
          refine ⟨_, _, rfl, rfl, .inl ⟨by omega, by omega⟩, _, _, rfl, rfl, ?_⟩
          have g11 := g9.trans ((Grow.of s9).trans G11)
          have lD2 : l ≠ D2 := fun z => by rw [z, eD2] at hl; cases hl
          have eD2' := G11 _ _ pD2.symm (s9 _ _ eD2)
          refine ⟨r'.map V.int, eD2', Nat.lt_of_le_of_lt (by rw [List.length_map, lr]; omega : (r'.map V.int).length ≤ 1000) (by decide), fun b o ne eo => ?_, ?_, r' ++ [e + s.here.q * c], ?_, ?_, by rw [List.length_append, lr] <;> rfl, fun x hx => ?_⟩
          · have nb : b ≠ D2 := ne_of_none eo hD2
            rw [upd_ne nb]
            exact g11 b o ne eo
          · obtain ⟨c1, c2, c3, h1, rest⟩ := B11
            exact Bx.more ⟨c1, c2, c3, by rw [upd_ne pD2]; exact h1, rest⟩ (by omega)
          · rw [upd_same, List.map_append] <;> rfl
          · unfold redR
            rw [List.map_append]
            show redR s.here.q r' ++ [(e + s.here.q * c).fmod s.here.q] = _
            rw [rr, far_item gh.q e0 e1, List.take_add_one, he] <;> rfl
          · rcases List.mem_append.mp hx with z | z
            · exact br x z
            · rw [List.mem_singleton.mp z]
              exact digit_big gh.q e0 e1 cb
        · rintro H9 ⟨g9, b9, r', eD2, rr, lr, br⟩
          rw [List.length_map] at rr lr b9
          have b9 := b9.more (show n + 120 + 20 * j + (m[j]).length ≤ n + 120 + 20 * (j + 1) by rw [rw6.1]; omega)
          rw [List.take_of_length_le (Nat.le_refl _)] at rr
          have lacc := anyL_len alD
          rw [List.length_map, lu] at lacc
          have eD9 := g9 _ _ pD.symm eD
          refine ⟨acc, eD9, Nat.lt_of_le_of_lt (by omega : acc.length ≤ 1000) (by decide), fun b o ne eo => ?_, ?_, acc ++ [.ref D2], u ++ [r'], upd_same, ?_, ?_, by rw [List.length_append, lu] <;> rfl, fun x hx => ?_⟩
          · rw [upd_ne (ne_of_none eo hD)]
            exact g9 b o ne (g7 b o ne eo)
          · obtain ⟨c1, c2, c3, h1, rest⟩ := b9
            exact Bx.more ⟨c1, c2, c3, by rw [upd_ne pD]; exact h1, rest⟩ (by omega)
          · have eqd : ∀ o, del (msk M (upd H9 D o)) D = del (msk M H9) D := fun o => by
              funext z
              by_cases y1 : z = D
              · rw [y1, del_same, del_same]
              · rw [del_ne y1, del_ne y1]
                unfold msk
                split
                · rfl
                · exact upd_ne y1
            rw [eqd, List.map_append]
            refine anyL_snoc (anyL_keep (Grow.del (Grow.of (msk_grow hp g9))) alD) (.lst (by rw [del_ne D2D, msk_out nD2]; exact eD2) (ints_anyL r'))
          · unfold redM
            rw [List.map_append]
            show redM s.here.q u ++ [redR s.here.q r'] = _
            rw [rd, rr, List.take_add_one, List.getElem?_eq_getElem hj2] <;> rfl
          · rcases List.mem_append.mp hx with z | z
            · exact bu x z
            · rw [List.mem_singleton.mp z]
              exact ⟨by rw [lr, rw6.1], br⟩
      rintro H7 ⟨g7, b7, acc, u, eD, alD, rd, lu, bu⟩
      rw [lM] at rd lu b7
      rw [List.take_of_length_le (by rw [bm.h]; omega)] at rd
      have hU : BigM (highS r s.here.ss k) (wideS r s.here.ss k) u := ⟨lu, bu⟩
      have mo7 := mo2.box g7 b7
      have K7 := msk_grow hp g7
      have aD : Any (msk M H7) (.ref D) (sheetL u) := .lst (by rw [msk_out nD]; exact eD) (anyL_keep same_del alD)
      refine ⟨_, rfl, _, rfl, _, rfl, by show 4 ≤ sizeLine; decide, fun l1 h1 => ?_⟩
      obtain ⟨c1, j1, n1⟩ := lay mo7 h1 (.cons (.str "grow") (.cons (.str (arrS r)) (.cons (.int _) (.cons aD .nil))))
      refine ⟨_, rfl, _, rfl, by show 1 ≤ sizeLine; decide, fun l2 h2 => ?_⟩
      obtain ⟨c2, j2, n2⟩ := lay n1 h2 (.cons ((b12.keep K7).keep (msk_same j1)) .nil)
      refine ⟨Pl, l2, xp, [.ref W], rfl, rfl, j2 _ _ (j1 _ _ (msk_sub _ _ (K7 _ _ ePl2))), upd_same, Nat.le_trans (by show xp.length + 1 ≤ 1000; omega) (by decide), fun l3 h3 => ?_⟩
      have K72 := (K7.trans (msk_same j1)).trans (msk_same j2)
      obtain ⟨c3, j3, n3⟩ := lay n2 h3 (ds := (s.past ++ [s.here]).map Dr.D) (by rw [List.map_append]; exact anyL_snoc (anyL_keep K72 alP2) (b12.keep K72))
      refine ⟨_, rfl, by show 0 ≤ sizeLine; decide, fun l4 h4 => ?_⟩
      obtain ⟨c4, j4, n4⟩ := lay n3 h4 (ds := []) .nil
      refine ⟨by show 3 ≤ sizeLine; decide, fun l5 h5 => ?_⟩
      obtain ⟨c5, j5, n5⟩ := lay n4 h5 (ds := [.list ((s.past ++ [s.here]).map Dr.D), (growDr s.here r k m).D, .list []]) (.cons (c3.keep (msk_same j4)) (.cons (d3.keep (((K7.trans (msk_same j1)).trans (msk_same (j2.trans j3))).trans (msk_same j4))) (.cons c4 .nil)))
      refine ⟨by show 2 ≤ sizeLine; decide, fun l6' h6 => ?_⟩
      obtain ⟨c6, j6, n6⟩ := lay n5 h6 (.cons (c1.keep (msk_same (((j2.trans j3).trans j4).trans j5))) (.cons c5 .nil))
      have J := ((j1.trans j2).trans (j3.trans j4)).trans (j5.trans j6)
      exact k0 l6' _ (.list [.str "grow", .str (arrS r), natD k, sheetL u]) (.ok ⟨s.past ++ [s.here], growDr s.here r k m, []⟩) (.grow l6 (by omega) bm rd (hand_far hU hh6 ww6)) tq_dn ((G12.trans g7).trans (Grow.of J)) n6 ((b7.keep J).more (by omega)) c6
    refine ⟨_, rfl, rfl, _, rfl, ite2 (fun _ => ?_) (fun _ => ?_)⟩
    · -- a cut
      refine ⟨_, rfl, _, rfl, W, _, 2, _, rfl, rfl, SqL.of (msk_sub _ _ eW), atI_nat (j := 2) rfl, A', xA, rfl, .inl (SqL.of (msk_sub _ _ eA)), ?_⟩
      rw [lA]
      refine ⟨_, _, rfl, rfl, p, _, _, rfl, by omega, by omega, B1, by omega, fun r5 H2 r0 r1 G2 B2 => ⟨_, _, rfl, rfl, ?_⟩⟩
      obtain ⟨c5, hc5⟩ : ∃ c, c = r5 - 1 := ⟨_, rfl⟩
      show gName 11 (.int (r5 - 1)) _ _ _
      rw [← hc5]
      have K2 := msk_grow hp G2
      have mo2 := mo1.box G2 B2
      have eW2 := K2 _ _ eW
      have iv : inB (.int c5) (.int 1) (.int (s.here.x.length : Nat)) = (decide ((1 : Int) ≤ c5) && decide (c5 ≤ (s.here.x.length : Nat))) := rfl
      have tc : Tq 1 (.int c5) := (tq_int (by omega)).up (by decide)
      refine ⟨_, rfl, _, _, rfl, rfl, _, rfl, ite2 (fun z1 => ?_) (fun z1 => ?_)⟩
      rotate_left
      · refine ⟨_, rfl, iteT ⟨_, rfl, by show 2 ≤ sizeLine; decide, fun l1 h1 => ?_⟩⟩
        obtain ⟨c1, j1, n1⟩ := lay mo2 h1 (.cons (.str "cut") (.cons (.int c5) .nil))
        refine ⟨_, rfl, by show 2 ≤ sizeLine; decide, fun l2 h2 => ?_⟩
        obtain ⟨c2, j2, n2⟩ := lay n1 h2 (.cons (.str "figure") (.cons (.int c5) .nil))
        refine ⟨by show 2 ≤ sizeLine; decide, fun l3 h3 => ?_⟩
        obtain ⟨c3, j3, n3⟩ := lay n2 h3 (.cons (c1.keep (msk_same j2)) (.cons c2 .nil))
        have J := (j1.trans j2).trans j3
        exact k0 l3 _ (.list [.str "cut", .int c5]) (.no (wD "figure" (.int c5))) (.cutNo (by rw [iv, decide_eq_false (fun y => z1 (decide_eq_true y))] <;> rfl)) ((tq_wX tq_fig tc).up (by decide)) ((G1.trans G2).trans (Grow.of J)) n3 ((B2.keep J).more (by omega)) c3
      have g1 : (1 : Int) ≤ c5 := of_decide_eq_true z1
      refine ⟨_, rfl, W, _, 2, _, rfl, rfl, SqL.of (msk_sub _ _ eW2), atI_nat (j := 2) rfl, A', xA, rfl, .inl (SqL.of (msk_sub _ _ (K2 _ _ eA))), ?_⟩
      rw [lA]
      refine ⟨_, _, rfl, rfl, _, rfl, ?_⟩
      by_cases z2 : c5 < ((s.here.x.length + 1 : Nat) : Int)
      rotate_left
      · rw [decide_eq_false z2]
        refine iteT ⟨_, rfl, by show 2 ≤ sizeLine; decide, fun l1 h1 => ?_⟩
        obtain ⟨c1, j1, n1⟩ := lay mo2 h1 (.cons (.str "cut") (.cons (.int c5) .nil))
        refine ⟨_, rfl, by show 2 ≤ sizeLine; decide, fun l2 h2 => ?_⟩
        obtain ⟨c2, j2, n2⟩ := lay n1 h2 (.cons (.str "figure") (.cons (.int c5) .nil))
        refine ⟨by show 2 ≤ sizeLine; decide, fun l3 h3 => ?_⟩
        obtain ⟨c3, j3, n3⟩ := lay n2 h3 (.cons (c1.keep (msk_same j2)) (.cons c2 .nil))
        have J := (j1.trans j2).trans j3
        exact k0 l3 _ (.list [.str "cut", .int c5]) (.no (wD "figure" (.int c5))) (.cutNo (by rw [iv, decide_eq_false (show ¬ c5 ≤ ((s.here.x.length : Nat) : Int) by omega), Bool.and_false])) ((tq_wX tq_fig tc).up (by decide)) ((G1.trans G2).trans (Grow.of J)) n3 ((B2.keep J).more (by omega)) c3
      rw [decide_eq_true z2]
      obtain ⟨c, rfl⟩ : ∃ c : Nat, c5 = (c : Int) := ⟨c5.toNat, by omega⟩
      refine iteF ⟨_, rfl, by show 2 ≤ sizeLine; decide, fun l1 h1 => ?_⟩
      obtain ⟨c1, j1, n1⟩ := lay mo2 h1 (.cons (.str "cut") (.cons (.int (c : Nat)) .nil))
      refine ⟨_, rfl, _, rfl, by show 1 ≤ sizeLine; decide, fun l2 h2 => ?_⟩
      obtain ⟨c2, j2, n2⟩ := lay n1 h2 (.cons ((b1.keep K2).keep (msk_same j1)) .nil)
      refine ⟨Pl, l2, xp, [.ref W], rfl, rfl, j2 _ _ (j1 _ _ (msk_sub _ _ (K2 _ _ ePl))), upd_same, Nat.le_trans (by show xp.length + 1 ≤ 1000; omega) (by decide), fun l3 h3 => ?_⟩
      have K22 := (K2.trans (msk_same j1)).trans (msk_same j2)
      obtain ⟨c3, j3, n3⟩ := lay n2 h3 (ds := (s.past ++ [s.here]).map Dr.D) (by rw [List.map_append]; exact anyL_snoc (anyL_keep K22 alP) (b1.keep K22))
      refine ⟨_, rfl, _, rfl, M, _, s.here, c, rfl, n3, b1.keep (K22.trans (msk_same j3)), gh, by omega, fun l4 H4 j4 c4 => ?_⟩
      have n4 := n3.keep j4
      refine ⟨by show 0 ≤ sizeLine; decide, fun l5 h5 => ?_⟩
      obtain ⟨c5, j5, n5⟩ := lay n4 h5 (ds := []) .nil
      refine ⟨by show 3 ≤ sizeLine; decide, fun l6 h6 => ?_⟩
      obtain ⟨c6, j6, n6⟩ := lay n5 h6 (ds := [.list ((s.past ++ [s.here]).map Dr.D), (cutDr s.here c).D, .list []]) (.cons (c3.keep (msk_same (j4.trans j5))) (.cons (c4.keep (msk_same j5)) (.cons c5 .nil)))
      refine ⟨by show 2 ≤ sizeLine; decide, fun l7 h7 => ?_⟩
      obtain ⟨c7, j7, n7⟩ := lay n6 h7 (.cons (c1.keep (msk_same (((j2.trans j3).trans j4).trans (j5.trans j6)))) (.cons c6 .nil))
      have J := (((j1.trans j2).trans (j3.trans j4)).trans (j5.trans j6)).trans j7
      exact k0 l7 _ (.list [.str "cut", natD c]) (.ok ⟨s.past ++ [s.here], cutDr s.here c, []⟩) (.cut (by omega) (by omega)) tq_dn ((G1.trans G2).trans (Grow.of J)) n7 ((B2.keep J).more (by omega)) c7
    refine ⟨_, rfl, _, _, rfl, rfl, _, rfl, ite2 (fun _ => ?_) (fun _ => ?_)⟩
    · -- undo
      refine ⟨by show 1 ≤ sizeLine; decide, fun l1 h1 => ?_⟩
      obtain ⟨c1, j1, n1⟩ := lay mo1 h1 (ds := [.str "undo"]) (.cons (.str "undo") .nil)
      refine ⟨_, rfl, by show 0 ≤ sizeLine; decide, fun l2 h2 => ?_⟩
      obtain ⟨c2, j2, n2⟩ := lay n1 h2 (ds := []) .nil
      have J2 := j1.trans j2
      refine ⟨Pl, l2, xp, rfl, rfl, J2 _ _ (msk_sub _ _ ePl), upd_same, _, rfl, ?_⟩
      by_cases e : s.past = []
      · rw [e] at alP
        cases alP
        refine iteT ⟨by show 1 ≤ sizeLine; decide, fun l3 h3 => ?_⟩
        obtain ⟨c3, j3, n3⟩ := lay n2 h3 (ds := [.str "none"]) (.cons (.str "none") .nil)
        refine ⟨by show 2 ≤ sizeLine; decide, fun l4 h4 => ?_⟩
        obtain ⟨c4, j4, n4⟩ := lay n3 h4 (.cons (c1.keep (msk_same (j2.trans j3))) (.cons c3 .nil))
        have J := J2.trans (j3.trans j4)
        exact k0 l4 _ (.list [.str "undo"]) (.no wN) (.undoNo e) tq_wN (G1.trans (Grow.of J)) n4 ((B1.keep J).more (by omega)) c4
      obtain ⟨ps, d, eps⟩ : ∃ ps d, s.past = ps ++ [d] := ⟨_, _, (List.dropLast_concat_getLast e).symm⟩
      rw [eps, List.map_append] at alP
      obtain ⟨ys, y, rfl, alY, aY⟩ := anyL_last (d := d.D) alP
      have ie : (ys ++ [y]).isEmpty = false := by cases ys <;> rfl
      rw [ie]
      have ePl2 := J2 _ _ (msk_sub _ _ ePl)
      refine iteF ⟨_, rfl, _, rfl, _, rfl, Pl, _, rfl, SqL.of ePl2, fun l3 h3 => ?_⟩
      rw [cutV_last]
      obtain ⟨c3, j3, n3⟩ := lay n2 h3 (ds := ps.map Dr.D) (anyL_keep (msk_same J2) alY)
      refine ⟨_, rfl, _, rfl, Pl, _, -1, _, rfl, rfl, SqL.of (j3 _ _ ePl2), atI_last _ _, ?_⟩
      refine ⟨_, rfl, by show 1 ≤ sizeLine; decide, fun l4 h4 => ?_⟩
      obtain ⟨c4, j4, n4⟩ := lay n3 h4 (.cons (b1.keep (msk_same (J2.trans j3))) .nil)
      refine ⟨_, rfl, l4, Ll, [.ref W], xl, rfl, rfl, upd_same, (j3.trans j4) _ _ (J2 _ _ (msk_sub _ _ eLl)), Nat.le_trans (by show 1 + xl.length ≤ 1000; omega) (by decide), fun l5 h5 => ?_⟩
      have J4 := J2.trans (j3.trans j4)
      obtain ⟨c5, j5, n5⟩ := lay n4 h5 (ds := (s.here :: s.later).map Dr.D) (.cons (b1.keep (msk_same J4)) (anyL_keep (msk_same J4) alL))
      refine ⟨by show 3 ≤ sizeLine; decide, fun l6 h6 => ?_⟩
      obtain ⟨c6, j6, n6⟩ := lay n5 h6 (ds := [.list (ps.map Dr.D), d.D, .list ((s.here :: s.later).map Dr.D)]) (.cons (c3.keep (msk_same (j4.trans j5))) (.cons (aY.keep (msk_same (J4.trans j5))) (.cons c5 .nil)))
      refine ⟨by show 2 ≤ sizeLine; decide, fun l7 h7 => ?_⟩
      obtain ⟨c7, j7, n7⟩ := lay n6 h7 (.cons (c1.keep (msk_same (((j2.trans j3).trans j4).trans (j5.trans j6)))) (.cons c6 .nil))
      have J := (J4.trans (j5.trans j6)).trans j7
      exact k0 l7 _ (.list [.str "undo"]) (.ok ⟨ps, d, s.here :: s.later⟩) (.undo eps) tq_dn (G1.trans (Grow.of J)) n7 ((B1.keep J).more (by omega)) c7
    refine ⟨_, rfl, _, _, rfl, rfl, _, rfl, ite2 (fun _ => ?_) (fun _ => ?_)⟩
    · -- redo
      refine ⟨by show 1 ≤ sizeLine; decide, fun l1 h1 => ?_⟩
      obtain ⟨c1, j1, n1⟩ := lay mo1 h1 (ds := [.str "redo"]) (.cons (.str "redo") .nil)
      refine ⟨_, rfl, by show 0 ≤ sizeLine; decide, fun l2 h2 => ?_⟩
      obtain ⟨c2, j2, n2⟩ := lay n1 h2 (ds := []) .nil
      have J2 := j1.trans j2
      refine ⟨Ll, l2, xl, rfl, rfl, J2 _ _ (msk_sub _ _ eLl), upd_same, _, rfl, ?_⟩
      cases e : s.later with
      | nil =>
        rw [e] at alL
        cases alL
        refine iteT ⟨by show 1 ≤ sizeLine; decide, fun l3 h3 => ?_⟩
        obtain ⟨c3, j3, n3⟩ := lay n2 h3 (ds := [.str "none"]) (.cons (.str "none") .nil)
        refine ⟨by show 2 ≤ sizeLine; decide, fun l4 h4 => ?_⟩
        obtain ⟨c4, j4, n4⟩ := lay n3 h4 (.cons (c1.keep (msk_same (j2.trans j3))) (.cons c3 .nil))
        have J := J2.trans (j3.trans j4)
        exact k0 l4 _ (.list [.str "redo"]) (.no wN) (.redoNo e) tq_wN (G1.trans (Grow.of J)) n4 ((B1.keep J).more (by omega)) c4
      | cons d ls =>
        rw [e] at alL
        obtain ⟨y, ys, rfl, aY, alY⟩ := anyL_uncons (d := d.D) alL
        have eLl2 := J2 _ _ (msk_sub _ _ eLl)
        refine iteF ⟨_, rfl, _, rfl, by show 1 ≤ sizeLine; decide, fun l3 h3 => ?_⟩
        obtain ⟨c3, j3, n3⟩ := lay n2 h3 (.cons (b1.keep (msk_same J2)) .nil)
        refine ⟨Pl, l3, xp, [.ref W], rfl, rfl, j3 _ _ (J2 _ _ (msk_sub _ _ ePl)), upd_same, Nat.le_trans (by show xp.length + 1 ≤ 1000; omega) (by decide), fun l4 h4 => ?_⟩
        have J3 := J2.trans j3
        obtain ⟨c4, j4, n4⟩ := lay n3 h4 (ds := (s.past ++ [s.here]).map Dr.D) (by rw [List.map_append]; exact anyL_snoc (anyL_keep (msk_same J3) alP) (b1.keep (msk_same J3)))
        have J4 := J3.trans j4
        refine ⟨_, rfl, Ll, _, 0, _, rfl, rfl, SqL.of ((j3.trans j4) _ _ eLl2), atI_nat (j := 0) rfl, ?_⟩
        refine ⟨_, rfl, _, rfl, Ll, _, rfl, SqL.of ((j3.trans j4) _ _ eLl2), fun l5 h5 => ?_⟩
        rw [show cutV (y :: ys) (some 1) none = ys from cutV_drop (c := 1) (by show 1 ≤ ys.length + 1; omega)]
        obtain ⟨c5, j5, n5⟩ := lay n4 h5 (ds := ls.map Dr.D) (anyL_keep (msk_same J4) alY)
        refine ⟨by show 3 ≤ sizeLine; decide, fun l6 h6 => ?_⟩
        obtain ⟨c6, j6, n6⟩ := lay n5 h6 (ds := [.list ((s.past ++ [s.here]).map Dr.D), d.D, .list (ls.map Dr.D)]) (.cons (c4.keep (msk_same j5)) (.cons (aY.keep (msk_same (J4.trans j5))) (.cons c5 .nil)))
        refine ⟨by show 2 ≤ sizeLine; decide, fun l7 h7 => ?_⟩
        obtain ⟨c7, j7, n7⟩ := lay n6 h7 (.cons (c1.keep (msk_same (((j2.trans j3).trans j4).trans (j5.trans j6)))) (.cons c6 .nil))
        have J := (J4.trans (j5.trans j6)).trans j7
        exact k0 l7 _ (.list [.str "redo"]) (.ok ⟨s.past ++ [s.here], d, ls⟩) (.redo e) tq_dn (G1.trans (Grow.of J)) n7 ((B1.keep J).more (by omega)) c7
    refine ⟨_, rfl, _, rfl, M, p, _, s, _, N, rfl, hp, mo1, B1, by omega, b1, g, hN, fun l H' d r du tq G2 mo2 B2 a2 => ?_⟩
    exact k0 l H' d r du tq (G1.trans G2) mo2 (B2.more (by omega)) a2
end
end K57

set_option Elab.async false
set_option linter.all false
set_option maxRecDepth 100000
set_option maxHeartbeats 800000
/-! TkGE: what a deed leads to. -/
namespace Rw
open PySem PySem.Spec PyProof.Rows L2
structure Grows (s : St) (da dn dm : PyData) (res : Res) (m : List (List Int)) : Prop where
  oa : isArD da = false → res = .no (wD "arrow" da)
  ol : isArD da = true → s.here.x.length = 6 → res = .no (wD "large" (.int 7))
  os : isArD da = true → s.here.x.length < 6 → isSzD dn = false → res = .no (wD "size" dn)
  om : ∀ (r : Bool) (n : Nat), da = .str (arrS r) → s.here.x.length < 6 → dn = natD n → n ≤ 6 → isMatD (highS r s.here.ss n : Nat) (wideS r s.here.ss n : Nat) dm = false → res = .no (wD "matrix" dm)
  ok : ∀ (r : Bool) (n : Nat), da = .str (arrS r) → s.here.x.length < 6 → dn = natD n → n ≤ 6 → isMatD (highS r s.here.ss n : Nat) (wideS r s.here.ss n : Nat) dm = true → rowsM s.here.q dm = m.map tupI ∧ res = .ok ⟨s.past ++ [s.here], growDr s.here r n m, []⟩
theorem nat_inj {n k : Nat} (h : natD n = natD k) : n = k := by
  have := PyData.int.inj h
  omega
theorem grows_ok {s : St} {r : Bool} {n : Nat} {w m : List (List Int)} (g : GoodS 100 s) (l6 : s.here.x.length < 6) (n6 : n ≤ 6) (mo : MatOk s.here.q (highS r s.here.ss n) (wideS r s.here.ss n) m) (rd : redM s.here.q w = m) :
    Grows s (.str (arrS r)) (natD n) (asL (sheetL w)) (.ok ⟨s.past ++ [s.here], growDr s.here r n m, []⟩) m := by
  rw [asL_far]
  have mt : isMatD (highS r s.here.ss n : Nat) (wideS r s.here.ss n : Nat) (sheetL w) = true := sheetL_is (q := s.here.q) (by rw [rd]; exact mo)
  refine ⟨fun z => ?_, fun _ z => ?_, fun _ _ z => ?_, fun r2 n2 e1 _ e2 _ z => ?_, fun r2 n2 e1 _ e2 _ _ => ?_⟩
  · rw [arD_is] at z; cases z
  · omega
  · rw [szD_nat n6] at z; cases z
  · cases arrS_inj (PyData.str.inj e1)
    cases nat_inj e2
    rw [mt] at z; cases z
  · cases arrS_inj (PyData.str.inj e1)
    cases nat_inj e2
    exact ⟨by rw [rows_red, rd], rfl⟩
theorem grows_no {s : St} {da dn dm due : PyData} (h : Refuse s.here da dn dm due) : Grows s da dn dm (.no due) [] := by
  rcases h with ⟨h1, rfl⟩ | ⟨h1, h2, rfl⟩ | ⟨h1, h2, h3, rfl⟩ | ⟨r, n, rfl, h2, rfl, h4, h5, rfl⟩
  · refine ⟨fun _ => rfl, fun z => ?_, fun z => ?_, fun r n e => ?_, fun r n e => ?_⟩
    · rw [h1] at z; cases z
    · rw [h1] at z; cases z
    · rw [e, arD_is] at h1; cases h1
    · rw [e, arD_is] at h1; cases h1
  · refine ⟨fun z => ?_, fun _ _ => rfl, fun _ z => ?_, fun r n _ z => ?_, fun r n _ z => ?_⟩
    · rw [h1] at z; cases z
    · omega
    · omega
    · omega
  · refine ⟨fun z => ?_, fun _ z => ?_, fun _ _ _ => rfl, fun r n _ _ e n6 => ?_, fun r n _ _ e n6 => ?_⟩
    · rw [h1] at z; cases z
    · omega
    · rw [e, szD_nat n6] at h3; cases h3
    · rw [e, szD_nat n6] at h3; cases h3
  · refine ⟨fun z => ?_, fun _ z => ?_, fun _ _ z => ?_, fun r2 n2 e1 _ e2 _ _ => rfl, fun r2 n2 e1 _ e2 _ z => ?_⟩
    · rw [arD_is] at z; cases z
    · omega
    · rw [szD_nat h4] at z; cases z
    · cases arrS_inj (PyData.str.inj e1)
      cases nat_inj e2
      rw [h5] at z; cases z
theorem due_split {s : St} {d : PyData} {res : Res} (g : GoodS 100 s) (h : Due s d res) :
    (∃ da dn dm m, d = .list [.str "grow", da, dn, dm] ∧ Hand dm ∧ Grows s da dn (asL dm) res m) ∨
    (∃ dc, d = .list [.str "cut", dc] ∧ (inB dc (.int 1) (.int (s.here.x.length : Nat)) = false → res = .no (wD "figure" dc)) ∧ ∀ c : Nat, dc = natD c → 1 ≤ c → c ≤ s.here.x.length → res = .ok ⟨s.past ++ [s.here], cutDr s.here c, []⟩) ∨
    (d = .list [.str "undo"] ∧ (s.past = [] → res = .no wN) ∧ ∀ ps e, s.past = ps ++ [e] → res = .ok ⟨ps, e, s.here :: s.later⟩) ∨
    (d = .list [.str "redo"] ∧ (s.later = [] → res = .no wN) ∧ ∀ e ls, s.later = e :: ls → res = .ok ⟨s.past ++ [s.here], e, ls⟩) := by
  cases h with
  | grow l6 n6 mo rd hd => exact .inl ⟨_, _, _, _, rfl, hd, grows_ok g l6 n6 mo rd⟩
  | growNo hd rf => exact .inl ⟨_, _, _, _, rfl, hd, grows_no rf⟩
  | cutNo e => exact .inr (.inl ⟨_, rfl, fun _ => rfl, fun c ec c1 c2 => by
      rw [ec, show inB (natD c) (.int 1) (.int (s.here.x.length : Nat)) = true from inB_yes (by omega) (by omega)] at e
      cases e⟩)
  | cut c1 c2 =>
    rename_i c0
    have iy : inB (natD c0) (.int 1) (.int (s.here.x.length : Nat)) = true := inB_yes (by omega) (by omega)
    exact .inr (.inl ⟨_, rfl, fun e => (by rw [iy] at e; cases e), fun c ec _ _ => (by rw [nat_inj ec])⟩)
  | undoNo e => exact .inr (.inr (.inl ⟨rfl, fun _ => rfl, fun ps x y => by rw [e] at y; cases ps <;> cases y⟩))
  | undo e => exact .inr (.inr (.inl ⟨rfl, fun y => by rw [y] at e; exact absurd e.symm (by simp), fun ps x y => by
      rw [e] at y
      obtain ⟨rfl, z⟩ := List.append_inj' y rfl
      cases z
      rfl⟩))
  | redoNo e => exact .inr (.inr (.inr ⟨rfl, fun _ => rfl, fun x ls y => by rw [e] at y; cases y⟩))
  | redo e => exact .inr (.inr (.inr ⟨rfl, fun y => (by rw [y] at e; cases e), fun x ls y => by
      rw [e] at y
      cases y
      rfl⟩))
theorem stD_eqv {s : St} (g : GoodD s.here) : PyData.eqv s.here.D s.here.D = true := by
  unfold Dr.D
  rw [eqv_draft, same_row]
end Rw

set_option Elab.async false
set_option linter.all false
set_option maxRecDepth 100000
set_option maxHeartbeats 2000000
/-! K57M: a deed is done, a state is held against a stream. -/
namespace K57
open PySem PySem.Spec PyProof.Rows L2 Rw
abbrev sDone : Stmt := top 55
abbrev sStands : Stmt := top 56
abbrev NDone : List Str := ["_law_stream", "_law_deed_here", "_law_handed", "_law_shown_here", "_law_told", "_law_line", "e"]
theorem scDone : FnScope NDone ["_law_stream", "_law_deed_here"] (defScope sDone) := ⟨rfl, rfl, rfl, by decide +kernel, rfl, by decide +kernel, by decide +kernel⟩
abbrev NStands : List Str := ["_law_stream", "_law_state", "_law_past", "_law_here", "_law_later"]
theorem scStands : FnScope NStands ["_law_stream", "_law_state"] (defScope sStands) := ⟨rfl, rfl, rfl, by decide +kernel, rfl, by decide +kernel, by decide +kernel⟩
/-- what is caught as what -/
structure TxC (K : PySem.W.Frag) (mg : Str → Option Value) (CR CW CG CS CM CB CU CV : Addr) : Prop where
  gR : mg "RowError" = some (.ref CR)
  ww : PySem.W.exmOne K (.ref CW) (.ref CW) = some true
  gw : PySem.W.exmOne K (.ref CG) (.ref CW) = some false
  gg : PySem.W.exmOne K (.ref CG) (.ref CG) = some true
  sw : PySem.W.exmOne K (.ref CS) (.ref CW) = some false
  sg : PySem.W.exmOne K (.ref CS) (.ref CG) = some false
  ss : PySem.W.exmOne K (.ref CS) (.ref CS) = some true
  mw : PySem.W.exmOne K (.ref CM) (.ref CW) = some false
  mg : PySem.W.exmOne K (.ref CM) (.ref CG) = some false
  ms : PySem.W.exmOne K (.ref CM) (.ref CS) = some false
  mm : PySem.W.exmOne K (.ref CM) (.ref CM) = some true
  bw : PySem.W.exmOne K (.ref CB) (.ref CW) = some false
  bg : PySem.W.exmOne K (.ref CB) (.ref CG) = some false
  bs : PySem.W.exmOne K (.ref CB) (.ref CS) = some false
  bm : PySem.W.exmOne K (.ref CB) (.ref CM) = some false
  bb : PySem.W.exmOne K (.ref CB) (.ref CB) = some true
  uw : PySem.W.exmOne K (.ref CU) (.ref CW) = some false
  ug : PySem.W.exmOne K (.ref CU) (.ref CG) = some false
  us : PySem.W.exmOne K (.ref CU) (.ref CS) = some false
  um : PySem.W.exmOne K (.ref CU) (.ref CM) = some false
  ub : PySem.W.exmOne K (.ref CU) (.ref CB) = some false
  uu : PySem.W.exmOne K (.ref CU) (.ref CU) = some true
  vw : PySem.W.exmOne K (.ref CV) (.ref CW) = some false
  vg : PySem.W.exmOne K (.ref CV) (.ref CG) = some false
  vs : PySem.W.exmOne K (.ref CV) (.ref CS) = some false
  vm : PySem.W.exmOne K (.ref CV) (.ref CM) = some false
  vb : PySem.W.exmOne K (.ref CV) (.ref CB) = some false
  vu : PySem.W.exmOne K (.ref CV) (.ref CU) = some false
  vv : PySem.W.exmOne K (.ref CV) (.ref CV) = some true
/-- the deeds of streams at hand -/
structure StrAts (P : Program) (w : World) (K : PySem.W.Frag) (mg : Str → Option Value) (base : Heap) (D C CW CG CS CM CB CU CV : Addr) : Prop where
  grow : ∃ (f : Addr) (fd : FuncData), Meth K D "grow" f ∧ FnOk P w K mg base (L2.CX P w) 9 f fd ["self", "arrow", "size", "matrix"] (spGrowM D C CW CG CS CM) ∧ Binds K fd ["self", "arrow", "size", "matrix"] []
  cut : ∃ (f : Addr) (fd : FuncData), Meth K D "cut" f ∧ FnOk P w K mg base (L2.CX P w) 9 f fd ["self", "count"] (spCutM D C CB) ∧ Binds K fd ["self", "count"] []
  undo : ∃ (f : Addr) (fd : FuncData), Meth K D "undo" f ∧ FnOk P w K mg base (L2.CX P w) 4 f fd ["self"] (spUndo D C CU) ∧ Binds K fd ["self"] []
  redo : ∃ (f : Addr) (fd : FuncData), Meth K D "redo" f ∧ FnOk P w K mg base (L2.CX P w) 4 f fd ["self"] (spRedo D C CV) ∧ Binds K fd ["self"] []
section
variable {P : Program} {w : World} {K : PySem.W.Frag} {mg : Str → Option Value} {base : Heap} {C D CR CW CG CS CM CB CU CV : Addr}
theorem okStands {f : Addr} {fd : FuncData} (F : Fun K "_law_stands" "_law_stands" sStands f fd) (zl : mg "len" = none) (MR : Meth0At P w K mg base D "row" 1 (spRowS D C)) (PU : PropAt P w K mg base D "undoable" (spUndoable D C)) (PR : PropAt P w K mg base D "redoable" (spRedoable D C))
    (L : ∃ (f : Addr) (fd : FuncData), PySem.W.findIn K (.ref D) "__len__" = some (some (.ref f)) ∧ PySem.W.isFn K (.ref f) = true ∧ FnOk P w K mg base CX0 3 f fd ["self"] (spLenS D C) ∧ Binds K fd ["self"] [])
    (GS : Own P w K mg base CX0 3 "_law_shown" ["_law_row"] [] (spShownD C)) : FnOk P w K mg base CX0 5 f fd ["_law_stream", "_law_state"] (spStands D C) := by
  obtain ⟨fl, fdl, hl, hfn, Fl, bl⟩ := L
  refine F.ok scStands (fun vs H Q E h => ?_) (fun cdv A outer s H vs Q E hr h => ?_)
  · obtain ⟨a, v, s, N, rfl, _⟩ := h
    rfl
  · obtain ⟨a, v, s, N, rfl, st, g, hN, an, k0⟩ := h
    refine ⟨_, (pss_cons (ps_asg (pv 1) (pg_lst rfl (pgs_cons (pg_name (i := 2) scStands.nd rfl (Or.inl rfl)) (pgs_cons (pg_name (i := 3) scStands.nd rfl (Or.inl rfl)) (pgs_cons (pg_name (i := 4) scStands.nd rfl (Or.inl rfl)) pgs_nil)))))
      (pss_cons (ps_if (PW.pt (pw_or (pt_cmpR (op_neD hr.units) (pe_own GS (hr.mono (by decide)) pass0 (pa_cons (pe_mth0 MR (hr.mono (by decide)) (pv 0)) pa_nil)) (pv 3) (by rfl)) (pw_or1 (pt_cmpR op_ne (pe_callB (call_lenO hl hfn Fl hr bl) (by rfl) zl (by decide +kernel) (pa_cons (pv 0) pa_nil)) (pe_callB call_len_seq (by rfl) zl (by decide +kernel) (pa_cons (pe_ix ix_list (pv 3) pe_int (fun _ _ => rfl)) pa_nil)) (nomark _))))) (pss_one (ps_ret pe_bl)) pss_nil)
      (pss_one (ps_ret (pe_cmpR (op_eqD hr.units) (pe_lst (pa_cons (pe_prp PU (hr.mono (by decide)) (pv 0)) (pa_cons (pe_prp PR (hr.mono (by decide)) (pv 0)) pa_nil))) (pe_lst (pa_cons (pe_callB call_len_seq (by rfl) zl (by decide +kernel) (pa_cons (pv 2) pa_nil)) (pa_cons (pe_callB call_len_seq (by rfl) zl (by decide +kernel) (pa_cons (pv 4) pa_nil)) pa_nil))) (by rfl)))))), ?_⟩
    have gn := g.n
    have gh := g.h
    have sl := gh.d.sl
    have lx := gh.p.l
    obtain ⟨Sv, x0, x1, x2, rfl, eSv, b0, b1, b2⟩ := any_list3 an
    obtain ⟨Pl, xp, rfl, ePl, alP⟩ := any_listD b0
    obtain ⟨Ll, xl, rfl, eLl, alL⟩ := any_listD b2
    obtain ⟨W, w0, w1, w2, w3, rfl, eW, _, _, a2, _⟩ := any_list4 b1
    obtain ⟨A', xA, rfl, eA, alA⟩ := any_listD a2
    have lA := anyL_len alA
    rw [List.length_map, sl] at lA
    have lP := anyL_len alP
    rw [List.length_map] at lP
    have lL := anyL_len alL
    rw [List.length_map] at lL
    obtain ⟨dx, fs, ea⟩ := st.ins
    obtain ⟨dx, R, tp, tu, ps, us, i⟩ := id st
    refine ⟨_, rfl, Sv, _, rfl, SqL.of eSv, rfl, _, _, rfl, _, _, rfl, _, _, rfl, rfl, ?_⟩
    refine ⟨_, rfl, a, dx, _, rfl, i.o, rfl, a, s, rfl, st, fun R rR => ?_⟩
    refine ⟨R, s.here, rfl, rR, gh, fun l H1 k1 al => ?_⟩
    have hd := dep_draft gh
    have lay0 := lay_draft gh.p s.here.q s.here.ss s.here.ms
    refine ⟨_, rfl, ne_two al (b1.keep k1) lay0 lay0 hd hd ?_⟩
    rw [stD_eqv gh]
    refine ⟨_, rfl, iteF ?_⟩
    have st1 := st.keep k1
    refine ⟨_, rfl, a, dx, _, rfl, k1 _ _ i.o, a, s, rfl, st1, by omega, _, rfl, by omega, by omega, ?_⟩
    refine ⟨_, rfl, W, _, 2, _, rfl, rfl, SqL.of (k1 _ _ eW), atI_nat (j := 2) rfl, A', xA, rfl, .inl (SqL.of (k1 _ _ eA)), rfl, _, rfl, ?_⟩
    rw [lA, sl, decide_eq_true rfl]
    refine iteF ?_
    refine ⟨_, rfl, a, dx, _, rfl, k1 _ _ i.o, a, s, rfl, st1, by omega, ?_⟩
    refine ⟨_, rfl, a, dx, _, rfl, k1 _ _ i.o, a, s, rfl, st1, by omega, ?_⟩
    refine ⟨by show 2 ≤ sizeLine; decide, fun l1 h1 => ?_⟩
    have k2 := same_new (o := .lst [.int (s.past.length : Nat), .int (s.later.length : Nat)]) h1
    have c1 : Any (upd H1 l1 (.lst [.int (s.past.length : Nat), .int (s.later.length : Nat)])) (.ref l1) (.list [natD s.past.length, natD s.later.length]) := .lst upd_same (.cons (.int _) (.cons (.int _) .nil))
    have k12 := k1.trans k2
    refine ⟨_, rfl, Pl, xp, rfl, .inl (SqL.of (k12 _ _ ePl)), ?_⟩
    refine ⟨_, rfl, Ll, xl, rfl, .inl (SqL.of (k12 _ _ eLl)), ?_⟩
    rw [lP, lL]
    refine ⟨by show 2 ≤ sizeLine; decide, fun l2 h2 => ?_⟩
    have k3 := same_new (o := .lst [.int (s.past.length : Nat), .int (s.later.length : Nat)]) h2
    have c2 : Any (upd (upd H1 l1 (.lst [.int (s.past.length : Nat), .int (s.later.length : Nat)])) l2 (.lst [.int (s.past.length : Nat), .int (s.later.length : Nat)])) (.ref l2) (.list [natD s.past.length, natD s.later.length]) := .lst upd_same (.cons (.int _) (.cons (.int _) .nil))
    have cl : (PyData.list [natD s.past.length, natD s.later.length]).canLay0 = true := lay_list fun d hd => by
      rcases List.mem_cons.mp hd with z | z
      · rw [z]; first | rfl | simp only [natD, PyData.canLay0]
      · rw [List.mem_singleton.mp z]; first | rfl | simp only [natD, PyData.canLay0]
    have dl : (PyData.list [natD s.past.length, natD s.later.length]).depth ≤ 64 := by
      have : PyData.depthAll [natD s.past.length, natD s.later.length] ≤ 3 := dep_le fun d hd => by
        rcases List.mem_cons.mp hd with z | z
        · rw [z]; exact dep_int _
        · rw [List.mem_singleton.mp z]; exact dep_int _
      simp only [PyData.depth]
      omega
    have ev : PyData.eqv (.list [natD s.past.length, natD s.later.length]) (.list [natD s.past.length, natD s.later.length]) = true := by
      rw [PyData.eqv, PyData.eqvAll, PyData.eqvAll, PyData.eqvAll, eqv_nat, eqv_nat, decide_eq_true rfl, decide_eq_true rfl] <;> rfl
    refine eq_two (c1.keep k3) c2 cl cl dl dl ?_
    rw [ev]
    exact k0 _ (k12.trans k3)
end
end K57

set_option Elab.async false
set_option linter.all false
set_option maxRecDepth 100000
set_option maxHeartbeats 800000
/-! TkGF: lists read, walked and lengthened in a try's body and in its clauses (the fragment given by hand). -/
namespace Rw
open PySem PySem.Spec PyProof.Rows L2
section
variable {X : Cx}
theorem ixL (K : PySem.W.Frag) (e : X.K = K := by rfl) : IxR X (rIxL K) := by
  subst e
  exact ix_list
theorem piL (K : PySem.W.Frag) {tg l : Expr} {tl : TE} (hl : PE X l tl) (e : X.K = K := by rfl) : PI X tg l (iList K tl) := by
  subst e
  exact pi_list hl
theorem pe_app (K : PySem.W.Frag) {o e : Expr} {es : List Expr} {to : TE} {t : TA} {apos cpos : Pos} (ho : PE X o to) (ha : PA X (e :: es) t) (eK : X.K = K := by rfl)
    (hbase : attributeBase o "append" X.env (eval o X.env) = eval o X.env := by rfl)
    (hfew : ((backTo cpos (starEach (e :: es) X.env)).all (fun x => !x.1) && (backToKw cpos (keywordEach [] X.env)).all (fun x => x.1.isSome)
      && decide ((e :: es).length + ([] : List Keyword).length + (if ([] : List Keyword).isEmpty then 0 else 1) < 30)) = true := by rfl)
    (hline : (apos.endLine == cpos.line) = true := by rfl) (hs : starEach (e :: es) X.env = (false, eval e X.env) :: starEach es X.env := by rfl) (hplain : (backTo cpos (starEach es X.env)).any (·.1) = false := by rfl) :
    PE X (.Call (.Attribute o "append" apos) (e :: es) [] cpos) (tBM K "list" rAppend to t) := by
  subst eK
  exact pe_bm PySem.F.plainAttrs_list PySem.F.slot_list_append PySem.F.type_list_append mt_append ho ha hbase hfew hline hs hplain
end
end Rw

set_option Elab.async false
set_option linter.all false
set_option maxRecDepth 100000
set_option maxHeartbeats 2000000
/-! K57P: a deed is done. -/
namespace K57
open PySem PySem.Spec PyProof.Rows L2 Rw
section
variable {P : Program} {w : World} {K : PySem.W.Frag} {mg : Str → Option Value} {base : Heap} {C D CR CW CG CS CM CB CU CV : Addr}
set_option pp.maxSteps 300 in
theorem okDone {f : Addr} {fd : FuncData} (F : Fun K "_law_done" "_law_done" sDone f fd) (zr : mg "repr" = none) (cl : Cls K D) (SA : StrAts P w K mg base D C CW CG CS CM CB CU CV) (TC : TxC K mg CR CW CG CS CM CB CU CV)
    (eW : Err K mg "InvalidArrow" CW) (eG : Err K mg "TooLarge" CG) (eS : Err K mg "InvalidSize" CS) (eM : Err K mg "InvalidMatrix" CM) (eB : Err K mg "InvalidNumber" CB) (eU : ErrN K mg "NothingToUndo" CU) (eV : ErrN K mg "NothingToRedo" CV)
    (GA : Own P w K mg base CX0 1 "_law_as_lists" ["_law_thing"] [] spAsL) : FnG P w K mg base CX0 10 f fd ["_law_stream", "_law_deed_here"] (spDone D C) := by
  obtain ⟨fg, fdg, hg, Fg, bg⟩ := SA.grow
  obtain ⟨fc, fdc, hc, Fc, bc⟩ := SA.cut
  obtain ⟨fu, fdu, hu, Fu, bu⟩ := SA.undo
  obtain ⟨fv, fdv, hv, Fv, bv⟩ := SA.redo
  refine funG F scDone (fun vs H Q E h => ?_) (fun cdv A outer sh H vs Q E gu hr h => ?_)
  · obtain ⟨a, v, s, d, r, N, rfl, _⟩ := h
    rfl
  · obtain ⟨a, v, s, d, res, N, rfl, st, g, hN, an, du, k0⟩ := h
    refine ⟨_, (pss_one (ps_tries rfl rfl scDone.nd takes0
      (fun W pn xe tk pw => (pss_cons (ps_if (pt_cmpR op_eq (pe_ix (ixL K) (pv 1) pe_int (fun _ _ => rfl)) pe_str (nomark _)) (pss_cons (ps_set (i := 2) scDone.nd rfl (Or.inl rfl) (pe_own GA (hr.mono (by decide)) pass0 (pa_cons (pe_ix (ixL K) (pv 1) pe_int (fun _ _ => rfl)) pa_nil)))
          (pss_cons (ps_set (i := 3) scDone.nd rfl (Or.inl rfl) (pe_callB (call_reprA gu hr.units) (by rfl) zr (by decide +kernel) (pa_cons (pv 2) pa_nil)))
          (pss_cons (ps_set (i := 4) scDone.nd rfl (Or.inl rfl) (pe_methS (W := W) (pv 0) cl hg Fg hr bg .nil (fun σ => passAt tk σ) (pa_cons (pe_ix (ixL K) (pv 1) pe_int (fun _ _ => rfl)) (pa_cons (pe_ix (ixL K) (pv 1) pe_int (fun _ _ => rfl)) (pa_cons (pv 2) pa_nil)))))
          (pss_cons (ps_if (pt_cmpR op_ne (pe_callB (call_reprA gu hr.units) (by rfl) zr (by decide +kernel) (pa_cons (pv 2) pa_nil)) (pv 3) (nomark _)) (pss_one (ps_ret (pe_lst (pa_cons pe_str pa_nil)))) pss_nil)
          (pss_cons (ps_for pw rfl (piL K (pv 2)) (pg_name (i := 5) scDone.nd rfl (Or.inl rfl)) (pss_one (ps_expr (pe_app K (pv 5) (pa_cons pe_int pa_nil)))))
          (pss_cons (ps_expr (pe_app K (pv 2) (pa_cons pe_str pa_nil)))
          (pss_one (ps_ret (pe_lst (pa_cons pe_str (pa_cons (pv 4) pa_nil))))))))))) pss_nil)
        (pss_cons (ps_if (pt_cmpR op_eq (pe_ix (ixL K) (pv 1) pe_int (fun _ _ => rfl)) pe_str (nomark _)) (pss_one (ps_ret (pe_lst (pa_cons pe_str (pa_cons (pe_methS (W := W) (pv 0) cl hc Fc hr bc .nil (fun σ => passAt tk σ) (pa_cons (pe_ix (ixL K) (pv 1) pe_int (fun _ _ => rfl)) pa_nil)) pa_nil))))) pss_nil)
        (pss_one (ps_ret (pe_ifExp (pt_cmpR op_eq (pe_ix (ixL K) (pv 1) pe_int (fun _ _ => rfl)) pe_str (nomark _)) (pe_lst (pa_cons pe_str (pa_cons (pe_methS0 (W := W) (pv 0) cl hu Fu (hr.mono (by decide)) bu .nil (fun σ => passAt tk σ)) pa_nil))) (pe_lst (pa_cons pe_str (pa_cons (pe_methS0 (W := W) (pv 0) cl hv Fv (hr.mono (by decide)) bv .nil (fun σ => passAt tk σ)) pa_nil)))))))))
      (.as (i := 6) rfl rfl ⟨rfl, by decide, .inl eW.g⟩ (fun a oe cls d pn hz hf => pss_one (ps_ret (pe_lst (pa_cons pe_str (pa_cons (pe_xf eW.xf eW.no hz hf (pv 6)) pa_nil)))))
      (.as (i := 6) rfl rfl ⟨rfl, by decide, .inl eG.g⟩ (fun a oe cls d pn hz hf => pss_one (ps_ret (pe_lst (pa_cons pe_str (pa_cons (pe_xf eG.xf eG.no hz hf (pv 6)) pa_nil)))))
      (.as (i := 6) rfl rfl ⟨rfl, by decide, .inl eS.g⟩ (fun a oe cls d pn hz hf => pss_one (ps_ret (pe_lst (pa_cons pe_str (pa_cons (pe_xf eS.xf eS.no hz hf (pv 6)) pa_nil)))))
      (.as (i := 6) rfl rfl ⟨rfl, by decide, .inl eM.g⟩ (fun a oe cls d pn hz hf => pss_one (ps_ret (pe_lst (pa_cons pe_str (pa_cons (pe_xf eM.xf eM.no hz hf (pv 6)) pa_nil)))))
      (.as (i := 6) rfl rfl ⟨rfl, by decide, .inl eB.g⟩ (fun a oe cls d pn hz hf => pss_one (ps_ret (pe_lst (pa_cons pe_str (pa_cons (pe_xf eB.xf eB.no hz hf (pv 6)) pa_nil)))))
      (.anon ⟨rfl, by decide, .inl eU.g⟩ (fun a oe cls d pn hz hf => pss_one (ps_ret (pe_ifExp (pt_cmpR op_eq (pe_ix (ixL K) (pv 1) pe_int (fun _ _ => rfl)) pe_str (nomark _)) (pe_lst (pa_cons pe_str pa_nil)) (pe_lst (pa_cons pe_str pa_nil)))))
      (.anon ⟨rfl, by decide, .inl eV.g⟩ (fun a oe cls d pn hz hf => pss_one (ps_ret (pe_ifExp (pt_cmpR op_eq (pe_ix (ixL K) (pv 1) pe_int (fun _ _ => rfl)) pe_str (nomark _)) (pe_lst (pa_cons pe_str pa_nil)) (pe_lst (pa_cons pe_str pa_nil)))))
      (.anon ⟨rfl, by decide, .inl TC.gR⟩ (fun a oe cls d pn hz hf => pss_one (ps_ret (pe_lst (pa_cons pe_str pa_nil)))) .nil)))))))))), ?_⟩
    have gn := g.n
    have gh := g.h
    obtain ⟨dx, Rr, tp, tu, ps, us, i⟩ := id st
    have g100 := g.more hN
    rcases due_split g100 du with ⟨da, dn, dm, m, rfl, hd, gr⟩ | ⟨dc, rfl, cn, cy⟩ | ⟨rfl, un, uy⟩ | ⟨rfl, rn, ry⟩
    · -- grow
      obtain ⟨W, v0, v1, v2, v3, rfl, eW, a0, a1, a2, a3⟩ := any_list4 an
      cases a0
      refine ⟨_, rfl, W, _, 0, _, rfl, rfl, SqL.of eW, atI_nat (j := 0) rfl, rfl, _, rfl, iteT ?_⟩
      refine ⟨_, rfl, W, _, 3, _, rfl, rfl, SqL.of eW, atI_nat (j := 3) rfl, [], v3, dm, rfl, mok_nil, a3.keep msk_nil, hd.s, hd.n, hd.i, fun u H1 k1 au fr => ?_⟩
      have au := au.keep msk_sub
      obtain ⟨t1, t2, t3⟩ := tq_fine (hd.q.up (by decide))
      refine ⟨_, rfl, u, _, rfl, au, t1, t2, t3, ?_⟩
      have eW1 := k1 _ _ eW
      have st1 := st.keep k1
      refine ⟨_, rfl, a, dx, _, rfl, k1 _ _ i.o, rfl, _, rfl, W, _, 1, _, rfl, rfl, SqL.of eW1, atI_nat (j := 1) rfl, _, rfl, W, _, 2, _, rfl, rfl, SqL.of eW1, atI_nat (j := 2) rfl, _, rfl, ?_⟩
      refine ⟨a, v1, v2, u, s, da, dn, asL dm, m, rfl, st1, gh, by omega, a1.keep k1, a2.keep k1, au, hd.f, ?_, ?_, ?_, ?_, ?_⟩
      · intro z dd H2 sm hdd hx
        refine ⟨true, TC.ww, fun _ ae he => ?_, fun z => (nomatch z)⟩
        refine ⟨_, rfl, rfl, rfl, dd, _, v1, rfl, hx, rfl, (by show 2 ≤ sizeLine; decide), fun l hl => ?_⟩
        have e := gr.oa z
        subst e
        have kq := (k1.trans sm)
        exact k0 l _ (Grow.of (kq.trans (same_new hl))) (st.keep (kq.trans (same_new hl))) (pair_any hl ((a1.keep k1).keep sm))
      · intro z1 z2 dd H2 sm hdd hx
        refine ⟨false, TC.gw, fun z => (nomatch z), fun _ => ⟨true, TC.gg, fun _ ae he => ?_, fun z => (nomatch z)⟩⟩
        refine ⟨_, rfl, rfl, rfl, dd, _, .int 7, rfl, hx, rfl, (by show 2 ≤ sizeLine; decide), fun l hl => ?_⟩
        have e := gr.ol z1 z2
        subst e
        have kq := (k1.trans sm)
        exact k0 l _ (Grow.of (kq.trans (same_new hl))) (st.keep (kq.trans (same_new hl))) (pair_any hl (.int 7))
      · intro z1 z2 z3 dd H2 sm hdd hx
        refine ⟨false, TC.sw, fun z => (nomatch z), fun _ => ⟨false, TC.sg, fun z => (nomatch z), fun _ => ⟨true, TC.ss, fun _ ae he => ?_, fun z => (nomatch z)⟩⟩⟩
        refine ⟨_, rfl, rfl, rfl, dd, _, v2, rfl, hx, rfl, (by show 2 ≤ sizeLine; decide), fun l hl => ?_⟩
        have e := gr.os z1 z2 z3
        subst e
        have kq := (k1.trans sm)
        exact k0 l _ (Grow.of (kq.trans (same_new hl))) (st.keep (kq.trans (same_new hl))) (pair_any hl ((a2.keep k1).keep sm))
      · intro r n v' H0 z1 z2 z3 z4 z5 kx av dd H2 sm hdd hx
        refine ⟨false, TC.mw, fun z => (nomatch z), fun _ => ⟨false, TC.mg, fun z => (nomatch z), fun _ => ⟨false, TC.ms, fun z => (nomatch z), fun _ => ⟨true, TC.mm, fun _ ae he => ?_, fun z => (nomatch z)⟩⟩⟩⟩
        refine ⟨_, rfl, rfl, rfl, dd, _, v', rfl, hx, rfl, (by show 2 ≤ sizeLine; decide), fun l hl => ?_⟩
        have e := gr.om r n z1 z2 z3 z4 z5
        subst e
        have kq := ((k1.trans kx).trans sm)
        exact k0 l _ (Grow.of (kq.trans (same_new hl))) (st.keep (kq.trans (same_new hl))) (pair_any hl (av.keep sm))
      · intro r n z1 z2 z3 z4 z5
        obtain ⟨q1, q2⟩ := gr.ok r n z1 z2 z3 z4 z5
        refine ⟨q1, fun H2 g2 st2 => ?_⟩
        have kp := st1.keeps g2
        have au2 := au.keeps kp
        refine ⟨_, rfl, u, _, rfl, au2, t1, t2, t3, _, rfl, rfl, _, rfl, ?_⟩
        rw [str_same]
        refine iteF ?_
        obtain ⟨ds, rfl⟩ : ∃ ds, dm = .list ds := by
          have h1 : isSeqD (asL dm) = true := (mat_parts z5).1
          have h2 := hd.s
          cases dm with
          | list ds => exact ⟨ds, rfl⟩
          | none => cases h1
          | str x => cases h1
          | _ => cases h2
        obtain ⟨l, acc, rfl, hl, el, lacc, its⟩ := fr ds rfl
        have el2 := kp.l _ _ el
        have G02 : Grow a H H2 := (Grow.of k1).trans g2
        subst q2
        refine ⟨_, rfl, l, rfl, ⟨_, SqL.of el2⟩, ?_⟩
        refine for_list (K := K) (a := l) (xs := acc) (fun j σ' H' => (∃ y5, σ' = [some (.ref a), some (.ref W), some (.ref l), some (.str (asL (.list ds)).shown), some .non, y5, none]) ∧ Grow a H H' ∧ Lt H2 H' ∧ H' l = some (.lst acc) ∧ ∀ v, v ∈ acc → ∃ b xs, v = .ref b ∧ H b = none ∧ b ≠ l ∧ H' b = some (.lst xs) ∧ xs.length ≤ 1000 + j) ⟨⟨_, rfl⟩, G02, Lt.refl, el2, fun v hv => ?_⟩ (fun j σ' H' _ h => SqL.of h.2.2.2.1) ?_ ?_
        · obtain ⟨b, xs, h1, h2, h3, h4, h5⟩ := its v hv
          exact ⟨b, xs, h1, h2, h3, kp.l _ _ h4, by omega⟩
        · rintro j y σ' Hx hj ⟨⟨y5, rfl⟩, gx, lt, ex, itx⟩
          obtain ⟨b, xs, rfl, hb, bl, eb, lb⟩ := itx y (List.mem_of_getElem? hj)
          have jl : j < acc.length := (List.getElem?_eq_some_iff.mp hj).1
          refine ⟨_, rfl, .inl ⟨rfl, _, SqL.of eb⟩, b, xs, _, rfl, rfl, eb, Nat.lt_of_le_of_lt (by omega : xs.length ≤ 10000) (by decide), ⟨_, rfl⟩, fun c o ne e => ?_, lt.trans (Lt.put eb), ?_, fun v hv => ?_⟩
          · rw [upd_ne (ne_of_none e hb)]
            exact gx c o ne e
          · rw [upd_ne bl.symm]
            exact ex
          · obtain ⟨c, zs, rfl, hc, cl2, ec, lc⟩ := itx v hv
            by_cases zz : c = b
            · subst zz
              exact ⟨c, _, rfl, hc, cl2, upd_same, by rw [List.length_append]; show _ + 1 ≤ _; omega⟩
            · exact ⟨c, zs, rfl, hc, cl2, by rw [upd_ne zz]; exact ec, by omega⟩
        rintro σ' Hx ⟨⟨y5, rfl⟩, gx, lt, ex, itx⟩
        refine ⟨_, rfl, .inl ⟨rfl, _, SqL.of ex⟩, l, acc, _, rfl, rfl, ex, Nat.lt_of_le_of_lt (by omega : acc.length ≤ 10000) (by decide), ?_⟩
        refine ⟨_, rfl, by show 2 ≤ sizeLine; decide, fun l2 h2 => ?_⟩
        have gy : Grow a H (upd Hx l (.lst (acc ++ [.str "more"]))) := fun c o ne e => by
          rw [upd_ne (ne_of_none e hl)]
          exact gx c o ne e
        have k2 := same_new (o := .lst [.str "done", .non]) h2
        exact k0 l2 _ (gy.trans (Grow.of k2)) ((st2.lt (lt.trans (Lt.put ex))).keep k2) (.lst upd_same (.cons (.str _) (.cons .non .nil)))
    · -- cut
      obtain ⟨W, v0, v1, rfl, eW, a0, a1⟩ := any_list2 an
      cases a0
      refine ⟨_, rfl, W, _, 0, _, rfl, rfl, SqL.of eW, atI_nat (j := 0) rfl, rfl, _, rfl, iteF ?_⟩
      refine ⟨_, rfl, W, _, 0, _, rfl, rfl, SqL.of eW, atI_nat (j := 0) rfl, rfl, _, rfl, iteT ?_⟩
      refine ⟨_, rfl, a, dx, _, rfl, i.o, rfl, _, rfl, W, _, 1, _, rfl, rfl, SqL.of eW, atI_nat (j := 1) rfl, ?_⟩
      refine ⟨a, v1, s, dc, rfl, st, gh, by omega, a1, ?_, ?_⟩
      · intro z dd H2 sm hdd hx
        refine ⟨false, TC.bw, fun z => (nomatch z), fun _ => ⟨false, TC.bg, fun z => (nomatch z), fun _ => ⟨false, TC.bs, fun z => (nomatch z), fun _ => ⟨false, TC.bm, fun z => (nomatch z), fun _ => ⟨true, TC.bb, fun _ ae he => ?_, fun z => (nomatch z)⟩⟩⟩⟩⟩
        refine ⟨_, rfl, rfl, rfl, dd, _, v1, rfl, hx, rfl, (by show 2 ≤ sizeLine; decide), fun l hl => ?_⟩
        have e := cn z
        subst e
        have kq := sm
        exact k0 l _ (Grow.of (kq.trans (same_new hl))) (st.keep (kq.trans (same_new hl))) (pair_any hl (a1.keep sm))
      · intro c ec c1 c2 H2 g2 st2
        have e := cy c ec c1 c2
        subst e
        refine ⟨by show 2 ≤ sizeLine; decide, fun l hl => ?_⟩
        have k2 := same_new (o := .lst [.str "done", .non]) hl
        exact k0 l _ (g2.trans (Grow.of k2)) (st2.keep k2) (.lst upd_same (.cons (.str _) (.cons .non .nil)))
    · -- undo
      obtain ⟨W, v0, rfl, eW, a0⟩ := any_list1 an
      cases a0
      refine ⟨_, rfl, W, _, 0, _, rfl, rfl, SqL.of eW, atI_nat (j := 0) rfl, rfl, _, rfl, iteF ?_⟩
      refine ⟨_, rfl, W, _, 0, _, rfl, rfl, SqL.of eW, atI_nat (j := 0) rfl, rfl, _, rfl, iteF ?_⟩
      refine ⟨_, rfl, W, _, 0, _, rfl, rfl, SqL.of eW, atI_nat (j := 0) rfl, rfl, _, rfl, iteT ?_⟩
      refine ⟨_, rfl, a, dx, _, rfl, i.o, rfl, a, s, rfl, st, by omega, by omega, ?_, ?_⟩
      · intro z H2 sm
        refine ⟨false, TC.uw, fun z => (nomatch z), fun _ => ⟨false, TC.ug, fun z => (nomatch z), fun _ => ⟨false, TC.us, fun z => (nomatch z), fun _ => ⟨false, TC.um, fun z => (nomatch z), fun _ => ⟨false, TC.ub, fun z => (nomatch z), fun _ => ⟨true, TC.uu, fun _ ae he => ?_, fun z => (nomatch z)⟩⟩⟩⟩⟩⟩
        refine ⟨_, rfl, W, _, 0, _, rfl, rfl, SqL.of (sm _ _ eW), atI_nat (j := 0) rfl, rfl, _, rfl, iteT ?_⟩
        refine ⟨by show 1 ≤ sizeLine; decide, fun l hl => ?_⟩
        have e := un z
        subst e
        have kq := sm
        exact k0 l _ (Grow.of (kq.trans (same_new hl))) (st.keep (kq.trans (same_new hl))) (.lst upd_same (.cons (.str _) .nil))
      · intro qs e he H2 g2 st2
        have e := uy qs e he
        subst e
        refine ⟨by show 2 ≤ sizeLine; decide, fun l hl => ?_⟩
        have k2 := same_new (o := .lst [.str "done", .non]) hl
        exact k0 l _ (g2.trans (Grow.of k2)) (st2.keep k2) (.lst upd_same (.cons (.str _) (.cons .non .nil)))
    · -- redo
      obtain ⟨W, v0, rfl, eW, a0⟩ := any_list1 an
      cases a0
      refine ⟨_, rfl, W, _, 0, _, rfl, rfl, SqL.of eW, atI_nat (j := 0) rfl, rfl, _, rfl, iteF ?_⟩
      refine ⟨_, rfl, W, _, 0, _, rfl, rfl, SqL.of eW, atI_nat (j := 0) rfl, rfl, _, rfl, iteF ?_⟩
      refine ⟨_, rfl, W, _, 0, _, rfl, rfl, SqL.of eW, atI_nat (j := 0) rfl, rfl, _, rfl, iteF ?_⟩
      refine ⟨_, rfl, a, dx, _, rfl, i.o, rfl, a, s, rfl, st, by omega, by omega, ?_, ?_⟩
      · intro z H2 sm
        refine ⟨false, TC.vw, fun z => (nomatch z), fun _ => ⟨false, TC.vg, fun z => (nomatch z), fun _ => ⟨false, TC.vs, fun z => (nomatch z), fun _ => ⟨false, TC.vm, fun z => (nomatch z), fun _ => ⟨false, TC.vb, fun z => (nomatch z), fun _ => ⟨false, TC.vu, fun z => (nomatch z), fun _ => ⟨true, TC.vv, fun _ ae he => ?_, fun z => (nomatch z)⟩⟩⟩⟩⟩⟩⟩
        refine ⟨_, rfl, W, _, 0, _, rfl, rfl, SqL.of (sm _ _ eW), atI_nat (j := 0) rfl, rfl, _, rfl, iteT ?_⟩
        refine ⟨by show 1 ≤ sizeLine; decide, fun l hl => ?_⟩
        have e := rn z
        subst e
        have kq := sm
        exact k0 l _ (Grow.of (kq.trans (same_new hl))) (st.keep (kq.trans (same_new hl))) (.lst upd_same (.cons (.str _) .nil))
      · intro e ls he H2 g2 st2
        have e := ry e ls he
        subst e
        refine ⟨by show 2 ≤ sizeLine; decide, fun l hl => ?_⟩
        have k2 := same_new (o := .lst [.str "done", .non]) hl
        exact k0 l _ (g2.trans (Grow.of k2)) (st2.keep k2) (.lst upd_same (.cons (.str _) (.cons .non .nil)))
end
end K57

set_option Elab.async false
set_option linter.all false
set_option maxRecDepth 100000
set_option maxHeartbeats 800000
/-! TkGG: streams and the states that they are held against, all at hand. -/
namespace Rw
open PySem PySem.Spec PyProof.Rows L2
theorem same_on {Hs H H' : Hp} {x : Addr} (s : Same Hs H) (hx : Hs x = none) (g : Grow x H H') : Same Hs H' := fun b o e => g b o (ne_of_none e hx) (s b o e)
theorem msk_keeps {M : List Addr} {H H' : Hp} {a C dx : Addr} {fs : List (Str × V)} (e : H a = some (.ins C dx fs)) (g : Grow a H H') : Keeps (msk M H) (msk M H') := by
  have k := keeps_ins e g
  exact ⟨fun b xs h => by
    obtain ⟨z, y⟩ := msk_at h
    rw [msk_out z]
    exact k.l b xs y, fun b xs h => by
    obtain ⟨z, y⟩ := msk_at h
    rw [msk_out z]
    exact k.t b xs y, fun b kvs h => by
    obtain ⟨z, y⟩ := msk_at h
    rw [msk_out z]
    exact k.d b kvs y⟩
/-- the box, the streams, the states -/
structure WebS (D C : Addr) (Hs H : Hp) (p T S : Addr) (n N : Nat) (as : List Addr) (vs : List V) (ds ss : List St) : Prop where
  sm : Same Hs H
  bx : Bx H p n
  eT : H T = some (.lst (as.map V.ref))
  eS : H S = some (.lst vs)
  dt : AnyL (msk [p, S, T] H) vs (ds.map St.D)
  la : as.length = ss.length
  st : ∀ (i : Nat) (a : Addr) (s : St), as[i]? = some a → ss[i]? = some s → StrAt D C H a s
  nd : as.Nodup
  gd : ∀ s, s ∈ ss → GoodS N s
  nw : ∀ a, a ∈ as → Hs a = none
structure New3 (Hs : Hp) (p T S : Addr) : Prop where
  np : Hs p = none
  nt : Hs T = none
  ns : Hs S = none
  pt : p ≠ T
  ps : p ≠ S
  ts : T ≠ S
section
variable {D C : Addr} {Hs H H' : Hp} {p T S : Addr} {n m N : Nat} {as : List Addr} {vs : List V} {ds ss : List St}
theorem WebS.mok (w : WebS D C Hs H p T S n N as vs ds ss) : MOk [p, S, T] H := fun b hb => by
  rcases List.mem_cons.mp hb with z | hb
  · obtain ⟨xs, e⟩ := bx_at w.bx
    rw [z]
    exact ⟨_, e, fun _ y => by cases y⟩
  rcases List.mem_cons.mp hb with z | hb
  · rw [z]
    exact ⟨_, w.eS, fun _ y => by cases y⟩
  · rw [List.mem_singleton.mp hb]
    exact ⟨_, w.eT, fun _ y => by cases y⟩
theorem WebS.keep (w : WebS D C Hs H p T S n N as vs ds ss) (k : Same H H') (l : n ≤ m) : WebS D C Hs H' p T S m N as vs ds ss :=
  ⟨w.sm.trans k, (w.bx.keep k).more l, k _ _ w.eT, k _ _ w.eS, anyL_keep (msk_same k) w.dt, w.la, fun i a s h1 h2 => (w.st i a s h1 h2).keep k, w.nd, w.gd, w.nw⟩
theorem WebS.good {N' : Nat} (w : WebS D C Hs H p T S n N as vs ds ss) (l : N ≤ N') : WebS D C Hs H p T S n N' as vs ds ss :=
  ⟨w.sm, w.bx, w.eT, w.eS, w.dt, w.la, w.st, w.nd, fun s hs => (w.gd s hs).more l, w.nw⟩
theorem WebS.box (w : WebS D C Hs H p T S n N as vs ds ss) (c : New3 Hs p T S) (g : Grow p H H') (b : Bx H' p m) : WebS D C Hs H' p T S m N as vs ds ss :=
  ⟨same_on w.sm c.np g, b, g _ _ c.pt.symm w.eT, g _ _ c.ps.symm w.eS, anyL_keep (msk_grow List.mem_cons_self g) w.dt, w.la, fun i a s h1 h2 => (w.st i a s h1 h2).lt (grow_lt w.bx g), w.nd, w.gd, w.nw⟩
theorem WebS.done (w : WebS D C Hs H p T S n N as vs ds ss) (ne : C ≠ D) {j : Nat} {a : Addr} {s t : St} (ha : as[j]? = some a) (hs : ss[j]? = some s) (g : Grow a H H') (st : StrAt D C H' a t) (gt : GoodS N t) : WebS D C Hs H' p T S n N as vs ds (ss.set j t) := by
  have sa := w.st j a s ha hs
  obtain ⟨dx, fs, ei⟩ := sa.ins
  have kp := keeps_ins ei g
  obtain ⟨b1, b2, b3, e1, e2⟩ := w.bx
  have ja : j < ss.length := (List.getElem?_eq_some_iff.mp hs).1
  refine ⟨same_on w.sm (w.nw a (List.mem_of_getElem? ha)) g, ⟨b1, b2, b3, kp.l _ _ e1, e2⟩, kp.l _ _ w.eT, kp.l _ _ w.eS, anyL_keeps (msk_keeps ei g) _ _ w.dt, by rw [List.length_set]; exact w.la, fun i b u h1 h2 => ?_, w.nd, fun u hu => ?_, w.nw⟩
  · by_cases z : i = j
    · subst z
      rw [ha] at h1
      cases Option.some.inj h1
      rw [List.getElem?_set_self ja] at h2
      cases Option.some.inj h2
      exact st
    · rw [List.getElem?_set_ne (fun y => z y.symm)] at h2
      have sb := w.st i b u h1 h2
      exact sb.go sa (fun y => z (nodup_inj w.nd h1 (by rw [y]; exact ha))) ne g
  · rcases mem_set hu with z | z
    · rw [z]; exact gt
    · exact w.gd u z
theorem WebS.same (w : WebS D C Hs H p T S n N as vs ds ss) {j : Nat} {s : St} (hs : ss[j]? = some s) : ss.set j s = ss := by
  obtain ⟨h, e⟩ := List.getElem?_eq_some_iff.mp hs
  rw [← e]
  exact List.set_getElem_self h
theorem WebS.state (w : WebS D C Hs H p T S n N as vs ds ss) (c : New3 Hs p T S) {j : Nat} {v : V} {t : St} (a : Any (msk [p, S, T] H) v t.D) : WebS D C Hs (upd H S (.lst (vs.set j v))) p T S n N as (vs.set j v) (ds.set j t) ss := by
  have g : Grow S H (upd H S (.lst (vs.set j v))) := Grow.put
  have lt : Lt H (upd H S (.lst (vs.set j v))) := Lt.put w.eS
  obtain ⟨b1, b2, b3, e1, e2⟩ := w.bx
  refine ⟨same_on w.sm c.ns g, ⟨b1, b2, b3, g _ _ c.ps e1, e2⟩, g _ _ c.ts w.eT, upd_same, ?_, w.la, fun i b u h1 h2 => (w.st i b u h1 h2).lt lt, w.nd, w.gd, w.nw⟩
  rw [msk_put (List.mem_cons_of_mem _ List.mem_cons_self), List.map_set]
  exact anyL_set w.dt a
theorem WebS.stream (w : WebS D C Hs H p T S n N as vs ds ss) (c : New3 Hs p T S) {x : Addr} {t : St} (hx : Hs x = none) (nx : x ∉ as) (st : StrAt D C H x t) (gt : GoodS N t) : WebS D C Hs (upd H T (.lst ((as ++ [x]).map V.ref))) p T S n N (as ++ [x]) vs ds (ss ++ [t]) := by
  have g : Grow T H (upd H T (.lst ((as ++ [x]).map V.ref))) := Grow.put
  have lt : Lt H (upd H T (.lst ((as ++ [x]).map V.ref))) := Lt.put w.eT
  obtain ⟨b1, b2, b3, e1, e2⟩ := w.bx
  refine ⟨same_on w.sm c.nt g, ⟨b1, b2, b3, g _ _ c.pt e1, e2⟩, upd_same, g _ _ c.ts.symm w.eS, ?_, by rw [List.length_append, List.length_append, w.la] <;> rfl, fun i b u h1 h2 => ?_, ?_, fun u hu => ?_, fun b hb => ?_⟩
  · rw [msk_put (List.mem_cons_of_mem _ (List.mem_cons_of_mem _ List.mem_cons_self))]
    exact w.dt
  · by_cases z : i < as.length
    · rw [List.getElem?_append_left z] at h1
      rw [List.getElem?_append_left (by rw [← w.la]; exact z)] at h2
      exact (w.st i b u h1 h2).lt lt
    · rw [List.getElem?_append_right (by omega)] at h1
      rw [List.getElem?_append_right (by rw [← w.la]; omega)] at h2
      have l1 := (List.getElem?_eq_some_iff.mp h1).1
      have ei : i - as.length = 0 := by
        simp at l1
        omega
      rw [ei] at h1
      rw [← w.la, ei] at h2
      cases Option.some.inj h1
      cases Option.some.inj h2
      exact st.lt lt
  · rw [List.nodup_append]
    refine ⟨w.nd, by simp, fun a ha b hb => ?_⟩
    rw [List.mem_singleton.mp hb]
    exact fun z => nx (by rw [← z]; exact ha)
  · rcases List.mem_append.mp hu with z | z
    · exact w.gd u z
    · rw [List.mem_singleton.mp z]; exact gt
  · rcases List.mem_append.mp hb with z | z
    · exact w.nw b z
    · rw [List.mem_singleton.mp z]; exact hx
theorem WebS.push (w : WebS D C Hs H p T S n N as vs ds ss) (c : New3 Hs p T S) {v : V} {t : St} (a : Any (msk [p, S, T] H) v t.D) : WebS D C Hs (upd H S (.lst (vs ++ [v]))) p T S n N as (vs ++ [v]) (ds ++ [t]) ss := by
  have g : Grow S H (upd H S (.lst (vs ++ [v]))) := Grow.put
  have lt : Lt H (upd H S (.lst (vs ++ [v]))) := Lt.put w.eS
  obtain ⟨b1, b2, b3, e1, e2⟩ := w.bx
  refine ⟨same_on w.sm c.ns g, ⟨b1, b2, b3, g _ _ c.ps e1, e2⟩, g _ _ c.ts w.eT, upd_same, ?_, w.la, fun i b u h1 h2 => (w.st i b u h1 h2).lt lt, w.nd, w.gd, w.nw⟩
  rw [msk_put (List.mem_cons_of_mem _ List.mem_cons_self), List.map_append]
  exact anyL_snoc w.dt a
/-- the pieces at one place -/
theorem WebS.get (w : WebS D C Hs H p T S n N as vs ss ss) {j : Nat} (h : j < as.length) : ∃ a v s, as[j]? = some a ∧ vs[j]? = some v ∧ ss[j]? = some s ∧ StrAt D C H a s ∧ Any (msk [p, S, T] H) v s.D ∧ GoodS N s := by
  have h2 : j < ss.length := by rw [← w.la]; exact h
  obtain ⟨v, hv, av⟩ := anyL_of w.dt (show (ss.map St.D)[j]? = some (ss[j]).D by rw [List.getElem?_map, List.getElem?_eq_getElem h2] <;> rfl)
  have e1 : as[j]? = some as[j] := List.getElem?_eq_getElem h
  have e2 : ss[j]? = some ss[j] := List.getElem?_eq_getElem h2
  exact ⟨as[j], v, ss[j], e1, hv, e2, w.st j _ _ e1 e2, av, w.gd _ (List.getElem_mem h2)⟩
end
theorem due_no {s : St} {d e : PyData} (h : Due s d (.no e)) : ∃ x ds, e = .list (.str x :: ds) := by
  cases h with
  | growNo _ rf => rcases rf with ⟨_, rfl⟩ | ⟨_, _, rfl⟩ | ⟨_, _, _, rfl⟩ | ⟨_, _, _, _, _, _, _, rfl⟩ <;> exact ⟨_, _, rfl⟩
  | cutNo _ => exact ⟨_, _, rfl⟩
  | undoNo _ => exact ⟨_, _, rfl⟩
  | redoNo _ => exact ⟨_, _, rfl⟩
end Rw

set_option Elab.async false
set_option linter.all false
set_option maxRecDepth 100000
set_option maxHeartbeats 4000000
/-! K57L: the law. -/
namespace Rw
open PySem PySem.Spec PyProof.Rows L2
theorem ixN_nat {n j : Nat} (h : j < n) : ixN n ((j : Nat) : Int) = some j := by
  unfold ixN
  rw [if_pos (by omega), if_pos (by omega), Int.toNat_natCast]
end Rw
namespace K57
open PySem PySem.Spec PyProof.Rows L2 Rw
abbrev sLaw : Stmt := top 57
abbrev NLaw : List Str := ["_law_script", "_law_k", "_law_box_here", "_law_streams", "_law_states", "_law_turn", "_law_p", "_law_amount", "_law_which", "_law_deed_here", "_law_due", "_law_told"]
theorem scLaw : FnScope NLaw ["_law_script"] (defScope sLaw) := ⟨rfl, rfl, rfl, by decide +kernel, rfl, by decide +kernel, by decide +kernel⟩
def spLaw (K : PySem.W.Frag) : Sp := fun vs H Q _ => ∃ (a : Addr) (ns : List Int), vs = [.ref a] ∧ SqL K H a (ns.map V.int) ∧ ns.length ≤ 63 ∧ ∀ H', Q (.bl true) H'
structure Olaw (P : Program) (w : World) (K : PySem.W.Frag) (mg : Str → Option Value) (base : Heap) (D C CP CS : Addr) : Prop where
  cell : Own P w K mg base CX0 1 "_law_cell" ["_law_script", "_law_k"] [] (spCellR K)
  box : Own P w K mg base CX0 1 "_law_box" ["_law_cell_here"] [] spBoxR
  take : Own P w K mg base CX0 1 "_law_take" ["_law_box_here", "_law_many"] [] spTakeR
  prime : Own P w K mg base CX0 2 "_law_prime" ["_law_box_here"] [] spPrimeR
  deed : Own P w K mg base CX0 5 "_law_deed" ["_law_box_here", "_law_state"] [] spDeed
  done : OwnG P w K mg base CX0 10 "_law_done" ["_law_stream", "_law_deed_here"] [] (spDone D C)
  stands : Own P w K mg base CX0 5 "_law_stands" ["_law_stream", "_law_state"] [] (spStands D C)
  gD : mg "Stream" = some (.ref D)
  ne : C ≠ D
  made : ∃ (f : Addr) (fd : FuncData), Mk K D f ∧ FnOk P w K mg base (L2.CX P w) 8 f fd ["self", "prime", "size"] (spIniS D C CP CS) ∧ Binds K fd ["self", "prime", "size"] []
  len : ∃ (f : Addr) (fd : FuncData), PySem.W.findIn K (.ref D) "__len__" = some (some (.ref f)) ∧ PySem.W.isFn K (.ref f) = true ∧ FnOk P w K mg base CX0 3 f fd ["self"] (spLenS D C) ∧ Binds K fd ["self"] []
structure Zs (mg : Str → Option Value) : Prop where
  range : mg "range" = none
  max : mg "max" = none
  min : mg "min" = none
  len : mg "len" = none
  int : mg "int" = none
  list : mg "list" = none
  repr : mg "repr" = none
  isi : mg "isinstance" = none
section
variable {P : Program} {w : World} {K : PySem.W.Frag} {mg : Str → Option Value} {base : Heap} {D C CP CS : Addr}
set_option pp.maxSteps 400 in
theorem okLaw {f : Addr} {fd : FuncData} (F : Fun K "law" "law" sLaw f fd) (Z : Zs mg) (O : Olaw P w K mg base D C CP CS) : FnG P w K mg base CX0 11 f fd ["_law_script"] (spLaw K) := by
  obtain ⟨fi, fdi, Mi, Fi, bi⟩ := O.made
  obtain ⟨fl, fdl, hl, hfn, Fl, bl⟩ := O.len
  refine funG F scLaw (fun vs H Q E h => ?_) (fun cdv A outer sh H vs Q E gu hr h => ?_)
  · obtain ⟨a, ns, rfl, _⟩ := h
    rfl
  · obtain ⟨a, ns, rfl, hs, hlen, q⟩ := h
    refine ⟨_, (pss_cons (ps_for PassesOwn.never rfl (pi_range1 rfl Z.range (pa_cons (pe_callB (call_max2 rfl) (by rfl) Z.max (by decide +kernel) (pa_cons pe_int (pa_cons (pe_callB (call_min2 rfl) (by rfl) Z.min (by decide +kernel) (pa_cons pe_int (pa_cons (pe_callB call_len_seq (by rfl) Z.len PySem.boot_len (pa_cons (pv 0) pa_nil)) pa_nil))) pa_nil))) pa_nil)) (pg_name (i := 1) scLaw.nd rfl (Or.inl rfl)) (pss_cons (ps_set (i := 2) scLaw.nd rfl (Or.inl rfl) (pe_own O.box (hr.mono (by decide)) pass0 (pa_cons (pe_own O.cell (hr.mono (by decide)) pass0 (pa_cons (pv 0) (pa_cons (pv 1) pa_nil))) pa_nil)))
      (pss_cons (ps_par (i := 3) (j := 4) (by rfl) scLaw.nd rfl rfl (by decide) rfl rfl (pa_cons (pe_lst pa_nil) (pa_cons (pe_lst pa_nil) pa_nil)) (by rfl))
      (pss_cons (ps_for PassesOwn.never rfl (pi_range1 rfl Z.range (pa_cons pe_int pa_nil)) (pg_name (i := 5) scLaw.nd rfl (Or.inl rfl)) (pss_cons (ps_par (i := 6) (j := 7) (by rfl) scLaw.nd rfl rfl (by decide) rfl rfl (pa_cons (pe_own O.prime (hr.mono (by decide)) pass0 (pa_cons (pv 2) pa_nil)) (pa_cons (pe_own O.take (hr.mono (by decide)) pass0 (pa_cons (pv 2) (pa_cons pe_int pa_nil))) pa_nil)) (by rfl))
        (pss_cons (ps_expr (pe_bm PySem.F.plainAttrs_list PySem.F.slot_list_append PySem.F.type_list_append mt_append (pv 3) (pa_cons (pe_make Mi Fi (hr.mono (by decide)) rfl O.gD bi .nil passN (pa_cons (pv 6) (pa_cons (pv 7) pa_nil))) pa_nil)))
        (pss_one (ps_expr (pe_bm PySem.F.plainAttrs_list PySem.F.slot_list_append PySem.F.type_list_append mt_append (pv 4) (pa_cons (pe_lst (pa_cons (pe_lst pa_nil) (pa_cons (pe_lst (pa_cons pe_str (pa_cons (pv 6) (pa_cons (pe_lst (pa_cons (pv 7) pa_nil)) (pa_cons (pe_lst pa_nil) pa_nil))))) (pa_cons (pe_lst pa_nil) pa_nil)))) pa_nil)))))))
      (pss_one (ps_for PassesOwn.never rfl (pi_range1 rfl Z.range (pa_cons (pe_op op_add pe_int (pe_own O.take (hr.mono (by decide)) pass0 (pa_cons (pv 2) (pa_cons pe_int pa_nil)))) pa_nil)) (pg_name (i := 5) scLaw.nd rfl (Or.inl rfl)) (pss_cons (ps_set (i := 8) scLaw.nd rfl (Or.inl rfl) (pe_callTy call_int1 (by rfl) Z.int (by decide +kernel) (pa_cons (pe_cmpR op_eq (pe_own O.take (hr.mono (by decide)) pass0 (pa_cons (pv 2) (pa_cons pe_int pa_nil))) pe_int (nomark _)) pa_nil)))
        (pss_cons (ps_asg (pe_own O.deed (hr.mono (by decide)) pass0 (pa_cons (pv 2) (pa_cons (pe_ix ix_list (pv 4) (pv 8) (fun _ _ => rfl)) pa_nil))) (pg_lst rfl (pgs_cons (pg_name (i := 9) scLaw.nd rfl (Or.inl rfl)) (pgs_cons (pg_name (i := 10) scLaw.nd rfl (Or.inl rfl)) pgs_nil))))
        (pss_cons (ps_set (i := 11) scLaw.nd rfl (Or.inl rfl) (pe_ownG O.done gu hr pass0 (pa_cons (pe_ix ix_list (pv 3) (pv 8) (fun _ _ => rfl)) (pa_cons (pv 9) pa_nil))))
        (Evl.pss_cut (ps_if (pt_val (pe_callB call_isi (by rfl) Z.isi (by decide +kernel) (pa_cons (pe_ix ix_list (pv 10) pe_int (fun _ _ => rfl)) (pa_cons (pe_bltn (v := .ty "list") rfl Z.list (by decide +kernel) rfl) pa_nil)))) (pss_cons (ps_asg (pv 10) (pg_sub (pv 4) (pv 8) set_list))
          (pss_one (ps_set (i := 10) scLaw.nd rfl (Or.inl rfl) (pe_lst (pa_cons pe_str (pa_cons pe_non pa_nil)))))) pss_nil)
        (pss_cons (ps_if (PW.pt (pw_or (pt_cmpR op_ne (pe_callB (call_reprA gu hr.units) (by rfl) Z.repr (by decide +kernel) (pa_cons (pv 11) pa_nil)) (pe_callB (call_reprA gu hr.units) (by rfl) Z.repr (by decide +kernel) (pa_cons (pv 10) pa_nil)) (nomark _)) (pw_or1 (pt_not (pt_val (pe_own O.stands (hr.mono (by decide)) pass0 (pa_cons (pe_ix ix_list (pv 3) pe_int (fun _ _ => rfl)) (pa_cons (pe_ix ix_list (pv 4) pe_int (fun _ _ => rfl)) pa_nil)))))))) (pss_one (ps_ret pe_bl)) pss_nil)
        (pss_one (ps_if (pt_not (pt_val (pe_own O.stands (hr.mono (by decide)) pass0 (pa_cons (pe_ix ix_list (pv 3) pe_int (fun _ _ => rfl)) (pa_cons (pe_ix ix_list (pv 4) pe_int (fun _ _ => rfl)) pa_nil))))) (pss_one (ps_ret pe_bl)) pss_nil)))))))))))))
    (pss_one (ps_ret (pe_cmpR op_eq (pe_callB (call_lenO hl hfn Fl (hr.mono (by decide)) bl) (by rfl) Z.len (by decide +kernel) (pa_cons (pe_make Mi Fi (hr.mono (by decide)) rfl O.gD bi .nil passN (pa_cons pe_int (pa_cons pe_int pa_nil))) pa_nil)) pe_int (nomark _))))), ?_⟩
    refine ⟨_, rfl, a, _, rfl, .inl hs, _, _, rfl, _, _, rfl, _, rfl, ?_, ?_, ?_⟩
    · split <;> split <;> omega
    · split <;> split <;> omega
    have hn8 : (if (if ((ns.map V.int).length : Int) < 3 then ((ns.map V.int).length : Int) else 3) > 2 then (if ((ns.map V.int).length : Int) < 3 then ((ns.map V.int).length : Int) else 3) else 2).toNat ≤ 8 := by
      split <;> split <;> omega
    refine for_range (lo := 0) (n := _) (fun i σ' H' => (∃ x1 x2 x3 x4 x5 x6 x7 x8 x9 x10 x11, σ' = [some (.ref a), x1, x2, x3, x4, x5, x6, x7, x8, x9, x10, x11]) ∧ Same H H') ⟨⟨_, _, _, _, _, _, _, _, _, _, _, rfl⟩, Same.refl _⟩ ?_ ?_
    rotate_left
    · rintro σ' H' ⟨⟨x1, x2, x3, x4, x5, x6, x7, x8, x9, x10, x11, rfl⟩, S0⟩
      refine fun x dx hx hdx nx => ⟨x, dx, 2, 0, rfl, upd_same, by decide, by omega, fun H5 g5 st5 => ⟨rfl, ?_⟩⟩
      obtain ⟨dy, fs, e5⟩ := st5.ins
      refine ⟨x, dy, fs, rfl, e5, x, _, rfl, st5, by show 1 ≤ 1000; decide, _, rfl, by omega, by show 1 < 2 ^ 63; decide, rfl, ?_⟩
      rw [decide_eq_true (show V.int (((newDr 2 0).ss.length : Nat) : Int) = V.int 1 from rfl)]
      exact q _
    rintro i σ' Hs hi ⟨⟨x1, x2, x3, x4, x5, x6, x7, x8, x9, x10, x11, rfl⟩, S0⟩
    have hi8 : i < 8 := Nat.lt_of_lt_of_le hi hn8
    refine ⟨_, rfl, _, rfl, a, ns, i, (by rw [Int.zero_add] <;> rfl), S0.seq hs, by omega, fun z => ⟨z, rfl, fun p Hb hp sm bx => ?_⟩⟩
    refine ⟨by show 0 ≤ sizeLine; decide, fun T hT => ⟨by show 0 ≤ sizeLine; decide, fun S hS => ⟨_, _, rfl, ?_⟩⟩⟩
    have sT := same_new (o := .lst []) hT
    have sS := same_new (o := .lst []) hS
    have hSb : Hb S = none := sT.free hS
    have TS : T ≠ S := fun z => by rw [← z, upd_same] at hS; cases hS
    have c : New3 Hs p T S := ⟨hp, sm.free hT, sm.free hSb, bx.ne hT, bx.ne hSb, TS⟩
    have w0 : WebS D C Hs (upd (upd Hb T (.lst [])) S (.lst [])) p T S 0 0 [] [] [] [] :=
      ⟨(sm.trans sT).trans sS, (bx.keep sT).keep sS, sS _ _ upd_same, upd_same, .nil, rfl, fun i a s h => by simp at h, List.nodup_nil, fun s hs => (nomatch hs), fun a ha => (nomatch ha)⟩
    generalize upd (upd Hb T (.lst [])) S (.lst []) = H2 at w0 ⊢
    clear sT sS hT hS bx sm Hb hSb
    -- two streams
    refine ⟨_, rfl, by decide, by decide, ?_⟩
    refine for_range (lo := 0) (n := 2) (fun j σ' H' => (∃ y5 y6 y7, σ' = [some (.ref a), some (.int (0 + (i : Int))), some (.ref p), some (.ref T), some (.ref S), y5, y6, y7, x8, x9, x10, x11]) ∧ ∃ as vs ss, WebS D C Hs H' p T S (10 * j) 0 as vs ss ss ∧ as.length = j) ⟨⟨_, _, _, rfl⟩, [], [], [], w0, rfl⟩ ?_ ?_
    · rintro j σ' H3 hj ⟨⟨y5, y6, y7, rfl⟩, as, vs, ss, w, lj⟩
      refine ⟨_, rfl, p, _, rfl, w.bx, by omega, fun qq H4 hq G4 B4 => ?_⟩
      have w4 := w.box c G4 B4
      refine ⟨_, rfl, p, 7, _, rfl, by decide, by decide, B4, by omega, fun r H5 r0 r1 G5 B5 => ⟨_, _, rfl, ?_⟩⟩
      have w5 := w4.box c G5 B5
      obtain ⟨k, rfl⟩ : ∃ k : Nat, r = (k : Int) := ⟨r.toNat, by omega⟩
      refine ⟨_, rfl, .inl ⟨rfl, _, SqL.of w5.eT⟩, _, rfl, _, rfl, fun x dx hx hdx nx => ⟨x, dx, qq, k, rfl, upd_same, hq, by omega, fun H6 g6 st6 => ⟨rfl, ?_⟩⟩⟩
      have k6 : Same H5 H6 := fun b o e => by
        have b1 : b ≠ x := ne_of_none e hx
        have b2 : b ≠ dx := ne_of_none e hdx
        exact g6 b o b1 (by rw [upd_ne b1, upd_ne b2]; exact e)
      have nas : x ∉ as := fun z => by
        obtain ⟨t, ht⟩ := List.getElem?_of_mem z
        have lt := (List.getElem?_eq_some_iff.mp ht).1
        have l2 : t < ss.length := by rw [← w5.la]; exact lt
        obtain ⟨d2, f2, e2⟩ := (w5.st t x _ ht (List.getElem?_eq_getElem l2)).ins
        rw [hx] at e2
        cases e2
      have w6 := w5.keep k6 (Nat.le_refl _)
      refine ⟨T, as.map V.ref, _, rfl, rfl, w6.eT, Nat.lt_of_le_of_lt (by rw [List.length_map, lj]; omega : (as.map V.ref).length ≤ 1000) (by decide), ?_⟩
      rw [show as.map V.ref ++ [V.ref x] = (as ++ [x]).map V.ref by rw [List.map_append] <;> rfl]
      have w7 := w6.stream c (w5.sm.free hx) nas st6 ⟨fun e he => (nomatch he), new_good hq (by omega), fun e he => (nomatch he), Nat.le_refl _⟩
      generalize upd H6 T (.lst ((as ++ [x]).map V.ref)) = H7 at w7 ⊢
      refine ⟨_, rfl, .inl ⟨rfl, _, SqL.of w7.eS⟩, by show 0 ≤ sizeLine; decide, fun l1 h1 => ?_⟩
      obtain ⟨c1, j1, n1⟩ := lay w7.mok h1 (ds := []) .nil
      refine ⟨_, rfl, _, rfl, by show 1 ≤ sizeLine; decide, fun l2 h2 => ?_⟩
      obtain ⟨c2, j2, n2⟩ := lay n1 h2 (ds := [natD k]) (.cons (.int _) .nil)
      refine ⟨by show 0 ≤ sizeLine; decide, fun l3 h3 => ?_⟩
      obtain ⟨c3, j3, n3⟩ := lay n2 h3 (ds := []) .nil
      refine ⟨by show 4 ≤ sizeLine; decide, fun l4 h4 => ?_⟩
      obtain ⟨c4, j4, n4⟩ := lay n3 h4 (ds := [.str "", .int qq, .list [natD k], .list []]) (.cons (.str "") (.cons (.int _) (.cons (c2.keep (msk_same j3)) (.cons c3 .nil))))
      refine ⟨by show 0 ≤ sizeLine; decide, fun l5 h5 => ?_⟩
      obtain ⟨c5, j5, n5⟩ := lay n4 h5 (ds := []) .nil
      refine ⟨by show 3 ≤ sizeLine; decide, fun l6 h6 => ?_⟩
      obtain ⟨c6, j6, n6⟩ := lay n5 h6 (ds := [.list [], (newDr qq k).D, .list []]) (.cons (c1.keep (msk_same (((j2.trans j3).trans j4).trans j5))) (.cons (c4.keep (msk_same j5)) (.cons c5 .nil)))
      have J := ((j1.trans j2).trans (j3.trans j4)).trans (j5.trans j6)
      have w8 := w7.keep J (show 10 * j + 1 + 1 ≤ 10 * (j + 1) by omega)
      have lv := anyL_len w7.dt
      rw [List.length_map, ← w5.la] at lv
      refine ⟨S, vs, _, rfl, rfl, w8.eS, Nat.lt_of_le_of_lt (by omega : vs.length ≤ 1000) (by decide), ?_⟩
      exact ⟨⟨_, _, _, rfl⟩, as ++ [x], _, _, w8.push c (t := ⟨[], newDr qq k, []⟩) c6, by rw [List.length_append, lj] <;> rfl⟩
    rintro σ' H3 ⟨⟨y5, y6, y7, rfl⟩, as, vs, ss, w3, l2⟩
    clear w0
    -- the deeds
    refine ⟨_, rfl, p, 13, _, rfl, by decide, by decide, w3.bx, by omega, fun r H4 r0 r1 G4 B4 => ⟨_, _, rfl, rfl, _, rfl, by omega, by omega, ?_⟩⟩
    have w4 := w3.box c G4 B4
    have hn : (4 + r).toNat ≤ 16 := by omega
    refine for_range (lo := 0) (n := _) (fun j σ' H' => (∃ y5 y8 y9 y10 y11, σ' = [some (.ref a), some (.int (0 + (i : Int))), some (.ref p), some (.ref T), some (.ref S), y5, y6, y7, y8, y9, y10, y11]) ∧ ∃ as vs ss, WebS D C Hs H' p T S (100 + 1100 * j) j as vs ss ss ∧ as.length = 2) ⟨⟨_, _, _, _, _, rfl⟩, as, vs, ss, w4.keep (Same.refl _) (by omega), l2⟩ ?_ ?_
    rotate_left
    · rintro σ' H' ⟨⟨y5, y8, y9, y10, y11, rfl⟩, as, vs, ss, w, _⟩
      exact ⟨⟨_, _, _, _, _, _, _, _, _, _, _, rfl⟩, S0.trans w.sm⟩
    clear w4 w3 l2 B4 G4 as vs ss
    rintro j σ' H4 hj ⟨⟨y5, y8, y9, y10, y11, rfl⟩, as, vs, ss, w, l2⟩
    have hj16 : j < 16 := Nat.lt_of_lt_of_le hj hn
    refine ⟨_, rfl, p, 4, _, rfl, by decide, by decide, w.bx, by omega, fun r5 H5 r50 r51 G5 B5 => ⟨rfl, .inr ⟨_, rfl, ?_⟩⟩⟩
    have w5 := w.box c G5 B5
    obtain ⟨t, et, t2⟩ : ∃ t : Nat, (if decide (V.int r5 = V.int 0) = true then (1 : Int) else 0) = (t : Nat) ∧ t < 2 := by
      split
      · exact ⟨1, rfl, by omega⟩
      · exact ⟨0, rfl, by omega⟩
    rw [et]
    obtain ⟨a0, v0, s0, ea, ev, es, st, an, gd⟩ := w5.get (j := t) (by omega)
    refine ⟨_, rfl, _, rfl, _, rfl, S, vs, _, v0, rfl, rfl, SqL.of w5.eS, atI_nat ev, ?_⟩
    refine ⟨[p, S, T], p, v0, s0, _, j, rfl, List.mem_cons_self, w5.mok, w5.bx, by omega, an, gd, by omega, fun L H6 d res du tq G6 mo6 B6 aL => ?_⟩
    have w6 := w5.box c G6 B6
    obtain ⟨L', u0, u1, eL, eL1, b0, b1⟩ := any_list2 aL
    cases eL
    refine ⟨_, _, rfl, SqL.of (msk_sub _ _ eL1), rfl, _, _, rfl, _, _, rfl, rfl, ?_⟩
    have st6 := w6.st t a0 s0 ea es
    obtain ⟨dx, fs, ei⟩ := st6.ins
    have eaV : (as.map V.ref)[t]? = some (.ref a0) := by rw [List.getElem?_map, ea] <;> rfl
    refine ⟨_, rfl, _, rfl, T, _, _, _, rfl, rfl, SqL.of w6.eT, atI_nat eaV, _, rfl, a0, u0, s0, d, res, j, rfl, st6, gd, by omega, b0.keep msk_sub, du, fun u H7 G7 st7 au => ?_⟩
    have w7 := (w6.good (Nat.le_succ j)).done O.ne ea es G7 st7 (due_good gd du)
    have b1 := b1.keeps (msk_keeps ei G7)
    refine ⟨fun σ' H' => (∃ vd, σ' = [some (.ref a), some (.int (0 + (i : Int))), some (.ref p), some (.ref T), some (.ref S), some (.int (0 + (j : Int))), y6, y7, some (.int (t : Nat)), some u0, some vd, some (.ref u)] ∧ Any H' vd res.told) ∧ Any H' (.ref u) res.told ∧ ∃ vs' ss', WebS D C Hs H' p T S (100 + 1100 * j + 1001) (j + 1) as vs' ss' ss', ?_, ?_⟩
    · cases res with
      | ok s1 =>
        obtain ⟨U, c0, c1, c2, rfl, eU, q0, _, _⟩ := any_list3 b1
        obtain ⟨Pl, xp, rfl, ePl, _⟩ := any_listD q0
        refine ⟨_, rfl, U, _, 0, _, rfl, rfl, SqL.of (msk_sub _ _ eU), atI_nat (j := 0) rfl, _, .ty "list", _, _, _, rfl, .ty _, .base (.lst (msk_sub _ _ ePl)), kit_ty (show kitB "list" "list" = some true by decide +kernel), _, rfl, iteT ?_⟩
        have lv := anyL_len w7.dt
        rw [List.length_map, ← w6.la, l2] at lv
        refine ⟨_, rfl, _, rfl, _, rfl, S, vs, _, t, rfl, rfl, w7.eS, ixN_nat (by omega), ?_⟩
        have w8 := w7.state c (j := t) (t := s1) b1
        have lt : Lt H7 (upd H7 S (.lst (vs.set t (.ref U)))) := Lt.put w7.eS
        have au8 : Any (upd H7 S (.lst (vs.set t (.ref U)))) (.ref u) dnD := by
          obtain ⟨u', z0, z1, eq, eu, q1, q2⟩ := any_list2 au
          cases eq
          cases q1
          cases q2
          have uS : u ≠ S := fun z => by
            rw [z, w7.eS] at eu
            cases eu
            rcases (by omega : t = 0 ∨ t = 1) with y | y
            · rw [y] at ev
              cases Option.some.inj ev
              cases an
            · rw [y] at ev
              cases Option.some.inj ev
              cases an
          exact .lst (by rw [upd_ne uS]; exact eu) (.cons (.str _) (.cons .non .nil))
        generalize upd H7 S (.lst (vs.set t (.ref U))) = H8 at w8 lt au8 ⊢
        refine ⟨by show 2 ≤ sizeLine; decide, fun l1 h1 => ?_⟩
        have k1 := same_new (o := .lst [.str "done", .non]) h1
        exact ⟨⟨_, rfl, .lst upd_same (.cons (.str _) (.cons .non .nil))⟩, au8.keep k1, _, _, w8.keep k1 (by omega)⟩
      | no e =>
        obtain ⟨x, ds, rfl⟩ := due_no du
        obtain ⟨U, xs, rfl, eU, al⟩ := any_listD b1
        obtain ⟨y, ys, rfl, ay, _⟩ := anyL_uncons al
        cases ay
        have w7' : WebS D C Hs H7 p T S (100 + 1100 * j + 1 + 1000) (j + 1) as vs ss ss := by
          have h := w7
          rw [show ss.set t (Res.st s0 (Res.no _)) = ss from w6.same es] at h
          exact h
        refine ⟨_, rfl, U, _, 0, _, rfl, rfl, SqL.of (msk_sub _ _ eU), atI_nat (j := 0) rfl, _, .ty "list", _, _, _, rfl, .ty _, .base (.str x), kit_ty (show kitB "str" "list" = some false by decide +kernel), _, rfl, iteF ?_⟩
        exact ⟨⟨_, rfl, b1.keep msk_sub⟩, au, vs, ss, w7'.keep (Same.refl _) (by omega)⟩
    rintro σ' H8 ⟨⟨vd, rfl, ad⟩, au8, vs', ss', w8⟩
    obtain ⟨t1, t3, t4⟩ := tq_fine tq
    refine ⟨_, rfl, .ref u, _, rfl, au8, t1, t3, t4, _, rfl, vd, _, rfl, ad, t1, t3, t4, rfl, _, rfl, ?_⟩
    rw [str_same]
    refine iteF ?_
    obtain ⟨a1, v1, s1, ea1, ev1, es1, st1, an1, gd1⟩ := w8.get (j := 0) (by omega)
    have em1 : (as.map V.ref)[0]? = some (.ref a1) := by rw [List.getElem?_map, ea1] <;> rfl
    refine ⟨_, rfl, T, _, 0, _, rfl, rfl, SqL.of w8.eT, atI_nat (j := 0) em1, _, rfl, S, vs', 0, v1, rfl, rfl, SqL.of w8.eS, atI_nat (j := 0) ev1, a1, v1, s1, j + 1, rfl, st1, gd1, by omega, an1.keep msk_sub, fun H9 k9 => ⟨_, rfl, iteF ?_⟩⟩
    have w9 := w8.keep k9 (Nat.le_refl _)
    obtain ⟨a2, v2, s2, ea2, ev2, es2, st2, an2, gd2⟩ := w9.get (j := 1) (by omega)
    have em2 : (as.map V.ref)[1]? = some (.ref a2) := by rw [List.getElem?_map, ea2] <;> rfl
    refine ⟨_, rfl, T, _, 1, _, rfl, rfl, SqL.of w9.eT, atI_nat (j := 1) em2, _, rfl, S, vs', 1, v2, rfl, rfl, SqL.of w9.eS, atI_nat (j := 1) ev2, a2, v2, s2, j + 1, rfl, st2, gd2, by omega, an2.keep msk_sub, fun H10 k10 => ⟨_, rfl, iteF ?_⟩⟩
    exact ⟨⟨_, _, _, _, _, rfl⟩, as, vs', ss', w9.keep k10 (by omega), l2⟩
end
end K57

set_option Elab.async false
set_option linter.all false
set_option maxRecDepth 100000
set_option maxHeartbeats 8000000
/-! K57N: the end. -/
namespace K57
open PySem PySem.Spec PyProof.Rows L2 Rw
abbrev sIniP : Stmt := inClass (top 3) 0
theorem scIniP : FnScope ["self", "value"] ["self", "value"] (defScope sIniP) := ⟨rfl, rfl, rfl, by decide +kernel, rfl, by decide +kernel, by decide +kernel⟩
theorem isP : IsIni sIniP := ⟨_, _, _, _, rfl, rfl, rfl⟩
abbrev sIniS : Stmt := inClass (top 4) 0
theorem scIniS : FnScope ["self", "value"] ["self", "value"] (defScope sIniS) := ⟨rfl, rfl, rfl, by decide +kernel, rfl, by decide +kernel, by decide +kernel⟩
theorem isS : IsIni sIniS := ⟨_, _, _, _, rfl, rfl, rfl⟩
abbrev sIniM : Stmt := inClass (top 5) 0
theorem scIniM : FnScope ["self", "value"] ["self", "value"] (defScope sIniM) := ⟨rfl, rfl, rfl, by decide +kernel, rfl, by decide +kernel, by decide +kernel⟩
theorem isM : IsIni sIniM := ⟨_, _, _, _, rfl, rfl, rfl⟩
abbrev sIniT : Stmt := inClass (top 6) 0
theorem scIniT : FnScope ["self", "value"] ["self", "value"] (defScope sIniT) := ⟨rfl, rfl, rfl, by decide +kernel, rfl, by decide +kernel, by decide +kernel⟩
theorem isT : IsIni sIniT := ⟨_, _, _, _, rfl, rfl, rfl⟩
abbrev sIniL : Stmt := inClass (top 7) 0
theorem scIniL : FnScope ["self", "value"] ["self", "value"] (defScope sIniL) := ⟨rfl, rfl, rfl, by decide +kernel, rfl, by decide +kernel, by decide +kernel⟩
theorem isL : IsIni sIniL := ⟨_, _, _, _, rfl, rfl, rfl⟩
abbrev sIniZ : Stmt := inClass (top 8) 0
theorem scIniZ : FnScope ["self", "value"] ["self", "value"] (defScope sIniZ) := ⟨rfl, rfl, rfl, by decide +kernel, rfl, by decide +kernel, by decide +kernel⟩
theorem isZ : IsIni sIniZ := ⟨_, _, _, _, rfl, rfl, rfl⟩
abbrev sIniA : Stmt := inClass (top 9) 0
theorem scIniA : FnScope ["self", "value"] ["self", "value"] (defScope sIniA) := ⟨rfl, rfl, rfl, by decide +kernel, rfl, by decide +kernel, by decide +kernel⟩
theorem isA : IsIni sIniA := ⟨_, _, _, _, rfl, rfl, rfl⟩
abbrev sIniB : Stmt := inClass (top 10) 0
theorem scIniB : FnScope ["self", "value"] ["self", "value"] (defScope sIniB) := ⟨rfl, rfl, rfl, by decide +kernel, rfl, by decide +kernel, by decide +kernel⟩
theorem isB : IsIni sIniB := ⟨_, _, _, _, rfl, rfl, rfl⟩
abbrev sIniW : Stmt := inClass (top 11) 0
theorem scIniW : FnScope ["self", "value"] ["self", "value"] (defScope sIniW) := ⟨rfl, rfl, rfl, by decide +kernel, rfl, by decide +kernel, by decide +kernel⟩
theorem isW : IsIni sIniW := ⟨_, _, _, _, rfl, rfl, rfl⟩
abbrev sIniG : Stmt := inClass (top 12) 0
theorem scIniG : FnScope ["self", "value"] ["self", "value"] (defScope sIniG) := ⟨rfl, rfl, rfl, by decide +kernel, rfl, by decide +kernel, by decide +kernel⟩
theorem isG : IsIni sIniG := ⟨_, _, _, _, rfl, rfl, rfl⟩
abbrev sIniU : Stmt := inClass (top 14) 0
theorem scIniU : FnScope ["self"] ["self"] (defScope sIniU) := ⟨rfl, rfl, rfl, by decide +kernel, rfl, by decide +kernel, by decide +kernel⟩
abbrev sIniV : Stmt := inClass (top 15) 0
theorem scIniV : FnScope ["self"] ["self"] (defScope sIniV) := ⟨rfl, rfl, rfl, by decide +kernel, rfl, by decide +kernel, by decide +kernel⟩
/-- what is asked of the written part -/
structure Asked (K : PySem.W.Frag) (w : World) (aI aT C D CR CP CT CZ CA CM CL CW CG CS CB CU CV : Addr) (kI : List (Int × Value)) (kT : List (Str × Value)) (tM : Tok) : Prop where
  taI : TabIHere K "INVERSES" aI kI
  taT : TabSHere K w "TURNED" aT kT
  iMOST : PySem.W.nsIn K mainGlobals "MOST" = some (some (.int 6 tM))
  hI : ∀ i, (lookI kI i).isSome = decide (i ∈ primesL)
  hT : ∀ c, (lookS kT ⟨#[c]⟩).isSome = isArr c
  hT2 : ∀ z, (lookS kT z).isSome = isArD (.str z)
  root : PySem.W.nsIn K mainGlobals "RowError" = some (some (.ref CR))
  eP : ErrHere K "InvalidPrime" "InvalidPrime.__init__" sIniP CR CP
  eS : ErrHere K "InvalidSize" "InvalidSize.__init__" sIniS CR CS
  eM : ErrHere K "InvalidMatrix" "InvalidMatrix.__init__" sIniM CR CM
  eT : ErrHere K "InvalidPattern" "InvalidPattern.__init__" sIniT CR CT
  eL : ErrHere K "InvalidPlace" "InvalidPlace.__init__" sIniL CR CL
  eZ : ErrHere K "InvalidSizes" "InvalidSizes.__init__" sIniZ CR CZ
  eA : ErrHere K "InvalidMaps" "InvalidMaps.__init__" sIniA CR CA
  eB : ErrHere K "InvalidNumber" "InvalidNumber.__init__" sIniB CR CB
  eW : ErrHere K "InvalidArrow" "InvalidArrow.__init__" sIniW CR CW
  eG : ErrHere K "TooLarge" "TooLarge.__init__" sIniG CR CG
  eU : ErrNHere K "NothingToUndo" "NothingToUndo.__init__" sIniU CR CU
  eV : ErrNHere K "NothingToRedo" "NothingToRedo.__init__" sIniV CR CV
  cW : PySem.W.isClsIn K CW = true
  cG : PySem.W.isClsIn K CG = true
  cS : PySem.W.isClsIn K CS = true
  cM : PySem.W.isClsIn K CM = true
  cB : PySem.W.isClsIn K CB = true
  cU : PySem.W.isClsIn K CU = true
  cV : PySem.W.isClsIn K CV = true
  sWW : PySem.W.subIn K (.ref CW) (.ref CW) = some true
  sGW : PySem.W.subIn K (.ref CG) (.ref CW) = some false
  sGG : PySem.W.subIn K (.ref CG) (.ref CG) = some true
  sSW : PySem.W.subIn K (.ref CS) (.ref CW) = some false
  sSG : PySem.W.subIn K (.ref CS) (.ref CG) = some false
  sSS : PySem.W.subIn K (.ref CS) (.ref CS) = some true
  sMW : PySem.W.subIn K (.ref CM) (.ref CW) = some false
  sMG : PySem.W.subIn K (.ref CM) (.ref CG) = some false
  sMS : PySem.W.subIn K (.ref CM) (.ref CS) = some false
  sMM : PySem.W.subIn K (.ref CM) (.ref CM) = some true
  sBW : PySem.W.subIn K (.ref CB) (.ref CW) = some false
  sBG : PySem.W.subIn K (.ref CB) (.ref CG) = some false
  sBS : PySem.W.subIn K (.ref CB) (.ref CS) = some false
  sBM : PySem.W.subIn K (.ref CB) (.ref CM) = some false
  sBB : PySem.W.subIn K (.ref CB) (.ref CB) = some true
  sUW : PySem.W.subIn K (.ref CU) (.ref CW) = some false
  sUG : PySem.W.subIn K (.ref CU) (.ref CG) = some false
  sUS : PySem.W.subIn K (.ref CU) (.ref CS) = some false
  sUM : PySem.W.subIn K (.ref CU) (.ref CM) = some false
  sUB : PySem.W.subIn K (.ref CU) (.ref CB) = some false
  sUU : PySem.W.subIn K (.ref CU) (.ref CU) = some true
  sVW : PySem.W.subIn K (.ref CV) (.ref CW) = some false
  sVG : PySem.W.subIn K (.ref CV) (.ref CG) = some false
  sVS : PySem.W.subIn K (.ref CV) (.ref CS) = some false
  sVM : PySem.W.subIn K (.ref CV) (.ref CM) = some false
  sVB : PySem.W.subIn K (.ref CV) (.ref CB) = some false
  sVU : PySem.W.subIn K (.ref CV) (.ref CU) = some false
  sVV : PySem.W.subIn K (.ref CV) (.ref CV) = some true
  gRow : PySem.W.nsIn K mainGlobals "Row" = some (some (.ref C))
  cPg : PySem.W.plainGet K C Str.empty = true
  cHd : PySem.W.hasDictIn K C = true
  cPo : PySem.W.plainOver K C = true
  cSa : PySem.W.findIn K (.ref C) "__setattr__" = some (some (.builtin "object.__setattr__"))
  n1 : NoAttr K C "_pattern"
  n2 : NoAttr K C "_prime"
  n3 : NoAttr K C "_sizes"
  n4 : NoAttr K C "_maps"
  mkC : PySem.W.makesIn K C = true
  kpC : PySem.W.keepIn K (.ref C) = true
  gStr : PySem.W.nsIn K mainGlobals "Stream" = some (some (.ref D))
  dPg : PySem.W.plainGet K D Str.empty = true
  dHd : PySem.W.hasDictIn K D = true
  dPo : PySem.W.plainOver K D = true
  dSa : PySem.W.findIn K (.ref D) "__setattr__" = some (some (.builtin "object.__setattr__"))
  dn1 : NoAttr K D "_row"
  dn2 : NoAttr K D "_past"
  dn3 : NoAttr K D "_undone"
  dmk : PySem.W.makesIn K D = true
  dkp : PySem.W.keepIn K (.ref D) = true
  neCD : C ≠ D
  rSp : PySem.W.specialIn K (.ref CR) "__getattribute__" = some (some (.builtin "type.__getattribute__"))
  rTy : PySem.W.typeIn K (.ref CR) = some (.type "type")
  rRd : PySem.W.readsIn K CR (.type "type") = true
  rIni : PySem.W.findCls K (.ref CR) (.type "type") "__init__" = some (.val (.builtin "ValueError.__init__"))
  mIni : MethHere K C "__init__" "Row.__init__" sIniR
  mMaps : MethHere K C "maps" "Row.maps" sMaps
  mPart : MethHere K C "part" "Row.part" sPart
  mLen : MethHere K C "__len__" "Row.__len__" sLenR
  tIni : MethHere K D "__init__" "Stream.__init__" sIniStr
  tRow : MethHere K D "row" "Stream.row" sRowS
  tLen : MethHere K D "__len__" "Stream.__len__" sLenS
  tGrow : MethHere K D "grow" "Stream.grow" sGrowM
  tCut : MethHere K D "cut" "Stream.cut" sCutM
  tUndo : MethHere K D "undo" "Stream.undo" sUndo
  tRedo : MethHere K D "redo" "Stream.redo" sRedo
  tDo : MethHere K D "_do" "Stream._do" sDo
  qP : PropHere K C "pattern" "Row.pattern" sGetP
  qQ : PropHere K C "prime" "Row.prime" sGetQ
  qS : PropHere K C "sizes" "Row.sizes" sGetS
  qU : PropHere K D "undoable" "Stream.undoable" sUab
  qR : PropHere K D "redoable" "Stream.redoable" sRab
  d1 : DefHere K "is_number" sNum
  d2 : DflHere K "is_integer" sInt [.none, .none]
  d3 : DefHere K "is_prime" sPrime
  d4 : DefHere K "check_prime" sCheck
  d5 : DefHere K "is_list" sList
  d6 : DefHere K "is_vector" sVec
  d7 : DefHere K "is_matrix" sMat
  d8 : DefHere K "is_pattern" sPat
  d9 : DefHere K "check_pattern" sCPat
  d10 : DefHere K "check_size" sCSize
  d11 : DefHere K "check_sizes" sCSz
  d12 : DefHere K "way" sWay
  d13 : DefHere K "_check_maps" sCMaps
  d14 : DefHere K "_check_arrow" sCArrow
  d15 : DefHere K "grown" sGrow
  d16 : DefHere K "_law_cell" sCell
  d17 : DefHere K "_law_box" sBox
  d18 : DefHere K "_law_take" sTake
  d19 : DefHere K "_law_prime" sPrimeL
  d20 : DefHere K "_law_matrix" sMatL
  d21 : DefHere K "_law_shown" sShown
  d22 : DefHere K "_law_cut" sCutL
  d23 : DefHere K "_law_as_lists" sAsL
  d24 : DefHere K "_law_longer" sLonger
  d25 : DefHere K "_law_wrong" sWrong
  d26 : DefHere K "_law_deed" sDeed
  d27 : DefHere K "_law_done" sDone
  d28 : DefHere K "_law_stands" sStands
  dl : DefHere K "law" sLaw
  z1 : PySem.W.nsIn K mainGlobals "isinstance" = some none
  z2 : PySem.W.nsIn K mainGlobals "int" = some none
  z3 : PySem.W.nsIn K mainGlobals "bool" = some none
  z4 : PySem.W.nsIn K mainGlobals "str" = some none
  z5 : PySem.W.nsIn K mainGlobals "list" = some none
  z6 : PySem.W.nsIn K mainGlobals "tuple" = some none
  z7 : PySem.W.nsIn K mainGlobals "len" = some none
  z8 : PySem.W.nsIn K mainGlobals "all" = some none
  z9 : PySem.W.nsIn K mainGlobals "range" = some none
  z10 : PySem.W.nsIn K mainGlobals "enumerate" = some none
  z11 : PySem.W.nsIn K mainGlobals "repr" = some none
  z12 : PySem.W.nsIn K mainGlobals "max" = some none
  z13 : PySem.W.nsIn K mainGlobals "min" = some none
theorem all_mk {l : PySem.W.OpenLaw} {w : World} {K : PySem.W.Frag} {h : Heap} {mg : Str → Option Value} {fa : Addr} {aI aT C D CR CP CT CZ CA CM CL CW CG CS CB CU CV : Addr} {kI : List (Int × Value)} {kT : List (Str × Value)} {tM : Tok} (X : K.In h) (G : h.Ns mainGlobals mg) (hfa : mg "law" = some (.ref fa)) (Z : Asked K w aI aT C D CR CP CT CZ CA CM CL CW CG CS CB CU CV kI kT tM) :
    ∃ fd : FuncData, (∀ (s : Shared) (v : Value), BindsTo s fd ⟨[v], []⟩ [("_law_script", v)]) ∧ ∀ base : Heap, K.In base → base.Ns mainGlobals mg → FnG l.prog w K mg base CX0 11 fa fd ["_law_script"] (spLaw K) := by
  have zz_isinstance : mg "isinstance" = none := PySem.W.mg_none_of X G Z.z1
  have zz_int : mg "int" = none := PySem.W.mg_none_of X G Z.z2
  have zz_bool : mg "bool" = none := PySem.W.mg_none_of X G Z.z3
  have zz_str : mg "str" = none := PySem.W.mg_none_of X G Z.z4
  have zz_list : mg "list" = none := PySem.W.mg_none_of X G Z.z5
  have zz_tuple : mg "tuple" = none := PySem.W.mg_none_of X G Z.z6
  have zz_len : mg "len" = none := PySem.W.mg_none_of X G Z.z7
  have zz_all : mg "all" = none := PySem.W.mg_none_of X G Z.z8
  have zz_range : mg "range" = none := PySem.W.mg_none_of X G Z.z9
  have zz_enumerate : mg "enumerate" = none := PySem.W.mg_none_of X G Z.z10
  have zz_repr : mg "repr" = none := PySem.W.mg_none_of X G Z.z11
  have zz_max : mg "max" = none := PySem.W.mg_none_of X G Z.z12
  have zz_min : mg "min" = none := PySem.W.mg_none_of X G Z.z13
  have eP : Err K mg "InvalidPrime" CP := Z.eP.err X G scIniP isP fun _ _ _ _ _ _ us hl => match us, hl with | [_, _], _ => rfl
  have eS : Err K mg "InvalidSize" CS := Z.eS.err X G scIniS isS fun _ _ _ _ _ _ us hl => match us, hl with | [_, _], _ => rfl
  have kxS : PySem.W.subIn K (.ref CS) (.type "BaseException") = some true := eS.xf.exC
  have eM : Err K mg "InvalidMatrix" CM := Z.eM.err X G scIniM isM fun _ _ _ _ _ _ us hl => match us, hl with | [_, _], _ => rfl
  have kxM : PySem.W.subIn K (.ref CM) (.type "BaseException") = some true := eM.xf.exC
  have eT : Err K mg "InvalidPattern" CT := Z.eT.err X G scIniT isT fun _ _ _ _ _ _ us hl => match us, hl with | [_, _], _ => rfl
  have eL : Err K mg "InvalidPlace" CL := Z.eL.err X G scIniL isL fun _ _ _ _ _ _ us hl => match us, hl with | [_, _], _ => rfl
  have eZ : Err K mg "InvalidSizes" CZ := Z.eZ.err X G scIniZ isZ fun _ _ _ _ _ _ us hl => match us, hl with | [_, _], _ => rfl
  have eA : Err K mg "InvalidMaps" CA := Z.eA.err X G scIniA isA fun _ _ _ _ _ _ us hl => match us, hl with | [_, _], _ => rfl
  have eB : Err K mg "InvalidNumber" CB := Z.eB.err X G scIniB isB fun _ _ _ _ _ _ us hl => match us, hl with | [_, _], _ => rfl
  have kxB : PySem.W.subIn K (.ref CB) (.type "BaseException") = some true := eB.xf.exC
  have eW : Err K mg "InvalidArrow" CW := Z.eW.err X G scIniW isW fun _ _ _ _ _ _ us hl => match us, hl with | [_, _], _ => rfl
  have kxW : PySem.W.subIn K (.ref CW) (.type "BaseException") = some true := eW.xf.exC
  have eG : Err K mg "TooLarge" CG := Z.eG.err X G scIniG isG fun _ _ _ _ _ _ us hl => match us, hl with | [_, _], _ => rfl
  have kxG : PySem.W.subIn K (.ref CG) (.type "BaseException") = some true := eG.xf.exC
  have gRoot : mg "RowError" = some (.ref CR) := PySem.W.mg_of X G Z.root
  have rtC : RootC K CR := ⟨Z.rSp, Z.rTy, Z.rRd, Z.rIni⟩
  have eU : ErrN K mg "NothingToUndo" CU := Z.eU.err X G scIniU (fun P w base q f cdv A outer s H E => ⟨_, pss_one (ps_expr (pe_rootini rtC rfl gRoot (pa_cons (pv 0) pa_nil))), fun _ _ _ z => z⟩) fun _ _ _ _ _ _ us hl => match us, hl with | [_], _ => rfl
  have kxU : PySem.W.subIn K (.ref CU) (.type "BaseException") = some true := eU.ox.exC
  have gRoot : mg "RowError" = some (.ref CR) := PySem.W.mg_of X G Z.root
  have rtC : RootC K CR := ⟨Z.rSp, Z.rTy, Z.rRd, Z.rIni⟩
  have eV : ErrN K mg "NothingToRedo" CV := Z.eV.err X G scIniV (fun P w base q f cdv A outer s H E => ⟨_, pss_one (ps_expr (pe_rootini rtC rfl gRoot (pa_cons (pv 0) pa_nil))), fun _ _ _ z => z⟩) fun _ _ _ _ _ _ us hl => match us, hl with | [_], _ => rfl
  have kxV : PySem.W.subIn K (.ref CV) (.type "BaseException") = some true := eV.ox.exC
  have xWW : PySem.W.exmOne K (.ref CW) (.ref CW) = some true := exm_of kxW Z.cW eW.ox.tyC Z.sWW
  have xGW : PySem.W.exmOne K (.ref CG) (.ref CW) = some false := exm_of kxW Z.cW eW.ox.tyC Z.sGW
  have xGG : PySem.W.exmOne K (.ref CG) (.ref CG) = some true := exm_of kxG Z.cG eG.ox.tyC Z.sGG
  have xSW : PySem.W.exmOne K (.ref CS) (.ref CW) = some false := exm_of kxW Z.cW eW.ox.tyC Z.sSW
  have xSG : PySem.W.exmOne K (.ref CS) (.ref CG) = some false := exm_of kxG Z.cG eG.ox.tyC Z.sSG
  have xSS : PySem.W.exmOne K (.ref CS) (.ref CS) = some true := exm_of kxS Z.cS eS.ox.tyC Z.sSS
  have xMW : PySem.W.exmOne K (.ref CM) (.ref CW) = some false := exm_of kxW Z.cW eW.ox.tyC Z.sMW
  have xMG : PySem.W.exmOne K (.ref CM) (.ref CG) = some false := exm_of kxG Z.cG eG.ox.tyC Z.sMG
  have xMS : PySem.W.exmOne K (.ref CM) (.ref CS) = some false := exm_of kxS Z.cS eS.ox.tyC Z.sMS
  have xMM : PySem.W.exmOne K (.ref CM) (.ref CM) = some true := exm_of kxM Z.cM eM.ox.tyC Z.sMM
  have xBW : PySem.W.exmOne K (.ref CB) (.ref CW) = some false := exm_of kxW Z.cW eW.ox.tyC Z.sBW
  have xBG : PySem.W.exmOne K (.ref CB) (.ref CG) = some false := exm_of kxG Z.cG eG.ox.tyC Z.sBG
  have xBS : PySem.W.exmOne K (.ref CB) (.ref CS) = some false := exm_of kxS Z.cS eS.ox.tyC Z.sBS
  have xBM : PySem.W.exmOne K (.ref CB) (.ref CM) = some false := exm_of kxM Z.cM eM.ox.tyC Z.sBM
  have xBB : PySem.W.exmOne K (.ref CB) (.ref CB) = some true := exm_of kxB Z.cB eB.ox.tyC Z.sBB
  have xUW : PySem.W.exmOne K (.ref CU) (.ref CW) = some false := exm_of kxW Z.cW eW.ox.tyC Z.sUW
  have xUG : PySem.W.exmOne K (.ref CU) (.ref CG) = some false := exm_of kxG Z.cG eG.ox.tyC Z.sUG
  have xUS : PySem.W.exmOne K (.ref CU) (.ref CS) = some false := exm_of kxS Z.cS eS.ox.tyC Z.sUS
  have xUM : PySem.W.exmOne K (.ref CU) (.ref CM) = some false := exm_of kxM Z.cM eM.ox.tyC Z.sUM
  have xUB : PySem.W.exmOne K (.ref CU) (.ref CB) = some false := exm_of kxB Z.cB eB.ox.tyC Z.sUB
  have xUU : PySem.W.exmOne K (.ref CU) (.ref CU) = some true := exm_of kxU Z.cU eU.ox.tyC Z.sUU
  have xVW : PySem.W.exmOne K (.ref CV) (.ref CW) = some false := exm_of kxW Z.cW eW.ox.tyC Z.sVW
  have xVG : PySem.W.exmOne K (.ref CV) (.ref CG) = some false := exm_of kxG Z.cG eG.ox.tyC Z.sVG
  have xVS : PySem.W.exmOne K (.ref CV) (.ref CS) = some false := exm_of kxS Z.cS eS.ox.tyC Z.sVS
  have xVM : PySem.W.exmOne K (.ref CV) (.ref CM) = some false := exm_of kxM Z.cM eM.ox.tyC Z.sVM
  have xVB : PySem.W.exmOne K (.ref CV) (.ref CB) = some false := exm_of kxB Z.cB eB.ox.tyC Z.sVB
  have xVU : PySem.W.exmOne K (.ref CV) (.ref CU) = some false := exm_of kxU Z.cU eU.ox.tyC Z.sVU
  have xVV : PySem.W.exmOne K (.ref CV) (.ref CV) = some true := exm_of kxV Z.cV eV.ox.tyC Z.sVV
  have T : Txt K w mg aI aT CP CT CZ CA CM CL kI kT := ⟨zz_isinstance, zz_int, zz_bool, zz_str, zz_list, zz_tuple, zz_len, zz_all, zz_range, zz_enumerate, PySem.W.mg_of X G Z.taI.1, Z.taI.2, Z.hI, PySem.W.mg_of X G Z.taT.1, Z.taT.2, Z.hT, ⟨tM, PySem.W.mg_of X G Z.iMOST⟩, eP, eT, eZ, eA, eM, eL⟩
  have cl : Cls K C := ⟨Z.cPg, Z.cHd, Z.cPo, Z.cSa⟩
  have R : RowCls K C := ⟨cl, Z.n1, Z.n2, Z.n3, Z.n4⟩
  have clD : Cls K D := ⟨Z.dPg, Z.dHd, Z.dPo, Z.dSa⟩
  have S : StrCls K C D := ⟨clD, Z.dn1, Z.dn2, Z.dn3, Z.neCD⟩
  have TC : TxC K mg CR CW CG CS CM CB CU CV := ⟨gRoot, xWW, xGW, xGG, xSW, xSG, xSS, xMW, xMG, xMS, xMM, xBW, xBG, xBS, xBM, xBB, xUW, xUG, xUS, xUM, xUB, xUU, xVW, xVG, xVS, xVM, xVB, xVU, xVV⟩
  have D1 := Z.d1.df (ps := ["value"]) X G fun _ _ _ _ _ _ us hl => match us, hl with | [_], _ => rfl
  have D3 := Z.d3.df (ps := ["value"]) X G fun _ _ _ _ _ _ us hl => match us, hl with | [_], _ => rfl
  have D4 := Z.d4.df (ps := ["prime"]) X G fun _ _ _ _ _ _ us hl => match us, hl with | [_], _ => rfl
  have D5 := Z.d5.df (ps := ["value"]) X G fun _ _ _ _ _ _ us hl => match us, hl with | [_], _ => rfl
  have D6 := Z.d6.df (ps := ["value", "length"]) X G fun _ _ _ _ _ _ us hl => match us, hl with | [_, _], _ => rfl
  have D7 := Z.d7.df (ps := ["value", "height", "width"]) X G fun _ _ _ _ _ _ us hl => match us, hl with | [_, _, _], _ => rfl
  have D8 := Z.d8.df (ps := ["value"]) X G fun _ _ _ _ _ _ us hl => match us, hl with | [_], _ => rfl
  have D9 := Z.d9.df (ps := ["pattern"]) X G fun _ _ _ _ _ _ us hl => match us, hl with | [_], _ => rfl
  have D10 := Z.d10.df (ps := ["size"]) X G fun _ _ _ _ _ _ us hl => match us, hl with | [_], _ => rfl
  have D11 := Z.d11.df (ps := ["pattern", "sizes"]) X G fun _ _ _ _ _ _ us hl => match us, hl with | [_, _], _ => rfl
  have D12 := Z.d12.df (ps := ["pattern", "index"]) X G fun _ _ _ _ _ _ us hl => match us, hl with | [_, _], _ => rfl
  have D13 := Z.d13.df (ps := ["pattern", "sizes", "maps"]) X G fun _ _ _ _ _ _ us hl => match us, hl with | [_, _, _], _ => rfl
  have D14 := Z.d14.df (ps := ["pattern", "arrow"]) X G fun _ _ _ _ _ _ us hl => match us, hl with | [_, _], _ => rfl
  have D15 := Z.d15.df (ps := ["row", "arrow", "size", "matrix"]) X G fun _ _ _ _ _ _ us hl => match us, hl with | [_, _, _, _], _ => rfl
  have D16 := Z.d16.df (ps := ["_law_script", "_law_k"]) X G fun _ _ _ _ _ _ us hl => match us, hl with | [_, _], _ => rfl
  have D17 := Z.d17.df (ps := ["_law_cell_here"]) X G fun _ _ _ _ _ _ us hl => match us, hl with | [_], _ => rfl
  have D18 := Z.d18.df (ps := ["_law_box_here", "_law_many"]) X G fun _ _ _ _ _ _ us hl => match us, hl with | [_, _], _ => rfl
  have D19 := Z.d19.df (ps := ["_law_box_here"]) X G fun _ _ _ _ _ _ us hl => match us, hl with | [_], _ => rfl
  have D20 := Z.d20.df (ps := ["_law_box_here", "_law_p", "_law_high", "_law_wide"]) X G fun _ _ _ _ _ _ us hl => match us, hl with | [_, _, _, _], _ => rfl
  have D21 := Z.d21.df (ps := ["_law_row"]) X G fun _ _ _ _ _ _ us hl => match us, hl with | [_], _ => rfl
  have D22 := Z.d22.df (ps := ["_law_draft", "_law_count"]) X G fun _ _ _ _ _ _ us hl => match us, hl with | [_, _], _ => rfl
  have D23 := Z.d23.df (ps := ["_law_thing"]) X G fun _ _ _ _ _ _ us hl => match us, hl with | [_], _ => rfl
  have D24 := Z.d24.df (ps := ["_law_box_here", "_law_draft"]) X G fun _ _ _ _ _ _ us hl => match us, hl with | [_, _], _ => rfl
  have D25 := Z.d25.df (ps := ["_law_box_here", "_law_here"]) X G fun _ _ _ _ _ _ us hl => match us, hl with | [_, _], _ => rfl
  have D26 := Z.d26.df (ps := ["_law_box_here", "_law_state"]) X G fun _ _ _ _ _ _ us hl => match us, hl with | [_, _], _ => rfl
  have D27 := Z.d27.df (ps := ["_law_stream", "_law_deed_here"]) X G fun _ _ _ _ _ _ us hl => match us, hl with | [_, _], _ => rfl
  have D28 := Z.d28.df (ps := ["_law_stream", "_law_state"]) X G fun _ _ _ _ _ _ us hl => match us, hl with | [_, _], _ => rfl
  obtain ⟨f_mIni, fd_mIni, at_mIni, fn_mIni, kp_mIni, F_mIni, B_mIni⟩ := Z.mIni.mt (ps := ["self", "pattern", "prime", "sizes", "maps"]) fun _ _ _ _ _ _ us hl => match us, hl with | [_, _, _, _, _], _ => rfl
  obtain ⟨f_mMaps, fd_mMaps, at_mMaps, fn_mMaps, kp_mMaps, F_mMaps, B_mMaps⟩ := Z.mMaps.mt (ps := ["self"]) fun _ _ _ _ _ _ us hl => match us, hl with | [_], _ => rfl
  obtain ⟨f_mPart, fd_mPart, at_mPart, fn_mPart, kp_mPart, F_mPart, B_mPart⟩ := Z.mPart.mt (ps := ["self", "first", "last"]) fun _ _ _ _ _ _ us hl => match us, hl with | [_, _, _], _ => rfl
  obtain ⟨f_mLen, fd_mLen, at_mLen, fn_mLen, kp_mLen, F_mLen, B_mLen⟩ := Z.mLen.mt (ps := ["self"]) fun _ _ _ _ _ _ us hl => match us, hl with | [_], _ => rfl
  obtain ⟨f_tIni, fd_tIni, at_tIni, fn_tIni, kp_tIni, F_tIni, B_tIni⟩ := Z.tIni.mt (ps := ["self", "prime", "size"]) fun _ _ _ _ _ _ us hl => match us, hl with | [_, _, _], _ => rfl
  obtain ⟨f_tRow, fd_tRow, at_tRow, fn_tRow, kp_tRow, F_tRow, B_tRow⟩ := Z.tRow.mt (ps := ["self"]) fun _ _ _ _ _ _ us hl => match us, hl with | [_], _ => rfl
  obtain ⟨f_tLen, fd_tLen, at_tLen, fn_tLen, kp_tLen, F_tLen, B_tLen⟩ := Z.tLen.mt (ps := ["self"]) fun _ _ _ _ _ _ us hl => match us, hl with | [_], _ => rfl
  obtain ⟨f_tGrow, fd_tGrow, at_tGrow, fn_tGrow, kp_tGrow, F_tGrow, B_tGrow⟩ := Z.tGrow.mt (ps := ["self", "arrow", "size", "matrix"]) fun _ _ _ _ _ _ us hl => match us, hl with | [_, _, _, _], _ => rfl
  obtain ⟨f_tCut, fd_tCut, at_tCut, fn_tCut, kp_tCut, F_tCut, B_tCut⟩ := Z.tCut.mt (ps := ["self", "count"]) fun _ _ _ _ _ _ us hl => match us, hl with | [_, _], _ => rfl
  obtain ⟨f_tUndo, fd_tUndo, at_tUndo, fn_tUndo, kp_tUndo, F_tUndo, B_tUndo⟩ := Z.tUndo.mt (ps := ["self"]) fun _ _ _ _ _ _ us hl => match us, hl with | [_], _ => rfl
  obtain ⟨f_tRedo, fd_tRedo, at_tRedo, fn_tRedo, kp_tRedo, F_tRedo, B_tRedo⟩ := Z.tRedo.mt (ps := ["self"]) fun _ _ _ _ _ _ us hl => match us, hl with | [_], _ => rfl
  obtain ⟨f_tDo, fd_tDo, at_tDo, fn_tDo, kp_tDo, F_tDo, B_tDo⟩ := Z.tDo.mt (ps := ["self", "row"]) fun _ _ _ _ _ _ us hl => match us, hl with | [_, _], _ => rfl
  obtain ⟨p_qP, g_qP, fd_qP, P_qP, F_qP, B_qP⟩ := Z.qP.pr (ps := ["self"]) fun _ _ _ _ _ _ us hl => match us, hl with | [_], _ => rfl
  obtain ⟨p_qQ, g_qQ, fd_qQ, P_qQ, F_qQ, B_qQ⟩ := Z.qQ.pr (ps := ["self"]) fun _ _ _ _ _ _ us hl => match us, hl with | [_], _ => rfl
  obtain ⟨p_qS, g_qS, fd_qS, P_qS, F_qS, B_qS⟩ := Z.qS.pr (ps := ["self"]) fun _ _ _ _ _ _ us hl => match us, hl with | [_], _ => rfl
  obtain ⟨p_qU, g_qU, fd_qU, P_qU, F_qU, B_qU⟩ := Z.qU.pr (ps := ["self"]) fun _ _ _ _ _ _ us hl => match us, hl with | [_], _ => rfl
  obtain ⟨p_qR, g_qR, fd_qR, P_qR, F_qR, B_qR⟩ := Z.qR.pr (ps := ["self"]) fun _ _ _ _ _ _ us hl => match us, hl with | [_], _ => rfl
  obtain ⟨f, g, oc, od, kV, dc, pm, an, cd, ct, sl, lk, hc, hk⟩ := Z.dl
  have e := hfa.symm.trans (PySem.W.mg_of X G g)
  cases e
  refine ⟨PySem.W.fnOf "law" "law" (defArgs sLaw) (defBody sLaw) (defScope sLaw) .none kV dc pm an cd ct, fun s v => .of_eq rfl, fun base KB _ => ?_⟩
  have PP : PropAt l.prog w K mg base C "pattern" (spGetP C) := ⟨cl, p_qP, g_qP, fd_qP, P_qP, okGetP F_qP R, B_qP⟩
  have PQ : PropAt l.prog w K mg base C "prime" (spGetQ C) := ⟨cl, p_qQ, g_qQ, fd_qQ, P_qQ, okGetQ F_qQ R, B_qQ⟩
  have PS : PropAt l.prog w K mg base C "sizes" (spGetS C) := ⟨cl, p_qS, g_qS, fd_qS, P_qS, okGetS F_qS R, B_qS⟩
  have MM : Meth0At l.prog w K mg base C "maps" 1 (spMapsN C) := ⟨cl, f_mMaps, fd_mMaps, ⟨at_mMaps, fn_mMaps, kp_mMaps⟩, okMaps F_mMaps T R, B_mMaps⟩
  have RL : RLen l.prog w K mg base C := ⟨f_mLen, fd_mLen, at_mLen, fn_mLen, okLenR F_mLen T R, B_mLen⟩
  have PU : PropAt l.prog w K mg base D "undoable" (spUndoable D C) := ⟨clD, p_qU, g_qU, fd_qU, P_qU, okUab F_qU S T.len, B_qU⟩
  have PR : PropAt l.prog w K mg base D "redoable" (spRedoable D C) := ⟨clD, p_qR, g_qR, fd_qR, P_qR, okRab F_qR S T.len, B_qR⟩
  have MR : Meth0At l.prog w K mg base D "row" 1 (spRowS D C) := ⟨clD, f_tRow, fd_tRow, ⟨at_tRow, fn_tRow, kp_tRow⟩, okRowS F_tRow S, B_tRow⟩
  have LS : ∃ (f : Addr) (fd : FuncData), PySem.W.findIn K (.ref D) "__len__" = some (some (.ref f)) ∧ PySem.W.isFn K (.ref f) = true ∧ FnOk l.prog w K mg base CX0 3 f fd ["self"] (spLenS D C) ∧ Binds K fd ["self"] [] := ⟨f_tLen, fd_tLen, at_tLen, fn_tLen, okLenS F_tLen S T.len RL, B_tLen⟩
  have DA : DoAt l.prog w K mg base D C := ⟨f_tDo, fd_tDo, ⟨at_tDo, fn_tDo, kp_tDo⟩, okDo F_tDo S, B_tDo⟩
  have G1 : Own l.prog w K mg base CX0 1 "is_number" ["value"] [] spNum := D1.own fun f fd F => okNum F T
  have G2 : Own l.prog w K mg base CX0 2 "is_integer" ["value", "low", "high"] [] spInt := Z.d2.own3 X G (fun T kV doc pm an cdv ct us its h1 h2 => match us, its, h1, h2 with | [_, _, _], [_, _], _, _ => ⟨_, rfl, rfl⟩) fun f fd F => okInt F G1
  have G3 : Own l.prog w K mg base CX0 2 "is_prime" ["value"] [] spPrime := D3.own fun f fd F => okPrime F T G1
  have G4 : Own l.prog w K mg base (L2.CX l.prog w) 4 "check_prime" ["prime"] [] (spCheck CP) := D4.own fun f fd F => okCheck F T G3
  have G5 : Own l.prog w K mg base CX0 1 "is_list" ["value"] [] spList := D5.own fun f fd F => okList F T
  have G6 : Own l.prog w K mg base CX0 2 "is_vector" ["value", "length"] [] spVec := D6.own fun f fd F => okVec F T G5
  have G7 : Own l.prog w K mg base CX0 3 "is_matrix" ["value", "height", "width"] [] spMat := D7.own fun f fd F => okMat F T G5 G6
  have G8 : Own l.prog w K mg base CX0 1 "is_pattern" ["value"] [] spPat := D8.own fun f fd F => okPat F T
  have G9 : Own l.prog w K mg base (L2.CX l.prog w) 4 "check_pattern" ["pattern"] [] (spCPat CT) := D9.own fun f fd F => okCPat F T G8
  have G10 : Own l.prog w K mg base (L2.CX l.prog w) 4 "check_size" ["size"] [] (spCSize CS) := D10.own fun f fd F => okCSize F T eS G2
  have G11 : Own l.prog w K mg base (L2.CX l.prog w) 4 "check_sizes" ["pattern", "sizes"] [] (spCSz CZ) := D11.own fun f fd F => okCSz F T G5 G2
  have G12 : Own l.prog w K mg base CX0 1 "way" ["pattern", "index"] [] spWay := D12.own fun f fd F => okWay F
  have G13 : Own l.prog w K mg base (L2.CX l.prog w) 5 "_check_maps" ["pattern", "sizes", "maps"] [] (spCMaps CA CM) := D13.own fun f fd F => okCMaps F T G5 G12 G7
  have G14 : Own l.prog w K mg base (L2.CX l.prog w) 4 "_check_arrow" ["pattern", "arrow"] [] (spCArrow CW CG) := D14.own fun f fd F => okCArrow F T Z.hT2 eW eG
  have RA : RowsAt l.prog w K mg base C CT CP CZ CA CM := ⟨PySem.W.mg_of X G Z.gRow, cl, f_mIni, fd_mIni, ⟨Z.mkC, at_mIni, fn_mIni, Z.kpC⟩, okIniR F_mIni T R G9 G4 G11 G13, B_mIni⟩
  have PA : PartAt l.prog w K mg base C CL := ⟨cl, f_mPart, fd_mPart, ⟨at_mPart, fn_mPart, kp_mPart⟩, okPart F_mPart T R RA G2, B_mPart⟩
  have G15 : Own l.prog w K mg base (L2.CX l.prog w) 8 "grown" ["row", "arrow", "size", "matrix"] [] (spGrow C CW CG CS CM) := D15.own fun f fd F => okGrow F PP PQ PS MM RA G14 G10
  have SA : StrAts l.prog w K mg base D C CW CG CS CM CB CU CV := ⟨⟨f_tGrow, fd_tGrow, ⟨at_tGrow, fn_tGrow, kp_tGrow⟩, okGrowM F_tGrow S DA G15, B_tGrow⟩, ⟨f_tCut, fd_tCut, ⟨at_tCut, fn_tCut, kp_tCut⟩, okCutM F_tCut S DA T.len RL PA eB G2, B_tCut⟩, ⟨f_tUndo, fd_tUndo, ⟨at_tUndo, fn_tUndo, kp_tUndo⟩, okUndo F_tUndo S T.len eU, B_tUndo⟩, ⟨f_tRedo, fd_tRedo, ⟨at_tRedo, fn_tRedo, kp_tRedo⟩, okRedo F_tRedo S T.len eV, B_tRedo⟩⟩
  have G16 : Own l.prog w K mg base CX0 1 "_law_cell" ["_law_script", "_law_k"] [] (spCellR K) := D16.own fun f fd F => okCell F T.len
  have G17 : Own l.prog w K mg base CX0 1 "_law_box" ["_law_cell_here"] [] spBoxR := D17.own fun f fd F => okBox F zz_max T.int
  have G18 : Own l.prog w K mg base CX0 1 "_law_take" ["_law_box_here", "_law_many"] [] spTakeR := D18.own fun f fd F => okTake F T.int
  have G19 : Own l.prog w K mg base CX0 2 "_law_prime" ["_law_box_here"] [] spPrimeR := D19.own fun f fd F => okPrimeL F G18
  have G20 : Own l.prog w K mg base CX0 2 "_law_matrix" ["_law_box_here", "_law_p", "_law_high", "_law_wide"] [] spMatR := D20.own fun f fd F => okMatL F T.range T.tuple T.int G18
  have G21 : Own l.prog w K mg base CX0 3 "_law_shown" ["_law_row"] [] (spShownD C) := D21.own fun f fd F => okShown F T.list PP PQ PS MM
  have G22 : Own l.prog w K mg base CX0 1 "_law_cut" ["_law_draft", "_law_count"] [] spCutL := D22.own fun f fd F => okCutL F
  have G23 : Own l.prog w K mg base CX0 1 "_law_as_lists" ["_law_thing"] [] spAsL := D23.own fun f fd F => okAsL F T.isi T.list
  have G24 : Own l.prog w K mg base CX0 3 "_law_longer" ["_law_box_here", "_law_draft"] [] spLonger := D24.own fun f fd F => okLonger F G18 G20
  have G25 : Own l.prog w K mg base CX0 4 "_law_wrong" ["_law_box_here", "_law_here"] [] spWrong := D25.own fun f fd F => okWrong F T.len G18 G24 G23
  have G26 : Own l.prog w K mg base CX0 5 "_law_deed" ["_law_box_here", "_law_state"] [] spDeed := D26.own fun f fd F => okDeed F T.len G18 G24 G22 G25
  have G27 : OwnG l.prog w K mg base CX0 10 "_law_done" ["_law_stream", "_law_deed_here"] [] (spDone D C) := D27.ownG fun f fd F => okDone F zz_repr clD SA TC eW eG eS eM eB eU eV G23
  have G28 : Own l.prog w K mg base CX0 5 "_law_stands" ["_law_stream", "_law_state"] [] (spStands D C) := D28.own fun f fd F => okStands F T.len MR PU PR LS G21
  exact okLaw (fun_mk (st := sLaw) lk hc hk) ⟨zz_range, zz_max, zz_min, zz_len, zz_int, zz_list, zz_repr, zz_isinstance⟩ ⟨G16, G17, G18, G19, G26, G27, G28, PySem.W.mg_of X G Z.gStr, Z.neCD, ⟨f_tIni, fd_tIni, ⟨Z.dmk, at_tIni, fn_tIni, Z.dkp⟩, okIniS F_tIni S RA G4 G10, B_tIni⟩, LS⟩
end K57

set_option Elab.async false
open PySem PySem.W PyProof.Rows
set_option maxRecDepth 100000
set_option maxHeartbeats 0
open_top k57head for PySem.Challenge.rw_maprows_k57_streams_as_a_model

open PySem PySem.W PyProof.Rows in
set_option maxRecDepth 100000 in
set_option maxHeartbeats 0 in
set_option pp.maxSteps 20 in
theorem PySem.Challenge.cw_maprows_k57_streams_as_a_model_holds : PySem.Challenge.rw_maprows_k57_streams_as_a_model.Holds := by
  refine k57head ?walk
  k_fill
  refine Rw.walkG (l := PySem.Challenge.rw_maprows_k57_streams_as_a_model) (n := 63) (k := 11) (x := "_law_script") (sp := K57.spLaw) rfl (by decide) rfl rfl ⟨rfl, by decide, by decide⟩ (fun w h Y => PySem.W.kIn_of Y) ?F (fun K H a ns hl _ hs => ⟨a, ns, rfl, hs, hl, fun _ => rfl⟩)
  intro w mg fa h KX G hmg
  refine' K57.all_mk KX G hmg ?Z
  case' Z => refine' ⟨?taI, ?taT, ?iMOST, ?hI, ?hT, ?hT2, ?root, ?eP, ?eS, ?eM, ?eT, ?eL, ?eZ, ?eA, ?eB, ?eW, ?eG, ?eU, ?eV, ?cW, ?cG, ?cS, ?cM, ?cB, ?cU, ?cV, ?sWW, ?sGW, ?sGG, ?sSW, ?sSG, ?sSS, ?sMW, ?sMG, ?sMS, ?sMM, ?sBW, ?sBG, ?sBS, ?sBM, ?sBB, ?sUW, ?sUG, ?sUS, ?sUM, ?sUB, ?sUU, ?sVW, ?sVG, ?sVS, ?sVM, ?sVB, ?sVU, ?sVV, ?gRow, ?cPg, ?cHd, ?cPo, ?cSa, ?n1, ?n2, ?n3, ?n4, ?mkC, ?kpC, ?gStr, ?dPg, ?dHd, ?dPo, ?dSa, ?dn1, ?dn2, ?dn3, ?dmk, ?dkp, ?neCD, ?rSp, ?rTy, ?rRd, ?rIni, ?mIni, ?mMaps, ?mPart, ?mLen, ?tIni, ?tRow, ?tLen, ?tGrow, ?tCut, ?tUndo, ?tRedo, ?tDo, ?qP, ?qQ, ?qS, ?qU, ?qR, ?d1, ?d2, ?d3, ?d4, ?d5, ?d6, ?d7, ?d8, ?d9, ?d10, ?d11, ?d12, ?d13, ?d14, ?d15, ?d16, ?d17, ?d18, ?d19, ?d20, ?d21, ?d22, ?d23, ?d24, ?d25, ?d26, ?d27, ?d28, ?dl, ?z1, ?z2, ?z3, ?z4, ?z5, ?z6, ?z7, ?z8, ?z9, ?z10, ?z11, ?z12, ?z13⟩
  (case taI => refine' Rw.TabIHere.of ?g ?k ?t ?z; (case g => k_is); (case k => k_is); (case t => exact .cons rfl rfl rfl (.cons rfl rfl rfl (.cons rfl rfl rfl (.cons rfl rfl rfl (.cons rfl rfl rfl (.cons rfl rfl rfl .nil)))))); (case z => first | rfl | k_is))
  (case taT => refine' Rw.TabSHere.of ?g ?k ?t ?z; (case g => k_is); (case k => k_is); (case t => exact .cons rfl rfl rfl (.cons rfl rfl rfl .nil)); (case z => first | rfl | k_is))
  (case iMOST => k_is)
  (case hI => exact fun i => Rw.prime_tab (us := []) i)
  (case hT => exact fun c => Rw.arr_tab c)
  (case hT2 => exact fun z => Rw.arr_tab2 z)
  (case root => k_is)
  (case eP => refine' Rw.ErrHere.of ?g ?xl ?sa ?ga ?gg ?no ?ini ?ty ?l ?c ?k ?kc ?ex ?tc ?hd; (case g => k_is); (case xl => k_is); (case sa => k_is); (case ga => k_is); (case gg => k_is); (case no => k_is); (case ini => k_is); (case ty => k_is); (case l => k_is); (case c => k_is); (case k => k_is); (case kc => k_is); (case ex => k_is); (case tc => k_is); (case hd => k_is))
  (case eS => refine' Rw.ErrHere.of ?g ?xl ?sa ?ga ?gg ?no ?ini ?ty ?l ?c ?k ?kc ?ex ?tc ?hd; (case g => k_is); (case xl => k_is); (case sa => k_is); (case ga => k_is); (case gg => k_is); (case no => k_is); (case ini => k_is); (case ty => k_is); (case l => k_is); (case c => k_is); (case k => k_is); (case kc => k_is); (case ex => k_is); (case tc => k_is); (case hd => k_is))
  (case eM => refine' Rw.ErrHere.of ?g ?xl ?sa ?ga ?gg ?no ?ini ?ty ?l ?c ?k ?kc ?ex ?tc ?hd; (case g => k_is); (case xl => k_is); (case sa => k_is); (case ga => k_is); (case gg => k_is); (case no => k_is); (case ini => k_is); (case ty => k_is); (case l => k_is); (case c => k_is); (case k => k_is); (case kc => k_is); (case ex => k_is); (case tc => k_is); (case hd => k_is))
  (case eT => refine' Rw.ErrHere.of ?g ?xl ?sa ?ga ?gg ?no ?ini ?ty ?l ?c ?k ?kc ?ex ?tc ?hd; (case g => k_is); (case xl => k_is); (case sa => k_is); (case ga => k_is); (case gg => k_is); (case no => k_is); (case ini => k_is); (case ty => k_is); (case l => k_is); (case c => k_is); (case k => k_is); (case kc => k_is); (case ex => k_is); (case tc => k_is); (case hd => k_is))
  (case eL => refine' Rw.ErrHere.of ?g ?xl ?sa ?ga ?gg ?no ?ini ?ty ?l ?c ?k ?kc ?ex ?tc ?hd; (case g => k_is); (case xl => k_is); (case sa => k_is); (case ga => k_is); (case gg => k_is); (case no => k_is); (case ini => k_is); (case ty => k_is); (case l => k_is); (case c => k_is); (case k => k_is); (case kc => k_is); (case ex => k_is); (case tc => k_is); (case hd => k_is))
  (case eZ => refine' Rw.ErrHere.of ?g ?xl ?sa ?ga ?gg ?no ?ini ?ty ?l ?c ?k ?kc ?ex ?tc ?hd; (case g => k_is); (case xl => k_is); (case sa => k_is); (case ga => k_is); (case gg => k_is); (case no => k_is); (case ini => k_is); (case ty => k_is); (case l => k_is); (case c => k_is); (case k => k_is); (case kc => k_is); (case ex => k_is); (case tc => k_is); (case hd => k_is))
  (case eA => refine' Rw.ErrHere.of ?g ?xl ?sa ?ga ?gg ?no ?ini ?ty ?l ?c ?k ?kc ?ex ?tc ?hd; (case g => k_is); (case xl => k_is); (case sa => k_is); (case ga => k_is); (case gg => k_is); (case no => k_is); (case ini => k_is); (case ty => k_is); (case l => k_is); (case c => k_is); (case k => k_is); (case kc => k_is); (case ex => k_is); (case tc => k_is); (case hd => k_is))
  (case eB => refine' Rw.ErrHere.of ?g ?xl ?sa ?ga ?gg ?no ?ini ?ty ?l ?c ?k ?kc ?ex ?tc ?hd; (case g => k_is); (case xl => k_is); (case sa => k_is); (case ga => k_is); (case gg => k_is); (case no => k_is); (case ini => k_is); (case ty => k_is); (case l => k_is); (case c => k_is); (case k => k_is); (case kc => k_is); (case ex => k_is); (case tc => k_is); (case hd => k_is))
  (case eW => refine' Rw.ErrHere.of ?g ?xl ?sa ?ga ?gg ?no ?ini ?ty ?l ?c ?k ?kc ?ex ?tc ?hd; (case g => k_is); (case xl => k_is); (case sa => k_is); (case ga => k_is); (case gg => k_is); (case no => k_is); (case ini => k_is); (case ty => k_is); (case l => k_is); (case c => k_is); (case k => k_is); (case kc => k_is); (case ex => k_is); (case tc => k_is); (case hd => k_is))
  (case eG => refine' Rw.ErrHere.of ?g ?xl ?sa ?ga ?gg ?no ?ini ?ty ?l ?c ?k ?kc ?ex ?tc ?hd; (case g => k_is); (case xl => k_is); (case sa => k_is); (case ga => k_is); (case gg => k_is); (case no => k_is); (case ini => k_is); (case ty => k_is); (case l => k_is); (case c => k_is); (case k => k_is); (case kc => k_is); (case ex => k_is); (case tc => k_is); (case hd => k_is))
  (case eU => refine' Rw.ErrNHere.of ?g ?xl ?sa ?ini ?ty ?l ?c ?k ?kc ?ex ?tc; (case g => k_is); (case xl => k_is); (case sa => k_is); (case ini => k_is); (case ty => k_is); (case l => k_is); (case c => k_is); (case k => k_is); (case kc => k_is); (case ex => k_is); (case tc => k_is))
  (case eV => refine' Rw.ErrNHere.of ?g ?xl ?sa ?ini ?ty ?l ?c ?k ?kc ?ex ?tc; (case g => k_is); (case xl => k_is); (case sa => k_is); (case ini => k_is); (case ty => k_is); (case l => k_is); (case c => k_is); (case k => k_is); (case kc => k_is); (case ex => k_is); (case tc => k_is))
  (case cW => first | rfl | k_is)
  (case cG => first | rfl | k_is)
  (case cS => first | rfl | k_is)
  (case cM => first | rfl | k_is)
  (case cB => first | rfl | k_is)
  (case cU => first | rfl | k_is)
  (case cV => first | rfl | k_is)
  (case sWW => first | rfl | k_is)
  (case sGW => first | rfl | k_is)
  (case sGG => first | rfl | k_is)
  (case sSW => first | rfl | k_is)
  (case sSG => first | rfl | k_is)
  (case sSS => first | rfl | k_is)
  (case sMW => first | rfl | k_is)
  (case sMG => first | rfl | k_is)
  (case sMS => first | rfl | k_is)
  (case sMM => first | rfl | k_is)
  (case sBW => first | rfl | k_is)
  (case sBG => first | rfl | k_is)
  (case sBS => first | rfl | k_is)
  (case sBM => first | rfl | k_is)
  (case sBB => first | rfl | k_is)
  (case sUW => first | rfl | k_is)
  (case sUG => first | rfl | k_is)
  (case sUS => first | rfl | k_is)
  (case sUM => first | rfl | k_is)
  (case sUB => first | rfl | k_is)
  (case sUU => first | rfl | k_is)
  (case sVW => first | rfl | k_is)
  (case sVG => first | rfl | k_is)
  (case sVS => first | rfl | k_is)
  (case sVM => first | rfl | k_is)
  (case sVB => first | rfl | k_is)
  (case sVU => first | rfl | k_is)
  (case sVV => first | rfl | k_is)
  (case gRow => first | rfl | k_is)
  (case cPg => first | rfl | k_is)
  (case cHd => first | rfl | k_is)
  (case cPo => first | rfl | k_is)
  (case cSa => first | rfl | k_is)
  (case n1 => first | rfl | k_is)
  (case n2 => first | rfl | k_is)
  (case n3 => first | rfl | k_is)
  (case n4 => first | rfl | k_is)
  (case mkC => first | rfl | k_is)
  (case kpC => first | rfl | k_is)
  (case gStr => first | rfl | k_is)
  (case dPg => first | rfl | k_is)
  (case dHd => first | rfl | k_is)
  (case dPo => first | rfl | k_is)
  (case dSa => first | rfl | k_is)
  (case dn1 => first | rfl | k_is)
  (case dn2 => first | rfl | k_is)
  (case dn3 => first | rfl | k_is)
  (case dmk => first | rfl | k_is)
  (case dkp => first | rfl | k_is)
  (case neCD => decide)
  (case rSp => first | rfl | k_is)
  (case rTy => first | rfl | k_is)
  (case rRd => first | rfl | k_is)
  (case rIni => first | rfl | k_is)
  (case mIni => refine' Rw.MethHere.of ?g ?fn ?l ?c ?k; (case g => k_is); (case fn => first | rfl | k_is); (case l => k_is); (case c => k_is); (case k => k_is))
  (case mMaps => refine' Rw.MethHere.of ?g ?fn ?l ?c ?k; (case g => k_is); (case fn => first | rfl | k_is); (case l => k_is); (case c => k_is); (case k => k_is))
  (case mPart => refine' Rw.MethHere.of ?g ?fn ?l ?c ?k; (case g => k_is); (case fn => first | rfl | k_is); (case l => k_is); (case c => k_is); (case k => k_is))
  (case mLen => refine' Rw.MethHere.of ?g ?fn ?l ?c ?k; (case g => k_is); (case fn => first | rfl | k_is); (case l => k_is); (case c => k_is); (case k => k_is))
  (case tIni => refine' Rw.MethHere.of ?g ?fn ?l ?c ?k; (case g => k_is); (case fn => first | rfl | k_is); (case l => k_is); (case c => k_is); (case k => k_is))
  (case tRow => refine' Rw.MethHere.of ?g ?fn ?l ?c ?k; (case g => k_is); (case fn => first | rfl | k_is); (case l => k_is); (case c => k_is); (case k => k_is))
  (case tLen => refine' Rw.MethHere.of ?g ?fn ?l ?c ?k; (case g => k_is); (case fn => first | rfl | k_is); (case l => k_is); (case c => k_is); (case k => k_is))
  (case tGrow => refine' Rw.MethHere.of ?g ?fn ?l ?c ?k; (case g => k_is); (case fn => first | rfl | k_is); (case l => k_is); (case c => k_is); (case k => k_is))
  (case tCut => refine' Rw.MethHere.of ?g ?fn ?l ?c ?k; (case g => k_is); (case fn => first | rfl | k_is); (case l => k_is); (case c => k_is); (case k => k_is))
  (case tUndo => refine' Rw.MethHere.of ?g ?fn ?l ?c ?k; (case g => k_is); (case fn => first | rfl | k_is); (case l => k_is); (case c => k_is); (case k => k_is))
  (case tRedo => refine' Rw.MethHere.of ?g ?fn ?l ?c ?k; (case g => k_is); (case fn => first | rfl | k_is); (case l => k_is); (case c => k_is); (case k => k_is))
  (case tDo => refine' Rw.MethHere.of ?g ?fn ?l ?c ?k; (case g => k_is); (case fn => first | rfl | k_is); (case l => k_is); (case c => k_is); (case k => k_is))
  (case qP => refine' Rw.PropHere.of ?a ?ge ?ta ?re ?l ?c ?k; (case a => k_is); (case ge => first | rfl | k_is); (case ta => first | rfl | k_is); (case re => k_is); (case l => k_is); (case c => k_is); (case k => k_is))
  (case qQ => refine' Rw.PropHere.of ?a ?ge ?ta ?re ?l ?c ?k; (case a => k_is); (case ge => first | rfl | k_is); (case ta => first | rfl | k_is); (case re => k_is); (case l => k_is); (case c => k_is); (case k => k_is))
  (case qS => refine' Rw.PropHere.of ?a ?ge ?ta ?re ?l ?c ?k; (case a => k_is); (case ge => first | rfl | k_is); (case ta => first | rfl | k_is); (case re => k_is); (case l => k_is); (case c => k_is); (case k => k_is))
  (case qU => refine' Rw.PropHere.of ?a ?ge ?ta ?re ?l ?c ?k; (case a => k_is); (case ge => first | rfl | k_is); (case ta => first | rfl | k_is); (case re => k_is); (case l => k_is); (case c => k_is); (case k => k_is))
  (case qR => refine' Rw.PropHere.of ?a ?ge ?ta ?re ?l ?c ?k; (case a => k_is); (case ge => first | rfl | k_is); (case ta => first | rfl | k_is); (case re => k_is); (case l => k_is); (case c => k_is); (case k => k_is))
  (case d1 => refine' Rw.DefHere.of ?g ?l ?c ?k; (case g => k_is); (case l => k_is); (case c => k_is); (case k => k_is))
  (case d2 => refine' Rw.DflHere.of ?g ?l ?c ?k ?t; (case g => k_is); (case l => k_is); (case c => k_is); (case k => k_is); (case t => k_is))
  (case d3 => refine' Rw.DefHere.of ?g ?l ?c ?k; (case g => k_is); (case l => k_is); (case c => k_is); (case k => k_is))
  (case d4 => refine' Rw.DefHere.of ?g ?l ?c ?k; (case g => k_is); (case l => k_is); (case c => k_is); (case k => k_is))
  (case d5 => refine' Rw.DefHere.of ?g ?l ?c ?k; (case g => k_is); (case l => k_is); (case c => k_is); (case k => k_is))
  (case d6 => refine' Rw.DefHere.of ?g ?l ?c ?k; (case g => k_is); (case l => k_is); (case c => k_is); (case k => k_is))
  (case d7 => refine' Rw.DefHere.of ?g ?l ?c ?k; (case g => k_is); (case l => k_is); (case c => k_is); (case k => k_is))
  (case d8 => refine' Rw.DefHere.of ?g ?l ?c ?k; (case g => k_is); (case l => k_is); (case c => k_is); (case k => k_is))
  (case d9 => refine' Rw.DefHere.of ?g ?l ?c ?k; (case g => k_is); (case l => k_is); (case c => k_is); (case k => k_is))
  (case d10 => refine' Rw.DefHere.of ?g ?l ?c ?k; (case g => k_is); (case l => k_is); (case c => k_is); (case k => k_is))
  (case d11 => refine' Rw.DefHere.of ?g ?l ?c ?k; (case g => k_is); (case l => k_is); (case c => k_is); (case k => k_is))
  (case d12 => refine' Rw.DefHere.of ?g ?l ?c ?k; (case g => k_is); (case l => k_is); (case c => k_is); (case k => k_is))
  (case d13 => refine' Rw.DefHere.of ?g ?l ?c ?k; (case g => k_is); (case l => k_is); (case c => k_is); (case k => k_is))
  (case d14 => refine' Rw.DefHere.of ?g ?l ?c ?k; (case g => k_is); (case l => k_is); (case c => k_is); (case k => k_is))
  (case d15 => refine' Rw.DefHere.of ?g ?l ?c ?k; (case g => k_is); (case l => k_is); (case c => k_is); (case k => k_is))
  (case d16 => refine' Rw.DefHere.of ?g ?l ?c ?k; (case g => k_is); (case l => k_is); (case c => k_is); (case k => k_is))
  (case d17 => refine' Rw.DefHere.of ?g ?l ?c ?k; (case g => k_is); (case l => k_is); (case c => k_is); (case k => k_is))
  (case d18 => refine' Rw.DefHere.of ?g ?l ?c ?k; (case g => k_is); (case l => k_is); (case c => k_is); (case k => k_is))
  (case d19 => refine' Rw.DefHere.of ?g ?l ?c ?k; (case g => k_is); (case l => k_is); (case c => k_is); (case k => k_is))
  (case d20 => refine' Rw.DefHere.of ?g ?l ?c ?k; (case g => k_is); (case l => k_is); (case c => k_is); (case k => k_is))
  (case d21 => refine' Rw.DefHere.of ?g ?l ?c ?k; (case g => k_is); (case l => k_is); (case c => k_is); (case k => k_is))
  (case d22 => refine' Rw.DefHere.of ?g ?l ?c ?k; (case g => k_is); (case l => k_is); (case c => k_is); (case k => k_is))
  (case d23 => refine' Rw.DefHere.of ?g ?l ?c ?k; (case g => k_is); (case l => k_is); (case c => k_is); (case k => k_is))
  (case d24 => refine' Rw.DefHere.of ?g ?l ?c ?k; (case g => k_is); (case l => k_is); (case c => k_is); (case k => k_is))
  (case d25 => refine' Rw.DefHere.of ?g ?l ?c ?k; (case g => k_is); (case l => k_is); (case c => k_is); (case k => k_is))
  (case d26 => refine' Rw.DefHere.of ?g ?l ?c ?k; (case g => k_is); (case l => k_is); (case c => k_is); (case k => k_is))
  (case d27 => refine' Rw.DefHere.of ?g ?l ?c ?k; (case g => k_is); (case l => k_is); (case c => k_is); (case k => k_is))
  (case d28 => refine' Rw.DefHere.of ?g ?l ?c ?k; (case g => k_is); (case l => k_is); (case c => k_is); (case k => k_is))
  (case dl => refine' Rw.DefHere.of ?g ?l ?c ?k; (case g => k_is); (case l => k_is); (case c => k_is); (case k => k_is))
  (case z1 => k_is)
  (case z2 => k_is)
  (case z3 => k_is)
  (case z4 => k_is)
  (case z5 => k_is)
  (case z6 => k_is)
  (case z7 => k_is)
  (case z8 => k_is)
  (case z9 => k_is)
  (case z10 => k_is)
  (case z11 => k_is)
  (case z12 => k_is)
  (case z13 => k_is)
#print axioms PySem.Challenge.cw_maprows_k57_streams_as_a_model_holds
