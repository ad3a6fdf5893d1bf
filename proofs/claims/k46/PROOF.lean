import PyProof.Rows.All
import Wide.All
import OpenK.AllK
import Wide.FinOn
import PyProof.RowDictHeap
import PyProof.ReprRoads
import HandS.ForMost
import HandS.ForExc
import HandS.ExcInit
import HandS.ExcField
import HandS.IsInst
import HandS.Wide
import HandS.Defaults
import HandS.Conv
import KE.GoesMore
import KE.GoesZip
import HandS.Zip0
import KE.GoesEnum
import HandS.Walk
import HandS.Replace
import HandS.ReplaceList
import PyProof.P3Eq
import PyProof.StrLawsRepr
import HandS.Property
import HandS.TryOnly
import PyProof.NeKinds
import HandS.Evl
import PySem.Challenge.RW_maprows_k46_maps_between_bars
import HandS.Style
import HandS.OwnEq
import HandS.TupMul
import HandS.TupAny
import HandS.Codes
import PyProof.StrBlock2
set_option Elab.async false
set_option linter.all false
set_option maxRecDepth 100000
set_option maxHeartbeats 4000000
/-! TkA: own rules that all laws of this program share: a def called where no repr runs (FnG), the end of a row from it, repr of data, try with several named clauses. -/
namespace Rw
open PySem PySem.Spec PyProof.Rows L2

/-! ### defs that are called where no repr is under way -/
theorem guards_deep (A : Around) (e : Env) : (A.deeper e).guards = A.guards := by rfl
/-- FnOk, but only where no repr is under way -/
structure FnG (P : Program) (w : World) (K : PySem.W.Frag) (mg : Str → Option Value) (base : Heap) (CX : CXT) (k : Nat) (f : Addr) (fd : FuncData) (ps : List Str) (sp : Sp) : Prop where
  many : ∀ vs H Q E, sp vs H Q E → vs.length = ps.length
  go : ∀ (A : Around) (fr : List Env) (s : Shared) (H : Hp) (ar : Args) (us : List Value) (vs : List V) (Q : VK) (E : XK), A.guards = some [] → Room k A → Env0 P w K mg base A fr s H →
    BindsTo s fd ar (ps.zip us) → Vals vs us → sp vs H Q E → codeAny (model P w) A (.call (.ref f) ar) (CR CX fr P w H s Q E) s

section
variable {P : Program} {w : World} {K : PySem.W.Frag} {mg : Str → Option Value} {base : Heap} {CX : CXT}
theorem fnG_of {k : Nat} {f : Addr} {name qual : Str} {pa : Arguments} {bd : List Stmt} {sc : Scope} {dV kV doc pm cdv ct oc : Value} {an od : Option Addr} {osl : Array (Option Value)} {N ps : List Str} {sp : Sp}
    (lk : K.lookup f = some ⟨oc, od, .func (PySem.W.fnOf name qual pa bd sc dV kV doc pm an cdv ct), osl⟩) (hcd : PySem.W.codeIn K cdv qual = true) (S : FnScope N ps sc)
    (many : ∀ vs H Q E, sp vs H Q E → vs.length = ps.length)
    (walk : ∀ (A : Around) (fr : List Env) (s : Shared) (H : Hp) (vs : List V) (Q : VK) (E : XK), A.guards = some [] → Room k (A.deeper (envOfC qual sc s.heap.objs.size f cdv)) → sp vs H Q E →
      ∃ t, PSs (cxOf CX P w K mg base N qual sc f cdv A fr s H E) bd t ∧ t { nx := fun _ H' => Q .non H', rt := Q } (start N vs) H) :
    FnG P w K mg base CX (k + 1) f (PySem.W.fnOf name qual pa bd sc dV kV doc pm an cdv ct) ps sp := by
  constructor
  · exact many
  intro A fr s H ar us vs Q E gu room ev bnd rel prom
  have cnt := many vs H Q E prom
  have kin : K.In s.heap := PySem.W.Frag.In.keeps ev.mod.kin (fun b o e => (ev.bs b o e).1)
  have lim : s.heap.NoLimit := Heap.NoLimit.keeps ev.mod.nolimit (fun b o e => (ev.bs b o e).1)
  refine codeAny_call_function (Room.depth room) (kin f _ lk) rfl S.co S.gen rfl (PySem.W.codeRec_of kin hcd) ?_
  refine bnd _ _ _ _ ?_
  refine wpAny_newFunctionEnv_cells S.kind ?_ ?_
  · intro y hy
    obtain ⟨n, v⟩ := y
    have hp := (List.of_mem_zip hy).1
    cases S.par n hp with
    | inl q => exact Or.inl q
    | inr q => exact Or.inr ⟨q, PySem.W.cellsFrom_some sc.names (s.heap.objs.size + 1) [] (Or.inl q)⟩
  intro env he s1 x
  subst he
  refine And.intro (lim.keeps (InCallC.toInCall x).keep) ?_
  refine codeAny_func ?_
  have start_ok := inv_start (CX := CX) (E := E) (f := f) (cd := cdv) S room.hd ev cnt rel x
  obtain ⟨t, ht, hq⟩ := walk A fr s H vs Q E gu (Room.deeper room _) prom
  refine wpAny_mono (PSs.run ht [] s1 (start N vs) H _ start_ok hq) ?_ (fun _ _ z => z)
  intro fl s2 hs
  cases fl with
  | ret u =>
    obtain ⟨v, σ2, H2, J, rv, q⟩ := hs
    exact Exists.intro v ⟨H2, J.os, J.bare, J.base, J.hok, rv, q⟩
  | next =>
    obtain ⟨σ2, H2, J, q⟩ := hs
    exact Exists.intro V.non ⟨H2, J.os, J.bare, J.base, J.hok, rfl, q⟩
  | brk => exact (hs.choose_spec.choose_spec.2).elim
  | cont => exact (hs.choose_spec.choose_spec.2).elim
/-- a def of the text: its body's term and reading, where no repr is under way -/
theorem funG {x qual : Str} {st : Stmt} {f : Addr} {fd : FuncData} {N ps : List Str} {k : Nat} {sp : Sp} (F : Fun K x qual st f fd) (S : FnScope N ps (defScope st)) (many : ∀ vs H Q E, sp vs H Q E → vs.length = ps.length)
    (walk : ∀ (cdv : Value) (A : Around) (fr : List Env) (s : Shared) (H : Hp) (vs : List V) (Q : VK) (E : XK), (cxOf CX0 P w K mg base N qual (defScope st) f cdv A fr s H E).A.guards = some [] →
      Room k (A.deeper (envOfC qual (defScope st) s.heap.objs.size f cdv)) → sp vs H Q E →
      ∃ t, PSs (cxOf CX0 P w K mg base N qual (defScope st) f cdv A fr s H E).nox (defBody st) t ∧ t { nx := fun _ H' => Q .non H', rt := Q } (start N vs) H) : FnG P w K mg base CX0 (k + 1) f fd ps sp := by
  obtain ⟨oc, od, kV, doc, pm, an, cdv, ct, osl, rfl, lk, hcd⟩ := F.ex
  refine fnG_of lk hcd S many ?_
  intro A fr s H vs Q E gu room prom
  obtain ⟨t, d, q⟩ := walk cdv A fr s H vs Q E gu room prom
  exact ⟨t, PSs.nox d, q⟩
end

section
variable {X : Cx} {CX : CXT} {k : Nat} {f : Addr} {fd : FuncData} {ps : List Str} {sp : Sp} {dvs : List V} {ds : List Value} {E : XK} {x : Str} {p pos : Pos} {e : Expr} {es : List Expr} {t : TA}
/-- f(e, ..) of such a def -/
theorem pe_callG (F : FnG X.prog X.w X.K X.mg X.base CX k f fd ps sp) (gu : X.A.guards = some []) (room : Room k X.A) (hg : Gl X x) (hm : X.mg x = some (.ref f)) (hk : PySem.W.keepIn X.K (.ref f) = true)
    (bnd : Binds X.K fd ps ds) (hd : Vals dvs ds) (hx : Passes CX X E) (ha : PA X (e :: es) t) (hdb : (x == ("__debug__" : Str)) = false := by decide)
    (he : starEach (e :: es) X.env = (false, eval e X.env) :: starEach es X.env := by rfl) (hpl : (backTo pos (starEach es X.env)).any (·.1) = false := by rfl) :
    PE X (.Call (.Name x p) (e :: es) [] pos) (tCall sp dvs E t) := by
  constructor
  intro pins s σ H Q I h
  refine wpAny_Call_Name_kw (ld_glob I hg hm ?_ hdb)
  refine PySem.W.callWith_K (h₀ := X.base) I.ok.mod.kin hk ?_ he hpl
  refine thn (PA.run ha pos pins s σ H _ I h) ?_
  intro us s1 hh
  obtain ⟨vs, H1, I1, r, q⟩ := hh
  refine ⟨I1.kIn, ?_⟩
  have r2 : Vals (vs ++ dvs) (us ++ ds) := Vals.append r hd
  have cnt : (us ++ ds).length = ps.length := (r2.length).symm.trans (F.many _ _ _ _ q)
  refine wpAny_call (codeAny_mono (F.go X.A X.stack s1 H1 ⟨us, []⟩ (us ++ ds) (vs ++ dvs) Q E gu room I1.env0 (bnd s1 us I1.kIn cnt) r2 q) ?_)
  intro res s2 hq
  cases res with
  | error er => exact hx pins σ H1 s1 er s2 I1 hq
  | ok fl =>
    cases fl with
    | ret u => exact Inv.after I1 hq
    | next => exact hq.elim
    | brk => exact hq.elim
    | cont => exact hq.elim
end
end Rw

set_option Elab.async false
set_option linter.all false
set_option maxRecDepth 100000
set_option maxHeartbeats 4000000
/-! TkB: the end of a law's row from a def that is called where no repr is under way. -/
namespace Rw
open PySem PySem.Spec PyProof.Rows L2

/-- nothing is tracked in H but perhaps a -/
def Lone (H : Hp) (a : Addr) : Prop := ∀ b, H b ≠ none → b = a

section
variable {P : Program} {w : World} {K : PySem.W.Frag} {mg mb : Str → Option Value} {s : Shared} {a : Addr} {H : Hp} {o : Obj}
theorem lone_base {b : Addr} {u : Obj} (e : s.heap.get? b = some u) (n : H b = none) : (hidT s.heap H).get? b = some u := hidT_get e n
theorem lone_free (A : Lone H a) {b : Addr} (n : b ≠ a) : H b = none := by
  cases q : H b with
  | none => rfl
  | some u => exact (n (A b (by rw [q]; exact fun z => nomatch z))).elim
theorem lone_dict (A : Lone H a) (ha : s.heap.get? a = some o) (hd : ∀ es n, o.data ≠ .dict es n) {b : Addr} {u : Obj} {es : Array DictEntry} {n : Nat} (e : s.heap.get? b = some u) (d : u.data = .dict es n) : H b = none :=
  lone_free A fun z => by
    rw [z, ha] at e
    cases e
    exact hd es n d
theorem lone_ns (A : Lone H a) (ha : s.heap.get? a = some o) (hd : ∀ es n, o.data ≠ .dict es n) {b : Addr} {m : Str → Option Value} (h : s.heap.Ns b m) : (hidT s.heap H).Ns b m := by
  obtain ⟨u, es, n, e, d, r⟩ := h
  exact ⟨u, es, n, lone_base e (lone_dict A ha hd e d), d, r⟩
theorem lone_mod (A : Lone H a) (ha : s.heap.get? a = some o) (hd : ∀ es n, o.data ≠ .dict es n) (KX : K.In s.heap) (hK : H a ≠ none → K.lookup a = none) (g : s.heap.Ns mainGlobals mg) (b : s.heap.Ns builtinsNs mb)
    (bb : ∀ x : Str, x ≠ "__name__" → mb x = bootBuiltins x) (lim : s.heap.NoLimit) : Mod K mg (hidT s.heap H) := by
  have kin : K.In (hidT s.heap H) := fun c u e => by
    refine lone_base (KX c u e) ?_
    by_cases z : c = a
    · cases q : H a with
      | none => rw [z]; exact q
      | some y =>
        rw [z, hK (by rw [q]; exact fun z => nomatch z)] at e
        cases e
    · exact lone_free A z
  refine ⟨kin, lone_ns A ha hd g, ⟨mb, lone_ns A ha hd b, bb⟩, ?_⟩
  obtain ⟨mc, h1, h2⟩ := lim
  exact ⟨mc, lone_ns A ha hd h1, h2⟩

/-- what a law's run leaves, from its promise -/
theorem lone_run {CX : CXT} {k : Nat} {fa : Addr} {fd : FuncData} {x : Str} {sp : Sp} (A : Lone H a) (ha : s.heap.get? a = some o) (hd : ∀ es n, o.data ≠ .dict es n) (KX : K.In s.heap) (hK : H a ≠ none → K.lookup a = none)
    (g : s.heap.Ns mainGlobals mg) (b : s.heap.Ns builtinsNs mb) (bb : ∀ x : Str, x ≠ "__name__" → mb x = bootBuiltins x) (lim : s.heap.NoLimit) (hg : s.gens = #[]) (only : Only H) (hok : HOk P w H s.heap) (gu : callerA.guards = some []) (hr : Room k callerA)
    (F : ∀ base : Heap, K.In base → base.Ns mainGlobals mg → FnG P w K mg base CX k fa fd [x] sp) (bnd : ∀ (s : Shared) (u : Value), BindsTo s fd ⟨[u], []⟩ [(x, u)])
    (hs : sp [.ref a] H (fun v _ => v = .bl true) fun _ _ _ => False) (hCX : ∀ e s', CX [] H s (fun _ _ _ => False) e s' → False) :
    codeAny (model P w) callerA (.call (.ref fa) ⟨[.ref a], []⟩) (fun r s' => r = .ok (.ret (.bool true)) ∧ OldK s.heap s'.heap ∧ s'.os = s.os ∧ AllBare s'.gens) s := by
  have M := lone_mod A ha hd KX hK g b bb lim
  have ev : Env0 P w K mg (hidT s.heap H) callerA [] s H := by
    refine ⟨rfl, M, fun c u e => of_hidT e, Nat.le_of_eq (hidT_size _ _), True.intro, ?_, hok, .of_eq hg⟩
    intro c hc
    cases hc
  refine codeAny_mono ((F _ M.kin M.glob).go callerA [] s H ⟨[.ref a], []⟩ [.ref a] [.ref a] _ _ gu hr ev (bnd s (.ref a)) (.cons rfl .nil) hs) ?_
  intro r s' h
  cases r with
  | error e => exact False.elim (hCX e s' h)
  | ok fl =>
    cases fl with
    | next => exact h.elim
    | brk => exact h.elim
    | cont => exact h.elim
    | ret u =>
      obtain ⟨v, H', os, bare, un, hok', r', q⟩ := h
      have ev : v = V.bl true := q
      rw [ev] at r'
      cases (show u = Value.bool true from r')
      refine ⟨rfl, OldK.of_keep ?_, os, bare⟩
      intro c u e
      cases q : H c with
      | none => exact un.keep c u e q (fun z => nomatch z) (fun z => nomatch z)
      | some y =>
        cases only c with
        | inl z =>
          rw [q] at z
          cases z
        | inr z =>
          obtain ⟨ob, xs, z⟩ := z
          have e1 := (hok c _ z).1
          have e2 := (hok' c _ (un.frzs c ob _ z)).1
          rw [e] at e1
          cases e1
          exact e2

theorem lawG {CX : CXT} {k : Nat} {fa : Addr} {fd : FuncData} {x : Str} {sp : Sp} {vs : List Value} {ns : List Int} (KX : K.In s.heap) (g : s.heap.Ns mainGlobals mg) (b : s.heap.Ns builtinsNs mb)
    (bb : ∀ x : Str, x ≠ "__name__" → mb x = bootBuiltins x) (lim : s.heap.NoLimit) (hg : s.gens = #[]) (ha : s.heap.get? a = some { cls := .type "list", data := .seq vs.toArray }) (hi : IntsAre vs ns) (hl : ns.length ≤ sizeLine)
    (gu : callerA.guards = some []) (hr : Room k callerA) (F : ∀ base : Heap, K.In base → base.Ns mainGlobals mg → FnG P w K mg base CX k fa fd [x] sp) (bnd : ∀ (s : Shared) (u : Value), BindsTo s fd ⟨[u], []⟩ [(x, u)])
    (hs : ∀ H : Hp, Only H → SqL K H a (ns.map V.int) → sp [.ref a] H (fun v _ => v = .bl true) fun _ _ _ => False) (hCX : ∀ H e s', CX [] H s (fun _ _ _ => False) e s' → False) :
    codeAny (model P w) callerA (.call (.ref fa) ⟨[.ref a], []⟩) (fun r s' => r = .ok (.ret (.bool true)) ∧ OldK s.heap s'.heap ∧ s'.os = s.os ∧ AllBare s'.gens) s := by
  have rv := vals_ints hi
  have nd : ∀ es n, ({ cls := .type "list", data := .seq vs.toArray } : Obj).data ≠ .dict es n := fun es n z => nomatch z
  cases hk : K.lookup a with
  | some o =>
    have e := KX a o hk
    rw [ha] at e
    cases e
    have sq : SqL K (fun _ => none) a (ns.map V.int) := Or.inr ⟨_, vs.toArray, _, hk, rfl, rfl, rfl, (by rw [List.size_toArray, hi.length]; exact hl), (by simpa using rv)⟩
    have on : Only (fun _ => none) := fun _ => Or.inl rfl
    exact lone_run (H := fun _ => none) (fun b z => absurd rfl z) ha nd KX (fun z => absurd rfl z) g b bb lim hg on (fun c u z => nomatch z) gu hr F bnd (hs _ on sq) (hCX _)
  | none =>
    have on : Only (upd (fun _ => none) a (.frz { cls := .type "list", data := .seq vs.toArray } (.lst (ns.map V.int)))) := fun c => by
      by_cases z : c = a
      · rw [z]
        exact Or.inr ⟨_, _, upd_same⟩
      · exact Or.inl (upd_ne z)
    refine lone_run (a := a) (fun c z => ?_) ha nd KX (fun _ => hk) g b bb lim hg on (fun c u z => ?_) gu hr F bnd (hs _ on (.inl (.inr ⟨_, upd_same⟩))) (hCX _)
    · by_cases y : c = a
      · exact y
      · exact (z (upd_ne y)).elim
    · by_cases y : c = a
      · rw [y, upd_same] at z
        cases z
        rw [y]
        exact ⟨ha, by rw [List.length_map]; exact hl, vs, _, rv, ha⟩
      · rw [upd_ne y] at z
        cases z
end

/-- the row's walk -/
theorem walkG {l : PySem.W.OpenLaw} {n k : Nat} {q : Program} {loose : List Str} {XP : (Str → Option Value) → Heap → Prop} {YP : World → Heap → Prop} {d : DefRec} {K : Params → PySem.W.Frag} {sp : PySem.W.Frag → Sp} {x : Str}
    (hn : l.most = some n) (hn2 : n ≤ sizeLine) (hdf : d.params.defaults = []) (gu : callerA.guards = some []) (hr : Room k callerA) (hY : ∀ (w : World) (h : Heap), YP w h → (K w.params).In h)
    (F : ∀ (w : World) (mg : Str → Option Value) (fa : Addr) (h : Heap), (K w.params).In h → h.Ns mainGlobals mg → mg d.name = some (.ref fa) →
      ∃ fd : FuncData, (∀ (s : Shared) (u : Value), BindsTo s fd ⟨[u], []⟩ [(x, u)]) ∧ ∀ base : Heap, (K w.params).In base → base.Ns mainGlobals mg → FnG l.prog w (K w.params) mg base CX0 k fa fd [x] (sp (K w.params)))
    (hs : ∀ (K : PySem.W.Frag) (H : Hp) (a : Addr) (ns : List Int), ns.length ≤ n → Only H → SqL K H a (ns.map V.int) → sp K [.ref a] H (fun v _ => v = .bl true) fun _ _ _ => False) :
    PySem.W.WalkO q loose XP YP l.row.toRowW d [] (fun f vs => PySem.call f vs) := by
  refine Att.attach_call hn hdf ?_
  intro w s0 s1 mg mb fa o pm cd doc a vs ns G Y ho hd hcd hmg hobj hints hlen hg
  have KX := hY w s1.heap Y
  obtain ⟨fd, bnd, FF⟩ := F w mg fa s1.heap KX G.T.g hmg
  exact lawG KX G.T.g G.T.b G.T.builtins G.T.nolimit hg hobj hints (Nat.le_trans hlen hn2) gu hr FF bnd (fun H on sq => hs (K w.params) H a ns hlen on sq) (fun _ _ _ z => z)
end Rw

set_option Elab.async false
set_option linter.all false
set_option maxRecDepth 100000
set_option maxHeartbeats 4000000
/-! TkC: data with dicts among them; repr of data. -/
namespace Rw
open PySem PySem.Spec PyProof.Rows L2

/-- how a dict's key reads -/
def keyD : Key → PyData
  | .inl i => .int i
  | .inr x => .str x
mutual
/-- what v is, as data: lists and tuples that are tracked, dicts with keys that are ints or texts -/
inductive Any (H : Hp) : V → PyData → Prop
  | non : Any H .non .none
  | bl (b : Bool) : Any H (.bl b) (.bool b)
  | int (i : Int) : Any H (.int i) (.int i)
  | str (x : Str) : Any H (.str x) (.str x)
  | lst {a : Addr} {xs : List V} {ds : List PyData} : H a = some (.lst xs) → AnyL H xs ds → Any H (.ref a) (.list ds)
  | tup {a : Addr} {xs : List V} {ds : List PyData} : H a = some (.tup xs) → AnyL H xs ds → Any H (.ref a) (.tuple ds)
  | dct {a : Addr} {kvs : List (Key × V)} {ds : List (PyData × PyData)} : H a = some (.dK kvs) → AnyK H kvs ds → Any H (.ref a) (.dict ds)
inductive AnyL (H : Hp) : List V → List PyData → Prop
  | nil : AnyL H [] []
  | cons {v : V} {vs : List V} {d : PyData} {ds : List PyData} : Any H v d → AnyL H vs ds → AnyL H (v :: vs) (d :: ds)
inductive AnyK (H : Hp) : List (Key × V) → List (PyData × PyData) → Prop
  | nil : AnyK H [] []
  | cons {k : Key} {v : V} {vs : List (Key × V)} {d : PyData} {ds : List (PyData × PyData)} : Any H v d → AnyK H vs ds → AnyK H ((k, v) :: vs) ((keyD k, d) :: ds)
end

/-! ### how such data is shown -/
section
variable {prog : Program} {w : World} {h : Heap}
/-- u lies as the data d in h, and is shown by repr -/
def Shows (prog : Program) (w : World) (h : Heap) (u : Value) (d : PyData) : Prop := ∃ as, Reads h u d as ∧ ∃ bs, ReadAtMost h d.depth bs ∧ ReprK prog w bs h d.depth u d.shown
def ShowsL (prog : Program) (w : World) (h : Heap) (us : List Value) (ds : List PyData) : Prop := ∃ as, ReadsAll h us ds as ∧ ∃ bs, ReadAtMost h (PyData.depthAll ds) bs ∧ ReprAllK prog w bs h (PyData.depthAll ds) us (PyData.shownAll ds)
theorem shows_flat {u : Value} {d : PyData} (r : Reads h u d []) (k : ReprIs prog w u d.shown) : Shows prog w h u d := ⟨[], r, [], fun _ z => (nomatch z), ReprK.of_is k [] h d.depth⟩
theorem showsL_nil : ShowsL prog w h [] [] := ⟨[], .nil, [], fun _ z => (nomatch z), by simp only [PyData.shownAll]; exact .nil⟩
theorem showsL_cons {u : Value} {d : PyData} {us : List Value} {ds : List PyData} (x : Shows prog w h u d) (y : ShowsL prog w h us ds) : ShowsL prog w h (u :: us) (d :: ds) := by
  obtain ⟨a1, r1, b1, m1, k1⟩ := x
  obtain ⟨a2, r2, b2, m2, k2⟩ := y
  have e : PyData.depthAll (d :: ds) = max d.depth (PyData.depthAll ds) := by simp only [PyData.depthAll]
  have l1 : d.depth ≤ max d.depth (PyData.depthAll ds) := Nat.le_max_left _ _
  have l2 : PyData.depthAll ds ≤ max d.depth (PyData.depthAll ds) := Nat.le_max_right _ _
  refine ⟨a1 ++ a2, .cons r1 r2, b1 ++ b2, ?_, ?_⟩
  · rw [e]
    exact ReadAtMost.append (m1.mono l1) (m2.mono l2)
  · rw [e]
    simp only [PyData.shownAll]
    exact .cons (ReprK.level_le (ReprK.more k1 fun b z => List.mem_append_left b2 z) l1) (ReprAllK.more_le (fun b z => List.mem_append_right b1 z) l2 k2)
theorem shown_le {ds : List PyData} {n : Nat} (z : ∀ t ∈ PyData.shownAll ds, t.length ≤ n) : ∀ d ∈ ds, d.shown.length ≤ n := by
  induction ds with
  | nil => intro d hd; cases hd
  | cons c cs ih =>
    intro d hd
    simp only [PyData.shownAll] at z
    rcases List.mem_cons.mp hd with e | e
    · rw [e]
      exact z _ List.mem_cons_self
    · exact ih (fun t ht => z t (List.mem_cons_of_mem _ ht)) d e
/-- the parts of a list -/
structure ListAt (h : Heap) (a : Addr) (us : List Value) (o : Obj) (n : Nat) : Prop where
  get : h.get? a = some o
  cls : o.cls = .type "list"
  dat : o.data = .seq us.toArray n
structure TupleAt (h : Heap) (a : Addr) (us : List Value) (o : Obj) (n : Nat) : Prop where
  get : h.get? a = some o
  cls : o.cls = .type "tuple"
  dat : o.data = .seq us.toArray n
structure DictAt' (h : Heap) (a : Addr) (es : Array DictEntry) (o : Obj) (n : Nat) : Prop where
  get : h.get? a = some o
  cls : o.cls = .type "dict"
  dat : o.data = .dict es n
  off : (a == sysModules) = false
theorem list_reads {a : Addr} {us : List Value} {o : Obj} {n : Nat} {ds : List PyData} {as : List Addr} (L : ListAt h a us o n) (r : ReadsAll h us ds as) : Reads h (.ref a) (.list ds) (a :: as) := .list L.get L.cls L.dat r
theorem tuple_reads {a : Addr} {us : List Value} {o : Obj} {n : Nat} {ds : List PyData} {as : List Addr} (L : TupleAt h a us o n) (r : ReadsAll h us ds as) : Reads h (.ref a) (.tuple ds) as := .tuple L.get L.cls L.dat r
theorem off_of {a : Addr} {d : PyData} {as bs : List Addr} {m : Nat} (r : Reads h (.ref a) d as) (e : d.depth = m + 1) (k : ReadAtMost h m bs) : a ∉ bs := not_mem_of_deeper r (by omega) k
theorem shows_list {a : Addr} {us : List Value} {o : Obj} {n : Nat} {ds : List PyData} (L : ListAt h a us o n) (x : ShowsL prog w h us ds) : Shows prog w h (.ref a) (.list ds) := by
  obtain ⟨as, r, bs, m, k⟩ := x
  have R := list_reads L r
  have dp : (PyData.list ds).depth = PyData.depthAll ds + 1 := by simp only [PyData.depth]
  refine ⟨_, R, a :: bs, ReadAtMost.cons R (by omega) m, ?_⟩
  rw [dp]
  simp only [PyData.shown]
  cases us with
  | nil =>
    cases r
    simp only [PyData.shownAll, listText_nil]
    exact ReprK.listEmpty L.get L.cls L.dat
  | cons u us => exact ReprK.list L.get L.cls L.dat (off_of R dp m) (by simpa using k.length_eq) (fun i y e => k.item i y (by simpa using e))
theorem shows_tuple {a : Addr} {us : List Value} {o : Obj} {n : Nat} {ds : List PyData} (L : TupleAt h a us o n) (x : ShowsL prog w h us ds) : Shows prog w h (.ref a) (.tuple ds) := by
  obtain ⟨as, r, bs, m, k⟩ := x
  have R := tuple_reads L r
  have dp : (PyData.tuple ds).depth = PyData.depthAll ds + 1 := by simp only [PyData.depth]
  refine ⟨_, R, a :: bs, ReadAtMost.cons R (by omega) m, ?_⟩
  rw [dp]
  simp only [PyData.shown]
  exact ReprK.tuple L.get L.cls L.dat (off_of R dp m) k
theorem shows_dict {a : Addr} {es : Array DictEntry} {o : Obj} {n : Nat} {kvs : List (PyData × PyData)} (L : DictAt' h a es o n) (x : ShowsL prog w h (es.toList.map (·.key)) (kvs.map (·.1))) (y : ShowsL prog w h (es.toList.map (·.val)) (kvs.map (·.2))) :
    (∃ as, Reads h (.ref a) (.dict kvs) as) ∧ (∃ bs, ReadAtMost h (PyData.depthKv kvs) bs ∧ a ∉ bs ∧ ReprEntriesK prog w bs h (PyData.depthKv kvs) es.toList (PyData.shownKv kvs)) := by
  obtain ⟨a1, r1, b1, m1, k1⟩ := x
  obtain ⟨a2, r2, b2, m2, k2⟩ := y
  have R : Reads h (.ref a) (.dict kvs) (a :: a1 ++ a2) := .dict L.get L.cls L.dat r1 r2
  have dp : (PyData.dict kvs).depth = PyData.depthKv kvs + 1 := by simp only [PyData.depth]
  have m : ReadAtMost h (PyData.depthKv kvs) (b1 ++ b2) := ReadAtMost.append (m1.mono (PyData.depthAll_keys_le kvs)) (m2.mono (PyData.depthAll_vals_le kvs))
  refine ⟨⟨_, R⟩, b1 ++ b2, m, off_of R dp m, ?_⟩
  rw [PyData.shownKv_eq]
  have j1 := ReprAllK.more_le (fun b z => List.mem_append_left b2 z) (PyData.depthAll_keys_le kvs) k1
  have j2 := ReprAllK.more_le (fun b z => List.mem_append_right b1 z) (PyData.depthAll_vals_le kvs) k2
  exact ReprEntriesK.of_two es.toList _ _ j1 j2
theorem shows_dict' {a : Addr} {es : Array DictEntry} {o : Obj} {n : Nat} {kvs : List (PyData × PyData)} (L : DictAt' h a es o n) (x : ShowsL prog w h (es.toList.map (·.key)) (kvs.map (·.1))) (y : ShowsL prog w h (es.toList.map (·.val)) (kvs.map (·.2))) :
    Shows prog w h (.ref a) (.dict kvs) := by
  obtain ⟨⟨as, R⟩, bs, m, na, k⟩ := shows_dict L x y
  have dp : (PyData.dict kvs).depth = PyData.depthKv kvs + 1 := by simp only [PyData.depth]
  refine ⟨as, R, a :: bs, ReadAtMost.cons R (by omega) m, ?_⟩
  rw [dp]
  simp only [PyData.shown]
  exact ReprK.dict L.get L.cls L.dat L.off na k
end

section
variable {X : Cx} {pins : List (Addr × Obj)} {σ : L2.St} {H : Hp} {s : Shared}
theorem key_shows {P : Program} {w : World} {h : Heap} (k : Key) (v : Value) (hk : (mixKind P w).is k v = true) (hs : (keyD k).showable = true) (hz : (keyD k).shown.length ≤ sizeLine) : Shows P w h v (keyD k) := by
  rcases keyIs_shape hk with ⟨i, t, e1, e2⟩ | ⟨x, t, e1, e2⟩
  · subst e1 e2
    refine shows_flat (.int i t) ?_
    simp only [keyD, PyData.shown]
    exact ReprIs.int t (by simpa [keyD, PyData.showable] using hs)
  · subst e1 e2
    refine shows_flat (.str x t) ?_
    simp only [keyD, PyData.shown]
    exact ReprIs.str x t (by simpa only [keyD, PyData.shown] using hz)
theorem lst_at (I : Inv X pins σ H s) {a : Addr} {xs : List V} (e : H a = some (.lst xs)) : ∃ us o n, ListAt s.heap a us o n ∧ Vals xs us := by
  obtain ⟨_, its, n, rv, g⟩ := (show ObjOk X.prog X.w H s.heap a (.lst xs) from I.hok a _ e)
  exact ⟨its, _, n, ⟨g, rfl, rfl⟩, rv⟩
theorem tup_at (I : Inv X pins σ H s) {a : Addr} {xs : List V} (e : H a = some (.tup xs)) : ∃ us o n, TupleAt s.heap a us o n ∧ Vals xs us := by
  obtain ⟨_, its, rv, o, g, c, n, dt⟩ := (show ObjOk X.prog X.w H s.heap a (.tup xs) from I.hok a _ e)
  exact ⟨its, o, n, ⟨g, c, dt⟩, rv⟩
theorem dct_at (I : Inv X pins σ H s) {a : Addr} {kvs : List (Key × V)} (e : H a = some (.dK kvs)) : ∃ vs es o n, DictAt' s.heap a es o n ∧ KV kvs vs ∧ Pairs (mixKind X.prog X.w) es.toList vs := by
  obtain ⟨_, off, vs, rel, o, es, n, g, c, dt, _, p, _⟩ := (show ObjOk X.prog X.w H s.heap a (.dK kvs) from I.hok a _ e)
  exact ⟨vs, es, o, n, ⟨g, c.1, dt, off⟩, rel, p⟩
mutual
theorem any_shows (I : Inv X pins σ H s) : ∀ (d : PyData) (v : V) (u : Value), Any H v d → RelV v u → d.showable = true → d.shown.length ≤ sizeLine → Shows X.prog X.w s.heap u d
  | .none, v, u, h, r, _, _ => by
    cases h
    cases (show u = Value.none from r)
    exact shows_flat .none (by simp only [PyData.shown]; exact ReprIs.none)
  | .bool b, v, u, h, r, _, _ => by
    cases h
    cases (show u = Value.bool b from r)
    exact shows_flat (.bool b) (by simp only [PyData.shown]; exact ReprIs.bool b)
  | .int i, v, u, h, r, sh, _ => by
    cases h
    obtain ⟨t, e⟩ := (show ∃ t, u = Value.int i t from r)
    rw [e]
    exact shows_flat (.int i t) (by simp only [PyData.shown]; exact ReprIs.int t (by simpa [PyData.showable] using sh))
  | .str x, v, u, h, r, _, sz => by
    cases h
    obtain ⟨t, e⟩ := (show ∃ t, u = Value.str x t from r)
    rw [e]
    exact shows_flat (.str x t) (by simp only [PyData.shown]; exact ReprIs.str x t (by simpa only [PyData.shown] using sz))
  | .list ds, v, u, h, r, sh, sz => by
    cases h with
    | lst ea ha =>
      rename_i a xs
      cases (show u = Value.ref a from r)
      obtain ⟨us, o, n, L, rv⟩ := lst_at I ea
      have z : (listText (PyData.shownAll ds)).length ≤ sizeLine := by simpa only [PyData.shown] using sz
      exact shows_list L (any_showsL I ds xs us ha rv (by simpa [PyData.showable] using sh) fun t ht => Nat.le_trans (listText_mem_le ht) z)
  | .tuple ds, v, u, h, r, sh, sz => by
    cases h with
    | tup ea ha =>
      rename_i a xs
      cases (show u = Value.ref a from r)
      obtain ⟨us, o, n, L, rv⟩ := tup_at I ea
      have z : (tupleText (PyData.shownAll ds)).length ≤ sizeLine := by simpa only [PyData.shown] using sz
      exact shows_tuple L (any_showsL I ds xs us ha rv (by simpa [PyData.showable] using sh) fun t ht => Nat.le_trans (tupleText_mem_le ht) z)
  | .dict ds, v, u, h, r, sh, sz => by
    cases h with
    | dct ea ha =>
      rename_i a kvs
      cases (show u = Value.ref a from r)
      obtain ⟨vs, es, o, n, L, rel, p⟩ := dct_at I ea
      have z : (dictText (PyData.shownKv ds)).length ≤ sizeLine := by simpa only [PyData.shown] using sz
      obtain ⟨x, y⟩ := any_showsK I ds kvs vs es.toList ha rel p (by simpa [PyData.showable] using sh) fun t ht => Nat.le_trans (dictText_mem_le ht) z
      exact shows_dict' L x y
theorem any_showsL (I : Inv X pins σ H s) : ∀ (ds : List PyData) (vs : List V) (us : List Value), AnyL H vs ds → Vals vs us → PyData.showableAll ds = true → (∀ t ∈ PyData.shownAll ds, t.length ≤ sizeLine) → ShowsL X.prog X.w s.heap us ds
  | [], vs, us, h, r, _, _ => by
    cases h
    cases r
    exact showsL_nil
  | d :: ds, vs, us, h, r, sh, sz => by
    have sh' : d.showable = true ∧ PyData.showableAll ds = true := by simpa [PyData.showableAll] using sh
    simp only [PyData.shownAll] at sz
    cases h with
    | cons h1 h2 =>
      cases r with
      | cons r1 r2 => exact showsL_cons (any_shows I d _ _ h1 r1 sh'.1 (sz _ List.mem_cons_self)) (any_showsL I ds _ _ h2 r2 sh'.2 fun t ht => sz t (List.mem_cons_of_mem _ ht))
theorem any_showsK (I : Inv X pins σ H s) : ∀ (ds : List (PyData × PyData)) (kvs : List (Key × V)) (us : List (Key × Value)) (es : List DictEntry), AnyK H kvs ds → KV kvs us → Pairs (mixKind X.prog X.w) es us → PyData.showableKv ds = true →
    (∀ t ∈ PyData.shownKv ds, t.length ≤ sizeLine) → ShowsL X.prog X.w s.heap (es.map (·.key)) (ds.map (·.1)) ∧ ShowsL X.prog X.w s.heap (es.map (·.val)) (ds.map (·.2))
  | [], vs, us, es, h, r, p, _, _ => by
    cases h
    cases r
    cases p
    exact ⟨showsL_nil, showsL_nil⟩
  | (kd, d) :: ds, vs, us, es, h, r, p, sh, sz => by
    have sh' : (kd.showable = true ∧ d.showable = true) ∧ PyData.showableKv ds = true := by simpa [PyData.showableKv] using sh
    simp only [PyData.shownKv] at sz
    have top := sz _ List.mem_cons_self
    rw [strLen_append, strLen_append] at top
    cases h with
    | cons h1 h2 =>
      cases r with
      | cons r1 r2 =>
        rename_i k v vs' q us'
        obtain ⟨kq, uq⟩ := q
        obtain ⟨ek, r1⟩ := r1
        cases (show k = kq from ek)
        cases p with
        | cons hk hv hp =>
          obtain ⟨x, y⟩ := any_showsK I ds _ _ _ h2 r2 hp sh'.2 fun t ht => sz t (List.mem_cons_of_mem _ ht)
          refine ⟨showsL_cons (key_shows k _ hk sh'.1.1 (by omega)) x, ?_⟩
          have e := any_shows I d _ _ h1 r1 sh'.1.2 (by omega)
          rw [← hv] at e
          exact showsL_cons e y
end
/-- repr of data that lies at an address -/
def rRepr : List V → Hp → VK → Prop := fun xs H Q => ∃ (a : Addr) (d : PyData), xs = [.ref a] ∧ Any H (.ref a) d ∧ d.showable = true ∧ d.depth ≤ 60 ∧ d.shown.length ≤ sizeLine ∧ Q (.str d.shown) H
theorem call_repr (gu : X.A.guards = some []) (hu : X.A.units + 64 < cLine) : CallR X (.builtin "repr") rRepr := by
  intro pins s σ H xs us Q I r h
  obtain ⟨a, d, e, an, sh, dp, sz, q⟩ := h
  subst e
  obtain ⟨u, e, ru⟩ := vals1 r
  subst e
  cases (show u = Value.ref a from ru)
  have fin : ∀ h' u tk, (∀ b o, s.heap.get? b = some o → h'.get? b = some o) → EP X pins σ Q (.str d.shown u) { s with heap := h', toks := tk } := fun h' t tk keep => ⟨V.str d.shown, H, Inv.kept I keep, ⟨t, rfl⟩, q⟩
  have gu1 : X.A.in1.guards = some [] := gu
  have un1 : X.A.in1.units = X.A.units + 1 := rfl
  cases an with
  | lst ea ha =>
    rename_i xs ds
    obtain ⟨us, o, n, L, rv⟩ := lst_at I ea
    have z : (listText (PyData.shownAll ds)).length ≤ sizeLine := by simpa only [PyData.shown] using sz
    have D : (PyData.list ds).depth = PyData.depthAll ds + 1 := by simp only [PyData.depth]
    obtain ⟨as, rd, bs, m, k⟩ := any_showsL I ds xs us ha rv (by simpa [PyData.showable] using sh) fun t ht => Nat.le_trans (listText_mem_le ht) z
    have ty : s.TypeIs (.ref a) "list" := ⟨o, L.get, L.cls⟩
    refine call_repr_slot (by omega) ty F.slot_list_repr.toG ?_
    simp only [PyData.shown] at fin
    cases us with
    | nil =>
      cases rd
      simp only [PyData.shownAll, listText_nil] at fin
      exact call_list_repr_empty ty L.get L.dat ⟨_, _, rfl, fin s.heap _ _ fun _ _ z => z⟩
    | cons u us => exact call_list_reprK L.get L.cls L.dat (off_of (list_reads L rd) D m) (by simpa using k.length_eq) (fun i y e => k.item i y (by simpa using e)) gu1 (fun b _ => Clear.nil b) (by omega) (fun _ _ z => z) (fun h' t tk keep => ⟨_, _, rfl, fin h' t tk keep⟩) z
  | tup ea ha =>
    rename_i xs ds
    obtain ⟨us, o, n, L, rv⟩ := tup_at I ea
    have z : (tupleText (PyData.shownAll ds)).length ≤ sizeLine := by simpa only [PyData.shown] using sz
    have D : (PyData.tuple ds).depth = PyData.depthAll ds + 1 := by simp only [PyData.depth]
    obtain ⟨as, rd, bs, m, k⟩ := any_showsL I ds xs us ha rv (by simpa [PyData.showable] using sh) fun t ht => Nat.le_trans (tupleText_mem_le ht) z
    refine call_repr_slot (by omega) ⟨o, L.get, L.cls⟩ F.slot_tuple_repr ?_
    simp only [PyData.shown] at fin
    exact call_tuple_reprK L.get L.cls L.dat (off_of (tuple_reads L rd) D m) k gu1 (fun b _ => Clear.nil b) (by omega) (fun _ _ z => z) (fun h' t tk keep => ⟨_, _, rfl, fin h' t tk keep⟩) z
  | dct ea ha =>
    rename_i kvs ds
    obtain ⟨vs, es, o, n, L, rel, p⟩ := dct_at I ea
    have z : (dictText (PyData.shownKv ds)).length ≤ sizeLine := by simpa only [PyData.shown] using sz
    have D : (PyData.dict ds).depth = PyData.depthKv ds + 1 := by simp only [PyData.depth]
    obtain ⟨x, y⟩ := any_showsK I ds kvs vs es.toList ha rel p (by simpa [PyData.showable] using sh) fun t ht => Nat.le_trans (dictText_mem_le ht) z
    obtain ⟨_, bs, m, na, k⟩ := shows_dict L x y
    refine call_repr_slot (by omega) ⟨o, L.get, L.cls⟩ F.slot_dict_repr ?_
    simp only [PyData.shown] at fin
    exact call_dict_reprK L.get L.cls L.dat L.off na k gu1 (fun b _ => Clear.nil b) (by omega) (fun _ _ z => z) (fun h' t tk keep => ⟨_, _, rfl, fin h' t tk keep⟩) z
/-- repr of a truth value -/
def boolS (b : Bool) : Str := if b then "True" else "False"
theorem call_reprB : CallR X (.builtin "repr") (fun xs H Q => ∃ b, xs = [.bl b] ∧ Q (.str (boolS b)) H) := by
  intro pins s σ H xs us Q I r h
  obtain ⟨b, e, q⟩ := h
  subst e
  obtain ⟨u, e, ru⟩ := vals1 r
  subst e
  cases (show u = Value.bool b from ru)
  exact PySem.P.repr_of_bool ⟨V.str (boolS b), H, I.tok _, ⟨_, rfl⟩, q⟩
end
end Rw

set_option Elab.async false
set_option linter.all false
set_option maxRecDepth 100000
set_option maxHeartbeats 4000000
/-! TkD: try with several except clauses, each with a name or without. -/
namespace Rw
open PySem PySem.Spec PyProof.Rows L2

/-- a clause: its class, the slot of its name, its suite -/
structure Cl where
  c : Value
  slot : Option Nat
  ts : Addr → Value → Option Addr → TS
/-- the suite with the error at a, its name bound ahead of it and gone behind it -/
def Cl.run (q : Cl) (a : Addr) (cls : Value) (d : Option Addr) : TS := fun D σ H => match q.slot with
  | none => q.ts a cls d D σ H
  | some i => q.ts a cls d { nx := fun τ J => D.nx (τ.set i none) J, rt := D.rt, bk := fun τ J => D.bk (τ.set i none) J, ct := fun τ J => D.ct (τ.set i none) J } (σ.set i (some (.ref a))) H
/-- what the clauses wish of an error -/
def wCls (K : PySem.W.Frag) (Wo : WX) (D : Ends) : List Cl → WX
  | [] => Wo
  | q :: r => fun cls d σ H => ∃ b, PySem.W.exmOne K cls q.c = some b ∧ (b = true → ∀ a, H a = none → q.run a cls d D σ H) ∧ (b = false → wCls K Wo D r cls d σ H)
def SuiteOk (X : Cx) (sts : List Stmt) (ts : Addr → Value → Option Addr → TS) : Prop :=
  ∀ (a : Addr) (oe : Obj) (cls : Value) (d : Option Addr) (pn : List (Addr × Obj)), Zc cls d oe → (∃ vs, oe.data = .fields vs) → PSs (X.suite a ((a, oe) :: pn)) sts (ts a cls d)
inductive ClsOk (X : Cx) : List ExceptHandler → List Cl → Prop
  | nil : ClsOk X [] []
  | anon {x : Str} {c : Value} {ts : Addr → Value → Option Addr → TS} {st : Stmt} {sts : List Stmt} {np hp : Pos} {hs : List ExceptHandler} {l : List Cl} (hc : Names X x c) (ok : SuiteOk X (st :: sts) ts) (r : ClsOk X hs l) :
      ClsOk X (.ExceptHandler (some (.Name x np)) none (st :: sts) hp :: hs) (⟨c, none, ts⟩ :: l)
  | as {x n : Str} {i : Nat} {c : Value} {ts : Addr → Value → Option Addr → TS} {st : Stmt} {sts : List Stmt} {np hp : Pos} {hs : List ExceptHandler} {l : List Cl} (hi : X.N[i]? = some n) (hl : X.env.kindOf n = some .local) (hc : Names X x c)
      (ok : SuiteOk X (st :: sts) ts) (r : ClsOk X hs l) : ClsOk X (.ExceptHandler (some (.Name x np)) (some n) (st :: sts) hp :: hs) (⟨c, some i, ts⟩ :: l)

section
variable {X : Cx}
/-- what stands when an error has landed in this frame -/
structure Down (X : Cx) (B : Heap) (pins : List (Addr × Obj)) (σ : L2.St) (H : Hp) (a : Addr) (cls : Value) (d : Option Addr) (sI s : Shared) : Prop where
  inv : Inv X pins σ H sI
  nb : ∀ b o, sI.heap.get? b = some o → b ∉ frs X.stack → B.get? b = some o
  os : s.os = sI.os
  ag : AllBare s.gens
  free : H a = none
  up : sI.heap.UpToSlots s.heap
  fly : HandSPX.FlyingZ B (X.env :: X.outer) a (Zc cls d) s.heap
theorem Down.goes {B : Heap} {pins : List (Addr × Obj)} {σ : L2.St} {H : Hp} {a : Addr} {cls : Value} {d : Option Addr} {sI s : Shared} (W : Down X B pins σ H a cls d sI s) : Inv X pins σ H s :=
  Inv.landed W.inv W.nb W.fly.1 W.up W.os W.ag
theorem Down.more {B : Heap} {pins : List (Addr × Obj)} {σ : L2.St} {H : Hp} {a : Addr} {cls : Value} {d : Option Addr} {sI s : Shared} {h : Heap} (W : Down X B pins σ H a cls d sI s)
    (fl : HandSPX.FlyingZ B (X.env :: X.outer) a (Zc cls d) h) (u : s.heap.UpToSlots h) : Down X B pins σ H a cls d sI { s with heap := h } :=
  ⟨W.inv, W.nb, W.os, W.ag, W.free, Heap.UpToSlots.trans W.up u, fl⟩
/-- the error's own object: none of the frames -/
theorem Down.off {B : Heap} {pins : List (Addr × Obj)} {σ : L2.St} {H : Hp} {a : Addr} {cls : Value} {d : Option Addr} {sI s : Shared} (W : Down X B pins σ H a cls d sI s) (hf : X.env.frame = some X.env.locals) :
    a ≠ X.env.locals ∧ a ∉ X.fs := by
  obtain ⟨oe, vs, he, _, hd⟩ := W.fly.there
  have no : a ∉ frs (X.env :: X.outer) := fun hm => by
    obtain ⟨_, o, e, nf⟩ := Heap.FunFrames.mem W.fly.2.2.1 hm
    rw [he] at e
    cases e
    exact nf vs hd
  constructor
  · intro z
    exact no (List.mem_filterMap.mpr ⟨X.env, List.mem_cons_self, hf.trans (congrArg some z.symm)⟩)
  · intro hm
    obtain ⟨e, he, q⟩ := List.mem_filterMap.mp hm
    exact no (List.mem_filterMap.mpr ⟨e, List.mem_cons_of_mem X.env he, q⟩)
/-- in the suite -/
theorem Down.suite {B : Heap} {pins : List (Addr × Obj)} {σ : L2.St} {H : Hp} {a : Addr} {cls : Value} {d : Option Addr} {sI s : Shared} (W : Down X B pins σ H a cls d sI s) (hf : X.env.frame = some X.env.locals) :
    ∃ oe : Obj, s.heap.get? a = some oe ∧ Zc cls d oe ∧ (∃ vs, oe.data = .fields vs) ∧ Inv (X.suite a ((a, oe) :: (X.pn ++ pins))) [] σ H s := by
  obtain ⟨oe, vs, he, hz, hd⟩ := W.fly.there
  obtain ⟨n1, n2⟩ := W.off hf
  exact ⟨oe, he, hz, ⟨vs, hd⟩, Inv.suite W.goes he hd W.free n1 n2⟩

/-- the class of a clause is looked up, and asked -/
theorem Down.asks {B : Heap} {pins : List (Addr × Obj)} {σ : L2.St} {H : Hp} {a : Addr} {cls c : Value} {d : Option Addr} {sI s : Shared} {x : Str} {np : Pos} {b : Bool} {E : Value → Shared → Prop} {Q : Bool → Shared → Prop}
    (W : Down X B pins σ H a cls d sI s) (hf : X.env.frame = some X.env.locals) (hc : Names X x c) (hb : PySem.W.exmOne X.K cls c = some b) (q : Q b s) :
    wpAny (model X.prog X.w) (X.A.mark (some (.ref a))) (eval (.Name x np) X.env) (fun v s' => v = c ∧ s' = s) E s := by
  obtain ⟨oe, he, hz, _, S⟩ := W.suite hf
  obtain ⟨hg, hdbg, hm⟩ := hc
  rcases hm with hm | ⟨hm, hv, hn⟩
  · exact ld_glob (X := X.suite a ((a, oe) :: (X.pn ++ pins))) S hg hm ⟨rfl, rfl⟩ hdbg
  · exact ld_blt (X := X.suite a ((a, oe) :: (X.pn ++ pins))) S hg hm hv ⟨rfl, rfl⟩ hn hdbg

/-- the clauses, one after the other -/
theorem Down.clauses {B : Heap} {pins : List (Addr × Obj)} {σ : L2.St} {H : Hp} {a : Addr} {cls : Value} {d : Option Addr} {sI : Shared} {Wo : WX} {D : Ends} (hs : X.stack = X.env :: X.outer) (hf : X.env.frame = some X.env.locals) (hN : X.N.Nodup) (tk : Takes X Wo) :
    ∀ {hds : List ExceptHandler} {l : List Cl}, ClsOk X hds l → ∀ {s : Shared}, Down X B pins σ H a cls d sI s → wCls X.K Wo D l cls d σ H → wpAny (model X.prog X.w) X.A (handleBy (.ref a) X.env hds) (SP X pins D) X.xe s := by
  intro hds l hk
  induction hk with
  | nil =>
    intro s W wish
    refine wpAny_handleBy_nil ?_
    obtain ⟨_, _, _, oe, vs, T, oT, ts, he, hz, hd, h1, hr⟩ := id W.fly
    have nT : ¬ ((Value.ref T == Value.none) = true) := by simp
    unfold PySem.passOn
    refine wpAny_bind (wpAny_field he hd h1 ?_)
    rw [if_neg nT]
    have out : wpAny (model X.prog X.w) X.A (setFlight (.ref a) X.env.frame) (fun _ s4 => wpAny (model X.prog X.w) X.A (throw (.ref a) : Sem Flow) (SP X pins D) X.xe s4) X.xe s := by
      rw [hf]
      refine HandSPX.setFlight_upZ W.fly ?_
      intro h4 hh4 up4
      refine wpAny_throw (tk (.ref a) _ ⟨a, B, sI, pins, σ, H, cls, d, rfl, W.inv, W.nb, W.up.trans up4, ?_, W.free, W.os, W.ag, wish⟩)
      rw [hs]
      exact Or.inr (Or.inr hh4)
    first
      | exact wpAny_bind (wpAny_pure (wpAny_bind out))
      | exact wpAny_bind out
  | @anon x c ts st sts np hp hs' l' hc ok r ih =>
    intro s W wish
    obtain ⟨b, hb, yes, no⟩ := wish
    refine wpAny_handleBy_cons (codeAny_handlers_test ?_) (fun q => nomatch q)
    refine wpAny_mono (W.asks (E := fun _ _ => False) (Q := fun _ _ => True) hf hc hb True.intro) ?_ (fun _ _ z => z.elim)
    rintro v s' ⟨rfl, rfl⟩
    obtain ⟨oe, he, hz, hd, S⟩ := W.suite hf
    have LT : PySem.W.Looks (model X.prog X.w) s'.heap (typeOf (.ref a)) cls := fun A Q E s2 k q => wpAny_typeOf_ref (k a oe he) (by rw [hz.1]; exact q)
    refine (PySem.W.exm_one (M := model X.prog X.w) S.kIn LT hb).here ?_
    cases b with
    | false => exact ih W (no rfl)
    | true =>
      refine codeAny_handlers_suite (HandSPX.lands_againZ W.fly ?_)
      intro h4 fl4 up4
      obtain ⟨oe4, he4, hz4, hd4, S4⟩ := (W.more fl4 up4).suite hf
      refine wpAny_mono (PSs.run (ok a oe4 cls d (X.pn ++ pins) hz4 hd4) [] _ σ H D S4 (yes rfl a W.free)) ?_ (fun _ _ z => z.elim)
      intro fl s6 hsp
      have ok0 := W.inv.ok
      cases fl with
      | ret u =>
        obtain ⟨v6, σ6, H6, S6, r6, q6⟩ := hsp
        exact ⟨v6, σ6, H6, Inv.unsuite S6 ok0, r6, q6⟩
      | next =>
        obtain ⟨σ6, H6, S6, q6⟩ := hsp
        exact ⟨σ6, H6, Inv.unsuite S6 ok0, q6⟩
      | brk =>
        obtain ⟨σ6, H6, S6, q6⟩ := hsp
        exact ⟨σ6, H6, Inv.unsuite S6 ok0, q6⟩
      | cont =>
        obtain ⟨σ6, H6, S6, q6⟩ := hsp
        exact ⟨σ6, H6, Inv.unsuite S6 ok0, q6⟩
  | @as x n i c ts st sts np hp hs' l' hi hl hc ok r ih =>
    intro s W wish
    obtain ⟨b, hb, yes, no⟩ := wish
    refine wpAny_handleBy_cons (codeAny_handlers_test ?_) (fun q => nomatch q)
    refine wpAny_mono (W.asks (E := fun _ _ => False) (Q := fun _ _ => True) hf hc hb True.intro) ?_ (fun _ _ z => z.elim)
    rintro v s' ⟨rfl, rfl⟩
    obtain ⟨oe, he, hz, hd, S⟩ := W.suite hf
    have LT : PySem.W.Looks (model X.prog X.w) s'.heap (typeOf (.ref a)) cls := fun A Q E s2 k q => wpAny_typeOf_ref (k a oe he) (by rw [hz.1]; exact q)
    refine (PySem.W.exm_one (M := model X.prog X.w) S.kIn LT hb).here ?_
    cases b with
    | false => exact ih W (no rfl)
    | true =>
      refine codeAny_handlers_suite_as (HandSPX.lands_againZ W.fly ?_)
      intro h4 fl4 up4
      obtain ⟨oe4, he4, hz4, hd4, S4⟩ := (W.more fl4 up4).suite hf
      have ok0 := W.inv.ok
      refine store_ok (X := X.suite a ((a, oe4) :: (X.pn ++ pins))) (v := .ref a) S4 hN hi (Or.inl hl) rfl ?_ (Or.inr hl)
      intro s5 S5
      refine wpAny_mono (PSs.run (ok a oe4 cls d (X.pn ++ pins) hz4 hd4) [] s5 _ H _ S5 (yes rfl a W.free)) ?_ (fun _ _ z => z.elim)
      intro fl s6 hsp
      have gone : ∀ {τ : L2.St} {J : Hp} {Q : Shared → Prop}, Inv (X.suite a ((a, oe4) :: (X.pn ++ pins))) [] τ J s6 → (∀ s7, Inv X pins (τ.set i none) J s7 → Q s7) →
          wpAny (model X.prog X.w) X.A (do bindName X.env n .none; unbindBehindTheSuite X.env n hp) (fun _ s7 => Q s7) X.xe s6 := by
        intro τ J Q S6 hq
        exact gone_ok (Inv.unsuite S6 ok0) hN hi hl hq
      cases fl with
      | ret u =>
        obtain ⟨v6, σ6, H6, S6, r6, q6⟩ := hsp
        exact gone S6 (fun s7 J7 => ⟨v6, _, H6, J7, r6, q6⟩)
      | next =>
        obtain ⟨σ6, H6, S6, q6⟩ := hsp
        exact gone S6 (fun s7 J7 => ⟨_, H6, J7, q6⟩)
      | brk =>
        obtain ⟨σ6, H6, S6, q6⟩ := hsp
        exact gone S6 (fun s7 J7 => ⟨_, H6, J7, q6⟩)
      | cont =>
        obtain ⟨σ6, H6, S6, q6⟩ := hsp
        exact gone S6 (fun s7 J7 => ⟨_, H6, J7, q6⟩)

/-- try: body / except ..: .. / except ..: .. -/
theorem ps_tries {body : List Stmt} {h0 : ExceptHandler} {hds : List ExceptHandler} {l : List Cl} {pos : Pos} {tb : WX → TS} {Wo : WX} (hs : X.stack = X.env :: X.outer) (hf : X.env.frame = some X.env.locals) (hN : X.N.Nodup) (tk : Takes X Wo)
    (hb : ∀ (W : WX) (pn : List (Addr × Obj)) (xe : Value → Shared → Prop), Takes (X.tr pn xe) W → PassesOwn (model X.prog X.w) X.A X.env xe → PSs (X.tr pn xe) body (tb W)) (hh : ClsOk X (h0 :: hds) l) :
    PS X (.Try body (h0 :: hds) [] [] pos) (fun D σ H => tb (wCls X.K Wo D l) D σ H) := by
  constructor
  intro pins s σ H D I h
  have ok0 := I.ok
  have fr : X.A.frames = some (X.env :: X.outer) := (Cx.Ok.frames ok0).trans (congrArg some hs)
  refine wpAny_Try_except ?_
  have land : ∀ (u : Value) (s' : Shared), XE (X.tr (X.pn ++ pins) (fun e s₁ => wpAny (model X.prog X.w) X.A (noteFrame e X.env) (fun _ s₂ => wpAny (model X.prog X.w) X.A (setFlight e none) (fun _ s₃ =>
      wpAny (model X.prog X.w) X.A (handleBy e X.env (h0 :: hds)) (SP X pins D) X.xe s₃) X.xe s₂) X.xe s₁)) (wCls X.K Wo D l) u s' →
      wpAny (model X.prog X.w) X.A (noteFrame u X.env) (fun _ s₂ => wpAny (model X.prog X.w) X.A (setFlight u none) (fun _ s₃ => wpAny (model X.prog X.w) X.A (handleBy u X.env (h0 :: hds)) (SP X pins D) X.xe s₃) X.xe s₂) X.xe s' := by
    intro u s' xx
    obtain ⟨a, B, sI, pins', τ, J, cls, d, eu, I', nb, up, sky, na, os, ag, wish⟩ := xx
    subst eu
    have sky2 : Sky B (X.env :: X.outer) a (Zc cls d) X.env.locals s'.heap := hs ▸ sky
    refine Sky.land Zc.steady fr hf sky2 ?_
    intro h3 fl3 up3
    exact Down.clauses hs hf hN tk hh ⟨Inv.ofTry I' ok0, nb, os, ag, na, up.trans up3, fl3⟩ wish
  refine wpAny_mono (PSs.run (hb (wCls X.K Wo D l) (X.pn ++ pins) _ land PassesOwn.looking) [] s σ H D (Inv.toTry I _) h) ?_ (fun e s1 he => he)
  intro fl s1 hsp
  cases fl with
  | ret u =>
    obtain ⟨v, τ, J, I', r, q⟩ := hsp
    exact ⟨v, τ, J, Inv.ofTry I' ok0, r, q⟩
  | next =>
    obtain ⟨τ, J, I', q⟩ := hsp
    exact wpAny_execs_nil ⟨τ, J, Inv.ofTry I' ok0, q⟩
  | brk =>
    obtain ⟨τ, J, I', q⟩ := hsp
    exact ⟨τ, J, Inv.ofTry I' ok0, q⟩
  | cont =>
    obtain ⟨τ, J, I', q⟩ := hsp
    exact ⟨τ, J, Inv.ofTry I' ok0, q⟩
end
end Rw

set_option Elab.async false
set_option linter.all false
set_option maxRecDepth 100000
set_option maxHeartbeats 4000000
/-! TkE: own defs by name (Own, OwnG), own errors with one value (Err), data kept over heaps, the kinds of things. -/
namespace Rw
open PySem PySem.Spec PyProof.Rows L2

/-! ### a def by its name -/
/-- x names a def that keeps sp when it is called with all but the values dvs -/
structure Own (P : Program) (w : World) (K : PySem.W.Frag) (mg : Str → Option Value) (base : Heap) (CX : CXT) (k : Nat) (x : Str) (ps : List Str) (dvs : List V) (sp : Sp) : Prop where
  has : ∃ (f : Addr) (fd : FuncData) (ds : List Value), mg x = some (.ref f) ∧ PySem.W.keepIn K (.ref f) = true ∧ FnOk P w K mg base CX k f fd ps sp ∧ Binds K fd ps ds ∧ Vals dvs ds
structure OwnG (P : Program) (w : World) (K : PySem.W.Frag) (mg : Str → Option Value) (base : Heap) (CX : CXT) (k : Nat) (x : Str) (ps : List Str) (dvs : List V) (sp : Sp) : Prop where
  has : ∃ (f : Addr) (fd : FuncData) (ds : List Value), mg x = some (.ref f) ∧ PySem.W.keepIn K (.ref f) = true ∧ FnG P w K mg base CX k f fd ps sp ∧ Binds K fd ps ds ∧ Vals dvs ds
/-- where a def of the text stands behind the top -/
structure Df (K : PySem.W.Frag) (mg : Str → Option Value) (x : Str) (st : Stmt) (ps : List Str) : Prop where
  has : ∃ (f : Addr) (fd : FuncData), mg x = some (.ref f) ∧ Fun K x x st f fd ∧ Binds K fd ps []
section
variable {P : Program} {w : World} {K : PySem.W.Frag} {mg : Str → Option Value} {base : Heap} {CX : CXT} {k : Nat} {x : Str} {ps : List Str} {dvs : List V} {sp : Sp} {st : Stmt}
theorem Df.own (D : Df K mg x st ps) (h : ∀ (f : Addr) (fd : FuncData), Fun K x x st f fd → FnOk P w K mg base CX k f fd ps sp) : Own P w K mg base CX k x ps [] sp := by
  obtain ⟨f, fd, g, F, b⟩ := D.has
  exact ⟨f, fd, [], g, F.kp, h f fd F, b, .nil⟩
theorem Df.ownG (D : Df K mg x st ps) (h : ∀ (f : Addr) (fd : FuncData), Fun K x x st f fd → FnG P w K mg base CX k f fd ps sp) : OwnG P w K mg base CX k x ps [] sp := by
  obtain ⟨f, fd, g, F, b⟩ := D.has
  exact ⟨f, fd, [], g, F.kp, h f fd F, b, .nil⟩
end
section
variable {X : Cx} {CX : CXT} {k : Nat} {ps : List Str} {sp : Sp} {dvs : List V} {E : XK} {x : Str} {p pos : Pos} {e : Expr} {es : List Expr} {t : TA}
theorem pe_own (F : Own X.prog X.w X.K X.mg X.base CX k x ps dvs sp) (hr : Room k X.A) (hx : Passes CX X E) (ha : PA X (e :: es) t) (hg : Gl X x := by rfl) (hdb : (x == ("__debug__" : Str)) = false := by decide)
    (he : starEach (e :: es) X.env = (false, eval e X.env) :: starEach es X.env := by rfl) (hpl : (backTo pos (starEach es X.env)).any (·.1) = false := by rfl) : PE X (.Call (.Name x p) (e :: es) [] pos) (tCall sp dvs E t) := by
  obtain ⟨f, fd, ds, hm, hk, G, b, v⟩ := F.has
  exact pe_call G hr hg hm hk b v hx ha hdb he hpl
theorem pe_ownG (F : OwnG X.prog X.w X.K X.mg X.base CX k x ps dvs sp) (gu : X.A.guards = some []) (hr : Room k X.A) (hx : Passes CX X E) (ha : PA X (e :: es) t) (hg : Gl X x := by rfl) (hdb : (x == ("__debug__" : Str)) = false := by decide)
    (he : starEach (e :: es) X.env = (false, eval e X.env) :: starEach es X.env := by rfl) (hpl : (backTo pos (starEach es X.env)).any (·.1) = false := by rfl) : PE X (.Call (.Name x p) (e :: es) [] pos) (tCall sp dvs E t) := by
  obtain ⟨f, fd, ds, hm, hk, G, b, v⟩ := F.has
  exact pe_callG G gu hr hg hm hk b v hx ha hdb he hpl
/-- such a call in a try's body: what is raised is wished for at the slots -/
def tOwnS (sp : Sp) (dvs : List V) (W : WX) (t : TA) : TE := fun σ H Q => t σ H fun vs H1 => sp (vs ++ dvs) H1 Q (fun cls d H' => W cls d σ H')
theorem pe_ownS {W : WX} (F : Own X.prog X.w X.K X.mg X.base CX k x ps dvs sp) (hr : Room k X.A) (hx : ∀ σ, PassesAt CX X σ (fun cls d H' => W cls d σ H')) (ha : PA X (e :: es) t) (hg : Gl X x := by rfl) (hdb : (x == ("__debug__" : Str)) = false := by decide)
    (he : starEach (e :: es) X.env = (false, eval e X.env) :: starEach es X.env := by rfl) (hpl : (backTo pos (starEach es X.env)).any (·.1) = false := by rfl) : PE X (.Call (.Name x p) (e :: es) [] pos) (tOwnS sp dvs W t) := by
  obtain ⟨f, fd, ds, hm, hk, G, b, v⟩ := F.has
  constructor
  intro pins s σ H Q I h
  refine wpAny_Call_Name_kw (ld_glob I hg hm ?_ hdb)
  refine PySem.W.callWith_K (h₀ := X.base) I.ok.mod.kin hk ?_ he hpl
  refine thn (PA.run ha pos pins s σ H _ I h) ?_
  intro us s1 hh
  obtain ⟨vs, H1, I1, r, q⟩ := hh
  refine ⟨I1.kIn, ?_⟩
  have r2 : Vals (vs ++ dvs) (us ++ ds) := Vals.append r v
  have cnt : (us ++ ds).length = ps.length := (r2.length).symm.trans (G.len _ _ _ _ q)
  refine wpAny_call (codeAny_mono (G.run X.A X.stack s1 H1 ⟨us, []⟩ (us ++ ds) (vs ++ dvs) Q _ hr I1.env0 (b s1 us I1.kIn cnt) r2 q) ?_)
  intro res s2 hq
  cases res with
  | error er => exact hx σ pins H1 s1 er s2 I1 hq
  | ok fl =>
    cases fl with
    | ret u => exact Inv.after I1 hq
    | next => exact hq.elim
    | brk => exact hq.elim
    | cont => exact hq.elim
end

/-! ### own errors: a class with __init__(self, value): self.value = value -/
/-- x names such a class, at C -/
structure Err (K : PySem.W.Frag) (mg : Str → Option Value) (x : Str) (C : Addr) : Prop where
  g : mg x = some (.ref C)
  ox : OexC K C
  xf : XfC K C
  no : PySem.W.findIn K (.ref C) "value" = some none
  ini : ∃ (f : Addr) (q : Str) (st : Stmt) (fd : FuncData), PySem.W.findIn K (.ref C) "__init__" = some (some (.ref f)) ∧ PySem.W.typeIn K (.ref f) = some (.type "function") ∧ Fun K "__init__" q st f fd ∧ Binds K fd ["self", "value"] [] ∧
    FnScope ["self", "value"] ["self", "value"] (defScope st) ∧
    (∀ X : Cx, X.N = (["self", "value"] : List Str) → X.env.scope = defScope st → ∃ t : TS, PSs X (defBody st) t ∧ (∀ D σ H, tOst X.K "value" (tVar 0) (tVar 1) D σ H → t D σ H))
/-- an error of the class at C with the value v is let out, all else as it was -/
def Thrown (C : Addr) (v : V) (H : Hp) (E : XK) : Prop := ∀ (d : Addr) (H' : Hp), Same H H' → H d = none → H' d = some (.xd [(("value" : Str), v)]) → E (.ref C) (some d) H'
def spIni (K : PySem.W.Frag) (C : Addr) : Sp := fun vs H Q _ => ∃ (a : Addr) (v : V), vs = [.ref a, v] ∧ H a = some (exo a C none) ∧ ∀ dx, H dx = none → dx ≠ a → Q .non (upd (upd H dx (exd dx [(("value" : Str), v)])) a (exo a C (some dx)))
section
variable {P : Program} {w : World} {K : PySem.W.Frag} {mg : Str → Option Value} {base : Heap}
theorem Err.init {x : Str} {C : Addr} (T : Err K mg x C) : ∃ (f : Addr) (fd : FuncData), PySem.W.findIn K (.ref C) "__init__" = some (some (.ref f)) ∧ PySem.W.typeIn K (.ref f) = some (.type "function") ∧ Binds K fd ["self", "value"] [] ∧
    FnOk P w K mg base CX0 1 f fd ["self", "value"] (spIni K C) := by
  obtain ⟨f, q, st, fd, h1, h2, F, b, S, dv⟩ := T.ini
  refine ⟨f, fd, h1, h2, b, F.ok S (fun vs H Q E h => ?_) (fun cdv A outer s H vs Q E hr h => ?_)⟩
  · obtain ⟨a, v, e, _⟩ := h
    rw [e]
    rfl
  · obtain ⟨a, v, e, ea, k⟩ := h
    subst e
    obtain ⟨t, d, go⟩ := dv (cxOf CX0 P w K mg base ["self", "value"] q (defScope st) f cdv A outer s H E).nox rfl rfl
    refine ⟨t, d, go _ _ _ ?_⟩
    exact ⟨v, rfl, .ref a, rfl, a, C, rfl, T.ox, T.no, Or.inl ⟨ea, k⟩⟩
end
section
variable {X : Cx} {x : Str} {C : Addr} {e : Expr} {te : TE} {p pos pos2 : Pos} {W : WX}
/-- raise x(e) -/
def tThrow (K : PySem.W.Frag) (C : Addr) (W : WX) (te : TE) : TS := fun _ σ H => tMkO C (spIni K C) [] (tCons te tNil) σ H fun cls d H' => W cls d σ H'
theorem ps_throw (T : Err X.K X.mg x C) (hc : X.calm = true) (hr : Room 2 X.A) (tk : Takes X W) (he : PE X e te) (hg : Gl X x := by rfl) (hdb : (x == ("__debug__" : Str)) = false := by decide)
    (hs : starEach (e :: []) X.env = (false, eval e X.env) :: starEach [] X.env := by rfl) (hpl : (backTo pos (starEach [] X.env)).any (·.1) = false := by rfl) :
    PS X (.Raise (some (.Call (.Name x p) [e] [] pos)) none pos2) (tThrow X.K C W te) := by
  obtain ⟨f, fd, h1, h2, b, F⟩ := T.init (P := X.prog) (w := X.w) (base := X.base)
  exact ps_raise (pos := pos2) hc tk (pmk_oex (x := x) (p := p) (pos := pos) (dvs := []) (ds := []) T.ox h1 h2 F hr b .nil pass0 hg T.g (pa_cons he pa_nil hs) hdb hs hpl)
/-- what the reading of a raise asks, from Thrown -/
theorem thrown_go {K : PySem.W.Frag} {H : Hp} {E : XK} {v : V} (h : Thrown C v H E) : [v].length ≤ 1000 ∧ ∀ a, H a = none → spIni K C (.ref a :: ([v] ++ [])) (upd H a (exo a C none))
    (fun u H2 => u = .non ∧ ∃ (d : Addr) (fs : List (Str × V)), H2 a = some (exo a C (some d)) ∧ H2 d = some (exd d fs) ∧ H d = none ∧ E (.ref C) (some d) (upd (del H2 a) d (.xd fs))) (fun _ _ _ => False) := by
  refine ⟨by show 1 ≤ 1000; decide, fun a ha => ⟨a, v, rfl, upd_same, fun dx hd ne => ⟨rfl, dx, _, upd_same, by rw [upd_ne ne, upd_same], ?_, ?_⟩⟩⟩
  · rw [upd_ne ne] at hd
    exact hd
  · rw [upd_ne ne] at hd
    refine h dx _ (fun b o e => ?_) hd upd_same
    rw [upd_ne (ne_of_none e hd), del_ne (ne_of_none e ha), upd_ne (ne_of_none e ha), upd_ne (ne_of_none e hd), upd_ne (ne_of_none e ha)]
    exact e
end
end Rw

set_option Elab.async false
set_option linter.all false
set_option maxRecDepth 100000
set_option maxHeartbeats 4000000
/-! TkF: the kinds of data, what data is kept over heaps, numbers among the primes. -/
namespace Rw
open PySem PySem.Spec PyProof.Rows L2

/-! ### kinds -/
def kindS : PyData → String
  | .none => "NoneType" | .bool _ => "bool" | .int _ => "int" | .str _ => "str" | .list _ => "list" | .tuple _ => "tuple" | .dict _ => "dict"
def intish : PyData → Bool
  | .int _ => true | .bool _ => true | _ => false
def boolish : PyData → Bool
  | .bool _ => true | _ => false
def isIntD : PyData → Bool
  | .int _ => true | _ => false
section
variable {K : PySem.W.Frag} {H H' : Hp} {v : V} {d : PyData}
theorem any_ty (h : Any H v d) : TyX K H v (.type (kindS d)) := by
  cases h with
  | non => exact .base .non
  | bl b => exact .base (.bl b)
  | int i => exact .base (.int i)
  | str x => exact .base (.str x)
  | lst e _ => exact .base (.lst e)
  | tup e _ => exact .base (.tup e)
  | dct e _ => exact .base (.dK e)
theorem kit_int (d : PyData) : PySem.W.kitOne K (.type (kindS d)) (.type "int") = some (intish d) := by
  cases d with
  | none => exact kit_ty (show kitB "NoneType" "int" = some false by decide +kernel)
  | bool b => exact kit_ty (show kitB "bool" "int" = some true by decide +kernel)
  | int i => exact kit_ty (show kitB "int" "int" = some true by decide +kernel)
  | str x => exact kit_ty (show kitB "str" "int" = some false by decide +kernel)
  | list xs => exact kit_ty (show kitB "list" "int" = some false by decide +kernel)
  | tuple xs => exact kit_ty (show kitB "tuple" "int" = some false by decide +kernel)
  | dict kvs => exact kit_ty (show kitB "dict" "int" = some false by decide +kernel)
theorem kit_bool (d : PyData) : PySem.W.kitOne K (.type (kindS d)) (.type "bool") = some (boolish d) := by
  cases d with
  | none => exact kit_ty (show kitB "NoneType" "bool" = some false by decide +kernel)
  | bool b => exact kit_ty (show kitB "bool" "bool" = some true by decide +kernel)
  | int i => exact kit_ty (show kitB "int" "bool" = some false by decide +kernel)
  | str x => exact kit_ty (show kitB "str" "bool" = some false by decide +kernel)
  | list xs => exact kit_ty (show kitB "list" "bool" = some false by decide +kernel)
  | tuple xs => exact kit_ty (show kitB "tuple" "bool" = some false by decide +kernel)
  | dict kvs => exact kit_ty (show kitB "dict" "bool" = some false by decide +kernel)
theorem int_of (h : Any H v d) (e : isIntD d = true) : ∃ n, d = .int n ∧ v = .int n := by
  cases h with
  | int i => exact ⟨i, rfl, rfl⟩
  | _ => cases e
mutual
theorem any_keep (k : Same H H') : ∀ (d : PyData) (v : V), Any H v d → Any H' v d
  | .none, _, h => by
    cases h
    exact .non
  | .bool b, _, h => by
    cases h
    exact .bl b
  | .int i, _, h => by
    cases h
    exact .int i
  | .str x, _, h => by
    cases h
    exact .str x
  | .list ds, _, h => by
    cases h with
    | lst e a => exact .lst (k _ _ e) (any_keepL k ds _ a)
  | .tuple ds, _, h => by
    cases h with
    | tup e a => exact .tup (k _ _ e) (any_keepL k ds _ a)
  | .dict ds, _, h => by
    cases h with
    | dct e a => exact .dct (k _ _ e) (any_keepK k ds _ a)
theorem any_keepL (k : Same H H') : ∀ (ds : List PyData) (vs : List V), AnyL H vs ds → AnyL H' vs ds
  | [], _, h => by
    cases h
    exact .nil
  | d :: ds, _, h => by
    cases h with
    | cons a b => exact .cons (any_keep k d _ a) (any_keepL k ds _ b)
theorem any_keepK (k : Same H H') : ∀ (ds : List (PyData × PyData)) (vs : List (Key × V)), AnyK H vs ds → AnyK H' vs ds
  | [], _, h => by
    cases h
    exact .nil
  | (_, d) :: ds, _, h => by
    cases h with
    | cons a b => exact .cons (any_keep k d _ a) (any_keepK k ds _ b)
end
theorem Any.keep (h : Any H v d) (k : Same H H') : Any H' v d := any_keep k d v h
end

/-! ### all but one object -/
/-- what was tracked but at p is as it was -/
def Grow (p : Addr) (H H' : Hp) : Prop := ∀ b o, b ≠ p → H b = some o → H' b = some o
theorem Grow.refl {p : Addr} {H : Hp} : Grow p H H := fun _ _ _ e => e
theorem Grow.trans {p : Addr} {H H1 H2 : Hp} (a : Grow p H H1) (b : Grow p H1 H2) : Grow p H H2 := fun c o n e => b c o n (a c o n e)
theorem Grow.of {p : Addr} {H H' : Hp} (a : Same H H') : Grow p H H' := fun c o _ e => a c o e
theorem Grow.put {p : Addr} {H : Hp} {o : HO} : Grow p H (upd H p o) := fun c u n e => by
  rw [upd_ne n]
  exact e
theorem Grow.del {p : Addr} {H H' : Hp} (a : Grow p H H') : Same (del H p) (del H' p) := fun c o e => by
  by_cases z : c = p
  · rw [z, del_same] at e
    cases e
  · rw [del_ne z] at e
    rw [del_ne z]
    exact a c o z e
theorem same_del {p : Addr} {H : Hp} : Same (del H p) H := fun c o e => by
  by_cases z : c = p
  · rw [z, del_same] at e
    cases e
  · rw [del_ne z] at e
    exact e
theorem same_new {p : Addr} {H : Hp} {o : HO} (h : H p = none) : Same H (upd H p o) := fun c u e => by
  rw [upd_ne (ne_of_none e h)]
  exact e
theorem del_new {p q : Addr} {H : Hp} {o : HO} (h : H q = none) : Same (del H p) (del (upd H q o) p) := Grow.del (Grow.of (same_new h))
theorem ne_new {H : Hp} {p q : Addr} {o : HO} (hp : H p = some o) (h : H q = none) : q ≠ p := (ne_of_none hp h).symm

/-! ### the primes -/
def primesL : List Int := [2, 3, 5, 7, 11, 13]
def isPr : PyData → Bool
  | .int n => decide (n ∈ primesL)
  | _ => false
theorem inV_ints (n : Int) : ∀ l : List Int, inV (.int n) (l.map V.int) = decide (n ∈ l)
  | [] => rfl
  | a :: l => by
    show (eqV (.int a) (.int n) || inV (.int n) (l.map V.int)) = _
    rw [inV_ints n l]
    show ((a == n) || decide (n ∈ l)) = _
    by_cases h : a = n
    · subst h
      simp
    · have h2 : ¬ n = a := fun z => h z.symm
      simp [h, h2]
theorem flat_ints : ∀ l : List Int, (l.map V.int).all flatV = true
  | [] => rfl
  | a :: l => by
    show (true && (l.map V.int).all flatV) = true
    rw [flat_ints l] <;> rfl
theorem prime_cases {p : Int} (h : p ∈ primesL) : p = 2 ∨ p = 3 ∨ p = 5 ∨ p = 7 ∨ p = 11 ∨ p = 13 := by
  simpa [primesL] using h
theorem prime_pos {p : Int} (h : p ∈ primesL) : 2 ≤ p ∧ p ≤ 13 := by
  rcases prime_cases h with e | e | e | e | e | e <;> omega
/-- a number that is no multiple of the prime has an inverse -/
theorem has_inverse {p n : Int} (h : p ∈ primesL) (hn : n % p ≠ 0) : ∃ j : Nat, ((j : Int) + 1) < p ∧ ((1 + (j : Int)) * n) % p = 1 := by
  have key : ∀ (p : Int) (r : Int), p ∈ primesL → 0 ≤ r → r < p → r ≠ 0 → ∃ j : Nat, ((j : Int) + 1) < p ∧ ((1 + (j : Int)) * r) % p = 1 := by
    intro p r hp h0 h1 h2
    have c : ∀ p ∈ [2, 3, 5, 7, 11, 13], ∀ r ∈ List.range p, r ≠ 0 → ∃ j ∈ List.range 12, j + 1 < p ∧ ((1 + j) * r) % p = 1 := by decide +kernel
    obtain ⟨j, _, a, b⟩ := c p.toNat (by rcases prime_cases hp with e | e | e | e | e | e <;> subst e <;> decide) r.toNat (List.mem_range.mpr (by omega)) (by omega)
    refine ⟨j, by omega, ?_⟩
    have e1 : ((p.toNat : Nat) : Int) = p := Int.toNat_of_nonneg (by omega)
    have e2 : ((r.toNat : Nat) : Int) = r := Int.toNat_of_nonneg h0
    have b2 : ((((1 + j) * r.toNat % p.toNat : Nat)) : Int) = ((1 : Nat) : Int) := by rw [b]
    rw [Int.natCast_emod, Int.natCast_mul, e1, e2, Int.natCast_add] at b2
    exact b2
  have hp := prime_pos h
  obtain ⟨j, a, b⟩ := key p (n % p) h (Int.emod_nonneg n (by omega)) (Int.emod_lt_of_pos n (by omega)) hn
  refine ⟨j, a, ?_⟩
  rw [Int.mul_emod, Int.emod_emod_of_dvd n (Int.dvd_refl p), ← Int.mul_emod] at b
  exact b
theorem fmod_pos {a b : Int} (h : 0 < b) : a.fmod b = a % b := Int.fmod_eq_emod_of_nonneg a (by omega)
end Rw

set_option Elab.async false
set_option linter.all false
set_option maxRecDepth 100000
set_option maxHeartbeats 4000000
/-! TkG: what stands behind the top, as facts that the kernel is asked. -/
namespace Rw
open PySem PySem.Spec PyProof.Rows L2
/-- a def of the text stands at f under the name x -/
def DefAt (K : PySem.W.Frag) (x qual : Str) (st : Stmt) (f : Addr) : Prop :=
  ∃ (oc : Value) (od : Option Addr) (kV dc pm : Value) (an : Option Addr) (cd ct : Value) (sl : Array (Option Value)), K.lookup f = some ⟨oc, od, .func (PySem.W.fnOf x qual (defArgs st) (defBody st) (defScope st) .none kV dc pm an cd ct), sl⟩ ∧
    PySem.W.codeIn K cd qual = true ∧ PySem.W.keepIn K (.ref f) = true
def DefHere (K : PySem.W.Frag) (x : Str) (st : Stmt) : Prop := ∃ f : Addr, PySem.W.nsIn K mainGlobals x = some (some (.ref f)) ∧ DefAt K x x st f
/-- a def with defaults -/
def DflHere (K : PySem.W.Frag) (x : Str) (st : Stmt) (ds : List Value) : Prop :=
  ∃ (f T : Addr) (oc : Value) (od : Option Addr) (kV dc pm : Value) (an : Option Addr) (cd ct : Value) (sl : Array (Option Value)) (tc : Value) (td : Option Addr) (n : Nat) (ts : Array (Option Value)), PySem.W.nsIn K mainGlobals x = some (some (.ref f)) ∧
    K.lookup f = some ⟨oc, od, .func (PySem.W.fnOf x x (defArgs st) (defBody st) (defScope st) (.ref T) kV dc pm an cd ct), sl⟩ ∧ PySem.W.codeIn K cd x = true ∧ PySem.W.keepIn K (.ref f) = true ∧
    K.lookup T = some ⟨tc, td, .seq ds.toArray n, ts⟩
/-- an own error class x below the class at R, its __init__ is st -/
def ErrHere (K : PySem.W.Frag) (x q : Str) (st : Stmt) (R C : Addr) : Prop :=
  ∃ (f N : Addr) (nm qn : Str) (bs : List Value) (sn : List Str) (sub : List Value) (ab : Bool) (col : Option Bool) (dd : Option Addr) (m0 m1 m2 m3 m5 : Option Value), PySem.W.nsIn K mainGlobals x = some (some (.ref C)) ∧
    K.lookup C = some (excClassObj nm qn C N bs [.ref R, .type "ValueError", .type "Exception", .type "BaseException", .type "object"] true sn sub ab col dd m0 m1 m2 m3 m5 "ValueError.__new__") ∧
    PySem.W.findIn K (.ref C) "__setattr__" = some (some (.builtin "object.__setattr__")) ∧ PySem.W.findIn K (.ref C) "__getattribute__" = some (some (.builtin "BaseException.__getattribute__")) ∧ PySem.W.findIn K (.ref C) "__getattr__" = some none ∧
    PySem.W.findIn K (.ref C) "value" = some none ∧ PySem.W.findIn K (.ref C) "__init__" = some (some (.ref f)) ∧ PySem.W.typeIn K (.ref f) = some (.type "function") ∧ DefAt K "__init__" q st f ∧
    PySem.W.keepIn K (.ref C) = true ∧ PySem.W.subIn K (.ref C) (.type "BaseException") = some true ∧ PySem.W.typeIn K (.ref C) = some (.type "type") ∧ PySem.W.hasDictIn K C = true
section
variable {K : PySem.W.Frag} {mg : Str → Option Value} {h : Heap}
theorem DefHere.df {x : Str} {st : Stmt} {ps : List Str} (D : DefHere K x st) (X : K.In h) (G : h.Ns mainGlobals mg)
    (b : ∀ (kV doc pm : Value) (an : Option Addr) (cdv ct : Value) (us : List Value), us.length = ps.length → bindArgs (PySem.W.fnOf x x (defArgs st) (defBody st) (defScope st) .none kV doc pm an cdv ct) ⟨us, []⟩ = pure (ps.zip us)) : Df K mg x st ps := by
  obtain ⟨f, g, oc, od, kV, dc, pm, an, cd, ct, sl, l, c, k⟩ := D
  have F := fun_mk (st := st) l c k
  exact ⟨f, _, PySem.W.mg_of X G g, F, F.binds b⟩
theorem exm_of {A C : Addr} {b : Bool} (h1 : PySem.W.subIn K (.ref C) (.type "BaseException") = some true) (h2 : PySem.W.isClsIn K C = true) (h3 : PySem.W.typeIn K (.ref C) = some (.type "type")) (h4 : PySem.W.subIn K (.ref A) (.ref C) = some b) :
    PySem.W.exmOne K (.ref A) (.ref C) = some b := by
  have e1 : (PySem.W.subIn K (.ref C) (.type "BaseException") == some true) = true := by
    rw [h1] <;> rfl
  have h2' : (PySem.W.clsIn K C).isSome = true := h2
  have e2 : ((PySem.W.clsIn K C).isSome && PySem.W.typeIn K (.ref C) == some (.type "type")) = true := by
    rw [h2', h3] <;> rfl
  unfold PySem.W.exmOne
  rw [if_pos e1]
  show (if ((PySem.W.clsIn K C).isSome && PySem.W.typeIn K (.ref C) == some (.type "type")) = true then PySem.W.subIn K (.ref A) (.ref C) else none) = some b
  rw [if_pos e2]
  exact h4
/-- the body of __init__(self, value): self.value = value -/
def IsIni (st : Stmt) : Prop := ∃ p1 p2 p3 p4 : Pos, defBody st = [.Assign [.Attribute (.Name "self" p1) "value" p2] (.Name "value" p3) p4] ∧ (defScope st).names.lookup ("self" : Str) = some NameKind.local ∧ (defScope st).names.lookup ("value" : Str) = some NameKind.local
theorem ini_walk {st : Stmt} (I : IsIni st) (X : Cx) (hN : X.N = (["self", "value"] : List Str)) (hS : X.env.scope = defScope st) : ∃ t : TS, PSs X (defBody st) t ∧ (∀ D σ H, tOst X.K "value" (tVar 0) (tVar 1) D σ H → t D σ H) := by
  obtain ⟨p1, p2, p3, p4, e, l1, l2⟩ := I
  rw [e]
  refine ⟨_, pss_one (ps_ost (pe_var (i := 0) (by rw [hN]; rfl) (.inl (by rw [hS]; exact l1))) (pe_var (i := 1) (by rw [hN]; rfl) (.inl (by rw [hS]; exact l2)))), fun D σ H z => z⟩
theorem ErrHere.err {x q : Str} {st : Stmt} {R C : Addr} (E : ErrHere K x q st R C) (X : K.In h) (G : h.Ns mainGlobals mg) (S : FnScope ["self", "value"] ["self", "value"] (defScope st)) (I : IsIni st)
    (b : ∀ (kV doc pm : Value) (an : Option Addr) (cdv ct : Value) (us : List Value), us.length = 2 → bindArgs (PySem.W.fnOf "__init__" q (defArgs st) (defBody st) (defScope st) .none kV doc pm an cdv ct) ⟨us, []⟩ = pure ((["self", "value"] : List Str).zip us)) : Err K mg x C := by
  obtain ⟨f, N, nm, qn, bs, sn, sub, ab, col, dd, m0, m1, m2, m3, m5, g, l, sa, ga, gg, no, ini, ty, ⟨oc, od, kV, dc, pm, an, cd, ct, sl, lf, cf, kf⟩, kc, ex, tc, hd⟩ := E
  have F := fun_mk (x := "__init__") (qual := q) (st := st) lf cf kf
  exact {
    g := PySem.W.mg_of X G g
    ox := ⟨⟨nm, qn, N, bs, _, sn, sub, ab, col, dd, m0, m1, m2, m3, m5, l, rfl⟩, sa, ex, tc, kc⟩
    xf := ⟨ga, gg, ex, hd⟩
    no := no
    ini := ⟨f, q, st, _, ini, ty, F, F.binds b, S, ini_walk I⟩ }
/-- a tuple of ints of the text -/
def IntsHere (K : PySem.W.Frag) (x : Str) (a : Addr) (us : List Value) : Prop := ∃ (dd : Option Addr) (n : Nat) (sl : Array (Option Value)), PySem.W.nsIn K mainGlobals x = some (some (.ref a)) ∧ K.lookup a = some ⟨.type "tuple", dd, .seq us.toArray n, sl⟩
theorem IntsHere.sq {x : Str} {a : Addr} {us : List Value} {xs : List V} (E : IntsHere K x a us) (r : Vals xs us) (z : us.length ≤ sizeLine) (H : Hp) : SqT K H a xs := by
  obtain ⟨dd, n, sl, _, l⟩ := E
  exact Or.inr ⟨_, us.toArray, n, l, rfl, rfl, by simpa using z, by simpa using r⟩
/-! the same from its facts, the rest found by the kernel -/
theorem DefHere.of {x : Str} {st : Stmt} {f : Addr} {oc : Value} {od : Option Addr} {kV dc pm : Value} {an : Option Addr} {cd ct : Value} {sl : Array (Option Value)} (g : PySem.W.nsIn K mainGlobals x = some (some (.ref f)))
    (l : K.lookup f = some ⟨oc, od, .func (PySem.W.fnOf x x (defArgs st) (defBody st) (defScope st) .none kV dc pm an cd ct), sl⟩) (c : PySem.W.codeIn K cd x = true) (k : PySem.W.keepIn K (.ref f) = true) : DefHere K x st :=
  ⟨f, g, oc, od, kV, dc, pm, an, cd, ct, sl, l, c, k⟩
theorem DflHere.of {x : Str} {st : Stmt} {ds : List Value} {f T : Addr} {oc : Value} {od : Option Addr} {kV dc pm : Value} {an : Option Addr} {cd ct : Value} {sl : Array (Option Value)} {tc : Value} {td : Option Addr} {n : Nat} {ts : Array (Option Value)}
    (g : PySem.W.nsIn K mainGlobals x = some (some (.ref f))) (l : K.lookup f = some ⟨oc, od, .func (PySem.W.fnOf x x (defArgs st) (defBody st) (defScope st) (.ref T) kV dc pm an cd ct), sl⟩) (c : PySem.W.codeIn K cd x = true) (k : PySem.W.keepIn K (.ref f) = true)
    (t : K.lookup T = some ⟨tc, td, .seq ds.toArray n, ts⟩) : DflHere K x st ds := ⟨f, T, oc, od, kV, dc, pm, an, cd, ct, sl, tc, td, n, ts, g, l, c, k, t⟩
theorem ErrHere.of {x q : Str} {st : Stmt} {R C f N : Addr} {nm qn : Str} {bs : List Value} {sn : List Str} {sub : List Value} {ab : Bool} {col : Option Bool} {dd : Option Addr} {m0 m1 m2 m3 m5 : Option Value}
    {oc : Value} {od : Option Addr} {kV dc pm : Value} {an : Option Addr} {cd ct : Value} {sl : Array (Option Value)} (g : PySem.W.nsIn K mainGlobals x = some (some (.ref C)))
    (xl : K.lookup C = some (excClassObj nm qn C N bs [.ref R, .type "ValueError", .type "Exception", .type "BaseException", .type "object"] true sn sub ab col dd m0 m1 m2 m3 m5 "ValueError.__new__"))
    (sa : PySem.W.findIn K (.ref C) "__setattr__" = some (some (.builtin "object.__setattr__"))) (ga : PySem.W.findIn K (.ref C) "__getattribute__" = some (some (.builtin "BaseException.__getattribute__"))) (gg : PySem.W.findIn K (.ref C) "__getattr__" = some none)
    (no : PySem.W.findIn K (.ref C) "value" = some none) (ini : PySem.W.findIn K (.ref C) "__init__" = some (some (.ref f))) (ty : PySem.W.typeIn K (.ref f) = some (.type "function"))
    (l : K.lookup f = some ⟨oc, od, .func (PySem.W.fnOf "__init__" q (defArgs st) (defBody st) (defScope st) .none kV dc pm an cd ct), sl⟩) (c : PySem.W.codeIn K cd q = true) (k : PySem.W.keepIn K (.ref f) = true)
    (kc : PySem.W.keepIn K (.ref C) = true) (ex : PySem.W.subIn K (.ref C) (.type "BaseException") = some true) (tc : PySem.W.typeIn K (.ref C) = some (.type "type")) (hd : PySem.W.hasDictIn K C = true) : ErrHere K x q st R C :=
  ⟨f, N, nm, qn, bs, sn, sub, ab, col, dd, m0, m1, m2, m3, m5, g, xl, sa, ga, gg, no, ini, ty, ⟨oc, od, kV, dc, pm, an, cd, ct, sl, l, c, k⟩, kc, ex, tc, hd⟩
theorem IntsHere.of {x : Str} {a : Addr} {us : List Value} {dd : Option Addr} {n : Nat} {sl : Array (Option Value)} (g : PySem.W.nsIn K mainGlobals x = some (some (.ref a))) (l : K.lookup a = some ⟨.type "tuple", dd, .seq us.toArray n, sl⟩) : IntsHere K x a us := ⟨dd, n, sl, g, l⟩
end
end Rw

set_option Elab.async false
set_option linter.all false
set_option maxRecDepth 100000
set_option maxHeartbeats 4000000
/-! TkZ: zip of lists and tuples, in any order. -/
namespace Rw
open PySem PySem.Spec PyProof.Rows L2

/-- a list (true) or a tuple (false) -/
def SqB (K : PySem.W.Frag) (H : Hp) : Bool → Addr → List V → Prop
  | true, a, xs => SqL K H a xs
  | false, a, xs => SqT K H a xs
def itB (h : Heap) : Bool → Addr → Addr → Nat → Prop
  | true, it, l, i => h.IsListIter it l i
  | false, it, l, i => h.IsTupleIter it l i
def sqB (h : Heap) : Bool → Addr → Array Value → Prop
  | true, l, xs => h.IsList l xs
  | false, l, xs => h.IsTuple l xs
def nmB : Bool → String
  | true => "list_iterator"
  | false => "tuple_iterator"
section
variable {X : Cx} {pins : List (Addr × Obj)} {σ : L2.St} {H : Hp} {s : Shared} {h h' : Heap} {k : Bool} {a it : Addr} {i : Nat} {xs ys : List V}
theorem sqB_inv (I : Inv X pins σ H s) (q : SqB X.K H k a xs) : ∃ its : List Value, Vals xs its ∧ sqB s.heap k a its.toArray ∧ a < s.heap.objs.size := by
  cases k with
  | true =>
    obtain ⟨its, r, p, _⟩ := I.list q
    exact ⟨its, r, p.isList, p.lt⟩
  | false =>
    obtain ⟨its, r, p, _⟩ := I.tuple q
    obtain ⟨o, ho, _⟩ := id p
    exact ⟨its, r, p, Heap.lt_size ho⟩
theorem sqB_inj (I : Inv X pins σ H s) (q : SqB X.K H k a xs) (q' : SqB X.K H k a ys) : xs = ys := by
  cases k with
  | true => exact I.list_inj q q'
  | false => exact I.tuple_inj q q'
theorem itB_obj (t : itB h k it a i) : ∃ o, h.get? it = some o ∧ ∀ v, o.data ≠ .cell v := by
  cases k with
  | true =>
    obtain ⟨o, e, _, d⟩ := t
    exact ⟨o, e, fun v q => by rw [d] at q; cases q⟩
  | false =>
    obtain ⟨o, e, _, d⟩ := t
    exact ⟨o, e, fun v q => by rw [d] at q; cases q⟩
theorem itB_at (t : itB h k it a i) (e : ∀ o, h.get? it = some o → h'.get? it = some o) : itB h' k it a i := by
  cases k with
  | true => exact Heap.IsListIter.at t e
  | false => exact Heap.IsTupleIter.at t e
theorem drawsB {prog : Program} {w : World} {A : Around} (hh : A.handled = none) (k : Bool) (it l : Addr) (hne : l ≠ it) (items : Array Value) :
    Draws prog w A it [it, l] items.size (fun i v => items[i]? = some v) (fun i h => itB h k it l i ∧ sqB h k l items) := by
  cases k with
  | true => exact Draws.list hh it l hne items
  | false => exact Draws.tuple hh it l hne items
theorem sepB {z TI TO i1 i2 a b : Addr} (D : ZipApart z TI TO i1 i2 a b) : ZipSep2 z TI TO i1 i2 [i1, a] [i2, b] where
  TIz := D.TIz
  TOz := D.TOz
  TITO := D.TITO
  TIi1 := D.TIi1
  mem1 := List.mem_cons_self
  zf1 := by simp; exact ⟨D.i1z.symm, D.l1z.symm⟩
  Tf1 := by simp; exact ⟨D.TOi1, D.l1TO.symm⟩
  TIi2 := D.TIi2
  mem2 := List.mem_cons_self
  zf2 := by simp; exact ⟨D.i2z.symm, D.l2z.symm⟩
  Tf2 := by simp; exact ⟨D.TOi2, D.l2TO.symm⟩
  sep1_2 := by simp; exact ⟨D.i12, D.l2i1.symm⟩
  sep2_1 := by simp; exact ⟨D.i12.symm, D.l1i2.symm⟩
end

/-- the lists or tuples at a and b as they stand at each turn, the items in new pairs -/
def ItB (K : PySem.W.Frag) (k1 k2 : Bool) (a b : Addr) : It :=
  ⟨fun i H => ∃ (xs ys : List V) (x y : V), SqB K H k1 a xs ∧ SqB K H k2 b ys ∧ xs[i]? = some x ∧ ys[i]? = some y,
    fun i H v H' => ∃ T x y, v = .ref T ∧ H T = none ∧ H' = upd H T (.tup [x, y]) ∧ (∀ xs, SqB K H k1 a xs → xs[i]? = some x) ∧ ∀ ys, SqB K H k2 b ys → ys[i]? = some y,
    fun i H => ∃ xs ys : List V, SqB K H k1 a xs ∧ SqB K H k2 b ys ∧ i ≤ xs.length ∧ i ≤ ys.length ∧ (xs.length = i ∨ ys.length = i)⟩
theorem turn_zipB {P : Program} {w : World} {K : PySem.W.Frag} {k1 k2 : Bool} {elts : List Expr} {kk : Nat} {tpos : Pos} {a b z TI TO i1 i2 : Addr} (D : ZipApart z TI TO i1 i2 a b) :
    Turn P w K (.Tuple elts kk tpos) (ItB K k1 k2 a b) [z, TI, TO, i1, i2] z (fun i h => IsZip h z TI TO .none ∧ IsPair h TI (.ref i1) (.ref i2) ∧ (∃ x y, IsPair h TO x y) ∧ itB h k1 i1 a i ∧ itB h k2 i2 b i) where
  mem := by simp
  obj := fun i h st c hc => by
    obtain ⟨hz, hTI, ⟨x, y, hTO⟩, h1, h2⟩ := st
    have e' : c = z ∨ c = TI ∨ c = TO ∨ c = i1 ∨ c = i2 := by simpa using hc
    rcases e' with q | q | q | q | q
    · rw [q]; exact ⟨_, hz, fun v q => nomatch q⟩
    · rw [q]; exact ⟨_, hTI, fun v q => nomatch q⟩
    · rw [q]; exact ⟨_, hTO, fun v q => nomatch q⟩
    · rw [q]; exact itB_obj h1
    · rw [q]; exact itB_obj h2
  keep := fun i h h' st k => by
    obtain ⟨hz, hTI, ⟨x, y, hTO⟩, h1, h2⟩ := st
    exact ⟨k z (by simp) _ hz, k TI (by simp) _ hTI, ⟨x, y, k TO (by simp) _ hTO⟩, itB_at h1 fun o q => k i1 (by simp) o q, itB_at h2 fun o q => k i2 (by simp) o q⟩
  item := by
    intro X hP hw hK hc i pins s σ H E I hf st hg
    subst hP hw hK
    obtain ⟨hz, hTI, ⟨x0, y0, hTO⟩, h1, h2⟩ := st
    obtain ⟨xs, ys, x, y, hqx, hqy, hx, hy⟩ := hg
    obtain ⟨its, rv, p, _⟩ := sqB_inv I hqx
    obtain ⟨its2, rv2, p2, _⟩ := sqB_inv I hqy
    obtain ⟨u, hu, ru⟩ := rv.get hx
    obtain ⟨u2, hu2, ru2⟩ := rv2.get hy
    have hzl : z < s.heap.objs.size := Heap.lt_size hz
    have hd : X.A.in1.handled = none := I.ok.hd hc
    have g1 : i < its.toArray.size := by
      have := (List.getElem?_eq_some_iff.mp hu).1
      simpa using this
    have g2 : i < its2.toArray.size := by
      have := (List.getElem?_eq_some_iff.mp hu2).1
      simpa using this
    refine wpAny_pyNext_zipD2_item (sepB D) (drawsB hd k1 i1 a D.l1i1 its.toArray) (drawsB hd k2 i2 b D.l2i2 its2.toArray) hz hTI hTO ⟨h1, p⟩ ⟨h2, p2⟩ g1 g2 fun x1 x2 h' tk e1 e2 z' TO' t1 t2 hT hsz hk => ?_
    have hx1 : x1 = u := by
      have q : its[i]? = some x1 := by simpa using e1
      rw [hu] at q
      exact (Option.some.inj q).symm
    have hx2 : x2 = u2 := by
      have q : its2[i]? = some x2 := by simpa using e2
      rw [hu2] at q
      exact (Option.some.inj q).symm
    subst hx1 hx2
    refine ⟨_, rfl, wpAny_letOwnedTupleGo_zip (s := { s with heap := h', toks := tk }) z' fun h'' z'' sb => ?_⟩
    have hT2 : h''.get? s.heap.objs.size = some { cls := .type "tuple", data := .seq #[x1, x2] } := (sb.2 _ (Nat.ne_of_gt hzl)).trans hT
    have new : ObjOk X.prog X.w (upd H s.heap.objs.size (.tup [x, y])) h'' s.heap.objs.size (.tup [x, y]) :=
      ⟨by show 2 ≤ sizeLine; decide, [x1, x2], .cons ru (.cons ru2 .nil), ⟨_, hT2, rfl, _, rfl⟩⟩
    have I1 : Inv X pins σ (upd H s.heap.objs.size (.tup [x, y])) { s with heap := h'', toks := tk } :=
      I.turnedNew (t' := tk) (ch := [z, TI, TO, i1, i2]) (fun c o hb q => (sb.2 c (fun q' => hb (by simp [q']))).trans (hk c o (fun q' => hb (by simp [q'])) (fun q' => hb (by simp [q'])) (fun q' => hb (by simp [q'])) (fun q' => hb (by simp [q'])) q)) hf (Nat.le_refl _) new
    refine ⟨.ref s.heap.objs.size, _, I1, rfl, ⟨_, x, y, rfl, I.hok.fresh (Nat.le_refl _), rfl, fun l hl => by rw [sqB_inj I hl hqx]; exact hx, fun l hl => by rw [sqB_inj I hl hqy]; exact hy⟩, ⟨z'', ?_, ⟨x1, x2, ?_⟩, ?_, ?_⟩, fun c hcm => ?_⟩
    · exact (sb.2 _ D.TIz).trans (hk _ _ D.TIz D.TITO D.TIi1 D.TIi2 hTI)
    · exact (sb.2 _ D.TOz).trans TO'
    · exact itB_at t1.1 fun o q => (sb.2 _ D.i1z).trans q
    · exact itB_at t2.1 fun o q => (sb.2 _ D.i2z).trans q
    · have hlt : c < s.heap.objs.size := by
        have e' : c = z ∨ c = TI ∨ c = TO ∨ c = i1 ∨ c = i2 := by simpa using hcm
        rcases e' with q | q | q | q | q
        · rw [q]; exact hzl
        · rw [q]; exact Heap.lt_size hTI
        · rw [q]; exact Heap.lt_size hTO
        · rw [q]; obtain ⟨_, e1, _⟩ := itB_obj h1; exact Heap.lt_size e1
        · rw [q]; obtain ⟨_, e2, _⟩ := itB_obj h2; exact Heap.lt_size e2
      rw [upd_ne (Nat.ne_of_lt hlt)]
      exact (hf c hcm).1
  done := by
    intro X hP hw hK hc i pins s σ H E I hf st hg
    subst hP hw hK
    obtain ⟨hz, hTI, ⟨x0, y0, hTO⟩, h1, h2⟩ := st
    obtain ⟨xs, ys, hqx, hqy, l1, l2, hend⟩ := hg
    obtain ⟨its, rv, p, _⟩ := sqB_inv I hqx
    obtain ⟨its2, rv2, p2, _⟩ := sqB_inv I hqy
    have m1 := rv.length
    have m2 := rv2.length
    have hd : X.A.in1.handled = none := I.ok.hd hc
    have z1 : its.toArray.size = its.length := by simp
    have z2 : its2.toArray.size = its2.length := by simp
    exact wpAny_pyNext_zipD2_end (sepB D) (drawsB hd k1 i1 a D.l1i1 its.toArray) (drawsB hd k2 i2 b D.l2i2 its2.toArray) hz hTI hTO ⟨h1, p⟩ ⟨h2, p2⟩ (by omega) (by omega) (by omega) fun h' tk hk => ⟨rfl, I.turnedL (t' := tk) (ch := [z, TI, TO, i1, i2]) (fun c o hb q =>
      hk c o (fun q' => hb (by simp [q'])) (fun q' => hb (by simp [q'])) (fun q' => hb (by simp [q'])) (fun q' => hb (by simp [q'])) q) hf⟩
  self := fun A i s Q E st h => wpAny_pyIter_zip st.1 h

abbrev zipBH1 (k1 : Bool) (h : Heap) (l1 : Addr) : Heap := h.push { cls := .type (nmB k1), data := .fields #[.ref l1, .int 0 0] }
abbrev zipBH2 (k1 k2 : Bool) (h : Heap) (l1 l2 : Addr) : Heap := (zipBH1 k1 h l1).push { cls := .type (nmB k2), data := .fields #[.ref l2, .int 0 0] }
abbrev zipBH3 (k1 k2 : Bool) (h : Heap) (l1 l2 : Addr) : Heap := (zipBH2 k1 k2 h l1 l2).push { cls := .type "tuple", data := .seq #[.ref h.objs.size, .ref (zipBH1 k1 h l1).objs.size] }
abbrev zipBH4 (k1 k2 : Bool) (h : Heap) (l1 l2 : Addr) : Heap := (zipBH3 k1 k2 h l1 l2).push { cls := .type "tuple", data := .seq #[.none, .none] }
abbrev zipBH5 (k1 k2 : Bool) (h : Heap) (l1 l2 : Addr) : Heap := (zipBH4 k1 k2 h l1 l2).push { cls := .type "zip", data := .fields #[.none, .bool false, .bool false, .ref (zipBH2 k1 k2 h l1 l2).objs.size, .ref (zipBH3 k1 k2 h l1 l2).objs.size] }
theorem meets_zipB_lt (l1 l2 : Addr) (xs ys : Array Value) :
    Meets (Builtin.«zip.__new__» ⟨[.type "zip", .ref l1, .ref l2], []⟩) (fun _ R s => s.heap.IsList l1 xs ∧ s.heap.IsTuple l2 ys ∧
      R (.ok (.ret (.ref (zipBH4 true false s.heap l1 l2).objs.size))) { s with heap := zipBH5 true false s.heap l1 l2 }) :=
  .of_wp fun prog w A R s h => by
    obtain ⟨hp, g, d, tk, os⟩ := s; obtain ⟨hl1, hl2, h⟩ := h
    have hsub := sub_zip
    have hL1 : Heap.IsList (Shared.heap ⟨hp, g, d, tk, os⟩) l1 xs := hl1
    have hL2 : Heap.IsTuple (Shared.heap ⟨hp.push { cls := .type "list_iterator", data := .fields #[.ref l1, .int 0 0] }, g, d, tk, os⟩) l2 ys := Heap.IsTuple.push hl2 _
    wp_walk using wpAny_pyIter_list hL1, wpAny_pyIter_tuple hL2
    exact ⟨_, rfl, h⟩
theorem meets_zipB_tl (l1 l2 : Addr) (xs ys : Array Value) :
    Meets (Builtin.«zip.__new__» ⟨[.type "zip", .ref l1, .ref l2], []⟩) (fun _ R s => s.heap.IsTuple l1 xs ∧ s.heap.IsList l2 ys ∧
      R (.ok (.ret (.ref (zipBH4 false true s.heap l1 l2).objs.size))) { s with heap := zipBH5 false true s.heap l1 l2 }) :=
  .of_wp fun prog w A R s h => by
    obtain ⟨hp, g, d, tk, os⟩ := s; obtain ⟨hl1, hl2, h⟩ := h
    have hsub := sub_zip
    have hL1 : Heap.IsTuple (Shared.heap ⟨hp, g, d, tk, os⟩) l1 xs := hl1
    have hL2 : Heap.IsList (Shared.heap ⟨hp.push { cls := .type "tuple_iterator", data := .fields #[.ref l1, .int 0 0] }, g, d, tk, os⟩) l2 ys := Heap.IsList.push hl2 _
    wp_walk using wpAny_pyIter_tuple hL1, wpAny_pyIter_list hL2
    exact ⟨_, rfl, h⟩
theorem meets_zipB (k1 k2 : Bool) (l1 l2 : Addr) (xs ys : Array Value) :
    Meets (Builtin.«zip.__new__» ⟨[.type "zip", .ref l1, .ref l2], []⟩) (fun _ R s => sqB s.heap k1 l1 xs ∧ sqB s.heap k2 l2 ys ∧
      R (.ok (.ret (.ref (zipBH4 k1 k2 s.heap l1 l2).objs.size))) { s with heap := zipBH5 k1 k2 s.heap l1 l2 }) := by
  cases k1 <;> cases k2
  · exact RZ.meets_zipT_new l1 l2 xs ys
  · exact meets_zipB_tl l1 l2 xs ys
  · exact meets_zipB_lt l1 l2 xs ys
  · exact meets_zip_new l1 l2 xs ys
theorem itB_new {h : Heap} {k : Bool} {it l : Addr} (e : h.get? it = some { cls := .type (nmB k), data := .fields #[.ref l, .int 0 0] }) : itB h k it l 0 := by
  cases k with
  | true => exact ⟨_, e, rfl, rfl⟩
  | false => exact ⟨_, e, rfl, rfl⟩
section
variable {prog : Program} {w : World} {A : Around} {E : Value → Shared → Prop} {s : Shared}
theorem call_zipB {k1 k2 : Bool} {l1 l2 : Addr} {xs ys : Array Value} {Q : Value → Shared → Prop} (hl1 : sqB s.heap k1 l1 xs) (hl2 : sqB s.heap k2 l2 ys)
    (h : ∀ h', IsZip h' (s.heap.objs.size + 4) (s.heap.objs.size + 2) (s.heap.objs.size + 3) .none → IsPair h' (s.heap.objs.size + 2) (.ref s.heap.objs.size) (.ref (s.heap.objs.size + 1)) →
      IsPair h' (s.heap.objs.size + 3) .none .none → itB h' k1 s.heap.objs.size l1 0 → itB h' k2 (s.heap.objs.size + 1) l2 0 → h'.objs.size = s.heap.objs.size + 5 →
      (∀ c o, s.heap.get? c = some o → h'.get? c = some o) → Q (.ref (s.heap.objs.size + 4)) { s with heap := h' }) :
    wpAny (model prog w) A (call (.type "zip") [.ref l1, .ref l2]) Q E s := by
  refine callType_new F.called_zip (by decide) (F.typeCall_zip_2 _ _) (F.newCall_zip_2 _ _) (fun obj => F.args_object_init_3 obj _ _) F.entry_zip_new
    (meets_zipB k1 k2 l1 l2 xs ys) ⟨hl1, hl2, ?_⟩
  have z1 : (zipBH1 k1 s.heap l1).objs.size = s.heap.objs.size + 1 := Heap.size_push ..
  have z2 : (zipBH2 k1 k2 s.heap l1 l2).objs.size = s.heap.objs.size + 2 := by rw [Heap.size_push, z1]
  have z3 : (zipBH3 k1 k2 s.heap l1 l2).objs.size = s.heap.objs.size + 3 := by rw [Heap.size_push, z2]
  have z4 : (zipBH4 k1 k2 s.heap l1 l2).objs.size = s.heap.objs.size + 4 := by rw [Heap.size_push, z3]
  have z5 : (zipBH5 k1 k2 s.heap l1 l2).objs.size = s.heap.objs.size + 5 := by rw [Heap.size_push, z4]
  have g5 : (zipBH5 k1 k2 s.heap l1 l2).get? (zipBH4 k1 k2 s.heap l1 l2).objs.size = some _ := Heap.get?_push_size _ rfl
  have g4 : (zipBH5 k1 k2 s.heap l1 l2).get? (zipBH3 k1 k2 s.heap l1 l2).objs.size = some _ := Heap.get?_push_of_some _ (Heap.get?_push_size _ rfl)
  have g3 : (zipBH5 k1 k2 s.heap l1 l2).get? (zipBH2 k1 k2 s.heap l1 l2).objs.size = some _ := Heap.get?_push_of_some _ (Heap.get?_push_of_some _ (Heap.get?_push_size _ rfl))
  have g2 : (zipBH5 k1 k2 s.heap l1 l2).get? (zipBH1 k1 s.heap l1).objs.size = some _ := Heap.get?_push_of_some _ (Heap.get?_push_of_some _ (Heap.get?_push_of_some _ (Heap.get?_push_size _ rfl)))
  have g1 : (zipBH5 k1 k2 s.heap l1 l2).get? s.heap.objs.size = some _ := Heap.get?_push_of_some _ (Heap.get?_push_of_some _ (Heap.get?_push_of_some _ (Heap.get?_push_of_some _ (Heap.get?_push_size _ rfl))))
  show _ ∧ _
  rw [z2, z3, z4] at g5
  rw [z1, z2] at g3
  rw [z3] at g4
  rw [z1] at g2
  rw [z4]
  exact ⟨⟨_, g5, rfl⟩, h _ g5 g3 g4 (itB_new g1) (itB_new g2) z5 fun c o x =>
    Heap.get?_push_of_some _ (Heap.get?_push_of_some _ (Heap.get?_push_of_some _ (Heap.get?_push_of_some _ (Heap.get?_push_of_some _ x))))⟩
end
def iZipB (K : PySem.W.Frag) (ta : TA) : TI := fun σ H R => ta σ H fun vs H1 => ∃ a b k1 k2 xs ys, vs = [.ref a, .ref b] ∧ SqB K H1 k1 a xs ∧ SqB K H1 k2 b ys ∧ R (ItB K k1 k2 a b) H1
theorem pi_zipB {X : Cx} {e e2 : Expr} {ta : TA} {p pos tpos : Pos} {elts : List Expr} {kk : Nat} (hg : Gl X "zip") (hm : X.mg "zip" = none) (ha : PA X [e, e2] ta)
    (hs : starEach [e, e2] X.env = (false, eval e X.env) :: starEach [e2] X.env := by rfl) (hpl : (backTo pos (starEach [e2] X.env)).any (·.1) = false := by rfl) :
    PI X (.Tuple elts kk tpos) (.Call (.Name "zip" p) [e, e2] [] pos) (iZipB X.K ta) := by
  refine ⟨fun pins s σ H R I h => ?_⟩
  refine Call_ (ld_blt I hg hm PyProof.Rows.boot_zip (PyProof.Rows.callWith_type1 (thn (ha.run pos pins s σ H _ I h) fun us s1 ⟨vs, H1, I1, r1, q1⟩ => ?_) hs hpl))
  obtain ⟨a, b, k1, k2, xs, ys, ex, hqx, hqy, q⟩ := q1
  subst ex
  cases r1 with
  | cons r rr =>
    cases rr with
    | cons r' rr =>
      cases rr
      cases r
      cases r'
      obtain ⟨its, rv, p1, la⟩ := sqB_inv I1 hqx
      obtain ⟨its2, rv2, p2, lb⟩ := sqB_inv I1 hqy
      refine call_zipB p1 p2 fun h' hz hTI hTO h1 h2 hsz hk => wpAny_pyIter_zip hz ?_
      have I2 : Inv X pins σ H1 { s1 with heap := h' } := I1.kept (t' := s1.toks) hk
      refine ⟨s1.heap.objs.size + 4, [s1.heap.objs.size + 4, s1.heap.objs.size + 2, s1.heap.objs.size + 3, s1.heap.objs.size, s1.heap.objs.size + 1], _, _, H1, rfl, I2, turn_zipB (PySem.W.ktu_apart s1.heap.objs.size a b la lb), ⟨hz, hTI, ⟨_, _, hTO⟩, h1, h2⟩, fun c hcm => ?_, q⟩
      have e' : c = s1.heap.objs.size + 4 ∨ c = s1.heap.objs.size + 2 ∨ c = s1.heap.objs.size + 3 ∨ c = s1.heap.objs.size ∨ c = s1.heap.objs.size + 1 := by simpa using hcm
      have hle : s1.heap.objs.size ≤ c := by
        rcases e' with z | z | z | z | z
        · rw [z]; exact Nat.le_add_right _ _
        · rw [z]; exact Nat.le_add_right _ _
        · rw [z]; exact Nat.le_add_right _ _
        · rw [z]; exact Nat.le_refl _
        · rw [z]; exact Nat.le_add_right _ _
      exact I1.fpOk hle (I1.hok.fresh hle)
end Rw

set_option Elab.async false
set_option linter.all false
set_option maxRecDepth 100000
set_option maxHeartbeats 4000000
/-! TkQ: enumerate of a list or a tuple. -/
namespace Rw
open PySem PySem.Spec PyProof.Rows L2

set_option maxHeartbeats 1000000 in
theorem meets_enum_new1 {v : Value} {o : Obj} {H : Heap → Prop} (B : Begins v o H) :
    Meets (Builtin.«enumerate.__new__» ⟨[.type "enumerate", v], []⟩) (fun _ R s => H s.heap ∧
      R (.ok (.ret (.ref (s.heap.push o).objs.size))) { s with heap := (s.heap.push o).push { cls := .type "enumerate", data := .fields #[.none, .bool false, .ref s.heap.objs.size, rawInt 0, .none, .none] } }) :=
  .of_wp fun prog w A R s h => by
    obtain ⟨hp, g, d, tk, os⟩ := s; obtain ⟨h1, h⟩ := h
    have hsub := sub_enumerate
    have q1 : ∀ {A' : Around} {E : Value → Shared → Prop} {Q : Value → Shared → Prop}, Q (.ref hp.objs.size) ⟨hp.push o, g, d, tk, os⟩ → wpAny (model prog w) A' (pyIter v) Q E ⟨hp, g, d, tk, os⟩ :=
      fun q => B.iter prog w _ _ ⟨hp, g, d, tk, os⟩ _ h1 q
    wp_walk using q1
    refine wpAny_stack_any fun st => wpAny_pure ?_
    split
    · rename_i c _ _ _ _ _
      cases (c == Value.type "enumerate")
      · wp_walk using q1
        exact ⟨_, rfl, h⟩
      · wp_walk using q1
        exact ⟨_, rfl, h⟩
    · wp_walk using q1
      exact ⟨_, rfl, h⟩
section
variable {prog : Program} {w : World} {A : Around} {E : Value → Shared → Prop} {s : Shared}
theorem call_enum1 {v : Value} {o : Obj} {H : Heap → Prop} {Q : Value → Shared → Prop} (B : Begins v o H) (h1 : H s.heap)
    (h : ∀ h', IsEnum h' (s.heap.objs.size + 1) s.heap.objs.size 0 .none → h'.get? s.heap.objs.size = some o → h'.objs.size = s.heap.objs.size + 2 →
      (∀ b o, s.heap.get? b = some o → h'.get? b = some o) → Q (.ref (s.heap.objs.size + 1)) { s with heap := h' }) :
    wpAny (model prog w) A (call (.type "enumerate") [v]) Q E s := by
  refine callType_new F.called_enumerate (by decide) (F.typeCall_enumerate_1 _) (F.newCall_enumerate_1 _) (fun obj => F.args_object_init_2 obj _) F.entry_enumerate_new
    (meets_enum_new1 B) ⟨h1, ?_⟩
  have hz : (s.heap.push o).objs.size = s.heap.objs.size + 1 := Heap.size_push ..
  show _ ∧ _
  rw [hz]
  have he : IsEnum ((s.heap.push o).push { cls := .type "enumerate", data := .fields #[.none, .bool false, .ref s.heap.objs.size, rawInt 0, .none, .none] }) (s.heap.objs.size + 1) s.heap.objs.size 0 .none := by
    have := Heap.get?_push_size (s.heap.push o) (o := { cls := .type "enumerate", data := .fields #[.none, .bool false, .ref s.heap.objs.size, rawInt 0, .none, .none] }) rfl
    rw [hz] at this; exact this
  refine ⟨⟨_, he, rfl⟩, h _ he (Heap.get?_push_of_some _ (Heap.get?_push_size _ B.free)) (by rw [Heap.size_push, hz]) fun b o x => Heap.get?_push_of_some _ (Heap.get?_push_of_some _ x)⟩
end
def itObjB (k : Bool) (a : Addr) : Obj := { cls := .type (nmB k), data := .fields #[.ref a, .int 0 0] }
theorem begins_B (k : Bool) (a : Addr) (items : Array Value) : Begins (.ref a) (itObjB k a) fun h => sqB h k a items := by
  cases k with
  | true => exact begins_list a items
  | false => exact begins_tuple a items

/-- the list or tuple at a as it stands at each turn, each item in a new pair -/
def ItEB (K : PySem.W.Frag) (k : Bool) (a : Addr) : It :=
  ⟨fun i H => ∃ (xs : List V) (x : V), SqB K H k a xs ∧ xs[i]? = some x, fun i H v H' => ∃ T x, v = .ref T ∧ H T = none ∧ H' = upd H T (.tup [.int (i : Nat), x]) ∧ ∀ xs, SqB K H k a xs → xs[i]? = some x, fun i H => ∃ xs : List V, SqB K H k a xs ∧ xs.length = i⟩
theorem turn_enumB {P : Program} {w : World} {K : PySem.W.Frag} {k : Bool} {elts : List Expr} {kk : Nat} {tpos : Pos} (a e it : Addr) :
    Turn P w K (.Tuple elts kk tpos) (ItEB K k a) [e, it] e (fun i h => (∃ old, IsEnum h e it ((i : Nat) : Int) old) ∧ itB h k it a i ∧ e ≠ it ∧ a ≠ it ∧ e ≠ a) where
  mem := by simp
  obj := fun i h st b hb => by
    obtain ⟨⟨old, he⟩, hi, _⟩ := st
    have e' : b = e ∨ b = it := by simpa using hb
    rcases e' with z | z
    · rw [z]; exact ⟨_, he, fun v q => nomatch q⟩
    · rw [z]; exact itB_obj hi
  keep := fun i h h' st k => let ⟨⟨old, he⟩, hi, hne⟩ := st; ⟨⟨old, k e (by simp) _ he⟩, itB_at hi fun o q => k it (by simp) o q, hne⟩
  item := by
    intro X hP hw hK hc i pins s σ H E I hf st hg
    subst hP hw hK
    obtain ⟨⟨old, he⟩, hit, hne, hna, hea⟩ := st
    obtain ⟨xs, x, hq, hx⟩ := hg
    obtain ⟨its, rv, p, _⟩ := sqB_inv I hq
    obtain ⟨u, hu, ru⟩ := rv.get hx
    have hel : e < s.heap.objs.size := Heap.lt_size he
    have hil : it < s.heap.objs.size := by obtain ⟨_, q, _⟩ := itB_obj hit; exact Heap.lt_size q
    have hd : X.A.in1.handled = none := I.ok.hd hc
    have g1 : i < its.toArray.size := by
      have := (List.getElem?_eq_some_iff.mp hu).1
      simpa using this
    have hef : e ∉ [it, a] := by simp; exact ⟨hne, hea⟩
    refine wpAny_pyNext_enum_itemD (drawsB hd k it a hna its.toArray) he ⟨hit, p⟩ g1 hne hef fun x1 h' tk e1 ho hs' hT hsz hk => ?_
    have hx1 : x1 = u := by
      have q : its[i]? = some x1 := by simpa using e1
      rw [hu] at q
      exact (Option.some.inj q).symm
    subst hx1
    refine ⟨_, rfl, wpAny_letOwnedTupleGo_enum (s := { s with heap := h', toks := tk + 1 }) ho fun h'' he' sb => ?_⟩
    have hT2 : h''.get? s.heap.objs.size = some { cls := .type "tuple", data := .seq #[.int i tk, x1] } := (sb.2 _ (Nat.ne_of_gt hel)).trans hT
    have new : ObjOk X.prog X.w (upd H s.heap.objs.size (.tup [.int (i : Nat), x])) h'' s.heap.objs.size (.tup [.int (i : Nat), x]) :=
      ⟨by show 2 ≤ sizeLine; decide, [.int i tk, x1], .cons ⟨_, rfl⟩ (.cons ru .nil), ⟨_, hT2, rfl, _, rfl⟩⟩
    have I1 : Inv X pins σ (upd H s.heap.objs.size (.tup [.int (i : Nat), x])) { s with heap := h'', toks := tk + 1 } :=
      I.turnedNew (t' := tk + 1) (ch := [e, it]) (fun b ob hb q => (sb.2 b (fun z => hb (by simp [z]))).trans (hk b ob (fun z => hb (by simp [z])) (fun z => hb (by simp [z])) q)) hf (Nat.le_refl _) new
    refine ⟨.ref s.heap.objs.size, _, I1, rfl, ⟨_, x, rfl, I.hok.fresh (Nat.le_refl _), rfl, fun ys hy => by rw [sqB_inj I hy hq]; exact hx⟩, ⟨⟨x1, ?_⟩, itB_at hs'.1 fun o q => (sb.2 it (Ne.symm hne)).trans q, hne, hna, hea⟩, fun b hb => ?_⟩
    · have e1 : ((i + 1 : Nat) : Int) = (i : Int) + 1 := by omega
      rw [e1]; exact he'
    · have hb' : b < s.heap.objs.size := by
        have e' : b = e ∨ b = it := by simpa using hb
        rcases e' with z | z
        · rw [z]; exact hel
        · rw [z]; exact hil
      rw [upd_ne (Nat.ne_of_lt hb')]
      exact (hf b hb).1
  done := by
    intro X hP hw hK hc i pins s σ H E I hf st hg
    subst hP hw hK
    obtain ⟨⟨old, he⟩, hit, hne, hna, hea⟩ := st
    obtain ⟨xs, hq, hx⟩ := hg
    obtain ⟨its, rv, p, _⟩ := sqB_inv I hq
    obtain ⟨f0, f1, f2, f3, f4, f5⟩ := hf it (by simp)
    have hl := rv.length
    have hd : X.A.in1.handled = none := I.ok.hd hc
    have z1 : its.toArray.size = its.length := by simp
    have e1 : its.toArray.size = i := by omega
    refine wpAny_pyNext_enum_endD (drawsB hd k it a hna its.toArray) he (by rw [e1]; exact ⟨hit, p⟩) fun h' eb => ⟨rfl, I.turned (t' := s.toks) (fun b o hb q => eb b o hb q) f0 f1 f3 f4 f5⟩
  self := fun A i s Q E st h => let ⟨⟨_, he⟩, _⟩ := st; wpAny_pyIter_enum he h
def iEnumB (K : PySem.W.Frag) (ta : TA) : TI := fun σ H R => ta σ H fun vs H1 => ∃ a k xs, vs = [.ref a] ∧ SqB K H1 k a xs ∧ R (ItEB K k a) H1
theorem pi_enumB {X : Cx} {e : Expr} {ta : TA} {p pos tpos : Pos} {elts : List Expr} {kk : Nat} (hg : Gl X "enumerate") (hm : X.mg "enumerate" = none) (ha : PA X [e] ta) (hs : starEach [e] X.env = [(false, eval e X.env)] := by rfl) :
    PI X (.Tuple elts kk tpos) (.Call (.Name "enumerate" p) [e] [] pos) (iEnumB X.K ta) := by
  refine ⟨fun pins s σ H R I h => ?_⟩
  refine Call_ (ld_blt I hg hm boot_enumerate (PyProof.Rows.callWith_type1 (thn (ha.run pos pins s σ H _ I h) fun us s1 ⟨vs, H1, I1, r1, q1⟩ => ?_) hs rfl))
  obtain ⟨a, k, xs, ex, hq, q⟩ := q1
  subst ex
  cases r1 with
  | cons r rr =>
    cases rr
    cases r
    obtain ⟨its, rv, p', la⟩ := sqB_inv I1 hq
    refine call_enum1 (begins_B k a its.toArray) p' fun h' he hit hsz hk => wpAny_pyIter_enum he ?_
    have I2 : Inv X pins σ H1 { s1 with heap := h' } := I1.kept (t' := s1.toks) hk
    refine ⟨s1.heap.objs.size + 1, [s1.heap.objs.size + 1, s1.heap.objs.size], _, _, H1, rfl, I2, turn_enumB a (s1.heap.objs.size + 1) s1.heap.objs.size, ⟨⟨.none, he⟩, itB_new hit, Nat.succ_ne_self _, Nat.ne_of_lt la, fun z => Nat.lt_irrefl a (Nat.lt_of_lt_of_le la (Nat.le_trans (Nat.le_succ _) (Nat.le_of_eq z)))⟩, fun b hb => ?_, q⟩
    have e' : b = s1.heap.objs.size + 1 ∨ b = s1.heap.objs.size := by simpa using hb
    have hle : s1.heap.objs.size ≤ b := by
      rcases e' with z | z
      · rw [z]; exact Nat.le_add_right _ _
      · rw [z]; exact Nat.le_refl _
    exact I1.fpOk hle (I1.hok.fresh hle)
theorem walk_enumB {K : PySem.W.Frag} {k : Bool} {a : Addr} {xs : List V} : Walk (ItEB K k a) xs.length (fun H => SqB K H k a xs) (YPair (fun i => some (.int (i : Nat))) (fun i => xs[i]?)) := by
  refine ⟨fun i _ hi q => ⟨xs, xs[i], q, by simp [hi]⟩, fun _ q => ⟨xs, q, rfl⟩, fun i H v H' _ q y => ?_⟩
  obtain ⟨T, x, h1, h2, h3, h4⟩ := y
  exact ⟨T, .int (i : Nat), x, h1, h2, h3, rfl, h4 xs q⟩
end Rw

set_option Elab.async false
set_option linter.all false
set_option maxRecDepth 100000
set_option maxHeartbeats 4000000
/-! TkEB: enumerate of a text. -/
namespace Rw
open PySem PySem.Spec PyProof.Rows L2
/-- the signs of a text, each in a new pair with its number -/
def ItES (x : Str) : It :=
  ⟨fun i _ => i < x.cps.size, fun i H v H' => ∃ T c, v = .ref T ∧ H T = none ∧ H' = upd H T (.tup [.int (i : Nat), .str ⟨#[c]⟩]) ∧ x.cps[i]? = some c, fun i _ => x.cps.size ≤ i⟩
theorem turn_enumS {P : Program} {w : World} {K : PySem.W.Frag} {elts : List Expr} {kk : Nat} {tpos : Pos} (x : Str) (t : Tok) (e it : Addr) :
    Turn P w K (.Tuple elts kk tpos) (ItES x) [e, it] e (fun i h => i ≤ x.cps.size ∧ (∃ old, IsEnum h e it ((i : Nat) : Int) old) ∧ h.IsStrIter it (strIterType x) x t i ∧ e ≠ it) where
  mem := by simp
  obj := fun i h st b hb => by
    obtain ⟨_, ⟨old, he⟩, ⟨o, e1, c, d⟩, _⟩ := st
    have e' : b = e ∨ b = it := by simpa using hb
    rcases e' with z | z
    · rw [z]; exact ⟨_, he, fun v q => nomatch q⟩
    · rw [z]; exact ⟨o, e1, fun v z => by rw [d] at z; cases z⟩
  keep := fun i h h' st k => let ⟨l, ⟨old, he⟩, ⟨o, ho, r⟩, hne⟩ := st; ⟨l, ⟨old, k e (by simp) _ he⟩, ⟨o, k it (by simp) o ho, r⟩, hne⟩
  item := by
    intro X hP hw hK hc i pins s σ H E I hf st hg
    subst hP hw hK
    obtain ⟨_, ⟨old, he⟩, hit, hne⟩ := st
    have hel : e < s.heap.objs.size := Heap.lt_size he
    have hil : it < s.heap.objs.size := by obtain ⟨_, q, _⟩ := hit; exact Heap.lt_size q
    have hd : X.A.in1.handled = none := I.ok.hd hc
    have hef : e ∉ [it] := by simp; exact hne
    refine wpAny_pyNext_enum_itemD (Draws.text hd it x t) he hit hg hne hef fun x1 h' tk e1 ho hs' hT hsz hk => ?_
    obtain ⟨c, u, hcx, rfl⟩ := e1
    refine ⟨_, rfl, wpAny_letOwnedTupleGo_enum (s := { s with heap := h', toks := tk + 1 }) ho fun h'' he' sb => ?_⟩
    have hT2 : h''.get? s.heap.objs.size = some { cls := .type "tuple", data := .seq #[.int i tk, .str ⟨#[c]⟩ u] } := (sb.2 _ (Nat.ne_of_gt hel)).trans hT
    have new : ObjOk X.prog X.w (upd H s.heap.objs.size (.tup [.int (i : Nat), .str ⟨#[c]⟩])) h'' s.heap.objs.size (.tup [.int (i : Nat), .str ⟨#[c]⟩]) :=
      ⟨by show 2 ≤ sizeLine; decide, [.int i tk, .str ⟨#[c]⟩ u], .cons ⟨_, rfl⟩ (.cons ⟨_, rfl⟩ .nil), ⟨_, hT2, rfl, _, rfl⟩⟩
    have I1 : Inv X pins σ (upd H s.heap.objs.size (.tup [.int (i : Nat), .str ⟨#[c]⟩])) { s with heap := h'', toks := tk + 1 } :=
      I.turnedNew (t' := tk + 1) (ch := [e, it]) (fun b ob hb q => (sb.2 b (fun z => hb (by simp [z]))).trans (hk b ob (fun z => hb (by simp [z])) (fun z => hb (by simp [z])) q)) hf (Nat.le_refl _) new
    obtain ⟨oo, eo, co, dd⟩ := hs'
    have he2 : IsEnum h'' e it ((i + 1 : Nat) : Int) (.str ⟨#[c]⟩ u) := by
      have e1 : ((i + 1 : Nat) : Int) = (i : Int) + 1 := by omega
      rw [e1]; exact he'
    refine ⟨.ref s.heap.objs.size, _, I1, rfl, ⟨_, c, rfl, I.hok.fresh (Nat.le_refl _), rfl, hcx⟩, ⟨Nat.succ_le_of_lt hg, ⟨.str ⟨#[c]⟩ u, he2⟩, ⟨oo, (sb.2 it (Ne.symm hne)).trans eo, co, dd⟩, hne⟩, fun b hb => ?_⟩
    · have hb' : b < s.heap.objs.size := by
        have e' : b = e ∨ b = it := by simpa using hb
        rcases e' with z | z
        · rw [z]; exact hel
        · rw [z]; exact hil
      rw [upd_ne (Nat.ne_of_lt hb')]
      exact (hf b hb).1
  done := by
    intro X hP hw hK hc i pins s σ H E I hf st hg
    subst hP hw hK
    obtain ⟨hl, ⟨old, he⟩, hit, hne⟩ := st
    obtain ⟨f0, f1, f2, f3, f4, f5⟩ := hf it (by simp)
    have hd : X.A.in1.handled = none := I.ok.hd hc
    have ei : i = x.cps.size := Nat.le_antisymm hl hg
    subst ei
    refine wpAny_pyNext_enum_endD (Draws.text hd it x t) he hit fun h' eb => ⟨rfl, I.turned (t' := s.toks) (fun b o hb q => eb b o hb q) f0 f1 f3 f4 f5⟩
  self := fun A i s Q E st h => let ⟨_, ⟨_, he⟩, _⟩ := st; wpAny_pyIter_enum he h
def iEnumS (ta : TA) : TI := fun σ H R => ta σ H fun vs H1 => ∃ x, vs = [.str x] ∧ R (ItES x) H1
theorem pi_enumS {X : Cx} {e : Expr} {ta : TA} {p pos tpos : Pos} {elts : List Expr} {kk : Nat} (hg : Gl X "enumerate") (hm : X.mg "enumerate" = none) (ha : PA X [e] ta) (hs : starEach [e] X.env = [(false, eval e X.env)] := by rfl) :
    PI X (.Tuple elts kk tpos) (.Call (.Name "enumerate" p) [e] [] pos) (iEnumS ta) := by
  refine ⟨fun pins s σ H R I h => ?_⟩
  refine Call_ (ld_blt I hg hm boot_enumerate (PyProof.Rows.callWith_type1 (thn (ha.run pos pins s σ H _ I h) fun us s1 ⟨vs, H1, I1, r1, q1⟩ => ?_) hs rfl))
  obtain ⟨x, ex, q⟩ := q1
  subst ex
  obtain ⟨u, rfl, t, rfl⟩ := vals1 r1
  refine call_enum1 (begins_text x t) trivial fun h' he hit hsz hk => wpAny_pyIter_enum he ?_
  have I2 : Inv X pins σ H1 { s1 with heap := h' } := I1.kept (t' := s1.toks) hk
  refine ⟨s1.heap.objs.size + 1, [s1.heap.objs.size + 1, s1.heap.objs.size], _, _, H1, rfl, I2, turn_enumS x t (s1.heap.objs.size + 1) s1.heap.objs.size, ⟨Nat.zero_le _, ⟨.none, he⟩, ⟨_, hit, rfl, rfl⟩, Nat.succ_ne_self _⟩, fun b hb => ?_, q⟩
  have e' : b = s1.heap.objs.size + 1 ∨ b = s1.heap.objs.size := by simpa using hb
  have hle : s1.heap.objs.size ≤ b := by
    rcases e' with z | z
    · rw [z]; exact Nat.le_add_right _ _
    · rw [z]; exact Nat.le_refl _
  exact I1.fpOk hle (I1.hok.fresh hle)
theorem walk_enumS {x : Str} : Walk (ItES x) x.cps.size (fun _ => True) (YPair (fun i => some (.int (i : Nat))) (fun i => (x.cps[i]?).map fun c => .str ⟨#[c]⟩)) := by
  refine ⟨fun i _ hi _ => hi, fun _ _ => Nat.le_refl _, fun i H v H' _ _ y => ?_⟩
  obtain ⟨T, c, h1, h2, h3, h4⟩ := y
  exact ⟨T, .int (i : Nat), .str ⟨#[c]⟩, h1, h2, h3, rfl, by show (x.cps[i]?).map _ = _; rw [h4] <;> rfl⟩
end Rw

set_option Elab.async false
set_option linter.all false
set_option maxRecDepth 100000
set_option maxHeartbeats 4000000
/-! TkEC: replacing signs by signs in a text: a token must be out. -/
namespace Rw
open PySem PySem.Spec PyProof.Rows L2
/-- behind it a token is out -/
def PEK (X : Cx) (e : Expr) (t : TE) : Prop :=
  ∀ (pins : List (Addr × Obj)) (s : Shared) (σ : L2.St) (H : Hp) (Q : VK), Inv X pins σ H s → t σ H Q → wpAny (model X.prog X.w) X.A (eval e X.env) (fun u s1 => 1 ≤ s1.toks ∧ EP X pins σ Q u s1) X.xe s
section
variable {X : Cx} {e : Expr} {te : TE} {rest : List Stmt} {u : TS}
theorem pek_len {p pos : Pos} {ta : TA} (hg : Gl X "len") (hm : X.mg "len" = none) (ha : PA X [e] ta) (he : starEach [e] X.env = [(false, eval e X.env)] := by rfl) (hpl : (backTo pos (starEach [] X.env)).any (·.1) = false := by rfl) :
    PEK X (.Call (.Name "len" p) [e] [] pos) (tCB (fun xs H Q => ∃ z, xs = [.str z] ∧ z.length ≤ sizeLine ∧ Q (.int z.length) H) ta) := by
  intro pins s σ H Q I h
  refine wpAny_Call_Name_kw (ld_blt I hg hm boot_len ?_ (by decide) (by decide))
  refine PyProof.Rows.callWith_builtin1 (thn (ha.run pos pins s σ H _ I h) fun us s1 ⟨vs, H1, I1, r1, z, ez, hz, q1⟩ => ?_) he hpl
  subst ez
  obtain ⟨u, rfl, t, rfl⟩ := vals1 r1
  have hn := line63
  exact len_str (by omega) ⟨Nat.le_add_left _ _, .int z.length, H1, I1.tok _, ⟨_, rfl⟩, q1⟩
theorem pss_setK {i : Nat} {x : Str} {pos' pos : Pos} (hN : X.N.Nodup) (hi : X.N[i]? = some x) (hx : Loc X.env.scope x) (he : PEK X e te) (h2 : PSsT X rest u)
    (hs : swapsWith e (some (.Name x pos')) pos.line X.env = pure false := by rfl) (hf : X.fn x = true ∨ X.env.scope.names.lookup x = some .local := by first | exact .inl rfl | exact .inr rfl | assumption) :
    PSs X (.Assign [.Name x pos'] e pos :: rest) (tSeq (tAsg te (gName i)) u) := by
  refine ⟨fun pins s σ H D I h => ?_⟩
  refine wpAny_execs_cons (wpAny_Assign_Name (wpAny_mono (he pins s σ H _ I h) (fun v s1 q => ?_) fun _ _ z => z) hs)
  obtain ⟨hk, y, H1, I1, r1, q1⟩ := q
  refine wpAny_mono (PySem.wpAny_toks (store_ok (Q := fun _ s2 => Inv X pins (σ.set i (some y)) H1 s2) I1 hN hi hx r1 (fun _ I2 => I2) hf)) (fun _ s2 q => ?_) fun _ _ z => z.2
  exact h2 pins s2 _ H1 D (Nat.le_trans hk q.1) q.2 q1
theorem pst_set {i : Nat} {x : Str} {pos' pos : Pos} (hN : X.N.Nodup) (hi : X.N[i]? = some x) (hx : Loc X.env.scope x) (he : PET X e te)
    (hs : swapsWith e (some (.Name x pos')) pos.line X.env = pure false := by rfl) (hf : X.fn x = true ∨ X.env.scope.names.lookup x = some .local := by first | exact .inl rfl | exact .inr rfl | assumption) :
    PST X (.Assign [.Name x pos'] e pos) (tAsg te (gName i)) := by
  intro pins s σ H D h0 I h
  refine wpAny_Assign_Name (wpAny_mono (he pins s σ H _ h0 I h) (fun v s1 q => ?_) fun _ _ z => z) hs
  obtain ⟨y, H1, I1, r1, q1⟩ := q
  exact store_ok I1 hN hi hx r1 (fun s2 I2 => ⟨_, H1, I2, q1⟩) hf
theorem pet_of (he : PE X e te) : PET X e te := fun pins s σ H Q _ I h => he.run pins s σ H Q I h
def tReplL (y z : Str) (te : TE) : TE := fun σ H Q => te σ H fun v H1 => ∃ x : Str, v = .str x ∧ x.length + (x.length + 1) * z.length ≤ 16777216 ∧ Q (.str (Txt.replace x y z)) H1
theorem pet_repl {y z : Str} {j0 j1 : Nat} {c0 c1 apos pos : Pos} (he : PET X e te) (hyz : (y == z) = false := by decide)
    (hst : starEach [.Constant (.str y) j0 c0, .Constant (.str z) j1 c1] X.env = [(false, eval (.Constant (.str y) j0 c0) X.env), (false, eval (.Constant (.str z) j1 c1) X.env)] := by rfl)
    (hbase : attributeBase e "replace" X.env (eval e X.env) = eval e X.env := by rfl) (hline : (apos.endLine == pos.line) = true := by rfl) :
    PET X (.Call (.Attribute e "replace" apos) [.Constant (.str y) j0 c0, .Constant (.str z) j1 c1] [] pos) (tReplL y z te) := by
  intro pins s σ H Q h0 I h
  refine PySem.Call_method2 hbase hst hline (wpAny_mono (PySem.wpAny_toks (he pins s σ H _ h0 I h)) (fun v s1 q => ?_) fun _ _ z => z.2)
  obtain ⟨hk, w, H1, I1, r1, x, rfl, hb, q1⟩ := q
  obtain ⟨tx, rfl⟩ := r1
  have h1 : 1 ≤ s1.toks := Nat.le_trans h0 hk
  refine ⟨"str", _, F.plainAttrs_str, F.slot_str_replace, F.type_str_replace, typeIs_str _ _ _, (fun _ e => nomatch e), Calls.callWith_builtin rfl (Calls.evalArgs_plain (Calls.spliced_cons ?_))⟩
  refine Calls.Constant_str (Calls.spliced_cons (Calls.Constant_str (Calls.spliced_nil ?_)))
  exact PySem.SC.replace (Nat.pos_iff_ne_zero.mp h1) (Nat.succ_ne_zero _) (Nat.ne_of_lt (Nat.lt_succ_self _)) hyz hb fun t' k => ⟨.str (Txt.replace x y z), H1, I1.tok k, ⟨t', rfl⟩, q1⟩
end
theorem repl_map (c d : Nat) : ∀ l : List Nat, StrLaws.replL [c] [d] l = l.map fun a => if a = c then d else a
  | [] => StrLaws.replL_nil
  | a :: r => by
    have ih := repl_map c d r
    unfold StrLaws.replL at ih ⊢
    rw [StrLaws.replS, List.map_cons]
    by_cases h : a = c
    · subst h
      rw [if_pos (by rfl), if_pos rfl]
      show [d] ++ StrLaws.replS [a] [d] 0 r = _
      rw [ih] <;> rfl
    · rw [if_neg (fun z => h (by simpa using z)), if_neg h, ih]
theorem repl_sign {x y z : Str} {c d : Nat} (hy : y.cps.toList = [c]) (hz : z.cps.toList = [d]) : (Txt.replace x y z).cps.toList = x.cps.toList.map fun a => if a = c then d else a := by
  have hl : 1 ≤ y.length := by
    have : y.cps.toList.length = 1 := by rw [hy] <;> rfl
    rw [Array.length_toList] at this
    exact Nat.le_of_eq this.symm
  rw [StrLaws.replace_list hl, hy, hz, repl_map]
end Rw

set_option Elab.async false
set_option linter.all false
set_option maxRecDepth 100000
set_option maxHeartbeats 4000000
/-! TkL: lists and tuples as data, comprehensions that make data of data. -/
namespace Rw
open PySem PySem.Spec PyProof.Rows L2

/-! ### lists and tuples as data -/
def isSeqD : PyData → Bool
  | .list _ => true | .tuple _ => true | _ => false
def itemsD : PyData → List PyData
  | .list ds => ds | .tuple ds => ds | _ => []
def isVecD (n : Int) (d : PyData) : Bool := isSeqD d && (decide (((itemsD d).length : Int) = n) && (itemsD d).all isIntD)
def isMatD (h w : Int) (d : PyData) : Bool := isSeqD d && (decide (((itemsD d).length : Int) = h) && (itemsD d).all (isVecD w))
/-- not too long, the ints not too great -/
structure Fit1 (d : PyData) : Prop where
  len : (itemsD d).length ≤ 1000
  sm : ∀ n, PyData.int n ∈ itemsD d → n.natAbs.log2 < 400
structure Fit (d : PyData) : Prop where
  top : Fit1 d
  sub : ∀ e, e ∈ itemsD d → Fit1 e
section
variable {K : PySem.W.Frag} {H H' : Hp} {v : V} {d : PyData} {xs : List V} {ds : List PyData}
theorem kit_seq (d : PyData) : PySem.W.kitAny K (.type (kindS d)) [.type "list", .type "tuple"] = some (isSeqD d) := by
  have z : PySem.W.kitAny K (.type (kindS d)) [] = some false := rfl
  have l0 : ∀ a, kitB a "list" = some false → kitB a "tuple" = some false → PySem.W.kitAny K (.type a) [.type "list", .type "tuple"] = some false := fun a p q =>
    kitAny_cons (b := false) (kit_ty p) (fun _ => kitAny_cons (b := false) (kit_ty q) (fun _ => z) (fun e => by cases e)) (fun e => by cases e)
  cases d with
  | none => exact l0 "NoneType" (by decide +kernel) (by decide +kernel)
  | bool b => exact l0 "bool" (by decide +kernel) (by decide +kernel)
  | int b => exact l0 "int" (by decide +kernel) (by decide +kernel)
  | str b => exact l0 "str" (by decide +kernel) (by decide +kernel)
  | dict b => exact l0 "dict" (by decide +kernel) (by decide +kernel)
  | list b => exact kitAny_cons (b := true) (kit_ty (show kitB "list" "list" = some true by decide +kernel)) (fun e => by cases e) (fun _ => rfl)
  | tuple b => exact kitAny_cons (b := false) (kit_ty (show kitB "tuple" "list" = some false by decide +kernel)) (fun _ => kitAny_cons (b := true) (kit_ty (show kitB "tuple" "tuple" = some true by decide +kernel)) (fun e => by cases e) (fun _ => rfl)) (fun e => by cases e)
theorem anyL_len : ∀ {xs : List V} {ds : List PyData}, AnyL H xs ds → xs.length = ds.length
  | _, _, .nil => rfl
  | _, _, .cons _ b => congrArg (· + 1) (anyL_len b)
theorem anyL_at : ∀ {xs : List V} {ds : List PyData} {i : Nat} {x : V}, AnyL H xs ds → xs[i]? = some x → ∃ d, ds[i]? = some d ∧ Any H x d
  | _, _, i, x, .nil, h => by simp at h
  | _, _, 0, x, .cons a _, h => by
    cases h
    exact ⟨_, rfl, a⟩
  | _, _, i + 1, x, .cons _ b, h => by
    obtain ⟨d, h1, h2⟩ := anyL_at (i := i) b (by simpa using h)
    exact ⟨d, by simpa using h1, h2⟩
theorem anyL_of : ∀ {xs : List V} {ds : List PyData} {i : Nat} {d : PyData}, AnyL H xs ds → ds[i]? = some d → ∃ x, xs[i]? = some x ∧ Any H x d
  | _, _, i, x, .nil, h => by simp at h
  | _, _, 0, x, .cons a _, h => by
    cases h
    exact ⟨_, rfl, a⟩
  | _, _, i + 1, x, .cons _ b, h => by
    obtain ⟨d, h1, h2⟩ := anyL_of (i := i) b (by simpa using h)
    exact ⟨d, by simpa using h1, h2⟩
theorem anyL_keep (k : Same H H') (h : AnyL H xs ds) : AnyL H' xs ds := any_keepL k ds xs h
theorem anyL_snoc : ∀ {xs : List V} {ds : List PyData} {x : V} {d : PyData}, AnyL H xs ds → Any H x d → AnyL H (xs ++ [x]) (ds ++ [d])
  | _, _, _, _, .nil, b => .cons b .nil
  | _, _, _, _, .cons a r, b => .cons a (anyL_snoc r b)
theorem anyL_ints : ∀ {ns : List Int} {xs : List V}, AnyL H xs (ns.map .int) → xs = ns.map V.int
  | [], _, h => by
    cases h
    rfl
  | n :: ns, _, h => by
    cases h with
    | cons a b =>
      cases a
      rw [anyL_ints b] <;> rfl
theorem anyL_bools : ∀ {ns : List Bool} {xs : List V}, AnyL H xs (ns.map .bool) → xs = ns.map V.bl
  | [], _, h => by
    cases h
    rfl
  | n :: ns, _, h => by
    cases h with
    | cons a b =>
      cases a
      rw [anyL_bools b] <;> rfl
theorem anyL_flags {g : PyData → Bool} {ds : List PyData} {xs : List V} (h : AnyL H xs (ds.map fun d => PyData.bool (g d))) : xs = (ds.map g).map V.bl := by
  refine anyL_bools (H := H) ?_
  rw [List.map_map]
  exact h
theorem ints_anyL : ∀ (ns : List Int), AnyL H (ns.map V.int) (ns.map .int)
  | [] => .nil
  | n :: ns => .cons (.int n) (ints_anyL ns)
/-- data that is a list or a tuple, with its items -/
theorem seq_of (h : Any H v d) (e : isSeqD d = true) : ∃ (k : Bool) (a : Addr) (xs : List V), v = .ref a ∧ (∀ {H' : Hp}, Same H H' → ∀ K, SqB K H' k a xs) ∧ AnyL H xs (itemsD d) := by
  cases h with
  | lst ea ha => exact ⟨true, _, _, rfl, fun k K => SqL.of (k _ _ ea), ha⟩
  | tup ea ha => exact ⟨false, _, _, rfl, fun k K => SqT.of (k _ _ ea), ha⟩
  | _ => cases e
theorem SqB.or {k : Bool} {a : Addr} (h : SqB K H k a xs) : SqL K H a xs ∨ SqT K H a xs := by
  cases k with
  | true => exact .inl h
  | false => exact .inr h
theorem vec_ints : ∀ {ds : List PyData}, ds.all isIntD = true → ∃ ns : List Int, ds = ns.map .int
  | [], _ => ⟨[], rfl⟩
  | d :: ds, h => by
    simp only [List.all_cons, Bool.and_eq_true] at h
    obtain ⟨ns, e⟩ := vec_ints h.2
    cases d with
    | int n => exact ⟨n :: ns, by rw [e] <;> rfl⟩
    | _ => cases h.1
end

/-! ### walks -/
def ItS (K : PySem.W.Frag) : Bool → Addr → It
  | true, a => Itl K a
  | false, a => Itt K a
def iSeq (K : PySem.W.Frag) (tl : TE) : TI := fun σ H R => tl σ H fun x H1 => ∃ a k xs, x = .ref a ∧ SqB K H1 k a xs ∧ R (ItS K k a) H1
theorem pi_seq {X : Cx} {tg l : Expr} {tl : TE} (hl : PE X l tl) : PI X tg l (iSeq X.K tl) := by
  refine ⟨fun pins s σ H R I h => ?_⟩
  refine thn (hl.run pins s σ H _ I h) fun v s1 ⟨x, H1, I1, r1, q1⟩ => ?_
  obtain ⟨a, k, xs, e, hq, q⟩ := q1
  subst e
  cases r1
  cases k with
  | true =>
    obtain ⟨its, rv, p, hz⟩ := I1.list hq
    refine wpAny_pyIter_list p.isList ?_
    refine ⟨s1.heap.objs.size, [s1.heap.objs.size], _, _, H1, rfl, I1.kept (t' := s1.toks) fun b o e => Heap.get?_push_of_some _ e, turn_list a _, ⟨_, Heap.get?_push_size _ rfl, rfl, rfl⟩, fun b hb => ?_, q⟩
    have e : b = s1.heap.objs.size := by simpa using hb
    subst e
    exact I1.fpOk (Nat.le_refl _) (I1.hok.fresh (Nat.le_refl _))
  | false =>
    obtain ⟨its, rv, p, hz⟩ := I1.tuple hq
    refine wpAny_pyIter_tuple (show s1.heap.IsTuple a its.toArray from p) ?_
    refine ⟨s1.heap.objs.size, [s1.heap.objs.size], _, _, H1, rfl, I1.kept (t' := s1.toks) fun b o e => Heap.get?_push_of_some _ e, turn_tuple a _, ⟨_, Heap.get?_push_size _ rfl, rfl, rfl⟩, fun b hb => ?_, q⟩
    have e : b = s1.heap.objs.size := by simpa using hb
    subst e
    exact I1.fpOk (Nat.le_refl _) (I1.hok.fresh (Nat.le_refl _))
section
variable {K : PySem.W.Frag} {k : Bool} {a : Addr} {xs : List V}
theorem walk_seq : Walk (ItS K k a) xs.length (fun H => SqB K H k a xs) (fun i H x H' => H' = H ∧ xs[i]? = some x) := by
  cases k with
  | true => exact walk_list
  | false => exact walk_tup
theorem walk_rng {n : Nat} : Walk (Itr 0 n) n (fun _ => True) (fun i H x H' => H' = H ∧ x = .int (i : Int)) :=
  walk_range.mono (fun _ z => z) fun i H x H' _ _ y => ⟨y.1, by
    have e := y.2
    simpa using e⟩
theorem walk_zipB {k1 k2 : Bool} {a b : Addr} {xs ys : List V} {n : Nat} (h1 : xs.length = n) (h2 : ys.length = n) : Walk (ItB K k1 k2 a b) n (fun H => SqB K H k1 a xs ∧ SqB K H k2 b ys) (YPair (fun i => xs[i]?) (fun i => ys[i]?)) := by
  refine ⟨fun i H hi q => ?_, fun H q => ⟨xs, ys, q.1, q.2, by omega, by omega, .inl h1⟩, fun i H v H' _ q y => ?_⟩
  · have g1 : i < xs.length := by omega
    have g2 : i < ys.length := by omega
    exact ⟨xs, ys, xs[i], ys[i], q.1, q.2, by simp [g1], by simp [g2]⟩
  · obtain ⟨T, x, z, h1, h2, h3, h4, h5⟩ := y
    exact ⟨T, x, z, h1, h2, h3, h4 xs q.1, h5 ys q.2⟩
end
theorem del_upd {H : Hp} {D : Addr} {o : HO} : del (upd H D o) D = del H D := by
  funext c
  by_cases e : c = D
  · rw [e, del_same, del_same]
  · rw [del_ne e, del_ne e, upd_ne e]
/-- new data of each turn, nothing else changed -/
theorem lc_same {J : It} {n : Nat} {G : Hp → Prop} {P : Nat → V → Prop} (w : Walk J n G (fun i H x H' => H' = H ∧ P i x)) {j : Nat} {σ : L2.St} {vs : List Nat} {te : TE} {H1 : Hp} {D : Addr} {Q : Hp → Prop} (hn : n ≤ 1000) (hD : H1 D = none) (hG : ∀ H, Same H1 H → G H) (f : Nat → PyData)
    (hs : ∀ i x H, i < n → P i x → Same H1 H → (∃ o, H D = some o) → wipe ((wipe σ vs).set j (some x)) vs = wipe σ vs ∧ ∀ k : VK, (∀ y H', Same H H' → Any (del H' D) y (f i) → k y H') → te ((wipe σ vs).set j (some x)) H k)
    (hq : ∀ H acc, Same H1 H → H D = some (.lst acc) → AnyL (del H D) acc ((List.range n).map f) → Q H) :
    ∃ W : Nat → Nat → Hp → Prop, (∃ m, W 0 m (upd H1 D (.lst []))) ∧ ∀ i m H, W i m H →
      (J.stop i H ∧ Q H) ∨ (J.go i H ∧ ∃ Nx : Hp → Prop, (∀ H', Nx H' → ∃ m', m' < m ∧ W (i + 1) m' H') ∧ ∀ x H', J.yld i H x H' → gName j x (wipe σ vs) H' fun σ2 H2 => wipe σ2 vs = wipe σ vs ∧ tYes σ2 H2 fun b H3 =>
        if b = true then te σ2 H3 fun y H4 => ∃ acc, H4 D = some (.lst acc) ∧ acc.length < sizeLine ∧ Nx (upd H4 D (.lst (acc ++ [y]))) else Nx H3) := by
  refine lc_it w (Qd := Q) (Pv := fun i H => Same H1 H ∧ ∃ acc, H D = some (.lst acc) ∧ acc.length = i ∧ AnyL (del H D) acc ((List.range i).map f)) ⟨same_new hD, [], upd_same, rfl, .nil⟩ (fun i H _ h => hG H h.1) ?_ ?_
  · rintro i x H H' hi ⟨s1, acc, ha, hl, an⟩ ⟨rfl, hp⟩
    obtain ⟨e1, e2⟩ := hs i x H' hi hp s1 ⟨_, ha⟩
    refine ⟨e1, ?_⟩
    show te _ _ _
    refine e2 _ fun y H4 s2 hy => ?_
    refine ⟨acc, s2 _ _ ha, Nat.lt_of_lt_of_le (by omega : acc.length < 1000) (by decide), ?_, acc ++ [y], upd_same, by rw [List.length_append, hl] <;> rfl, ?_⟩
    · intro b o e
      have ne : b ≠ D := ne_of_none e hD
      rw [upd_ne ne]
      exact s2 _ _ (s1 _ _ e)
    · rw [del_upd, List.range_succ, List.map_append]
      exact anyL_snoc (anyL_keep (Grow.del (Grow.of s2)) an) hy
  · rintro H ⟨s1, acc, ha, hl, an⟩
    exact hq H acc s1 ha an
theorem map_get {α β : Type} (g : α → β) (dd : α) : ∀ l : List α, (List.range l.length).map (fun i => g (l[i]?.getD dd)) = l.map g := by
  intro l
  apply List.ext_getElem
  · simp
  · intro i h1 h2
    simp at h1 h2
    simp [h1]
end Rw

set_option Elab.async false
set_option linter.all false
set_option maxRecDepth 100000
set_option maxHeartbeats 4000000
/-! TkM: boxes, new data, what a law looks at. -/
namespace Rw
open PySem PySem.Spec PyProof.Rows L2
/-- any int of the script, or a number of the law's own -/
def spCellR (K : PySem.W.Frag) : Sp := fun vs H Q _ => ∃ (a : Addr) (ns : List Int) (j : Nat), vs = [.ref a, .int (j : Int)] ∧ SqL K H a (ns.map V.int) ∧ j < 1000 ∧ ∀ z : Int, Q (.int z) H
/-- at p a box that was drawn from at most n times -/
def Bx (H : Hp) (p : Addr) (n : Nat) : Prop := ∃ a b c : Int, H p = some (.lst [.int a, .int b, .int c]) ∧ 0 ≤ a ∧ 0 ≤ b ∧ b < 2147483629 ∧ 0 ≤ c ∧ c ≤ (n : Int)
theorem Bx.more {H : Hp} {p : Addr} {n m : Nat} (h : Bx H p n) (l : n ≤ m) : Bx H p m := by
  obtain ⟨a, b, c, h1, h2, h3, h4, h5, h6⟩ := h
  exact ⟨a, b, c, h1, h2, h3, h4, h5, by omega⟩
theorem Bx.keep {H H' : Hp} {p : Addr} {n : Nat} (h : Bx H p n) (k : Same H H') : Bx H' p n := by
  obtain ⟨a, b, c, h1, r⟩ := h
  exact ⟨a, b, c, k _ _ h1, r⟩
theorem Bx.ne {H : Hp} {p q : Addr} {n : Nat} (h : Bx H p n) (hq : H q = none) : p ≠ q := by
  obtain ⟨a, b, c, h1, _⟩ := h
  exact ne_of_none h1 hq
def spBoxR : Sp := fun vs H Q _ => ∃ z : Int, vs = [.int z] ∧ ∀ p H', H p = none → Same H H' → Bx H' p 0 → Q (.ref p) H'
def spTakeR : Sp := fun vs H Q _ => ∃ (p : Addr) (m : Int) (n : Nat), vs = [.ref p, .int m] ∧ 0 < m ∧ m < 2 ^ 200 ∧ Bx H p n ∧ n ≤ 1000000 ∧ ∀ r H', 0 ≤ r → r < m → Grow p H H' → Bx H' p (n + 1) → Q (.int r) H'
theorem fdiv_nonneg' {a m : Int} (h : 0 ≤ a) (hm : 0 < m) : 0 ≤ a / m := Int.ediv_nonneg h (by omega)
/-- the odd things, as data -/
def oddL : List PyData := [.none, .bool true, .bool false, .str "1", .str "", .tuple [], .list [], .tuple [.int 1], .list [.int 0], .dict [], .dict [(.str "a", .int 1)], .int (-1), .int (10 ^ Int.toNat 29), .int (-(10 ^ Int.toNat 29)), .tuple [.tuple [.int 1]], .str "><"]
theorem AnyL.get {H : Hp} : ∀ {vs : List V} {ds : List PyData}, AnyL H vs ds → ∀ i, i < ds.length → ∃ v d, vs[i]? = some v ∧ d ∈ ds ∧ Any H v d
  | _, _, .nil, i, h => absurd h (Nat.not_lt_zero i)
  | _, _, .cons a _, 0, _ => ⟨_, _, rfl, List.mem_cons_self, a⟩
  | _, _, .cons _ b, i + 1, h => by
    obtain ⟨v, d, h1, h2, h3⟩ := AnyL.get b i (Nat.lt_of_succ_lt_succ h)
    exact ⟨v, d, h1, List.mem_cons_of_mem _ h2, h3⟩
/-- what is new in H' -/
def nw (H H' : Hp) : Hp := fun a => if H a = none then H' a else none
theorem nw_put {H H' : Hp} {q : Addr} {o : HO} (h : H q = none) : nw H (upd H' q o) q = some o := by
  show (if H q = none then (upd H' q o) q else none) = _
  rw [if_pos h, upd_same]
theorem nw_same {H H1 H2 : Hp} (k : Same H1 H2) : Same (nw H H1) (nw H H2) := fun b o e => by
  have e' : (if H b = none then H1 b else none) = some o := e
  show (if H b = none then H2 b else none) = some o
  by_cases z : H b = none
  · rw [if_pos z] at e' ⊢
    exact k _ _ e'
  · rw [if_neg z] at e'
    cases e'
theorem nw_grow {H H1 H2 : Hp} {p : Addr} {o : HO} (hp : H p = some o) (k : Grow p H1 H2) : Same (nw H H1) (nw H H2) := fun b u e => by
  have e' : (if H b = none then H1 b else none) = some u := e
  show (if H b = none then H2 b else none) = some u
  by_cases z : H b = none
  · rw [if_pos z] at e' ⊢
    exact k _ _ (fun y => by rw [y, hp] at z; cases z) e'
  · rw [if_neg z] at e'
    cases e'
theorem nw_sub {H H' : Hp} : Same (nw H H') H' := fun b o e => by
  have e' : (if H b = none then H' b else none) = some o := e
  by_cases z : H b = none
  · rw [if_pos z] at e'
    exact e'
  · rw [if_neg z] at e'
    cases e'
theorem nw_del {H H' : Hp} {p : Addr} {o : HO} (hp : H p = some o) : Same (nw H H') (del H' p) := fun b u e => by
  have e' : (if H b = none then H' b else none) = some u := e
  by_cases z : H b = none
  · rw [if_pos z] at e'
    have ne : b ≠ p := fun y => by rw [y, hp] at z; cases z
    rw [del_ne ne]
    exact e'
  · rw [if_neg z] at e'
    cases e'
/-- some odd thing, all new -/
def spOddN : Sp := fun vs H Q _ => ∃ (p : Addr) (n : Nat), vs = [.ref p] ∧ Bx H p n ∧ n ≤ 1000000 ∧ ∀ v d H', d ∈ oddL → Any (nw H H') v d → Grow p H H' → Bx H' p (n + 1) → Q v H'
def spWholeR : Sp := fun vs H Q _ => ∃ v d, vs = [v] ∧ Any H v d ∧ Q (.bl (isIntD d)) H
/-! ### a list held against [] -/
def rNilE : R2 := fun x y H Q => ∃ a b xs, x = .ref a ∧ y = .ref b ∧ H a = some (.lst xs) ∧ H b = some (.lst []) ∧ Q (.bl xs.isEmpty) H
theorem op_eq_nil {X : Cx} (hu : X.A.units < cLine) : OpR X (compareOp .Eq) rNilE := by
  intro pins s σ H x y v u Q I rx ry h
  obtain ⟨a, b, xs, rfl, rfl, ea, eb, q⟩ := h
  obtain rfl : v = Value.ref a := rx
  obtain rfl : u = Value.ref b := ry
  obtain ⟨its, ra, pa, _⟩ := I.list (SqL.of ea)
  obtain ⟨its2, rb, pb, _⟩ := I.list (SqL.of eb)
  cases rb
  have ln := ra.length
  cases xs with
  | nil =>
    cases ra
    exact SeqAt.eq_listAt (e := fun _ => true) pa.isList pb.isList rfl hu (fun j h1 h2 => absurd h1 (Nat.not_lt_zero j)) ⟨.bl true, H, I, rfl, q⟩
  | cons z zs =>
    refine SeqAt.eq_list_lengthsAt pa.isList pb.isList ?_ hu ⟨.bl false, H, I, rfl, q⟩
    simp
    intro e
    rw [e] at ln
    cases ln
/-- some of the items, by a test of each; what is asked is whether there are any -/
theorem lc_filter {J : It} {n : Nat} {G : Hp → Prop} {P : Nat → V → Prop} (w : Walk J n G (fun i H x H' => H' = H ∧ P i x)) {j : Nat} {σ : L2.St} {vs : List Nat} {tt : TT} {te : TE} {H1 : Hp} {D : Addr} {Q : Hp → Prop} (hn : n ≤ 1000) (hD : H1 D = none) (hG : ∀ H, Same H1 H → G H) (f : Nat → Bool)
    (hs : ∀ i x H, i < n → P i x → Same H1 H → wipe ((wipe σ vs).set j (some x)) vs = wipe σ vs ∧ (∀ k : Bool → Hp → Prop, (∀ H', Same H H' → k (f i) H') → tt ((wipe σ vs).set j (some x)) H k) ∧ ∀ (k : VK) (H' : Hp), k x H' → te ((wipe σ vs).set j (some x)) H' k)
    (hq : ∀ H acc, Same H1 H → H D = some (.lst acc) → acc.isEmpty = (List.range n).all (fun i => !f i) → Q H) :
    ∃ W : Nat → Nat → Hp → Prop, (∃ m, W 0 m (upd H1 D (.lst []))) ∧ ∀ i m H, W i m H →
      (J.stop i H ∧ Q H) ∨ (J.go i H ∧ ∃ Nx : Hp → Prop, (∀ H', Nx H' → ∃ m', m' < m ∧ W (i + 1) m' H') ∧ ∀ x H', J.yld i H x H' → gName j x (wipe σ vs) H' fun σ2 H2 => wipe σ2 vs = wipe σ vs ∧ tt σ2 H2 fun b H3 =>
        if b = true then te σ2 H3 fun y H4 => ∃ acc, H4 D = some (.lst acc) ∧ acc.length < sizeLine ∧ Nx (upd H4 D (.lst (acc ++ [y]))) else Nx H3) := by
  refine lc_it w (Qd := Q) (Pv := fun i H => Same H1 H ∧ ∃ acc, H D = some (.lst acc) ∧ acc.length ≤ i ∧ acc.isEmpty = (List.range i).all (fun i => !f i)) ⟨same_new hD, [], upd_same, Nat.le_refl _, rfl⟩ (fun i H _ h => hG H h.1) ?_ ?_
  · rintro i x H H' hi ⟨s1, acc, ha, hl, ea⟩ ⟨rfl, hp⟩
    obtain ⟨e1, e2, e3⟩ := hs i x H' hi hp s1
    refine ⟨e1, e2 _ fun H4 s2 => ?_⟩
    cases fi : f i with
    | true =>
      refine iteT (e3 _ _ ⟨acc, s2 _ _ ha, Nat.lt_of_lt_of_le (by omega : acc.length < 1000) (by decide), ?_, acc ++ [x], upd_same, by rw [List.length_append]; exact Nat.succ_le_succ hl, ?_⟩)
      · intro b o e
        have ne : b ≠ D := ne_of_none e hD
        rw [upd_ne ne]
        exact s2 _ _ (s1 _ _ e)
      · rw [List.range_succ, List.all_append]
        simp [fi]
    | false =>
      refine iteF ⟨s1.trans s2, acc, s2 _ _ ha, by omega, ?_⟩
      rw [ea, List.range_succ, List.all_append]
      simp [fi]
  · rintro H ⟨s1, acc, ha, hl, ea⟩
    exact hq H acc s1 ha ea
theorem all_get {α : Type} (g : α → Bool) (dd : α) (l : List α) : (List.range l.length).all (fun i => g (l[i]?.getD dd)) = l.all g := by
  have e := congrArg (fun z : List Bool => z.all id) (map_get g dd l)
  simpa [List.all_map, Function.comp_def] using e
/-- None or an int -/
def oV : Option Int → V
  | none => .non | some n => .int n
def spRowR : Sp := fun vs H Q _ => ∃ v d wo, vs = [v, oV wo] ∧ Any H v d ∧ (itemsD d).length ≤ 1000 ∧ ∀ H', Same H H' → Q (.bl (isVecD (wo.getD (itemsD d).length) d)) H'
def spSheetR : Sp := fun vs H Q _ => ∃ v d ho w, vs = [v, oV ho, .int w] ∧ Any H v d ∧ Fit d ∧ ∀ H', Same H H' → Q (.bl (isMatD (ho.getD (itemsD d).length) w d)) H'
end Rw

set_option Elab.async false
set_option linter.all false
set_option maxRecDepth 100000
set_option maxHeartbeats 4000000
/-! TkN: data that is small enough to be shown. -/
namespace Rw
open PySem PySem.Spec PyProof.Rows L2
theorem list_len (t : Str) (r : List Str) : (listText (t :: r)).length = t.length + piled r + 2 := by
  have a : (listText (t :: r)).length = (textFrom 1 (("[" : Str) ++ (if (0 : Nat) > 0 then ", " else "" : String) ++ t) r).length + 1 := by
    show (textFrom 0 "[" (t :: r) ++ "]").length = _
    rw [strLen_append]
    rfl
  rw [a, textFrom_length_pos r 1 _ (by decide), strLen_append, strLen_append]
  show 1 + 0 + t.length + piled r + 1 = _
  omega
/-- small enough, at the n-th level of lists -/
structure Tm (n : Nat) (d : PyData) : Prop where
  sh : d.showable = true
  dp : d.depth ≤ 3 + n
  ln : d.shown.length ≤ 50 * 8 ^ n
theorem Tm.up {n m : Nat} {d : PyData} (h : Tm n d) (l : n ≤ m) : Tm m d := ⟨h.sh, by have := h.dp; omega, Nat.le_trans h.ln (Nat.mul_le_mul_left _ (Nat.pow_le_pow_right (by decide) l))⟩
theorem piled_le {B : Nat} : ∀ {ts : List Str}, (∀ t ∈ ts, t.length ≤ B) → piled ts ≤ ts.length * (B + 2)
  | [], _ => by rw [piled_nil]; exact Nat.zero_le _
  | t :: ts, h => by
    rw [piled_cons, List.length_cons, Nat.succ_mul]
    have a := h t List.mem_cons_self
    have b := piled_le (ts := ts) fun x hx => h x (List.mem_cons_of_mem _ hx)
    omega
theorem shownAll_map : ∀ ds : List PyData, PyData.shownAll ds = ds.map PyData.shown
  | [] => by simp only [PyData.shownAll]; rfl
  | d :: ds => by
    simp only [PyData.shownAll]
    rw [shownAll_map ds] <;> rfl
theorem tm_all {n : Nat} : ∀ {ds : List PyData}, (∀ d ∈ ds, Tm n d) → PyData.showableAll ds = true ∧ PyData.depthAll ds ≤ 3 + n ∧ ∀ t ∈ PyData.shownAll ds, t.length ≤ 50 * 8 ^ n
  | [], _ => ⟨by simp only [PyData.showableAll], by simp only [PyData.depthAll]; omega, fun t ht => by simp only [PyData.shownAll] at ht; cases ht⟩
  | d :: ds, h => by
    obtain ⟨a, b, c⟩ := tm_all (ds := ds) fun x hx => h x (List.mem_cons_of_mem _ hx)
    have e := h d List.mem_cons_self
    refine ⟨?_, ?_, ?_⟩
    · simp only [PyData.showableAll, e.sh, a, Bool.and_self]
    · simp only [PyData.depthAll]
      have := e.dp
      omega
    · intro t ht
      simp only [PyData.shownAll] at ht
      rcases List.mem_cons.mp ht with z | z
      · rw [z]
        exact e.ln
      · exact c t z
theorem tm_num {n : Nat} {k : Nat} (l : k ≤ 6) : k * (50 * 8 ^ n + 2) + 3 ≤ 50 * 8 ^ (n + 1) := by
  have p : 0 < 8 ^ n := Nat.pow_pos (by decide)
  have q : k * (50 * 8 ^ n + 2) ≤ 6 * (50 * 8 ^ n + 2) := Nat.mul_le_mul_right _ l
  rw [Nat.pow_succ]
  omega
theorem tm_list {n : Nat} {ds : List PyData} (l : ds.length ≤ 6) (h : ∀ d ∈ ds, Tm n d) : Tm (n + 1) (.list ds) := by
  obtain ⟨a, b, c⟩ := tm_all h
  refine ⟨by simp only [PyData.showable]; exact a, by simp only [PyData.depth]; omega, ?_⟩
  simp only [PyData.shown]
  have ln : (PyData.shownAll ds).length = ds.length := by rw [shownAll_map, List.length_map]
  have z := tm_num (n := n) l
  generalize PyData.shownAll ds = ts at c ln
  cases ts with
  | nil =>
    have e : (listText []).length = 2 := rfl
    rw [e]
    omega
  | cons t r =>
    rw [list_len]
    have p := piled_le c
    rw [piled_cons, ln] at p
    omega
theorem tm_tup {n : Nat} {ds : List PyData} (l : ds.length ≤ 6) (h : ∀ d ∈ ds, Tm n d) : Tm (n + 1) (.tuple ds) := by
  obtain ⟨a, b, c⟩ := tm_all h
  refine ⟨by simp only [PyData.showable]; exact a, by simp only [PyData.depth]; omega, ?_⟩
  simp only [PyData.shown]
  have ln : (PyData.shownAll ds).length = ds.length := by rw [shownAll_map, List.length_map]
  have z := tm_num (n := n) l
  generalize PyData.shownAll ds = ts at c ln
  have p := piled_le c
  rw [ln] at p
  have e : (tupleText ts).length ≤ 1 + (Str.join ", " ts).length + 2 := by
    show (("(" : Str) ++ Str.join ", " ts ++ (if ts.length == 1 then ",)" else ")" : String)).length ≤ _
    rw [strLen_append, strLen_append]
    have e1 : (("(" : String) : Str).length = 1 := rfl
    have e2 : ((if ts.length == 1 then ",)" else ")" : String) : Str).length ≤ 2 := by
      split
      · exact Nat.le_of_eq rfl
      · exact Nat.le_succ_of_le (Nat.le_of_eq rfl)
    omega
  cases ts with
  | nil =>
    have e3 : (Str.join ", " []).length = 0 := rfl
    omega
  | cons t r =>
    have e3 := join_length_add (t :: r) (by simp)
    omega
theorem int_len {n : Int} (h : n.natAbs < 10 ^ 40) : (PyData.int n).shown.length ≤ 41 := by
  simp only [PyData.shown]
  show (Str.ofString (toString n)).length ≤ 41
  rw [PySem.ofString_length]
  exact int_text_length_le10 (by decide) h
theorem log2_small {n : Int} (h : n.natAbs < 10 ^ 40) : n.natAbs.log2 < 400 := by
  by_cases z : n.natAbs = 0
  · rw [z]
    decide
  · exact (Nat.log2_lt z).mpr (Nat.lt_trans h (by decide +kernel))
theorem tm_int {n : Int} (h : n.natAbs < 10 ^ 40) : Tm 0 (.int n) := by
  refine ⟨?_, by simp only [PyData.depth]; omega, Nat.le_trans (int_len h) (by decide)⟩
  simp only [PyData.showable]
  exact decide_eq_true (Nat.lt_trans (log2_small h) (by decide))
def smallB (d : PyData) : Bool := match d with
  | .int n => decide (n.natAbs < 10 ^ 40) | _ => true
/-- a cell: an int that is not great, or an odd thing -/
structure Cell (d : PyData) : Prop where
  tm : Tm 0 d
  f1 : Fit1 d
  f2 : Fit d
  sm : smallB d = true
theorem cell_sm {d : PyData} {n : Int} (c : Cell d) (e : d = .int n) : n.natAbs.log2 < 400 := by
  have h := c.sm
  rw [e] at h
  exact log2_small (of_decide_eq_true h)
theorem fit1_flat {d : PyData} (e : itemsD d = []) : Fit1 d := ⟨by rw [e]; exact Nat.zero_le _, fun n h => by rw [e] at h; cases h⟩
theorem fit_flat {d : PyData} (e : itemsD d = []) : Fit d := ⟨fit1_flat e, fun x h => by rw [e] at h; cases h⟩
theorem cell_int {n : Int} (h : n.natAbs < 10 ^ 40) : Cell (.int n) := ⟨tm_int h, fit1_flat rfl, fit_flat rfl, decide_eq_true h⟩
theorem fit1_of {d : PyData} {ds : List PyData} (e : itemsD d = ds) (l : ds.length ≤ 1000) (h : ∀ x ∈ ds, smallB x = true) : Fit1 d :=
  ⟨by rw [e]; exact l, fun n hn => by rw [e] at hn; exact log2_small (of_decide_eq_true (h _ hn))⟩
theorem odd_cell : ∀ d ∈ oddL, Cell d := by
  have a : ∀ d ∈ oddL, d.showable = true ∧ d.depth ≤ 3 ∧ d.shown.length ≤ 50 := by decide +kernel
  have b : ∀ d ∈ oddL, (itemsD d).length ≤ 1000 ∧ (∀ e ∈ itemsD d, smallB e = true ∧ (itemsD e).length ≤ 1000 ∧ ∀ x ∈ itemsD e, smallB x = true) ∧ smallB d = true := by decide +kernel
  intro d hd
  obtain ⟨a1, a2, a3⟩ := a d hd
  obtain ⟨b1, b2, b3⟩ := b d hd
  have f1 : Fit1 d := fit1_of rfl b1 fun x hx => (b2 x hx).1
  exact ⟨⟨a1, a2, a3⟩, f1, ⟨f1, fun e he => fit1_of rfl (b2 e he).2.1 (b2 e he).2.2⟩, b3⟩
/-- a row: a cell, or a list of few cells -/
structure RowT (d : PyData) : Prop where
  tm : Tm 1 d
  f1 : Fit1 d
  sm : smallB d = true
theorem Cell.row {d : PyData} (c : Cell d) : RowT d := ⟨c.tm.up (by decide), c.f1, c.sm⟩
theorem row_list {ds : List PyData} (l : ds.length ≤ 6) (h : ∀ d ∈ ds, Cell d) : RowT (.list ds) := ⟨tm_list l fun d hd => (h d hd).tm, fit1_of (ds := ds) rfl (by omega) fun x hx => (h x hx).sm, rfl⟩
/-- a sheet: a cell, or few rows -/
structure SheetT (d : PyData) : Prop where
  tm : Tm 2 d
  f : Fit d
  few : (itemsD d).length ≤ 6
theorem Cell.sheet {d : PyData} (c : Cell d) (l : (itemsD d).length ≤ 6) : SheetT d := ⟨c.tm.up (by decide), c.f2, l⟩
theorem sheet_list {ds : List PyData} (l : ds.length ≤ 6) (h : ∀ d ∈ ds, RowT d) : SheetT (.list ds) := ⟨tm_list l fun d hd => (h d hd).tm, ⟨fit1_of (ds := ds) rfl (by omega) fun x hx => (h x hx).sm, fun e he => (h e he).f1⟩, l⟩
theorem sheet_tup {ds : List PyData} (l : ds.length ≤ 6) (h : ∀ d ∈ ds, RowT d) : SheetT (.tuple ds) := ⟨tm_tup l fun d hd => (h d hd).tm, ⟨fit1_of (ds := ds) rfl (by omega) fun x hx => (h x hx).sm, fun e he => (h e he).f1⟩, l⟩
theorem odd_few : ∀ d ∈ oddL, (itemsD d).length ≤ 6 := by decide +kernel
theorem odd_sheet {d : PyData} (h : d ∈ oddL) : SheetT d := (odd_cell d h).sheet (odd_few d h)
end Rw

set_option Elab.async false
set_option linter.all false
set_option maxRecDepth 100000
set_option maxHeartbeats 4000000
/-! TkP: sums, comprehensions beside a box, data held against data. -/
namespace Rw
open PySem PySem.Spec PyProof.Rows L2
/-! ### sums -/
def S : Nat → (Nat → Int) → Int
  | 0, _ => 0
  | n + 1, f => S n f + f n
theorem S_sum (f : Nat → Int) : ∀ n, ((List.range n).map f).sum = S n f
  | 0 => rfl
  | n + 1 => by
    rw [List.range_succ, List.map_append, List.sum_append, S_sum f n]
    show S n f + (f n + 0) = S n f + f n
    omega
theorem S_congr {f g : Nat → Int} : ∀ {n : Nat}, (∀ i, i < n → f i = g i) → S n f = S n g
  | 0, _ => rfl
  | n + 1, h => by
    show S n f + f n = S n g + g n
    rw [S_congr (n := n) fun i hi => h i (by omega), h n (by omega)]
theorem S_add (f g : Nat → Int) : ∀ n, S n (fun i => f i + g i) = S n f + S n g
  | 0 => rfl
  | n + 1 => by
    show S n (fun i => f i + g i) + (f n + g n) = (S n f + f n) + (S n g + g n)
    rw [S_add f g n]
    omega
theorem S_mul (a : Int) (f : Nat → Int) : ∀ n, S n (fun i => a * f i) = a * S n f
  | 0 => by show (0 : Int) = a * 0; rw [Int.mul_zero]
  | n + 1 => by
    show S n (fun i => a * f i) + a * f n = a * (S n f + f n)
    rw [S_mul a f n, Int.mul_add]
theorem S_zero : ∀ n, S n (fun _ => 0) = 0
  | 0 => rfl
  | n + 1 => by
    show S n (fun _ => 0) + 0 = 0
    rw [S_zero n] <;> rfl
theorem S_swap (f : Nat → Nat → Int) (m : Nat) : ∀ n, S n (fun i => S m (fun k => f i k)) = S m (fun k => S n (fun i => f i k))
  | 0 => by
    show (0 : Int) = S m (fun _ => 0)
    rw [S_zero]
  | n + 1 => by
    show S n (fun i => S m (fun k => f i k)) + S m (fun k => f n k) = S m (fun k => S n (fun i => f i k) + f n k)
    rw [S_swap f m n, S_add]
theorem S_mod (p : Int) {f g : Nat → Int} : ∀ {n : Nat}, (∀ i, i < n → f i % p = g i % p) → S n f % p = S n g % p
  | 0, _ => rfl
  | n + 1, h => by
    show (S n f + f n) % p = (S n g + g n) % p
    rw [Int.add_emod, S_mod p (n := n) fun i hi => h i (by omega), h n (by omega), ← Int.add_emod]
/-- leading by the product is leading twice -/
theorem S_assoc (p : Int) (v : Nat → Int) (a b : Nat → Nat → Int) (n m c : Nat) :
    S n (fun i => v i * (S m (fun k => a i k * b k c) % p)) % p = S m (fun k => (S n (fun i => v i * a i k) % p) * b k c) % p := by
  have e1 : S n (fun i => v i * (S m (fun k => a i k * b k c) % p)) % p = S n (fun i => S m (fun k => v i * a i k * b k c)) % p := by
    refine S_mod p fun i _ => ?_
    have : S m (fun k => v i * a i k * b k c) = v i * S m (fun k => a i k * b k c) := by
      rw [← S_mul]
      exact S_congr fun k _ => Int.mul_assoc _ _ _
    rw [this, Int.mul_emod, Int.emod_emod_of_dvd _ (Int.dvd_refl p), ← Int.mul_emod]
  have e2 : S m (fun k => (S n (fun i => v i * a i k) % p) * b k c) % p = S m (fun k => S n (fun i => v i * a i k * b k c)) % p := by
    refine S_mod p fun k _ => ?_
    have : S n (fun i => v i * a i k * b k c) = S n (fun i => v i * a i k) * b k c := by
      rw [Int.mul_comm (S n _) (b k c), ← S_mul]
      exact S_congr fun i _ => Int.mul_comm _ _
    rw [this, Int.mul_emod, Int.emod_emod_of_dvd _ (Int.dvd_refl p), ← Int.mul_emod]
  rw [e1, e2, S_swap]
/-! ### data held against data -/
mutual
theorem any_dp {K : PySem.W.Frag} {H : Hp} : ∀ (d : PyData) (v : V), Any H v d → d.canLay0 = true → Dp K H v d
  | .none, _, h, _ => by
    cases h
    exact .non
  | .bool b, _, h, _ => by
    cases h
    exact .bl b
  | .int i, _, h, _ => by
    cases h
    exact .int i
  | .str x, _, h, _ => by
    cases h
    exact .str x
  | .list ds, _, h, c => by
    cases h with
    | lst e a => exact .lst (SqL.of e) (any_dpL ds _ a (by simpa [PyData.canLay0] using c))
  | .tuple ds, _, h, c => by
    cases h with
    | tup e a => exact .tup (SqT.of e) (any_dpL ds _ a (by simpa [PyData.canLay0] using c))
  | .dict ds, _, h, c => by simp [PyData.canLay0] at c
theorem any_dpL {K : PySem.W.Frag} {H : Hp} : ∀ (ds : List PyData) (vs : List V), AnyL H vs ds → PyData.canLayAll0 ds = true → DpAll K H vs ds
  | [], _, h, _ => by
    cases h
    exact .nil
  | d :: ds, _, h, c => by
    have c' : d.canLay0 = true ∧ PyData.canLayAll0 ds = true := by simpa [PyData.canLayAll0] using c
    cases h with
    | cons a b => exact .cons (any_dp d _ a c'.1) (any_dpL ds _ b c'.2)
end
theorem lay_all : ∀ {ds : List PyData}, (∀ d, d ∈ ds → d.canLay0 = true) → PyData.canLayAll0 ds = true
  | [], _ => by simp [PyData.canLayAll0]
  | d :: ds, h => by simp [PyData.canLayAll0, h d List.mem_cons_self, lay_all (ds := ds) fun x hx => h x (List.mem_cons_of_mem _ hx)]
theorem lay_tup {ds : List PyData} (h : ∀ d, d ∈ ds → d.canLay0 = true) : (PyData.tuple ds).canLay0 = true := by
  simp [PyData.canLay0, lay_all h]
theorem lay_list {ds : List PyData} (h : ∀ d, d ∈ ds → d.canLay0 = true) : (PyData.list ds).canLay0 = true := by
  simp [PyData.canLay0, lay_all h]
theorem lay_ints (ns : List Int) : ∀ d, d ∈ ns.map PyData.int → d.canLay0 = true := by
  intro d hd
  obtain ⟨n, _, rfl⟩ := List.mem_map.mp hd
  simp [PyData.canLay0]
/-- the same data: not unlike -/
theorem ne_same {K : PySem.W.Frag} {H : Hp} {x y : V} {d : PyData} {Q : VK} (a : Any H x d) (b : Any H y d) (c : d.canLay0 = true) (l : d.depth ≤ 64) (q : Q (.bl false) H) : rNeD K x y H Q := by
  have s : SeqAt.shaped d = true := by
    unfold SeqAt.shaped
    rw [c, decide_eq_true l] <;> rfl
  refine ⟨d, d, any_dp d x a c, any_dp d y b c, s, s, ?_⟩
  rw [SeqAt.eqv_refl d c]
  exact q
theorem eq_same {K : PySem.W.Frag} {H : Hp} {x y : V} {d : PyData} {Q : VK} (a : Any H x d) (b : Any H y d) (c : d.canLay0 = true) (l : d.depth ≤ 64) (q : Q (.bl true) H) : rEqD K x y H Q := by
  have s : SeqAt.shaped d = true := by
    unfold SeqAt.shaped
    rw [c, decide_eq_true l] <;> rfl
  refine ⟨d, d, any_dp d x a c, any_dp d y b c, s, s, ?_⟩
  rw [SeqAt.eqv_refl d c]
  exact q
/-! ### comprehensions beside a box -/
theorem lc_box {J : It} {n : Nat} {G : Hp → Prop} {P : Nat → V → Prop} (w : Walk J n G (fun i H x H' => H' = H ∧ P i x)) {j : Nat} {σ : L2.St} {vs : List Nat} {te : TE} {H1 : Hp} {p D : Addr} {c t : Nat} {Q : Hp → Prop} (hn : n ≤ 1000) (hD : H1 D = none) (b0 : Bx H1 p c) (hG : ∀ H, Grow p H1 H → G H) (Good : PyData → Prop)
    (hs : ∀ i x H, i < n → P i x → Grow p H1 H → Bx H p (c + i * t) → (∃ o, H D = some o) → wipe ((wipe σ vs).set j (some x)) vs = wipe σ vs ∧ ∀ k : VK, (∀ y d H', Grow p H H' → Bx H' p (c + i * t + t) → Good d → Any (del (del H' p) D) y d → k y H') → te ((wipe σ vs).set j (some x)) H k)
    (hq : ∀ H acc ds, Grow p H1 H → Bx H p (c + n * t) → H D = some (.lst acc) → AnyL (del (del H p) D) acc ds → ds.length = n → (∀ d, d ∈ ds → Good d) → Q H) :
    ∃ W : Nat → Nat → Hp → Prop, (∃ m, W 0 m (upd H1 D (.lst []))) ∧ ∀ i m H, W i m H →
      (J.stop i H ∧ Q H) ∨ (J.go i H ∧ ∃ Nx : Hp → Prop, (∀ H', Nx H' → ∃ m', m' < m ∧ W (i + 1) m' H') ∧ ∀ x H', J.yld i H x H' → gName j x (wipe σ vs) H' fun σ2 H2 => wipe σ2 vs = wipe σ vs ∧ tYes σ2 H2 fun b H3 =>
        if b = true then te σ2 H3 fun y H4 => ∃ acc, H4 D = some (.lst acc) ∧ acc.length < sizeLine ∧ Nx (upd H4 D (.lst (acc ++ [y]))) else Nx H3) := by
  have pD := b0.ne hD
  refine lc_it w (Qd := Q) (Pv := fun i H => Grow p H1 H ∧ Bx H p (c + i * t) ∧ ∃ acc ds, H D = some (.lst acc) ∧ AnyL (del (del H p) D) acc ds ∧ ds.length = i ∧ ∀ d, d ∈ ds → Good d) ⟨Grow.of (same_new hD), by simpa using b0.keep (same_new hD), [], [], upd_same, .nil, rfl, fun d hd => (nomatch hd)⟩ (fun i H _ h => hG H h.1) ?_ ?_
  · rintro i x H H' hi ⟨g, b, acc, ds, ha, al, l, gd⟩ ⟨rfl, hp⟩
    obtain ⟨e1, e2⟩ := hs i x H' hi hp g b ⟨_, ha⟩
    refine ⟨e1, ?_⟩
    show te _ _ _
    refine e2 _ fun y d H4 g4 b4 gd4 an => ?_
    have ha4 := g4 _ _ pD.symm ha
    have ln := anyL_len al
    have eqd : ∀ o, del (del (upd H4 D o) p) D = del (del H4 p) D := fun o => by
      funext z
      by_cases y1 : z = D
      · rw [y1, del_same, del_same]
      · rw [del_ne y1, del_ne y1]
        by_cases y2 : z = p
        · rw [y2, del_same, del_same]
        · rw [del_ne y2, del_ne y2, upd_ne y1]
    refine ⟨acc, ha4, Nat.lt_of_lt_of_le (by omega : acc.length < 1000) (by decide), ?_, ?_, acc ++ [y], ds ++ [d], upd_same, ?_, by rw [List.length_append, l] <;> rfl, ?_⟩
    · intro z o ne eo
      rw [upd_ne (ne_of_none eo hD)]
      exact (g.trans g4) z o ne eo
    · obtain ⟨a1, a2, a3, h1, rest⟩ := b4
      refine Bx.more ⟨a1, a2, a3, by rw [upd_ne pD]; exact h1, rest⟩ ?_
      rw [Nat.succ_mul]
      omega
    · rw [eqd]
      exact anyL_snoc (anyL_keep (Grow.del (Grow.of g4.del)) al) an
    · intro z hz
      rcases List.mem_append.mp hz with q | q
      · exact gd z q
      · rw [List.mem_singleton.mp q]
        exact gd4
  · rintro H ⟨g, b, acc, ds, ha, al, l, gd⟩
    exact hq H acc ds g b ha al l gd
end Rw

set_option Elab.async false
set_option linter.all false
set_option maxRecDepth 100000
set_option maxHeartbeats 4000000
/-! TkS: written dicts with int keys and with text keys: `in`, `d[k]`. -/
namespace Rw
open PySem PySem.Spec PyProof.Rows L2

inductive IntTab : List DictEntry → List (Int × Value) → Prop
  | nil : IntTab [] []
  | cons {e : DictEntry} {es : List DictEntry} {i : Int} {t : Tok} {v : Value} {kvs : List (Int × Value)} : e.key = .int i t → e.hash = hashInt i → e.val = v → IntTab es kvs → IntTab (e :: es) ((i, v) :: kvs)
inductive TxtTab (P : Params) : List DictEntry → List (Str × Value) → Prop
  | nil : TxtTab P [] []
  | cons {e : DictEntry} {es : List DictEntry} {x : Str} {t : Tok} {v : Value} {kvs : List (Str × Value)} : e.key = .str x t → e.hash = PyData.keyHash P x → e.val = v → TxtTab P es kvs → TxtTab P (e :: es) ((x, v) :: kvs)
def lookI (kvs : List (Int × Value)) (i : Int) : Option Value := (kvs.find? fun q => q.1 == i).map (·.2)
def lookS (kvs : List (Str × Value)) (x : Str) : Option Value := (kvs.find? fun q => q.1 == x).map (·.2)
theorem IntTab.find {es : List DictEntry} {kvs : List (Int × Value)} (T : IntTab es kvs) (i : Int) : findBy Value.isInt es.toArray i = lookI kvs i := by
  unfold findBy lookI
  rw [List.find?_toArray]
  induction T with
  | nil => rfl
  | cons k h v r ih =>
    rename_i e es j t u kvs
    rw [List.find?_cons, List.find?_cons]
    have e1 : Value.isInt i e.key = (j == i) := by rw [k] <;> rfl
    rw [e1]
    cases j == i with
    | true => simp [v]
    | false => exact ih
theorem TxtTab.find {P : Params} {es : List DictEntry} {kvs : List (Str × Value)} (T : TxtTab P es kvs) (x : Str) : findBy Value.isStrOf es.toArray x = lookS kvs x := by
  unfold findBy lookS
  rw [List.find?_toArray]
  induction T with
  | nil => rfl
  | cons k h v r ih =>
    rename_i e es y t u kvs
    rw [List.find?_cons, List.find?_cons]
    have e1 : Value.isStrOf x e.key = (y == x) := by rw [k] <;> rfl
    rw [e1]
    cases y == x with
    | true => simp [v]
    | false => exact ih
theorem IntTab.keys {es : List DictEntry} {kvs : List (Int × Value)} (T : IntTab es kvs) : ∀ e ∈ es, ∃ i t, e.key = .int i t ∧ e.hash = hashInt i := by
  induction T with
  | nil => intro e h; cases h
  | cons k h v r ih =>
    intro e he
    rcases List.mem_cons.mp he with z | z
    · rw [z]; exact ⟨_, _, k, h⟩
    · exact ih e z
theorem TxtTab.keys {P : Params} {es : List DictEntry} {kvs : List (Str × Value)} (T : TxtTab P es kvs) : ∀ e ∈ es, ∃ x t, e.key = .str x t ∧ e.hash = PyData.keyHash P x := by
  induction T with
  | nil => intro e h; cases h
  | cons k h v r ih =>
    intro e he
    rcases List.mem_cons.mp he with z | z
    · rw [z]; exact ⟨_, _, k, h⟩
    · exact ih e z
/-- at d: a written dict with int keys -/
structure TabI (K : PySem.W.Frag) (d : Addr) (kvs : List (Int × Value)) : Prop where
  at_ : ∃ (l : List DictEntry) (n : Nat), K.lookup d = some ⟨.type "dict", none, .dict l.toArray n, #[]⟩ ∧ IntTab l kvs
  low : (d == sysModules) = false
structure TabS (K : PySem.W.Frag) (w : World) (d : Addr) (kvs : List (Str × Value)) : Prop where
  at_ : ∃ (l : List DictEntry) (n : Nat), K.lookup d = some ⟨.type "dict", none, .dict l.toArray n, #[]⟩ ∧ TxtTab w.params l kvs
  low : (d == sysModules) = false
section
variable {X : Cx} {d : Addr} {pins : List (Addr × Obj)} {σ : L2.St} {H : Hp} {s : Shared}
theorem tabI_map {kvs : List (Int × Value)} (T : TabI X.K d kvs) (I : Inv X pins σ H s) : s.heap.MapOf (PySem.intKind X.prog X.w) d (lookI kvs) := by
  obtain ⟨l, n, hl, t⟩ := T.at_
  refine ⟨_, l.toArray, n, I.kIn _ _ hl, ⟨rfl, rfl, rfl⟩, rfl, fun e he => ?_, fun k => t.find k⟩
  obtain ⟨i, tk, e1, e2⟩ := t.keys e (by simpa using he)
  exact ⟨i, by rw [e1]; exact PySem.intKind_is X.prog X.w i tk, e2⟩
theorem tabS_map {kvs : List (Str × Value)} (T : TabS X.K X.w d kvs) (I : Inv X pins σ H s) : s.heap.MapOf (PySem.strKind X.prog X.w) d (lookS kvs) := by
  obtain ⟨l, n, hl, t⟩ := T.at_
  refine ⟨_, l.toArray, n, I.kIn _ _ hl, ⟨rfl, rfl, rfl⟩, rfl, fun e he => ?_, fun k => t.find k⟩
  obtain ⟨i, tk, e1, e2⟩ := t.keys e (by simpa using he)
  exact ⟨i, by rw [e1]; exact PySem.strKind_is X.prog X.w i tk, e2⟩
theorem op_in_ti {kvs : List (Int × Value)} (T : TabI X.K d kvs) : OpR X (compareOp .In) (fun x y H Q => ∃ i, x = .int i ∧ y = .ref d ∧ Q (.bl (lookI kvs i).isSome) H) := by
  intro pins s σ H x y v u Q I rx ry h
  obtain ⟨i, rfl, rfl, q⟩ := h
  obtain ⟨t, rfl⟩ := rx
  cases ry
  exact wpAny_in_of (PySem.intKind_is X.prog X.w i t) T.low (tabI_map T I) ⟨.bl _, H, I.tok _, rfl, q⟩
theorem op_in_ts {kvs : List (Str × Value)} (T : TabS X.K X.w d kvs) : OpR X (compareOp .In) (fun x y H Q => ∃ z, x = .str z ∧ y = .ref d ∧ Q (.bl (lookS kvs z).isSome) H) := by
  intro pins s σ H x y v u Q I rx ry h
  obtain ⟨z, rfl, rfl, q⟩ := h
  obtain ⟨t, rfl⟩ := rx
  cases ry
  exact wpAny_in_of (PySem.strKind_is X.prog X.w z t) T.low (tabS_map T I) ⟨.bl _, H, I.tok _, rfl, q⟩
theorem ix_ti {kvs : List (Int × Value)} (T : TabI X.K d kvs) : IxR X (fun x y H Q => ∃ i u v, x = .ref d ∧ y = .int i ∧ lookI kvs i = some u ∧ RelV v u ∧ Q v H) := by
  intro value slice pins s σ H x y v u Q I rx ry h hs
  obtain ⟨i, u0, r, rfl, rfl, e, ru, q⟩ := h
  obtain rfl : v = Value.ref d := rx
  obtain ⟨t, rfl⟩ := ry
  have hm := tabI_map T I
  exact tail_any hm.typeIs slot_dict_getitem.lookup (wpAny_getItem_of (PySem.intKind_is X.prog X.w i t) hm e ⟨r, H, I.tok _, ru, q⟩) hs
theorem ix_ts {kvs : List (Str × Value)} (T : TabS X.K X.w d kvs) : IxR X (fun x y H Q => ∃ z u v, x = .ref d ∧ y = .str z ∧ lookS kvs z = some u ∧ RelV v u ∧ Q v H) := by
  intro value slice pins s σ H x y v u Q I rx ry h hs
  obtain ⟨z, u0, r, rfl, rfl, e, ru, q⟩ := h
  obtain rfl : v = Value.ref d := rx
  obtain ⟨t, rfl⟩ := ry
  have hm := tabS_map T I
  exact tail_any hm.typeIs slot_dict_getitem.lookup (wpAny_getItem_of (PySem.strKind_is X.prog X.w z t) hm e ⟨r, H, I.tok _, ru, q⟩) hs
end
/-! the tables of this program -/
theorem prime_tab {us : List Value} {v1 v2 v3 v4 v5 v6 : Value} (i : Int) : (lookI [(2, v1), (3, v2), (5, v3), (7, v4), (11, v5), (13, v6)] i).isSome = decide (i ∈ primesL) := by
  unfold lookI primesL
  by_cases h : i ∈ ([2, 3, 5, 7, 11, 13] : List Int)
  · rw [decide_eq_true h]
    simp only [List.mem_cons, List.not_mem_nil, or_false] at h
    rcases h with e | e | e | e | e | e <;> subst e <;> rfl
  · rw [decide_eq_false h]
    simp only [List.mem_cons, List.not_mem_nil, or_false, not_or] at h
    obtain ⟨a, b, c, d, e, f⟩ := h
    have z : ∀ j : Int, ¬ i = j → (j == i) = false := fun j q => by simp; exact fun y => q y.symm
    simp [List.find?, z 2 a, z 3 b, z 5 c, z 7 d, z 11 e, z 13 f]
def isArr (c : Nat) : Bool := c == 62 || c == 60
theorem arr_tab {v1 v2 : Value} (c : Nat) : (lookS [(">", v1), ("<", v2)] ⟨#[c]⟩).isSome = isArr c := by
  unfold lookS isArr
  by_cases h1 : c = 62
  · subst h1; rfl
  · by_cases h2 : c = 60
    · subst h2; rfl
    · have z1 : ((">" : Str) == (⟨#[c]⟩ : Str)) = false := by
        refine beq_eq_false_iff_ne.mpr fun e => h1 ?_
        have := congrArg (fun x : Str => x.cps[0]?) e
        exact (Option.some.inj this).symm
      have z2 : (("<" : Str) == (⟨#[c]⟩ : Str)) = false := by
        refine beq_eq_false_iff_ne.mpr fun e => h2 ?_
        have := congrArg (fun x : Str => x.cps[0]?) e
        exact (Option.some.inj this).symm
      simp [List.find?, z1, z2, h1, h2]
end Rw

set_option Elab.async false
set_option linter.all false
set_option maxRecDepth 100000
set_option maxHeartbeats 4000000
/-! TkT: rows as data: patterns, sizes, matrices; the promises of the program's defs about them. -/
namespace Rw
open PySem PySem.Spec PyProof.Rows L2

def intN : PyData → Int
  | .int n => n | _ => 0
def isPatD : PyData → Bool
  | .str x => decide (x.length ≤ 6) && x.cps.toList.all isArr
  | _ => false
def aboveD (n : Int) : PyData → Bool
  | .int l => decide (l ≤ n)
  | _ => true
def belowD (n : Int) : PyData → Bool
  | .int l => decide (n ≤ l)
  | _ => true
def inB : PyData → PyData → PyData → Bool
  | .int n, l, h => aboveD n l && belowD n h
  | _, _, _ => false
def isSzD (d : PyData) : Bool := inB d (.int 0) (.int 6)
def sizesOk (k : Nat) (d : PyData) : Bool := isSeqD d && (decide ((itemsD d).length = k + 1) && (itemsD d).all isSzD)
def mapsOk (k : Nat) (d : PyData) : Bool := isSeqD d && decide ((itemsD d).length = k)
def atD (d : PyData) (i : Nat) : PyData := (itemsD d)[i]?.getD .none
def isR (x : Str) (i : Nat) : Bool := x.cps.toList[i]? == some 62
def stA (x : Str) (i : Nat) : Nat := if isR x i then i else i + 1
def goA (x : Str) (i : Nat) : Nat := if isR x i then i + 1 else i
def szL (d : PyData) (i : Nat) : Int := intN (atD d i)
def matOk (x : Str) (ds dm : PyData) (i : Nat) : Bool := isMatD (szL ds (stA x i)) (szL ds (goA x i)) (atD dm i)
def badAt (x : Str) (ds dm : PyData) : Option Nat := (List.range x.length).find? fun i => !matOk x ds dm i
/-- the items modulo p -/
def modD (p : Int) : PyData → PyData
  | .int n => .int (n.fmod p) | d => d
def rowsM (p : Int) (m : PyData) : List PyData := (itemsD m).map fun r => .tuple ((itemsD r).map (modD p))
structure FitM (d : PyData) : Prop where
  len : (itemsD d).length ≤ 1000
  sub : ∀ e, e ∈ itemsD d → Fit e
theorem atD_fit {d : PyData} (f : FitM d) {i : Nat} (h : i < (itemsD d).length) : Fit (atD d i) := by
  unfold atD
  rw [List.getElem?_eq_getElem h]
  exact f.sub _ (List.getElem_mem h)
/-- a row: an instance of the class at C -/
def RowAt (C : Addr) (H : Hp) (a : Addr) (x : Str) (p : Int) (ss : List PyData) (mm : List (List PyData)) : Prop :=
  ∃ dx ts tm, H a = some (.ins C dx [("_pattern", .str x), ("_prime", .int p), ("_sizes", .ref ts), ("_maps", .ref tm)]) ∧ Any H (.ref ts) (.tuple ss) ∧ Any H (.ref tm) (.tuple (mm.map .tuple))
theorem RowAt.keep {C a : Addr} {H H' : Hp} {x : Str} {p : Int} {ss : List PyData} {mm : List (List PyData)} (r : RowAt C H a x p ss mm) (k : Same H H') : RowAt C H' a x p ss mm := by
  obtain ⟨dx, ts, tm, h1, h2, h3⟩ := r
  exact ⟨dx, ts, tm, k _ _ h1, h2.keep k, h3.keep k⟩

/-! ### the promises -/
def spNum : Sp := fun vs H Q _ => ∃ v d, vs = [v] ∧ Any H v d ∧ Q (.bl (isIntD d)) H
def spInt : Sp := fun vs H Q _ => ∃ v l h d dl dh, vs = [v, l, h] ∧ Any H v d ∧ Any H l dl ∧ Any H h dh ∧ Q (.bl (inB d dl dh)) H
def spPrime : Sp := fun vs H Q _ => ∃ v d, vs = [v] ∧ Any H v d ∧ Q (.bl (isPr d)) H
def spCheck (CP : Addr) : Sp := fun vs H Q E => ∃ v d, vs = [v] ∧ Any H v d ∧ (isPr d = true → Q .non H) ∧ (isPr d = false → Thrown CP v H E)
def spList : Sp := fun vs H Q _ => ∃ v d, vs = [v] ∧ Any H v d ∧ ∀ H', Same H H' → Q (.bl (isSeqD d)) H'
def spVec : Sp := fun vs H Q _ => ∃ v d n, vs = [v, .int n] ∧ Any H v d ∧ (itemsD d).length ≤ 1000 ∧ ∀ H', Same H H' → Q (.bl (isVecD n d)) H'
def spMat : Sp := fun vs H Q _ => ∃ v d h w, vs = [v, .int h, .int w] ∧ Any H v d ∧ Fit d ∧ ∀ H', Same H H' → Q (.bl (isMatD h w d)) H'
theorem seq_flag {v : V} {H : Hp} {d : PyData} (h : Any H v d) : (isSeqD d = true ∧ ∃ (k : Bool) (a : Addr) (xs : List V), v = .ref a ∧ (∀ {H' : Hp}, Same H H' → ∀ K, SqB K H' k a xs) ∧ AnyL H xs (itemsD d)) ∨ isSeqD d = false := by
  cases e : isSeqD d with
  | true => exact .inl ⟨rfl, seq_of h e⟩
  | false => exact .inr rfl
theorem Thrown.mono {C : Addr} {v : V} {H H1 : Hp} {E : XK} (h : Thrown C v H E) (k : Same H H1) : Thrown C v H1 E := fun d H' s hd hx => h d H' (k.trans s) (k.free hd) hx
/-- texts that are asked are no longer than a line -/
def Short (d : PyData) : Prop := ∀ x, d = .str x → x.length ≤ 1000
def spPat : Sp := fun vs H Q _ => ∃ v d, vs = [v] ∧ Any H v d ∧ Short d ∧ ∀ H', Same H H' → Q (.bl (isPatD d)) H'
def spCPat (CT : Addr) : Sp := fun vs H Q E => ∃ v d, vs = [v] ∧ Any H v d ∧ Short d ∧ (isPatD d = true → ∀ H', Same H H' → Q .non H') ∧ (isPatD d = false → Thrown CT v H E)
def spCSz (CZ : Addr) : Sp := fun vs H Q E => ∃ x v d, vs = [.str x, v] ∧ x.length ≤ 6 ∧ Any H v d ∧ (itemsD d).length ≤ 1000 ∧ (sizesOk x.length d = true → ∀ H', Same H H' → Q .non H') ∧ (sizesOk x.length d = false → Thrown CZ v H E)
def spWay : Sp := fun vs H Q _ => ∃ (x : Str) (i : Nat), vs = [.str x, .int (i : Int)] ∧ i < x.length ∧ x.length ≤ 6 ∧ ∀ t H', H t = none → Same H H' → H' t = some (.tup [.int (stA x i : Nat), .int (goA x i : Nat)]) → Q (.ref t) H'
def spCMaps (CA CM : Addr) : Sp := fun vs H Q E => ∃ x va vm ds dm, vs = [.str x, va, vm] ∧ x.length ≤ 6 ∧ Any H va ds ∧ sizesOk x.length ds = true ∧ Any H vm dm ∧ FitM dm ∧
  (mapsOk x.length dm = false → Thrown CA vm H E) ∧ (mapsOk x.length dm = true → (∀ i v H1, badAt x ds dm = some i → Same H H1 → Any H1 v (atD dm i) → Thrown CM v H1 E) ∧ (badAt x ds dm = none → ∀ H', Same H H' → Q .non H'))
/-- what Row(pattern, prime, sizes, maps) asks and tells -/
structure RowIn (H : Hp) (vp vq va vm : V) (dp dq ds dm : PyData) : Prop where
  ap : Any H vp dp
  aq : Any H vq dq
  as : Any H va ds
  am : Any H vm dm
  sp : Short dp
  ls : (itemsD ds).length ≤ 1000
  fm : FitM dm
structure RowErr (CT CP CZ CA CM : Addr) (H : Hp) (E : XK) (vp vq va vm : V) (dp dq ds dm : PyData) : Prop where
  pat : isPatD dp = false → Thrown CT vp H E
  pri : isPatD dp = true → isPr dq = false → Thrown CP vq H E
  siz : ∀ x, dp = .str x → isPatD dp = true → isPr dq = true → sizesOk x.length ds = false → Thrown CZ va H E
  map : ∀ x, dp = .str x → isPatD dp = true → isPr dq = true → sizesOk x.length ds = true → mapsOk x.length dm = false → Thrown CA vm H E
  mat : ∀ x i v H1, dp = .str x → isPatD dp = true → isPr dq = true → sizesOk x.length ds = true → mapsOk x.length dm = true → badAt x ds dm = some i → Same H H1 → Any H1 v (atD dm i) → Thrown CM v H1 E
def rowGood (x : Str) (p : Int) (ds dm : PyData) : Bool := isPatD (.str x) && (isPr (.int p) && (sizesOk x.length ds && (mapsOk x.length dm && (badAt x ds dm).isNone)))
def spIniR (C CT CP CZ CA CM : Addr) : Sp := fun vs H Q E => ∃ a dx vp vq va vm dp dq ds dm, vs = [.ref a, vp, vq, va, vm] ∧ H a = some (.ins C dx []) ∧ RowIn H vp vq va vm dp dq ds dm ∧ RowErr CT CP CZ CA CM H E vp vq va vm dp dq ds dm ∧
  ∀ x p H', dp = .str x → dq = .int p → rowGood x p ds dm = true → Grow a H H' → RowAt C H' a x p (itemsD ds) ((itemsD dm).map (rowsM p)) → Q .non H'
/-- the same of the call Row(..) -/
def tRowMk (C CT CP CZ CA CM : Addr) (H : Hp) (vs : List V) (Q : VK) (E : XK) : Prop := ∃ vp vq va vm dp dq ds dm, vs = [vp, vq, va, vm] ∧ RowIn H vp vq va vm dp dq ds dm ∧ RowErr CT CP CZ CA CM H E vp vq va vm dp dq ds dm ∧
  ∀ x p a H', dp = .str x → dq = .int p → rowGood x p ds dm = true → H a = none → Same H H' → RowAt C H' a x p (itemsD ds) ((itemsD dm).map (rowsM p)) → Q (.ref a) H'
theorem row_make {C CT CP CZ CA CM : Addr} {H : Hp} {vs : List V} {Q : VK} {E : XK} (h : tRowMk C CT CP CZ CA CM H vs Q E) : ∀ x dx, H x = none → H dx = none → dx ≠ x →
    spIniR C CT CP CZ CA CM (.ref x :: (vs ++ [])) (upd (upd H dx (.own x)) x (.ins C dx [])) (fun v H2 => v = .non ∧ Q (.ref x) H2) E := by
  obtain ⟨vp, vq, va, vm, dp, dq, ds, dm, rfl, i, e, q⟩ := h
  intro x dx hx hd ne
  have k1 : Same H (upd H dx (.own x)) := same_new hd
  have h2 : (upd H dx (.own x)) x = none := by rw [upd_ne ne.symm]; exact hx
  have k : Same H (upd (upd H dx (.own x)) x (.ins C dx [])) := k1.trans (same_new h2)
  refine ⟨x, dx, vp, vq, va, vm, dp, dq, ds, dm, rfl, upd_same, ⟨i.ap.keep k, i.aq.keep k, i.as.keep k, i.am.keep k, i.sp, i.ls, i.fm⟩, ⟨fun z => (e.pat z).mono k, fun z y => (e.pri z y).mono k, fun a b c d f => (e.siz a b c d f).mono k, fun a b c d f g => (e.map a b c d f g).mono k, fun y j v H1 h1 h2 h3 h4 h5 h6 h7 h8 => e.mat y j v H1 h1 h2 h3 h4 h5 h6 (k.trans h7) h8⟩, ?_⟩
  · intro y p H' e1 e2 g gr ra
    refine ⟨rfl, q y p x H' e1 e2 g hx (fun b o eb => ?_) ra⟩
    have nb : b ≠ x := ne_of_none eb hx
    exact gr b o nb (k _ _ eb)
end Rw

set_option Elab.async false
set_option linter.all false
set_option maxRecDepth 100000
set_option maxHeartbeats 4000000
/-! TkU: data over heaps in which an object that is no data changes; data without lists; tuples and lists made of data. -/
namespace Rw
open PySem PySem.Spec PyProof.Rows L2
/-- what is data stays -/
structure Keeps (H H' : Hp) : Prop where
  l : ∀ b xs, H b = some (.lst xs) → H' b = some (.lst xs)
  t : ∀ b xs, H b = some (.tup xs) → H' b = some (.tup xs)
  d : ∀ b kvs, H b = some (.dK kvs) → H' b = some (.dK kvs)
mutual
theorem any_keeps {H H' : Hp} (k : Keeps H H') : ∀ (d : PyData) (v : V), Any H v d → Any H' v d
  | .none, _, h => by cases h; exact .non
  | .bool b, _, h => by cases h; exact .bl b
  | .int i, _, h => by cases h; exact .int i
  | .str x, _, h => by cases h; exact .str x
  | .list ds, _, h => by
    cases h with
    | lst e a => exact .lst (k.l _ _ e) (anyL_keeps k ds _ a)
  | .tuple ds, _, h => by
    cases h with
    | tup e a => exact .tup (k.t _ _ e) (anyL_keeps k ds _ a)
  | .dict ds, _, h => by
    cases h with
    | dct e a => exact .dct (k.d _ _ e) (anyK_keeps k ds _ a)
theorem anyL_keeps {H H' : Hp} (k : Keeps H H') : ∀ (ds : List PyData) (vs : List V), AnyL H vs ds → AnyL H' vs ds
  | [], _, h => by cases h; exact .nil
  | d :: ds, _, h => by
    cases h with
    | cons a b => exact .cons (any_keeps k d _ a) (anyL_keeps k ds _ b)
theorem anyK_keeps {H H' : Hp} (k : Keeps H H') : ∀ (ds : List (PyData × PyData)) (vs : List (Key × V)), AnyK H vs ds → AnyK H' vs ds
  | [], _, h => by cases h; exact .nil
  | (_, d) :: ds, _, h => by
    cases h with
    | cons a b => exact .cons (any_keeps k d _ a) (anyK_keeps k ds _ b)
end
theorem Keeps.refl {H : Hp} : Keeps H H := ⟨fun _ _ z => z, fun _ _ z => z, fun _ _ z => z⟩
theorem Keeps.trans {H H1 H2 : Hp} (a : Keeps H H1) (b : Keeps H1 H2) : Keeps H H2 := ⟨fun c xs z => b.l c xs (a.l c xs z), fun c xs z => b.t c xs (a.t c xs z), fun c xs z => b.d c xs (a.d c xs z)⟩
theorem Keeps.of {H H' : Hp} (k : Same H H') : Keeps H H' := ⟨fun b _ e => k b _ e, fun b _ e => k b _ e, fun b _ e => k b _ e⟩
theorem keeps_ins {H H' : Hp} {a C dx : Addr} {fs : List (Str × V)} (e : H a = some (.ins C dx fs)) (g : Grow a H H') : Keeps H H' := by
  have ne : ∀ b o, H b = some o → (∀ fs', o ≠ .ins C dx fs') → b ≠ a := fun b o h n z => by
    rw [z, e] at h
    exact n fs (Option.some.inj h).symm
  exact ⟨fun b xs h => g b _ (ne b _ h fun _ z => nomatch z) h, fun b xs h => g b _ (ne b _ h fun _ z => nomatch z) h, fun b xs h => g b _ (ne b _ h fun _ z => nomatch z) h⟩
theorem Any.keeps {H H' : Hp} {v : V} {d : PyData} (h : Any H v d) (k : Keeps H H') : Any H' v d := any_keeps k d v h
mutual
/-- no list and no dict in it -/
def noL : PyData → Bool
  | .list _ => false
  | .dict _ => false
  | .tuple ds => noLs ds
  | _ => true
def noLs : List PyData → Bool
  | [] => true
  | d :: ds => noL d && noLs ds
end
theorem noLs_of : ∀ {ds : List PyData}, (∀ d, d ∈ ds → noL d = true) → noLs ds = true
  | [], _ => rfl
  | d :: ds, h => by
    show (noL d && noLs ds) = true
    rw [h d List.mem_cons_self, noLs_of fun e he => h e (List.mem_cons_of_mem _ he)] <;> rfl
mutual
theorem any_noL {H : Hp} {D : Addr} {xs : List V} (h : H D = some (.lst xs)) : ∀ (d : PyData) (v : V), Any H v d → noL d = true → Any (del H D) v d
  | .none, _, a, _ => by cases a; exact .non
  | .bool b, _, a, _ => by cases a; exact .bl b
  | .int i, _, a, _ => by cases a; exact .int i
  | .str x, _, a, _ => by cases a; exact .str x
  | .list ds, _, _, z => by cases z
  | .dict ds, _, _, z => by cases z
  | .tuple ds, _, a, z => by
    cases a with
    | tup e b =>
      rename_i q ys
      have ne : q ≠ D := fun y => by
        rw [y, h] at e
        cases e
      exact .tup (by rw [del_ne ne]; exact e) (anyL_noL h ds _ b z)
theorem anyL_noL {H : Hp} {D : Addr} {xs : List V} (h : H D = some (.lst xs)) : ∀ (ds : List PyData) (vs : List V), AnyL H vs ds → noLs ds = true → AnyL (del H D) vs ds
  | [], _, a, _ => by cases a; exact .nil
  | d :: ds, _, a, z => by
    have z2 : (noL d && noLs ds) = true := z
    rw [Bool.and_eq_true] at z2
    cases a with
    | cons a b => exact .cons (any_noL h d _ a z2.1) (anyL_noL h ds _ b z2.2)
end
/-- a comprehension that makes data without lists -/
theorem lc_tup {J : It} {n : Nat} {G : Hp → Prop} {P : Nat → V → Prop} (w : Walk J n G (fun i H x H' => H' = H ∧ P i x)) {j : Nat} {σ : L2.St} {vs : List Nat} {te : TE} {H1 : Hp} {D : Addr} {Q : Hp → Prop} (hn : n ≤ 1000) (hD : H1 D = none) (hG : ∀ H, Same H1 H → G H) (f : Nat → PyData)
    (nf : ∀ i, i < n → noL (f i) = true)
    (hs : ∀ i x H, i < n → P i x → Same H1 H → (∃ o, H D = some o) → wipe ((wipe σ vs).set j (some x)) vs = wipe σ vs ∧ ∀ k : VK, (∀ y H', Same H H' → Any H' y (f i) → k y H') → te ((wipe σ vs).set j (some x)) H k)
    (hq : ∀ H acc, Same H1 H → H D = some (.lst acc) → AnyL (del H D) acc ((List.range n).map f) → Q H) :
    ∃ W : Nat → Nat → Hp → Prop, (∃ m, W 0 m (upd H1 D (.lst []))) ∧ ∀ i m H, W i m H →
      (J.stop i H ∧ Q H) ∨ (J.go i H ∧ ∃ Nx : Hp → Prop, (∀ H', Nx H' → ∃ m', m' < m ∧ W (i + 1) m' H') ∧ ∀ x H', J.yld i H x H' → gName j x (wipe σ vs) H' fun σ2 H2 => wipe σ2 vs = wipe σ vs ∧ tYes σ2 H2 fun b H3 =>
        if b = true then te σ2 H3 fun y H4 => ∃ acc, H4 D = some (.lst acc) ∧ acc.length < sizeLine ∧ Nx (upd H4 D (.lst (acc ++ [y]))) else Nx H3) := by
  refine lc_it w (Qd := Q) (Pv := fun i H => Same H1 H ∧ ∃ acc, H D = some (.lst acc) ∧ acc.length = i ∧ AnyL (del H D) acc ((List.range i).map f)) ⟨same_new hD, [], upd_same, rfl, .nil⟩ (fun i H _ h => hG H h.1) ?_ ?_
  · rintro i x H H' hi ⟨s1, acc, ha, hl, an⟩ ⟨rfl, hp⟩
    obtain ⟨e1, e2⟩ := hs i x H' hi hp s1 ⟨_, ha⟩
    refine ⟨e1, ?_⟩
    show te _ _ _
    refine e2 _ fun y H4 s2 hy => ?_
    have h4 := s2 _ _ ha
    refine ⟨acc, h4, Nat.lt_of_lt_of_le (by omega : acc.length < 1000) (by decide), ?_, acc ++ [y], upd_same, by rw [List.length_append, hl] <;> rfl, ?_⟩
    · intro b o e
      have ne : b ≠ D := ne_of_none e hD
      rw [upd_ne ne]
      exact s2 _ _ (s1 _ _ e)
    · rw [del_upd, List.range_succ, List.map_append]
      exact anyL_snoc (anyL_keep (Grow.del (Grow.of s2)) an) (any_noL h4 _ _ hy (nf i hi))
  · rintro H ⟨s1, acc, ha, hl, an⟩
    exact hq H acc s1 ha an
abbrev rTupOf (K : PySem.W.Frag) : List V → Hp → VK → Prop := fun xs H Q => ∃ p ys, xs = [.ref p] ∧ ((SqL K H p ys ∧ ∀ l, H l = none → Q (.ref l) (upd H l (.tup ys))) ∨ (SqT K H p ys ∧ Q (.ref p) H))
abbrev rLstOf (K : PySem.W.Frag) : List V → Hp → VK → Prop := fun xs H Q => ∃ p ys, xs = [.ref p] ∧ (SqL K H p ys ∨ SqT K H p ys) ∧ ∀ l, H l = none → Q (.ref l) (upd H l (.lst ys))
section
variable {K : PySem.W.Frag} {H : Hp} {v : V} {d : PyData} {Q : VK}
/-- tuple(x) -/
theorem tup_of_any (an : Any H v d) (e : isSeqD d = true) (q : ∀ ts H', Same H H' → Any H' (.ref ts) (.tuple (itemsD d)) → Q (.ref ts) H') : rTupOf K [v] H Q := by
  cases an with
  | lst ea al => exact ⟨_, _, rfl, .inl ⟨SqL.of ea, fun l hl => q l _ (same_new hl) (.tup upd_same (anyL_keep (same_new hl) al))⟩⟩
  | tup ea al => exact ⟨_, _, rfl, .inr ⟨SqT.of ea, q _ _ (fun _ _ z => z) (.tup ea al)⟩⟩
  | _ => cases e
/-- list(x) -/
theorem list_of_any (an : Any H v d) (e : isSeqD d = true) (q : ∀ l ys, H l = none → AnyL H ys (itemsD d) → Q (.ref l) (upd H l (.lst ys))) : rLstOf K [v] H Q := by
  cases an with
  | lst ea al => exact ⟨_, _, rfl, .inl (SqL.of ea), fun l hl => q l _ hl al⟩
  | tup ea al => exact ⟨_, _, rfl, .inr (SqT.of ea), fun l hl => q l _ hl al⟩
  | _ => cases e
end
/-- tuple(x), list(x) of data -/
def rTupA : List V → Hp → VK → Prop := fun xs H Q => ∃ v d, xs = [v] ∧ Any H v d ∧ isSeqD d = true ∧ ∀ ts H', Same H H' → Any H' (.ref ts) (.tuple (itemsD d)) → Q (.ref ts) H'
def rLstA : List V → Hp → VK → Prop := fun xs H Q => ∃ v d, xs = [v] ∧ Any H v d ∧ isSeqD d = true ∧ ∀ l ys, H l = none → AnyL H ys (itemsD d) → Q (.ref l) (upd H l (.lst ys))
theorem call_tupA {X : Cx} : CallR X (.type "tuple") rTupA := by
  intro pins s σ H xs us Q I r h
  obtain ⟨v, d, rfl, an, e, q⟩ := h
  exact call_tuple_of pins s σ H _ us Q I r (tup_of_any an e q)
theorem call_lstA {X : Cx} : CallR X (.type "list") rLstA := by
  intro pins s σ H xs us Q I r h
  obtain ⟨v, d, rfl, an, e, q⟩ := h
  exact call_list_of pins s σ H _ us Q I r (list_of_any an e q)
theorem noL_mods {p : Int} {ds : List PyData} (h : ds.all isIntD = true) : noLs (ds.map (modD p)) = true := by
  refine noLs_of fun d hd => ?_
  obtain ⟨e, he, rfl⟩ := List.mem_map.mp hd
  have := List.all_eq_true.mp h e he
  cases e with
  | int n => rfl
  | _ => cases this
theorem vec_parts {n : Int} {d : PyData} (e : isVecD n d = true) : isSeqD d = true ∧ (((itemsD d).length : Nat) : Int) = n ∧ (itemsD d).all isIntD = true := by
  unfold isVecD at e
  simp only [Bool.and_eq_true, decide_eq_true_eq] at e
  exact e
theorem mat_parts {n m : Int} {d : PyData} (e : isMatD n m d = true) : isSeqD d = true ∧ (((itemsD d).length : Nat) : Int) = n ∧ ∀ x, x ∈ itemsD d → isVecD m x = true := by
  unfold isMatD at e
  simp only [Bool.and_eq_true, decide_eq_true_eq, List.all_eq_true] at e
  exact e
theorem noL_rows {p h w : Int} {m : PyData} (e : isMatD h w m = true) : noLs (rowsM p m) = true := by
  refine noLs_of fun d hd => ?_
  obtain ⟨r, hr, rfl⟩ := List.mem_map.mp hd
  exact noL_mods (vec_parts ((mat_parts e).2.2 r hr)).2.2
theorem bad_none_all {x : Str} {ds dm : PyData} (h : badAt x ds dm = none) : ∀ j, j < x.length → matOk x ds dm j = true := by
  intro j hj
  unfold badAt at h
  rw [List.find?_eq_none] at h
  have := h j (List.mem_range.mpr hj)
  simpa using this
end Rw

set_option Elab.async false
set_option linter.all false
set_option maxRecDepth 100000
set_option maxHeartbeats 4000000
/-! TkY: ranges as values, walked; methods called in a try's body; bars as data. -/
namespace Rw
open PySem PySem.Spec PyProof.Rows L2
section
variable {X : Cx}
theorem cr_range1 : CallR X (.type "range") (fun vs H Q => ∃ j, vs = [V.int j] ∧ ∀ p, H p = none → Q (.ref p) (upd H p (.rng 0 j))) := by
  intro pins s σ H vs us Q I r h
  obtain ⟨j, rfl, q⟩ := h
  obtain ⟨u1, rfl, rj⟩ := vals1 r
  obtain ⟨t, rfl⟩ := rj
  refine call_range_1 ⟨.ref s.heap.objs.size, upd H s.heap.objs.size (.rng 0 j), I.laid (t' := s.toks + 1 + 1) (fun b o e => Heap.get?_push_of_some _ e) (Nat.le_refl _) ?_, rfl, q _ (I.hok.fresh (Nat.le_refl _))⟩
  exact ⟨s.toks, t, s.toks + 1, Heap.get?_push_size _ rfl⟩
def iRngV (te : TE) : TI := fun σ H R => te σ H fun x H1 => ∃ a lo hi, x = .ref a ∧ H1 a = some (.rng lo hi) ∧ (-(2 ^ 62) ≤ lo ∧ lo < 2 ^ 62 ∧ -(2 ^ 62) ≤ hi ∧ hi < 2 ^ 62) ∧ R (Itr lo (hi - lo).toNat) H1
theorem pi_rngV {tg e : Expr} {te : TE} (he : PE X e te) : PI X tg e (iRngV te) := by
  refine ⟨fun pins s σ H R I h => ?_⟩
  refine thn (he.run pins s σ H _ I h) fun v s1 ⟨x, H1, I1, r1, q1⟩ => ?_
  obtain ⟨a, lo, hi, e, ea, ⟨h1, h2, h3, h4⟩, q⟩ := q1
  subst e
  cases r1
  obtain ⟨t, u, v, hg⟩ := (show ObjOk X.prog X.w H1 s1.heap a (.rng lo hi) from I1.hok a _ ea)
  refine wpAny_pyIter_range (show IsRange s1.heap a lo hi 1 t u v from hg) (small_one h1 h2 h3 h4) ?_
  refine ⟨s1.heap.objs.size, [s1.heap.objs.size], _, _, H1, rfl, I1.kept (t' := s1.toks) fun b o e => Heap.get?_push_of_some _ e, turn_range _ lo (hi - lo).toNat, ?_, fun b hb => ?_, q⟩
  · have e1 : lo + ((0 : Nat) : Int) * 1 = lo := by simp
    have e2 : (((hi - lo).toNat : Nat) : Int) - ((0 : Nat) : Int) = Builtin.Range.rangeSize lo hi 1 := by rw [rangeSize_one]; split <;> omega
    show IsRangeIter _ _ (lo + ((0 : Nat) : Int) * 1) ((((hi - lo).toNat : Nat) : Int) - ((0 : Nat) : Int)) 1
    rw [e1, e2]
    exact Heap.get?_push_size _ rfl
  · have e : b = s1.heap.objs.size := by simpa using hb
    subst e
    exact I1.fpOk (Nat.le_refl _) (I1.hok.fresh (Nat.le_refl _))
end
section
variable {X : Cx} {CX : CXT} {k : Nat} {f C : Addr} {fd : FuncData} {ps : List Str} {sp : Sp} {dvs : List V} {ds : List Value} {m : Str} {p pos apos : Pos} {e o : Expr} {es : List Expr} {ta : TE} {t : TA}
/-- o.m(e, ..) in a try's body: what is raised is wished for at the slots -/
def tMethS (C : Addr) (m : Str) (sp : Sp) (dvs : List V) (W : WX) (ta : TE) (t : TA) : TE := fun σ H Q => ta σ H fun x H1 => ∃ a dx fs, x = .ref a ∧ H1 a = some (.ins C dx fs) ∧ fs.lookup m = none ∧ t σ H1 fun vs H2 => sp (x :: (vs ++ dvs)) H2 Q (fun cls d H' => W cls d σ H')
theorem run_ownS {W : WX} {pins : List (Addr × Obj)} {σ : L2.St} {H : Hp} {s : Shared} {Q : VK} {us : List Value} {vs : List V} (F : FnOk X.prog X.w X.K X.mg X.base CX k f fd ps sp) (hr : Room k X.A) (hb : Binds X.K fd ps ds) (hd : Vals dvs ds) (hx : PassesAt CX X σ (fun cls d H' => W cls d σ H'))
    (I : Inv X pins σ H s) (r : Vals vs us) (h : sp (vs ++ dvs) H Q (fun cls d H' => W cls d σ H')) : wpAny (model X.prog X.w) X.A (call (.ref f) us) (EP X pins σ Q) X.xe s := by
  have r2 : Vals (vs ++ dvs) (us ++ ds) := Vals.append r hd
  have cnt : (us ++ ds).length = ps.length := (r2.length).symm.trans (F.len _ _ _ _ h)
  refine wpAny_call (codeAny_mono (F.run X.A X.stack s H ⟨us, []⟩ (us ++ ds) (vs ++ dvs) Q _ hr I.env0 (hb s us I.kIn cnt) r2 h) ?_)
  intro res s2 hq
  cases res with
  | error er => exact hx pins H s er s2 I hq
  | ok fl =>
    cases fl with
    | ret u => exact Inv.after I hq
    | next => exact hq.elim
    | brk => exact hq.elim
    | cont => exact hq.elim
theorem pe_methS {W : WX} {pl : Sem Bool} (he : PE X o ta) (c : Cls X.K C) (hm : Meth X.K C m f) (F : FnOk X.prog X.w X.K X.mg X.base CX k f fd ps sp) (hr : Room k X.A) (hb : Binds X.K fd ps ds) (hd : Vals dvs ds) (hx : ∀ σ, PassesAt CX X σ (fun cls d H' => W cls d σ H')) (ha : PA X (e :: es) t)
    (hst : starEach (e :: es) X.env = (false, eval e X.env) :: starEach es X.env := by rfl) (hpl : (backTo pos (starEach es X.env)).any (·.1) = false := by rfl)
    (ht : eval (.Call (.Attribute o m apos) (e :: es) [] pos) X.env = (do
      let ov ← eval o X.env
      standAt apos.atName
      let (f, first) ← holding [ov] (getMethod ov m pl)
      callWith pos f first (backTo pos (starEach (e :: es) X.env)) (backToKw pos (keywordEach [] X.env))) := by rfl) :
    PE X (.Call (.Attribute o m apos) (e :: es) [] pos) (tMethS C m sp dvs W ta t) := by
  refine ⟨fun pins s σ H Q I h => ?_⟩
  refine PySem.W.methodCall_KW (pl := pl) (thn (he.run pins s σ H _ I h) fun u s1 ⟨x, H1, I1, rx, a, dx, fs, ex, ea, l, q⟩ => ?_) ht
  subst ex
  obtain rfl : u = Value.ref a := rx
  refine getmeth_ok I1 ea c hm l ?_
  refine PySem.W.callWith_K (first := [.ref a]) (h₀ := X.base) I.ok.mod.kin hm.kp (thn (ha.run pos pins s1 σ H1 _ I1 q) fun us s2 ⟨vs, H2, I2, r, q2⟩ => ⟨I2.kIn, ?_⟩) hst hpl
  exact run_ownS (us := .ref a :: us) (vs := .ref a :: vs) F hr hb hd (hx σ) I2 (.cons rfl r) q2
theorem run_makeS {W : WX} {pins : List (Addr × Obj)} {σ : L2.St} {H : Hp} {s : Shared} {Q : VK} {us : List Value} {vs : List V} (M : Mk X.K C f) (F : FnOk X.prog X.w X.K X.mg X.base CX k f fd ps sp) (hr : Room (k + 1) X.A) (hb : Binds X.K fd ps ds) (hd : Vals dvs ds)
    (hx : ∀ σ, PassesAt CX X σ (fun cls d H' => W cls d σ H')) (I : Inv X pins σ H s) (r : Vals vs us)
    (h : ∀ x dx, H x = none → H dx = none → dx ≠ x → sp (.ref x :: (vs ++ dvs)) (upd (upd H dx (.own x)) x (.ins C dx [])) (fun v H2 => v = .non ∧ Q (.ref x) H2) (fun cls d H' => W cls d σ H')) :
    wpAny (model X.prog X.w) X.A (call (.ref C) us) (EP X pins σ Q) X.xe s := by
  have hq := h (s.heap.objs.size + 1) s.heap.objs.size (I.hok.fresh (Nat.le_succ _)) (I.hok.fresh (Nat.le_refl _)) (Nat.ne_of_lt (Nat.lt_succ_self _))
  have I2 := Inv.made (C := C) I
  have r2 : Vals (V.ref (s.heap.objs.size + 1) :: (vs ++ dvs)) (Value.ref (s.heap.objs.size + 1) :: (us ++ ds)) := .cons rfl (r.append hd)
  have hl : (Value.ref (s.heap.objs.size + 1) :: us ++ ds).length = ps.length := by
    have e := r2.length
    rw [F.len _ _ _ _ hq] at e
    exact e.symm
  refine wpAny_call (make_map (f := f) I.kIn M.makes M.init (beq_iff_eq.mp M.fn) (codeAny_mono (F.run _ X.stack _ _ ⟨Value.ref (s.heap.objs.size + 1) :: us, []⟩ (Value.ref (s.heap.objs.size + 1) :: (us ++ ds)) _ _ _ (hr.make C us [])
    (I2.env0.make C us []) (hb _ (Value.ref (s.heap.objs.size + 1) :: us) I2.kIn hl) r2 hq) fun r s' hq' => ?_))
  cases r with
  | error e => exact hx σ pins _ _ e s' I2 hq'
  | ok fl =>
    cases fl with
    | ret u =>
      obtain ⟨v, H', I3, rv, ev, q3⟩ := I2.after hq'
      subst ev
      exact ⟨rv, ⟨V.ref (s.heap.objs.size + 1), H', I3, rfl, q3⟩⟩
    | next => exact False.elim hq'
    | brk => exact False.elim hq'
    | cont => exact False.elim hq'
/-- C(e, ..) in a try's body -/
def tMakeS (C : Addr) (sp : Sp) (dvs : List V) (W : WX) (t : TA) : TE := fun σ H Q => t σ H fun vs H1 => ∀ x dx, H1 x = none → H1 dx = none → dx ≠ x → sp (.ref x :: (vs ++ dvs)) (upd (upd H1 dx (.own x)) x (.ins C dx [])) (fun v H2 => v = .non ∧ Q (.ref x) H2) (fun cls d H' => W cls d σ H')
theorem pe_makeS {x : Str} {W : WX} (M : Mk X.K C f) (F : FnOk X.prog X.w X.K X.mg X.base CX k f fd ps sp) (hr : Room (k + 1) X.A) (hg : Gl X x) (hm : X.mg x = some (.ref C)) (hb : Binds X.K fd ps ds) (hd : Vals dvs ds) (hx : ∀ σ, PassesAt CX X σ (fun cls d H' => W cls d σ H'))
    (ha : PA X (e :: es) t) (hdb : (x == ("__debug__" : Str)) = false := by decide) (he : starEach (e :: es) X.env = (false, eval e X.env) :: starEach es X.env := by rfl) (hpl : (backTo pos (starEach es X.env)).any (·.1) = false := by rfl) :
    PE X (.Call (.Name x p) (e :: es) [] pos) (tMakeS C sp dvs W t) := by
  refine ⟨fun pins s σ H Q I h => ?_⟩
  refine wpAny_Call_Name_kw (ld_glob I hg hm ?_ hdb)
  refine PySem.W.callWith_K (h₀ := X.base) I.ok.mod.kin M.kp (thn (ha.run pos pins s σ H _ I h) fun us s1 ⟨vs, H1, I1, r, q⟩ => ⟨I1.kIn, ?_⟩) he hpl
  exact run_makeS M F hr hb hd hx I1 r q
end
/-! ### bars -/
def barD (q : Nat × Nat) : PyData := .tuple [.int (q.1 : Nat), .int (q.2 : Nat)]
def partL (a j : Nat) : List (Nat × Nat) := ((List.range j).filter fun b => decide (a ≤ b)).map fun b => (a, b)
def preL (n i : Nat) : List (Nat × Nat) := (List.range i).flatMap fun a => partL a n
def barsL (n : Nat) : List (Nat × Nat) := preL n n
theorem part_len (a j : Nat) : (partL a j).length ≤ j := by
  unfold partL
  rw [List.length_map]
  exact Nat.le_trans (List.length_filter_le _ _) (by simp)
theorem pre_len (n : Nat) : ∀ i, (preL n i).length ≤ i * n
  | 0 => by simp [preL]
  | i + 1 => by
    unfold preL
    rw [List.range_succ, List.flatMap_append, List.length_append, Nat.succ_mul]
    have h1 := pre_len n i
    have h2 := part_len i n
    unfold preL at h1
    simp only [List.flatMap_cons, List.flatMap_nil, List.append_nil]
    omega
theorem pre_succ (n i : Nat) : preL n (i + 1) = preL n i ++ partL i n := by
  unfold preL
  rw [List.range_succ, List.flatMap_append]
  simp
theorem part_succ (a j : Nat) : partL a (j + 1) = if a ≤ j then partL a j ++ [(a, j)] else partL a j := by
  unfold partL
  rw [List.range_succ, List.filter_append, List.map_append]
  by_cases h : a ≤ j
  · rw [if_pos h]
    simp [h]
  · rw [if_neg h]
    simp [h]
def spBars (CT : Addr) : Sp := fun vs H Q E => ∃ v d, vs = [v] ∧ Any H v d ∧ Short d ∧ (isPatD d = false → Thrown CT v H E) ∧
  ∀ x, d = .str x → isPatD d = true → ∀ l acc H', H l = none → Same H H' → H' l = some (.lst acc) → AnyL (del H' l) acc ((barsL (x.length + 1)).map barD) → Q (.ref l) H'
def spLenR (C : Addr) : Sp := fun vs H Q _ => ∃ a x p ss mm, vs = [.ref a] ∧ RowAt C H a x p ss mm ∧ Q (.int (ss.length : Nat)) H
def spMatx (C CL : Addr) : Sp := fun vs H Q E => ∃ a v d x p ss mm, vs = [.ref a, v] ∧ RowAt C H a x p ss mm ∧ Any H v d ∧ mm.length ≤ 1000 ∧ (inB d (.int 0) (.int ((mm.length : Nat) - 1 : Int)) = false → ∀ H1, Same H H1 → Thrown CL v H1 E) ∧
  (∀ i : Nat, d = .int i → i < mm.length → ∀ l ys H', H l = none → Same H H' → H' l = some (.lst ys) → AnyL (del H' l) ys (mm[i]?.getD []) → Q (.ref l) H')
def spMaps (C : Addr) : Sp := fun vs H Q _ => ∃ a x p ss mm, vs = [.ref a] ∧ RowAt C H a x p ss mm ∧ mm.length ≤ 1000 ∧ ∀ l acc H', H l = none → Same H H' → H' l = some (.lst acc) → AnyL (del H' l) acc (mm.map .list) → Q (.ref l) H'
end Rw

set_option Elab.async false
set_option linter.all false
set_option maxRecDepth 100000
set_option maxHeartbeats 4000000
/-! TkX: data that is small enough to be shown, wider; comprehensions beside a box; texts of signs; drafts of rows. -/
namespace Rw
open PySem PySem.Spec PyProof.Rows L2
/-- small enough, at the n-th level of lists of at most twelve items -/
structure Tq (n : Nat) (d : PyData) : Prop where
  sh : d.showable = true
  dp : d.depth ≤ 3 + n
  ln : d.shown.length ≤ 80 * 13 ^ n
theorem Tq.up {n m : Nat} {d : PyData} (h : Tq n d) (l : n ≤ m) : Tq m d := ⟨h.sh, by have := h.dp; omega, Nat.le_trans h.ln (Nat.mul_le_mul_left _ (Nat.pow_le_pow_right (by decide) l))⟩
theorem Tm.q {n : Nat} {d : PyData} (h : Tm n d) : Tq n d := ⟨h.sh, h.dp, Nat.le_trans h.ln (Nat.mul_le_mul (by decide) (Nat.pow_le_pow_left (by decide) n))⟩
theorem tq_all {n : Nat} : ∀ {ds : List PyData}, (∀ d ∈ ds, Tq n d) → PyData.showableAll ds = true ∧ PyData.depthAll ds ≤ 3 + n ∧ ∀ t ∈ PyData.shownAll ds, t.length ≤ 80 * 13 ^ n
  | [], _ => ⟨by simp only [PyData.showableAll], by simp only [PyData.depthAll]; omega, fun t ht => by simp only [PyData.shownAll] at ht; cases ht⟩
  | d :: ds, h => by
    obtain ⟨a, b, c⟩ := tq_all (ds := ds) fun x hx => h x (List.mem_cons_of_mem _ hx)
    have e := h d List.mem_cons_self
    refine ⟨?_, ?_, ?_⟩
    · simp only [PyData.showableAll, e.sh, a, Bool.and_self]
    · simp only [PyData.depthAll]
      have := e.dp
      omega
    · intro t ht
      simp only [PyData.shownAll] at ht
      rcases List.mem_cons.mp ht with z | z
      · rw [z]
        exact e.ln
      · exact c t z
theorem tq_num {n : Nat} {k : Nat} (l : k ≤ 12) : k * (80 * 13 ^ n + 2) + 3 ≤ 80 * 13 ^ (n + 1) := by
  have p : 0 < 13 ^ n := Nat.pow_pos (by decide)
  have q : k * (80 * 13 ^ n + 2) ≤ 12 * (80 * 13 ^ n + 2) := Nat.mul_le_mul_right _ l
  rw [Nat.pow_succ]
  omega
theorem tq_list {n : Nat} {ds : List PyData} (l : ds.length ≤ 12) (h : ∀ d ∈ ds, Tq n d) : Tq (n + 1) (.list ds) := by
  obtain ⟨a, b, c⟩ := tq_all h
  refine ⟨by simp only [PyData.showable]; exact a, by simp only [PyData.depth]; omega, ?_⟩
  simp only [PyData.shown]
  have ln : (PyData.shownAll ds).length = ds.length := by rw [shownAll_map, List.length_map]
  have z := tq_num (n := n) l
  generalize PyData.shownAll ds = ts at c ln
  cases ts with
  | nil =>
    have e : (listText []).length = 2 := rfl
    rw [e]
    omega
  | cons t r =>
    rw [list_len]
    have p := piled_le c
    rw [piled_cons, ln] at p
    omega
theorem tq_tup {n : Nat} {ds : List PyData} (l : ds.length ≤ 12) (h : ∀ d ∈ ds, Tq n d) : Tq (n + 1) (.tuple ds) := by
  obtain ⟨a, b, c⟩ := tq_all h
  refine ⟨by simp only [PyData.showable]; exact a, by simp only [PyData.depth]; omega, ?_⟩
  simp only [PyData.shown]
  have ln : (PyData.shownAll ds).length = ds.length := by rw [shownAll_map, List.length_map]
  have z := tq_num (n := n) l
  generalize PyData.shownAll ds = ts at c ln
  have p := piled_le c
  rw [ln] at p
  have e : (tupleText ts).length ≤ 1 + (Str.join ", " ts).length + 2 := by
    show (("(" : Str) ++ Str.join ", " ts ++ (if ts.length == 1 then ",)" else ")" : String)).length ≤ _
    rw [strLen_append, strLen_append]
    have e1 : (("(" : String) : Str).length = 1 := rfl
    have e2 : ((if ts.length == 1 then ",)" else ")" : String) : Str).length ≤ 2 := by
      split
      · exact Nat.le_of_eq rfl
      · exact Nat.le_succ_of_le (Nat.le_of_eq rfl)
    omega
  cases ts with
  | nil =>
    have e3 : (Str.join ", " []).length = 0 := rfl
    omega
  | cons t r =>
    have e3 := join_length_add (t :: r) (by simp)
    omega
theorem tq_int {n : Int} (h : n.natAbs < 10 ^ 40) : Tq 0 (.int n) := (tm_int h).q
theorem tq_str {x : Str} (h : x.length ≤ 7) (c : ∀ z ∈ x.cps.toList, z < 16 ^ 8) : Tq 0 (.str x) := by
  refine ⟨by simp only [PyData.showable], by simp only [PyData.depth]; omega, ?_⟩
  simp only [PyData.shown]
  have := PySem.StrLaws.reprText_len x c
  show _ ≤ 80
  omega
theorem arr_small {x : Str} (h : x.cps.toList.all isArr = true) : ∀ z ∈ x.cps.toList, z < 16 ^ 8 := by
  intro z hz
  have := List.all_eq_true.mp h z hz
  unfold isArr at this
  simp only [Bool.or_eq_true, beq_iff_eq] at this
  rcases this with e | e <;> rw [e] <;> decide
/-! ### odd things -/
theorem odd_short : ∀ d ∈ oddL, Short d := by
  have h : ∀ d ∈ oddL, (match d with | .str x => decide (x.length ≤ 1000) | _ => true) = true := by decide +kernel
  intro d hd x e
  have := h d hd
  rw [e] at this
  exact of_decide_eq_true this
theorem odd_items : ∀ d ∈ oddL, ∀ e ∈ itemsD d, Cell e ∧ SheetT e := by
  have h : ∀ d ∈ oddL, ∀ e ∈ itemsD d, e = .int 1 ∨ e = .int 0 ∨ e = .tuple [.int 1] := by
    intro d hd e he
    have k : ∀ d ∈ oddL, itemsD d = [] ∨ itemsD d = [.int 1] ∨ itemsD d = [.int 0] ∨ itemsD d = [.tuple [.int 1]] := by
      intro d hd
      unfold oddL at hd
      simp only [List.mem_cons, List.not_mem_nil, or_false] at hd
      rcases hd with z | z | z | z | z | z | z | z | z | z | z | z | z | z | z | z <;> subst z <;> simp [itemsD]
    rcases k d hd with z | z | z | z <;> rw [z] at he
    · cases he
    · exact .inl (List.mem_singleton.mp he)
    · exact .inr (.inl (List.mem_singleton.mp he))
    · exact .inr (.inr (List.mem_singleton.mp he))
  intro d hd e he
  have c1 : ∀ n : Int, n.natAbs < 10 ^ 40 → Cell (.int n) ∧ SheetT (.int n) := fun n hn => ⟨cell_int hn, (cell_int hn).sheet (Nat.zero_le _)⟩
  rcases h d hd e he with z | z | z
  · rw [z]; exact c1 1 (by decide)
  · rw [z]; exact c1 0 (by decide)
  · rw [z]; have m : PyData.tuple [.int 1] ∈ oddL := by unfold oddL; simp
    exact ⟨odd_cell _ m, odd_sheet m⟩
theorem SheetT.fit {d : PyData} (s : SheetT d) : Fit d := s.f
theorem odd_fitM {d : PyData} (h : d ∈ oddL) : FitM d := ⟨by have := odd_few d h; omega, fun e he => (odd_items d h e he).2.f⟩
/-! ### comprehensions beside a box -/
theorem bx_at {H : Hp} {p : Addr} {n : Nat} (b : Bx H p n) : ∃ xs, H p = some (.lst xs) := by
  obtain ⟨_, _, _, e, _⟩ := b
  exact ⟨_, e⟩
theorem lc_boxN {J : It} {n : Nat} {G : Hp → Prop} {P : Nat → V → Prop} (w : Walk J n G (fun i H x H' => H' = H ∧ P i x)) {j : Nat} {σ : L2.St} {vs : List Nat} {te : TE} {H1 : Hp} {p D : Addr} {c t : Nat} {Q : Hp → Prop} (hn : n ≤ 1000) (hD : H1 D = none) (b0 : Bx H1 p c) (hG : ∀ H, Grow p H1 H → G H) (Good : PyData → Prop) (nf : ∀ d, Good d → noL d = true)
    (hs : ∀ i x H, i < n → P i x → Grow p H1 H → Bx H p (c + i * t) → wipe ((wipe σ vs).set j (some x)) vs = wipe σ vs ∧ ∀ k : VK, (∀ y d H', Grow p H H' → Bx H' p (c + i * t + t) → Good d → Any H' y d → k y H') → te ((wipe σ vs).set j (some x)) H k)
    (hq : ∀ H acc ds, Grow p H1 H → Bx H p (c + n * t) → H D = some (.lst acc) → AnyL H acc ds → ds.length = n → (∀ d, d ∈ ds → Good d) → Q H) :
    ∃ W : Nat → Nat → Hp → Prop, (∃ m, W 0 m (upd H1 D (.lst []))) ∧ ∀ i m H, W i m H →
      (J.stop i H ∧ Q H) ∨ (J.go i H ∧ ∃ Nx : Hp → Prop, (∀ H', Nx H' → ∃ m', m' < m ∧ W (i + 1) m' H') ∧ ∀ x H', J.yld i H x H' → gName j x (wipe σ vs) H' fun σ2 H2 => wipe σ2 vs = wipe σ vs ∧ tYes σ2 H2 fun b H3 =>
        if b = true then te σ2 H3 fun y H4 => ∃ acc, H4 D = some (.lst acc) ∧ acc.length < sizeLine ∧ Nx (upd H4 D (.lst (acc ++ [y]))) else Nx H3) := by
  have pD := b0.ne hD
  refine lc_it w (Qd := Q) (Pv := fun i H => Grow p H1 H ∧ Bx H p (c + i * t) ∧ ∃ acc ds, H D = some (.lst acc) ∧ AnyL H acc ds ∧ ds.length = i ∧ ∀ d, d ∈ ds → Good d) ⟨Grow.of (same_new hD), by simpa using b0.keep (same_new hD), [], [], upd_same, .nil, rfl, fun d hd => (nomatch hd)⟩ (fun i H _ h => hG H h.1) ?_ ?_
  · rintro i x H H' hi ⟨g, b, acc, ds, ha, al, l, gd⟩ ⟨rfl, hp⟩
    obtain ⟨e1, e2⟩ := hs i x H' hi hp g b
    refine ⟨e1, ?_⟩
    show te _ _ _
    refine e2 _ fun y d H4 g4 b4 gd4 an => ?_
    have ha4 := g4 _ _ pD.symm ha
    have ln := anyL_len al
    obtain ⟨bx, hbx⟩ := bx_at b
    have nd : noLs ds = true := noLs_of fun d hd => nf d (gd d hd)
    have al4 : AnyL H4 acc ds := anyL_keep same_del (anyL_keep (Grow.del g4) (anyL_noL hbx _ _ al nd))
    have down : ∀ {v : V} {e : PyData}, Any H4 v e → noL e = true → Any (upd H4 D (.lst (acc ++ [y]))) v e := fun a z => by
      have a1 := any_noL ha4 _ _ a z
      refine a1.keep fun q o eo => ?_
      by_cases y1 : q = D
      · rw [y1, del_same] at eo; cases eo
      · rw [del_ne y1] at eo
        rw [upd_ne y1]
        exact eo
    refine ⟨acc, ha4, Nat.lt_of_lt_of_le (by omega : acc.length < 1000) (by decide), ?_, ?_, acc ++ [y], ds ++ [d], upd_same, ?_, by rw [List.length_append, l] <;> rfl, ?_⟩
    · intro z o ne eo
      rw [upd_ne (ne_of_none eo hD)]
      exact (g.trans g4) z o ne eo
    · obtain ⟨a1, a2, a3, h1, rest⟩ := b4
      refine Bx.more ⟨a1, a2, a3, by rw [upd_ne pD]; exact h1, rest⟩ ?_
      rw [Nat.succ_mul]
      omega
    · refine anyL_snoc ?_ (down an (nf d gd4))
      refine anyL_keep (fun q o eo => ?_) (anyL_noL ha4 _ _ al4 nd)
      by_cases y1 : q = D
      · rw [y1, del_same] at eo; cases eo
      · rw [del_ne y1] at eo
        rw [upd_ne y1]
        exact eo
    · intro z hz
      rcases List.mem_append.mp hz with q | q
      · exact gd z q
      · rw [List.mem_singleton.mp q]
        exact gd4
  · rintro H ⟨g, b, acc, ds, ha, al, l, gd⟩
    exact hq H acc ds g b ha al l gd
/-! ### texts of signs -/
def sg (c : Nat) : Str := ⟨#[c]⟩
theorem join_sg : ∀ cs : List Nat, (Txt.join "" (cs.map sg)).cps.toList = cs := by
  have e0 : ∀ a : Str, (a ++ ("" : Str)) = a := fun a => by
    cases a with
    | mk c =>
      show (⟨c ++ #[]⟩ : Str) = _
      simp
  intro cs
  rw [TL.join_eq]
  induction cs with
  | nil => rfl
  | cons c cs ih =>
    cases cs with
    | nil => rfl
    | cons b r =>
      show ((sg c ++ ("" : Str)) ++ Str.join "" ((b :: r).map sg)).cps.toList = _
      rw [e0]
      show ((#[c] : Array Nat) ++ (Str.join "" ((b :: r).map sg)).cps).toList = _
      rw [Array.toList_append, ih] <;> rfl
/-! ### drafts of rows -/
def tupI (ns : List Int) : PyData := .tuple (ns.map .int)
def sheetD (m : List (List Int)) : PyData := .list (m.map tupI)
def natD (s : Nat) : PyData := .int (s : Nat)
def draftD (x : Str) (q : Int) (ss : List Nat) (ms : List (List (List Int))) : PyData := .list [.str x, .int q, .list (ss.map natD), .list (ms.map sheetD)]
structure MatOk (q : Int) (h w : Nat) (m : List (List Int)) : Prop where
  h : m.length = h
  w : ∀ r, r ∈ m → r.length = w ∧ ∀ e, e ∈ r → 0 ≤ e ∧ e < q
structure Draft (x : Str) (q : Int) (most : Nat) (ss : List Nat) (ms : List (List (List Int))) : Prop where
  sl : ss.length = x.length + 1
  sb : ∀ s, s ∈ ss → s ≤ most
  ml : ms.length = x.length
  mo : ∀ i m, ms[i]? = some m → MatOk q (ss[stA x i]?.getD 0) (ss[goA x i]?.getD 0) m
theorem noL_tupI (r : List Int) : noL (tupI r) = true := by
  show noLs (r.map PyData.int) = true
  refine noLs_of fun d hd => ?_
  obtain ⟨n, _, rfl⟩ := List.mem_map.mp hd
  rfl
/-- the pattern of a draw -/
structure Pat (x : Str) (m : Nat) : Prop where
  l : x.length ≤ m
  a : x.cps.toList.all isArr = true
def spPrimeR : Sp := fun vs H Q _ => ∃ (p : Addr) (n : Nat), vs = [.ref p] ∧ Bx H p n ∧ n ≤ 900000 ∧ ∀ q H', q ∈ primesL → Grow p H H' → Bx H' p (n + 1) → Q (.int q) H'
def spPatR : Sp := fun vs H Q _ => ∃ (p : Addr) (n m : Nat), vs = [.ref p, .int (m : Nat)] ∧ m ≤ 6 ∧ Bx H p n ∧ n ≤ 900000 ∧ ∀ x H', Pat x m → Grow p H H' → Bx H' p (n + 10) → Q (.str x) H'
def spMatR : Sp := fun vs H Q _ => ∃ (p : Addr) (n h w : Nat) (q : Int), vs = [.ref p, .int q, .int (h : Nat), .int (w : Nat)] ∧ q ∈ primesL ∧ h ≤ 6 ∧ w ≤ 6 ∧ Bx H p n ∧ n ≤ 900000 ∧ ∀ M acc m H', H M = none → Grow p H H' → Bx H' p (n + 80) → H' M = some (.lst acc) → AnyL H' acc (m.map tupI) → MatOk q h w m → Q (.ref M) H'
def spMeas : Sp := fun vs H Q _ => ∃ (x : Str) (a : Addr) (i : Nat) (ss : List Nat), vs = [.str x, .ref a, .int (i : Nat)] ∧ H a = some (.lst (ss.map fun s => V.int (s : Nat))) ∧ i < x.length ∧ x.length ≤ 6 ∧ ss.length = x.length + 1 ∧
  ∀ t H', H t = none → Same H H' → H' t = some (.tup [.int ((ss[stA x i]?.getD 0 : Nat) : Int), .int ((ss[goA x i]?.getD 0 : Nat) : Int)]) → Q (.ref t) H'
def spDraft : Sp := fun vs H Q _ => ∃ (p : Addr) (n most : Nat) (x : Str) (q : Int), vs = [.ref p, .str x, .int q, .int (most : Nat)] ∧ Pat x 6 ∧ q ∈ primesL ∧ most ≤ 6 ∧ Bx H p n ∧ n ≤ 800000 ∧
  ∀ l H' ss ms, Draft x q most ss ms → Grow p H H' → Bx H' p (n + 1000) → Any (del H' p) (.ref l) (draftD x q ss ms) → Q (.ref l) H'
end Rw

set_option Elab.async false
set_option linter.all false
set_option maxRecDepth 100000
set_option maxHeartbeats 4000000
/-! TkH: sizes and matrices of rows, as data. -/
namespace Rw
open PySem PySem.Spec PyProof.Rows L2
theorem sizes_parts {k : Nat} {d : PyData} (h : sizesOk k d = true) : isSeqD d = true ∧ (itemsD d).length = k + 1 ∧ (itemsD d).all isSzD = true := by
  unfold sizesOk at h
  simp only [Bool.and_eq_true, decide_eq_true_eq] at h
  exact h
theorem maps_parts {k : Nat} {d : PyData} (h : mapsOk k d = true) : isSeqD d = true ∧ (itemsD d).length = k := by
  unfold mapsOk at h
  simp only [Bool.and_eq_true, decide_eq_true_eq] at h
  exact h
theorem sz_int {d : PyData} (h : isSzD d = true) : ∃ n, d = .int n ∧ 0 ≤ n ∧ n ≤ 6 := by
  cases d with
  | int n =>
    have h2 : (decide (0 ≤ n) && decide (n ≤ 6)) = true := h
    simp only [Bool.and_eq_true, decide_eq_true_eq] at h2
    exact ⟨n, rfl, h2⟩
  | _ => cases h
theorem stA_le (x : Str) (i : Nat) : stA x i ≤ i + 1 := by
  unfold stA
  split <;> omega
theorem goA_le (x : Str) (i : Nat) : goA x i ≤ i + 1 := by
  unfold goA
  split <;> omega
theorem atD_get {d : PyData} {i : Nat} {e : PyData} (h : (itemsD d)[i]? = some e) : atD d i = e := by
  unfold atD
  rw [h] <;> rfl
/-- an item of sizes, as a value -/
theorem sz_at {k : Nat} {ds : PyData} (h : sizesOk k ds = true) {xs : List V} {H : Hp} (al : AnyL H xs (itemsD ds)) {i : Nat} (hi : i ≤ k) : xs[i]? = some (.int (szL ds i)) ∧ 0 ≤ szL ds i ∧ szL ds i ≤ 6 := by
  obtain ⟨_, l, a⟩ := sizes_parts h
  have hi2 : i < (itemsD ds).length := by omega
  have e1 : (itemsD ds)[i]? = some (itemsD ds)[i] := List.getElem?_eq_getElem hi2
  obtain ⟨n, en, n0, n6⟩ := sz_int (List.all_eq_true.mp a _ (List.getElem_mem hi2))
  obtain ⟨v, hv, av⟩ := anyL_of al e1
  have es : szL ds i = n := by
    unfold szL
    rw [atD_get e1, en] <;> rfl
  rw [en] at av
  cases av
  rw [es]
  exact ⟨hv, n0, n6⟩
theorem bad_none {x : Str} {ds dm : PyData} (h : ∀ j, j < x.length → matOk x ds dm j = true) : badAt x ds dm = none := by
  unfold badAt
  rw [List.find?_eq_none]
  intro j hj
  rw [h j (List.mem_range.mp hj)]
  simp
theorem find_range (f : Nat → Bool) : ∀ (n i : Nat), i < n → f i = true → (∀ j, j < i → f j = false) → (List.range n).find? f = some i := by
  intro n
  induction n with
  | zero => intro i h; omega
  | succ n ih =>
    intro i h h1 h2
    rw [List.range_succ, List.find?_append]
    by_cases e : i < n
    · rw [ih i e h1 h2] <;> rfl
    · have e2 : i = n := by omega
      subst e2
      rw [List.find?_eq_none.mpr (fun j hj => by rw [h2 j (List.mem_range.mp hj)]; simp)]
      simp [h1]
theorem bad_some {x : Str} {ds dm : PyData} {i : Nat} (hi : i < x.length) (h : matOk x ds dm i = false) (h2 : ∀ j, j < i → matOk x ds dm j = true) : badAt x ds dm = some i := by
  unfold badAt
  exact find_range _ _ _ hi (by rw [h] <;> rfl) (fun j hj => by rw [h2 j hj] <;> rfl)
end Rw

set_option Elab.async false
set_option linter.all false
set_option maxRecDepth 100000
set_option maxHeartbeats 4000000
/-! TkI: a list held against [] by !=; len of an own object; what is due of a row. -/
namespace Rw
open PySem PySem.Spec PyProof.Rows L2
def rNilN : R2 := fun x y H Q => ∃ a b xs, x = .ref a ∧ y = .ref b ∧ H a = some (.lst xs) ∧ H b = some (.lst []) ∧ Q (.bl (!xs.isEmpty)) H
theorem op_ne_nil {X : Cx} (hu : X.A.units < cLine) : OpR X (compareOp .NotEq) rNilN := by
  intro pins s σ H x y v u Q I rx ry h
  obtain ⟨a, b, xs, rfl, rfl, ea, eb, q⟩ := h
  obtain rfl : v = Value.ref a := rx
  obtain rfl : u = Value.ref b := ry
  obtain ⟨its, ra, pa, _⟩ := I.list (SqL.of ea)
  obtain ⟨its2, rb, pb, _⟩ := I.list (SqL.of eb)
  cases rb
  have ln := ra.length
  cases xs with
  | nil =>
    cases ra
    exact SeqAt.RcNeAt.lists (e := fun _ => true) pa.isList pb.isList rfl hu (fun j h1 h2 => absurd h1 (Nat.not_lt_zero j)) X.prog X.w _ _ ⟨.bl false, H, I, rfl, q⟩
  | cons z zs =>
    refine SeqAt.RcNeAt.lists_lengths pa.isList pb.isList ?_ hu X.prog X.w _ _ ⟨.bl true, H, I, rfl, q⟩
    simp
    intro e
    rw [e] at ln
    cases ln
theorem len_own {prog : Program} {w : World} {A : Around} {E : Value → Shared → Prop} {s : Shared} {K : PySem.W.Frag} {x C f : Addr} {ox : Obj} {od : Option Obj} {Q : Value → Shared → Prop} (X : K.In s.heap) (I : PySem.W.InstAt s.heap x ox C od)
    (hs : PySem.W.findIn K (.ref C) "__len__" = some (some (.ref f))) (hf : PySem.W.isFn K (.ref f) = true)
    (h : wpAny (model prog w) A.in1 (call (.ref f) [.ref x]) (PySem.W.LenBack Q) E s) : wpAny (model prog w) A (call (.builtin "len") [.ref x]) Q E s := by
  refine Calls.call_function_entry kind_len plain_len entry_len (args_len1 _) ?_
  unfold Builtin.«len»
  refine wpAny_bind (m := oneArg "len" _) (wpAny_pure ?_)
  refine wpAny_bind (m := callSpecial? (.ref x) (Str.ofString "__len__")) (PySem.W.special_fn X I hs (beq_iff_eq.mp hf) (wpAny_mono h (fun r s' hr => ?_) fun _ _ y => y))
  cases r <;> first | exact hr.elim | skip
  rename_i n u
  obtain ⟨⟨h0, h1⟩, hq⟩ := hr
  refine wpAny_bind (wpAny_holding (wpAny_pure ?_))
  refine wpAny_bind (wpAny_letGo ?_)
  show wpAny _ _ (if n < 0 then _ else _) _ _ _
  rw [if_neg (by omega)]
  show wpAny _ _ (if n ≥ 2 ^ 63 then _ else _) _ _ _
  rw [if_neg (by omega)]
  exact wpAny_bind (wpAny_mkInt (wpAny_pure ⟨_, rfl, hq⟩))
/-- len(o) by an own __len__ that raises nothing -/
def rLenO (C : Addr) (sp : Sp) : List V → Hp → VK → Prop := fun xs H Q => ∃ a dx fs, xs = [.ref a] ∧ H a = some (.ins C dx fs) ∧ sp [.ref a] H (fun v H' => ∃ n : Int, v = .int n ∧ 0 ≤ n ∧ n < 2 ^ 63 ∧ Q (.int n) H') (fun _ _ _ => False)
theorem call_lenO {X : Cx} {k : Nat} {f C : Addr} {fd : FuncData} {sp : Sp} (hl : PySem.W.findIn X.K (.ref C) "__len__" = some (some (.ref f))) (hfn : PySem.W.isFn X.K (.ref f) = true) (F : FnOk X.prog X.w X.K X.mg X.base CX0 k f fd ["self"] sp) (hr : Room (k + 1) X.A) (hb : Binds X.K fd ["self"] []) :
    CallR X (.builtin "len") (rLenO C sp) := by
  intro pins s σ H xs us Q I r h
  obtain ⟨a, dx, fs, rfl, ea, h⟩ := h
  obtain ⟨u, rfl, ru⟩ := vals1 r
  obtain rfl : u = Value.ref a := ru
  obtain ⟨mA, O, _, _, _, _⟩ := ins_get I.hok ea
  obtain ⟨od, J, _⟩ := O.look
  refine len_own I.kIn J hl hfn (wpAny_call ?_)
  refine codeAny_mono (F.run X.A.in1 X.stack s H ⟨[.ref a], []⟩ [.ref a] [.ref a] _ _ hr.in1 I.env0.in1 (hb _ [.ref a] I.kIn rfl) (.cons rfl .nil) h) fun r s' hq => ?_
  cases r with
  | error er => exact hq.elim
  | ok fl =>
    cases fl with
    | ret u =>
      obtain ⟨v, H', I3, rv, n, rfl, n0, n1, q3⟩ := I.after hq
      obtain ⟨t, rfl⟩ := rv
      exact ⟨⟨n0, n1⟩, .int n, H', I3.tok _, ⟨_, rfl⟩, q3⟩
    | next => exact False.elim hq
    | brk => exact False.elim hq
    | cont => exact False.elim hq
/-! ### what is due of a row -/
def strD : PyData → Str
  | .str x => x | _ => Str.empty
def wD (x : Str) (d : PyData) : PyData := .list [.str x, d]
def rowDue (d0 d1 d2 d3 : PyData) : PyData :=
  if isPatD d0 = true then (if isPr d1 = true then (if sizesOk (strD d0).length d2 = true then (if mapsOk (strD d0).length d3 = true then (match badAt (strD d0) d2 d3 with | some i => wD "matrix" (atD d3 i) | none => wD "told" (.int ((strD d0).length + 1 : Nat))) else wD "maps" d3) else wD "sizes" d2) else wD "prime" d1) else wD "pattern" d0
def barsDue (d : PyData) : PyData := if isPatD d = true then wD "told" (.int ((barsL ((strD d).length + 1)).length : Nat)) else wD "pattern" d
/-- what a thing to make a row of must be for all to go well -/
structure RowFit (d0 d2 d3 : PyData) : Prop where
  sp : Short d0
  ls : (itemsD d2).length ≤ 1000
  fm : FitM d3
def spDueR : Sp := fun vs H Q _ => ∃ v d0 d1 d2 d3, vs = [v] ∧ Any H v (.list [d0, d1, d2, d3]) ∧ RowFit d0 d2 d3 ∧ ∀ l H', Same H H' → Any H' (.ref l) (rowDue d0 d1 d2 d3) → Q (.ref l) H'
def spSheetL : Sp := fun vs H Q _ => ∃ v d h w, vs = [v, .int h, .int w] ∧ Any H v d ∧ Fit d ∧ ∀ H', Same H H' → Q (.bl (isMatD h w d)) H'
def spBarsC : Sp := fun vs H Q _ => ∃ v d, vs = [v] ∧ Any H v d ∧ Short d ∧ ∀ l H', Same H H' → Any H' (.ref l) (barsDue d) → Q (.ref l) H'
def spMeasD : Sp := fun vs H Q _ => ∃ (x : Str) (va : V) (i : Nat) (ds : PyData), vs = [.str x, va, .int (i : Nat)] ∧ Any H va ds ∧ sizesOk x.length ds = true ∧ i < x.length ∧ x.length ≤ 6 ∧
  ∀ t H', H t = none → Same H H' → H' t = some (.tup [.int (szL ds (stA x i)), .int (szL ds (goA x i))]) → Q (.ref t) H'
theorem any_list4 {H : Hp} {v : V} {d0 d1 d2 d3 : PyData} (h : Any H v (.list [d0, d1, d2, d3])) : ∃ a v0 v1 v2 v3, v = .ref a ∧ H a = some (.lst [v0, v1, v2, v3]) ∧ Any H v0 d0 ∧ Any H v1 d1 ∧ Any H v2 d2 ∧ Any H v3 d3 := by
  cases h with
  | lst e al =>
    cases al with
    | cons a0 al =>
      cases al with
      | cons a1 al =>
        cases al with
        | cons a2 al =>
          cases al with
          | cons a3 al =>
            cases al
            exact ⟨_, _, _, _, _, rfl, e, a0, a1, a2, a3⟩
theorem nats_ok {ss : List Nat} {k : Nat} (l : ss.length = k + 1) (h : ∀ s, s ∈ ss → s ≤ 6) : sizesOk k (.list (ss.map natD)) = true := by
  unfold sizesOk
  rw [Bool.and_eq_true, Bool.and_eq_true]
  refine ⟨rfl, decide_eq_true (by show (ss.map natD).length = _; rw [List.length_map]; exact l), List.all_eq_true.mpr fun d hd => ?_⟩
  obtain ⟨s, hs, rfl⟩ := List.mem_map.mp hd
  have := h s hs
  show (decide ((0 : Int) ≤ (s : Nat)) && decide (((s : Nat) : Int) ≤ 6)) = true
  rw [Bool.and_eq_true]
  exact ⟨decide_eq_true (by omega), decide_eq_true (by omega)⟩
theorem nats_sz {ss : List Nat} {j : Nat} : szL (.list (ss.map natD)) j = ((ss[j]?.getD 0 : Nat) : Int) := by
  unfold szL atD
  show intN ((ss.map natD)[j]?.getD .none) = _
  rw [List.getElem?_map]
  cases ss[j]? <;> rfl
end Rw

set_option Elab.async false
set_option linter.all false
set_option maxRecDepth 100000
set_option maxHeartbeats 4000000
/-! TkJ: drafts make rows; own rows made, in a try's body and outside. -/
namespace Rw
open PySem PySem.Spec PyProof.Rows L2
theorem pair_any {H : Hp} {l : Addr} {x : Str} {v : V} {d : PyData} (hl : H l = none) (h : Any H v d) : Any (upd H l (.lst [.str x, v])) (.ref l) (.list [.str x, d]) := .lst upd_same (.cons (.str x) (.cons (h.keep (same_new hl)) .nil))
theorem fmod_id {e q : Int} (h0 : 0 ≤ e) (h1 : e < q) : e.fmod q = e := by
  rw [fmod_pos (by omega)]
  exact Int.emod_eq_of_lt h0 h1
theorem rows_id {q : Int} {h w : Nat} {m : List (List Int)} (k : MatOk q h w m) : rowsM q (sheetD m) = m.map tupI := by
  unfold rowsM
  show (m.map tupI).map (fun r => PyData.tuple ((itemsD r).map (modD q))) = _
  rw [List.map_map]
  refine List.map_congr_left fun r hr => ?_
  show PyData.tuple (((r.map PyData.int)).map (modD q)) = _
  rw [List.map_map]
  unfold tupI
  congr 1
  refine List.map_congr_left fun e he => ?_
  obtain ⟨h0, h1⟩ := (k.w r hr).2 e he
  show PyData.int (e.fmod q) = _
  rw [fmod_id h0 h1]
theorem mat_is {q : Int} {h w : Nat} {m : List (List Int)} (k : MatOk q h w m) : isMatD (h : Nat) (w : Nat) (sheetD m) = true := by
  unfold isMatD
  rw [Bool.and_eq_true, Bool.and_eq_true]
  refine ⟨rfl, decide_eq_true (by show (((m.map tupI).length : Nat) : Int) = _; rw [List.length_map, k.h]), List.all_eq_true.mpr fun d hd => ?_⟩
  obtain ⟨r, hr, rfl⟩ := List.mem_map.mp hd
  unfold isVecD
  rw [Bool.and_eq_true, Bool.and_eq_true]
  refine ⟨rfl, decide_eq_true (by show (((r.map PyData.int).length : Nat) : Int) = _; rw [List.length_map, (k.w r hr).1]), List.all_eq_true.mpr fun e he => ?_⟩
  obtain ⟨n, _, rfl⟩ := List.mem_map.mp he
  rfl
theorem draft_at {ms : List (List (List Int))} {i : Nat} {m : List (List Int)} (h : ms[i]? = some m) : atD (.list (ms.map sheetD)) i = sheetD m := atD_get (by
  show (ms.map sheetD)[i]? = _
  rw [List.getElem?_map, h] <;> rfl)
theorem draft_good {x : Str} {q : Int} {most : Nat} {ss : List Nat} {ms : List (List (List Int))} (d : Draft x q most ss ms) (px : Pat x 6) (hq : q ∈ primesL) (m6 : most ≤ 6) : rowGood x q (.list (ss.map natD)) (.list (ms.map sheetD)) = true := by
  unfold rowGood
  have e1 : isPatD (.str x) = true := by
    show (decide (x.length ≤ 6) && x.cps.toList.all isArr) = true
    rw [decide_eq_true px.l, px.a] <;> rfl
  have e2 : isPr (.int q) = true := decide_eq_true hq
  have e3 : mapsOk x.length (.list (ms.map sheetD)) = true := by
    unfold mapsOk
    rw [Bool.and_eq_true]
    exact ⟨rfl, decide_eq_true (by show (ms.map sheetD).length = _; rw [List.length_map, d.ml])⟩
  have e4 : badAt x (.list (ss.map natD)) (.list (ms.map sheetD)) = none := bad_none fun j hj => by
    have hj2 : j < ms.length := by rw [d.ml]; exact hj
    have h1 : ms[j]? = some ms[j] := List.getElem?_eq_getElem hj2
    unfold matOk
    rw [draft_at h1, nats_sz, nats_sz]
    exact mat_is (d.mo j _ h1)
  rw [e1, e2, nats_ok d.sl (fun s hs => Nat.le_trans (d.sb s hs) m6), e3, e4] <;> rfl
theorem draft_rows {x : Str} {q : Int} {most : Nat} {ss : List Nat} {ms : List (List (List Int))} (d : Draft x q most ss ms) : (itemsD (.list (ms.map sheetD))).map (rowsM q) = ms.map fun m => m.map tupI := by
  show (ms.map sheetD).map (rowsM q) = _
  rw [List.map_map]
  refine List.map_congr_left fun m hm => ?_
  obtain ⟨i, hi⟩ := List.getElem?_of_mem hm
  exact rows_id (d.mo i m hi)
theorem mat_small {q : Int} {h w : Nat} {m : List (List Int)} (k : MatOk q h w m) (hq : q ∈ primesL) (h6 : h ≤ 6) (w6 : w ≤ 6) : Fit (sheetD m) ∧ SheetT (sheetD m) := by
  have pp := prime_pos hq
  have cell : ∀ r, r ∈ m → ∀ d, d ∈ r.map PyData.int → Cell d := fun r hr d hd => by
    obtain ⟨e, he, rfl⟩ := List.mem_map.mp hd
    obtain ⟨h0, h1⟩ := (k.w r hr).2 e he
    exact cell_int (Nat.lt_of_le_of_lt (by omega : e.natAbs ≤ 13) (by decide))
  have lr : ∀ r, r ∈ m → (r.map PyData.int).length ≤ 6 := fun r hr => by rw [List.length_map, (k.w r hr).1]; exact w6
  have lm : (m.map tupI).length ≤ 6 := by rw [List.length_map, k.h]; exact h6
  have row : ∀ d, d ∈ m.map tupI → RowT d := fun d hd => by
    obtain ⟨r, hr, rfl⟩ := List.mem_map.mp hd
    exact ⟨tm_tup (lr r hr) fun d hd => (cell r hr d hd).tm, fit1_of (ds := r.map PyData.int) rfl (by have := lr r hr; omega) fun d hd => (cell r hr d hd).sm, rfl⟩
  have s := sheet_list lm row
  exact ⟨s.f, s⟩
theorem st_le {x : Str} {i : Nat} (h : i < x.length) : stA x i ≤ x.length := Nat.le_trans (stA_le x i) h
theorem get_le {ss : List Nat} {most : Nat} (h : ∀ s, s ∈ ss → s ≤ most) (j : Nat) : ss[j]?.getD 0 ≤ most := by
  cases e : ss[j]? with
  | none => exact Nat.zero_le _
  | some s => exact h s (List.mem_of_getElem? e)
theorem draft_sheet {x : Str} {q : Int} {most : Nat} {ss : List Nat} {ms : List (List (List Int))} (d : Draft x q most ss ms) (hq : q ∈ primesL) (m6 : most ≤ 6) : ∀ e, e ∈ ms.map sheetD → SheetT e := by
  intro e he
  obtain ⟨m, hm, rfl⟩ := List.mem_map.mp he
  obtain ⟨i, hi⟩ := List.getElem?_of_mem hm
  exact (mat_small (d.mo i m hi) hq (Nat.le_trans (get_le d.sb _) m6) (Nat.le_trans (get_le d.sb _) m6)).2
theorem draft_fitM {x : Str} {q : Int} {most : Nat} {ss : List Nat} {ms : List (List (List Int))} (d : Draft x q most ss ms) (px : Pat x 6) (hq : q ∈ primesL) (m6 : most ≤ 6) : FitM (.list (ms.map sheetD)) :=
  ⟨by show (ms.map sheetD).length ≤ _; rw [List.length_map, d.ml]; have := px.l; omega, fun e he => (draft_sheet d hq m6 e he).f⟩
theorem pat_short {x : Str} {m : Nat} (p : Pat x m) (h : m ≤ 6) : Short (.str x) := fun y e => by
  cases e
  have := p.l
  omega
/-! ### rows made -/
/-- the class of rows, its methods at hand -/
structure RowsAt (P : Program) (w : World) (K : PySem.W.Frag) (mg : Str → Option Value) (base : Heap) (C CT CP CZ CA CM : Addr) : Prop where
  g : mg "Row" = some (.ref C)
  cl : Cls K C
  ini : ∃ (f : Addr) (fd : FuncData), Mk K C f ∧ FnOk P w K mg base (L2.CX P w) 6 f fd ["self", "pattern", "prime", "sizes", "maps"] (spIniR C CT CP CZ CA CM) ∧ Binds K fd ["self", "pattern", "prime", "sizes", "maps"] []
section
variable {X : Cx} {C CT CP CZ CA CM : Addr} {p pos : Pos} {e : Expr} {es : List Expr} {t : TA}
def tRowS (C CT CP CZ CA CM : Addr) (W : WX) (t : TA) : TE := fun σ H Q => t σ H fun vs H1 => tRowMk C CT CP CZ CA CM H1 vs Q (fun cls d H' => W cls d σ H')
def tRowN (C CT CP CZ CA CM : Addr) (E : XK) (t : TA) : TE := fun σ H Q => t σ H fun vs H1 => tRowMk C CT CP CZ CA CM H1 vs Q E
theorem pe_rowS {W : WX} (R : RowsAt X.prog X.w X.K X.mg X.base C CT CP CZ CA CM) (hr : Room 7 X.A) (hx : ∀ σ, PassesAt (L2.CX X.prog X.w) X σ (fun cls d H' => W cls d σ H')) (ha : PA X (e :: es) t) (hg : Gl X "Row" := by rfl)
    (he : starEach (e :: es) X.env = (false, eval e X.env) :: starEach es X.env := by rfl) (hpl : (backTo pos (starEach es X.env)).any (·.1) = false := by rfl) : PE X (.Call (.Name "Row" p) (e :: es) [] pos) (tRowS C CT CP CZ CA CM W t) := by
  obtain ⟨f, fd, M, F, hb⟩ := R.ini
  refine ⟨fun pins s σ H Q I h => ?_⟩
  refine wpAny_Call_Name_kw (ld_glob I hg R.g ?_ (by decide))
  refine PySem.W.callWith_K (h₀ := X.base) I.ok.mod.kin M.kp (thn (ha.run pos pins s σ H _ I h) fun us s1 ⟨vs, H1, I1, r, q⟩ => ⟨I1.kIn, ?_⟩) he hpl
  exact run_makeS M F hr hb .nil hx I1 r (row_make q)
theorem pe_rowN {E : XK} (R : RowsAt X.prog X.w X.K X.mg X.base C CT CP CZ CA CM) (hr : Room 7 X.A) (hx : Passes (L2.CX X.prog X.w) X E) (ha : PA X (e :: es) t) (hg : Gl X "Row" := by rfl)
    (he : starEach (e :: es) X.env = (false, eval e X.env) :: starEach es X.env := by rfl) (hpl : (backTo pos (starEach es X.env)).any (·.1) = false := by rfl) : PE X (.Call (.Name "Row" p) (e :: es) [] pos) (tRowN C CT CP CZ CA CM E t) := by
  obtain ⟨f, fd, M, F, hb⟩ := R.ini
  refine ⟨fun pins s σ H Q I h => ?_⟩
  refine wpAny_Call_Name_kw (ld_glob I hg R.g ?_ (by decide))
  refine PySem.W.callWith_K (h₀ := X.base) I.ok.mod.kin M.kp (thn (ha.run pos pins s σ H _ I h) fun us s1 ⟨vs, H1, I1, r, q⟩ => ⟨I1.kIn, ?_⟩) he hpl
  exact run_make M F hr hb .nil hx I1 r (row_make q)
end
def spRowL (C : Addr) : Sp := fun vs H Q _ => ∃ v x q most ss ms, vs = [v] ∧ Any H v (draftD x q ss ms) ∧ Draft x q most ss ms ∧ Pat x 6 ∧ q ∈ primesL ∧ most ≤ 6 ∧
  ∀ a H', H a = none → Same H H' → RowAt C H' a x q (ss.map natD) (ms.map fun m => m.map tupI) → Q (.ref a) H'
/-- of data that is right nothing is refused -/
theorem good_parts {x : Str} {p : Int} {ds dm : PyData} (h : rowGood x p ds dm = true) : isPatD (.str x) = true ∧ isPr (.int p) = true ∧ sizesOk x.length ds = true ∧ mapsOk x.length dm = true ∧ badAt x ds dm = none := by
  unfold rowGood at h
  simp only [Bool.and_eq_true, Option.isNone_iff_eq_none] at h
  exact h
theorem good_err {x : Str} {p : Int} {vp vq va vm : V} {ds dm : PyData} {CT CP CZ CA CM : Addr} {H : Hp} {E : XK} (h : rowGood x p ds dm = true) : RowErr CT CP CZ CA CM H E vp vq va vm (.str x) (.int p) ds dm := by
  obtain ⟨h1, h2, h3, h4, h5⟩ := good_parts h
  refine ⟨fun z => (by rw [h1] at z; cases z), fun _ z => (by rw [h2] at z; cases z), fun y e _ _ z => ?_, fun y e _ _ _ z => ?_, fun y i v H1 e _ _ _ _ z => ?_⟩
  · cases e; rw [h3] at z; cases z
  · cases e; rw [h4] at z; cases z
  · cases e; rw [h5] at z; cases z
def spMatC (C : Addr) : Sp := fun vs H Q _ => ∃ a v d x p ss mm, vs = [.ref a, v] ∧ RowAt C H a x p ss mm ∧ Any H v d ∧ mm.length ≤ 1000 ∧ ∀ l H', Same H H' → Any H' (.ref l) (if inB d (.int 0) (.int ((mm.length : Nat) - 1 : Int)) = true then wD "told" (.list (mm[(intN d).toNat]?.getD [])) else wD "place" d) → Q (.ref l) H'
def spBarsN : Sp := fun vs H Q _ => ∃ x, vs = [.str x] ∧ x.length ≤ 6 ∧ ∀ l acc H', H l = none → Same H H' → H' l = some (.lst acc) → AnyL H' acc ((barsL (x.length + 1)).map barD) → Q (.ref l) H'
end Rw

set_option Elab.async false
set_option linter.all false
set_option maxRecDepth 100000
set_option maxHeartbeats 4000000
/-! TkED: bars as data; which bar leads into which. -/
namespace Rw
open PySem PySem.Spec PyProof.Rows L2
def isTupD : PyData → Bool
  | .tuple _ => true | _ => false
theorem kit_tup {K : PySem.W.Frag} (d : PyData) : PySem.W.kitOne K (.type (kindS d)) (.type "tuple") = some (isTupD d) := by
  cases d with
  | none => exact kit_ty (show kitB "NoneType" "tuple" = some false by decide +kernel)
  | bool b => exact kit_ty (show kitB "bool" "tuple" = some false by decide +kernel)
  | int i => exact kit_ty (show kitB "int" "tuple" = some false by decide +kernel)
  | str x => exact kit_ty (show kitB "str" "tuple" = some false by decide +kernel)
  | list xs => exact kit_ty (show kitB "list" "tuple" = some false by decide +kernel)
  | tuple xs => exact kit_ty (show kitB "tuple" "tuple" = some true by decide +kernel)
  | dict kvs => exact kit_ty (show kitB "dict" "tuple" = some false by decide +kernel)
/-- a bar of a pattern with k arrows -/
def isBarD (k : Nat) : PyData → Bool
  | .tuple [a, b] => inB a (.int 0) (.int (k : Nat)) && inB b a (.int (k : Nat))
  | _ => false
theorem bar_of {k : Nat} {d : PyData} (h : isBarD k d = true) : ∃ b e : Nat, d = barD (b, e) ∧ b ≤ e ∧ e ≤ k := by
  match d, h with
  | .tuple [a, b], h =>
    have h2 : (inB a (.int 0) (.int (k : Nat)) && inB b a (.int (k : Nat))) = true := h
    rw [Bool.and_eq_true] at h2
    obtain ⟨h3, h4⟩ := h2
    cases a with
    | int i =>
      cases b with
      | int j =>
        have h5 : (decide ((0 : Int) ≤ i) && decide (i ≤ (k : Nat))) = true := h3
        have h6 : (decide (i ≤ j) && decide (j ≤ (k : Nat))) = true := h4
        rw [Bool.and_eq_true] at h5 h6
        have a1 := of_decide_eq_true h5.1
        have a2 := of_decide_eq_true h6.1
        have a3 := of_decide_eq_true h6.2
        refine ⟨i.toNat, j.toNat, ?_, by omega, by omega⟩
        show PyData.tuple [.int i, .int j] = .tuple [.int (i.toNat : Nat), .int (j.toNat : Nat)]
        rw [Int.toNat_of_nonneg a1, Int.toNat_of_nonneg (by omega)]
      | _ => cases h4
    | _ => cases h3
theorem bar_is {k b e : Nat} (h1 : b ≤ e) (h2 : e ≤ k) : isBarD k (barD (b, e)) = true := by
  show (inB (.int (b : Nat)) (.int 0) (.int (k : Nat)) && inB (.int (e : Nat)) (.int (b : Nat)) (.int (k : Nat))) = true
  show ((decide ((0 : Int) ≤ (b : Nat)) && decide (((b : Nat) : Int) ≤ (k : Nat))) && (decide (((b : Nat) : Int) ≤ (e : Nat)) && decide (((e : Nat) : Int) ≤ (k : Nat)))) = true
  rw [Bool.and_eq_true, Bool.and_eq_true, Bool.and_eq_true]
  exact ⟨⟨decide_eq_true (by omega), decide_eq_true (by omega)⟩, ⟨decide_eq_true (by omega), decide_eq_true (by omega)⟩⟩
/-- a pair of ints that lies at p -/
def PairAt (H : Hp) (p : Addr) (b e : Nat) : Prop := H p = some (.tup [.int (b : Nat), .int (e : Nat)])
theorem PairAt.keep {H H' : Hp} {p : Addr} {b e : Nat} (h : PairAt H p b e) (k : Same H H') : PairAt H' p b e := k _ _ h
theorem bar_at {H : Hp} {v : V} {b e : Nat} (h : Any H v (barD (b, e))) : ∃ p, v = .ref p ∧ PairAt H p b e := by
  cases h with
  | tup e1 al =>
    cases al with
    | cons a1 al =>
      cases al with
      | cons a2 al =>
        cases al
        cases a1
        cases a2
        exact ⟨_, rfl, e1⟩
theorem PairAt.any {H : Hp} {p : Addr} {b e : Nat} (h : PairAt H p b e) : Any H (.ref p) (barD (b, e)) := .tup h (.cons (.int _) (.cons (.int _) .nil))
def leadsB (x : Str) (b e c l : Nat) : Bool :=
  if min e l < max b c then false else (b == c || (isR x (max b c - 1) == decide (c < b))) && (e == l || (isR x (min e l) == decide (l < e)))
/-! ### the promises -/
def spBarP : Sp := fun vs H Q _ => ∃ x v d, vs = [.str x, v] ∧ x.length ≤ 1000 ∧ Any H v d ∧ Q (.bl (isBarD x.length d)) H
def spCBar (CB : Addr) : Sp := fun vs H Q E => ∃ x v d, vs = [.str x, v] ∧ x.length ≤ 1000 ∧ Any H v d ∧ (isBarD x.length d = true → Q .non H) ∧ (isBarD x.length d = false → Thrown CB v H E)
def spLeads : Sp := fun vs H Q _ => ∃ (x : Str) (p q : Addr) (b e c l : Nat), vs = [.str x, .ref p, .ref q] ∧ Pat x 6 ∧ PairAt H p b e ∧ PairAt H q c l ∧ b ≤ e ∧ e ≤ x.length ∧ c ≤ l ∧ l ≤ x.length ∧ ∀ H', Same H H' → Q (.bl (leadsB x b e c l)) H'
def spInto (CT CB : Addr) : Sp := fun vs H Q E => ∃ v u z dv du dz, vs = [v, u, z] ∧ Any H v dv ∧ Any H u du ∧ Any H z dz ∧ Short dv ∧
  (isPatD dv = false → Thrown CT v H E) ∧ (∀ x, dv = .str x → isPatD dv = true → isBarD x.length du = false → Thrown CB u H E) ∧
  (∀ x, dv = .str x → isPatD dv = true → isBarD x.length du = true → isBarD x.length dz = false → Thrown CB z H E) ∧
  ∀ x b e c l, dv = .str x → Pat x 6 → du = barD (b, e) → dz = barD (c, l) → b ≤ e → e ≤ x.length → c ≤ l → l ≤ x.length → ∀ H', Same H H' → Q (.bl (leadsB x b e c l)) H'
theorem patD_is {d : PyData} (h : isPatD d = true) : ∃ x, d = .str x ∧ Pat x 6 := by
  cases d with
  | str x =>
    have h2 : (decide (x.length ≤ 6) && x.cps.toList.all isArr) = true := h
    rw [Bool.and_eq_true] at h2
    exact ⟨x, rfl, of_decide_eq_true h2.1, h2.2⟩
  | _ => cases h
/-! ### the sign of an arrow -/
theorem sign_eq {x : Str} {i c : Nat} (h : x.cps.toList[i]? = some c) (a : isArr c = true) : decide (V.str ⟨#[c]⟩ = V.str ">") = isR x i ∧ decide (V.str ⟨#[c]⟩ = V.str "<") = !isR x i := by
  have e : isR x i = (c == 62) := by
    unfold isR
    rw [h] <;> rfl
  have h2 : c = 62 ∨ c = 60 := by
    have : (c == 62 || c == 60) = true := a
    simpa using this
  rw [e]
  rcases h2 with z | z <;> subst z <;> decide
theorem arr_at {x : Str} {m i : Nat} (p : Pat x m) (h : i < x.length) : ∃ c, x.cps.toList[i]? = some c ∧ isArr c = true := by
  have h2 : i < x.cps.toList.length := by rw [Array.length_toList]; exact h
  exact ⟨_, List.getElem?_eq_getElem h2, List.all_eq_true.mp p.a _ (List.getElem_mem h2)⟩
end Rw

set_option Elab.async false
set_option linter.all false
set_option maxRecDepth 100000
set_option maxHeartbeats 4000000
/-! K46A: the program: numbers, patterns, bars, which leads into which. -/
namespace K46
open PySem PySem.Spec PyProof.Rows L2 Rw
def top (i : Nat) : Stmt := PySem.Challenge.pw_maprows_k46_maps_between_bars.main.body.getD i (.Pass ⟨0, 0, 0, 0⟩)
abbrev sNum : Stmt := top 5
abbrev sInt : Stmt := top 6
abbrev sPat : Stmt := top 10
abbrev sCPat : Stmt := top 11
abbrev sBarP : Stmt := top 12
abbrev sCBar : Stmt := top 13
abbrev sInto : Stmt := top 15
abbrev sLeads : Stmt := top 16
theorem scNum : FnScope ["value"] ["value"] (defScope sNum) := ⟨rfl, rfl, rfl, by decide +kernel, rfl, by decide +kernel, by decide +kernel⟩
theorem scInt : FnScope ["value", "low", "high"] ["value", "low", "high"] (defScope sInt) := ⟨rfl, rfl, rfl, by decide +kernel, rfl, by decide +kernel, by decide +kernel⟩
theorem scPat : FnScope ["value", "arrow"] ["value"] (defScope sPat) := ⟨rfl, rfl, rfl, by decide +kernel, rfl, by decide +kernel, by decide +kernel⟩
theorem scCPat : FnScope ["pattern"] ["pattern"] (defScope sCPat) := ⟨rfl, rfl, rfl, by decide +kernel, rfl, by decide +kernel, by decide +kernel⟩
abbrev NBarP : List Str := ["pattern", "value", "first", "last"]
theorem scBarP : FnScope NBarP ["pattern", "value"] (defScope sBarP) := ⟨rfl, rfl, rfl, by decide +kernel, rfl, by decide +kernel, by decide +kernel⟩
theorem scCBar : FnScope ["pattern", "bar"] ["pattern", "bar"] (defScope sCBar) := ⟨rfl, rfl, rfl, by decide +kernel, rfl, by decide +kernel, by decide +kernel⟩
theorem scInto : FnScope ["pattern", "bar", "other"] ["pattern", "bar", "other"] (defScope sInto) := ⟨rfl, rfl, rfl, by decide +kernel, rfl, by decide +kernel, by decide +kernel⟩
abbrev NLeads : List Str := ["pattern", "bar", "other", "begin", "end", "birth", "last", "low", "high", "left"]
theorem scLeads : FnScope NLeads ["pattern", "bar", "other"] (defScope sLeads) := ⟨rfl, rfl, rfl, by decide +kernel, rfl, by decide +kernel, by decide +kernel⟩
/-- what the top has left for the program's defs -/
structure Txt (K : PySem.W.Frag) (w : World) (mg : Str → Option Value) (aT CT CB : Addr) (kT : List (Str × Value)) : Prop where
  isi : mg "isinstance" = none
  int : mg "int" = none
  bool : mg "bool" = none
  str : mg "str" = none
  tuple : mg "tuple" = none
  len : mg "len" = none
  all : mg "all" = none
  max : mg "max" = none
  min : mg "min" = none
  gT : mg "TURNED" = some (.ref aT)
  tT : TabS K w aT kT
  hT : ∀ c, (lookS kT ⟨#[c]⟩).isSome = isArr c
  gM : ∃ t, mg "MOST" = some (.int 6 t)
  eT : Err K mg "InvalidPattern" CT
  eB : Err K mg "InvalidBar" CB
section
variable {P : Program} {w : World} {K : PySem.W.Frag} {mg : Str → Option Value} {base : Heap} {aT CT CB : Addr} {kT : List (Str × Value)}
theorem okNum {f : Addr} {fd : FuncData} (F : Fun K "is_number" "is_number" sNum f fd) (T : Txt K w mg aT CT CB kT) : FnOk P w K mg base CX0 1 f fd ["value"] spNum := by
  refine F.ok scNum (fun vs H Q E h => ?_) (fun cdv A outer s H vs Q E hr h => ?_)
  · obtain ⟨v, d, rfl, _⟩ := h
    rfl
  · obtain ⟨v, d, rfl, an, q⟩ := h
    refine ⟨_, (pss_one (ps_ret (pe_and (pe_callB call_isi (by rfl) T.isi (by decide +kernel) (pa_cons (pv 0) (pa_cons (pe_bltn (v := .ty "int") rfl T.int boot_int rfl) pa_nil))) (pe_one (pe_not (pe_callB call_isi (by rfl) T.isi (by decide +kernel) (pa_cons (pv 0) (pa_cons (pe_bltn (v := .ty "bool") rfl T.bool (by decide +kernel) rfl) pa_nil)))))))), ?_⟩
    refine ⟨v, rfl, v, .ty "int", _, _, _, rfl, .ty _, any_ty an, kit_int d, _, rfl, ?_⟩
    cases an with
    | bl b => exact iteT ⟨_, rfl, _, .ty "bool", _, _, _, rfl, .ty _, any_ty (.bl b), kit_bool (.bool b), _, rfl, q⟩
    | int i => exact iteT ⟨_, rfl, _, .ty "bool", _, _, _, rfl, .ty _, any_ty (.int i), kit_bool (.int i), _, rfl, q⟩
    | _ => exact iteF q
theorem okInt {f : Addr} {fd : FuncData} (F : FunD K "is_integer" "is_integer" (defArgs sInt) (defBody sInt) (defScope sInt) [.non, .non] [] f fd) (GN : Own P w K mg base CX0 1 "is_number" ["value"] [] spNum) :
    FnOk P w K mg base CX0 2 f fd ["value", "low", "high"] spInt := by
  refine F.ok scInt (fun vs H Q E h => ?_) (fun cdv A outer s H vs Q E hr h => ?_)
  · obtain ⟨v, l, h, d, dl, dh, rfl, _⟩ := h
    rfl
  · obtain ⟨v, l, h, d, dl, dh, rfl, an, al, ah, q⟩ := h
    refine ⟨_, (pss_cons (ps_if (pt_not (pt_val (pe_own GN hr pass0 (pa_cons (pv 0) pa_nil)))) (pss_one (ps_ret pe_bl)) pss_nil)
      (pss_cons (ps_if (PW.pt (pw_and (pt_val (pe_own GN hr pass0 (pa_cons (pv 1) pa_nil))) (pw_and1 (pt_cmpR op_lt (pv 0) (pv 1) (nomark _))))) (pss_one (ps_ret pe_bl)) pss_nil)
      (pss_one (ps_ret (pe_not (pe_and (pe_own GN hr pass0 (pa_cons (pv 2) pa_nil)) (pe_one (pe_cmpR op_gt (pv 0) (pv 2) (nomark _))))))))), ?_⟩
    refine ⟨_, rfl, _, d, rfl, an, _, rfl, ?_⟩
    cases ed : isIntD d with
    | false =>
      refine iteT ?_
      have e : inB d dl dh = false := by cases d <;> first | rfl | cases ed
      rw [e] at q
      exact q
    | true =>
      obtain ⟨n, rfl, rfl⟩ := int_of an ed
      refine iteF ⟨_, rfl, _, dl, rfl, al, _, rfl, ?_⟩
      have last : aboveD n dl = true → tRet (tNotV (tAndV (tCall spNum [] E0 (tCons (tVar 2) tNil)) (tOp (rI0 fun i j => .bl (decide (j < i))) (tVar 0) (tVar 2)))) { nx := fun _ H' => Q .non H', rt := Q } (start ["value", "low", "high"] [.int n, l, h]) H := by
        intro ea
        refine ⟨_, rfl, _, dh, rfl, ah, _, rfl, ?_⟩
        cases eh : isIntD dh with
        | false =>
          refine iteF ⟨_, rfl, ?_⟩
          have e : inB (.int n) dl dh = true := by
            show (aboveD n dl && belowD n dh) = true
            rw [ea]
            cases dh <;> first | rfl | cases eh
          rw [e] at q
          exact q
        | true =>
          obtain ⟨m, rfl, rfl⟩ := int_of ah eh
          refine iteT ⟨_, rfl, _, rfl, _, _, rfl, rfl, _, rfl, ?_⟩
          have e : inB (.int n) dl (.int m) = !decide (m < n) := by
            show (aboveD n dl && decide (n ≤ m)) = _
            rw [ea]
            by_cases z : m < n
            · rw [decide_eq_true z, decide_eq_false (by omega)] <;> rfl
            · rw [decide_eq_false z, decide_eq_true (by omega)] <;> rfl
          rw [e] at q
          exact q
      cases el : isIntD dl with
      | false =>
        refine iteF (iteF (last ?_))
        cases dl <;> first | rfl | cases el
      | true =>
        obtain ⟨m, rfl, rfl⟩ := int_of al el
        refine iteT ⟨_, rfl, _, rfl, _, _, rfl, rfl, _, rfl, ?_⟩
        refine ite2 (fun z => ?_) (fun z => last ?_)
        · have e : inB (.int n) (.int m) dh = false := by
            show (decide (m ≤ n) && belowD n dh) = false
            have z2 := of_decide_eq_true z
            rw [decide_eq_false (by omega)] <;> rfl
          rw [e] at q
          exact q
        · have z2 : ¬ n < m := fun y => z (decide_eq_true y)
          exact decide_eq_true (by omega)
theorem kit_str (d : PyData) : PySem.W.kitOne K (.type (kindS d)) (.type "str") = some (match d with | .str _ => true | _ => false) := by
  cases d with
  | none => exact kit_ty (show kitB "NoneType" "str" = some false by decide +kernel)
  | bool b => exact kit_ty (show kitB "bool" "str" = some false by decide +kernel)
  | int i => exact kit_ty (show kitB "int" "str" = some false by decide +kernel)
  | str x => exact kit_ty (show kitB "str" "str" = some true by decide +kernel)
  | list xs => exact kit_ty (show kitB "list" "str" = some false by decide +kernel)
  | tuple xs => exact kit_ty (show kitB "tuple" "str" = some false by decide +kernel)
  | dict kvs => exact kit_ty (show kitB "dict" "str" = some false by decide +kernel)
theorem okPat {f : Addr} {fd : FuncData} (F : Fun K "is_pattern" "is_pattern" sPat f fd) (T : Txt K w mg aT CT CB kT) : FnOk P w K mg base CX0 1 f fd ["value"] spPat := by
  refine F.ok scPat (fun vs H Q E h => ?_) (fun cdv A outer s H vs Q E hr h => ?_)
  · obtain ⟨v, d, rfl, _⟩ := h
    rfl
  · obtain ⟨v, d, rfl, an, sh, q⟩ := h
    obtain ⟨tM, gM⟩ := T.gM
    refine ⟨_, (pss_one (ps_ret (pe_and (pe_callB call_isi (by rfl) T.isi (by decide +kernel) (pa_cons (pv 0) (pa_cons (pe_bltn (v := .ty "str") rfl T.str (by decide +kernel) rfl) pa_nil))) (pe_and (pe_cmpR op_le (pe_callB call_len_str (by rfl) T.len (by decide +kernel) (pa_cons (pv 0) pa_nil)) (pe_glob (v := .int 6) rfl gM ⟨_, rfl⟩) (nomark _)) (pe_one (pe_callB (cr_all rfl) (by rfl) T.all (by decide +kernel) (pa_cons (pe_lc (own := [("arrow", 1)]) (g := gName 1) (tt := tYes) rfl scPat.nd (pi_str (pv 0)) (blkOk_by (N := ["value", "arrow"]) (sc := defScope sPat) (by decide +kernel)) (fun _ _ _ _ _ => (pg_name (i := 1) scPat.nd rfl (Or.inl rfl))) (fun _ _ _ _ _ => pts_nil) (fun _ _ _ _ _ => (pe_cmpR (op_in_ts T.tT) (pv 1) (pe_glob (v := .ref aT) rfl T.gT rfl) (by rfl)))) pa_nil))))))), ?_⟩
    refine ⟨v, rfl, v, .ty "str", _, _, _, rfl, .ty _, any_ty an, kit_str d, _, rfl, ?_⟩
    cases an with
    | str x =>
      have lx := sh x rfl
      refine iteT ⟨_, rfl, x, rfl, (Nat.le_trans lx (by decide)), _, _, rfl, rfl, _, rfl, ?_⟩
      refine ite2 (fun z => ?_) (fun z => ?_)
      · have z2 : x.length ≤ 6 := by
          have := of_decide_eq_true z
          omega
        have e1 : isPatD (.str x) = x.cps.toList.all isArr := by
          show (decide (x.length ≤ 6) && _) = _
          rw [decide_eq_true z2, Bool.true_and]
        refine ⟨_, rfl, x, rfl, fun D hD => ?_⟩
        refine lc_same walk_str (Nat.le_trans z2 (by decide)) hD (fun _ _ => trivial) (fun i => .bool (isArr (x.cps.toList[i]?.getD 0))) ?_ ?_
        · rintro i y H' hi ⟨c, hc, rfl⟩ s1 hd
          refine ⟨rfl, fun k' hk => ?_⟩
          refine ⟨_, rfl, _, rfl, rfl, hk _ _ (fun _ _ z => z) ?_⟩
          rw [T.hT, show x.cps.toList[i]? = some c by simpa using hc]
          exact .bl _
        · refine fun H' acc s1 ha hal => ?_
          have e4 : (List.range x.cps.size).map (fun i => PyData.bool (isArr (x.cps.toList[i]?.getD 0))) = (x.cps.toList.map isArr).map PyData.bool := by
            rw [show x.cps.size = x.cps.toList.length by simp, map_get (fun c => PyData.bool (isArr c)) 0, List.map_map] <;> rfl
          rw [e4] at hal
          have e2 := anyL_bools hal
          refine ⟨D, _, rfl, .inl (.inl (by rw [← e2]; exact ha)), ?_⟩
          have e3 : (x.cps.toList.map isArr).all id = x.cps.toList.all isArr := by simp
          rw [e3, ← e1]
          exact q _ s1
      · have e1 : isPatD (.str x) = false := by
          show (decide (x.length ≤ 6) && _) = _
          rw [decide_eq_false (fun y => z (decide_eq_true (by omega))), Bool.false_and]
        rw [e1] at q
        exact q _ (fun _ _ z => z)
    | _ => exact iteF (q _ (fun _ _ z => z))
theorem okCPat {f : Addr} {fd : FuncData} (F : Fun K "check_pattern" "check_pattern" sCPat f fd) (T : Txt K w mg aT CT CB kT) (GP : Own P w K mg base CX0 1 "is_pattern" ["value"] [] spPat) : FnOk P w K mg base (L2.CX P w) 4 f fd ["pattern"] (spCPat CT) := by
  refine F.okX scCPat (fun vs H Q E h => ?_) (fun cdv A outer s H vs Q E hr h => ?_)
  · obtain ⟨v, d, rfl, _⟩ := h
    rfl
  · obtain ⟨v, d, rfl, an, sh, qt, qf⟩ := h
    refine ⟨_, (pss_one (ps_if (pt_not (pt_val (pe_own GP (hr.mono (by decide)) pass0 (pa_cons (pv 0) pa_nil)))) (pss_one (ps_throw T.eT rfl (hr.mono (by decide)) (takes_of rfl rfl rfl rfl) (pv 0))) pss_nil)), ?_⟩
    refine ⟨_, rfl, _, d, rfl, an, sh, fun H1 k1 => ⟨_, rfl, ?_⟩⟩
    cases e : isPatD d with
    | true => exact iteF (qt e _ k1)
    | false => exact iteT ⟨_, rfl, thrown_go ((qf e).mono k1)⟩
theorem okBarP {f : Addr} {fd : FuncData} (F : Fun K "is_bar" "is_bar" sBarP f fd) (T : Txt K w mg aT CT CB kT) (GI : Own P w K mg base CX0 2 "is_integer" ["value", "low", "high"] [] spInt) : FnOk P w K mg base CX0 3 f fd ["pattern", "value"] spBarP := by
  refine F.ok scBarP (fun vs H Q E h => ?_) (fun cdv A outer s H vs Q E hr h => ?_)
  · obtain ⟨x, v, d, rfl, _⟩ := h
    rfl
  · obtain ⟨x, v, d, rfl, lx, an, q⟩ := h
    have lz : x.length ≤ sizeLine := Nat.le_trans lx (by decide)
    refine ⟨_, (pss_cons (ps_if (pt_not (PW.pt (pw_and (pt_val (pe_callB call_isi (by rfl) T.isi (by decide +kernel) (pa_cons (pv 1) (pa_cons (pe_bltn (v := .ty "tuple") rfl T.tuple (by decide +kernel) rfl) pa_nil)))) (pw_and1 (pt_cmpR op_eq (pe_callB call_len_seq (by rfl) T.len (by decide +kernel) (pa_cons (pv 1) pa_nil)) pe_int (nomark _)))))) (pss_one (ps_ret pe_bl)) pss_nil)
      (pss_cons (ps_asg (pv 1) (pg_tup rfl (pgs_cons (pg_name (i := 2) scBarP.nd rfl (Or.inl rfl)) (pgs_cons (pg_name (i := 3) scBarP.nd rfl (Or.inl rfl)) pgs_nil))))
      (pss_one (ps_ret (pe_and (pe_own GI hr pass0 (pa_cons (pv 2) (pa_cons pe_int (pa_cons (pe_callB call_len_str (by rfl) T.len (by decide +kernel) (pa_cons (pv 0) pa_nil)) pa_nil)))) (pe_one (pe_own GI hr pass0 (pa_cons (pv 3) (pa_cons (pv 2) (pa_cons (pe_callB call_len_str (by rfl) T.len (by decide +kernel) (pa_cons (pv 0) pa_nil)) pa_nil)))))))))), ?_⟩
    refine ⟨v, rfl, v, .ty "tuple", _, _, _, rfl, .ty _, any_ty an, kit_tup d, _, rfl, ?_⟩
    cases an with
    | tup ea al =>
      rename_i a xs ds
      have ln := anyL_len al
      refine iteT ⟨_, rfl, a, xs, rfl, .inr (SqT.of ea), rfl, _, rfl, ?_⟩
      by_cases z : xs.length = 2
      · rw [show decide (V.int (xs.length : Int) = V.int 2) = true from decide_eq_true (by rw [z] <;> rfl)]
        obtain ⟨v1, v2, rfl⟩ : ∃ v1 v2, xs = [v1, v2] := by
          match xs, z with
          | [v1, v2], _ => exact ⟨v1, v2, rfl⟩
        cases al with
        | cons a1 al =>
          cases al with
          | cons a2 al =>
            cases al
            refine iteF ⟨_, rfl, a, _, rfl, SqT.of ea, rfl, _, _, rfl, _, _, rfl, rfl, ?_⟩
            refine ⟨_, rfl, _, rfl, x, rfl, lz, _, _, _, _, _, _, rfl, a1, .int _, .int _, _, rfl, ?_⟩
            rename_i d1 d2
            have eb : isBarD x.length (.tuple [d1, d2]) = (inB d1 (.int 0) (.int (x.length : Nat)) && inB d2 d1 (.int (x.length : Nat))) := rfl
            rw [eb] at q
            cases e1 : inB d1 (.int 0) (.int (x.length : Nat)) with
            | false =>
              rw [e1] at q
              exact iteF q
            | true =>
              rw [e1] at q
              exact iteT ⟨_, rfl, _, rfl, _, rfl, x, rfl, lz, _, _, _, _, _, _, rfl, a2, a1, .int _, q⟩
      · rw [show decide (V.int (xs.length : Int) = V.int 2) = false from decide_eq_false fun y => z (by injection y with y; omega)]
        refine iteT ?_
        have eb : isBarD x.length (.tuple ds) = false := by
          match ds, ln with
          | [], _ => rfl
          | [_], _ => rfl
          | [_, _], ln => exact (z ln).elim
          | _ :: _ :: _ :: _, _ => rfl
        rw [eb] at q
        exact q
    | _ => exact iteF (iteT q)
theorem okCBar {f : Addr} {fd : FuncData} (F : Fun K "check_bar" "check_bar" sCBar f fd) (T : Txt K w mg aT CT CB kT) (GB : Own P w K mg base CX0 3 "is_bar" ["pattern", "value"] [] spBarP) : FnOk P w K mg base (L2.CX P w) 4 f fd ["pattern", "bar"] (spCBar CB) := by
  refine F.okX scCBar (fun vs H Q E h => ?_) (fun cdv A outer s H vs Q E hr h => ?_)
  · obtain ⟨x, v, d, rfl, _⟩ := h
    rfl
  · obtain ⟨x, v, d, rfl, lx, an, qt, qf⟩ := h
    refine ⟨_, (pss_one (ps_if (pt_not (pt_val (pe_own GB hr pass0 (pa_cons (pv 0) (pa_cons (pv 1) pa_nil))))) (pss_one (ps_throw T.eB rfl (hr.mono (by decide)) (takes_of rfl rfl rfl rfl) (pv 1))) pss_nil)), ?_⟩
    refine ⟨_, rfl, _, rfl, x, v, d, rfl, lx, an, _, rfl, ?_⟩
    cases e : isBarD x.length d with
    | true => exact iteF (qt e)
    | false => exact iteT ⟨_, rfl, thrown_go (qf e)⟩
theorem okLeads {f : Addr} {fd : FuncData} (F : Fun K "_leads" "_leads" sLeads f fd) (zx : mg "max" = none) (zn : mg "min" = none) : FnOk P w K mg base CX0 1 f fd ["pattern", "bar", "other"] spLeads := by
  refine F.ok scLeads (fun vs H Q E h => ?_) (fun cdv A outer s H vs Q E hr h => ?_)
  · obtain ⟨x, p, q, b, e, c, l, rfl, _⟩ := h
    rfl
  · obtain ⟨x, p, q, b, e, c, l, rfl, px, hp, hq, be, ex, cl, lx, k⟩ := h
    have lz : x.length ≤ sizeLine := Nat.le_trans px.l (by decide)
    refine ⟨_, (pss_cons (ps_asg (pe_tup (pa_cons (pv 1) (pa_cons (pv 2) pa_nil))) (pg_tup rfl (pgs_cons (pg_tup rfl (pgs_cons (pg_name (i := 3) scLeads.nd rfl (Or.inl rfl)) (pgs_cons (pg_name (i := 4) scLeads.nd rfl (Or.inl rfl)) pgs_nil))) (pgs_cons (pg_tup rfl (pgs_cons (pg_name (i := 5) scLeads.nd rfl (Or.inl rfl)) (pgs_cons (pg_name (i := 6) scLeads.nd rfl (Or.inl rfl)) pgs_nil))) pgs_nil))))
      (pss_cons (ps_par (i := 7) (j := 8) (by rfl) scLeads.nd rfl rfl (by decide) rfl rfl (pa_cons (pe_callB (call_max2 rfl) (by rfl) zx (by decide +kernel) (pa_cons (pv 3) (pa_cons (pv 5) pa_nil))) (pa_cons (pe_callB (call_min2 rfl) (by rfl) zn (by decide +kernel) (pa_cons (pv 4) (pa_cons (pv 6) pa_nil))) pa_nil)) (by rfl))
      (pss_cons (ps_if (pt_cmpR op_gt (pv 7) (pv 8) (nomark _)) (pss_one (ps_ret pe_bl)) pss_nil)
      (Evl.pss_cut (ps_set (i := 9) scLeads.nd rfl (Or.inl rfl) (pe_or (pe_cmpR op_eq (pv 3) (pv 5) (nomark _)) (pe_one (pe_cmpR op_eq (pe_ix ix_str (pv 0) (pe_op op_sub (pv 7) pe_int) (fun _ _ => rfl)) (pe_ifExp (pt_cmpR op_lt (pv 3) (pv 5) (nomark _)) pe_str pe_str) (nomark _)))))
      (pss_one (ps_ret (pe_and (pv 9) (pe_one (pe_or (pe_cmpR op_eq (pv 4) (pv 6) (nomark _)) (pe_one (pe_cmpR op_eq (pe_ix ix_str (pv 0) (pv 8) (fun _ _ => rfl)) (pe_ifExp (pt_cmpR op_gt (pv 4) (pv 6) (nomark _)) pe_str pe_str) (nomark _)))))))))))), ?_⟩
    refine ⟨_, rfl, _, rfl, by show 2 ≤ sizeLine; decide, fun t ht => ?_⟩
    have k1 := same_new (o := .tup [.ref p, .ref q]) ht
    refine ⟨t, _, rfl, SqT.of upd_same, rfl, _, _, rfl, ⟨p, _, rfl, SqT.of (hp.keep k1), rfl, _, _, rfl, _, _, rfl, rfl, _, _, rfl, ⟨q, _, rfl, SqT.of (hq.keep k1), rfl, _, _, rfl, _, _, rfl, rfl, rfl, ?_⟩⟩⟩
    refine ⟨_, rfl, _, rfl, _, _, rfl, _, rfl, _, rfl, _, _, rfl, _, _, rfl, ?_⟩
    refine ⟨_, rfl, _, rfl, _, _, rfl, rfl, _, rfl, ?_⟩
    have em : (if (c : Int) > (b : Int) then (c : Int) else (b : Int)) = ((max b c : Nat) : Int) := by split <;> omega
    have en : (if (l : Int) < (e : Int) then (l : Int) else (e : Int)) = ((min e l : Nat) : Int) := by split <;> omega
    rw [em, en]
    generalize upd H t (.tup [.ref p, .ref q]) = H1 at k1 ⊢
    refine ite2 (fun z => ?_) (fun z => ?_)
    · have z2 : min e l < max b c := by have := of_decide_eq_true z; omega
      have e1 : leadsB x b e c l = false := by unfold leadsB; rw [if_pos z2]
      rw [← e1]
      exact k _ k1
    have z2 : ¬ min e l < max b c := fun y => z (decide_eq_true (by omega))
    refine ⟨fun σ' H' => ∃ L : Bool, σ' = [some (.str x), some (.ref p), some (.ref q), some (.int (b : Nat)), some (.int (e : Nat)), some (.int (c : Nat)), some (.int (l : Nat)), some (.int (max b c : Nat)), some (.int (min e l : Nat)), some (.bl L)] ∧ H' = H1 ∧ L = (b == c || (isR x (max b c - 1) == decide (c < b))), ?_, ?_⟩
    · refine ⟨_, rfl, _, rfl, rfl, _, rfl, ?_⟩
      by_cases hb : b = c
      · subst hb
        rw [show decide (V.int (b : Int) = V.int (b : Int)) = true from decide_eq_true rfl]
        refine iteT ⟨_, rfl, rfl, by simp⟩
      · rw [show decide (V.int (b : Int) = V.int (c : Int)) = false from decide_eq_false fun y => hb (by injection y with y; omega)]
        refine iteF ?_
        obtain ⟨i, hi⟩ : ∃ i, max b c = i + 1 := ⟨max b c - 1, by omega⟩
        have hix : i < x.length := by omega
        obtain ⟨d, hd, ad⟩ := arr_at px hix
        obtain ⟨s1, s2⟩ := sign_eq hd ad
        have e1 : ((max b c : Nat) : Int) - 1 = (i : Nat) := by omega
        refine ⟨_, rfl, _, rfl, _, _, rfl, rfl, x, _, d, rfl, rfl, lz, ?_, ?_⟩
        · rw [e1]
          exact atI_nat hd
        refine ⟨_, rfl, _, rfl, _, _, rfl, rfl, _, rfl, ite2 (fun y => ?_) (fun y => ?_)⟩
        · have y2 : b < c := by have := of_decide_eq_true y; omega
          refine ⟨rfl, _, rfl, rfl, ?_⟩
          rw [s2, show max b c - 1 = i by omega, decide_eq_false (show ¬ c < b by omega), show (b == c) = false from beq_eq_false_iff_ne.mpr hb]
          cases isR x i <;> rfl
        · have y2 : ¬ b < c := fun u => y (decide_eq_true (by omega))
          refine ⟨rfl, _, rfl, rfl, ?_⟩
          rw [s1, show max b c - 1 = i by omega, decide_eq_true (show c < b by omega), show (b == c) = false from beq_eq_false_iff_ne.mpr hb]
          cases isR x i <;> rfl
    · rintro σ' H' ⟨L, rfl, rfl, eL⟩
      have eq : leadsB x b e c l = (L && (e == l || (isR x (min e l) == decide (l < e)))) := by
        unfold leadsB
        rw [if_neg z2, ← eL]
      rw [eq] at k
      refine ⟨_, rfl, _, rfl, ?_⟩
      cases L with
      | false => exact iteF (k _ k1)
      | true =>
        refine iteT ⟨_, rfl, _, rfl, rfl, _, rfl, ?_⟩
        rw [Bool.true_and] at k
        by_cases hb : e = l
        · subst hb
          rw [show decide (V.int (e : Int) = V.int (e : Int)) = true from decide_eq_true rfl]
          refine iteT ?_
          have := k _ k1
          simpa using this
        · rw [show decide (V.int (e : Int) = V.int (l : Int)) = false from decide_eq_false fun y => hb (by injection y with y; omega)]
          refine iteF ?_
          rw [show (e == l) = false from beq_eq_false_iff_ne.mpr hb, Bool.false_or] at k
          have hix : min e l < x.length := by omega
          obtain ⟨d, hd, ad⟩ := arr_at px hix
          obtain ⟨s1, s2⟩ := sign_eq hd ad
          refine ⟨_, rfl, _, rfl, x, _, d, rfl, rfl, lz, atI_nat hd, ?_⟩
          refine ⟨_, rfl, _, rfl, _, _, rfl, rfl, _, rfl, ite2 (fun y => ?_) (fun y => ?_)⟩
          · have y2 : l < e := by have := of_decide_eq_true y; omega
            refine ⟨rfl, ?_⟩
            rw [s1]
            rw [decide_eq_true y2] at k
            have := k _ k1
            simpa using this
          · have y2 : ¬ l < e := fun u => y (decide_eq_true (by omega))
            refine ⟨rfl, ?_⟩
            rw [s2]
            rw [decide_eq_false y2] at k
            have := k _ k1
            simpa using this
theorem okInto {f : Addr} {fd : FuncData} (F : Fun K "leads_into" "leads_into" sInto f fd) (GP : Own P w K mg base (L2.CX P w) 4 "check_pattern" ["pattern"] [] (spCPat CT)) (GB : Own P w K mg base (L2.CX P w) 4 "check_bar" ["pattern", "bar"] [] (spCBar CB)) (GL : Own P w K mg base CX0 1 "_leads" ["pattern", "bar", "other"] [] spLeads) :
    FnOk P w K mg base (L2.CX P w) 5 f fd ["pattern", "bar", "other"] (spInto CT CB) := by
  refine F.okX scInto (fun vs H Q E h => ?_) (fun cdv A outer s H vs Q E hr h => ?_)
  · obtain ⟨v, u, z, dv, du, dz, rfl, _⟩ := h
    rfl
  · obtain ⟨v, u, z, dv, du, dz, rfl, av, au, az, sv, e1, e2, e3, k⟩ := h
    have pc := passes_call (X := (cxOf (L2.CX P w) P w K mg base ["pattern", "bar", "other"] "leads_into" (defScope sInto) f cdv A outer s H E)) (E := E) (takes_of rfl rfl rfl rfl) (fun _ _ _ _ z => z)
    refine ⟨_, (pss_cons (ps_expr (pe_own GP hr pc (pa_cons (pv 0) pa_nil)))
      (pss_cons (ps_expr (pe_own GB hr pc (pa_cons (pv 0) (pa_cons (pv 1) pa_nil))))
      (pss_cons (ps_expr (pe_own GB hr pc (pa_cons (pv 0) (pa_cons (pv 2) pa_nil))))
      (pss_one (ps_ret (pe_own GL (hr.mono (by decide)) pass0 (pa_cons (pv 0) (pa_cons (pv 1) (pa_cons (pv 2) pa_nil))))))))), ?_⟩
    refine ⟨_, rfl, v, dv, rfl, av, sv, fun g1 H1 k1 => ?_, e1⟩
    obtain ⟨x, rfl, px⟩ := patD_is g1
    cases av
    have lx : x.length ≤ 1000 := Nat.le_trans px.l (by decide)
    refine ⟨_, rfl, _, rfl, x, u, du, rfl, lx, au.keep k1, fun g2 => ?_, fun g2 => (e2 x rfl g1 g2).mono k1⟩
    refine ⟨_, rfl, _, rfl, x, z, dz, rfl, lx, az.keep k1, fun g3 => ?_, fun g3 => (e3 x rfl g1 g2 g3).mono k1⟩
    obtain ⟨b, e, rfl, b1, b2⟩ := bar_of g2
    obtain ⟨c, l, rfl, c1, c2⟩ := bar_of g3
    obtain ⟨p, rfl, hp⟩ := bar_at (au.keep k1)
    obtain ⟨q, rfl, hq⟩ := bar_at (az.keep k1)
    exact ⟨_, rfl, _, rfl, _, rfl, x, p, q, b, e, c, l, rfl, px, hp, hq, b1, b2, c1, c2, fun H2 k2 => k x b e c l rfl px rfl rfl b1 b2 c1 c2 H2 (k1.trans k2)⟩
end
end K46

set_option Elab.async false
set_option linter.all false
set_option maxRecDepth 100000
set_option maxHeartbeats 4000000
/-! TkDC: x[::-1] of a text. -/
namespace Rw
open PySem PySem.Spec PyProof.Rows L2
theorem strT_len (z : Str) : z.cps.toList.length = z.length := Array.length_toList
def revS (z : Str) : Str := ⟨z.cps.toList.reverse.toArray⟩
theorem rev_list (z : Str) : (revS z).cps.toList = z.cps.toList.reverse := rfl
theorem rev_len (z : Str) : (revS z).length = z.length := by
  rw [← strT_len, rev_list, List.length_reverse, strT_len]
theorem all_pick (z : Str) : (List.range z.length).filterMap (z.cps[·]?) = z.cps.toList := PySem.W.krv_all z.cps
theorem rev_pick (z : Str) : (⟨((Builtin.Str.strSliceIndices none none (-1) z.length).filterMap (z.cps[·]?)).toArray⟩ : Str) = revS z := by
  have e : Builtin.Str.strSliceIndices none none (-1) z.length = (List.range z.length).map fun k => z.length - 1 - k := PySem.W.krv_sliceRange z.length
  rw [e, PySem.W.krv_range, List.filterMap_reverse, all_pick] <;> rfl
def tRevS (te : TE) : TE := fun σ H Q => te σ H fun x H1 => ∃ z, x = .str z ∧ z.length ≤ sizeLine ∧ Q (.str (revS z)) H1
section
variable {X : Cx}
theorem pe_revS {e : Expr} {te : TE} {k : Nat} {p1 p2 p3 pos : Pos} (he : PE X e te) : PE X (.Subscript e (.Slice none none (some (.UnaryOp .USub (.Constant (.int 1) k p1) p2)) p3) pos) (tRevS te) := by
  refine ⟨fun pins s σ H Q I h => ?_⟩
  refine Subscript_ (thn (he.run pins s σ H _ I h) fun v s1 ⟨x, H1, I1, r1, q1⟩ => ?_)
  obtain ⟨z, ex, hz, q⟩ := q1
  subst ex
  obtain ⟨t, rfl⟩ := r1
  have hst : PO X (some (.UnaryOp .USub (.Constant (.int 1) k p1) p2)) (tPart (tUn (rU fun i => .int (-i)) (tC (.int 1)))) := po_some (pe_un un_neg pe_int)
  refine wpAny_Slice (thn (po_none.run pins s1 σ H1 (fun o H2 => o = none ∧ H2 = H1) I1 ⟨rfl, rfl⟩) fun vl s2 ⟨l, H2, I2, pl, el, e2⟩ => ?_)
  subst el e2
  refine thn (po_none.run pins s2 σ H2 (fun o H3 => o = none ∧ H3 = H2) I2 ⟨rfl, rfl⟩) fun vu s3 ⟨u, H3, I3, pu, eu, e3⟩ => ?_
  subst eu e3
  refine thn (hst.run pins s3 σ H3 (fun o H4 => o = some (-1) ∧ H4 = H3) I3 ⟨1, rfl, -1, rfl, rfl, rfl⟩) fun vs s4 ⟨o, H4, I4, ps, eo, e4⟩ => ?_
  subst eo e4
  have I5 : Inv X pins σ H4 { s4 with heap := s4.heap.push { cls := .type "slice", data := .fields #[vl, vu, vs] } } := I4.kept (t' := s4.toks) fun b ob q => Heap.get?_push_of_some _ q
  obtain ⟨l, rfl, el⟩ := IsPart.raw pl
  obtain ⟨u, rfl, eu⟩ := IsPart.raw pu
  obtain ⟨st, rfl, es⟩ := IsPart.raw ps
  show wpAny (model X.prog X.w) X.A (subscriptTail e (.Slice none none (some (.UnaryOp .USub (.Constant (.int 1) k p1) p2)) p3) (.str z t) (.ref s4.heap.objs.size)) (EP X pins σ Q) X.xe { s4 with heap := s4.heap.push { cls := .type "slice", data := .fields #[partValue l, partValue u, partValue st] } }
  refine tail_any (ops := [.str z t, .ref s4.heap.objs.size]) (typeIs_str _ _ _) (F.slot_str_getitem.lookup) ?_ (by with_unfolding_all rfl)
  refine wpAny_getItem_str_slice (l := l) (u := u) (st := st) ⟨_, Heap.get?_push_size _ rfl, rfl, rfl⟩ (by rw [es]; rfl) ?_
  have el2 : (st.map (·.1)).getD 1 = -1 := by rw [es] <;> rfl
  have en : ((1 : Int) == -1) = false := by decide
  have e0 : (slicePicked z l u st) = Builtin.Str.strSliceIndices none none (-1) z.length := by
    unfold slicePicked
    rw [el, eu, el2]
  unfold sliceMade
  rw [e0, el2, if_neg (by simp), rev_pick]
  exact ⟨by rw [rev_len]; exact hz, .str _, H4, I5.tok _, ⟨_, rfl⟩, q⟩
end
end Rw

set_option Elab.async false
set_option linter.all false
set_option maxRecDepth 100000
set_option maxHeartbeats 4000000
/-! TkEE: 1 at all shared places, arrow by arrow; seen from the other end; readings of pairs. -/
namespace Rw
open PySem PySem.Spec PyProof.Rows L2
def heldB (b e c l p : Nat) : Bool := decide (b ≤ p ∧ p ≤ e) && decide (c ≤ p ∧ p ≤ l)
def bothB (b e k : Nat) : Bool := decide (b ≤ k) && decide (k + 1 ≤ e)
def mapAt (x : Str) (b e c l k : Nat) : Bool := (bothB b e k && heldB b e c l (goA x k)) == (heldB b e c l (stA x k) && bothB c l k)
def isMapB (x : Str) (b e c l : Nat) : Bool := (List.range x.length).all (mapAt x b e c l) && (List.range (x.length + 1)).any (heldB b e c l)
theorem held_iff {b e c l p : Nat} : heldB b e c l p = true ↔ (b ≤ p ∧ p ≤ e) ∧ c ≤ p ∧ p ≤ l := by
  unfold heldB
  rw [Bool.and_eq_true, decide_eq_true_iff, decide_eq_true_iff]
theorem both_iff {b e k : Nat} : bothB b e k = true ↔ b ≤ k ∧ k + 1 ≤ e := by
  unfold bothB
  rw [Bool.and_eq_true, decide_eq_true_iff, decide_eq_true_iff]
theorem mapAt_iff {x : Str} {b e c l k : Nat} : mapAt x b e c l k = true ↔ (((b ≤ k ∧ k + 1 ≤ e) ∧ (b ≤ goA x k ∧ goA x k ≤ e) ∧ c ≤ goA x k ∧ goA x k ≤ l) ↔ (((b ≤ stA x k ∧ stA x k ≤ e) ∧ c ≤ stA x k ∧ stA x k ≤ l) ∧ c ≤ k ∧ k + 1 ≤ l)) := by
  unfold mapAt
  rw [beq_iff_eq, Bool.eq_iff_iff, Bool.and_eq_true, Bool.and_eq_true, both_iff, both_iff, held_iff, held_iff]
theorem ends_at (x : Str) (k : Nat) : (isR x k = true ∧ stA x k = k ∧ goA x k = k + 1) ∨ (isR x k = false ∧ stA x k = k + 1 ∧ goA x k = k) := by
  unfold stA goA
  cases h : isR x k with
  | true => exact .inl ⟨rfl, if_pos rfl, if_pos rfl⟩
  | false => exact .inr ⟨rfl, if_neg (by decide), if_neg (by decide)⟩
theorem beq_dec (r : Bool) (P : Prop) [Decidable P] : (r == decide P) = true ↔ (r = true ↔ P) := by
  by_cases h : P
  · rw [decide_eq_true h]
    cases r <;> simp [h]
  · rw [decide_eq_false h]
    cases r <;> simp [h]
theorem leads_iff {x : Str} {b e c l : Nat} : leadsB x b e c l = true ↔ max b c ≤ min e l ∧ (b = c ∨ (isR x (max b c - 1) = true ↔ c < b)) ∧ (e = l ∨ (isR x (min e l) = true ↔ l < e)) := by
  unfold leadsB
  by_cases h : min e l < max b c
  · rw [if_pos h]
    constructor
    · intro z; cases z
    · intro z; omega
  · rw [if_neg h, Bool.and_eq_true, Bool.or_eq_true, Bool.or_eq_true, beq_dec, beq_dec, beq_iff_eq, beq_iff_eq]
    constructor
    · intro z; exact ⟨by omega, z⟩
    · intro z; exact z.2
theorem isMap_leads {x : Str} {b e c l : Nat} (be : b ≤ e) (ex : e ≤ x.length) (cl : c ≤ l) (lx : l ≤ x.length) : isMapB x b e c l = leadsB x b e c l := by
  rw [Bool.eq_iff_iff, leads_iff]
  unfold isMapB
  rw [Bool.and_eq_true, List.all_eq_true, List.any_eq_true]
  constructor
  · rintro ⟨ha, p, hp, hh⟩
    have h1 := held_iff.mp hh
    have lo : max b c ≤ min e l := by omega
    refine ⟨lo, ?_, ?_⟩
    · by_cases hb : b = c
      · exact .inl hb
      · refine .inr ?_
        have h2 := mapAt_iff.mp (ha (max b c - 1) (List.mem_range.mpr (by omega)))
        rcases ends_at x (max b c - 1) with ⟨r, s, g⟩ | ⟨r, s, g⟩
        · rw [s, g] at h2
          exact ⟨fun _ => by omega, fun _ => r⟩
        · rw [s, g] at h2
          rw [r]
          exact ⟨fun z => (nomatch z), fun z => by omega⟩
    · by_cases hb : e = l
      · exact .inl hb
      · refine .inr ?_
        have h2 := mapAt_iff.mp (ha (min e l) (List.mem_range.mpr (by omega)))
        rcases ends_at x (min e l) with ⟨r, s, g⟩ | ⟨r, s, g⟩
        · rw [s, g] at h2
          exact ⟨fun _ => by omega, fun _ => r⟩
        · rw [s, g] at h2
          rw [r]
          exact ⟨fun z => (nomatch z), fun z => by omega⟩
  · rintro ⟨lo, hL, hR⟩
    refine ⟨fun k hk => ?_, max b c, List.mem_range.mpr (by omega), held_iff.mpr (by omega)⟩
    have hk2 := List.mem_range.mp hk
    rw [mapAt_iff]
    by_cases e1 : k + 1 = max b c
    · have e2 : max b c - 1 = k := by omega
      rw [e2] at hL
      rcases ends_at x k with ⟨r, s, g⟩ | ⟨r, s, g⟩
      · rw [s, g]
        have : b = c ∨ c < b := hL.imp id fun z => z.mp r
        omega
      · rw [s, g]
        have : b = c ∨ ¬ c < b := hL.imp id fun z y => by rw [z.mpr y] at r; cases r
        omega
    · by_cases e3 : k = min e l
      · rw [← e3] at hR
        rcases ends_at x k with ⟨r, s, g⟩ | ⟨r, s, g⟩
        · rw [s, g]
          have : e = l ∨ l < e := hR.imp id fun z => z.mp r
          omega
        · rw [s, g]
          have : e = l ∨ ¬ l < e := hR.imp id fun z y => by rw [z.mpr y] at r; cases r
          omega
      · rcases ends_at x k with ⟨r, s, g⟩ | ⟨r, s, g⟩
        · rw [s, g]
          omega
        · rw [s, g]
          omega
/-! ### turned about -/
/-- all arrows the other way -/
structure Flip (x y : Str) : Prop where
  len : y.length = x.length
  at' : ∀ i, i < x.length → isR y i = !isR x i
/-- seen from the other end -/
structure Back (x y : Str) : Prop where
  len : y.length = x.length
  at' : ∀ i, i < x.length → isR y i = isR x (x.length - 1 - i)
theorem leads_flip {x y : Str} {b e c l : Nat} (f : Flip x y) (be : b ≤ e) (ex : e ≤ x.length) (cl : c ≤ l) (lx : l ≤ x.length) : leadsB y c l b e = leadsB x b e c l := by
  rw [Bool.eq_iff_iff, leads_iff, leads_iff, Nat.max_comm c b, Nat.min_comm l e]
  refine and_congr Iff.rfl (and_congr ?_ ?_)
  · by_cases h : b = c
    · exact ⟨fun _ => .inl h, fun _ => .inl h.symm⟩
    · rw [f.at' (max b c - 1) (by omega)]
      cases isR x (max b c - 1) <;> simp <;> omega
  · by_cases h : e = l
    · exact ⟨fun _ => .inl h, fun _ => .inl h.symm⟩
    · rw [f.at' (min e l) (by omega)]
      cases isR x (min e l) <;> simp <;> omega
theorem leads_mirror {x y z : Str} {b e c l : Nat} (f : Flip x y) (g : Back y z) (be : b ≤ e) (ex : e ≤ x.length) (cl : c ≤ l) (lx : l ≤ x.length) : leadsB z (x.length - e) (x.length - b) (x.length - l) (x.length - c) = leadsB x b e c l := by
  have key : ∀ i, i < x.length → (isR z i = true ↔ ¬ isR x (x.length - 1 - i) = true) := fun i hi => by
    rw [g.at' i (by rw [f.len]; exact hi), f.len, f.at' _ (by omega)]
    cases isR x (x.length - 1 - i) <;> decide
  rw [Bool.eq_iff_iff, leads_iff, leads_iff]
  have a1 : max (x.length - e) (x.length - l) ≤ min (x.length - b) (x.length - c) ↔ max b c ≤ min e l := by omega
  rw [a1]
  refine and_congr_right fun lo => ?_
  have A : (x.length - e = x.length - l ∨ (isR z (max (x.length - e) (x.length - l) - 1) = true ↔ x.length - l < x.length - e)) ↔ (e = l ∨ (isR x (min e l) = true ↔ l < e)) := by
    by_cases h : e = l
    · exact ⟨fun _ => .inl h, fun _ => .inl (by omega)⟩
    · rw [key _ (by omega), show x.length - 1 - (max (x.length - e) (x.length - l) - 1) = min e l by omega]
      cases isR x (min e l) <;> simp <;> omega
  have B : (x.length - b = x.length - c ∨ (isR z (min (x.length - b) (x.length - c)) = true ↔ x.length - c < x.length - b)) ↔ (b = c ∨ (isR x (max b c - 1) = true ↔ c < b)) := by
    by_cases h : b = c
    · exact ⟨fun _ => .inl h, fun _ => .inl (by omega)⟩
    · rw [key _ (by omega), show x.length - 1 - min (x.length - b) (x.length - c) = max b c - 1 by omega]
      cases isR x (max b c - 1) <;> simp <;> omega
  rw [A, B]
  exact and_comm
end Rw

set_option Elab.async false
set_option linter.all false
set_option maxRecDepth 100000
set_option maxHeartbeats 4000000
/-! TkEF: promises about bars led into others; patterns turned about as texts; readings of pairs and chains. -/
namespace Rw
open PySem PySem.Spec PyProof.Rows L2
theorem len_toList (x : Str) : x.cps.toList.length = x.length := Array.length_toList
theorem flip_repl {x : Str} (px : Pat x 6) : Flip x (Txt.replace (Txt.replace (Txt.replace x ">" "x") "<" ">") "x" "<") ∧ Pat (Txt.replace (Txt.replace (Txt.replace x ">" "x") "<" ">") "x" "<") 6 := by
  have e1 := repl_sign (x := x) (y := ">") (z := "x") (c := 62) (d := 120) rfl rfl
  have e2 := repl_sign (x := Txt.replace x ">" "x") (y := "<") (z := ">") (c := 60) (d := 62) rfl rfl
  have e3 := repl_sign (x := Txt.replace (Txt.replace x ">" "x") "<" ">") (y := "x") (z := "<") (c := 120) (d := 60) rfl rfl
  rw [e2, e1, List.map_map, List.map_map] at e3
  generalize Txt.replace (Txt.replace (Txt.replace x ">" "x") "<" ">") "x" "<" = y at e3 ⊢
  have ln : y.length = x.length := by rw [← len_toList, e3, List.length_map, len_toList]
  refine ⟨⟨ln, fun i hi => ?_⟩, by rw [ln]; exact px.l, ?_⟩
  · obtain ⟨c, hc, ac⟩ := arr_at px hi
    unfold isR
    rw [e3, List.getElem?_map, hc]
    have h2 : c = 62 ∨ c = 60 := by
      have : (c == 62 || c == 60) = true := ac
      simpa using this
    rcases h2 with z | z <;> subst z <;> decide
  · rw [e3, List.all_map, List.all_eq_true]
    intro c hc
    have ac := List.all_eq_true.mp px.a c hc
    have h2 : c = 62 ∨ c = 60 := by
      have : (c == 62 || c == 60) = true := ac
      simpa using this
    rcases h2 with z | z <;> subst z <;> decide
theorem back_rev {y : Str} (py : Pat y 6) : Back y (revS y) ∧ Pat (revS y) 6 := by
  refine ⟨⟨rev_len y, fun i hi => ?_⟩, by rw [rev_len]; exact py.l, ?_⟩
  · unfold isR
    rw [rev_list, List.getElem?_reverse (by rw [len_toList]; exact hi), len_toList]
  · rw [rev_list, List.all_reverse]
    exact py.a
/-! ### readings -/
section
variable {K : PySem.W.Frag} {σ : L2.St} {H : Hp} {Q : VK}
abbrev rLe : R2 := rI0 fun i j => .bl (decide (i ≤ j))
theorem chain_go {ta tb tc : TE} {i j k : Nat} (ha : ∀ Q : VK, Q (.int (i : Nat)) H → ta σ H Q) (hb : ∀ Q : VK, Q (.int (j : Nat)) H → tb σ H Q) (hc : ∀ Q : VK, Q (.int (k : Nat)) H → tc σ H Q) (q : Q (.bl (decide (i ≤ j ∧ j ≤ k))) H) : tChain rLe rLe ta tb tc σ H Q := by
  refine ha _ (hb _ ⟨_, _, rfl, rfl, _, rfl, ite2 (fun z => ?_) (fun z => ?_)⟩)
  · refine hc _ ⟨_, _, rfl, rfl, ?_⟩
    have z2 : i ≤ j := by have := of_decide_eq_true z; omega
    have e : decide (i ≤ j ∧ j ≤ k) = decide ((j : Int) ≤ (k : Int)) := by
      by_cases h : j ≤ k
      · rw [decide_eq_true (⟨z2, h⟩ : i ≤ j ∧ j ≤ k), decide_eq_true (by omega)]
      · rw [decide_eq_false (fun y => h y.2), decide_eq_false (by omega)]
    rw [e] at q
    exact q
  · have z2 : ¬ i ≤ j := fun y => z (decide_eq_true (by omega))
    rw [decide_eq_false (fun y => z2 y.1)] at q
    exact q
theorem ix_go {v j : Nat} {p : Addr} {b e : Nat} {n : Nat} (h : σ[v]? = some (some (.ref p))) (hp : PairAt H p b e) (hn : ([V.int (b : Nat), V.int (e : Nat)] : List V)[j]? = some (.int (n : Nat))) : ∀ Q : VK, Q (.int (n : Nat)) H → tOp (rIxT K) (tVar v) (tC (.int (j : Nat))) σ H Q :=
  fun Q q => ⟨_, h, p, _, _, _, rfl, rfl, SqT.of hp, atI_nat hn, q⟩
theorem var_go {v : Nat} {x : V} (h : σ[v]? = some (some x)) : ∀ Q : VK, Q x H → tVar v σ H Q := fun Q q => ⟨_, h, q⟩
theorem and_go {ta tb : TE} {a b : Bool} (ha : ∀ Q : VK, Q (.bl a) H → ta σ H Q) (hb : ∀ Q : VK, Q (.bl b) H → tb σ H Q) (q : Q (.bl (a && b)) H) : tAndV ta tb σ H Q := by
  refine ha _ ⟨_, rfl, ?_⟩
  cases a with
  | true => exact iteT (hb _ q)
  | false => exact iteF q
theorem le_go {ta tb : TE} {i j : Nat} (ha : ∀ Q : VK, Q (.int (i : Nat)) H → ta σ H Q) (hb : ∀ Q : VK, Q (.int (j : Nat)) H → tb σ H Q) : ∀ Q : VK, Q (.bl (decide (i ≤ j))) H → tOp rLe ta tb σ H Q := fun Q q => by
  refine ha _ (hb _ ⟨_, _, rfl, rfl, ?_⟩)
  have e : decide (i ≤ j) = decide ((i : Int) ≤ (j : Int)) := by
    by_cases h : i ≤ j
    · rw [decide_eq_true h, decide_eq_true (by omega)]
    · rw [decide_eq_false h, decide_eq_false (by omega)]
  rw [e] at q
  exact q
end
def b2n (b : Bool) : Int := if b = true then 1 else 0
theorem b2n_mul (u v : Bool) : b2n u * b2n v = b2n (u && v) := by cases u <;> cases v <;> rfl
theorem b2n_rng (u : Bool) : -(2 ^ 64) < b2n u ∧ b2n u < 2 ^ 64 := by cases u <;> decide
theorem b2n_ne (u v : Bool) : (!decide (V.int (b2n u) = V.int (b2n v))) = !(u == v) := by cases u <;> cases v <;> decide
theorem b2n_any {α : Type} (f : α → Bool) : ∀ l : List α, decide ((1 : Int) ∈ l.map fun a => b2n (f a)) = l.any f
  | [] => rfl
  | a :: l => by
    have ih := b2n_any f l
    rw [List.map_cons, List.any_cons, ← ih]
    cases f a with
    | true => simp [b2n]
    | false => simp [b2n]
theorem succ_go {σ : L2.St} {H : Hp} {v i : Nat} (h : σ[v]? = some (some (.int (i : Nat)))) : ∀ Q : VK, Q (.int ((i + 1 : Nat) : Int)) H → tOp (rI0 fun i j => .int (i + j)) (tVar v) (tC (.int 1)) σ H Q := fun Q q => ⟨_, h, _, _, rfl, rfl, q⟩
theorem isMap_all {x : Str} {b e c l : Nat} (h : ∀ j, j < x.length → mapAt x b e c l j = true) : isMapB x b e c l = (List.range (x.length + 1)).any (heldB b e c l) := by
  unfold isMapB
  rw [List.all_eq_true.mpr fun j hj => h j (List.mem_range.mp hj), Bool.true_and]
theorem isMap_not {x : Str} {b e c l i : Nat} (hi : i < x.length) (h : mapAt x b e c l i = false) : isMapB x b e c l = false := by
  unfold isMapB
  rw [List.all_eq_false.mpr ⟨i, List.mem_range.mpr hi, by rw [h]; exact Bool.false_ne_true⟩, Bool.false_and]
theorem sub_go {σ : L2.St} {H : Hp} {ta tb : TE} {i j : Nat} (h : j ≤ i) (ha : ∀ Q : VK, Q (.int (i : Nat)) H → ta σ H Q) (hb : ∀ Q : VK, Q (.int (j : Nat)) H → tb σ H Q) : ∀ Q : VK, Q (.int ((i - j : Nat) : Int)) H → tOp (rI0 fun i j => .int (i - j)) ta tb σ H Q := fun Q q => by
  refine ha _ (hb _ ⟨_, _, rfl, rfl, ?_⟩)
  rw [Int.ofNat_sub h] at q
  exact q
theorem mem_bars {n : Nat} {q : Nat × Nat} (h : q ∈ barsL (n + 1)) : q.1 ≤ q.2 ∧ q.2 ≤ n := by
  unfold barsL preL partL at h
  obtain ⟨a, _, h2⟩ := List.mem_flatMap.mp h
  obtain ⟨b, h3, rfl⟩ := List.mem_map.mp h2
  obtain ⟨h4, h5⟩ := List.mem_filter.mp h3
  have h6 := of_decide_eq_true h5
  have h7 := List.mem_range.mp h4
  exact ⟨h6, by omega⟩
theorem isPat_of {x : Str} (px : Pat x 6) : isPatD (.str x) = true := by
  show (decide (x.length ≤ 6) && x.cps.toList.all isArr) = true
  rw [decide_eq_true px.l, px.a] <;> rfl
theorem into_go {CT CB : Addr} {x : Str} {p q : Addr} {b e c l : Nat} {H : Hp} {Q : VK} {E : XK} (px : Pat x 6) (hp : PairAt H p b e) (hq : PairAt H q c l) (be : b ≤ e) (ex : e ≤ x.length) (cl : c ≤ l) (lx : l ≤ x.length) (k : ∀ H', Same H H' → Q (.bl (leadsB x b e c l)) H') : spInto CT CB [.str x, .ref p, .ref q] H Q E := by
  refine ⟨_, _, _, .str x, barD (b, e), barD (c, l), rfl, .str x, hp.any, hq.any, pat_short px (by decide), fun z => ?_, fun y ey _ z => ?_, fun y ey _ _ z => ?_, fun y b' e' c' l' ey _ e1 e2 _ _ _ _ => ?_⟩
  · rw [isPat_of px] at z; cases z
  · cases ey; rw [bar_is be ex] at z; cases z
  · cases ey; rw [bar_is cl lx] at z; cases z
  · cases ey
    have e1' : PyData.tuple [.int (b : Nat), .int (e : Nat)] = .tuple [.int (b' : Nat), .int (e' : Nat)] := e1
    have e2' : PyData.tuple [.int (c : Nat), .int (l : Nat)] = .tuple [.int (c' : Nat), .int (l' : Nat)] := e2
    injection e1' with e1'
    injection e2' with e2'
    injection e1' with f1 f2
    injection f2 with f2 _
    injection e2' with g1 g2
    injection g2 with g2 _
    injection f1 with f1
    injection f2 with f2
    injection g1 with g1
    injection g2 with g2
    have h1 : b = b' := by omega
    have h2 : e = e' := by omega
    have h3 : c = c' := by omega
    have h4 : l = l' := by omega
    subst h1 h2 h3 h4
    exact k
/-! ### promises -/
def spIsMap : Sp := fun vs H Q _ => ∃ (x : Str) (p q : Addr) (b e c l : Nat), vs = [.str x, .ref p, .ref q] ∧ Pat x 6 ∧ PairAt H p b e ∧ PairAt H q c l ∧ ∀ H', Same H H' → Q (.bl (isMapB x b e c l)) H'
def leadsD : PyData → PyData → PyData → Bool
  | .str x, .tuple [.int b, .int e], .tuple [.int c, .int l] => leadsB x b.toNat e.toNat c.toNat l.toNat
  | _, _, _ => false
def intoDue (dv du dz : PyData) : PyData :=
  if isPatD dv = true then (if isBarD (strD dv).length du = true then (if isBarD (strD dv).length dz = true then .list [.str "told", .bool (leadsD dv du dz)] else wD "bar" dz) else wD "bar" du) else wD "pattern" dv
def spIntoC : Sp := fun vs H Q _ => ∃ v u z dv du dz, vs = [v, u, z] ∧ Any H v dv ∧ Any H u du ∧ Any H z dz ∧ Short dv ∧ ∀ l H', Same H H' → Any H' (.ref l) (intoDue dv du dz) → Q (.ref l) H'
/-- all bars both ways, in the pattern, its dual and its mirror -/
def spRightM : Sp := fun vs H Q _ => ∃ x, vs = [.str x] ∧ Pat x 6 ∧ ∀ H', Same H H' → Q (.bl true) H'
end Rw

set_option Elab.async false
set_option linter.all false
set_option maxRecDepth 100000
set_option maxHeartbeats 4000000
/-! TkBC: an operator of an own class, in a try's body and outside. -/
namespace Rw
open PySem PySem.Spec PyProof.Rows L2
/-- a class with an own operator -/
structure OpC (K : PySem.W.Frag) (C : Addr) (op : Operator) (f : Addr) : Prop where
  at_ : PySem.W.findIn K (.ref C) (PySem.dunder op.info.2) = some (some (.ref f))
  fn : PySem.W.isFn K (.ref f) = true
  first : PySem.W.selfFirst K C = true
section
variable {X : Cx} {CX : CXT} {k : Nat} {f C : Addr} {fd : FuncData} {ps : List Str} {sp : Sp} {op : Operator} {a b : Expr} {ta tb : TE} {pos : Pos}
theorem back_of {v : V} {u : Value} {Q : Value → Shared → Prop} {s : Shared} (r : RelV v u) (h : Q u s) : PySem.W.CmpBack Q u s := by
  cases v with
  | int i => obtain ⟨t, rfl⟩ := r; exact h
  | str x => obtain ⟨t, rfl⟩ := r; exact h
  | ref p => cases r; exact h
  | bl q => cases r; exact h
  | non => cases r; exact h
  | ty n => cases r; exact h
  | byt b => obtain ⟨t, rfl⟩ := r; exact h
  | flt b => obtain ⟨t, rfl⟩ := r; exact h
theorem run_opS {W : WX} {pins : List (Addr × Obj)} {σ : L2.St} {H : Hp} {s : Shared} {Q : VK} {x y dx dy : Addr} {fs gs : List (Str × V)} (O : OpC X.K C op f) (F : FnOk X.prog X.w X.K X.mg X.base CX k f fd ps sp) (hr : Room k X.A) (hb : Binds X.K fd ps []) (hx : PassesAt CX X σ (fun cls d H' => W cls d σ H'))
    (I : Inv X pins σ H s) (ex : H x = some (.ins C dx fs)) (ey : H y = some (.ins C dy gs)) (h : sp [.ref x, .ref y] H Q (fun cls d H' => W cls d σ H')) : wpAny (model X.prog X.w) X.A (binaryOp op (.ref x) (.ref y)) (EP X pins σ Q) X.xe s := by
  obtain ⟨mA, J, _⟩ := ins_get I.hok ex
  obtain ⟨mB, J', _⟩ := ins_get I.hok ey
  obtain ⟨od, J, _⟩ := J.look
  obtain ⟨od', J', _⟩ := J'.look
  obtain ⟨m, hF⟩ := I.fr
  refine PySem.W.binop_K hF I.ok.mod.kin J J'.type O.first O.at_ O.fn ?_
  refine wpAny_mono (run_ownS (us := [.ref x, .ref y]) (vs := [.ref x, .ref y]) (ds := []) (dvs := []) F hr hb .nil hx I (.cons rfl (.cons rfl .nil)) h) (fun u s' z => ?_) fun _ _ z => z
  obtain ⟨v, H', I', r, q⟩ := z
  exact back_of r ⟨v, H', I', r, q⟩
/-- a op b by the class's own def, in a try's body -/
def tOpS (C : Addr) (sp : Sp) (W : WX) (ta tb : TE) : TE := fun σ H Q => ta σ H fun v H1 => tb σ H1 fun u H2 => ∃ x y dx dy fs gs, v = .ref x ∧ u = .ref y ∧ H2 x = some (.ins C dx fs) ∧ H2 y = some (.ins C dy gs) ∧ sp [.ref x, .ref y] H2 Q (fun cls d H' => W cls d σ H')
theorem pe_opS {W : WX} (O : OpC X.K C op f) (F : FnOk X.prog X.w X.K X.mg X.base CX k f fd ps sp) (hr : Room k X.A) (hb : Binds X.K fd ps []) (hx : ∀ σ, PassesAt CX X σ (fun cls d H' => W cls d σ H')) (ha : PE X a ta) (hb2 : PE X b tb) : PE X (.BinOp a op b pos) (tOpS C sp W ta tb) := by
  refine ⟨fun pins s σ H Q I h => ?_⟩
  refine wpAny_BinOp (binT ha hb2 I h fun v u s2 x y H2 I2 rx ry q => ?_)
  obtain ⟨x', y', dx, dy, fs, gs, rfl, rfl, ex, ey, q⟩ := q
  cases rx
  cases ry
  exact run_opS O F hr hb (hx σ) I2 ex ey q
end
end Rw

set_option Elab.async false
set_option linter.all false
set_option maxRecDepth 100000
set_option maxHeartbeats 4000000
/-! TkBA: what stands behind the top: methods of a class, written tables, ints, defs with two defaults. -/
namespace Rw
open PySem PySem.Spec PyProof.Rows L2
def MethHere (K : PySem.W.Frag) (C : Addr) (x q : Str) (st : Stmt) : Prop := ∃ f : Addr, PySem.W.findIn K (.ref C) x = some (some (.ref f)) ∧ PySem.W.isFn K (.ref f) = true ∧ DefAt K x q st f
def TabIHere (K : PySem.W.Frag) (x : Str) (d : Addr) (kvs : List (Int × Value)) : Prop := PySem.W.nsIn K mainGlobals x = some (some (.ref d)) ∧ TabI K d kvs
def TabSHere (K : PySem.W.Frag) (w : World) (x : Str) (d : Addr) (kvs : List (Str × Value)) : Prop := PySem.W.nsIn K mainGlobals x = some (some (.ref d)) ∧ TabS K w d kvs
/-- a property of a class -/
def PropHere (K : PySem.W.Frag) (C : Addr) (x q : Str) (st : Stmt) : Prop := ∃ p g : Addr, PropOf K C x p g ∧ DefAt K x q st g
section
variable {K : PySem.W.Frag} {mg : Str → Option Value} {h : Heap}
theorem PropHere.of {C : Addr} {x q : Str} {st : Stmt} {p g : Addr} {rest : List Value} {oc : Value} {od : Option Addr} {kV dc pm : Value} {an : Option Addr} {cd ct : Value} {sl : Array (Option Value)} (a : PySem.W.findIn K (.ref C) x = some (some (.ref p)))
    (ge : PySem.W.specialIn K (.ref p) "__get__" = some (some (.builtin "property.__get__"))) (ta : PySem.W.takesIn K (.ref p) = some true) (re : PySem.W.recIn K p "property" = some (.ref g :: rest))
    (l : K.lookup g = some ⟨oc, od, .func (PySem.W.fnOf x q (defArgs st) (defBody st) (defScope st) .none kV dc pm an cd ct), sl⟩) (c : PySem.W.codeIn K cd q = true) (k : PySem.W.keepIn K (.ref g) = true) : PropHere K C x q st :=
  ⟨p, g, ⟨a, ge, ta, ⟨rest, re⟩⟩, oc, od, kV, dc, pm, an, cd, ct, sl, l, c, k⟩
theorem PropHere.pr {C : Addr} {x q : Str} {st : Stmt} {ps : List Str} (D : PropHere K C x q st)
    (b : ∀ (kV doc pm : Value) (an : Option Addr) (cdv ct : Value) (us : List Value), us.length = ps.length → bindArgs (PySem.W.fnOf x q (defArgs st) (defBody st) (defScope st) .none kV doc pm an cdv ct) ⟨us, []⟩ = pure (ps.zip us)) :
    ∃ (p g : Addr) (fd : FuncData), PropOf K C x p g ∧ Fun K x q st g fd ∧ Binds K fd ps [] := by
  obtain ⟨p, g, hp, oc, od, kV, dc, pm, an, cd, ct, sl, l, c, k⟩ := D
  have F := fun_mk (x := x) (qual := q) (st := st) l c k
  exact ⟨p, g, _, hp, F, F.binds b⟩
theorem MethHere.of {C : Addr} {x q : Str} {st : Stmt} {f : Addr} {oc : Value} {od : Option Addr} {kV dc pm : Value} {an : Option Addr} {cd ct : Value} {sl : Array (Option Value)} (g : PySem.W.findIn K (.ref C) x = some (some (.ref f))) (fn : PySem.W.isFn K (.ref f) = true)
    (l : K.lookup f = some ⟨oc, od, .func (PySem.W.fnOf x q (defArgs st) (defBody st) (defScope st) .none kV dc pm an cd ct), sl⟩) (c : PySem.W.codeIn K cd q = true) (k : PySem.W.keepIn K (.ref f) = true) : MethHere K C x q st :=
  ⟨f, g, fn, oc, od, kV, dc, pm, an, cd, ct, sl, l, c, k⟩
theorem TabIHere.of {x : Str} {d : Addr} {kvs : List (Int × Value)} {l : List DictEntry} {n : Nat} (g : PySem.W.nsIn K mainGlobals x = some (some (.ref d))) (k : K.lookup d = some ⟨.type "dict", none, .dict l.toArray n, #[]⟩) (t : IntTab l kvs) (z : (d == sysModules) = false) : TabIHere K x d kvs :=
  ⟨g, ⟨⟨l, n, k, t⟩, z⟩⟩
theorem TabSHere.of {w : World} {x : Str} {d : Addr} {kvs : List (Str × Value)} {l : List DictEntry} {n : Nat} (g : PySem.W.nsIn K mainGlobals x = some (some (.ref d))) (k : K.lookup d = some ⟨.type "dict", none, .dict l.toArray n, #[]⟩) (t : TxtTab w.params l kvs) (z : (d == sysModules) = false) : TabSHere K w x d kvs :=
  ⟨g, ⟨⟨l, n, k, t⟩, z⟩⟩
theorem MethHere.mt {C : Addr} {x q : Str} {st : Stmt} {ps : List Str} (D : MethHere K C x q st)
    (b : ∀ (kV doc pm : Value) (an : Option Addr) (cdv ct : Value) (us : List Value), us.length = ps.length → bindArgs (PySem.W.fnOf x q (defArgs st) (defBody st) (defScope st) .none kV doc pm an cdv ct) ⟨us, []⟩ = pure (ps.zip us)) :
    ∃ (f : Addr) (fd : FuncData), PySem.W.findIn K (.ref C) x = some (some (.ref f)) ∧ PySem.W.isFn K (.ref f) = true ∧ PySem.W.keepIn K (.ref f) = true ∧ Fun K x q st f fd ∧ Binds K fd ps [] := by
  obtain ⟨f, g, fn, oc, od, kV, dc, pm, an, cd, ct, sl, l, c, k⟩ := D
  have F := fun_mk (x := x) (qual := q) (st := st) l c k
  exact ⟨f, _, g, fn, k, F, F.binds b⟩
end
/-- a def with two defaults None, called with all three -/
theorem DflHere.own3 {l : PySem.Program} {w : World} {K : PySem.W.Frag} {mg : Str → Option Value} {base h : Heap} {x p1 p2 p3 : Str} {st : Stmt} {CX : CXT} {k : Nat} {sp : Sp} (D : DflHere K x st [.none, .none]) (X : K.In h) (G : h.Ns mainGlobals mg)
    (b : ∀ (T : Addr) (kV doc pm : Value) (an : Option Addr) (cdv ct : Value) (us its : List Value), us.length = 3 → its.length = 2 →
      ∃ g, bindArgs (PySem.W.fnOf x x (defArgs st) (defBody st) (defScope st) (.ref T) kV doc pm an cdv ct) ⟨us, []⟩ = seqItems? (.ref T) >>= g ∧ g (some its.toArray) = pure (([p1, p2, p3] : List Str).zip (us ++ its.drop 2)))
    (ok : ∀ (f : Addr) (fd : FuncData), FunD K x x (defArgs st) (defBody st) (defScope st) [.non, .non] [] f fd → FnOk l w K mg base CX k f fd [p1, p2, p3] sp) : Own l w K mg base CX k x [p1, p2, p3] [] sp := by
  obtain ⟨f, T', oc, od, kV, dc, pm, an, cd, ct, sl, tc, td, n, ts, g, l', c', k', lT⟩ := D
  have F : FunD K x x (defArgs st) (defBody st) (defScope st) [.non, .non] [] f _ := ⟨⟨oc, od, _, kV, dc, pm, an, cd, ct, sl, rfl, l', c', .inr ⟨by simp, T', _, [.none, .none], n, rfl, lT, rfl, .cons rfl (.cons rfl .nil)⟩, .inl rfl⟩, k'⟩
  obtain ⟨ds, v, bb⟩ := F.binds1 (ps := [p1, p2, p3]) 3 2 (by simp) rfl b
  exact ⟨f, _, ds, PySem.W.mg_of X G g, k', ok f _ F, bb, v⟩
end Rw

set_option Elab.async false
set_option linter.all false
set_option maxRecDepth 100000
set_option maxHeartbeats 4000000
/-! TkBD: own errors without a field: their __init__ calls that of the root. -/
namespace Rw
open PySem PySem.Spec PyProof.Rows L2
/-- what is asked of the root, over ValueError, without an own __init__ -/
structure RootC (K : PySem.W.Frag) (CR : Addr) : Prop where
  sp : PySem.W.specialIn K (.ref CR) "__getattribute__" = some (some (.builtin "type.__getattribute__"))
  ty : PySem.W.typeIn K (.ref CR) = some (.type "type")
  rd : PySem.W.readsIn K CR (.type "type") = true
  ini : PySem.W.findCls K (.ref CR) (.type "type") "__init__" = some (.val (.builtin "ValueError.__init__"))
section
variable {X : Cx} {e : Expr} {es : List Expr} {ta : TA} {p1 p2 p pos pos2 : Pos} {x : Str} {CR : Addr}
theorem pe_rootini {pl : Sem Bool} (R : RootC X.K CR) (hg : Gl X x) (hm : X.mg x = some (.ref CR)) (ha : PA X (e :: es) ta) (hdb : (x == ("__debug__" : Str)) = false := by decide)
    (hc : eval (.Call (.Attribute (.Name x p1) "__init__" p2) (e :: es) [] pos) X.env = (do
      let ov ← eval (.Name x p1) X.env
      standAt p2.atName
      let (f, first) ← holding [ov] (getMethod ov "__init__" pl)
      callWith pos f first (backTo pos (starEach (e :: es) X.env)) (backToKw pos (keywordEach [] X.env))) := by rfl)
    (he : starEach (e :: es) X.env = (false, eval e X.env) :: starEach es X.env := by rfl) (hpl : (backTo pos (starEach es X.env)).any (·.1) = false := by rfl) :
    PE X (.Call (.Attribute (.Name x p1) "__init__" p2) (e :: es) [] pos) (tVeI X.K ta) := by
  refine ⟨fun pins s σ H Q I h => ?_⟩
  refine PySem.W.methodCall_KW (ld_glob I hg hm ?_ hdb) hc
  obtain ⟨m, fr⟩ := I.fr
  refine PySem.W.method_of_cls fr I.ok.mod.kin R.sp ?_
  refine PySem.W.cls_val fr I.ok.mod.kin R.ty R.rd R.ini (by decide +kernel) ?_
  show wpAny _ _ (callWith pos (Value.builtin "ValueError.__init__") [] (backTo pos (starEach (e :: es) X.env)) []) _ _ _
  refine PyProof.Rows.callWith_method1 (thn (ha.run pos pins _ σ H _ (I.tok _) h) fun us s1 ⟨vs, H1, I1, r1, a, C, ws, ev, hl, T, ea, q⟩ => ?_) he hpl
  subst ev
  cases r1 with
  | @cons _ u0 _ ur ra rw' =>
    obtain rfl : u0 = Value.ref a := ra
    have hlen : ur.length ≤ sizeLine := by
      rw [← Paired.length rw', sizeLine_eq]
      omega
    exact oinit_ok T I1 ea hlen fun s' J => ⟨.non, H1, J, rfl, q⟩
end
section
variable {X : Cx}
theorem mk_endN {pins : List (Addr × Obj)} {σ : L2.St} {H1 H2 : Hp} {Q : XK} {hp hp2 h2 : Heap} {g1 g2 : Array GenState} {d1 d2 : Drawn} {t1 t2 : Nat} {os1 os2 : OsState} {a C : Addr} (T : Raises X (.ref C)) (I1 : Inv X pins σ H1 ⟨hp, g1, d1, t1, os1⟩)
    (ha : hp.objs.size ≤ a) (k : ∀ b o, hp.get? b = some o → hp2.get? b = some o) (un : Un (frs X.stack) [] (upd H1 a (exo a C none)) H2 hp2 h2) (hok : HOk X.prog X.w H2 h2) (ho : os2 = os1) (hb : AllBare g2)
    (ea : H2 a = some (exo a C none)) (q : Q (.ref C) none (del H2 a)) : MkP X pins σ Q (.ref a) ⟨h2, g2, d2, t2, os2⟩ := by
  obtain ⟨t0, hoe⟩ := exo_at hok ea
  have hn : H1 a = none := I1.hok.fresh ha
  obtain ⟨G, g1', g2'⟩ := restrict h2 fun b => decide (b ≠ a)
  have gk : ∀ b, b ≠ a → G.get? b = h2.get? b := fun b hb => g1' b (decide_eq_true hb)
  have ge : G.get? a = none := g2' a (by simp)
  have nha : ∀ {b : Addr} {o : Obj}, hp.get? b = some o → b ≠ a := fun {b o} z => Nat.ne_of_lt (Nat.lt_of_lt_of_le (Heap.lt_size z) ha)
  have up : ∀ {b : Addr}, b ≠ a → H1 b = none → upd H1 a (exo a C none) b = none := fun {b} hb n => by rw [upd_ne hb]; exact n
  have U : Un (frs X.stack) [] H1 (del H2 a) hp G := {
    keep := fun b o z n hf hx => by
      rw [gk b (nha z)]
      exact un.keep b o (k b o z) (up (nha z) n) hf hx
    slot := fun b o z n hf hx => by
      rw [gk b (nha z)]
      exact un.slot b o (k b o z) (up (nha z) n) hf hx
    free := fun b o z n hx => by
      rw [del_ne (nha z)]
      exact un.free b o (k b o z) (up (nha z) n) hx
    there := fun b o z hx => by
      rw [gk b (nha z)]
      exact un.there b o (k b o z) hx
    tups := fun b xs z => by
      rw [del_ne (ne_of_none z hn)]
      exact un.tups b xs (by rw [upd_ne (ne_of_none z hn)]; exact z)
    frzs := fun b o v z => by
      rw [del_ne (ne_of_none z hn)]
      exact un.frzs b o v (by rw [upd_ne (ne_of_none z hn)]; exact z)
    tbls := fun b ps z => by
      rw [del_ne (ne_of_none z hn)]
      exact un.tbls b ps (by rw [upd_ne (ne_of_none z hn)]; exact z) }
  have hok3 : HOk X.prog X.w (del H2 a) G := fun b o z => by
    have hba : b ≠ a := fun e => by
      rw [e, del_same] at z
      cases z
    rw [del_ne hba] at z
    have noa : ∀ {c : Addr}, H2 c = some (.own b) → c ≠ a := fun {c} hc => at_ne ea hc exo_own
    exact (hok b o z).stay (fun c v hc y => by
        have hca : c ≠ a := by
          rcases hc with hc | hc
          · rw [hc]
            exact hba
          · exact noa hc
        rw [gk c hca]
        exact y)
      (fun c hc => by rw [del_ne (noa hc)]; exact hc) (fun c xs hc => by rw [del_ne (at_ne ea hc exo_tup)]; exact hc)
  have J : Inv X pins σ (del H2 a) ⟨G, g2, d2, t2, os2⟩ := I1.call' (ch := []) ho U hok3 hb (fun b z => absurd z (by simp))
  exact ⟨a, _, _, ⟨G, g2, d2, t2, os2⟩, _, .ref C, none, rfl, J, fun b o z => by
    by_cases hba : b = a
    · rw [hba, ge] at z
      cases z
    · exact (gk b hba).symm.trans z, ge, hoe, ⟨rfl, rfl⟩, rfl, rfl, del_same, rfl, hb, T, q⟩
/-- C(): an error without a field -/
def tMkN (C : Addr) (sp : Sp) : L2.St → Hp → XK → Prop := fun _ H Q => ∀ a, H a = none → sp [.ref a] (upd H a (exo a C none)) (fun v H2 => v = .non ∧ H2 a = some (exo a C none) ∧ Q (.ref C) none (del H2 a)) (fun _ _ _ => False)
theorem pmk_oexN {CX : CXT} {x : Str} {C fI : Addr} {k : Nat} {fd : FuncData} {ps : List Str} {sp : Sp} {p pos : Pos} (T : OexC X.K C) (iC : PySem.W.findIn X.K (.ref C) "__init__" = some (some (.ref fI))) (tI : PySem.W.typeIn X.K (.ref fI) = some (.type "function"))
    (F1 : FnOk X.prog X.w X.K X.mg X.base CX k fI fd ps sp) (hr : Room (k + 1) X.A) (hb : Binds X.K fd ps []) (hx : Passes CX X (fun _ _ _ => False)) (hg : Gl X x) (hm : X.mg x = some (.ref C)) (hdb : (x == ("__debug__" : Str)) = false := by decide) :
    PMk X (.Call (.Name x p) [] [] pos) (tMkN C sp) := by
  intro pins s σ H Q I h
  obtain ⟨nm, q, N, bs, bm, sn, sub, ab, col, dd, k0, k1, k2, k3, k5, hC, hbm⟩ := T.cls
  refine wpAny_Call_Name_kw (ld_glob I hg hm ?_ hdb)
  refine PySem.W.callWith_K0 I.kIn T.kC ?_
  show wpAny _ _ (call (.ref C) []) _ _ _
  obtain ⟨hp, g, dr, tk, os⟩ := s
  have hsz : hp.objs.size ≤ hp.objs.size + 1 := Nat.le_succ _
  have hn : H (hp.objs.size + 1) = none := I.hok.fresh hsz
  have hq := h (hp.objs.size + 1) hn
  have kk : ∀ b o, hp.get? b = some o → ((hp.push (PySem.W.kdv_tup [])).push (PySem.HandSPX.excO C hp.objs.size)).get? b = some o := fun b o e => Heap.get?_push_of_some _ (Heap.get?_push_of_some _ e)
  have hget : ((hp.push (PySem.W.kdv_tup [])).push (PySem.HandSPX.excO C hp.objs.size)).get? (hp.objs.size + 1) = some (PySem.HandSPX.excO C hp.objs.size) := by heap_get
  have I2 : Inv X pins σ (upd H (hp.objs.size + 1) (exo (hp.objs.size + 1) C none)) ⟨(hp.push (PySem.W.kdv_tup [])).push (PySem.HandSPX.excO C hp.objs.size), g, dr, tk, os⟩ :=
    I.laid (t' := tk) (a := hp.objs.size + 1) (o := exo (hp.objs.size + 1) C none) (h' := (hp.push (PySem.W.kdv_tup [])).push (PySem.HandSPX.excO C hp.objs.size)) kk hsz (exo_ok hget)
  have r2 : Vals [V.ref (hp.objs.size + 1)] [Value.ref (hp.objs.size + 1)] := .cons rfl .nil
  have hl : [Value.ref (hp.objs.size + 1)].length = ps.length := (F1.len _ _ _ _ hq).symm ▸ rfl
  refine wpAny_call (PySem.HandSPX.call_own F.excBase_ValueError (fun Y => PySem.HandSPX.refsVE_contains Y bm hbm) (I.kIn _ _ hC) (PySem.W.looks_findIn I.kIn iC) (fun self => PySem.W.bind_fn I.kIn self tI) (by show 0 ≤ _; exact Nat.zero_le _)
    (codeAny_mono (F1.run _ X.stack _ _ ⟨[Value.ref (hp.objs.size + 1)], []⟩ [Value.ref (hp.objs.size + 1)] _ _ (fun _ _ _ => False) (hr.make C [] []) (I2.env0.make C [] []) (by
      have := hb _ [Value.ref (hp.objs.size + 1)] I2.kIn (by simpa using hl)
      simpa using this) r2 hq) fun r s' hq' => ?_))
  cases r with
  | error er => exact hx pins σ _ _ er s' I2 hq'
  | ok fl =>
    cases fl with
    | ret u =>
      obtain ⟨v, H2, os2, bare2, un2, hok2, rv, ev, ea, q2⟩ := hq'
      subst ev
      obtain ⟨h2, g2, d2, t2, os'⟩ := s'
      exact ⟨rv, mk_endN (raises_own T.exC T.tyC) I hsz kk un2 hok2 os2 bare2 ea q2⟩
    | next => exact False.elim hq'
    | brk => exact False.elim hq'
    | cont => exact False.elim hq'
end

/-- the body of __init__(self): RowError.__init__(self) -/
def IsIniN (K : PySem.W.Frag) (mg : Str → Option Value) (st : Stmt) : Prop := ∀ (P : Program) (w : World) (base : Heap) (q : Str) (f : Addr) (cdv : Value) (A : Around) (outer : List Env) (s : Shared) (H : Hp) (E : XK),
  ∃ t : TS, PSs (cxOf CX0 P w K mg base ["self"] q (defScope st) f cdv A outer s H E).nox (defBody st) t ∧ ∀ D σ H, tDrop (tVeI K (tCons (tVar 0) tNil)) D σ H → t D σ H
def spIniN (K : PySem.W.Frag) (C : Addr) : Sp := fun vs H Q _ => ∃ a : Addr, vs = [.ref a] ∧ H a = some (exo a C none) ∧ Q .non H
/-- x names an error class without a field, at C -/
structure ErrN (K : PySem.W.Frag) (mg : Str → Option Value) (x : Str) (C : Addr) : Prop where
  g : mg x = some (.ref C)
  ox : OexC K C
  ini : ∃ (f : Addr) (q : Str) (st : Stmt) (fd : FuncData), PySem.W.findIn K (.ref C) "__init__" = some (some (.ref f)) ∧ PySem.W.typeIn K (.ref f) = some (.type "function") ∧ Fun K "__init__" q st f fd ∧ Binds K fd ["self"] [] ∧ FnScope ["self"] ["self"] (defScope st) ∧ IsIniN K mg st
/-- an error of the class at C is let out, all else as it was -/
def ThrownN (C : Addr) (H : Hp) (E : XK) : Prop := ∀ H' : Hp, Same H H' → E (.ref C) none H'
theorem ThrownN.mono {C : Addr} {H H1 : Hp} {E : XK} (h : ThrownN C H E) (k : Same H H1) : ThrownN C H1 E := fun H' s => h H' (k.trans s)
section
variable {P : Program} {w : World} {K : PySem.W.Frag} {mg : Str → Option Value} {base : Heap}
theorem ErrN.init {x : Str} {C : Addr} (T : ErrN K mg x C) : ∃ (f : Addr) (fd : FuncData), PySem.W.findIn K (.ref C) "__init__" = some (some (.ref f)) ∧ PySem.W.typeIn K (.ref f) = some (.type "function") ∧ Binds K fd ["self"] [] ∧
    FnOk P w K mg base CX0 1 f fd ["self"] (spIniN K C) := by
  obtain ⟨f, q, st, fd, h1, h2, F, b, S, dv⟩ := T.ini
  refine ⟨f, fd, h1, h2, b, F.ok S (fun vs H Q E h => ?_) (fun cdv A outer s H vs Q E hr h => ?_)⟩
  · obtain ⟨a, e, _⟩ := h
    rw [e]
    rfl
  · obtain ⟨a, e, ea, k⟩ := h
    subst e
    obtain ⟨t, d, go⟩ := dv P w base q f cdv A outer s H E
    refine ⟨t, d, go _ _ _ ?_⟩
    exact ⟨_, rfl, a, C, [], rfl, by decide, T.ox, ea, k⟩
end
section
variable {X : Cx} {x : Str} {C : Addr} {p pos pos2 : Pos} {W : WX}
/-- raise x() -/
def tThrowN (K : PySem.W.Frag) (C : Addr) (W : WX) : TS := fun _ σ H => tMkN C (spIniN K C) σ H fun cls d H' => W cls d σ H'
theorem ps_throwN (T : ErrN X.K X.mg x C) (hc : X.calm = true) (hr : Room 2 X.A) (tk : Takes X W) (hg : Gl X x := by rfl) (hdb : (x == ("__debug__" : Str)) = false := by decide) :
    PS X (.Raise (some (.Call (.Name x p) [] [] pos)) none pos2) (tThrowN X.K C W) := by
  obtain ⟨f, fd, h1, h2, b, F⟩ := T.init (P := X.prog) (w := X.w) (base := X.base)
  exact ps_raise (pos := pos2) hc tk (pmk_oexN (x := x) (p := p) (pos := pos) T.ox h1 h2 F hr b pass0 hg T.g hdb)
theorem thrownN_go {K : PySem.W.Frag} {H : Hp} {E : XK} (h : ThrownN C H E) : ∀ a, H a = none → spIniN K C [.ref a] (upd H a (exo a C none)) (fun v H2 => v = .non ∧ H2 a = some (exo a C none) ∧ E (.ref C) none (del H2 a)) (fun _ _ _ => False) := by
  intro a ha
  refine ⟨a, rfl, upd_same, rfl, upd_same, h _ fun b o e => ?_⟩
  rw [del_ne (ne_of_none e ha), upd_ne (ne_of_none e ha)]
  exact e
end
/-- such a class of the text -/
def ErrNHere (K : PySem.W.Frag) (x q : Str) (st : Stmt) (R C : Addr) : Prop :=
  ∃ (f N : Addr) (nm qn : Str) (bs : List Value) (sn : List Str) (sub : List Value) (ab : Bool) (col : Option Bool) (dd : Option Addr) (m0 m1 m2 m3 m5 : Option Value), PySem.W.nsIn K mainGlobals x = some (some (.ref C)) ∧
    K.lookup C = some (excClassObj nm qn C N bs [.ref R, .type "ValueError", .type "Exception", .type "BaseException", .type "object"] true sn sub ab col dd m0 m1 m2 m3 m5 "ValueError.__new__") ∧
    PySem.W.findIn K (.ref C) "__setattr__" = some (some (.builtin "object.__setattr__")) ∧ PySem.W.findIn K (.ref C) "__init__" = some (some (.ref f)) ∧ PySem.W.typeIn K (.ref f) = some (.type "function") ∧ DefAt K "__init__" q st f ∧
    PySem.W.keepIn K (.ref C) = true ∧ PySem.W.subIn K (.ref C) (.type "BaseException") = some true ∧ PySem.W.typeIn K (.ref C) = some (.type "type")
section
variable {K : PySem.W.Frag} {mg : Str → Option Value} {h : Heap}
theorem ErrNHere.err {x q : Str} {st : Stmt} {R C : Addr} (E : ErrNHere K x q st R C) (X : K.In h) (G : h.Ns mainGlobals mg) (S : FnScope ["self"] ["self"] (defScope st)) (I : IsIniN K mg st)
    (b : ∀ (kV doc pm : Value) (an : Option Addr) (cdv ct : Value) (us : List Value), us.length = 1 → bindArgs (PySem.W.fnOf "__init__" q (defArgs st) (defBody st) (defScope st) .none kV doc pm an cdv ct) ⟨us, []⟩ = pure ((["self"] : List Str).zip us)) : ErrN K mg x C := by
  obtain ⟨f, N, nm, qn, bs, sn, sub, ab, col, dd, m0, m1, m2, m3, m5, g, l, sa, ini, ty, ⟨oc, od, kV, dc, pm, an, cd, ct, sl, lf, cf, kf⟩, kc, ex, tc⟩ := E
  have F := fun_mk (x := "__init__") (qual := q) (st := st) lf cf kf
  exact {
    g := PySem.W.mg_of X G g
    ox := ⟨⟨nm, qn, N, bs, _, sn, sub, ab, col, dd, m0, m1, m2, m3, m5, l, rfl⟩, sa, ex, tc, kc⟩
    ini := ⟨f, q, st, _, ini, ty, F, F.binds b, S, I⟩ }
theorem ErrNHere.of {x q : Str} {st : Stmt} {R C f N : Addr} {nm qn : Str} {bs : List Value} {sn : List Str} {sub : List Value} {ab : Bool} {col : Option Bool} {dd : Option Addr} {m0 m1 m2 m3 m5 : Option Value}
    {oc : Value} {od : Option Addr} {kV dc pm : Value} {an : Option Addr} {cd ct : Value} {sl : Array (Option Value)} (g : PySem.W.nsIn K mainGlobals x = some (some (.ref C)))
    (xl : K.lookup C = some (excClassObj nm qn C N bs [.ref R, .type "ValueError", .type "Exception", .type "BaseException", .type "object"] true sn sub ab col dd m0 m1 m2 m3 m5 "ValueError.__new__"))
    (sa : PySem.W.findIn K (.ref C) "__setattr__" = some (some (.builtin "object.__setattr__"))) (ini : PySem.W.findIn K (.ref C) "__init__" = some (some (.ref f))) (ty : PySem.W.typeIn K (.ref f) = some (.type "function"))
    (l : K.lookup f = some ⟨oc, od, .func (PySem.W.fnOf "__init__" q (defArgs st) (defBody st) (defScope st) .none kV dc pm an cd ct), sl⟩) (c : PySem.W.codeIn K cd q = true) (k : PySem.W.keepIn K (.ref f) = true)
    (kc : PySem.W.keepIn K (.ref C) = true) (ex : PySem.W.subIn K (.ref C) (.type "BaseException") = some true) (tc : PySem.W.typeIn K (.ref C) = some (.type "type")) : ErrNHere K x q st R C :=
  ⟨f, N, nm, qn, bs, sn, sub, ab, col, dd, m0, m1, m2, m3, m5, g, xl, sa, ini, ty, ⟨oc, od, kV, dc, pm, an, cd, ct, sl, l, c, k⟩, kc, ex, tc⟩
end
end Rw

set_option Elab.async false
set_option linter.all false
set_option maxRecDepth 100000
set_option maxHeartbeats 4000000
/-! TkBE: zip of two tuples and a list. -/
namespace Rw
open PySem PySem.Spec PyProof.Rows L2
theorem notmem2 {z x y : Nat} (h1 : z ≠ x) (h2 : z ≠ y) : ¬ @Membership.mem Addr (List Addr) _ ([x, y] : List Addr) z := fun h => by
  rcases List.mem_cons.mp h with e | h
  · exact h1 e
  · exact h2 (List.mem_singleton.mp h)
theorem sep3 {n a b c : Nat} (ha : a < n) (hb : b < n) (hc : c < n) : ZipSep3 (n + 5) (n + 3) (n + 4) n (n + 1) (n + 2) [n, a] [n + 1, b] [n + 2, c] where
  TIz := PySem.W.neN (by omega)
  TOz := PySem.W.neN (by omega)
  TITO := PySem.W.neN (by omega)
  TIi1 := PySem.W.neN (by omega)
  mem1 := List.mem_cons_self
  zf1 := notmem2 (by omega) (by omega)
  Tf1 := notmem2 (by omega) (by omega)
  TIi2 := PySem.W.neN (by omega)
  mem2 := List.mem_cons_self
  zf2 := notmem2 (by omega) (by omega)
  Tf2 := notmem2 (by omega) (by omega)
  TIi3 := PySem.W.neN (by omega)
  mem3 := List.mem_cons_self
  zf3 := notmem2 (by omega) (by omega)
  Tf3 := notmem2 (by omega) (by omega)
  sep1_2 := notmem2 (by omega) (by omega)
  sep1_3 := notmem2 (by omega) (by omega)
  sep2_1 := notmem2 (by omega) (by omega)
  sep2_3 := notmem2 (by omega) (by omega)
  sep3_1 := notmem2 (by omega) (by omega)
  sep3_2 := notmem2 (by omega) (by omega)
/-- the lists or tuples at a, b and c as they stand at each turn, the items in new triples -/
def It3 (K : PySem.W.Frag) (k1 k2 k3 : Bool) (a b c : Addr) : It :=
  ⟨fun i H => ∃ (xs ys zs : List V) (x y z : V), SqB K H k1 a xs ∧ SqB K H k2 b ys ∧ SqB K H k3 c zs ∧ xs[i]? = some x ∧ ys[i]? = some y ∧ zs[i]? = some z,
    fun i H v H' => ∃ T x y z, v = .ref T ∧ H T = none ∧ H' = upd H T (.tup [x, y, z]) ∧ (∀ xs, SqB K H k1 a xs → xs[i]? = some x) ∧ (∀ ys, SqB K H k2 b ys → ys[i]? = some y) ∧ ∀ zs, SqB K H k3 c zs → zs[i]? = some z,
    fun i H => ∃ xs ys zs : List V, SqB K H k1 a xs ∧ SqB K H k2 b ys ∧ SqB K H k3 c zs ∧ i ≤ xs.length ∧ i ≤ ys.length ∧ i ≤ zs.length ∧ (xs.length = i ∨ ys.length = i ∨ zs.length = i)⟩
theorem turn_zip3 {P : Program} {w : World} {K : PySem.W.Frag} {k1 k2 k3 : Bool} {elts : List Expr} {kk : Nat} {tpos : Pos} {a b c z TI TO i1 i2 i3 : Addr} (D : ZipSep3 z TI TO i1 i2 i3 [i1, a] [i2, b] [i3, c]) (ai : a ≠ i1) (bi : b ≠ i2) (ci : c ≠ i3) :
    Turn P w K (.Tuple elts kk tpos) (It3 K k1 k2 k3 a b c) [z, TI, TO, i1, i2, i3] z (fun i h => IsZip h z TI TO .none ∧ IsTupOf3 h TI (.ref i1) (.ref i2) (.ref i3) ∧ (∃ x y u, IsTupOf3 h TO x y u) ∧ itB h k1 i1 a i ∧ itB h k2 i2 b i ∧ itB h k3 i3 c i) where
  mem := by simp
  obj := fun i h st e he => by
    obtain ⟨hz, hTI, ⟨x, y, u, hTO⟩, h1, h2, h3⟩ := st
    have e' : e = z ∨ e = TI ∨ e = TO ∨ e = i1 ∨ e = i2 ∨ e = i3 := by simpa using he
    rcases e' with q | q | q | q | q | q
    · rw [q]; exact ⟨_, hz, fun v q => nomatch q⟩
    · rw [q]; exact ⟨_, hTI, fun v q => nomatch q⟩
    · rw [q]; exact ⟨_, hTO, fun v q => nomatch q⟩
    · rw [q]; exact itB_obj h1
    · rw [q]; exact itB_obj h2
    · rw [q]; exact itB_obj h3
  keep := fun i h h' st k => by
    obtain ⟨hz, hTI, ⟨x, y, u, hTO⟩, h1, h2, h3⟩ := st
    exact ⟨k z (by simp) _ hz, k TI (by simp) _ hTI, ⟨x, y, u, k TO (by simp) _ hTO⟩, itB_at h1 fun o q => k i1 (by simp) o q, itB_at h2 fun o q => k i2 (by simp) o q, itB_at h3 fun o q => k i3 (by simp) o q⟩
  item := by
    intro X hP hw hK hc i pins s σ H E I hf st hg
    subst hP hw hK
    obtain ⟨hz, hTI, ⟨x0, y0, u0, hTO⟩, h1, h2, h3⟩ := st
    obtain ⟨xs, ys, zs, x, y, v, hqx, hqy, hqz, hx, hy, hv⟩ := hg
    obtain ⟨its, rv, p, _⟩ := sqB_inv I hqx
    obtain ⟨its2, rv2, p2, _⟩ := sqB_inv I hqy
    obtain ⟨its3, rv3, p3, _⟩ := sqB_inv I hqz
    obtain ⟨u, hu, ru⟩ := rv.get hx
    obtain ⟨u2, hu2, ru2⟩ := rv2.get hy
    obtain ⟨u3, hu3, ru3⟩ := rv3.get hv
    have hzl : z < s.heap.objs.size := Heap.lt_size hz
    have hd : X.A.in1.handled = none := I.ok.hd hc
    have g1 : i < its.toArray.size := by
      have := (List.getElem?_eq_some_iff.mp hu).1
      simpa using this
    have g2 : i < its2.toArray.size := by
      have := (List.getElem?_eq_some_iff.mp hu2).1
      simpa using this
    have g3 : i < its3.toArray.size := by
      have := (List.getElem?_eq_some_iff.mp hu3).1
      simpa using this
    refine wpAny_pyNext_zipD3_item D (drawsB hd k1 i1 a ai its.toArray) (drawsB hd k2 i2 b bi its2.toArray) (drawsB hd k3 i3 c ci its3.toArray) hz hTI hTO ⟨h1, p⟩ ⟨h2, p2⟩ ⟨h3, p3⟩ g1 g2 g3 fun x1 x2 x3 h' tk e1 e2 e3 z' TO' t1 t2 t3 hT hsz hk => ?_
    have hx1 : x1 = u := by
      have q : its[i]? = some x1 := by simpa using e1
      rw [hu] at q
      exact (Option.some.inj q).symm
    have hx2 : x2 = u2 := by
      have q : its2[i]? = some x2 := by simpa using e2
      rw [hu2] at q
      exact (Option.some.inj q).symm
    have hx3 : x3 = u3 := by
      have q : its3[i]? = some x3 := by simpa using e3
      rw [hu3] at q
      exact (Option.some.inj q).symm
    subst hx1 hx2 hx3
    refine ⟨_, rfl, wpAny_letOwnedTupleGo_zip (s := { s with heap := h', toks := tk }) z' fun h'' z'' sb => ?_⟩
    have hT2 : h''.get? s.heap.objs.size = some { cls := .type "tuple", data := .seq #[x1, x2, x3] } := (sb.2 _ (Nat.ne_of_gt hzl)).trans hT
    have new : ObjOk X.prog X.w (upd H s.heap.objs.size (.tup [x, y, v])) h'' s.heap.objs.size (.tup [x, y, v]) :=
      ⟨by show 3 ≤ sizeLine; decide, [x1, x2, x3], .cons ru (.cons ru2 (.cons ru3 .nil)), ⟨_, hT2, rfl, _, rfl⟩⟩
    have I1 : Inv X pins σ (upd H s.heap.objs.size (.tup [x, y, v])) { s with heap := h'', toks := tk } :=
      I.turnedNew (t' := tk) (ch := [z, TI, TO, i1, i2, i3]) (fun c o hb q => (sb.2 c (fun q' => hb (by simp [q']))).trans (hk c o (fun q' => hb (by simp [q'])) (fun q' => hb (by simp [q'])) (fun q' => hb (by simp [q'])) (fun q' => hb (by simp [q'])) (fun q' => hb (by simp [q'])) q)) hf (Nat.le_refl _) new
    refine ⟨.ref s.heap.objs.size, _, I1, rfl, ⟨_, x, y, v, rfl, I.hok.fresh (Nat.le_refl _), rfl, fun l hl => by rw [sqB_inj I hl hqx]; exact hx, fun l hl => by rw [sqB_inj I hl hqy]; exact hy, fun l hl => by rw [sqB_inj I hl hqz]; exact hv⟩, ⟨z'', ?_, ⟨x1, x2, x3, ?_⟩, ?_, ?_, ?_⟩, fun e hcm => ?_⟩
    · exact (sb.2 _ D.TIz).trans (hk _ _ D.TIz D.TITO D.TIi1 D.TIi2 D.TIi3 hTI)
    · exact (sb.2 _ D.TOz).trans TO'
    · exact itB_at t1.1 fun o q => (sb.2 _ D.zi1.symm).trans q
    · exact itB_at t2.1 fun o q => (sb.2 _ D.zi2.symm).trans q
    · exact itB_at t3.1 fun o q => (sb.2 _ D.zi3.symm).trans q
    · have hlt : e < s.heap.objs.size := by
        have e' : e = z ∨ e = TI ∨ e = TO ∨ e = i1 ∨ e = i2 ∨ e = i3 := by simpa using hcm
        rcases e' with q | q | q | q | q | q
        · rw [q]; exact hzl
        · rw [q]; exact Heap.lt_size hTI
        · rw [q]; exact Heap.lt_size hTO
        · rw [q]; obtain ⟨_, e1, _⟩ := itB_obj h1; exact Heap.lt_size e1
        · rw [q]; obtain ⟨_, e2, _⟩ := itB_obj h2; exact Heap.lt_size e2
        · rw [q]; obtain ⟨_, e3, _⟩ := itB_obj h3; exact Heap.lt_size e3
      rw [upd_ne (Nat.ne_of_lt hlt)]
      exact (hf e hcm).1
  done := by
    intro X hP hw hK hc i pins s σ H E I hf st hg
    subst hP hw hK
    obtain ⟨hz, hTI, ⟨x0, y0, u0, hTO⟩, h1, h2, h3⟩ := st
    obtain ⟨xs, ys, zs, hqx, hqy, hqz, l1, l2, l3, hend⟩ := hg
    obtain ⟨its, rv, p, _⟩ := sqB_inv I hqx
    obtain ⟨its2, rv2, p2, _⟩ := sqB_inv I hqy
    obtain ⟨its3, rv3, p3, _⟩ := sqB_inv I hqz
    have m1 := rv.length
    have m2 := rv2.length
    have m3 := rv3.length
    have hd : X.A.in1.handled = none := I.ok.hd hc
    have z1 : its.toArray.size = its.length := by simp
    have z2 : its2.toArray.size = its2.length := by simp
    have z3 : its3.toArray.size = its3.length := by simp
    exact wpAny_pyNext_zipD3_end D (drawsB hd k1 i1 a ai its.toArray) (drawsB hd k2 i2 b bi its2.toArray) (drawsB hd k3 i3 c ci its3.toArray) hz hTI hTO ⟨h1, p⟩ ⟨h2, p2⟩ ⟨h3, p3⟩ (by omega) (by omega) (by omega) (by omega) fun h' tk hk => ⟨rfl, I.turnedL (t' := tk) (ch := [z, TI, TO, i1, i2, i3]) (fun c o hb q =>
      hk c o (fun q' => hb (by simp [q'])) (fun q' => hb (by simp [q'])) (fun q' => hb (by simp [q'])) (fun q' => hb (by simp [q'])) (fun q' => hb (by simp [q'])) q) hf⟩
  self := fun A i s Q E st h => wpAny_pyIter_zip st.1 h

abbrev z3H1 (h : Heap) (l1 : Addr) : Heap := h.push { cls := .type "tuple_iterator", data := .fields #[.ref l1, .int 0 0] }
abbrev z3H2 (h : Heap) (l1 l2 : Addr) : Heap := (z3H1 h l1).push { cls := .type "tuple_iterator", data := .fields #[.ref l2, .int 0 0] }
abbrev z3H3 (h : Heap) (l1 l2 l3 : Addr) : Heap := (z3H2 h l1 l2).push { cls := .type "list_iterator", data := .fields #[.ref l3, .int 0 0] }
abbrev z3H4 (h : Heap) (l1 l2 l3 : Addr) : Heap := (z3H3 h l1 l2 l3).push { cls := .type "tuple", data := .seq #[.ref h.objs.size, .ref (z3H1 h l1).objs.size, .ref (z3H2 h l1 l2).objs.size] }
abbrev z3H5 (h : Heap) (l1 l2 l3 : Addr) : Heap := (z3H4 h l1 l2 l3).push { cls := .type "tuple", data := .seq #[.none, .none, .none] }
abbrev z3H6 (h : Heap) (l1 l2 l3 : Addr) : Heap := (z3H5 h l1 l2 l3).push { cls := .type "zip", data := .fields #[.none, .bool false, .bool false, .ref (z3H3 h l1 l2 l3).objs.size, .ref (z3H4 h l1 l2 l3).objs.size] }
theorem meets_zip3 (l1 l2 l3 : Addr) (xs ys zs : Array Value) :
    Meets (Builtin.«zip.__new__» ⟨[.type "zip", .ref l1, .ref l2, .ref l3], []⟩) (fun _ R s => s.heap.IsTuple l1 xs ∧ s.heap.IsTuple l2 ys ∧ s.heap.IsList l3 zs ∧
      R (.ok (.ret (.ref (z3H5 s.heap l1 l2 l3).objs.size))) { s with heap := z3H6 s.heap l1 l2 l3 }) :=
  .of_wp fun prog w A R s h => by
    obtain ⟨hp, g, d, tk, os⟩ := s; obtain ⟨hl1, hl2, hl3, h⟩ := h
    have hsub := sub_zip
    have hL1 : Heap.IsTuple (Shared.heap ⟨hp, g, d, tk, os⟩) l1 xs := hl1
    have hL2 : Heap.IsTuple (Shared.heap ⟨hp.push { cls := .type "tuple_iterator", data := .fields #[.ref l1, .int 0 0] }, g, d, tk, os⟩) l2 ys := Heap.IsTuple.push hl2 _
    have hL3 : Heap.IsList (Shared.heap ⟨(hp.push { cls := .type "tuple_iterator", data := .fields #[.ref l1, .int 0 0] }).push { cls := .type "tuple_iterator", data := .fields #[.ref l2, .int 0 0] }, g, d, tk, os⟩) l3 zs := Heap.IsList.push (Heap.IsList.push hl3 _) _
    wp_walk using wpAny_pyIter_tuple hL1, wpAny_pyIter_tuple hL2, wpAny_pyIter_list hL3
    exact ⟨_, rfl, h⟩
section
variable {prog : Program} {w : World} {A : Around} {E : Value → Shared → Prop} {s : Shared}
theorem call_zip3 {l1 l2 l3 : Addr} {xs ys zs : Array Value} {Q : Value → Shared → Prop} (hl1 : sqB s.heap false l1 xs) (hl2 : sqB s.heap false l2 ys) (hl3 : sqB s.heap true l3 zs)
    (h : ∀ h', IsZip h' (s.heap.objs.size + 5) (s.heap.objs.size + 3) (s.heap.objs.size + 4) .none → IsTupOf3 h' (s.heap.objs.size + 3) (.ref s.heap.objs.size) (.ref (s.heap.objs.size + 1)) (.ref (s.heap.objs.size + 2)) →
      IsTupOf3 h' (s.heap.objs.size + 4) .none .none .none → itB h' false s.heap.objs.size l1 0 → itB h' false (s.heap.objs.size + 1) l2 0 → itB h' true (s.heap.objs.size + 2) l3 0 → h'.objs.size = s.heap.objs.size + 6 →
      (∀ c o, s.heap.get? c = some o → h'.get? c = some o) → Q (.ref (s.heap.objs.size + 5)) { s with heap := h' }) :
    wpAny (model prog w) A (call (.type "zip") [.ref l1, .ref l2, .ref l3]) Q E s := by
  refine callType_new F.called_zip (by decide) (F.typeCall_zip_3 _ _ _) (F.newCall_zip_3 _ _ _) (fun obj => F.args_object_init_4 obj _ _ _) F.entry_zip_new
    (meets_zip3 l1 l2 l3 xs ys zs) ⟨hl1, hl2, hl3, ?_⟩
  have z1 : (z3H1 s.heap l1).objs.size = s.heap.objs.size + 1 := Heap.size_push ..
  have z2 : (z3H2 s.heap l1 l2).objs.size = s.heap.objs.size + 2 := by rw [Heap.size_push, z1]
  have z3 : (z3H3 s.heap l1 l2 l3).objs.size = s.heap.objs.size + 3 := by rw [Heap.size_push, z2]
  have z4 : (z3H4 s.heap l1 l2 l3).objs.size = s.heap.objs.size + 4 := by rw [Heap.size_push, z3]
  have z5 : (z3H5 s.heap l1 l2 l3).objs.size = s.heap.objs.size + 5 := by rw [Heap.size_push, z4]
  have z6 : (z3H6 s.heap l1 l2 l3).objs.size = s.heap.objs.size + 6 := by rw [Heap.size_push, z5]
  have g6 : (z3H6 s.heap l1 l2 l3).get? (z3H5 s.heap l1 l2 l3).objs.size = some _ := Heap.get?_push_size _ rfl
  have g5 : (z3H6 s.heap l1 l2 l3).get? (z3H4 s.heap l1 l2 l3).objs.size = some _ := Heap.get?_push_of_some _ (Heap.get?_push_size _ rfl)
  have g4 : (z3H6 s.heap l1 l2 l3).get? (z3H3 s.heap l1 l2 l3).objs.size = some _ := Heap.get?_push_of_some _ (Heap.get?_push_of_some _ (Heap.get?_push_size _ rfl))
  have g3 : (z3H6 s.heap l1 l2 l3).get? (z3H2 s.heap l1 l2).objs.size = some _ := Heap.get?_push_of_some _ (Heap.get?_push_of_some _ (Heap.get?_push_of_some _ (Heap.get?_push_size _ rfl)))
  have g2 : (z3H6 s.heap l1 l2 l3).get? (z3H1 s.heap l1).objs.size = some _ := Heap.get?_push_of_some _ (Heap.get?_push_of_some _ (Heap.get?_push_of_some _ (Heap.get?_push_of_some _ (Heap.get?_push_size _ rfl))))
  have g1 : (z3H6 s.heap l1 l2 l3).get? s.heap.objs.size = some _ := Heap.get?_push_of_some _ (Heap.get?_push_of_some _ (Heap.get?_push_of_some _ (Heap.get?_push_of_some _ (Heap.get?_push_of_some _ (Heap.get?_push_size _ rfl)))))
  show _ ∧ _
  rw [z3, z4, z5] at g6
  rw [z1, z2, z3] at g4
  rw [z4] at g5
  rw [z2] at g3
  rw [z1] at g2
  rw [z5]
  exact ⟨⟨_, g6, rfl⟩, h _ g6 g4 g5 (itB_new (k := false) g1) (itB_new (k := false) g2) (itB_new (k := true) g3) z6 fun c o x =>
    Heap.get?_push_of_some _ (Heap.get?_push_of_some _ (Heap.get?_push_of_some _ (Heap.get?_push_of_some _ (Heap.get?_push_of_some _ (Heap.get?_push_of_some _ x)))))⟩
end
def iZip3 (K : PySem.W.Frag) (ta : TA) : TI := fun σ H R => ta σ H fun vs H1 => ∃ a b c xs ys zs, vs = [.ref a, .ref b, .ref c] ∧ SqT K H1 a xs ∧ SqT K H1 b ys ∧ SqL K H1 c zs ∧ R (It3 K false false true a b c) H1
theorem pi_zip3 {X : Cx} {e e2 e3 : Expr} {ta : TA} {p pos tpos : Pos} {elts : List Expr} {kk : Nat} (hg : Gl X "zip") (hm : X.mg "zip" = none) (ha : PA X [e, e2, e3] ta)
    (hs : starEach [e, e2, e3] X.env = (false, eval e X.env) :: starEach [e2, e3] X.env := by rfl) (hpl : (backTo pos (starEach [e2, e3] X.env)).any (·.1) = false := by rfl) :
    PI X (.Tuple elts kk tpos) (.Call (.Name "zip" p) [e, e2, e3] [] pos) (iZip3 X.K ta) := by
  refine ⟨fun pins s σ H R I h => ?_⟩
  refine Call_ (ld_blt I hg hm PyProof.Rows.boot_zip (PyProof.Rows.callWith_type1 (thn (ha.run pos pins s σ H _ I h) fun us s1 ⟨vs, H1, I1, r1, q1⟩ => ?_) hs hpl))
  obtain ⟨a, b, c, xs, ys, zs, ex, hqx, hqy, hqz, q⟩ := q1
  subst ex
  cases r1 with
  | cons r rr =>
    cases rr with
    | cons r' rr =>
      cases rr with
      | cons r'' rr =>
        cases rr
        cases r
        cases r'
        cases r''
        obtain ⟨its, rv, p1, la⟩ := sqB_inv (k := false) I1 hqx
        obtain ⟨its2, rv2, p2, lb⟩ := sqB_inv (k := false) I1 hqy
        obtain ⟨its3, rv3, p3, lc⟩ := sqB_inv (k := true) I1 hqz
        refine call_zip3 p1 p2 p3 fun h' hz hTI hTO h1 h2 h3 hsz hk => wpAny_pyIter_zip hz ?_
        have I2 : Inv X pins σ H1 { s1 with heap := h' } := I1.kept (t' := s1.toks) hk
        refine ⟨s1.heap.objs.size + 5, [s1.heap.objs.size + 5, s1.heap.objs.size + 3, s1.heap.objs.size + 4, s1.heap.objs.size, s1.heap.objs.size + 1, s1.heap.objs.size + 2], _, _, H1, rfl, I2, turn_zip3 (sep3 la lb lc) (Nat.ne_of_lt la) (Nat.ne_of_lt (Nat.lt_succ_of_lt lb)) (Nat.ne_of_lt (Nat.lt_succ_of_lt (Nat.lt_succ_of_lt lc))), ⟨hz, hTI, ⟨_, _, _, hTO⟩, h1, h2, h3⟩, fun c hcm => ?_, q⟩
        have e' : c = s1.heap.objs.size + 5 ∨ c = s1.heap.objs.size + 3 ∨ c = s1.heap.objs.size + 4 ∨ c = s1.heap.objs.size ∨ c = s1.heap.objs.size + 1 ∨ c = s1.heap.objs.size + 2 := by simpa using hcm
        have hle : s1.heap.objs.size ≤ c := by
          rcases e' with z | z | z | z | z | z <;> rw [z] <;> first | exact Nat.le_add_right _ _ | exact Nat.le_refl _
        exact I1.fpOk hle (I1.hok.fresh hle)
theorem walk_zip3 {K : PySem.W.Frag} {k1 k2 k3 : Bool} {a b c : Addr} {xs ys zs : List V} {n : Nat} (h1 : xs.length = n) (h2 : ys.length = n) (h3 : zs.length = n) : Walk (It3 K k1 k2 k3 a b c) n (fun H => SqB K H k1 a xs ∧ SqB K H k2 b ys ∧ SqB K H k3 c zs)
    (fun i H v H' => ∃ T x y z, v = .ref T ∧ H T = none ∧ H' = upd H T (.tup [x, y, z]) ∧ xs[i]? = some x ∧ ys[i]? = some y ∧ zs[i]? = some z) := by
  refine ⟨fun i H hi q => ?_, fun H q => ⟨xs, ys, zs, q.1, q.2.1, q.2.2, by omega, by omega, by omega, .inl h1⟩, fun i H v H' _ q y => ?_⟩
  · have g1 : i < xs.length := by omega
    have g2 : i < ys.length := by omega
    have g3 : i < zs.length := by omega
    exact ⟨xs, ys, zs, xs[i], ys[i], zs[i], q.1, q.2.1, q.2.2, by simp [g1], by simp [g2], by simp [g3]⟩
  · obtain ⟨T, x, z, u, h1, h2, h3, h4, h5, h6⟩ := y
    exact ⟨T, x, z, u, h1, h2, h3, h4 xs q.1, h5 ys q.2.1, h6 zs q.2.2⟩
end Rw

set_option Elab.async false
set_option linter.all false
set_option maxRecDepth 100000
set_option maxHeartbeats 4000000
/-! TkBG: a tuple times any number of times. -/
namespace Rw
open PySem PySem.Spec PyProof.Rows L2
theorem tuple_mul1 (l : Addr) (items : Array Value) (n : Nat) (dd : Option Addr) (sl : Array (Option Value)) (u : Tok) (ne : items.isEmpty = false) :
    Meets (Builtin.«tuple.__mul__» ⟨[.ref l, .int 1 u], []⟩) (fun _ R s => s.heap.get? l = some { cls := .type "tuple", dict := dd, data := .seq items n, slots := sl } ∧ R (.ok (.ret (Value.ref l))) s) :=
  .of_wp fun prog w A R s h => by
    obtain ⟨hp, g, d, tk, os⟩ := s
    obtain ⟨hl, h⟩ := h
    have f1 := AutoSeq1.idx_int
    wp_walk using wpAny_loadPart' hl
    exact ⟨_, rfl, h⟩
theorem tuple_mul0 (l : Addr) (items : Array Value) (n : Nat) (dd : Option Addr) (sl : Array (Option Value)) (x : Int) (u : Tok) (c0 : (decide (x < -(2 ^ 63)) || decide (x ≥ 2 ^ 63)) = false) (c1 : (items.isEmpty || x == 1) = false) (c2 : (decide (x ≤ 0) || items.isEmpty) = true) :
    Meets (Builtin.«tuple.__mul__» ⟨[.ref l, .int x u], []⟩) (fun _ R s => s.heap.get? l = some { cls := .type "tuple", dict := dd, data := .seq items n, slots := sl } ∧
      R (.ok (.ret (Value.ref s.heap.objs.size))) { s with heap := s.heap.push { cls := Value.type "tuple", data := Data.seq #[] }, toks := s.toks }) :=
  .of_wp fun prog w A R s h => by
    obtain ⟨hp, g, d, tk, os⟩ := s
    obtain ⟨hl, h⟩ := h
    have f1 := AutoSeq1.idx_int
    wp_walk using wpAny_loadPart' hl
    repeat (first
      | (refine wpAny_ite_false (decide_eq_false (by rw [c0]; exact Bool.false_ne_true)) ?_; wp_walk using wpAny_loadPart' hl)
      | (refine wpAny_ite_false (decide_eq_false (by rw [c1]; exact Bool.false_ne_true)) ?_; wp_walk using wpAny_loadPart' hl)
      | (refine wpAny_ite_true (decide_eq_true (by rw [c2])) ?_; wp_walk using wpAny_loadPart' hl))
    exact ⟨_, rfl, h⟩
/-- a tuple with one item, so many times -/
def rRepO : R2 := fun x y H Q => ∃ (l : Addr) (k : Nat) (a : V), x = .ref l ∧ y = .int (k : Nat) ∧ H l = some (.tup [a]) ∧ k ≤ 1000 ∧ ∀ p H', Same H H' → H' p = some (.tup (List.replicate k a)) → Q (.ref p) H'
theorem op_repO {X : Cx} : OpR X (binaryOp .Mult) rRepO := by
  intro pins s σ H x y v u Q I rx ry h
  obtain ⟨l, k, a, rfl, rfl, hT0, hk, q⟩ := h
  have hT : SqT X.K H l [a] := SqT.of hT0
  by_cases k2 : 2 ≤ k
  · refine op_repT pins s σ H _ _ v u Q I rx ry ⟨l, (k : Nat), [a], rfl, rfl, hT, by simp, by omega, by omega, by show 1 ≤ 1000; decide, fun p hp => q p _ (same_new hp) ?_⟩
    rw [upd_same]
    have e : (List.replicate ((k : Nat) : Int).toNat [a]).flatten = List.replicate k a := by
      rw [Int.toNat_natCast]
      simp
    rw [e]
  cases rx
  obtain ⟨t, rfl⟩ := ry
  obtain ⟨its, r, ⟨⟨cls, dd, data, sl⟩, ho, hc, n, hd⟩, hs⟩ := I.tuple hT
  simp only at hc hd
  subst hc hd
  have hle : its.length = 1 := r.length.symm
  have hi : its.toArray.isEmpty = false := by
    cases its with
    | nil => cases hle
    | cons a b => rfl
  have c0 : (decide (((k : Nat) : Int) < -(2 ^ 63)) || decide (((k : Nat) : Int) ≥ 2 ^ 63)) = false := by
    rw [decide_eq_false (by omega), decide_eq_false (by omega)] <;> rfl
  by_cases k1 : k = 1
  · subst k1
    refine wpAny_binaryOp_repeat_ref (T := "tuple") (U := "int") (by decide) ⟨_, ho, rfl⟩ (fun s' => typeIs_int s' _ t) noFill_tuple_mul F.fills_int_mul F.slot_int_rmul repeat_tuple F.slot_int_index.lookup
      (call_meets F.slot_int_rmul (typeIs_int s _ t) F.entry_int_rmul (F.args_int_rmul_2 _ _) (int_rmul_tuple _ t l its.toArray n dd sl)
        ⟨ho, rfl, ⟨_, ho, rfl⟩, call_meets F.slot_tuple_mul ⟨_, ho, rfl⟩ F.entry_tuple_mul (F.args_tuple_mul_2 _ _) (tuple_mul1 l its.toArray n dd sl t hi) ⟨ho, ?_⟩⟩)
    exact ⟨.ref l, H, I, rfl, q l H (Same.refl _) hT0⟩
  · have k0 : k = 0 := by omega
    subst k0
    have c1 : (its.toArray.isEmpty || ((0 : Nat) : Int) == 1) = false := by rw [hi] <;> rfl
    have c2 : (decide (((0 : Nat) : Int) ≤ 0) || its.toArray.isEmpty) = true := by rw [decide_eq_true (by omega)] <;> rfl
    refine wpAny_binaryOp_repeat_ref (T := "tuple") (U := "int") (by decide) ⟨_, ho, rfl⟩ (fun s' => typeIs_int s' _ t) noFill_tuple_mul F.fills_int_mul F.slot_int_rmul repeat_tuple F.slot_int_index.lookup
      (call_meets F.slot_int_rmul (typeIs_int s _ t) F.entry_int_rmul (F.args_int_rmul_2 _ _) (int_rmul_tuple _ t l its.toArray n dd sl)
        ⟨ho, rfl, ⟨_, ho, rfl⟩, call_meets F.slot_tuple_mul ⟨_, ho, rfl⟩ F.entry_tuple_mul (F.args_tuple_mul_2 _ _) (tuple_mul0 l its.toArray n dd sl _ t c0 c1 c2) ⟨ho, ?_⟩⟩)
    refine ⟨.ref s.heap.objs.size, _, I.laid (t' := s.toks) (o := .tup []) (fun b ob q => Heap.get?_push_of_some _ q) (Nat.le_refl _) ?_, rfl, q _ _ (same_new (I.hok.fresh (Nat.le_refl _))) upd_same⟩
    exact ⟨by show 0 ≤ sizeLine; decide, _, .nil, IsTup.new _ _⟩
end Rw

set_option Elab.async false
set_option linter.all false
set_option maxRecDepth 100000
set_option maxHeartbeats 4000000
/-! TkBF: rows, read and joined: the promises. -/
namespace Rw
open PySem PySem.Spec PyProof.Rows L2
theorem ints_at {ns : List Int} {i : Nat} {v : V} (h : (ns.map V.int)[i]? = some v) : ∃ n, ns[i]? = some n ∧ v = .int n := by
  rw [List.getElem?_map] at h
  cases e : ns[i]? with
  | none => rw [e] at h; cases h
  | some n =>
    rw [e] at h
    exact ⟨n, rfl, (Option.some.inj h).symm⟩
theorem anyL_app {H : Hp} : ∀ {xs ys : List V} {ds es : List PyData}, AnyL H xs ds → AnyL H ys es → AnyL H (xs ++ ys) (ds ++ es)
  | _, _, _, _, .nil, b => b
  | _, _, _, _, .cons a r, b => .cons a (anyL_app r b)
def spGetP (C : Addr) : Sp := fun vs H Q _ => ∃ a x p ss mm, vs = [.ref a] ∧ RowAt C H a x p ss mm ∧ Q (.str x) H
def spGetQ (C : Addr) : Sp := fun vs H Q _ => ∃ a x p ss mm, vs = [.ref a] ∧ RowAt C H a x p ss mm ∧ Q (.int p) H
def spGetS (C : Addr) : Sp := fun vs H Q _ => ∃ a x p ss mm, vs = [.ref a] ∧ RowAt C H a x p ss mm ∧ ∀ ts, Any H (.ref ts) (.tuple ss) → Q (.ref ts) H
/-- a property of rows at hand -/
structure PropAt (P : Program) (w : World) (K : PySem.W.Frag) (mg : Str → Option Value) (base : Heap) (C : Addr) (f : Str) (sp : Sp) : Prop where
  cl : Cls K C
  has : ∃ (p g : Addr) (fd : FuncData), PropOf K C f p g ∧ FnOk P w K mg base CX0 1 g fd ["self"] sp ∧ Binds K fd ["self"] []
section
variable {X : Cx} {C : Addr} {f : Str} {sp : Sp} {e : Expr} {ta : TE} {pos : Pos}
theorem pass0n : Passes CX0 X.nox E0 := pass0
theorem pe_prp (A : PropAt X.prog X.w X.K X.mg X.base C f sp) (hr : Room 2 X.A) (he : PE X e ta) (hab : attributeBase e f X.env (eval e X.env) = eval e X.env := by rfl) : PE X (.Attribute e f pos) (tProp C sp [] E0 ta) := by
  obtain ⟨p, g, fd, hp, F, hb⟩ := A.has
  exact pe_prop he A.cl hp F hr hb .nil pass0n hab
end
/-- a method of rows that raises nothing, without arguments -/
structure Meth0At (P : Program) (w : World) (K : PySem.W.Frag) (mg : Str → Option Value) (base : Heap) (C : Addr) (m : Str) (k : Nat) (sp : Sp) : Prop where
  cl : Cls K C
  has : ∃ (f : Addr) (fd : FuncData), Meth K C m f ∧ FnOk P w K mg base CX0 k f fd ["self"] sp ∧ Binds K fd ["self"] []
/-- the first of some numbers above 6 -/
def spLow (K : PySem.W.Frag) (CG : Addr) : Sp := fun vs H Q E => ∃ (a : Addr) (ns : List Int), vs = [.ref a] ∧ SqL K H a (ns.map V.int) ∧ ns.length ≤ 1000 ∧ ((∀ (i : Nat) (n : Int), ns[i]? = some n → n ≤ 6) → Q .non H) ∧
  (∀ (i : Nat) (n : Int), ns[i]? = some n → 6 < n → (∀ (j : Nat) (m : Int), j < i → ns[j]? = some m → m ≤ 6) → Thrown CG (.int n) H E)
def spAlike (C CU : Addr) : Sp := fun vs H Q E => ∃ a b x p ss mm y q ts nn, vs = [.ref a, .ref b] ∧ RowAt C H a x p ss mm ∧ RowAt C H b y q ts nn ∧ (x = y → p = q → Q .non H) ∧ (¬(x = y ∧ p = q) → ThrownN CU H E)
/-- the rows of the one, zeros behind, and those of the other, zeros ahead -/
def besM (m1 m2 : List (List Int)) (w k : Nat) : List (List Int) := m1.map (fun r => r ++ List.replicate k 0) ++ m2.map (fun r => List.replicate w 0 ++ r)
def spBes : Sp := fun vs H Q _ => ∃ v1 v2 m1 m2 w k, vs = [v1, v2, .int (w : Nat), .int (k : Nat)] ∧ Any H v1 (.tuple (m1.map tupI)) ∧ Any H v2 (.tuple (m2.map tupI)) ∧ m1.length ≤ 6 ∧ m2.length ≤ 6 ∧ w ≤ 6 ∧ k ≤ 6 ∧ (∀ r, r ∈ m1 → r.length ≤ 6) ∧ (∀ r, r ∈ m2 → r.length ≤ 6) ∧
  ∀ l acc H', H l = none → Same H H' → H' l = some (.lst acc) → AnyL (del H' l) acc ((besM m1 m2 w k).map tupI) → Q (.ref l) H'
theorem cat_tup {K : PySem.W.Frag} {H : Hp} {a b : Addr} {xs ys : List V} {Q : VK} (ha : H a = some (.tup xs)) (hb : H b = some (.tup ys)) (hl : xs.length + ys.length ≤ 1000) (q : ∀ p H', Same H H' → H' p = some (.tup (xs ++ ys)) → Q (.ref p) H') : rCatA K (.ref a) (.ref b) H Q := by
  refine ⟨a, b, xs, ys, rfl, rfl, SqT.of ha, SqT.of hb, Nat.le_trans hl (by decide), fun e => q b H (Same.refl _) ?_, fun _ e => q a H (Same.refl _) ?_, fun _ _ p hp => q p _ (same_new hp) upd_same⟩
  · rw [e]; exact hb
  · rw [e, List.append_nil]; exact ha
theorem any_tupI {H : Hp} {v : V} {r : List Int} (h : Any H v (tupI r)) : ∃ p, v = .ref p ∧ H p = some (.tup (r.map V.int)) := by
  cases h with
  | tup e al => exact ⟨_, rfl, by rw [e, anyL_ints al]⟩
theorem tupI_any {H : Hp} {p : Addr} {r : List Int} (h : H p = some (.tup (r.map V.int))) : Any H (.ref p) (tupI r) := .tup h (ints_anyL r)
theorem rep_ints (k : Nat) : List.replicate k (V.int 0) = (List.replicate k (0 : Int)).map V.int := by simp
end Rw

set_option Elab.async false
set_option linter.all false
set_option maxRecDepth 100000
set_option maxHeartbeats 4000000
/-! K46B: the law: draws, bars, the look at each arrow, what is caught. -/
namespace K46
open PySem PySem.Spec PyProof.Rows L2 Rw
abbrev sCell : Stmt := top 18
abbrev sBox : Stmt := top 19
abbrev sTake : Stmt := top 20
abbrev sPatL : Stmt := top 21
abbrev sBarsL : Stmt := top 22
abbrev sIsMap : Stmt := top 23
abbrev sCaught : Stmt := top 24
abbrev NCell : List Str := ["_law_script", "_law_k"]
theorem scCell : FnScope NCell ["_law_script", "_law_k"] (defScope sCell) := ⟨rfl, rfl, rfl, by decide +kernel, rfl, by decide +kernel, by decide +kernel⟩
abbrev NBox : List Str := ["_law_cell_here"]
theorem scBox : FnScope NBox ["_law_cell_here"] (defScope sBox) := ⟨rfl, rfl, rfl, by decide +kernel, rfl, by decide +kernel, by decide +kernel⟩
abbrev NTake : List Str := ["_law_box_here", "_law_many", "_law_digit", "_law_blend"]
theorem scTake : FnScope NTake ["_law_box_here", "_law_many"] (defScope sTake) := ⟨rfl, rfl, rfl, by decide +kernel, rfl, by decide +kernel, by decide +kernel⟩
abbrev NPatL : List Str := ["_law_box_here", "_law_most", "_law_k"]
theorem scPatL : FnScope NPatL ["_law_box_here", "_law_most"] (defScope sPatL) := ⟨rfl, rfl, rfl, by decide +kernel, rfl, by decide +kernel, by decide +kernel⟩
abbrev NBarsL : List Str := ["_law_arrows_here", "_law_found", "_law_first", "_law_last"]
theorem scBarsL : FnScope NBarsL ["_law_arrows_here"] (defScope sBarsL) := ⟨rfl, rfl, rfl, by decide +kernel, rfl, by decide +kernel, by decide +kernel⟩
abbrev NIsMap : List Str := ["_law_arrows_here", "_law_bar", "_law_other", "_law_held", "_law_k", "_law_sign", "_law_begin", "_law_end", "_law_first", "_law_place"]
theorem scIsMap : FnScope NIsMap ["_law_arrows_here", "_law_bar", "_law_other"] (defScope sIsMap) := ⟨rfl, rfl, rfl, by decide +kernel, rfl, by decide +kernel, by decide +kernel⟩
abbrev NCaught : List Str := ["_law_arrows_here", "_law_bar", "_law_other", "e"]
theorem scCaught : FnScope NCaught ["_law_arrows_here", "_law_bar", "_law_other"] (defScope sCaught) := ⟨rfl, rfl, rfl, by decide +kernel, rfl, by decide +kernel, by decide +kernel⟩
/-- what the top has left for the clauses -/
structure TxC (K : PySem.W.Frag) (mg : Str → Option Value) (CR CT CB : Addr) : Prop where
  gR : mg "RowError" = some (.ref CR)
  tt : PySem.W.exmOne K (.ref CT) (.ref CT) = some true
  bt : PySem.W.exmOne K (.ref CB) (.ref CT) = some false
  bb : PySem.W.exmOne K (.ref CB) (.ref CB) = some true
theorem part_rng (a : Nat) : ∀ n, partL a n = (List.range (n - a)).map fun j => (a, a + j)
  | 0 => by simp [partL]
  | n + 1 => by
    rw [part_succ, part_rng a n]
    by_cases h : a ≤ n
    · rw [if_pos h, show n + 1 - a = (n - a) + 1 by omega, List.range_succ, List.map_append]
      show _ ++ [(a, n)] = _ ++ [(a, a + (n - a))]
      rw [show a + (n - a) = n by omega]
    · rw [if_neg h, show n + 1 - a = n - a by omega]
abbrev rInt1 : List V → Hp → VK → Prop := fun xs H Q => (∃ i, xs = [.int i] ∧ Q (.int i) H) ∨ ∃ k, xs = [.bl k] ∧ Q (.int (if k then 1 else 0)) H
abbrev tHeld (K : PySem.W.Frag) : TE := tCB rInt1 (tCons (tAndV (tChain rLe rLe (tOp (rIxT K) (tVar 1) (tC (.int 0))) (tVar 9) (tOp (rIxT K) (tVar 1) (tC (.int 1)))) (tChain rLe rLe (tOp (rIxT K) (tVar 2) (tC (.int 0))) (tVar 9) (tOp (rIxT K) (tVar 2) (tC (.int 1))))) tNil)
section
variable {P : Program} {w : World} {K : PySem.W.Frag} {mg : Str → Option Value} {base : Heap}
theorem okCell {f : Addr} {fd : FuncData} (F : Fun K "_law_cell" "_law_cell" sCell f fd) (zl : mg "len" = none) : FnOk P w K mg base CX0 1 f fd ["_law_script", "_law_k"] (spCellR K) := by
  refine F.ok scCell (fun vs H Q E h => ?_) (fun cdv A outer s H vs Q E hr h => ?_)
  · obtain ⟨a, ns, j, rfl, _⟩ := h
    rfl
  · obtain ⟨a, ns, j, rfl, hs, hj, q⟩ := h
    refine ⟨_, (pss_cons (ps_if (pt_cmpR op_lt (pv 1) (pe_callB call_len_seq (by rfl) zl PySem.boot_len (pa_cons (pv 0) pa_nil)) (nomark _)) (pss_one (ps_ret (pe_ix ix_list (pv 0) (pv 1) (fun _ _ => rfl)))) pss_nil)
      (pss_one (ps_ret (pe_op op_add (pe_op op_mul pe_int (pv 1)) pe_int)))), ?_⟩
    refine ⟨_, rfl, _, rfl, a, _, rfl, .inl hs, _, _, rfl, rfl, _, rfl, ?_⟩
    refine ite2 (fun z => ?_) (fun z => ?_)
    · have z2 := of_decide_eq_true z
      have z3 : j < ns.length := by
        rw [List.length_map] at z2
        omega
      exact ⟨_, rfl, _, rfl, a, _, _, _, rfl, rfl, hs, atI_nat (j := j) (v := .int ns[j]) (by rw [List.getElem?_map, List.getElem?_eq_getElem z3] <;> rfl), q _⟩
    · exact ⟨_, rfl, _, _, rfl, rfl, .inr ⟨by omega, by omega⟩, _, _, rfl, rfl, q _⟩
theorem okBox {f : Addr} {fd : FuncData} (F : Fun K "_law_box" "_law_box" sBox f fd) (zm : mg "max" = none) (zi : mg "int" = none) : FnOk P w K mg base CX0 1 f fd ["_law_cell_here"] spBoxR := by
  refine F.ok scBox (fun vs H Q E h => ?_) (fun cdv A outer s H vs Q E hr h => ?_)
  · obtain ⟨z, rfl, _⟩ := h
    rfl
  · obtain ⟨z, rfl, q⟩ := h
    refine ⟨_, (pss_one (ps_ret (pe_lst (pa_cons (pe_callB (call_max2 rfl) (by rfl) zm (by decide +kernel) (pa_cons pe_int (pa_cons (pe_op op_sub (pv 0) (pe_op op_pow pe_int pe_int)) pa_nil))) (pa_cons (pe_op op_modN (pe_callTy call_int1 (by rfl) zi (by decide +kernel) (pa_cons (pv 0) pa_nil)) pe_int) (pa_cons pe_int pa_nil)))))), ?_⟩
    refine ⟨_, rfl, _, _, rfl, rfl, ⟨by decide, by decide, by decide⟩, _, _, rfl, rfl, _, _, rfl, _, rfl, .inl ⟨_, rfl, _, _, rfl, rfl, (by dsimp only; omega), (by show 3 ≤ sizeLine; decide), fun p hp => ?_⟩⟩
    refine q p _ hp (same_new hp) ⟨_, _, _, upd_same, ?_, ?_, ?_, by omega, by omega⟩
    · split <;> omega
    · rw [fmod_pos (by decide)]
      exact Int.emod_nonneg _ (by decide)
    · rw [fmod_pos (by decide)]
      exact Int.emod_lt_of_pos _ (by decide)
theorem okTake {f : Addr} {fd : FuncData} (F : Fun K "_law_take" "_law_take" sTake f fd) (zi : mg "int" = none) : FnOk P w K mg base CX0 1 f fd ["_law_box_here", "_law_many"] spTakeR := by
  refine F.ok scTake (fun vs H Q E h => ?_) (fun cdv A outer s H vs Q E hr h => ?_)
  · obtain ⟨p, m, n, rfl, _⟩ := h
    rfl
  · obtain ⟨p, m, n, rfl, m0, m1, ⟨a, b, c, hp, a0, b0, b1, c0, c1⟩, hn, q⟩ := h
    refine ⟨_, (pss_cons (ps_if (pt_cmpR op_gt (pe_ix ix_list (pv 0) pe_int (fun _ _ => rfl)) pe_int (nomark _)) (pss_cons (ps_set (i := 2) scTake.nd rfl (Or.inl rfl) (pe_op op_modN (pe_callTy call_int1 (by rfl) zi (by decide +kernel) (pa_cons (pe_ix ix_list (pv 0) pe_int (fun _ _ => rfl)) pa_nil)) (pv 1)))
        (pss_cons (ps_asg (pe_op op_fdivW (pe_ix ix_list (pv 0) pe_int (fun _ _ => rfl)) (pv 1)) (pg_sub (pv 0) pe_int set_list))
        (pss_one (ps_ret (pv 2))))) pss_nil)
      (pss_cons (ps_asg (pe_op op_add (pe_ix ix_list (pv 0) pe_int (fun _ _ => rfl)) pe_int) (pg_sub (pv 0) pe_int set_list))
      (pss_cons (ps_set (i := 3) scTake.nd rfl (Or.inl rfl) (pe_op op_modN (pe_op op_pow (pe_callTy call_int1 (by rfl) zi (by decide +kernel) (pa_cons (pe_op op_add (pe_op op_add (pe_ix ix_list (pv 0) pe_int (fun _ _ => rfl)) (pe_op op_mul pe_int (pe_ix ix_list (pv 0) pe_int (fun _ _ => rfl)))) pe_int) pa_nil)) pe_int) pe_int))
      (pss_cons (ps_set (i := 3) scTake.nd rfl (Or.inl rfl) (pe_op op_modN (pe_op op_pow (pe_callTy call_int1 (by rfl) zi (by decide +kernel) (pa_cons (pe_op op_add (pv 3) (pe_op op_mul pe_int (pe_ix ix_list (pv 0) pe_int (fun _ _ => rfl)))) pa_nil)) pe_int) pe_int))
      (pss_one (ps_ret (pe_op op_modN (pe_callTy call_int1 (by rfl) zi (by decide +kernel) (pa_cons (pe_op op_fdivW (pv 3) pe_int) pa_nil)) (pv 1)))))))), ?_⟩
    refine ⟨_, rfl, p, _, 0, _, rfl, rfl, SqL.of hp, atI_nat (j := 0) rfl, _, _, rfl, rfl, _, rfl, ?_⟩
    refine ite2 (fun z => ?_) (fun z => ?_)
    · refine ⟨_, rfl, p, _, 0, _, rfl, rfl, SqL.of hp, atI_nat (j := 0) rfl, .inl ⟨_, rfl, _, rfl, _, _, rfl, rfl, (by show m ≠ 0; omega), ?_⟩⟩
      refine ⟨_, rfl, p, _, 0, _, rfl, rfl, SqL.of hp, atI_nat (j := 0) rfl, _, rfl, _, _, rfl, rfl, wide_div (b := 200) m0 (by omega) (by decide) (by decide), _, rfl, p, _, 0, 0, rfl, rfl, hp, rfl, ?_⟩
      refine ⟨_, rfl, ?_⟩
      show Q (.int (a.fmod m)) _
      rw [fmod_pos m0]
      exact q _ _ (Int.emod_nonneg _ (by omega)) (Int.emod_lt_of_pos _ m0) Grow.put ⟨_, b, c, upd_same, fdiv_nonneg' a0 m0, b0, b1, c0, by omega⟩
    · refine ⟨_, rfl, p, _, 2, _, rfl, rfl, SqL.of hp, atI_nat (j := 2) rfl, _, _, rfl, rfl, _, rfl, p, _, 2, 2, rfl, rfl, hp, rfl, ?_⟩
      have hp2 : (upd H p (.lst ([V.int a, V.int b, V.int c].set 2 (.int (c + 1))))) p = some (.lst [.int a, .int b, .int (c + 1)]) := upd_same
      refine ⟨_, rfl, p, _, 1, _, rfl, rfl, SqL.of hp2, atI_nat (j := 1) rfl, _, rfl, p, _, 2, _, rfl, rfl, SqL.of hp2, atI_nat (j := 2) rfl, _, _, rfl, rfl, .inl ⟨by omega, by omega⟩, _, _, rfl, rfl, _, _, rfl, rfl, .inl ⟨_, rfl, _, _, rfl, rfl, ⟨by decide, by decide, by omega⟩, _, _, rfl, rfl, (by dsimp only; omega), ?_⟩⟩
      generalize ((b + _ * (c + 1) + _) ^ _ : Int) = y1
      have y2 : 0 ≤ y1.fmod 2147483647 ∧ y1.fmod 2147483647 < 2147483647 := by
        rw [fmod_pos (by decide)]
        exact ⟨Int.emod_nonneg _ (by decide), Int.emod_lt_of_pos _ (by decide)⟩
      refine ⟨_, rfl, _, rfl, p, _, 2, _, rfl, rfl, SqL.of hp2, atI_nat (j := 2) rfl, _, _, rfl, rfl, .inl ⟨by omega, by omega⟩, _, _, rfl, rfl, .inl ⟨_, rfl, _, _, rfl, rfl, ⟨by decide, by decide, by omega⟩, _, _, rfl, rfl, (by dsimp only; omega), ?_⟩⟩
      generalize ((y1.fmod 2147483647 + _ * (c + 1)) ^ _ : Int) = y4
      refine ⟨_, rfl, _, _, rfl, rfl, ⟨by decide, by decide +kernel⟩, .inl ⟨_, rfl, _, rfl, _, _, rfl, rfl, (by show m ≠ 0; omega), ?_⟩⟩
      show Q (.int (Int.fmod _ m)) _
      rw [fmod_pos m0]
      exact q _ _ (Int.emod_nonneg _ (by omega)) (Int.emod_lt_of_pos _ m0) Grow.put ⟨a, b, c + 1, hp2, a0, b0, b1, by omega, by omega⟩
theorem okPatL {f : Addr} {fd : FuncData} (F : Fun K "_law_arrows" "_law_arrows" sPatL f fd) (zr : mg "range" = none) (GT : Own P w K mg base CX0 1 "_law_take" ["_law_box_here", "_law_many"] [] spTakeR) : FnOk P w K mg base CX0 2 f fd ["_law_box_here", "_law_most"] spPatR := by
  refine F.ok scPatL (fun vs H Q E h => ?_) (fun cdv A outer s H vs Q E hr h => ?_)
  · obtain ⟨p, n, m, rfl, _⟩ := h
    rfl
  · obtain ⟨p, n, m, rfl, hm, bx, hn, q⟩ := h
    refine ⟨_, (pss_one (ps_ret (pe_join pe_str (pe_lc (own := [("_law_k", 2)]) (g := gName 2) (tt := tYes) rfl scPatL.nd (pi_range1 rfl zr (pa_cons (pe_own GT hr pass0 (pa_cons (pv 0) (pa_cons (pe_op op_add (pv 1) pe_int) pa_nil))) pa_nil)) (blkOk_by (N := NPatL) (sc := defScope sPatL) (by decide +kernel)) (fun _ _ _ _ _ => (pg_name (i := 2) scPatL.nd rfl (Or.inl rfl))) (fun _ _ _ _ _ => pts_nil) (fun _ _ _ _ _ => (pe_ix ix_str pe_str (pe_own GT hr pass0 (pa_cons (pv 0) (pa_cons pe_int pa_nil))) (fun _ _ => rfl))))))), ?_⟩
    refine ⟨⟨_, rfl⟩, ?_⟩
    refine ⟨_, rfl, _, rfl, _, _, rfl, rfl, p, _, n, rfl, by omega, by omega, bx, by omega, fun r H1 r0 r1 G1 B1 => ?_⟩
    refine ⟨r, rfl, by omega, by omega, fun D hD => ?_⟩
    have pD := B1.ne hD
    refine lc_boxN (walk_rng (n := r.toNat)) (by omega) hD B1 (fun _ _ => trivial) (t := 1) (fun d => ∃ c, isArr c = true ∧ d = .str (sg c)) (by rintro d ⟨c, _, rfl⟩; rfl) ?_ ?_
    · rintro i x H2 hi rfl g2 b2
      refine ⟨rfl, fun k hk => ?_⟩
      refine ⟨_, rfl, p, 2, n + 1 + i * 1, rfl, by decide, by decide, b2, by omega, fun r2 H3 a0 a1 G3 B3 => ?_⟩
      rcases (by omega : r2 = 0 ∨ r2 = 1) with e | e
      · subst e
        exact ⟨_, _, 62, rfl, rfl, (by decide), rfl, hk _ _ _ G3 B3 ⟨62, rfl, rfl⟩ (.str _)⟩
      · subst e
        exact ⟨_, _, 60, rfl, rfl, (by decide), rfl, hk _ _ _ G3 B3 ⟨60, rfl, rfl⟩ (.str _)⟩
    · intro H2 acc ds g2 b2 ha al ld gd
      obtain ⟨cs, e1, e2, e3⟩ : ∃ cs : List Nat, ds = cs.map (fun c => PyData.str (sg c)) ∧ cs.all isArr = true ∧ cs.length = ds.length := by
        clear al ld
        induction ds with
        | nil => exact ⟨[], rfl, rfl, rfl⟩
        | cons d ds ih =>
          obtain ⟨cs, h1, h2, h3⟩ := ih fun e he => gd e (List.mem_cons_of_mem _ he)
          obtain ⟨c, hc, e⟩ := gd d List.mem_cons_self
          exact ⟨c :: cs, by rw [e, h1] <;> rfl, by rw [List.all_cons, hc, h2] <;> rfl, by simp [h3]⟩
      have ea : acc = (cs.map sg).map V.str := by
        rw [e1] at al
        clear e2 e3 e1 ha
        induction cs generalizing acc with
        | nil => cases al; rfl
        | cons c cs ih =>
          cases al with
          | cons a b =>
            cases a
            rw [ih _ b] <;> rfl
      have lc : cs.length ≤ m := by omega
      refine ⟨"", D, cs.map sg, rfl, rfl, .inl (SqL.of (by rw [ha, ea])), ?_, ?_⟩
      · have z1 : ((cs.map sg).map (fun y : Str => y.length)) = cs.map fun _ => 1 := by
          rw [List.map_map] <;> rfl
        have z2 : ∀ l : List Nat, (l.map fun _ => 1).sum = l.length := fun l => by
          induction l with
          | nil => rfl
          | cons a l ih => rw [List.map_cons, List.sum_cons, ih, List.length_cons]; omega
        have z3 : (("" : String) : Str).length = 0 := rfl
        rw [z1, z2, z3]
        omega
      · have j := join_sg cs
        refine q _ H2 ⟨?_, ?_⟩ (G1.trans g2) (b2.more (by omega))
        · have : (Txt.join "" (cs.map sg)).cps.toList.length = cs.length := by rw [j]
          rw [Array.length_toList] at this
          show (Txt.join "" (cs.map sg)).cps.size ≤ m
          omega
        · rw [j]
          exact e2
theorem okBarsL {f : Addr} {fd : FuncData} (F : Fun K "_law_bars" "_law_bars" sBarsL f fd) (zr : mg "range" = none) (zl : mg "len" = none) : FnOk P w K mg base CX0 1 f fd ["_law_arrows_here"] spBarsN := by
  refine F.ok scBarsL (fun vs H Q E h => ?_) (fun cdv A outer s H vs Q E hr h => ?_)
  · obtain ⟨x, rfl, _⟩ := h
    rfl
  · obtain ⟨x, rfl, lx, q⟩ := h
    have lz : x.length ≤ sizeLine := Nat.le_trans lx (by decide)
    refine ⟨_, (pss_cons (ps_set (i := 1) scBarsL.nd rfl (Or.inl rfl) (pe_lst pa_nil))
      (pss_cons (ps_for PassesOwn.never rfl (pi_range1 rfl zr (pa_cons (pe_op op_add (pe_callB call_len_str (by rfl) zl (by decide +kernel) (pa_cons (pv 0) pa_nil)) pe_int) pa_nil)) (pg_name (i := 2) scBarsL.nd rfl (Or.inr rfl)) (pss_one (ps_set (i := 1) scBarsL.nd rfl (Or.inl rfl) (pe_op op_cat (pv 1) (pe_lc (own := [("_law_last", 3)]) (g := gName 3) (tt := tYes) rfl scBarsL.nd (pi_range2 rfl zr (pa_cons (pv 2) (pa_cons (pe_op op_add (pe_callB call_len_str (by rfl) zl (by decide +kernel) (pa_cons (pv 0) pa_nil)) pe_int) pa_nil))) (blkOk_by (N := NBarsL) (sc := defScope sBarsL) (by decide +kernel)) (fun _ _ _ _ _ => (pg_name (i := 3) scBarsL.nd rfl (Or.inl rfl))) (fun _ _ _ _ _ => pts_nil) (fun _ _ _ _ _ => (pe_tup (pa_cons (pv 2) (pa_cons (pv 3) pa_nil)))))))))
      (pss_one (ps_ret (pv 1))))), ?_⟩
    refine ⟨by show 0 ≤ sizeLine; decide, fun F0 hF0 => ?_⟩
    refine ⟨_, rfl, x, rfl, lz, _, _, rfl, rfl, _, rfl, by omega, by omega, ?_⟩
    have en : ((x.length : Int) + 1).toNat = x.length + 1 := by omega
    rw [en]
    generalize hN : x.length + 1 = n
    refine for_range (lo := 0) (n := n) (fun i σ' H' => ∃ Fa acc y2, σ' = [some (.str x), some (.ref Fa), y2, none] ∧ Same H H' ∧ H Fa = none ∧ H' Fa = some (.lst acc) ∧ AnyL H' acc ((preL n i).map barD)) ⟨F0, [], _, rfl, same_new hF0, hF0, upd_same, .nil⟩ ?_ ?_
    · rintro i σ' H1 hi ⟨Fa, acc, y2, rfl, k1, hF, ha, al⟩
      have ei : (0 + (i : Int)) = (i : Int) := by omega
      rw [ei]
      refine ⟨_, rfl, _, rfl, _, rfl, x, rfl, lz, _, _, rfl, rfl, (i : Int), _, rfl, ⟨by omega, by omega, by omega, by omega⟩, fun D hD => ?_⟩
      have em : (((x.length : Int) + 1) - (i : Int)).toNat = n - i := by omega
      rw [em]
      refine lc_tup (n := n - i) walk_range (by omega) hD (fun _ _ => trivial) (fun j => barD (i, i + j)) (fun _ _ => rfl) ?_ ?_
      · rintro j y H2 hj rfl s2 _
        refine ⟨rfl, fun k hk => ?_⟩
        refine ⟨_, rfl, _, rfl, (by show 2 ≤ sizeLine; decide), fun t ht => hk _ _ (same_new ht) (.tup upd_same ?_)⟩
        have e1 : ((i : Int) + (j : Int)) = ((i + j : Nat) : Int) := by omega
        show AnyL _ [V.int (i : Int), V.int ((i : Int) + (j : Int))] _
        rw [e1]
        exact .cons (.int _) (.cons (.int _) .nil)
      · intro H2 ac2 s2 ha2 al2
        have ln1 := anyL_len al
        have ln2 := anyL_len al2
        rw [List.length_map] at ln1
        rw [List.length_map, List.length_range] at ln2
        have h1 := pre_len n i
        have h3 : i * n ≤ 7 * 7 := Nat.mul_le_mul (by omega) (by omega)
        refine ⟨Fa, D, acc, ac2, rfl, rfl, s2 _ _ ha, ha2, Nat.le_trans (by omega : acc.length + ac2.length ≤ 100) (by decide), fun pN hp => ?_⟩
        have k9 := (k1.trans s2).trans (same_new (o := .lst (acc ++ ac2)) hp)
        refine ⟨pN, _, _, rfl, k9, (k1.trans s2).free hp, upd_same, ?_⟩
        have e2 : (preL n (i + 1)).map barD = (preL n i).map barD ++ (List.range (n - i)).map fun j => barD (i, i + j) := by
          rw [pre_succ, List.map_append, part_rng, List.map_map] <;> rfl
        rw [e2]
        exact anyL_app (anyL_keep (s2.trans (same_new hp)) al) (anyL_keep (same_del.trans (same_new hp)) al2)
    · rintro σ' H1 ⟨Fa, acc, y2, rfl, k1, hF, ha, al⟩
      refine ⟨_, rfl, q Fa acc H1 hF k1 ha ?_⟩
      rw [hN]
      exact al

theorem okIsMap {f : Addr} {fd : FuncData} (F : Fun K "_law_is_map" "_law_is_map" sIsMap f fd) (zr : mg "range" = none) (zl : mg "len" = none) (ze : mg "enumerate" = none) (zi : mg "int" = none) : FnOk P w K mg base CX0 1 f fd ["_law_arrows_here", "_law_bar", "_law_other"] spIsMap := by
  refine F.ok scIsMap (fun vs H Q E h => ?_) (fun cdv A outer s H vs Q E hr h => ?_)
  · obtain ⟨x, p, q, b, e, c, l, rfl, _⟩ := h
    rfl
  · obtain ⟨x, p, q, b, e, c, l, rfl, px, hp, hq, k⟩ := h
    have lz : x.length ≤ sizeLine := Nat.le_trans px.l (by decide)
    have l6 := px.l
    refine ⟨_, (pss_cons (ps_setLc (i := 3) (own := [("_law_place", 9)]) (g := gName 9) (tt := tYes) (te := tHeld K) rfl scIsMap.nd rfl rfl (sw_true rfl rfl rfl (by decide +kernel)) (pi_range1 rfl zr (pa_cons (pe_op op_add (pe_callB call_len_str (by rfl) zl (by decide +kernel) (pa_cons (pv 0) pa_nil)) pe_int) pa_nil)) (blkOk_by (N := NIsMap) (sc := defScope sIsMap) (by decide +kernel)) (fun _ _ _ _ _ => (pg_name (i := 9) scIsMap.nd rfl (Or.inl rfl))) (fun _ _ _ _ _ => pts_nil) (fun _ _ _ _ _ => (pe_callTy call_int1 (by rfl) zi (by decide +kernel) (pa_cons (pe_and (pe_chain op_le op_le (pe_ix ix_tup (pv 1) pe_int (fun _ _ => rfl)) (pv 9) (pe_ix ix_tup (pv 1) pe_int (fun _ _ => rfl))) (pe_one (pe_chain op_le op_le (pe_ix ix_tup (pv 2) pe_int (fun _ _ => rfl)) (pv 9) (pe_ix ix_tup (pv 2) pe_int (fun _ _ => rfl))))) pa_nil))))
      (pss_cons (ps_for PassesOwn.never rfl (pi_enumS (by rfl) ze (pa_cons (pv 0) pa_nil)) (pg_tup rfl (pgs_cons (pg_name (i := 4) scIsMap.nd rfl (Or.inl rfl)) (pgs_cons (pg_name (i := 5) scIsMap.nd rfl (Or.inl rfl)) pgs_nil)))
        (Evl.pss_cut (ps_asg (pe_ifExp (pt_cmpR op_eq (pv 5) pe_str (nomark _)) (pe_tup (pa_cons (pv 4) (pa_cons (pe_op op_add (pv 4) pe_int) pa_nil))) (pe_tup (pa_cons (pe_op op_add (pv 4) pe_int) (pa_cons (pv 4) pa_nil)))) (pg_tup rfl (pgs_cons (pg_name (i := 6) scIsMap.nd rfl (Or.inl rfl)) (pgs_cons (pg_name (i := 7) scIsMap.nd rfl (Or.inl rfl)) pgs_nil))))
        (pss_cons (ps_set (i := 8) scIsMap.nd rfl (Or.inl rfl) (pe_op op_mul (pe_callTy call_int1 (by rfl) zi (by decide +kernel) (pa_cons (pe_and (pe_cmpR op_le (pe_ix ix_tup (pv 1) pe_int (fun _ _ => rfl)) (pv 4) (nomark _)) (pe_one (pe_cmpR op_le (pe_op op_add (pv 4) pe_int) (pe_ix ix_tup (pv 1) pe_int (fun _ _ => rfl)) (nomark _)))) pa_nil)) (pe_ix ix_list (pv 3) (pv 7) (fun _ _ => rfl))))
        (pss_one (ps_if (pt_cmpR op_ne (pv 8) (pe_op op_mul (pe_ix ix_list (pv 3) (pv 6) (fun _ _ => rfl)) (pe_callTy call_int1 (by rfl) zi (by decide +kernel) (pa_cons (pe_and (pe_cmpR op_le (pe_ix ix_tup (pv 2) pe_int (fun _ _ => rfl)) (pv 4) (nomark _)) (pe_one (pe_cmpR op_le (pe_op op_add (pv 4) pe_int) (pe_ix ix_tup (pv 2) pe_int (fun _ _ => rfl)) (nomark _)))) pa_nil))) (nomark _)) (pss_one (ps_ret pe_bl)) pss_nil)))))
      (pss_one (ps_ret (pe_cmpR op_in_seq pe_int (pv 3) (by rfl)))))), ?_⟩
    refine ⟨_, rfl, x, rfl, lz, _, _, rfl, rfl, _, rfl, by omega, by omega, fun D hD => ?_⟩
    have en : ((x.length : Int) + 1).toNat = x.length + 1 := by omega
    rw [en]
    refine lc_tup (n := x.length + 1) walk_range (by omega) hD (fun _ _ => trivial) (fun j => .int (b2n (heldB b e c l j))) (fun _ _ => rfl) ?_ ?_
    · rintro j y H2 hj rfl s2 _
      refine ⟨rfl, fun kk hk => ?_⟩
      have ej : (0 + (j : Int)) = ((j : Nat) : Int) := by omega
      show tHeld K [some (.str x), some (.ref p), some (.ref q), none, none, none, none, none, none, some (.int (0 + (j : Int)))] H2 kk
      rw [ej]
      have hp2 := hp.keep s2
      have hq2 := hq.keep s2
      refine and_go (fun Q q => chain_go (ix_go (j := 0) rfl hp2 rfl) (var_go rfl) (ix_go (j := 1) rfl hp2 rfl) q) (fun Q q => chain_go (ix_go (j := 0) rfl hq2 rfl) (var_go rfl) (ix_go (j := 1) rfl hq2 rfl) q) (.inr ⟨_, rfl, ?_⟩)
      exact hk _ _ (Same.refl _) (.int _)
    · intro H2 acc s2 ha al
      have ea : acc = ((List.range (x.length + 1)).map fun j => b2n (heldB b e c l j)).map V.int := anyL_ints (by rw [List.map_map]; exact al)
      refine ⟨_, rfl, x, rfl, ?_⟩
      refine for_it walk_enumS (fun i σ' H' => (∃ y4 y5 y6 y7 y8, σ' = [some (.str x), some (.ref p), some (.ref q), some (.ref D), y4, y5, y6, y7, y8, none]) ∧ Same H2 H' ∧ ∀ j, j < i → mapAt x b e c l j = true) ⟨⟨_, _, _, _, _, rfl⟩, Same.refl _, fun j h => by omega⟩ (fun _ _ _ _ _ => trivial) ?_ ?_
      · rintro i y σ' H3 H4 hi ⟨⟨y4, y5, y6, y7, y8, rfl⟩, k3, ok⟩ ⟨T1, v1, v2, rfl, hT, rfl, h1, h2⟩
        cases h1
        have hix : i < x.length := hi
        obtain ⟨ch, hc, ac⟩ := arr_at px hix
        obtain ⟨s1, _⟩ := sign_eq hc ac
        have e2 : v2 = .str ⟨#[ch]⟩ := by
          have e3 : x.cps[i]? = some ch := by simpa using hc
          have e4 : (x.cps[i]?).map (fun c => V.str ⟨#[c]⟩) = some v2 := h2
          rw [e3] at e4
          exact (Option.some.inj e4).symm
        subst e2
        have k4 := k3.trans (same_new (o := .tup [.int (i : Nat), .str ⟨#[ch]⟩]) hT)
        refine ⟨T1, _, rfl, SqT.of upd_same, rfl, _, _, rfl, _, _, rfl, rfl, ?_⟩
        generalize upd H3 T1 (.tup [.int (i : Nat), .str ⟨#[ch]⟩]) = H4 at k4 ⊢
        refine ⟨fun σ' H' => σ' = [some (.str x), some (.ref p), some (.ref q), some (.ref D), some (.int (i : Nat)), some (.str ⟨#[ch]⟩), some (.int (stA x i : Nat)), some (.int (goA x i : Nat)), y8, none] ∧ Same H2 H', ?_, ?_⟩
        · refine ⟨_, rfl, rfl, _, rfl, ?_⟩
          rw [s1]
          rcases ends_at x i with ⟨r, st, go⟩ | ⟨r, st, go⟩
          · rw [r]
            refine iteT ⟨_, rfl, _, rfl, _, _, rfl, rfl, by show 2 ≤ sizeLine; decide, fun t ht => ?_⟩
            exact ⟨t, _, rfl, SqT.of upd_same, rfl, _, _, rfl, _, _, rfl, rfl, by rw [st, go] <;> rfl, k4.trans (same_new ht)⟩
          · rw [r]
            refine iteF ⟨_, rfl, _, _, rfl, rfl, _, rfl, by show 2 ≤ sizeLine; decide, fun t ht => ?_⟩
            exact ⟨t, _, rfl, SqT.of upd_same, rfl, _, _, rfl, _, _, rfl, rfl, by rw [st, go] <;> rfl, k4.trans (same_new ht)⟩
        rintro σ' H5 ⟨rfl, k5⟩
        have hp5 := hp.keep (s2.trans k5)
        have hq5 := hq.keep (s2.trans k5)
        have eD := k5 _ _ ha
        have get : ∀ j, j ≤ x.length → acc[j]? = some (.int (b2n (heldB b e c l j))) := fun j hj => by
          rw [ea, List.getElem?_map, List.getElem?_map, List.getElem?_range (by omega)] <;> rfl
        have st6 := stA_le x i
        have go6 := goA_le x i
        refine and_go (a := decide (b ≤ i)) (b := decide (i + 1 ≤ e)) (le_go (ix_go (j := 0) rfl hp5 rfl) (var_go rfl)) (le_go (succ_go rfl) (ix_go (j := 1) rfl hp5 rfl)) (.inr ⟨_, rfl, ?_⟩)
        refine ⟨_, rfl, _, rfl, D, _, _, _, rfl, rfl, SqL.of eD, atI_nat (get _ (by omega)), _, _, rfl, rfl, .inl (b2n_rng (bothB b e i)), ?_⟩
        refine ⟨_, rfl, _, rfl, _, rfl, D, _, _, _, rfl, rfl, SqL.of eD, atI_nat (get _ (by omega)), ?_⟩
        refine and_go (a := decide (c ≤ i)) (b := decide (i + 1 ≤ l)) (le_go (ix_go (j := 0) rfl hq5 rfl) (var_go rfl)) (le_go (succ_go rfl) (ix_go (j := 1) rfl hq5 rfl)) (.inr ⟨_, rfl, _, _, rfl, rfl, .inl (b2n_rng _), rfl, _, rfl, ?_⟩)
        have ev : (!decide (V.int (b2n (bothB b e i) * b2n (heldB b e c l (goA x i))) = V.int (b2n (heldB b e c l (stA x i)) * b2n (bothB c l i)))) = !mapAt x b e c l i := by
          rw [b2n_mul, b2n_mul, b2n_ne] <;> rfl
        show (if (!decide (V.int (b2n (bothB b e i) * b2n (heldB b e c l (goA x i))) = V.int (b2n (heldB b e c l (stA x i)) * b2n (bothB c l i)))) = true then _ else _)
        rw [ev]
        cases em : mapAt x b e c l i with
        | true =>
          refine iteF ⟨⟨_, _, _, _, _, rfl⟩, k5, fun j hj => ?_⟩
          by_cases e5 : j < i
          · exact ok j e5
          · rw [show j = i by omega]
            exact em
        | false =>
          refine iteT ?_
          rw [← isMap_not hix em]
          exact k _ (s2.trans k5)
      · rintro σ' H3 ⟨⟨y4, y5, y6, y7, y8, rfl⟩, k3, ok⟩
        refine ⟨_, rfl, D, acc, rfl, .inl (SqL.of (k3 _ _ ha)), rfl, ?_, ?_⟩
        · rw [ea]
          exact flat_ints _
        · show Q (.bl (inV (.int 1) acc)) H3
          rw [ea, inV_ints, b2n_any, ← isMap_all ok]
          exact k _ (s2.trans k3)
abbrev tTold (t : TE) : TS := tRet (tLst (tCons (tC (.str "told")) (tCons t tNil)))
theorem okCaught {CR CT CB : Addr} {f : Addr} {fd : FuncData} (F : Fun K "_law_caught" "_law_caught" sCaught f fd) (eT : Err K mg "InvalidPattern" CT) (eB : Err K mg "InvalidBar" CB) (TC : TxC K mg CR CT CB) (GI : Own P w K mg base (L2.CX P w) 5 "leads_into" ["pattern", "bar", "other"] [] (spInto CT CB)) : FnOk P w K mg base CX0 6 f fd ["_law_arrows_here", "_law_bar", "_law_other"] spIntoC := by
  refine F.ok scCaught (fun vs H Q E h => ?_) (fun cdv A outer s H vs Q E hr h => ?_)
  · obtain ⟨v, u, z, dv, du, dz, rfl, _⟩ := h
    rfl
  · obtain ⟨v, u, z, dv, du, dz, rfl, av, au, az, sv, q⟩ := h
    refine ⟨_, (pss_one (ps_tries (tb := fun W => tTold (tOwnS (spInto CT CB) [] W (tCons (tVar 0) (tCons (tVar 1) (tCons (tVar 2) tNil))))) rfl rfl scCaught.nd takes0
      (fun W pn xe tk pw => (pss_one (ps_ret (pe_lst (pa_cons pe_str (pa_cons (pe_ownS (W := W) GI hr (fun σ => passAt tk σ) (pa_cons (pv 0) (pa_cons (pv 1) (pa_cons (pv 2) pa_nil)))) pa_nil))))))
      (.as (i := 3) rfl rfl ⟨rfl, by decide, .inl eT.g⟩ (fun a oe cls d pn hz hf => pss_one (ps_ret (pe_lst (pa_cons pe_str (pa_cons (pe_xf eT.xf eT.no hz hf (pv 3)) pa_nil)))))
      (.as (i := 3) rfl rfl ⟨rfl, by decide, .inl eB.g⟩ (fun a oe cls d pn hz hf => pss_one (ps_ret (pe_lst (pa_cons pe_str (pa_cons (pe_xf eB.xf eB.no hz hf (pv 3)) pa_nil)))))
      (.anon ⟨rfl, by decide, .inl TC.gR⟩ (fun a oe cls d pn hz hf => pss_one (ps_ret (pe_lst (pa_cons pe_str pa_nil)))) .nil))))), ?_⟩
    refine ⟨_, rfl, _, rfl, _, rfl, v, u, z, dv, du, dz, rfl, av, au, az, sv, ?_, ?_, ?_, ?_⟩
    · intro e0 dd H1 sm hd hx
      refine ⟨true, TC.tt, fun _ a ha => ?_, fun z => (nomatch z)⟩
      refine ⟨_, rfl, rfl, rfl, dd, _, v, rfl, hx, rfl, (by show 2 ≤ sizeLine; decide), fun l hl => q l _ (sm.trans (same_new hl)) ?_⟩
      rw [show intoDue dv du dz = wD "pattern" dv by unfold intoDue; rw [e0] <;> rfl]
      exact pair_any hl (av.keep sm)
    · intro x ex e0 e1 dd H1 sm hd hx
      subst ex
      refine ⟨false, TC.bt, fun z => (nomatch z), fun _ => ⟨true, TC.bb, fun _ a ha => ?_, fun z => (nomatch z)⟩⟩
      refine ⟨_, rfl, rfl, rfl, dd, _, u, rfl, hx, rfl, (by show 2 ≤ sizeLine; decide), fun l hl => q l _ (sm.trans (same_new hl)) ?_⟩
      rw [show intoDue (.str x) du dz = wD "bar" du by unfold intoDue; rw [e0, show isBarD (strD (.str x)).length du = false from e1] <;> rfl]
      exact pair_any hl (au.keep sm)
    · intro x ex e0 e1 e2 dd H1 sm hd hx
      subst ex
      refine ⟨false, TC.bt, fun z => (nomatch z), fun _ => ⟨true, TC.bb, fun _ a ha => ?_, fun z => (nomatch z)⟩⟩
      refine ⟨_, rfl, rfl, rfl, dd, _, z, rfl, hx, rfl, (by show 2 ≤ sizeLine; decide), fun l hl => q l _ (sm.trans (same_new hl)) ?_⟩
      rw [show intoDue (.str x) du dz = wD "bar" dz by unfold intoDue; rw [e0, show isBarD (strD (.str x)).length du = true from e1, show isBarD (strD (.str x)).length dz = false from e2] <;> rfl]
      exact pair_any hl (az.keep sm)
    · intro x b e c l ex px eu ez b1 b2 c1 c2 H1 k1
      subst ex eu ez
      refine ⟨by show 2 ≤ sizeLine; decide, fun l2 hl => q l2 _ (k1.trans (same_new hl)) ?_⟩
      have ep : isPatD (.str x) = true := by
        show (decide (x.length ≤ 6) && x.cps.toList.all isArr) = true
        rw [decide_eq_true px.l, px.a] <;> rfl
      rw [show intoDue (.str x) (barD (b, e)) (barD (c, l)) = .list [.str "told", .bool (leadsB x b e c l)] by unfold intoDue; rw [ep, show isBarD (strD (.str x)).length (barD (b, e)) = true from bar_is b1 b2, show isBarD (strD (.str x)).length (barD (c, l)) = true from bar_is c1 c2] <;> rfl]
      exact .lst upd_same (.cons (.str _) (.cons (.bl _) .nil))
end
end K46

set_option Elab.async false
set_option linter.all false
set_option maxRecDepth 100000
set_option maxHeartbeats 4000000
/-! TkEG: a text times a number; odd bars and patterns, as data. -/
namespace Rw
open PySem PySem.Spec PyProof.Rows L2
theorem op_mulS {X : Cx} : OpR X (binaryOp .Mult) (fun x y H Q => ∃ (z : Str) (n : Int), x = .str z ∧ y = .int n ∧ PySem.MulOk z n ∧ Q (.str (Txt.mul z n)) H) := by
  intro pins s σ H x y v u Q I rx ry h
  obtain ⟨z, n, rfl, rfl, hz, q⟩ := h
  obtain ⟨t, rfl⟩ := rx
  obtain ⟨t', rfl⟩ := ry
  exact PySem.SB.mul hz fun t' k => ⟨.str (Txt.mul z n), H, I.tok k, ⟨_, rfl⟩, q⟩
theorem mul7 : PySem.MulOk ">" 7 := ⟨by decide, fun _ _ => by decide +kernel, fun _ _ => by decide +kernel⟩
theorem cat_list (x y : Str) : (x ++ y).cps.toList = x.cps.toList ++ y.cps.toList := by
  show (x.cps ++ y.cps).toList = _
  rw [Array.toList_append]
/-- what is no pattern -/
def oddPats (x : Str) : List PyData := [.none, .int 3, .bool true, .list [.str ">"], .dict [], .str (x ++ "x"), .str (Txt.mul ">" 7)]
theorem oddPats_ok {x : Str} (px : Pat x 6) : ∀ d ∈ oddPats x, isPatD d = false ∧ Tq 1 d ∧ Short d := by
  intro d hd
  simp only [oddPats, List.mem_cons, List.not_mem_nil, or_false] at hd
  rcases hd with z | z | z | z | z | z | z <;> subst z
  · exact ⟨rfl, ⟨by decide, by decide, by decide +kernel⟩, fun _ e => nomatch e⟩
  · exact ⟨rfl, (tq_int (by decide)).up (by decide), fun _ e => nomatch e⟩
  · exact ⟨rfl, ⟨by decide, by decide, by decide +kernel⟩, fun _ e => nomatch e⟩
  · exact ⟨rfl, ⟨by decide, by decide, by decide +kernel⟩, fun _ e => nomatch e⟩
  · exact ⟨rfl, ⟨by decide, by decide, by decide +kernel⟩, fun _ e => nomatch e⟩
  · have e1 := cat_list x "x"
    have e2 : (("x" : String) : Str).cps.toList = [120] := rfl
    have ln : (x ++ ("x" : String)).length = x.length + 1 := by
      rw [← len_toList, e1, List.length_append, len_toList] <;> rfl
    refine ⟨?_, (tq_str (by rw [ln]; have := px.l; omega) fun z hz => ?_).up (by decide), fun y e => ?_⟩
    · show (decide ((x ++ ("x" : String)).length ≤ 6) && (x ++ ("x" : String)).cps.toList.all isArr) = false
      rw [e1, List.all_append, e2, Bool.and_comm]
      rw [show [120].all isArr = false by decide, Bool.and_false, Bool.false_and]
    · rw [e1, e2] at hz
      rcases List.mem_append.mp hz with y | y
      · exact arr_small px.a z y
      · rw [List.mem_singleton.mp y]; decide
    · cases e
      rw [ln]
      have := px.l
      omega
  · exact ⟨by decide +kernel, (tq_str (by decide +kernel) (by decide +kernel)).up (by decide), fun y e => by cases e; decide +kernel⟩
/-- what is no bar of a pattern of n arrows -/
def oddBars (n : Nat) : List PyData := [.none, .int 3, .str "01", .list [.int 0, .int 0], .tuple [.int 0], .tuple [.int 0, .int 0, .int 0], .tuple [.int 0, .int ((n : Int) + 1)], .tuple [.int (-1), .int 0], .tuple [.int 1, .int 0], .tuple [.bool false, .int 0], .tuple [.int 0, .str "0"], .tuple []]
theorem oddBars_ok {n : Nat} (h : n ≤ 6) : ∀ d ∈ oddBars n, isBarD n d = false ∧ Tq 1 d := by
  have c : ∀ n ∈ List.range 7, ∀ d ∈ oddBars n, isBarD n d = false ∧ (d.showable = true ∧ d.depth ≤ 3 + 1 ∧ d.shown.length ≤ 80 * 13 ^ 1) := by decide +kernel
  intro d hd
  obtain ⟨a, b1, b2, b3⟩ := c n (List.mem_range.mpr (by omega)) d hd
  exact ⟨a, b1, b2, b3⟩
end Rw

set_option Elab.async false
set_option linter.all false
set_option maxRecDepth 100000
set_option maxHeartbeats 8000000
/-! K46C: all bars both ways; the law. -/
namespace Rw
open PySem PySem.Spec PyProof.Rows L2
theorem _root_.L2.Same.grow {p : Addr} {H H1 H2 : Hp} (s : Same H H1) (hp : H p = none) (g : Grow p H1 H2) : Same H H2 := fun b o e => g b o (ne_of_none e hp) (s b o e)
theorem str_same (a : Str) : decide (V.str a = V.str a) = true := decide_eq_true rfl
theorem tq_ok {n : Nat} {d : PyData} (h : Tq n d) (l : n ≤ 4) : d.showable = true ∧ d.depth ≤ 60 ∧ d.shown.length ≤ sizeLine := by
  have h6 := h.up l
  exact ⟨h.sh, by have := h6.dp; omega, Nat.le_trans h6.ln (by decide +kernel)⟩
theorem passN {X : Cx} : Passes (L2.CX X.prog X.w) X E0 := fun _ _ _ _ _ _ _ h => by
  obtain ⟨_, _, _, _, _, _, _, _, _, _, _, _, z⟩ := h
  exact z.elim
theorem tq_bool (b : Bool) : Tq 0 (.bool b) := by cases b <;> exact ⟨by decide, by decide, by decide +kernel⟩
end Rw
namespace K46
open PySem PySem.Spec PyProof.Rows L2 Rw
abbrev sRight : Stmt := top 25
abbrev NRight : List Str := ["_law_arrows_here", "_law_last", "_law_dual", "_law_bar", "_law_other", "_law_due", "_law_mirror", "_law_found", "_law_pair"]
theorem scRight : FnScope NRight ["_law_arrows_here"] (defScope sRight) := ⟨rfl, rfl, rfl, by decide +kernel, rfl, by decide +kernel, by decide +kernel⟩
abbrev tPairM (K : PySem.W.Frag) : TE := tTup (tCons (tOp (rI0 fun i j => .int (i - j)) (tVar 1) (tOp (rIxT K) (tVar 8) (tC (.int 1)))) (tCons (tOp (rI0 fun i j => .int (i - j)) (tVar 1) (tOp (rIxT K) (tVar 8) (tC (.int 0)))) tNil))
section
variable {P : Program} {w : World} {K : PySem.W.Frag} {mg : Str → Option Value} {base : Heap} {CT CB : Addr}
theorem okRight {f : Addr} {fd : FuncData} (F : Fun K "_law_right" "_law_right" sRight f fd) (zl : mg "len" = none) (zr : mg "repr" = none) (GB : Own P w K mg base CX0 1 "_law_bars" ["_law_arrows_here"] [] spBarsN) (GM : Own P w K mg base CX0 1 "_law_is_map" ["_law_arrows_here", "_law_bar", "_law_other"] [] spIsMap)
    (GI : Own P w K mg base (L2.CX P w) 5 "leads_into" ["pattern", "bar", "other"] [] (spInto CT CB)) : FnG P w K mg base CX0 6 f fd ["_law_arrows_here"] spRightM := by
  refine funG F scRight (fun vs H Q E h => ?_) (fun cdv A outer s H vs Q E gu hr h => ?_)
  · obtain ⟨x, rfl, _⟩ := h
    rfl
  · obtain ⟨x, rfl, px, q⟩ := h
    have lz : x.length ≤ sizeLine := Nat.le_trans px.l (by decide)
    have l6 := px.l
    refine ⟨_, (pss_setK (i := 1) scRight.nd rfl (Or.inr rfl) (pek_len rfl zl (pa_cons (pv 0) pa_nil))
      (psst_cons (pst_set (i := 2) scRight.nd rfl (Or.inl rfl) (pet_repl (pet_repl (pet_repl (pet_of (pv 0))))))
      (PSsT.of (pss_cons (ps_for PassesOwn.never rfl (pi_list (pe_own GB (hr.mono (by decide)) pass0 (pa_cons (pv 0) pa_nil))) (pg_name (i := 3) scRight.nd rfl (Or.inl rfl)) (pss_one (ps_for PassesOwn.never rfl (pi_list (pe_own GB (hr.mono (by decide)) pass0 (pa_cons (pv 0) pa_nil))) (pg_name (i := 4) scRight.nd rfl (Or.inl rfl))
        (pss_cons (ps_set (i := 5) scRight.nd rfl (Or.inl rfl) (pe_own GM (hr.mono (by decide)) pass0 (pa_cons (pv 0) (pa_cons (pv 3) (pa_cons (pv 4) pa_nil)))))
        (pss_cons (ps_setLc (i := 6) (own := [("_law_pair", 8)]) (g := gName 8) (tt := tYes) (te := tPairM K) rfl scRight.nd rfl rfl (sw_true rfl rfl rfl (by decide +kernel)) (pi_seq (pe_tup (pa_cons (pv 3) (pa_cons (pv 4) pa_nil)))) (blkOk_by (N := NRight) (sc := defScope sRight) (by decide +kernel)) (fun _ _ _ _ _ => (pg_name (i := 8) scRight.nd rfl (Or.inl rfl))) (fun _ _ _ _ _ => pts_nil) (fun _ _ _ _ _ => (pe_tup (pa_cons (pe_op op_sub (pv 1) (pe_ix ix_tup (pv 8) pe_int (fun _ _ => rfl))) (pa_cons (pe_op op_sub (pv 1) (pe_ix ix_tup (pv 8) pe_int (fun _ _ => rfl))) pa_nil)))))
        (pss_cons (ps_set (i := 7) scRight.nd rfl (Or.inl rfl) (pe_lst (pa_cons (pe_own GI (hr.mono (by decide)) passN (pa_cons (pv 0) (pa_cons (pv 3) (pa_cons (pv 4) pa_nil)))) (pa_cons (pe_own GI (hr.mono (by decide)) passN (pa_cons (pv 2) (pa_cons (pv 4) (pa_cons (pv 3) pa_nil)))) pa_nil))))
        (pss_cons (ps_expr (pe_bm PySem.F.plainAttrs_list PySem.F.slot_list_append PySem.F.type_list_append mt_append (pv 7) (pa_cons (pe_own GI (hr.mono (by decide)) passN (pa_cons (pe_revS (pv 2)) (pa_cons (pe_ix ix_list (pv 6) pe_int (fun _ _ => rfl)) (pa_cons (pe_ix ix_list (pv 6) pe_int (fun _ _ => rfl)) pa_nil)))) pa_nil)))
        (pss_one (ps_if (pt_cmpR op_ne (pe_callB (call_repr gu hr.units) (by rfl) zr (by decide +kernel) (pa_cons (pv 7) pa_nil)) (pe_callB (call_repr gu hr.units) (by rfl) zr (by decide +kernel) (pa_cons (pe_op op_rep (pe_lst (pa_cons (pv 5) pa_nil)) pe_int) pa_nil)) (nomark _)) (pss_one (ps_ret pe_bl)) pss_nil)))))))))
      (pss_one (ps_ret pe_bl)))))), ?_⟩
    obtain ⟨fl, py⟩ := flip_repl px
    obtain ⟨bk, pz⟩ := back_rev py
    refine ⟨_, rfl, x, rfl, lz, ?_⟩
    refine ⟨_, rfl, x, rfl, by show x.length + (x.length + 1) * 1 ≤ _; omega, ?_⟩
    have n1 := TK.replace_len x ">" "x"
    have z1 : (("x" : String) : Str).length = 1 := rfl
    have z2 : ((">" : String) : Str).length = 1 := rfl
    have z3 : (("<" : String) : Str).length = 1 := rfl
    rw [z1] at n1
    have n2 := TK.replace_len (Txt.replace x ">" "x") "<" ">"
    rw [z2] at n2
    refine ⟨_, rfl, by rw [z2]; omega, ?_⟩
    refine ⟨_, rfl, by rw [z3]; omega, ?_⟩
    have ly : (Txt.replace (Txt.replace (Txt.replace x ">" "x") "<" ">") "x" "<").length = x.length := fl.len
    generalize Txt.replace (Txt.replace (Txt.replace x ">" "x") "<" ">") "x" "<" = y at fl py bk pz ly ⊢
    -- the bars
    refine ⟨_, rfl, x, rfl, px.l, fun l1 acc1 H1 hl1 k1 el1 al1 => ?_⟩
    refine ⟨l1, rfl, ⟨_, SqL.of el1⟩, ?_⟩
    refine for_list (K := K) (a := l1) (xs := acc1) (fun i σ' H' => (∃ y3 y4 y5 y6 y7, σ' = [some (.str x), some (.int (x.length : Nat)), some (.str y), y3, y4, y5, y6, y7, none]) ∧ Same H1 H') ⟨⟨_, _, _, _, _, rfl⟩, Same.refl _⟩ (fun i σ' H' _ h => SqL.of (h.2 _ _ el1)) ?_ ?_
    · rintro i v σ' H2 hi ⟨⟨y3, y4, y5, y6, y7, rfl⟩, k2⟩
      obtain ⟨d, hd, av⟩ := anyL_at al1 hi
      rw [List.getElem?_map] at hd
      obtain ⟨⟨b, e⟩, hq1, rfl⟩ : ∃ q, (barsL (x.length + 1))[i]? = some q ∧ d = barD q := by
        cases e1 : (barsL (x.length + 1))[i]? with
        | none => rw [e1] at hd; cases hd
        | some r => rw [e1] at hd; exact ⟨r, rfl, (Option.some.inj hd).symm⟩
      obtain ⟨be, ex⟩ := mem_bars (List.mem_of_getElem? hq1)
      obtain ⟨p, rfl, hp⟩ := bar_at av
      have be : b ≤ e := be
      have ex : e ≤ x.length := ex
      refine ⟨_, rfl, x, rfl, px.l, fun l2 acc2 H3 hl2 k3 el2 al2 => ?_⟩
      refine ⟨l2, rfl, ⟨_, SqL.of el2⟩, ?_⟩
      refine for_list (K := K) (a := l2) (xs := acc2) (fun i σ' H' => (∃ y4 y5 y6 y7, σ' = [some (.str x), some (.int (x.length : Nat)), some (.str y), some (.ref p), y4, y5, y6, y7, none]) ∧ Same H3 H') ⟨⟨_, _, _, _, rfl⟩, Same.refl _⟩ (fun i σ' H' _ h => SqL.of (h.2 _ _ el2)) ?_ ?_
      · rintro j v2 σ' H4 hj ⟨⟨y4, y5, y6, y7, rfl⟩, k4⟩
        obtain ⟨d2, hd2, av2⟩ := anyL_at al2 hj
        rw [List.getElem?_map] at hd2
        obtain ⟨⟨c, l⟩, hq2, rfl⟩ : ∃ q, (barsL (x.length + 1))[j]? = some q ∧ d2 = barD q := by
          cases e1 : (barsL (x.length + 1))[j]? with
          | none => rw [e1] at hd2; cases hd2
          | some r => rw [e1] at hd2; exact ⟨r, rfl, (Option.some.inj hd2).symm⟩
        obtain ⟨cl, lx⟩ := mem_bars (List.mem_of_getElem? hq2)
        obtain ⟨r, rfl, hr2⟩ := bar_at av2
        have cl : c ≤ l := cl
        have lx : l ≤ x.length := lx
        have hp4 := hp.keep ((k2.trans k3).trans k4)
        have hr4 := hr2.keep k4
        refine ⟨_, rfl, _, rfl, _, rfl, x, p, r, b, e, c, l, rfl, px, hp4, hr4, fun H5 k5 => ?_⟩
        rw [isMap_leads be ex cl lx]
        have hp5 := hp4.keep k5
        have hr5 := hr4.keep k5
        have k35 := k4.trans k5
        -- the mirror
        refine ⟨_, rfl, _, rfl, by show 2 ≤ sizeLine; decide, fun t ht => ?_⟩
        have k6 := same_new (o := .tup [.ref p, .ref r]) ht
        have et : (upd H5 t (.tup [.ref p, .ref r])) t = some (.tup [.ref p, .ref r]) := upd_same
        have hp6 := hp5.keep k6
        have hr6 := hr5.keep k6
        have k36 := k35.trans k6
        generalize upd H5 t (.tup [.ref p, .ref r]) = H6 at k6 et hp6 hr6 k36 ⊢
        refine ⟨t, false, _, rfl, SqT.of et, fun D hD => ?_⟩
        refine lc_tup walk_seq (by show 2 ≤ 1000; decide) hD (fun H' s' => SqT.of (s' _ _ et)) (fun i => if i = 0 then barD (x.length - e, x.length - b) else barD (x.length - l, x.length - c)) (fun i _ => by by_cases h : i = 0 <;> simp only [h, if_true, if_false] <;> rfl) ?_ ?_
        · intro m u H7 hm hu s7 _
          refine ⟨rfl, fun kk hk => ?_⟩
          have hm2 : m = 0 ∨ m = 1 := by have : m < 2 := hm; omega
          rcases hm2 with z | z
          · subst z
            cases hu
            have hp7 := hp6.keep s7
            refine sub_go ex (var_go rfl) (ix_go (j := 1) rfl hp7 rfl) _ (sub_go (Nat.le_trans be ex) (var_go rfl) (ix_go (j := 0) rfl hp7 rfl) _ ⟨by show 2 ≤ sizeLine; decide, fun t2 ht2 => hk _ _ (same_new ht2) ?_⟩)
            exact .tup upd_same (.cons (.int _) (.cons (.int _) .nil))
          · subst z
            cases hu
            have hp7 := hr6.keep s7
            refine sub_go lx (var_go rfl) (ix_go (j := 1) rfl hp7 rfl) _ (sub_go (Nat.le_trans cl lx) (var_go rfl) (ix_go (j := 0) rfl hp7 rfl) _ ⟨by show 2 ≤ sizeLine; decide, fun t2 ht2 => hk _ _ (same_new ht2) ?_⟩)
            exact .tup upd_same (.cons (.int _) (.cons (.int _) .nil))
        · intro H7 acc s7 ha7 al7
          have al7' : AnyL H7 acc [barD (x.length - e, x.length - b), barD (x.length - l, x.length - c)] := anyL_keep same_del al7
          obtain ⟨m0, m1, rfl⟩ : ∃ m0 m1, acc = [m0, m1] := by
            have := anyL_len al7'
            match acc, this with
            | [m0, m1], _ => exact ⟨m0, m1, rfl⟩
          obtain ⟨p0, rfl, hm0, p1, rfl, hm1⟩ : ∃ p0, m0 = .ref p0 ∧ PairAt H7 p0 (x.length - e) (x.length - b) ∧ ∃ p1, m1 = .ref p1 ∧ PairAt H7 p1 (x.length - l) (x.length - c) := by
            cases al7' with
            | cons a1 r1 =>
              cases r1 with
              | cons a2 r2 =>
                obtain ⟨p0, e0, h0⟩ := bar_at a1
                obtain ⟨p1, e1, h1⟩ := bar_at a2
                exact ⟨p0, e0, h0, p1, e1, h1⟩
          have hp7 := hp6.keep s7
          have hr7 := hr6.keep s7
          have k37 := k36.trans s7
          -- three answers
          refine ⟨_, rfl, _, rfl, _, rfl, ?_⟩
          unfold tNil
          show spInto CT CB ([.str x, .ref p, .ref r] ++ []) H7 _ E0
          refine into_go px hp7 hr7 be ex cl lx fun H8 k8 => ?_
          refine ⟨_, rfl, _, rfl, _, rfl, ?_⟩
          show spInto CT CB ([.str y, .ref r, .ref p] ++ []) H8 _ E0
          refine into_go py (hr7.keep k8) (hp7.keep k8) cl (by rw [ly]; exact lx) be (by rw [ly]; exact ex) fun H9 k9 => ?_
          rw [leads_flip fl be ex cl lx]
          refine ⟨by show 2 ≤ sizeLine; decide, fun Fd hF => ?_⟩
          have k89 := k8.trans k9
          have hk9 : H3 Fd = none := (k37.trans k89).free hF
          have k10 := same_new (o := .lst [.bl (leadsB x b e c l), .bl (leadsB x b e c l)]) hF
          have eF : (upd H9 Fd (.lst [.bl (leadsB x b e c l), .bl (leadsB x b e c l)])) Fd = some (.lst [.bl (leadsB x b e c l), .bl (leadsB x b e c l)]) := upd_same
          have k310 := (k37.trans k89).trans k10
          have k710 := k89.trans k10
          generalize upd H9 Fd (.lst [.bl (leadsB x b e c l), .bl (leadsB x b e c l)]) = H10 at k10 eF k310 k710 ⊢
          refine ⟨_, rfl, .inl ⟨rfl, _, SqL.of eF⟩, ?_⟩
          refine ⟨_, rfl, y, rfl, by rw [ly]; exact lz, ?_⟩
          have eM := k710 _ _ ha7
          refine ⟨_, rfl, D, _, _, _, rfl, rfl, SqL.of eM, atI_nat (j := 0) rfl, ?_⟩
          refine ⟨_, rfl, D, _, _, _, rfl, rfl, SqL.of eM, atI_nat (j := 1) rfl, ?_⟩
          have lzz : (revS y).length = x.length := by rw [rev_len, ly]
          show spInto CT CB ([.str (revS y), .ref p0, .ref p1] ++ []) H10 _ E0
          refine into_go pz (hm0.keep k710) (hm1.keep k710) (by omega) (by rw [lzz]; omega) (by omega) (by rw [lzz]; omega) fun H11 k11 => ?_
          rw [leads_mirror fl bk be ex cl lx]
          have e11 := k11 _ _ eF
          refine ⟨Fd, _, _, rfl, rfl, e11, by show 2 < sizeLine; decide, ?_⟩
          have k311 : Same H3 (upd H11 Fd (.lst ([.bl (leadsB x b e c l), .bl (leadsB x b e c l)] ++ [.bl (leadsB x b e c l)]))) := fun bb o eo => by
            rw [upd_ne (ne_of_none eo hk9)]
            exact k11 _ _ (k310 _ _ eo)
          have eF2 : (upd H11 Fd (.lst ([.bl (leadsB x b e c l), .bl (leadsB x b e c l)] ++ [.bl (leadsB x b e c l)]))) Fd = some (.lst [.bl (leadsB x b e c l), .bl (leadsB x b e c l), .bl (leadsB x b e c l)]) := upd_same
          generalize upd H11 Fd (.lst ([.bl (leadsB x b e c l), .bl (leadsB x b e c l)] ++ [.bl (leadsB x b e c l)])) = H12 at k311 eF2 ⊢
          generalize leadsB x b e c l = L at eF2 ⊢
          have a3 : ∀ {Hx : Hp} {ax : Addr}, Hx ax = some (.lst [.bl L, .bl L, .bl L]) → Any Hx (.ref ax) (.list [.bool L, .bool L, .bool L]) := fun h => .lst h (.cons (.bl _) (.cons (.bl _) (.cons (.bl _) .nil)))
          have tq : Tq 1 (.list [.bool L, .bool L, .bool L]) := tq_list (by show 3 ≤ 12; decide) (by
            intro e he
            simp only [List.mem_cons, List.not_mem_nil, or_false] at he
            rcases he with z | z | z <;> subst z <;> exact tq_bool L)
          obtain ⟨u1, u2, u3⟩ := tq_ok tq (by decide)
          refine ⟨_, rfl, Fd, _, rfl, a3 eF2, u1, u2, u3, _, rfl, by show 1 ≤ sizeLine; decide, fun q1 h1 => ?_⟩
          refine ⟨q1, _, [.bl L], rfl, rfl, upd_same, by decide, by decide, by show 1 * 3 ≤ sizeLine; decide, fun q2 h2 => ?_⟩
          refine ⟨q2, _, rfl, a3 upd_same, u1, u2, u3, rfl, _, rfl, ?_⟩
          rw [str_same]
          exact iteF ⟨⟨_, _, _, _, rfl⟩, (k311.trans (same_new h1)).trans (same_new h2)⟩
      · rintro σ' H4 ⟨⟨y4, y5, y6, y7, rfl⟩, k4⟩
        exact ⟨⟨_, _, _, _, _, rfl⟩, (k2.trans k3).trans k4⟩
    · rintro σ' H2 ⟨⟨y3, y4, y5, y6, y7, rfl⟩, k2⟩
      exact q _ (k1.trans k2)
end
abbrev sLaw : Stmt := top 26
abbrev NLaw : List Str := ["_law_script", "_law_k", "_law_box_here", "_law_arrows_here", "_law_odd", "_law_many", "_law_found"]
theorem scLaw : FnScope NLaw ["_law_script"] (defScope sLaw) := ⟨rfl, rfl, rfl, by decide +kernel, rfl, by decide +kernel, by decide +kernel⟩
def spLaw (K : PySem.W.Frag) : Sp := fun vs H Q _ => ∃ (a : Addr) (ns : List Int), vs = [.ref a] ∧ SqL K H a (ns.map V.int) ∧ ns.length ≤ 63 ∧ ∀ H', Q (.bl true) H'
structure Olaw (P : Program) (w : World) (K : PySem.W.Frag) (mg : Str → Option Value) (base : Heap) : Prop where
  cell : Own P w K mg base CX0 1 "_law_cell" ["_law_script", "_law_k"] [] (spCellR K)
  box : Own P w K mg base CX0 1 "_law_box" ["_law_cell_here"] [] spBoxR
  pat : Own P w K mg base CX0 2 "_law_arrows" ["_law_box_here", "_law_most"] [] spPatR
  right : OwnG P w K mg base CX0 6 "_law_right" ["_law_arrows_here"] [] spRightM
  caught : Own P w K mg base CX0 6 "_law_caught" ["_law_arrows_here", "_law_bar", "_law_other"] [] spIntoC
structure Zs (mg : Str → Option Value) : Prop where
  range : mg "range" = none
  repr : mg "repr" = none
  max : mg "max" = none
  min : mg "min" = none
  len : mg "len" = none
section
variable {P : Program} {w : World} {K : PySem.W.Frag} {mg : Str → Option Value} {base : Heap}
theorem okLaw {f : Addr} {fd : FuncData} (F : Fun K "law" "law" sLaw f fd) (Z : Zs mg) (O : Olaw P w K mg base) : FnG P w K mg base CX0 8 f fd ["_law_script"] (spLaw K) := by
  refine funG F scLaw (fun vs H Q E h => ?_) (fun cdv A outer s H vs Q E gu hr h => ?_)
  · obtain ⟨a, ns, rfl, _⟩ := h
    rfl
  · obtain ⟨a, ns, rfl, hs, hlen, q⟩ := h
    refine ⟨_, (pss_cons (ps_for PassesOwn.never rfl (pi_range1 rfl Z.range (pa_cons (pe_callB (call_max2 rfl) (by rfl) Z.max (by decide +kernel) (pa_cons pe_int (pa_cons (pe_callB (call_min2 rfl) (by rfl) Z.min (by decide +kernel) (pa_cons pe_int (pa_cons (pe_callB call_len_seq (by rfl) Z.len PySem.boot_len (pa_cons (pv 0) pa_nil)) pa_nil))) pa_nil))) pa_nil)) (pg_name (i := 1) scLaw.nd rfl (Or.inl rfl))
      (pss_cons (ps_set (i := 2) scLaw.nd rfl (Or.inl rfl) (pe_own O.box (hr.mono (by decide)) pass0 (pa_cons (pe_own O.cell (hr.mono (by decide)) pass0 (pa_cons (pv 0) (pa_cons (pv 1) pa_nil))) pa_nil)))
      (pss_cons (ps_set (i := 3) scLaw.nd rfl (Or.inl rfl) (pe_own O.pat (hr.mono (by decide)) pass0 (pa_cons (pv 2) (pa_cons pe_int pa_nil))))
      (pss_cons (ps_if (pt_not (pt_val (pe_ownG O.right gu (hr.mono (by decide)) pass0 (pa_cons (pv 3) pa_nil)))) (pss_one (ps_ret pe_bl)) pss_nil)
      (pss_cons (ps_for PassesOwn.never rfl (pi_list (pe_lst (pa_cons pe_non (pa_cons pe_int (pa_cons pe_bl (pa_cons (pe_lst (pa_cons pe_str pa_nil)) (pa_cons pe_dnewK (pa_cons (pe_op op_add_str (pv 3) pe_str) (pa_cons (pe_op op_mulS pe_str pe_int) pa_nil))))))))) (pg_name (i := 4) scLaw.nd rfl (Or.inl rfl)) (pss_one (ps_if (pt_cmpR op_ne (pe_callB (call_repr gu hr.units) (by rfl) Z.repr (by decide +kernel) (pa_cons (pe_own O.caught (hr.mono (by decide)) pass0 (pa_cons (pv 4) (pa_cons (pv 4) (pa_cons (pv 4) pa_nil)))) pa_nil)) (pe_callB (call_repr gu hr.units) (by rfl) Z.repr (by decide +kernel) (pa_cons (pe_lst (pa_cons pe_str (pa_cons (pv 4) pa_nil))) pa_nil)) (nomark _)) (pss_one (ps_ret pe_bl)) pss_nil)))
      (pss_cons (ps_set (i := 5) scLaw.nd rfl (Or.inl rfl) (pe_callB call_len_str (by rfl) Z.len PySem.boot_len (pa_cons (pv 3) pa_nil)))
      (pss_one (ps_for PassesOwn.never rfl (pi_list (pe_lst (pa_cons pe_non (pa_cons pe_int (pa_cons pe_str (pa_cons (pe_lst (pa_cons pe_int (pa_cons pe_int pa_nil))) (pa_cons (pe_tup (pa_cons pe_int pa_nil)) (pa_cons (pe_tup (pa_cons pe_int (pa_cons pe_int (pa_cons pe_int pa_nil)))) (pa_cons (pe_tup (pa_cons pe_int (pa_cons (pe_op op_add (pv 5) pe_int) pa_nil))) (pa_cons (pe_tup (pa_cons (pe_un un_neg pe_int) (pa_cons pe_int pa_nil))) (pa_cons (pe_tup (pa_cons pe_int (pa_cons pe_int pa_nil))) (pa_cons (pe_tup (pa_cons pe_bl (pa_cons pe_int pa_nil))) (pa_cons (pe_tup (pa_cons pe_int (pa_cons pe_str pa_nil))) (pa_cons (pe_tup pa_nil) pa_nil)))))))))))))) (pg_name (i := 4) scLaw.nd rfl (Or.inl rfl))
        (pss_cons (ps_set (i := 6) scLaw.nd rfl (Or.inl rfl) (pe_lst (pa_cons (pe_own O.caught (hr.mono (by decide)) pass0 (pa_cons (pv 3) (pa_cons (pv 4) (pa_cons pe_non pa_nil)))) (pa_cons (pe_own O.caught (hr.mono (by decide)) pass0 (pa_cons (pv 3) (pa_cons (pe_tup (pa_cons pe_int (pa_cons (pv 5) pa_nil))) (pa_cons (pv 4) pa_nil)))) pa_nil))))
        (pss_one (ps_if (pt_cmpR op_ne (pe_callB (call_repr gu hr.units) (by rfl) Z.repr (by decide +kernel) (pa_cons (pv 6) pa_nil)) (pe_callB (call_repr gu hr.units) (by rfl) Z.repr (by decide +kernel) (pa_cons (pe_op op_rep (pe_lst (pa_cons (pe_lst (pa_cons pe_str (pa_cons (pv 4) pa_nil))) pa_nil)) pe_int) pa_nil)) (nomark _)) (pss_one (ps_ret pe_bl)) pss_nil)))))))))))
    (pss_one (ps_ret pe_bl))), ?_⟩
    refine ⟨_, rfl, a, _, rfl, .inl hs, _, _, rfl, _, _, rfl, _, rfl, ?_, ?_, ?_⟩
    · split <;> split <;> omega
    · split <;> split <;> omega
    have hn8 : (if (if ((ns.map V.int).length : Int) < 8 then ((ns.map V.int).length : Int) else 8) > 2 then (if ((ns.map V.int).length : Int) < 8 then ((ns.map V.int).length : Int) else 8) else 2).toNat ≤ 8 := by
      split <;> split <;> omega
    refine for_range (lo := 0) (n := _) (fun i σ' H' => (∃ x1 x2 x3 x4 x5 x6, σ' = [some (.ref a), x1, x2, x3, x4, x5, x6]) ∧ Same H H') ⟨⟨_, _, _, _, _, _, rfl⟩, Same.refl _⟩ ?_ ?_
    · rintro i σ' Hs hi ⟨⟨x1, x2, x3, x4, x5, x6, rfl⟩, S⟩
      have hi8 : i < 8 := Nat.lt_of_lt_of_le hi hn8
      refine ⟨_, rfl, _, rfl, a, ns, i, (by rw [Int.zero_add] <;> rfl), S.seq hs, by omega, fun z => ⟨z, rfl, fun p Hb hp sm bx => ?_⟩⟩
      refine ⟨_, rfl, p, 0, 6, rfl, by decide, bx, by omega, fun x H1 px G1 B1 => ?_⟩
      have S1 : Same H H1 := S.trans (sm.grow hp G1)
      have lz : x.length ≤ sizeLine := Nat.le_trans px.l (by decide)
      refine ⟨_, rfl, x, rfl, px, fun H2 k2 => ⟨_, rfl, iteF ?_⟩⟩
      have S2 := S1.trans k2
      -- no patterns
      refine ⟨by show 1 ≤ sizeLine; decide, fun q1 h1 => ?_⟩
      have k3 := same_new (o := .lst [.str ">"]) h1
      have a1 : Any (upd H2 q1 (.lst [.str ">"])) (.ref q1) (.list [.str ">"]) := .lst upd_same (.cons (.str _) .nil)
      generalize upd H2 q1 (.lst [.str ">"]) = H3 at k3 a1 ⊢
      refine fun q2 h2 => ?_
      have k4 := same_new (o := .dK []) h2
      have a2 : Any (upd H3 q2 (.dK [])) (.ref q2) (.dict []) := .dct upd_same .nil
      have a1 := a1.keep k4
      generalize upd H3 q2 (.dK []) = H4 at k4 a1 a2 ⊢
      refine ⟨_, rfl, x, "x", rfl, rfl, ?_, ?_⟩
      · have : (("x" : String) : Str).length = 1 := rfl
        rw [this]
        have := px.l
        exact Nat.le_trans (by omega : _ ≤ 7) (by decide)
      refine ⟨">", 7, rfl, rfl, mul7, by show 7 ≤ sizeLine; decide, fun L hL => ?_⟩
      have k5 := same_new (o := .lst [.non, .int 3, .bl true, .ref q1, .ref q2, .str (x ++ "x"), .str (Txt.mul ">" 7)]) hL
      have eL : (upd H4 L (.lst [.non, .int 3, .bl true, .ref q1, .ref q2, .str (x ++ "x"), .str (Txt.mul ">" 7)])) L = some (.lst [.non, .int 3, .bl true, .ref q1, .ref q2, .str (x ++ "x"), .str (Txt.mul ">" 7)]) := upd_same
      have aL : AnyL (upd H4 L (.lst [.non, .int 3, .bl true, .ref q1, .ref q2, .str (x ++ "x"), .str (Txt.mul ">" 7)])) [.non, .int 3, .bl true, .ref q1, .ref q2, .str (x ++ "x"), .str (Txt.mul ">" 7)] (oddPats x) :=
        .cons .non (.cons (.int _) (.cons (.bl _) (.cons (a1.keep k5) (.cons (a2.keep k5) (.cons (.str _) (.cons (.str _) .nil))))))
      have S5 := ((S2.trans k3).trans k4).trans k5
      generalize upd H4 L (.lst [.non, .int 3, .bl true, .ref q1, .ref q2, .str (x ++ "x"), .str (Txt.mul ">" 7)]) = H5 at eL aL S5 ⊢
      refine ⟨L, rfl, ⟨_, SqL.of eL⟩, ?_⟩
      refine for_list (K := K) (a := L) (xs := [.non, .int 3, .bl true, .ref q1, .ref q2, .str (x ++ "x"), .str (Txt.mul ">" 7)]) (fun j σ' H' => (∃ x4 x5 x6, σ' = [some (.ref a), some (.int (0 + (i : Int))), some (.ref p), some (.str x), x4, x5, x6]) ∧ Same H5 H') ⟨⟨_, _, _, rfl⟩, Same.refl _⟩ (fun j σ' H' _ h => SqL.of (h.2 _ _ eL)) ?_ ?_
      · rintro j v σ' H6 hj ⟨⟨x4, x5, x6, rfl⟩, k6⟩
        obtain ⟨d, hd, av⟩ := anyL_at aL hj
        obtain ⟨o1, o2, o3⟩ := oddPats_ok px d (List.mem_of_getElem? hd)
        have av6 := av.keep k6
        obtain ⟨u1, u2, u3⟩ := tq_ok (d := wD "pattern" d) (n := 2) (tq_list (ds := [.str "pattern", d]) (n := 1) (by show 2 ≤ 12; decide) (by
          intro e he
          rcases List.mem_cons.mp he with z | z
          · rw [z]; exact (tq_str (by decide +kernel) (by decide +kernel)).up (by decide)
          · rw [List.mem_singleton.mp z]; exact o2)) (by decide)
        have du : intoDue d d d = wD "pattern" d := by unfold intoDue; rw [o1] <;> rfl
        refine ⟨_, rfl, _, rfl, _, rfl, v, v, v, d, d, d, rfl, av6, av6, av6, o3, fun l H7 k7 al7 => ?_⟩
        rw [du] at al7
        refine ⟨l, _, rfl, al7, u1, u2, u3, _, rfl, by show 2 ≤ sizeLine; decide, fun l2 hl2 => ?_⟩
        refine ⟨l2, wD "pattern" d, rfl, pair_any hl2 (av6.keep k7), u1, u2, u3, rfl, _, rfl, ?_⟩
        rw [str_same]
        exact iteF ⟨⟨_, _, _, rfl⟩, (k6.trans k7).trans (same_new hl2)⟩
      · rintro σ' H6 ⟨⟨x4, x5, x6, rfl⟩, k6⟩
        have S6 := S5.trans k6
        refine ⟨_, rfl, x, rfl, lz, ?_⟩
        -- no bars
        refine ⟨by show 2 ≤ sizeLine; decide, fun b1 g1 => ?_⟩
        have m1 := same_new (o := .lst [.int 0, .int 0]) g1
        have c1 : Any (upd H6 b1 (.lst [.int 0, .int 0])) (.ref b1) (.list [.int 0, .int 0]) := .lst upd_same (.cons (.int _) (.cons (.int _) .nil))
        generalize upd H6 b1 (.lst [.int 0, .int 0]) = J1 at m1 c1 ⊢
        refine ⟨by show 1 ≤ sizeLine; decide, fun b2 g2 => ?_⟩
        have m2 := same_new (o := .tup [.int 0]) g2
        have c2 : Any (upd J1 b2 (.tup [.int 0])) (.ref b2) (.tuple [.int 0]) := .tup upd_same (.cons (.int _) .nil)
        generalize upd J1 b2 (.tup [.int 0]) = J2 at m2 c2 ⊢
        refine ⟨by show 3 ≤ sizeLine; decide, fun b3 g3 => ?_⟩
        have m3 := same_new (o := .tup [.int 0, .int 0, .int 0]) g3
        have c3 : Any (upd J2 b3 (.tup [.int 0, .int 0, .int 0])) (.ref b3) (.tuple [.int 0, .int 0, .int 0]) := .tup upd_same (.cons (.int _) (.cons (.int _) (.cons (.int _) .nil)))
        generalize upd J2 b3 (.tup [.int 0, .int 0, .int 0]) = J3 at m3 c3 ⊢
        refine ⟨_, rfl, _, _, rfl, rfl, by show 2 ≤ sizeLine; decide, fun b4 g4 => ?_⟩
        have m4 := same_new (o := .tup [.int 0, .int ((x.length : Nat) + 1)]) g4
        have c4 : Any (upd J3 b4 (.tup [.int 0, .int ((x.length : Nat) + 1)])) (.ref b4) (.tuple [.int 0, .int ((x.length : Nat) + 1)]) := .tup upd_same (.cons (.int _) (.cons (.int _) .nil))
        generalize upd J3 b4 (.tup [.int 0, .int ((x.length : Nat) + 1)]) = J4 at m4 c4 ⊢
        refine ⟨_, rfl, by show 2 ≤ sizeLine; decide, fun b5 g5 => ?_⟩
        have m5 := same_new (o := .tup [.int (-1), .int 0]) g5
        have c5 : Any (upd J4 b5 (.tup [.int (-1), .int 0])) (.ref b5) (.tuple [.int (-1), .int 0]) := .tup upd_same (.cons (.int _) (.cons (.int _) .nil))
        generalize upd J4 b5 (.tup [.int (-1), .int 0]) = J5 at m5 c5 ⊢
        refine ⟨by show 2 ≤ sizeLine; decide, fun b6 g6 => ?_⟩
        have m6 := same_new (o := .tup [.int 1, .int 0]) g6
        have c6 : Any (upd J5 b6 (.tup [.int 1, .int 0])) (.ref b6) (.tuple [.int 1, .int 0]) := .tup upd_same (.cons (.int _) (.cons (.int _) .nil))
        generalize upd J5 b6 (.tup [.int 1, .int 0]) = J6 at m6 c6 ⊢
        refine ⟨by show 2 ≤ sizeLine; decide, fun b7 g7 => ?_⟩
        have m7 := same_new (o := .tup [.bl false, .int 0]) g7
        have c7 : Any (upd J6 b7 (.tup [.bl false, .int 0])) (.ref b7) (.tuple [.bool false, .int 0]) := .tup upd_same (.cons (.bl _) (.cons (.int _) .nil))
        generalize upd J6 b7 (.tup [.bl false, .int 0]) = J7 at m7 c7 ⊢
        refine ⟨by show 2 ≤ sizeLine; decide, fun b8 g8 => ?_⟩
        have m8 := same_new (o := .tup [.int 0, .str "0"]) g8
        have c8 : Any (upd J7 b8 (.tup [.int 0, .str "0"])) (.ref b8) (.tuple [.int 0, .str "0"]) := .tup upd_same (.cons (.int _) (.cons (.str _) .nil))
        generalize upd J7 b8 (.tup [.int 0, .str "0"]) = J8 at m8 c8 ⊢
        refine ⟨by show 0 ≤ sizeLine; decide, fun b9 g9 => ?_⟩
        have m9 := same_new (o := .tup []) g9
        have c9 : Any (upd J8 b9 (.tup [])) (.ref b9) (.tuple []) := .tup upd_same .nil
        generalize upd J8 b9 (.tup []) = J9 at m9 c9 ⊢
        refine ⟨by show 12 ≤ sizeLine; decide, fun M hM => ?_⟩
        have mm := same_new (o := .lst [.non, .int 3, .str "01", .ref b1, .ref b2, .ref b3, .ref b4, .ref b5, .ref b6, .ref b7, .ref b8, .ref b9]) hM
        have eM : (upd J9 M (.lst [.non, .int 3, .str "01", .ref b1, .ref b2, .ref b3, .ref b4, .ref b5, .ref b6, .ref b7, .ref b8, .ref b9])) M = some (.lst [.non, .int 3, .str "01", .ref b1, .ref b2, .ref b3, .ref b4, .ref b5, .ref b6, .ref b7, .ref b8, .ref b9]) := upd_same
        generalize upd J9 M (.lst [.non, .int 3, .str "01", .ref b1, .ref b2, .ref b3, .ref b4, .ref b5, .ref b6, .ref b7, .ref b8, .ref b9]) = JM at mm eM ⊢
        have t9 := mm
        have t8 := m9.trans t9
        have t7 := m8.trans t8
        have t6 := m7.trans t7
        have t5 := m6.trans t6
        have t4 := m5.trans t5
        have t3 := m4.trans t4
        have t2 := m3.trans t3
        have t1 := m2.trans t2
        have SM : Same H JM := S6.trans (m1.trans t1)
        have aM : AnyL JM [.non, .int 3, .str "01", .ref b1, .ref b2, .ref b3, .ref b4, .ref b5, .ref b6, .ref b7, .ref b8, .ref b9] (oddBars x.length) :=
          .cons .non (.cons (.int _) (.cons (.str _) (.cons (c1.keep t1) (.cons (c2.keep t2) (.cons (c3.keep t3) (.cons (c4.keep t4) (.cons (c5.keep t5) (.cons (c6.keep t6) (.cons (c7.keep t7) (.cons (c8.keep t8) (.cons (c9.keep t9) .nil)))))))))))
        refine ⟨M, rfl, ⟨_, SqL.of eM⟩, ?_⟩
        refine for_list (K := K) (a := M) (xs := [.non, .int 3, .str "01", .ref b1, .ref b2, .ref b3, .ref b4, .ref b5, .ref b6, .ref b7, .ref b8, .ref b9]) (fun j σ' H' => (∃ x4 x6, σ' = [some (.ref a), some (.int (0 + (i : Int))), some (.ref p), some (.str x), x4, some (.int (x.length : Nat)), x6]) ∧ Same JM H') ⟨⟨_, _, rfl⟩, Same.refl _⟩ (fun j σ' H' _ h => SqL.of (h.2 _ _ eM)) ?_ ?_
        · rintro j v σ' H7 hj ⟨⟨x4, x6, rfl⟩, k7⟩
          obtain ⟨d, hd, av⟩ := anyL_at aM hj
          obtain ⟨o1, o2⟩ := oddBars_ok px.l d (List.mem_of_getElem? hd)
          have av7 := av.keep k7
          have ep := isPat_of px
          have du1 : intoDue (.str x) d .none = wD "bar" d := by unfold intoDue; rw [ep, show isBarD (strD (.str x)).length d = false from o1] <;> rfl
          have du2 : intoDue (.str x) (barD (0, x.length)) d = wD "bar" d := by unfold intoDue; rw [ep, show isBarD (strD (.str x)).length (barD (0, x.length)) = true from bar_is (Nat.zero_le _) (Nat.le_refl _), show isBarD (strD (.str x)).length d = false from o1] <;> rfl
          refine ⟨_, rfl, _, rfl, .str x, v, .non, .str x, d, .none, rfl, .str x, av7, .non, pat_short px (by decide), fun l H8 k8 al8 => ?_⟩
          rw [du1] at al8
          refine ⟨_, rfl, _, rfl, by show 2 ≤ sizeLine; decide, fun t ht => ?_⟩
          have k9 := same_new (o := .tup [.int 0, .int (x.length : Nat)]) ht
          have at9 : PairAt (upd H8 t (.tup [.int 0, .int (x.length : Nat)])) t 0 x.length := upd_same
          have al9 := al8.keep k9
          have k79 := k8.trans k9
          generalize upd H8 t (.tup [.int 0, .int (x.length : Nat)]) = H9 at k9 at9 al9 k79 ⊢
          refine ⟨_, rfl, .str x, .ref t, v, .str x, barD (0, x.length), d, rfl, .str x, at9.any, av7.keep k79, pat_short px (by decide), fun l2 H10 k10 al10 => ?_⟩
          rw [du2] at al10
          refine ⟨by show 2 ≤ sizeLine; decide, fun Fd hF => ?_⟩
          have k11 := same_new (o := .lst [.ref l, .ref l2]) hF
          have dat : Any (upd H10 Fd (.lst [.ref l, .ref l2])) (.ref Fd) (.list [wD "bar" d, wD "bar" d]) := .lst upd_same (.cons ((al9.keep k10).keep k11) (.cons (al10.keep k11) .nil))
          have K11 := (k79.trans k10).trans k11
          generalize upd H10 Fd (.lst [.ref l, .ref l2]) = H11 at k11 dat K11 ⊢
          have tw : Tq 2 (wD "bar" d) := tq_list (ds := [.str "bar", d]) (n := 1) (by show 2 ≤ 12; decide) (by
            intro e he
            rcases List.mem_cons.mp he with z | z
            · rw [z]; exact (tq_str (by decide +kernel) (by decide +kernel)).up (by decide)
            · rw [List.mem_singleton.mp z]; exact o2)
          obtain ⟨u1, u2, u3⟩ := tq_ok (tq_list (ds := [wD "bar" d, wD "bar" d]) (n := 2) (by show 2 ≤ 12; decide) (by
            intro e he
            rcases List.mem_cons.mp he with z | z
            · rw [z]; exact tw
            · rw [List.mem_singleton.mp z]; exact tw)) (by decide)
          refine ⟨_, rfl, Fd, _, rfl, dat, u1, u2, u3, _, rfl, by show 2 ≤ sizeLine; decide, fun p1 e1 => ?_⟩
          have k12 := same_new (o := .lst [.str "bar", v]) e1
          have ap1 : Any (upd H11 p1 (.lst [.str "bar", v])) (.ref p1) (wD "bar" d) := pair_any e1 (av7.keep K11)
          generalize upd H11 p1 (.lst [.str "bar", v]) = H12 at k12 ap1 ⊢
          refine ⟨by show 1 ≤ sizeLine; decide, fun p2 e2 => ?_⟩
          have k13 := same_new (o := .lst [.ref p1]) e2
          refine ⟨p2, _, [.ref p1], rfl, rfl, upd_same, by decide, by decide, by show 1 * 2 ≤ sizeLine; decide, fun p3 e3 => ?_⟩
          have k14 := same_new (o := .lst (List.replicate (Int.toNat 2) [.ref p1]).flatten) e3
          have K14 := (k12.trans k13).trans k14
          refine ⟨p3, .list [wD "bar" d, wD "bar" d], rfl, .lst (xs := [.ref p1, .ref p1]) upd_same (.cons ((ap1.keep k13).keep k14) (.cons ((ap1.keep k13).keep k14) .nil)), u1, u2, u3, rfl, _, rfl, ?_⟩
          rw [str_same]
          exact iteF ⟨⟨_, _, rfl⟩, (k7.trans K11).trans K14⟩
        · rintro σ' H7 ⟨⟨x4, x6, rfl⟩, k7⟩
          exact ⟨⟨_, _, _, _, _, _, rfl⟩, SM.trans k7⟩
    · rintro σ' H' ⟨⟨x1, x2, x3, x4, x5, x6, rfl⟩, S⟩
      exact q _
end
end K46

set_option Elab.async false
set_option linter.all false
set_option maxRecDepth 100000
set_option maxHeartbeats 8000000
/-! K46N: the end. -/
namespace K46
open PySem PySem.Spec PyProof.Rows L2 Rw
abbrev sIniT : Stmt := inClass (top 2) 0
theorem scIniT : FnScope ["self", "value"] ["self", "value"] (defScope sIniT) := ⟨rfl, rfl, rfl, by decide +kernel, rfl, by decide +kernel, by decide +kernel⟩
theorem isT : IsIni sIniT := ⟨_, _, _, _, rfl, rfl, rfl⟩
abbrev sIniB : Stmt := inClass (top 3) 0
theorem scIniB : FnScope ["self", "value"] ["self", "value"] (defScope sIniB) := ⟨rfl, rfl, rfl, by decide +kernel, rfl, by decide +kernel, by decide +kernel⟩
theorem isB : IsIni sIniB := ⟨_, _, _, _, rfl, rfl, rfl⟩
/-- what is asked of the written part -/
structure Asked (K : PySem.W.Frag) (w : World) (aT CR CT CB : Addr) (kT : List (Str × Value)) (tM : Tok) : Prop where
  taT : TabSHere K w "TURNED" aT kT
  iMOST : PySem.W.nsIn K mainGlobals "MOST" = some (some (.int 6 tM))
  hT : ∀ c, (lookS kT ⟨#[c]⟩).isSome = isArr c
  root : PySem.W.nsIn K mainGlobals "RowError" = some (some (.ref CR))
  eT : ErrHere K "InvalidPattern" "InvalidPattern.__init__" sIniT CR CT
  eB : ErrHere K "InvalidBar" "InvalidBar.__init__" sIniB CR CB
  cT : PySem.W.isClsIn K CT = true
  cB : PySem.W.isClsIn K CB = true
  sTT : PySem.W.subIn K (.ref CT) (.ref CT) = some true
  sBT : PySem.W.subIn K (.ref CB) (.ref CT) = some false
  sBB : PySem.W.subIn K (.ref CB) (.ref CB) = some true
  d1 : DefHere K "is_number" sNum
  d2 : DflHere K "is_integer" sInt [.none, .none]
  d3 : DefHere K "is_pattern" sPat
  d4 : DefHere K "check_pattern" sCPat
  d5 : DefHere K "is_bar" sBarP
  d6 : DefHere K "check_bar" sCBar
  d7 : DefHere K "_leads" sLeads
  d8 : DefHere K "leads_into" sInto
  d9 : DefHere K "_law_cell" sCell
  d10 : DefHere K "_law_box" sBox
  d11 : DefHere K "_law_take" sTake
  d12 : DefHere K "_law_arrows" sPatL
  d13 : DefHere K "_law_bars" sBarsL
  d14 : DefHere K "_law_is_map" sIsMap
  d15 : DefHere K "_law_caught" sCaught
  d16 : DefHere K "_law_right" sRight
  dl : DefHere K "law" sLaw
  z1 : PySem.W.nsIn K mainGlobals "isinstance" = some none
  z2 : PySem.W.nsIn K mainGlobals "int" = some none
  z3 : PySem.W.nsIn K mainGlobals "bool" = some none
  z4 : PySem.W.nsIn K mainGlobals "str" = some none
  z5 : PySem.W.nsIn K mainGlobals "tuple" = some none
  z6 : PySem.W.nsIn K mainGlobals "len" = some none
  z7 : PySem.W.nsIn K mainGlobals "all" = some none
  z8 : PySem.W.nsIn K mainGlobals "range" = some none
  z9 : PySem.W.nsIn K mainGlobals "enumerate" = some none
  z10 : PySem.W.nsIn K mainGlobals "repr" = some none
  z11 : PySem.W.nsIn K mainGlobals "max" = some none
  z12 : PySem.W.nsIn K mainGlobals "min" = some none
theorem all_mk {l : PySem.W.OpenLaw} {w : World} {K : PySem.W.Frag} {h : Heap} {mg : Str → Option Value} {fa : Addr} {aT CR CT CB : Addr} {kT : List (Str × Value)} {tM : Tok} (X : K.In h) (G : h.Ns mainGlobals mg) (hfa : mg "law" = some (.ref fa)) (Z : Asked K w aT CR CT CB kT tM) :
    ∃ fd : FuncData, (∀ (s : Shared) (v : Value), BindsTo s fd ⟨[v], []⟩ [("_law_script", v)]) ∧ ∀ base : Heap, K.In base → base.Ns mainGlobals mg → FnG l.prog w K mg base CX0 8 fa fd ["_law_script"] (spLaw K) := by
  have zz_isinstance : mg "isinstance" = none := PySem.W.mg_none_of X G Z.z1
  have zz_int : mg "int" = none := PySem.W.mg_none_of X G Z.z2
  have zz_bool : mg "bool" = none := PySem.W.mg_none_of X G Z.z3
  have zz_str : mg "str" = none := PySem.W.mg_none_of X G Z.z4
  have zz_tuple : mg "tuple" = none := PySem.W.mg_none_of X G Z.z5
  have zz_len : mg "len" = none := PySem.W.mg_none_of X G Z.z6
  have zz_all : mg "all" = none := PySem.W.mg_none_of X G Z.z7
  have zz_range : mg "range" = none := PySem.W.mg_none_of X G Z.z8
  have zz_enumerate : mg "enumerate" = none := PySem.W.mg_none_of X G Z.z9
  have zz_repr : mg "repr" = none := PySem.W.mg_none_of X G Z.z10
  have zz_max : mg "max" = none := PySem.W.mg_none_of X G Z.z11
  have zz_min : mg "min" = none := PySem.W.mg_none_of X G Z.z12
  have eT : Err K mg "InvalidPattern" CT := Z.eT.err X G scIniT isT fun _ _ _ _ _ _ us hl => match us, hl with | [_, _], _ => rfl
  have kxT : PySem.W.subIn K (.ref CT) (.type "BaseException") = some true := eT.xf.exC
  have eB : Err K mg "InvalidBar" CB := Z.eB.err X G scIniB isB fun _ _ _ _ _ _ us hl => match us, hl with | [_, _], _ => rfl
  have kxB : PySem.W.subIn K (.ref CB) (.type "BaseException") = some true := eB.xf.exC
  have xTT : PySem.W.exmOne K (.ref CT) (.ref CT) = some true := exm_of kxT Z.cT eT.ox.tyC Z.sTT
  have xBT : PySem.W.exmOne K (.ref CB) (.ref CT) = some false := exm_of kxT Z.cT eT.ox.tyC Z.sBT
  have xBB : PySem.W.exmOne K (.ref CB) (.ref CB) = some true := exm_of kxB Z.cB eB.ox.tyC Z.sBB
  have T : Txt K w mg aT CT CB kT := ⟨zz_isinstance, zz_int, zz_bool, zz_str, zz_tuple, zz_len, zz_all, zz_max, zz_min, PySem.W.mg_of X G Z.taT.1, Z.taT.2, Z.hT, ⟨tM, PySem.W.mg_of X G Z.iMOST⟩, eT, eB⟩
  have TC : TxC K mg CR CT CB := ⟨PySem.W.mg_of X G Z.root, xTT, xBT, xBB⟩
  have D1 := Z.d1.df (ps := ["value"]) X G fun _ _ _ _ _ _ us hl => match us, hl with | [_], _ => rfl
  have D3 := Z.d3.df (ps := ["value"]) X G fun _ _ _ _ _ _ us hl => match us, hl with | [_], _ => rfl
  have D4 := Z.d4.df (ps := ["pattern"]) X G fun _ _ _ _ _ _ us hl => match us, hl with | [_], _ => rfl
  have D5 := Z.d5.df (ps := ["pattern", "value"]) X G fun _ _ _ _ _ _ us hl => match us, hl with | [_, _], _ => rfl
  have D6 := Z.d6.df (ps := ["pattern", "bar"]) X G fun _ _ _ _ _ _ us hl => match us, hl with | [_, _], _ => rfl
  have D7 := Z.d7.df (ps := ["pattern", "bar", "other"]) X G fun _ _ _ _ _ _ us hl => match us, hl with | [_, _, _], _ => rfl
  have D8 := Z.d8.df (ps := ["pattern", "bar", "other"]) X G fun _ _ _ _ _ _ us hl => match us, hl with | [_, _, _], _ => rfl
  have D9 := Z.d9.df (ps := ["_law_script", "_law_k"]) X G fun _ _ _ _ _ _ us hl => match us, hl with | [_, _], _ => rfl
  have D10 := Z.d10.df (ps := ["_law_cell_here"]) X G fun _ _ _ _ _ _ us hl => match us, hl with | [_], _ => rfl
  have D11 := Z.d11.df (ps := ["_law_box_here", "_law_many"]) X G fun _ _ _ _ _ _ us hl => match us, hl with | [_, _], _ => rfl
  have D12 := Z.d12.df (ps := ["_law_box_here", "_law_most"]) X G fun _ _ _ _ _ _ us hl => match us, hl with | [_, _], _ => rfl
  have D13 := Z.d13.df (ps := ["_law_arrows_here"]) X G fun _ _ _ _ _ _ us hl => match us, hl with | [_], _ => rfl
  have D14 := Z.d14.df (ps := ["_law_arrows_here", "_law_bar", "_law_other"]) X G fun _ _ _ _ _ _ us hl => match us, hl with | [_, _, _], _ => rfl
  have D15 := Z.d15.df (ps := ["_law_arrows_here", "_law_bar", "_law_other"]) X G fun _ _ _ _ _ _ us hl => match us, hl with | [_, _, _], _ => rfl
  have D16 := Z.d16.df (ps := ["_law_arrows_here"]) X G fun _ _ _ _ _ _ us hl => match us, hl with | [_], _ => rfl
  obtain ⟨f, g, oc, od, kV, dc, pm, an, cd, ct, sl, lk, hc, hk⟩ := Z.dl
  have e := hfa.symm.trans (PySem.W.mg_of X G g)
  cases e
  refine ⟨PySem.W.fnOf "law" "law" (defArgs sLaw) (defBody sLaw) (defScope sLaw) .none kV dc pm an cd ct, fun s v => .of_eq rfl, fun base KB _ => ?_⟩
  have G1 : Own l.prog w K mg base CX0 1 "is_number" ["value"] [] spNum := D1.own fun f fd F => okNum F T
  have G2 : Own l.prog w K mg base CX0 2 "is_integer" ["value", "low", "high"] [] spInt := Z.d2.own3 X G (fun T kV doc pm an cdv ct us its h1 h2 => match us, its, h1, h2 with | [_, _, _], [_, _], _, _ => ⟨_, rfl, rfl⟩) fun f fd F => okInt F G1
  have G3 : Own l.prog w K mg base CX0 1 "is_pattern" ["value"] [] spPat := D3.own fun f fd F => okPat F T
  have G4 : Own l.prog w K mg base (L2.CX l.prog w) 4 "check_pattern" ["pattern"] [] (spCPat CT) := D4.own fun f fd F => okCPat F T G3
  have G5 : Own l.prog w K mg base CX0 3 "is_bar" ["pattern", "value"] [] spBarP := D5.own fun f fd F => okBarP F T G2
  have G6 : Own l.prog w K mg base (L2.CX l.prog w) 4 "check_bar" ["pattern", "bar"] [] (spCBar CB) := D6.own fun f fd F => okCBar F T G5
  have G7 : Own l.prog w K mg base CX0 1 "_leads" ["pattern", "bar", "other"] [] spLeads := D7.own fun f fd F => okLeads F zz_max zz_min
  have G8 : Own l.prog w K mg base (L2.CX l.prog w) 5 "leads_into" ["pattern", "bar", "other"] [] (spInto CT CB) := D8.own fun f fd F => okInto F G4 G6 G7
  have G9 : Own l.prog w K mg base CX0 1 "_law_cell" ["_law_script", "_law_k"] [] (spCellR K) := D9.own fun f fd F => okCell F zz_len
  have G10 : Own l.prog w K mg base CX0 1 "_law_box" ["_law_cell_here"] [] spBoxR := D10.own fun f fd F => okBox F zz_max zz_int
  have G11 : Own l.prog w K mg base CX0 1 "_law_take" ["_law_box_here", "_law_many"] [] spTakeR := D11.own fun f fd F => okTake F zz_int
  have G12 : Own l.prog w K mg base CX0 2 "_law_arrows" ["_law_box_here", "_law_most"] [] spPatR := D12.own fun f fd F => okPatL F zz_range G11
  have G13 : Own l.prog w K mg base CX0 1 "_law_bars" ["_law_arrows_here"] [] spBarsN := D13.own fun f fd F => okBarsL F zz_range zz_len
  have G14 : Own l.prog w K mg base CX0 1 "_law_is_map" ["_law_arrows_here", "_law_bar", "_law_other"] [] spIsMap := D14.own fun f fd F => okIsMap F zz_range zz_len zz_enumerate zz_int
  have G15 : Own l.prog w K mg base CX0 6 "_law_caught" ["_law_arrows_here", "_law_bar", "_law_other"] [] spIntoC := D15.own fun f fd F => okCaught F eT eB TC G8
  have G16 : OwnG l.prog w K mg base CX0 6 "_law_right" ["_law_arrows_here"] [] spRightM := D16.ownG fun f fd F => okRight F zz_len zz_repr G13 G14 G8
  exact okLaw (fun_mk (st := sLaw) lk hc hk) ⟨zz_range, zz_repr, zz_max, zz_min, zz_len⟩ ⟨G9, G10, G12, G16, G15⟩
end K46

set_option Elab.async false
open PySem PySem.W PyProof.Rows
set_option maxRecDepth 100000
set_option maxHeartbeats 0
open_top k46head for PySem.Challenge.rw_maprows_k46_maps_between_bars

open PySem PySem.W PyProof.Rows in
set_option maxRecDepth 100000 in
set_option maxHeartbeats 0 in
set_option pp.maxSteps 20 in
theorem PySem.Challenge.cw_maprows_k46_maps_between_bars_holds : PySem.Challenge.rw_maprows_k46_maps_between_bars.Holds := by
  refine k46head ?walk
  k_fill
  refine Rw.walkG (l := PySem.Challenge.rw_maprows_k46_maps_between_bars) (n := 63) (k := 8) (x := "_law_script") (sp := K46.spLaw) rfl (by decide) rfl rfl ⟨rfl, by decide, by decide⟩ (fun w h Y => PySem.W.kIn_of Y) ?F (fun K H a ns hl _ hs => ⟨a, ns, rfl, hs, hl, fun _ => rfl⟩)
  intro w mg fa h KX G hmg
  refine' K46.all_mk KX G hmg ?Z
  case' Z => refine' ⟨?taT, ?iMOST, ?hT, ?root, ?eT, ?eB, ?cT, ?cB, ?sTT, ?sBT, ?sBB, ?d1, ?d2, ?d3, ?d4, ?d5, ?d6, ?d7, ?d8, ?d9, ?d10, ?d11, ?d12, ?d13, ?d14, ?d15, ?d16, ?dl, ?z1, ?z2, ?z3, ?z4, ?z5, ?z6, ?z7, ?z8, ?z9, ?z10, ?z11, ?z12⟩
  (case taT => refine' Rw.TabSHere.of ?g ?k ?t ?z; (case g => k_is); (case k => k_is); (case t => exact .cons rfl rfl rfl (.cons rfl rfl rfl .nil)); (case z => first | rfl | k_is))
  (case iMOST => k_is)
  (case hT => exact fun c => Rw.arr_tab c)
  (case root => k_is)
  (case eT => refine' Rw.ErrHere.of ?g ?xl ?sa ?ga ?gg ?no ?ini ?ty ?l ?c ?k ?kc ?ex ?tc ?hd; (case g => k_is); (case xl => k_is); (case sa => k_is); (case ga => k_is); (case gg => k_is); (case no => k_is); (case ini => k_is); (case ty => k_is); (case l => k_is); (case c => k_is); (case k => k_is); (case kc => k_is); (case ex => k_is); (case tc => k_is); (case hd => k_is))
  (case eB => refine' Rw.ErrHere.of ?g ?xl ?sa ?ga ?gg ?no ?ini ?ty ?l ?c ?k ?kc ?ex ?tc ?hd; (case g => k_is); (case xl => k_is); (case sa => k_is); (case ga => k_is); (case gg => k_is); (case no => k_is); (case ini => k_is); (case ty => k_is); (case l => k_is); (case c => k_is); (case k => k_is); (case kc => k_is); (case ex => k_is); (case tc => k_is); (case hd => k_is))
  (case cT => first | rfl | k_is)
  (case cB => first | rfl | k_is)
  (case sTT => first | rfl | k_is)
  (case sBT => first | rfl | k_is)
  (case sBB => first | rfl | k_is)
  (case d1 => refine' Rw.DefHere.of ?g ?l ?c ?k; (case g => k_is); (case l => k_is); (case c => k_is); (case k => k_is))
  (case d2 => refine' Rw.DflHere.of ?g ?l ?c ?k ?t; (case g => k_is); (case l => k_is); (case c => k_is); (case k => k_is); (case t => k_is))
  (case d3 => refine' Rw.DefHere.of ?g ?l ?c ?k; (case g => k_is); (case l => k_is); (case c => k_is); (case k => k_is))
  (case d4 => refine' Rw.DefHere.of ?g ?l ?c ?k; (case g => k_is); (case l => k_is); (case c => k_is); (case k => k_is))
  (case d5 => refine' Rw.DefHere.of ?g ?l ?c ?k; (case g => k_is); (case l => k_is); (case c => k_is); (case k => k_is))
  (case d6 => refine' Rw.DefHere.of ?g ?l ?c ?k; (case g => k_is); (case l => k_is); (case c => k_is); (case k => k_is))
  (case d7 => refine' Rw.DefHere.of ?g ?l ?c ?k; (case g => k_is); (case l => k_is); (case c => k_is); (case k => k_is))
  (case d8 => refine' Rw.DefHere.of ?g ?l ?c ?k; (case g => k_is); (case l => k_is); (case c => k_is); (case k => k_is))
  (case d9 => refine' Rw.DefHere.of ?g ?l ?c ?k; (case g => k_is); (case l => k_is); (case c => k_is); (case k => k_is))
  (case d10 => refine' Rw.DefHere.of ?g ?l ?c ?k; (case g => k_is); (case l => k_is); (case c => k_is); (case k => k_is))
  (case d11 => refine' Rw.DefHere.of ?g ?l ?c ?k; (case g => k_is); (case l => k_is); (case c => k_is); (case k => k_is))
  (case d12 => refine' Rw.DefHere.of ?g ?l ?c ?k; (case g => k_is); (case l => k_is); (case c => k_is); (case k => k_is))
  (case d13 => refine' Rw.DefHere.of ?g ?l ?c ?k; (case g => k_is); (case l => k_is); (case c => k_is); (case k => k_is))
  (case d14 => refine' Rw.DefHere.of ?g ?l ?c ?k; (case g => k_is); (case l => k_is); (case c => k_is); (case k => k_is))
  (case d15 => refine' Rw.DefHere.of ?g ?l ?c ?k; (case g => k_is); (case l => k_is); (case c => k_is); (case k => k_is))
  (case d16 => refine' Rw.DefHere.of ?g ?l ?c ?k; (case g => k_is); (case l => k_is); (case c => k_is); (case k => k_is))
  (case dl => refine' Rw.DefHere.of ?g ?l ?c ?k; (case g => k_is); (case l => k_is); (case c => k_is); (case k => k_is))
  (case z1 => k_is)
  (case z2 => k_is)
  (case z3 => k_is)
  (case z4 => k_is)
  (case z5 => k_is)
  (case z6 => k_is)
  (case z7 => k_is)
  (case z8 => k_is)
  (case z9 => k_is)
  (case z10 => k_is)
  (case z11 => k_is)
  (case z12 => k_is)
#print axioms PySem.Challenge.cw_maprows_k46_maps_between_bars_holds
