import PyProof.Rows.All
import Wide.All
import OpenK.AllK
import Wide.FinOn
import PyProof.RowDictHeap
import PyProof.ReprRoads
import HandS.ForMost
import HandS.ForExc
import HandS.ExcInit
import HandS.ExcField
import HandS.IsInst
import HandS.Wide
import HandS.Defaults
import HandS.Conv
import KE.GoesMore
import KE.GoesZip
import HandS.Zip0
import HandS.Walk
import KE.GoesEnum
import HandS.Property
import HandS.ExcIs
import HandS.MakeKwOnly
import PySem.Challenge.RW_maprows_k01_exceptions_apart
import PyProof.P3Eq
import PyProof.StrLawsRepr
import HandS.TryOnly
import PyProof.NeKinds
import HandS.OwnEq
import HandS.TupMul
import HandS.TupAny
import HandS.Codes
import HandS.Text
import HandS.Evl
import HandS.Style
import PyProof.StrBlock2
import HandS.List
import HandS.DictTup
import HandS.Iter
import HandS.DictComp
import HandS.Replace
import HandS.ReplaceList
import KE.KDictPairs
import KE.KDictKeyed
set_option Elab.async false
set_option linter.all false
set_option maxRecDepth 100000
set_option maxHeartbeats 4000000
namespace Rw
open PySem PySem.Spec PyProof.Rows L2
/-- FnOk, but only where no repr is under way -/
structure FnG (P : Program) (w : World) (K : PySem.W.Frag) (mg : Str → Option Value) (base : Heap) (CX : CXT) (k : Nat) (f : Addr) (fd : FuncData) (ps : List Str) (sp : Sp) : Prop where
  many : ∀ vs H Q E, sp vs H Q E → vs.length = ps.length
  go : ∀ (A : Around) (fr : List Env) (s : Shared) (H : Hp) (ar : Args) (us : List Value) (vs : List V) (Q : VK) (E : XK), A.guards = some [] → Room k A → Env0 P w K mg base A fr s H →
    BindsTo s fd ar (ps.zip us) → Vals vs us → sp vs H Q E → codeAny (model P w) A (.call (.ref f) ar) (CR CX fr P w H s Q E) s
section
variable {P : Program} {w : World} {K : PySem.W.Frag} {mg : Str → Option Value} {base : Heap} {CX : CXT}
theorem fnG_of {k : Nat} {f : Addr} {name qual : Str} {pa : Arguments} {bd : List Stmt} {sc : Scope} {dV kV doc pm cdv ct oc : Value} {an od : Option Addr} {osl : Array (Option Value)} {N ps : List Str} {sp : Sp}
    (lk : K.lookup f = some ⟨oc, od, .func (PySem.W.fnOf name qual pa bd sc dV kV doc pm an cdv ct), osl⟩) (hcd : PySem.W.codeIn K cdv qual = true) (S : FnScope N ps sc)
    (many : ∀ vs H Q E, sp vs H Q E → vs.length = ps.length)
    (walk : ∀ (A : Around) (fr : List Env) (s : Shared) (H : Hp) (vs : List V) (Q : VK) (E : XK), A.guards = some [] → Room k (A.deeper (envOfC qual sc s.heap.objs.size f cdv)) → sp vs H Q E →
      ∃ t, PSs (cxOf CX P w K mg base N qual sc f cdv A fr s H E) bd t ∧ t { nx := fun _ H' => Q .non H', rt := Q } (start N vs) H) :
    FnG P w K mg base CX (k + 1) f (PySem.W.fnOf name qual pa bd sc dV kV doc pm an cdv ct) ps sp := by
  constructor
  · exact many
  intro A fr s H ar us vs Q E gu room ev bnd rel prom
  have cnt := many vs H Q E prom
  have kin : K.In s.heap := PySem.W.Frag.In.keeps ev.mod.kin (fun b o e => (ev.bs b o e).1)
  have lim : s.heap.NoLimit := Heap.NoLimit.keeps ev.mod.nolimit (fun b o e => (ev.bs b o e).1)
  refine codeAny_call_function (Room.depth room) (kin f _ lk) rfl S.co S.gen rfl (PySem.W.codeRec_of kin hcd) ?_
  refine bnd _ _ _ _ ?_
  refine wpAny_newFunctionEnv_cells S.kind ?_ ?_
  · intro y hy
    obtain ⟨n, v⟩ := y
    have hp := (List.of_mem_zip hy).1
    cases S.par n hp with
    | inl q => exact Or.inl q
    | inr q => exact Or.inr ⟨q, PySem.W.cellsFrom_some sc.names (s.heap.objs.size + 1) [] (Or.inl q)⟩
  intro env he s1 x
  subst he
  refine And.intro (lim.keeps (InCallC.toInCall x).keep) ?_
  refine codeAny_func ?_
  have start_ok := inv_start (CX := CX) (E := E) (f := f) (cd := cdv) S room.hd ev cnt rel x
  obtain ⟨t, ht, hq⟩ := walk A fr s H vs Q E gu (Room.deeper room _) prom
  refine wpAny_mono (PSs.run ht [] s1 (start N vs) H _ start_ok hq) ?_ (fun _ _ z => z)
  intro fl s2 hs
  cases fl with
  | ret u =>
    obtain ⟨v, σ2, H2, J, rv, q⟩ := hs
    exact Exists.intro v ⟨H2, J.os, J.bare, J.base, J.hok, rv, q⟩
  | next =>
    obtain ⟨σ2, H2, J, q⟩ := hs
    exact Exists.intro V.non ⟨H2, J.os, J.bare, J.base, J.hok, rfl, q⟩
  | brk => exact (hs.choose_spec.choose_spec.2).elim
  | cont => exact (hs.choose_spec.choose_spec.2).elim
/-- a def of the text: its body's term and reading, where no repr is under way -/
theorem funG {x qual : Str} {st : Stmt} {f : Addr} {fd : FuncData} {N ps : List Str} {k : Nat} {sp : Sp} (F : Fun K x qual st f fd) (S : FnScope N ps (defScope st)) (many : ∀ vs H Q E, sp vs H Q E → vs.length = ps.length)
    (walk : ∀ (cdv : Value) (A : Around) (fr : List Env) (s : Shared) (H : Hp) (vs : List V) (Q : VK) (E : XK), (cxOf CX0 P w K mg base N qual (defScope st) f cdv A fr s H E).A.guards = some [] →
      Room k (A.deeper (envOfC qual (defScope st) s.heap.objs.size f cdv)) → sp vs H Q E →
      ∃ t, PSs (cxOf CX0 P w K mg base N qual (defScope st) f cdv A fr s H E).nox (defBody st) t ∧ t { nx := fun _ H' => Q .non H', rt := Q } (start N vs) H) : FnG P w K mg base CX0 (k + 1) f fd ps sp := by
  obtain ⟨oc, od, kV, doc, pm, an, cdv, ct, osl, rfl, lk, hcd⟩ := F.ex
  refine fnG_of lk hcd S many ?_
  intro A fr s H vs Q E gu room prom
  obtain ⟨t, d, q⟩ := walk cdv A fr s H vs Q E gu room prom
  exact ⟨t, PSs.nox d, q⟩
end
end Rw
set_option Elab.async false
set_option linter.all false
set_option maxRecDepth 100000
set_option maxHeartbeats 4000000
namespace Rw
open PySem PySem.Spec PyProof.Rows L2
/-- nothing is tracked in H but perhaps a -/
def Lone (H : Hp) (a : Addr) : Prop := ∀ b, H b ≠ none → b = a
section
variable {P : Program} {w : World} {K : PySem.W.Frag} {mg mb : Str → Option Value} {s : Shared} {a : Addr} {H : Hp} {o : Obj}
theorem lone_base {b : Addr} {u : Obj} (e : s.heap.get? b = some u) (n : H b = none) : (hidT s.heap H).get? b = some u := hidT_get e n
theorem lone_free (A : Lone H a) {b : Addr} (n : b ≠ a) : H b = none := by
  cases q : H b with
  | none => rfl
  | some u => exact (n (A b (by rw [q]; exact fun z => nomatch z))).elim
theorem lone_dict (A : Lone H a) (ha : s.heap.get? a = some o) (hd : ∀ es n, o.data ≠ .dict es n) {b : Addr} {u : Obj} {es : Array DictEntry} {n : Nat} (e : s.heap.get? b = some u) (d : u.data = .dict es n) : H b = none :=
  lone_free A fun z => by
    rw [z, ha] at e
    cases e
    exact hd es n d
theorem lone_ns (A : Lone H a) (ha : s.heap.get? a = some o) (hd : ∀ es n, o.data ≠ .dict es n) {b : Addr} {m : Str → Option Value} (h : s.heap.Ns b m) : (hidT s.heap H).Ns b m := by
  obtain ⟨u, es, n, e, d, r⟩ := h
  exact ⟨u, es, n, lone_base e (lone_dict A ha hd e d), d, r⟩
theorem lone_mod (A : Lone H a) (ha : s.heap.get? a = some o) (hd : ∀ es n, o.data ≠ .dict es n) (KX : K.In s.heap) (hK : H a ≠ none → K.lookup a = none) (g : s.heap.Ns mainGlobals mg) (b : s.heap.Ns builtinsNs mb)
    (bb : ∀ x : Str, x ≠ "__name__" → mb x = bootBuiltins x) (lim : s.heap.NoLimit) : Mod K mg (hidT s.heap H) := by
  have kin : K.In (hidT s.heap H) := fun c u e => by
    refine lone_base (KX c u e) ?_
    by_cases z : c = a
    · cases q : H a with
      | none => rw [z]; exact q
      | some y =>
        rw [z, hK (by rw [q]; exact fun z => nomatch z)] at e
        cases e
    · exact lone_free A z
  refine ⟨kin, lone_ns A ha hd g, ⟨mb, lone_ns A ha hd b, bb⟩, ?_⟩
  obtain ⟨mc, h1, h2⟩ := lim
  exact ⟨mc, lone_ns A ha hd h1, h2⟩
/-- what a law's run leaves, from its promise -/
theorem lone_run {CX : CXT} {k : Nat} {fa : Addr} {fd : FuncData} {x : Str} {sp : Sp} (A : Lone H a) (ha : s.heap.get? a = some o) (hd : ∀ es n, o.data ≠ .dict es n) (KX : K.In s.heap) (hK : H a ≠ none → K.lookup a = none)
    (g : s.heap.Ns mainGlobals mg) (b : s.heap.Ns builtinsNs mb) (bb : ∀ x : Str, x ≠ "__name__" → mb x = bootBuiltins x) (lim : s.heap.NoLimit) (hg : s.gens = #[]) (only : Only H) (hok : HOk P w H s.heap) (gu : callerA.guards = some []) (hr : Room k callerA)
    (F : ∀ base : Heap, K.In base → base.Ns mainGlobals mg → FnG P w K mg base CX k fa fd [x] sp) (bnd : ∀ (s : Shared) (u : Value), BindsTo s fd ⟨[u], []⟩ [(x, u)])
    (hs : sp [.ref a] H (fun v _ => v = .bl true) fun _ _ _ => False) (hCX : ∀ e s', CX [] H s (fun _ _ _ => False) e s' → False) :
    codeAny (model P w) callerA (.call (.ref fa) ⟨[.ref a], []⟩) (fun r s' => r = .ok (.ret (.bool true)) ∧ OldK s.heap s'.heap ∧ s'.os = s.os ∧ AllBare s'.gens) s := by
  have M := lone_mod A ha hd KX hK g b bb lim
  have ev : Env0 P w K mg (hidT s.heap H) callerA [] s H := by
    refine ⟨rfl, M, fun c u e => of_hidT e, Nat.le_of_eq (hidT_size _ _), True.intro, ?_, hok, .of_eq hg⟩
    intro c hc
    cases hc
  refine codeAny_mono ((F _ M.kin M.glob).go callerA [] s H ⟨[.ref a], []⟩ [.ref a] [.ref a] _ _ gu hr ev (bnd s (.ref a)) (.cons rfl .nil) hs) ?_
  intro r s' h
  cases r with
  | error e => exact False.elim (hCX e s' h)
  | ok fl =>
    cases fl with
    | next => exact h.elim
    | brk => exact h.elim
    | cont => exact h.elim
    | ret u =>
      obtain ⟨v, H', os, bare, un, hok', r', q⟩ := h
      have ev : v = V.bl true := q
      rw [ev] at r'
      cases (show u = Value.bool true from r')
      refine ⟨rfl, OldK.of_keep ?_, os, bare⟩
      intro c u e
      cases q : H c with
      | none => exact un.keep c u e q (fun z => nomatch z) (fun z => nomatch z)
      | some y =>
        cases only c with
        | inl z =>
          rw [q] at z
          cases z
        | inr z =>
          obtain ⟨ob, xs, z⟩ := z
          have e1 := (hok c _ z).1
          have e2 := (hok' c _ (un.frzs c ob _ z)).1
          rw [e] at e1
          cases e1
          exact e2
theorem lawG {CX : CXT} {k : Nat} {fa : Addr} {fd : FuncData} {x : Str} {sp : Sp} {vs : List Value} {ns : List Int} (KX : K.In s.heap) (g : s.heap.Ns mainGlobals mg) (b : s.heap.Ns builtinsNs mb)
    (bb : ∀ x : Str, x ≠ "__name__" → mb x = bootBuiltins x) (lim : s.heap.NoLimit) (hg : s.gens = #[]) (ha : s.heap.get? a = some { cls := .type "list", data := .seq vs.toArray }) (hi : IntsAre vs ns) (hl : ns.length ≤ sizeLine)
    (gu : callerA.guards = some []) (hr : Room k callerA) (F : ∀ base : Heap, K.In base → base.Ns mainGlobals mg → FnG P w K mg base CX k fa fd [x] sp) (bnd : ∀ (s : Shared) (u : Value), BindsTo s fd ⟨[u], []⟩ [(x, u)])
    (hs : ∀ H : Hp, Only H → SqL K H a (ns.map V.int) → sp [.ref a] H (fun v _ => v = .bl true) fun _ _ _ => False) (hCX : ∀ H e s', CX [] H s (fun _ _ _ => False) e s' → False) :
    codeAny (model P w) callerA (.call (.ref fa) ⟨[.ref a], []⟩) (fun r s' => r = .ok (.ret (.bool true)) ∧ OldK s.heap s'.heap ∧ s'.os = s.os ∧ AllBare s'.gens) s := by
  have rv := vals_ints hi
  have nd : ∀ es n, ({ cls := .type "list", data := .seq vs.toArray } : Obj).data ≠ .dict es n := fun es n z => nomatch z
  cases hk : K.lookup a with
  | some o =>
    have e := KX a o hk
    rw [ha] at e
    cases e
    have sq : SqL K (fun _ => none) a (ns.map V.int) := Or.inr ⟨_, vs.toArray, _, hk, rfl, rfl, rfl, (by rw [List.size_toArray, hi.length]; exact hl), (by simpa using rv)⟩
    have on : Only (fun _ => none) := fun _ => Or.inl rfl
    exact lone_run (H := fun _ => none) (fun b z => absurd rfl z) ha nd KX (fun z => absurd rfl z) g b bb lim hg on (fun c u z => nomatch z) gu hr F bnd (hs _ on sq) (hCX _)
  | none =>
    have on : Only (upd (fun _ => none) a (.frz { cls := .type "list", data := .seq vs.toArray } (.lst (ns.map V.int)))) := fun c => by
      by_cases z : c = a
      · rw [z]
        exact Or.inr ⟨_, _, upd_same⟩
      · exact Or.inl (upd_ne z)
    refine lone_run (a := a) (fun c z => ?_) ha nd KX (fun _ => hk) g b bb lim hg on (fun c u z => ?_) gu hr F bnd (hs _ on (.inl (.inr ⟨_, upd_same⟩))) (hCX _)
    · by_cases y : c = a
      · exact y
      · exact (z (upd_ne y)).elim
    · by_cases y : c = a
      · rw [y, upd_same] at z
        cases z
        rw [y]
        exact ⟨ha, by rw [List.length_map]; exact hl, vs, _, rv, ha⟩
      · rw [upd_ne y] at z
        cases z
end
/-- the row's walk -/
theorem walkG {l : PySem.W.OpenLaw} {n k : Nat} {q : Program} {loose : List Str} {XP : (Str → Option Value) → Heap → Prop} {YP : World → Heap → Prop} {d : DefRec} {K : Params → PySem.W.Frag} {sp : PySem.W.Frag → Sp} {x : Str}
    (hn : l.most = some n) (hn2 : n ≤ sizeLine) (hdf : d.params.defaults = []) (gu : callerA.guards = some []) (hr : Room k callerA) (hY : ∀ (w : World) (h : Heap), YP w h → (K w.params).In h)
    (F : ∀ (w : World) (mg : Str → Option Value) (fa : Addr) (h : Heap), (K w.params).In h → h.Ns mainGlobals mg → mg d.name = some (.ref fa) →
      ∃ fd : FuncData, (∀ (s : Shared) (u : Value), BindsTo s fd ⟨[u], []⟩ [(x, u)]) ∧ ∀ base : Heap, (K w.params).In base → base.Ns mainGlobals mg → FnG l.prog w (K w.params) mg base CX0 k fa fd [x] (sp (K w.params)))
    (hs : ∀ (K : PySem.W.Frag) (H : Hp) (a : Addr) (ns : List Int), ns.length ≤ n → Only H → SqL K H a (ns.map V.int) → sp K [.ref a] H (fun v _ => v = .bl true) fun _ _ _ => False) :
    PySem.W.WalkO q loose XP YP l.row.toRowW d [] (fun f vs => PySem.call f vs) := by
  refine Att.attach_call hn hdf ?_
  intro w s0 s1 mg mb fa o pm cd doc a vs ns G Y ho hd hcd hmg hobj hints hlen hg
  have KX := hY w s1.heap Y
  obtain ⟨fd, bnd, FF⟩ := F w mg fa s1.heap KX G.T.g hmg
  exact lawG KX G.T.g G.T.b G.T.builtins G.T.nolimit hg hobj hints (Nat.le_trans hlen hn2) gu hr FF bnd (fun H on sq => hs (K w.params) H a ns hlen on sq) (fun _ _ _ z => z)
end Rw
set_option Elab.async false
set_option linter.all false
set_option maxRecDepth 100000
set_option maxHeartbeats 4000000
namespace Rw
open PySem PySem.Spec PyProof.Rows L2
/-- how a dict's key reads -/
def keyD : Key → PyData
  | .inl i => .int i
  | .inr x => .str x
mutual
/-- what v is, as data: lists and tuples that are tracked, dicts with keys that are ints or texts -/
inductive Any (H : Hp) : V → PyData → Prop
  | non : Any H .non .none
  | bl (b : Bool) : Any H (.bl b) (.bool b)
  | int (i : Int) : Any H (.int i) (.int i)
  | str (x : Str) : Any H (.str x) (.str x)
  | lst {a : Addr} {xs : List V} {ds : List PyData} : H a = some (.lst xs) → AnyL H xs ds → Any H (.ref a) (.list ds)
  | tup {a : Addr} {xs : List V} {ds : List PyData} : H a = some (.tup xs) → AnyL H xs ds → Any H (.ref a) (.tuple ds)
  | dct {a : Addr} {kvs : List (Key × V)} {ds : List (PyData × PyData)} : H a = some (.dK kvs) → AnyK H kvs ds → Any H (.ref a) (.dict ds)
inductive AnyL (H : Hp) : List V → List PyData → Prop
  | nil : AnyL H [] []
  | cons {v : V} {vs : List V} {d : PyData} {ds : List PyData} : Any H v d → AnyL H vs ds → AnyL H (v :: vs) (d :: ds)
inductive AnyK (H : Hp) : List (Key × V) → List (PyData × PyData) → Prop
  | nil : AnyK H [] []
  | cons {k : Key} {v : V} {vs : List (Key × V)} {d : PyData} {ds : List (PyData × PyData)} : Any H v d → AnyK H vs ds → AnyK H ((k, v) :: vs) ((keyD k, d) :: ds)
end
section
variable {prog : Program} {w : World} {h : Heap}
/-- u lies as the data d in h, and is shown by repr -/
def Shows (prog : Program) (w : World) (h : Heap) (u : Value) (d : PyData) : Prop := ∃ as, Reads h u d as ∧ ∃ bs, ReadAtMost h d.depth bs ∧ ReprK prog w bs h d.depth u d.shown
def ShowsL (prog : Program) (w : World) (h : Heap) (us : List Value) (ds : List PyData) : Prop := ∃ as, ReadsAll h us ds as ∧ ∃ bs, ReadAtMost h (PyData.depthAll ds) bs ∧ ReprAllK prog w bs h (PyData.depthAll ds) us (PyData.shownAll ds)
theorem shows_flat {u : Value} {d : PyData} (r : Reads h u d []) (k : ReprIs prog w u d.shown) : Shows prog w h u d := ⟨[], r, [], fun _ z => (nomatch z), ReprK.of_is k [] h d.depth⟩
theorem showsL_nil : ShowsL prog w h [] [] := ⟨[], .nil, [], fun _ z => (nomatch z), by simp only [PyData.shownAll]; exact .nil⟩
theorem showsL_cons {u : Value} {d : PyData} {us : List Value} {ds : List PyData} (x : Shows prog w h u d) (y : ShowsL prog w h us ds) : ShowsL prog w h (u :: us) (d :: ds) := by
  obtain ⟨a1, r1, b1, m1, k1⟩ := x
  obtain ⟨a2, r2, b2, m2, k2⟩ := y
  have e : PyData.depthAll (d :: ds) = max d.depth (PyData.depthAll ds) := by simp only [PyData.depthAll]
  have l1 : d.depth ≤ max d.depth (PyData.depthAll ds) := Nat.le_max_left _ _
  have l2 : PyData.depthAll ds ≤ max d.depth (PyData.depthAll ds) := Nat.le_max_right _ _
  refine ⟨a1 ++ a2, .cons r1 r2, b1 ++ b2, ?_, ?_⟩
  · rw [e]
    exact ReadAtMost.append (m1.mono l1) (m2.mono l2)
  · rw [e]
    simp only [PyData.shownAll]
    exact .cons (ReprK.level_le (ReprK.more k1 fun b z => List.mem_append_left b2 z) l1) (ReprAllK.more_le (fun b z => List.mem_append_right b1 z) l2 k2)
/-- the parts of a list -/
structure ListAt (h : Heap) (a : Addr) (us : List Value) (o : Obj) (n : Nat) : Prop where
  get : h.get? a = some o
  cls : o.cls = .type "list"
  dat : o.data = .seq us.toArray n
structure TupleAt (h : Heap) (a : Addr) (us : List Value) (o : Obj) (n : Nat) : Prop where
  get : h.get? a = some o
  cls : o.cls = .type "tuple"
  dat : o.data = .seq us.toArray n
structure DictAt' (h : Heap) (a : Addr) (es : Array DictEntry) (o : Obj) (n : Nat) : Prop where
  get : h.get? a = some o
  cls : o.cls = .type "dict"
  dat : o.data = .dict es n
  off : (a == sysModules) = false
theorem list_reads {a : Addr} {us : List Value} {o : Obj} {n : Nat} {ds : List PyData} {as : List Addr} (L : ListAt h a us o n) (r : ReadsAll h us ds as) : Reads h (.ref a) (.list ds) (a :: as) := .list L.get L.cls L.dat r
theorem tuple_reads {a : Addr} {us : List Value} {o : Obj} {n : Nat} {ds : List PyData} {as : List Addr} (L : TupleAt h a us o n) (r : ReadsAll h us ds as) : Reads h (.ref a) (.tuple ds) as := .tuple L.get L.cls L.dat r
theorem off_of {a : Addr} {d : PyData} {as bs : List Addr} {m : Nat} (r : Reads h (.ref a) d as) (e : d.depth = m + 1) (k : ReadAtMost h m bs) : a ∉ bs := not_mem_of_deeper r (by omega) k
theorem shows_list {a : Addr} {us : List Value} {o : Obj} {n : Nat} {ds : List PyData} (L : ListAt h a us o n) (x : ShowsL prog w h us ds) : Shows prog w h (.ref a) (.list ds) := by
  obtain ⟨as, r, bs, m, k⟩ := x
  have R := list_reads L r
  have dp : (PyData.list ds).depth = PyData.depthAll ds + 1 := by simp only [PyData.depth]
  refine ⟨_, R, a :: bs, ReadAtMost.cons R (by omega) m, ?_⟩
  rw [dp]
  simp only [PyData.shown]
  cases us with
  | nil =>
    cases r
    simp only [PyData.shownAll, listText_nil]
    exact ReprK.listEmpty L.get L.cls L.dat
  | cons u us => exact ReprK.list L.get L.cls L.dat (off_of R dp m) (by simpa using k.length_eq) (fun i y e => k.item i y (by simpa using e))
theorem shows_tuple {a : Addr} {us : List Value} {o : Obj} {n : Nat} {ds : List PyData} (L : TupleAt h a us o n) (x : ShowsL prog w h us ds) : Shows prog w h (.ref a) (.tuple ds) := by
  obtain ⟨as, r, bs, m, k⟩ := x
  have R := tuple_reads L r
  have dp : (PyData.tuple ds).depth = PyData.depthAll ds + 1 := by simp only [PyData.depth]
  refine ⟨_, R, a :: bs, ReadAtMost.cons R (by omega) m, ?_⟩
  rw [dp]
  simp only [PyData.shown]
  exact ReprK.tuple L.get L.cls L.dat (off_of R dp m) k
theorem shows_dict {a : Addr} {es : Array DictEntry} {o : Obj} {n : Nat} {kvs : List (PyData × PyData)} (L : DictAt' h a es o n) (x : ShowsL prog w h (es.toList.map (·.key)) (kvs.map (·.1))) (y : ShowsL prog w h (es.toList.map (·.val)) (kvs.map (·.2))) :
    (∃ as, Reads h (.ref a) (.dict kvs) as) ∧ (∃ bs, ReadAtMost h (PyData.depthKv kvs) bs ∧ a ∉ bs ∧ ReprEntriesK prog w bs h (PyData.depthKv kvs) es.toList (PyData.shownKv kvs)) := by
  obtain ⟨a1, r1, b1, m1, k1⟩ := x
  obtain ⟨a2, r2, b2, m2, k2⟩ := y
  have R : Reads h (.ref a) (.dict kvs) (a :: a1 ++ a2) := .dict L.get L.cls L.dat r1 r2
  have dp : (PyData.dict kvs).depth = PyData.depthKv kvs + 1 := by simp only [PyData.depth]
  have m : ReadAtMost h (PyData.depthKv kvs) (b1 ++ b2) := ReadAtMost.append (m1.mono (PyData.depthAll_keys_le kvs)) (m2.mono (PyData.depthAll_vals_le kvs))
  refine ⟨⟨_, R⟩, b1 ++ b2, m, off_of R dp m, ?_⟩
  rw [PyData.shownKv_eq]
  have j1 := ReprAllK.more_le (fun b z => List.mem_append_left b2 z) (PyData.depthAll_keys_le kvs) k1
  have j2 := ReprAllK.more_le (fun b z => List.mem_append_right b1 z) (PyData.depthAll_vals_le kvs) k2
  exact ReprEntriesK.of_two es.toList _ _ j1 j2
theorem shows_dict' {a : Addr} {es : Array DictEntry} {o : Obj} {n : Nat} {kvs : List (PyData × PyData)} (L : DictAt' h a es o n) (x : ShowsL prog w h (es.toList.map (·.key)) (kvs.map (·.1))) (y : ShowsL prog w h (es.toList.map (·.val)) (kvs.map (·.2))) :
    Shows prog w h (.ref a) (.dict kvs) := by
  obtain ⟨⟨as, R⟩, bs, m, na, k⟩ := shows_dict L x y
  have dp : (PyData.dict kvs).depth = PyData.depthKv kvs + 1 := by simp only [PyData.depth]
  refine ⟨as, R, a :: bs, ReadAtMost.cons R (by omega) m, ?_⟩
  rw [dp]
  simp only [PyData.shown]
  exact ReprK.dict L.get L.cls L.dat L.off na k
end
section
variable {X : Cx} {pins : List (Addr × Obj)} {σ : L2.St} {H : Hp} {s : Shared}
theorem key_shows {P : Program} {w : World} {h : Heap} (k : Key) (v : Value) (hk : (mixKind P w).is k v = true) (hs : (keyD k).showable = true) (hz : (keyD k).shown.length ≤ sizeLine) : Shows P w h v (keyD k) := by
  rcases keyIs_shape hk with ⟨i, t, e1, e2⟩ | ⟨x, t, e1, e2⟩
  · subst e1 e2
    refine shows_flat (.int i t) ?_
    simp only [keyD, PyData.shown]
    exact ReprIs.int t (by simpa [keyD, PyData.showable] using hs)
  · subst e1 e2
    refine shows_flat (.str x t) ?_
    simp only [keyD, PyData.shown]
    exact ReprIs.str x t (by simpa only [keyD, PyData.shown] using hz)
theorem lst_at (I : Inv X pins σ H s) {a : Addr} {xs : List V} (e : H a = some (.lst xs)) : ∃ us o n, ListAt s.heap a us o n ∧ Vals xs us := by
  obtain ⟨_, its, n, rv, g⟩ := (show ObjOk X.prog X.w H s.heap a (.lst xs) from I.hok a _ e)
  exact ⟨its, _, n, ⟨g, rfl, rfl⟩, rv⟩
theorem tup_at (I : Inv X pins σ H s) {a : Addr} {xs : List V} (e : H a = some (.tup xs)) : ∃ us o n, TupleAt s.heap a us o n ∧ Vals xs us := by
  obtain ⟨_, its, rv, o, g, c, n, dt⟩ := (show ObjOk X.prog X.w H s.heap a (.tup xs) from I.hok a _ e)
  exact ⟨its, o, n, ⟨g, c, dt⟩, rv⟩
theorem dct_at (I : Inv X pins σ H s) {a : Addr} {kvs : List (Key × V)} (e : H a = some (.dK kvs)) : ∃ vs es o n, DictAt' s.heap a es o n ∧ KV kvs vs ∧ Pairs (mixKind X.prog X.w) es.toList vs := by
  obtain ⟨_, off, vs, rel, o, es, n, g, c, dt, _, p, _⟩ := (show ObjOk X.prog X.w H s.heap a (.dK kvs) from I.hok a _ e)
  exact ⟨vs, es, o, n, ⟨g, c.1, dt, off⟩, rel, p⟩
mutual
theorem any_shows (I : Inv X pins σ H s) : ∀ (d : PyData) (v : V) (u : Value), Any H v d → RelV v u → d.showable = true → d.shown.length ≤ sizeLine → Shows X.prog X.w s.heap u d
  | .none, v, u, h, r, _, _ => by
    cases h
    cases (show u = Value.none from r)
    exact shows_flat .none (by simp only [PyData.shown]; exact ReprIs.none)
  | .bool b, v, u, h, r, _, _ => by
    cases h
    cases (show u = Value.bool b from r)
    exact shows_flat (.bool b) (by simp only [PyData.shown]; exact ReprIs.bool b)
  | .int i, v, u, h, r, sh, _ => by
    cases h
    obtain ⟨t, e⟩ := (show ∃ t, u = Value.int i t from r)
    rw [e]
    exact shows_flat (.int i t) (by simp only [PyData.shown]; exact ReprIs.int t (by simpa [PyData.showable] using sh))
  | .str x, v, u, h, r, _, sz => by
    cases h
    obtain ⟨t, e⟩ := (show ∃ t, u = Value.str x t from r)
    rw [e]
    exact shows_flat (.str x t) (by simp only [PyData.shown]; exact ReprIs.str x t (by simpa only [PyData.shown] using sz))
  | .list ds, v, u, h, r, sh, sz => by
    cases h with
    | lst ea ha =>
      rename_i a xs
      cases (show u = Value.ref a from r)
      obtain ⟨us, o, n, L, rv⟩ := lst_at I ea
      have z : (listText (PyData.shownAll ds)).length ≤ sizeLine := by simpa only [PyData.shown] using sz
      exact shows_list L (any_showsL I ds xs us ha rv (by simpa [PyData.showable] using sh) fun t ht => Nat.le_trans (listText_mem_le ht) z)
  | .tuple ds, v, u, h, r, sh, sz => by
    cases h with
    | tup ea ha =>
      rename_i a xs
      cases (show u = Value.ref a from r)
      obtain ⟨us, o, n, L, rv⟩ := tup_at I ea
      have z : (tupleText (PyData.shownAll ds)).length ≤ sizeLine := by simpa only [PyData.shown] using sz
      exact shows_tuple L (any_showsL I ds xs us ha rv (by simpa [PyData.showable] using sh) fun t ht => Nat.le_trans (tupleText_mem_le ht) z)
  | .dict ds, v, u, h, r, sh, sz => by
    cases h with
    | dct ea ha =>
      rename_i a kvs
      cases (show u = Value.ref a from r)
      obtain ⟨vs, es, o, n, L, rel, p⟩ := dct_at I ea
      have z : (dictText (PyData.shownKv ds)).length ≤ sizeLine := by simpa only [PyData.shown] using sz
      obtain ⟨x, y⟩ := any_showsK I ds kvs vs es.toList ha rel p (by simpa [PyData.showable] using sh) fun t ht => Nat.le_trans (dictText_mem_le ht) z
      exact shows_dict' L x y
theorem any_showsL (I : Inv X pins σ H s) : ∀ (ds : List PyData) (vs : List V) (us : List Value), AnyL H vs ds → Vals vs us → PyData.showableAll ds = true → (∀ t ∈ PyData.shownAll ds, t.length ≤ sizeLine) → ShowsL X.prog X.w s.heap us ds
  | [], vs, us, h, r, _, _ => by
    cases h
    cases r
    exact showsL_nil
  | d :: ds, vs, us, h, r, sh, sz => by
    have sh' : d.showable = true ∧ PyData.showableAll ds = true := by simpa [PyData.showableAll] using sh
    simp only [PyData.shownAll] at sz
    cases h with
    | cons h1 h2 =>
      cases r with
      | cons r1 r2 => exact showsL_cons (any_shows I d _ _ h1 r1 sh'.1 (sz _ List.mem_cons_self)) (any_showsL I ds _ _ h2 r2 sh'.2 fun t ht => sz t (List.mem_cons_of_mem _ ht))
theorem any_showsK (I : Inv X pins σ H s) : ∀ (ds : List (PyData × PyData)) (kvs : List (Key × V)) (us : List (Key × Value)) (es : List DictEntry), AnyK H kvs ds → KV kvs us → Pairs (mixKind X.prog X.w) es us → PyData.showableKv ds = true →
    (∀ t ∈ PyData.shownKv ds, t.length ≤ sizeLine) → ShowsL X.prog X.w s.heap (es.map (·.key)) (ds.map (·.1)) ∧ ShowsL X.prog X.w s.heap (es.map (·.val)) (ds.map (·.2))
  | [], vs, us, es, h, r, p, _, _ => by
    cases h
    cases r
    cases p
    exact ⟨showsL_nil, showsL_nil⟩
  | (kd, d) :: ds, vs, us, es, h, r, p, sh, sz => by
    have sh' : (kd.showable = true ∧ d.showable = true) ∧ PyData.showableKv ds = true := by simpa [PyData.showableKv] using sh
    simp only [PyData.shownKv] at sz
    have top := sz _ List.mem_cons_self
    rw [strLen_append, strLen_append] at top
    cases h with
    | cons h1 h2 =>
      cases r with
      | cons r1 r2 =>
        rename_i k v vs' q us'
        obtain ⟨kq, uq⟩ := q
        obtain ⟨ek, r1⟩ := r1
        cases (show k = kq from ek)
        cases p with
        | cons hk hv hp =>
          obtain ⟨x, y⟩ := any_showsK I ds _ _ _ h2 r2 hp sh'.2 fun t ht => sz t (List.mem_cons_of_mem _ ht)
          refine ⟨showsL_cons (key_shows k _ hk sh'.1.1 (by omega)) x, ?_⟩
          have e := any_shows I d _ _ h1 r1 sh'.1.2 (by omega)
          rw [← hv] at e
          exact showsL_cons e y
end
/-- repr of data that lies at an address -/
def rRepr : List V → Hp → VK → Prop := fun xs H Q => ∃ (a : Addr) (d : PyData), xs = [.ref a] ∧ Any H (.ref a) d ∧ d.showable = true ∧ d.depth ≤ 60 ∧ d.shown.length ≤ sizeLine ∧ Q (.str d.shown) H
theorem call_repr (gu : X.A.guards = some []) (hu : X.A.units + 64 < cLine) : CallR X (.builtin "repr") rRepr := by
  intro pins s σ H xs us Q I r h
  obtain ⟨a, d, e, an, sh, dp, sz, q⟩ := h
  subst e
  obtain ⟨u, e, ru⟩ := vals1 r
  subst e
  cases (show u = Value.ref a from ru)
  have fin : ∀ h' u tk, (∀ b o, s.heap.get? b = some o → h'.get? b = some o) → EP X pins σ Q (.str d.shown u) { s with heap := h', toks := tk } := fun h' t tk keep => ⟨V.str d.shown, H, Inv.kept I keep, ⟨t, rfl⟩, q⟩
  have gu1 : X.A.in1.guards = some [] := gu
  have un1 : X.A.in1.units = X.A.units + 1 := rfl
  cases an with
  | lst ea ha =>
    rename_i xs ds
    obtain ⟨us, o, n, L, rv⟩ := lst_at I ea
    have z : (listText (PyData.shownAll ds)).length ≤ sizeLine := by simpa only [PyData.shown] using sz
    have D : (PyData.list ds).depth = PyData.depthAll ds + 1 := by simp only [PyData.depth]
    obtain ⟨as, rd, bs, m, k⟩ := any_showsL I ds xs us ha rv (by simpa [PyData.showable] using sh) fun t ht => Nat.le_trans (listText_mem_le ht) z
    have ty : s.TypeIs (.ref a) "list" := ⟨o, L.get, L.cls⟩
    refine call_repr_slot (by omega) ty F.slot_list_repr.toG ?_
    simp only [PyData.shown] at fin
    cases us with
    | nil =>
      cases rd
      simp only [PyData.shownAll, listText_nil] at fin
      exact call_list_repr_empty ty L.get L.dat ⟨_, _, rfl, fin s.heap _ _ fun _ _ z => z⟩
    | cons u us => exact call_list_reprK L.get L.cls L.dat (off_of (list_reads L rd) D m) (by simpa using k.length_eq) (fun i y e => k.item i y (by simpa using e)) gu1 (fun b _ => Clear.nil b) (by omega) (fun _ _ z => z) (fun h' t tk keep => ⟨_, _, rfl, fin h' t tk keep⟩) z
  | tup ea ha =>
    rename_i xs ds
    obtain ⟨us, o, n, L, rv⟩ := tup_at I ea
    have z : (tupleText (PyData.shownAll ds)).length ≤ sizeLine := by simpa only [PyData.shown] using sz
    have D : (PyData.tuple ds).depth = PyData.depthAll ds + 1 := by simp only [PyData.depth]
    obtain ⟨as, rd, bs, m, k⟩ := any_showsL I ds xs us ha rv (by simpa [PyData.showable] using sh) fun t ht => Nat.le_trans (tupleText_mem_le ht) z
    refine call_repr_slot (by omega) ⟨o, L.get, L.cls⟩ F.slot_tuple_repr ?_
    simp only [PyData.shown] at fin
    exact call_tuple_reprK L.get L.cls L.dat (off_of (tuple_reads L rd) D m) k gu1 (fun b _ => Clear.nil b) (by omega) (fun _ _ z => z) (fun h' t tk keep => ⟨_, _, rfl, fin h' t tk keep⟩) z
  | dct ea ha =>
    rename_i kvs ds
    obtain ⟨vs, es, o, n, L, rel, p⟩ := dct_at I ea
    have z : (dictText (PyData.shownKv ds)).length ≤ sizeLine := by simpa only [PyData.shown] using sz
    have D : (PyData.dict ds).depth = PyData.depthKv ds + 1 := by simp only [PyData.depth]
    obtain ⟨x, y⟩ := any_showsK I ds kvs vs es.toList ha rel p (by simpa [PyData.showable] using sh) fun t ht => Nat.le_trans (dictText_mem_le ht) z
    obtain ⟨_, bs, m, na, k⟩ := shows_dict L x y
    refine call_repr_slot (by omega) ⟨o, L.get, L.cls⟩ F.slot_dict_repr ?_
    simp only [PyData.shown] at fin
    exact call_dict_reprK L.get L.cls L.dat L.off na k gu1 (fun b _ => Clear.nil b) (by omega) (fun _ _ z => z) (fun h' t tk keep => ⟨_, _, rfl, fin h' t tk keep⟩) z
end
end Rw
set_option Elab.async false
set_option linter.all false
set_option maxRecDepth 100000
set_option maxHeartbeats 4000000
namespace Rw
open PySem PySem.Spec PyProof.Rows L2
/-- a clause: its class, the slot of its name, its suite -/
structure Cl where
  c : Value
  slot : Option Nat
  ts : Addr → Value → Option Addr → TS
/-- the suite with the error at a, its name bound ahead of it and gone behind it -/
def Cl.run (q : Cl) (a : Addr) (cls : Value) (d : Option Addr) : TS := fun D σ H => match q.slot with
  | none => q.ts a cls d D σ H
  | some i => q.ts a cls d { nx := fun τ J => D.nx (τ.set i none) J, rt := D.rt, bk := fun τ J => D.bk (τ.set i none) J, ct := fun τ J => D.ct (τ.set i none) J } (σ.set i (some (.ref a))) H
/-- what the clauses wish of an error -/
def wCls (K : PySem.W.Frag) (Wo : WX) (D : Ends) : List Cl → WX
  | [] => Wo
  | q :: r => fun cls d σ H => ∃ b, PySem.W.exmOne K cls q.c = some b ∧ (b = true → ∀ a, H a = none → q.run a cls d D σ H) ∧ (b = false → wCls K Wo D r cls d σ H)
def SuiteOk (X : Cx) (sts : List Stmt) (ts : Addr → Value → Option Addr → TS) : Prop :=
  ∀ (a : Addr) (oe : Obj) (cls : Value) (d : Option Addr) (pn : List (Addr × Obj)), Zc cls d oe → (∃ vs, oe.data = .fields vs) → PSs (X.suite a ((a, oe) :: pn)) sts (ts a cls d)
inductive ClsOk (X : Cx) : List ExceptHandler → List Cl → Prop
  | nil : ClsOk X [] []
  | anon {x : Str} {c : Value} {ts : Addr → Value → Option Addr → TS} {st : Stmt} {sts : List Stmt} {np hp : Pos} {hs : List ExceptHandler} {l : List Cl} (hc : Names X x c) (ok : SuiteOk X (st :: sts) ts) (r : ClsOk X hs l) :
      ClsOk X (.ExceptHandler (some (.Name x np)) none (st :: sts) hp :: hs) (⟨c, none, ts⟩ :: l)
  | as {x n : Str} {i : Nat} {c : Value} {ts : Addr → Value → Option Addr → TS} {st : Stmt} {sts : List Stmt} {np hp : Pos} {hs : List ExceptHandler} {l : List Cl} (hi : X.N[i]? = some n) (hl : X.env.kindOf n = some .local) (hc : Names X x c)
      (ok : SuiteOk X (st :: sts) ts) (r : ClsOk X hs l) : ClsOk X (.ExceptHandler (some (.Name x np)) (some n) (st :: sts) hp :: hs) (⟨c, some i, ts⟩ :: l)
section
variable {X : Cx}
/-- what stands when an error has landed in this frame -/
structure Down (X : Cx) (B : Heap) (pins : List (Addr × Obj)) (σ : L2.St) (H : Hp) (a : Addr) (cls : Value) (d : Option Addr) (sI s : Shared) : Prop where
  inv : Inv X pins σ H sI
  nb : ∀ b o, sI.heap.get? b = some o → b ∉ frs X.stack → B.get? b = some o
  os : s.os = sI.os
  ag : AllBare s.gens
  free : H a = none
  up : sI.heap.UpToSlots s.heap
  fly : HandSPX.FlyingZ B (X.env :: X.outer) a (Zc cls d) s.heap
theorem Down.goes {B : Heap} {pins : List (Addr × Obj)} {σ : L2.St} {H : Hp} {a : Addr} {cls : Value} {d : Option Addr} {sI s : Shared} (W : Down X B pins σ H a cls d sI s) : Inv X pins σ H s :=
  Inv.landed W.inv W.nb W.fly.1 W.up W.os W.ag
theorem Down.more {B : Heap} {pins : List (Addr × Obj)} {σ : L2.St} {H : Hp} {a : Addr} {cls : Value} {d : Option Addr} {sI s : Shared} {h : Heap} (W : Down X B pins σ H a cls d sI s)
    (fl : HandSPX.FlyingZ B (X.env :: X.outer) a (Zc cls d) h) (u : s.heap.UpToSlots h) : Down X B pins σ H a cls d sI { s with heap := h } :=
  ⟨W.inv, W.nb, W.os, W.ag, W.free, Heap.UpToSlots.trans W.up u, fl⟩
/-- the error's own object: none of the frames -/
theorem Down.off {B : Heap} {pins : List (Addr × Obj)} {σ : L2.St} {H : Hp} {a : Addr} {cls : Value} {d : Option Addr} {sI s : Shared} (W : Down X B pins σ H a cls d sI s) (hf : X.env.frame = some X.env.locals) :
    a ≠ X.env.locals ∧ a ∉ X.fs := by
  obtain ⟨oe, vs, he, _, hd⟩ := W.fly.there
  have no : a ∉ frs (X.env :: X.outer) := fun hm => by
    obtain ⟨_, o, e, nf⟩ := Heap.FunFrames.mem W.fly.2.2.1 hm
    rw [he] at e
    cases e
    exact nf vs hd
  constructor
  · intro z
    exact no (List.mem_filterMap.mpr ⟨X.env, List.mem_cons_self, hf.trans (congrArg some z.symm)⟩)
  · intro hm
    obtain ⟨e, he, q⟩ := List.mem_filterMap.mp hm
    exact no (List.mem_filterMap.mpr ⟨e, List.mem_cons_of_mem X.env he, q⟩)
/-- in the suite -/
theorem Down.suite {B : Heap} {pins : List (Addr × Obj)} {σ : L2.St} {H : Hp} {a : Addr} {cls : Value} {d : Option Addr} {sI s : Shared} (W : Down X B pins σ H a cls d sI s) (hf : X.env.frame = some X.env.locals) :
    ∃ oe : Obj, s.heap.get? a = some oe ∧ Zc cls d oe ∧ (∃ vs, oe.data = .fields vs) ∧ Inv (X.suite a ((a, oe) :: (X.pn ++ pins))) [] σ H s := by
  obtain ⟨oe, vs, he, hz, hd⟩ := W.fly.there
  obtain ⟨n1, n2⟩ := W.off hf
  exact ⟨oe, he, hz, ⟨vs, hd⟩, Inv.suite W.goes he hd W.free n1 n2⟩
/-- the class of a clause is looked up, and asked -/
theorem Down.asks {B : Heap} {pins : List (Addr × Obj)} {σ : L2.St} {H : Hp} {a : Addr} {cls c : Value} {d : Option Addr} {sI s : Shared} {x : Str} {np : Pos} {b : Bool} {E : Value → Shared → Prop} {Q : Bool → Shared → Prop}
    (W : Down X B pins σ H a cls d sI s) (hf : X.env.frame = some X.env.locals) (hc : Names X x c) (hb : PySem.W.exmOne X.K cls c = some b) (q : Q b s) :
    wpAny (model X.prog X.w) (X.A.mark (some (.ref a))) (eval (.Name x np) X.env) (fun v s' => v = c ∧ s' = s) E s := by
  obtain ⟨oe, he, hz, _, S⟩ := W.suite hf
  obtain ⟨hg, hdbg, hm⟩ := hc
  rcases hm with hm | ⟨hm, hv, hn⟩
  · exact ld_glob (X := X.suite a ((a, oe) :: (X.pn ++ pins))) S hg hm ⟨rfl, rfl⟩ hdbg
  · exact ld_blt (X := X.suite a ((a, oe) :: (X.pn ++ pins))) S hg hm hv ⟨rfl, rfl⟩ hn hdbg
/-- the clauses, one after the other -/
theorem Down.clauses {B : Heap} {pins : List (Addr × Obj)} {σ : L2.St} {H : Hp} {a : Addr} {cls : Value} {d : Option Addr} {sI : Shared} {Wo : WX} {D : Ends} (hs : X.stack = X.env :: X.outer) (hf : X.env.frame = some X.env.locals) (hN : X.N.Nodup) (tk : Takes X Wo) :
    ∀ {hds : List ExceptHandler} {l : List Cl}, ClsOk X hds l → ∀ {s : Shared}, Down X B pins σ H a cls d sI s → wCls X.K Wo D l cls d σ H → wpAny (model X.prog X.w) X.A (handleBy (.ref a) X.env hds) (SP X pins D) X.xe s := by
  intro hds l hk
  induction hk with
  | nil =>
    intro s W wish
    refine wpAny_handleBy_nil ?_
    obtain ⟨_, _, _, oe, vs, T, oT, ts, he, hz, hd, h1, hr⟩ := id W.fly
    have nT : ¬ ((Value.ref T == Value.none) = true) := by simp
    unfold PySem.passOn
    refine wpAny_bind (wpAny_field he hd h1 ?_)
    rw [if_neg nT]
    have out : wpAny (model X.prog X.w) X.A (setFlight (.ref a) X.env.frame) (fun _ s4 => wpAny (model X.prog X.w) X.A (throw (.ref a) : Sem Flow) (SP X pins D) X.xe s4) X.xe s := by
      rw [hf]
      refine HandSPX.setFlight_upZ W.fly ?_
      intro h4 hh4 up4
      refine wpAny_throw (tk (.ref a) _ ⟨a, B, sI, pins, σ, H, cls, d, rfl, W.inv, W.nb, W.up.trans up4, ?_, W.free, W.os, W.ag, wish⟩)
      rw [hs]
      exact Or.inr (Or.inr hh4)
    first
      | exact wpAny_bind (wpAny_pure (wpAny_bind out))
      | exact wpAny_bind out
  | @anon x c ts st sts np hp hs' l' hc ok r ih =>
    intro s W wish
    obtain ⟨b, hb, yes, no⟩ := wish
    refine wpAny_handleBy_cons (codeAny_handlers_test ?_) (fun q => nomatch q)
    refine wpAny_mono (W.asks (E := fun _ _ => False) (Q := fun _ _ => True) hf hc hb True.intro) ?_ (fun _ _ z => z.elim)
    rintro v s' ⟨rfl, rfl⟩
    obtain ⟨oe, he, hz, hd, S⟩ := W.suite hf
    have LT : PySem.W.Looks (model X.prog X.w) s'.heap (typeOf (.ref a)) cls := fun A Q E s2 k q => wpAny_typeOf_ref (k a oe he) (by rw [hz.1]; exact q)
    refine (PySem.W.exm_one (M := model X.prog X.w) S.kIn LT hb).here ?_
    cases b with
    | false => exact ih W (no rfl)
    | true =>
      refine codeAny_handlers_suite (HandSPX.lands_againZ W.fly ?_)
      intro h4 fl4 up4
      obtain ⟨oe4, he4, hz4, hd4, S4⟩ := (W.more fl4 up4).suite hf
      refine wpAny_mono (PSs.run (ok a oe4 cls d (X.pn ++ pins) hz4 hd4) [] _ σ H D S4 (yes rfl a W.free)) ?_ (fun _ _ z => z.elim)
      intro fl s6 hsp
      have ok0 := W.inv.ok
      cases fl with
      | ret u =>
        obtain ⟨v6, σ6, H6, S6, r6, q6⟩ := hsp
        exact ⟨v6, σ6, H6, Inv.unsuite S6 ok0, r6, q6⟩
      | next =>
        obtain ⟨σ6, H6, S6, q6⟩ := hsp
        exact ⟨σ6, H6, Inv.unsuite S6 ok0, q6⟩
      | brk =>
        obtain ⟨σ6, H6, S6, q6⟩ := hsp
        exact ⟨σ6, H6, Inv.unsuite S6 ok0, q6⟩
      | cont =>
        obtain ⟨σ6, H6, S6, q6⟩ := hsp
        exact ⟨σ6, H6, Inv.unsuite S6 ok0, q6⟩
  | @as x n i c ts st sts np hp hs' l' hi hl hc ok r ih =>
    intro s W wish
    obtain ⟨b, hb, yes, no⟩ := wish
    refine wpAny_handleBy_cons (codeAny_handlers_test ?_) (fun q => nomatch q)
    refine wpAny_mono (W.asks (E := fun _ _ => False) (Q := fun _ _ => True) hf hc hb True.intro) ?_ (fun _ _ z => z.elim)
    rintro v s' ⟨rfl, rfl⟩
    obtain ⟨oe, he, hz, hd, S⟩ := W.suite hf
    have LT : PySem.W.Looks (model X.prog X.w) s'.heap (typeOf (.ref a)) cls := fun A Q E s2 k q => wpAny_typeOf_ref (k a oe he) (by rw [hz.1]; exact q)
    refine (PySem.W.exm_one (M := model X.prog X.w) S.kIn LT hb).here ?_
    cases b with
    | false => exact ih W (no rfl)
    | true =>
      refine codeAny_handlers_suite_as (HandSPX.lands_againZ W.fly ?_)
      intro h4 fl4 up4
      obtain ⟨oe4, he4, hz4, hd4, S4⟩ := (W.more fl4 up4).suite hf
      have ok0 := W.inv.ok
      refine store_ok (X := X.suite a ((a, oe4) :: (X.pn ++ pins))) (v := .ref a) S4 hN hi (Or.inl hl) rfl ?_ (Or.inr hl)
      intro s5 S5
      refine wpAny_mono (PSs.run (ok a oe4 cls d (X.pn ++ pins) hz4 hd4) [] s5 _ H _ S5 (yes rfl a W.free)) ?_ (fun _ _ z => z.elim)
      intro fl s6 hsp
      have gone : ∀ {τ : L2.St} {J : Hp} {Q : Shared → Prop}, Inv (X.suite a ((a, oe4) :: (X.pn ++ pins))) [] τ J s6 → (∀ s7, Inv X pins (τ.set i none) J s7 → Q s7) →
          wpAny (model X.prog X.w) X.A (do bindName X.env n .none; unbindBehindTheSuite X.env n hp) (fun _ s7 => Q s7) X.xe s6 := by
        intro τ J Q S6 hq
        exact gone_ok (Inv.unsuite S6 ok0) hN hi hl hq
      cases fl with
      | ret u =>
        obtain ⟨v6, σ6, H6, S6, r6, q6⟩ := hsp
        exact gone S6 (fun s7 J7 => ⟨v6, _, H6, J7, r6, q6⟩)
      | next =>
        obtain ⟨σ6, H6, S6, q6⟩ := hsp
        exact gone S6 (fun s7 J7 => ⟨_, H6, J7, q6⟩)
      | brk =>
        obtain ⟨σ6, H6, S6, q6⟩ := hsp
        exact gone S6 (fun s7 J7 => ⟨_, H6, J7, q6⟩)
      | cont =>
        obtain ⟨σ6, H6, S6, q6⟩ := hsp
        exact gone S6 (fun s7 J7 => ⟨_, H6, J7, q6⟩)
/-- try: body / except ..: .. / except ..: .. -/
theorem ps_tries {body : List Stmt} {h0 : ExceptHandler} {hds : List ExceptHandler} {l : List Cl} {pos : Pos} {tb : WX → TS} {Wo : WX} (hs : X.stack = X.env :: X.outer) (hf : X.env.frame = some X.env.locals) (hN : X.N.Nodup) (tk : Takes X Wo)
    (hb : ∀ (W : WX) (pn : List (Addr × Obj)) (xe : Value → Shared → Prop), Takes (X.tr pn xe) W → PassesOwn (model X.prog X.w) X.A X.env xe → PSs (X.tr pn xe) body (tb W)) (hh : ClsOk X (h0 :: hds) l) :
    PS X (.Try body (h0 :: hds) [] [] pos) (fun D σ H => tb (wCls X.K Wo D l) D σ H) := by
  constructor
  intro pins s σ H D I h
  have ok0 := I.ok
  have fr : X.A.frames = some (X.env :: X.outer) := (Cx.Ok.frames ok0).trans (congrArg some hs)
  refine wpAny_Try_except ?_
  have land : ∀ (u : Value) (s' : Shared), XE (X.tr (X.pn ++ pins) (fun e s₁ => wpAny (model X.prog X.w) X.A (noteFrame e X.env) (fun _ s₂ => wpAny (model X.prog X.w) X.A (setFlight e none) (fun _ s₃ =>
      wpAny (model X.prog X.w) X.A (handleBy e X.env (h0 :: hds)) (SP X pins D) X.xe s₃) X.xe s₂) X.xe s₁)) (wCls X.K Wo D l) u s' →
      wpAny (model X.prog X.w) X.A (noteFrame u X.env) (fun _ s₂ => wpAny (model X.prog X.w) X.A (setFlight u none) (fun _ s₃ => wpAny (model X.prog X.w) X.A (handleBy u X.env (h0 :: hds)) (SP X pins D) X.xe s₃) X.xe s₂) X.xe s' := by
    intro u s' xx
    obtain ⟨a, B, sI, pins', τ, J, cls, d, eu, I', nb, up, sky, na, os, ag, wish⟩ := xx
    subst eu
    have sky2 : Sky B (X.env :: X.outer) a (Zc cls d) X.env.locals s'.heap := hs ▸ sky
    refine Sky.land Zc.steady fr hf sky2 ?_
    intro h3 fl3 up3
    exact Down.clauses hs hf hN tk hh ⟨Inv.ofTry I' ok0, nb, os, ag, na, up.trans up3, fl3⟩ wish
  refine wpAny_mono (PSs.run (hb (wCls X.K Wo D l) (X.pn ++ pins) _ land PassesOwn.looking) [] s σ H D (Inv.toTry I _) h) ?_ (fun e s1 he => he)
  intro fl s1 hsp
  cases fl with
  | ret u =>
    obtain ⟨v, τ, J, I', r, q⟩ := hsp
    exact ⟨v, τ, J, Inv.ofTry I' ok0, r, q⟩
  | next =>
    obtain ⟨τ, J, I', q⟩ := hsp
    exact wpAny_execs_nil ⟨τ, J, Inv.ofTry I' ok0, q⟩
  | brk =>
    obtain ⟨τ, J, I', q⟩ := hsp
    exact ⟨τ, J, Inv.ofTry I' ok0, q⟩
  | cont =>
    obtain ⟨τ, J, I', q⟩ := hsp
    exact ⟨τ, J, Inv.ofTry I' ok0, q⟩
end
end Rw
set_option Elab.async false
set_option linter.all false
set_option maxRecDepth 100000
set_option maxHeartbeats 4000000
namespace Rw
open PySem PySem.Spec PyProof.Rows L2
/-- x names a def that keeps sp when it is called with all but the values dvs -/
structure Own (P : Program) (w : World) (K : PySem.W.Frag) (mg : Str → Option Value) (base : Heap) (CX : CXT) (k : Nat) (x : Str) (ps : List Str) (dvs : List V) (sp : Sp) : Prop where
  has : ∃ (f : Addr) (fd : FuncData) (ds : List Value), mg x = some (.ref f) ∧ PySem.W.keepIn K (.ref f) = true ∧ FnOk P w K mg base CX k f fd ps sp ∧ Binds K fd ps ds ∧ Vals dvs ds
/-- where a def of the text stands behind the top -/
structure Df (K : PySem.W.Frag) (mg : Str → Option Value) (x : Str) (st : Stmt) (ps : List Str) : Prop where
  has : ∃ (f : Addr) (fd : FuncData), mg x = some (.ref f) ∧ Fun K x x st f fd ∧ Binds K fd ps []
section
variable {P : Program} {w : World} {K : PySem.W.Frag} {mg : Str → Option Value} {base : Heap} {CX : CXT} {k : Nat} {x : Str} {ps : List Str} {dvs : List V} {sp : Sp} {st : Stmt}
theorem Df.own (D : Df K mg x st ps) (h : ∀ (f : Addr) (fd : FuncData), Fun K x x st f fd → FnOk P w K mg base CX k f fd ps sp) : Own P w K mg base CX k x ps [] sp := by
  obtain ⟨f, fd, g, F, b⟩ := D.has
  exact ⟨f, fd, [], g, F.kp, h f fd F, b, .nil⟩
end
section
variable {X : Cx} {CX : CXT} {k : Nat} {ps : List Str} {sp : Sp} {dvs : List V} {E : XK} {x : Str} {p pos : Pos} {e : Expr} {es : List Expr} {t : TA}
theorem pe_own (F : Own X.prog X.w X.K X.mg X.base CX k x ps dvs sp) (hr : Room k X.A) (hx : Passes CX X E) (ha : PA X (e :: es) t) (hg : Gl X x := by rfl) (hdb : (x == ("__debug__" : Str)) = false := by decide)
    (he : starEach (e :: es) X.env = (false, eval e X.env) :: starEach es X.env := by rfl) (hpl : (backTo pos (starEach es X.env)).any (·.1) = false := by rfl) : PE X (.Call (.Name x p) (e :: es) [] pos) (tCall sp dvs E t) := by
  obtain ⟨f, fd, ds, hm, hk, G, b, v⟩ := F.has
  exact pe_call G hr hg hm hk b v hx ha hdb he hpl
/-- such a call in a try's body: what is raised is wished for at the slots -/
def tOwnS (sp : Sp) (dvs : List V) (W : WX) (t : TA) : TE := fun σ H Q => t σ H fun vs H1 => sp (vs ++ dvs) H1 Q (fun cls d H' => W cls d σ H')
theorem pe_ownS {W : WX} (F : Own X.prog X.w X.K X.mg X.base CX k x ps dvs sp) (hr : Room k X.A) (hx : ∀ σ, PassesAt CX X σ (fun cls d H' => W cls d σ H')) (ha : PA X (e :: es) t) (hg : Gl X x := by rfl) (hdb : (x == ("__debug__" : Str)) = false := by decide)
    (he : starEach (e :: es) X.env = (false, eval e X.env) :: starEach es X.env := by rfl) (hpl : (backTo pos (starEach es X.env)).any (·.1) = false := by rfl) : PE X (.Call (.Name x p) (e :: es) [] pos) (tOwnS sp dvs W t) := by
  obtain ⟨f, fd, ds, hm, hk, G, b, v⟩ := F.has
  constructor
  intro pins s σ H Q I h
  refine wpAny_Call_Name_kw (ld_glob I hg hm ?_ hdb)
  refine PySem.W.callWith_K (h₀ := X.base) I.ok.mod.kin hk ?_ he hpl
  refine thn (PA.run ha pos pins s σ H _ I h) ?_
  intro us s1 hh
  obtain ⟨vs, H1, I1, r, q⟩ := hh
  refine ⟨I1.kIn, ?_⟩
  have r2 : Vals (vs ++ dvs) (us ++ ds) := Vals.append r v
  have cnt : (us ++ ds).length = ps.length := (r2.length).symm.trans (G.len _ _ _ _ q)
  refine wpAny_call (codeAny_mono (G.run X.A X.stack s1 H1 ⟨us, []⟩ (us ++ ds) (vs ++ dvs) Q _ hr I1.env0 (b s1 us I1.kIn cnt) r2 q) ?_)
  intro res s2 hq
  cases res with
  | error er => exact hx σ pins H1 s1 er s2 I1 hq
  | ok fl =>
    cases fl with
    | ret u => exact Inv.after I1 hq
    | next => exact hq.elim
    | brk => exact hq.elim
    | cont => exact hq.elim
end
/-- x names such a class, at C -/
structure Err (K : PySem.W.Frag) (mg : Str → Option Value) (x : Str) (C : Addr) : Prop where
  g : mg x = some (.ref C)
  ox : OexC K C
  xf : XfC K C
  no : PySem.W.findIn K (.ref C) "value" = some none
  ini : ∃ (f : Addr) (q : Str) (st : Stmt) (fd : FuncData), PySem.W.findIn K (.ref C) "__init__" = some (some (.ref f)) ∧ PySem.W.typeIn K (.ref f) = some (.type "function") ∧ Fun K "__init__" q st f fd ∧ Binds K fd ["self", "value"] [] ∧
    FnScope ["self", "value"] ["self", "value"] (defScope st) ∧
    (∀ X : Cx, X.N = (["self", "value"] : List Str) → X.env.scope = defScope st → ∃ t : TS, PSs X (defBody st) t ∧ (∀ D σ H, tOst X.K "value" (tVar 0) (tVar 1) D σ H → t D σ H))
/-- an error of the class at C with the value v is let out, all else as it was -/
def Thrown (C : Addr) (v : V) (H : Hp) (E : XK) : Prop := ∀ (d : Addr) (H' : Hp), Same H H' → H d = none → H' d = some (.xd [(("value" : Str), v)]) → E (.ref C) (some d) H'
def spIni (K : PySem.W.Frag) (C : Addr) : Sp := fun vs H Q _ => ∃ (a : Addr) (v : V), vs = [.ref a, v] ∧ H a = some (exo a C none) ∧ ∀ dx, H dx = none → dx ≠ a → Q .non (upd (upd H dx (exd dx [(("value" : Str), v)])) a (exo a C (some dx)))
section
variable {P : Program} {w : World} {K : PySem.W.Frag} {mg : Str → Option Value} {base : Heap}
theorem Err.init {x : Str} {C : Addr} (T : Err K mg x C) : ∃ (f : Addr) (fd : FuncData), PySem.W.findIn K (.ref C) "__init__" = some (some (.ref f)) ∧ PySem.W.typeIn K (.ref f) = some (.type "function") ∧ Binds K fd ["self", "value"] [] ∧
    FnOk P w K mg base CX0 1 f fd ["self", "value"] (spIni K C) := by
  obtain ⟨f, q, st, fd, h1, h2, F, b, S, dv⟩ := T.ini
  refine ⟨f, fd, h1, h2, b, F.ok S (fun vs H Q E h => ?_) (fun cdv A outer s H vs Q E hr h => ?_)⟩
  · obtain ⟨a, v, e, _⟩ := h
    rw [e]
    rfl
  · obtain ⟨a, v, e, ea, k⟩ := h
    subst e
    obtain ⟨t, d, go⟩ := dv (cxOf CX0 P w K mg base ["self", "value"] q (defScope st) f cdv A outer s H E).nox rfl rfl
    refine ⟨t, d, go _ _ _ ?_⟩
    exact ⟨v, rfl, .ref a, rfl, a, C, rfl, T.ox, T.no, Or.inl ⟨ea, k⟩⟩
end
section
variable {X : Cx} {x : Str} {C : Addr} {e : Expr} {te : TE} {p pos pos2 : Pos} {W : WX}
/-- raise x(e) -/
def tThrow (K : PySem.W.Frag) (C : Addr) (W : WX) (te : TE) : TS := fun _ σ H => tMkO C (spIni K C) [] (tCons te tNil) σ H fun cls d H' => W cls d σ H'
theorem ps_throw (T : Err X.K X.mg x C) (hc : X.calm = true) (hr : Room 2 X.A) (tk : Takes X W) (he : PE X e te) (hg : Gl X x := by rfl) (hdb : (x == ("__debug__" : Str)) = false := by decide)
    (hs : starEach (e :: []) X.env = (false, eval e X.env) :: starEach [] X.env := by rfl) (hpl : (backTo pos (starEach [] X.env)).any (·.1) = false := by rfl) :
    PS X (.Raise (some (.Call (.Name x p) [e] [] pos)) none pos2) (tThrow X.K C W te) := by
  obtain ⟨f, fd, h1, h2, b, F⟩ := T.init (P := X.prog) (w := X.w) (base := X.base)
  exact ps_raise (pos := pos2) hc tk (pmk_oex (x := x) (p := p) (pos := pos) (dvs := []) (ds := []) T.ox h1 h2 F hr b .nil pass0 hg T.g (pa_cons he pa_nil hs) hdb hs hpl)
/-- what the reading of a raise asks, from Thrown -/
theorem thrown_go {K : PySem.W.Frag} {H : Hp} {E : XK} {v : V} (h : Thrown C v H E) : [v].length ≤ 1000 ∧ ∀ a, H a = none → spIni K C (.ref a :: ([v] ++ [])) (upd H a (exo a C none))
    (fun u H2 => u = .non ∧ ∃ (d : Addr) (fs : List (Str × V)), H2 a = some (exo a C (some d)) ∧ H2 d = some (exd d fs) ∧ H d = none ∧ E (.ref C) (some d) (upd (del H2 a) d (.xd fs))) (fun _ _ _ => False) := by
  refine ⟨by show 1 ≤ 1000; decide, fun a ha => ⟨a, v, rfl, upd_same, fun dx hd ne => ⟨rfl, dx, _, upd_same, by rw [upd_ne ne, upd_same], ?_, ?_⟩⟩⟩
  · rw [upd_ne ne] at hd
    exact hd
  · rw [upd_ne ne] at hd
    refine h dx _ (fun b o e => ?_) hd upd_same
    rw [upd_ne (ne_of_none e hd), del_ne (ne_of_none e ha), upd_ne (ne_of_none e ha), upd_ne (ne_of_none e hd), upd_ne (ne_of_none e ha)]
    exact e
end
end Rw
set_option Elab.async false
set_option linter.all false
set_option maxRecDepth 100000
set_option maxHeartbeats 4000000
namespace Rw
open PySem PySem.Spec PyProof.Rows L2
def kindS : PyData → String
  | .none => "NoneType" | .bool _ => "bool" | .int _ => "int" | .str _ => "str" | .list _ => "list" | .tuple _ => "tuple" | .dict _ => "dict"
def intish : PyData → Bool
  | .int _ => true | .bool _ => true | _ => false
def boolish : PyData → Bool
  | .bool _ => true | _ => false
def isIntD : PyData → Bool
  | .int _ => true | _ => false
section
variable {K : PySem.W.Frag} {H H' : Hp} {v : V} {d : PyData}
theorem any_ty (h : Any H v d) : TyX K H v (.type (kindS d)) := by
  cases h with
  | non => exact .base .non
  | bl b => exact .base (.bl b)
  | int i => exact .base (.int i)
  | str x => exact .base (.str x)
  | lst e _ => exact .base (.lst e)
  | tup e _ => exact .base (.tup e)
  | dct e _ => exact .base (.dK e)
theorem kit_int (d : PyData) : PySem.W.kitOne K (.type (kindS d)) (.type "int") = some (intish d) := by
  cases d with
  | none => exact kit_ty (show kitB "NoneType" "int" = some false by decide +kernel)
  | bool b => exact kit_ty (show kitB "bool" "int" = some true by decide +kernel)
  | int i => exact kit_ty (show kitB "int" "int" = some true by decide +kernel)
  | str x => exact kit_ty (show kitB "str" "int" = some false by decide +kernel)
  | list xs => exact kit_ty (show kitB "list" "int" = some false by decide +kernel)
  | tuple xs => exact kit_ty (show kitB "tuple" "int" = some false by decide +kernel)
  | dict kvs => exact kit_ty (show kitB "dict" "int" = some false by decide +kernel)
theorem kit_bool (d : PyData) : PySem.W.kitOne K (.type (kindS d)) (.type "bool") = some (boolish d) := by
  cases d with
  | none => exact kit_ty (show kitB "NoneType" "bool" = some false by decide +kernel)
  | bool b => exact kit_ty (show kitB "bool" "bool" = some true by decide +kernel)
  | int i => exact kit_ty (show kitB "int" "bool" = some false by decide +kernel)
  | str x => exact kit_ty (show kitB "str" "bool" = some false by decide +kernel)
  | list xs => exact kit_ty (show kitB "list" "bool" = some false by decide +kernel)
  | tuple xs => exact kit_ty (show kitB "tuple" "bool" = some false by decide +kernel)
  | dict kvs => exact kit_ty (show kitB "dict" "bool" = some false by decide +kernel)
theorem int_of (h : Any H v d) (e : isIntD d = true) : ∃ n, d = .int n ∧ v = .int n := by
  cases h with
  | int i => exact ⟨i, rfl, rfl⟩
  | _ => cases e
mutual
theorem any_keep (k : Same H H') : ∀ (d : PyData) (v : V), Any H v d → Any H' v d
  | .none, _, h => by
    cases h
    exact .non
  | .bool b, _, h => by
    cases h
    exact .bl b
  | .int i, _, h => by
    cases h
    exact .int i
  | .str x, _, h => by
    cases h
    exact .str x
  | .list ds, _, h => by
    cases h with
    | lst e a => exact .lst (k _ _ e) (any_keepL k ds _ a)
  | .tuple ds, _, h => by
    cases h with
    | tup e a => exact .tup (k _ _ e) (any_keepL k ds _ a)
  | .dict ds, _, h => by
    cases h with
    | dct e a => exact .dct (k _ _ e) (any_keepK k ds _ a)
theorem any_keepL (k : Same H H') : ∀ (ds : List PyData) (vs : List V), AnyL H vs ds → AnyL H' vs ds
  | [], _, h => by
    cases h
    exact .nil
  | d :: ds, _, h => by
    cases h with
    | cons a b => exact .cons (any_keep k d _ a) (any_keepL k ds _ b)
theorem any_keepK (k : Same H H') : ∀ (ds : List (PyData × PyData)) (vs : List (Key × V)), AnyK H vs ds → AnyK H' vs ds
  | [], _, h => by
    cases h
    exact .nil
  | (_, d) :: ds, _, h => by
    cases h with
    | cons a b => exact .cons (any_keep k d _ a) (any_keepK k ds _ b)
end
theorem Any.keep (h : Any H v d) (k : Same H H') : Any H' v d := any_keep k d v h
end
/-- what was tracked but at p is as it was -/
def Grow (p : Addr) (H H' : Hp) : Prop := ∀ b o, b ≠ p → H b = some o → H' b = some o
theorem Grow.refl {p : Addr} {H : Hp} : Grow p H H := fun _ _ _ e => e
theorem Grow.trans {p : Addr} {H H1 H2 : Hp} (a : Grow p H H1) (b : Grow p H1 H2) : Grow p H H2 := fun c o n e => b c o n (a c o n e)
theorem Grow.of {p : Addr} {H H' : Hp} (a : Same H H') : Grow p H H' := fun c o _ e => a c o e
theorem Grow.put {p : Addr} {H : Hp} {o : HO} : Grow p H (upd H p o) := fun c u n e => by
  rw [upd_ne n]
  exact e
theorem Grow.del {p : Addr} {H H' : Hp} (a : Grow p H H') : Same (del H p) (del H' p) := fun c o e => by
  by_cases z : c = p
  · rw [z, del_same] at e
    cases e
  · rw [del_ne z] at e
    rw [del_ne z]
    exact a c o z e
theorem same_del {p : Addr} {H : Hp} : Same (del H p) H := fun c o e => by
  by_cases z : c = p
  · rw [z, del_same] at e
    cases e
  · rw [del_ne z] at e
    exact e
theorem same_new {p : Addr} {H : Hp} {o : HO} (h : H p = none) : Same H (upd H p o) := fun c u e => by
  rw [upd_ne (ne_of_none e h)]
  exact e
def primesL : List Int := [2, 3, 5, 7, 11, 13]
def isPr : PyData → Bool
  | .int n => decide (n ∈ primesL)
  | _ => false
theorem prime_cases {p : Int} (h : p ∈ primesL) : p = 2 ∨ p = 3 ∨ p = 5 ∨ p = 7 ∨ p = 11 ∨ p = 13 := by
  simpa [primesL] using h
theorem prime_pos {p : Int} (h : p ∈ primesL) : 2 ≤ p ∧ p ≤ 13 := by
  rcases prime_cases h with e | e | e | e | e | e <;> omega
theorem fmod_pos {a b : Int} (h : 0 < b) : a.fmod b = a % b := Int.fmod_eq_emod_of_nonneg a (by omega)
end Rw
set_option Elab.async false
set_option linter.all false
set_option maxRecDepth 100000
set_option maxHeartbeats 4000000
namespace Rw
open PySem PySem.Spec PyProof.Rows L2
/-- a def of the text stands at f under the name x -/
def DefAt (K : PySem.W.Frag) (x qual : Str) (st : Stmt) (f : Addr) : Prop :=
  ∃ (oc : Value) (od : Option Addr) (kV dc pm : Value) (an : Option Addr) (cd ct : Value) (sl : Array (Option Value)), K.lookup f = some ⟨oc, od, .func (PySem.W.fnOf x qual (defArgs st) (defBody st) (defScope st) .none kV dc pm an cd ct), sl⟩ ∧
    PySem.W.codeIn K cd qual = true ∧ PySem.W.keepIn K (.ref f) = true
def DefHere (K : PySem.W.Frag) (x : Str) (st : Stmt) : Prop := ∃ f : Addr, PySem.W.nsIn K mainGlobals x = some (some (.ref f)) ∧ DefAt K x x st f
/-- a def with defaults -/
def DflHere (K : PySem.W.Frag) (x : Str) (st : Stmt) (ds : List Value) : Prop :=
  ∃ (f T : Addr) (oc : Value) (od : Option Addr) (kV dc pm : Value) (an : Option Addr) (cd ct : Value) (sl : Array (Option Value)) (tc : Value) (td : Option Addr) (n : Nat) (ts : Array (Option Value)), PySem.W.nsIn K mainGlobals x = some (some (.ref f)) ∧
    K.lookup f = some ⟨oc, od, .func (PySem.W.fnOf x x (defArgs st) (defBody st) (defScope st) (.ref T) kV dc pm an cd ct), sl⟩ ∧ PySem.W.codeIn K cd x = true ∧ PySem.W.keepIn K (.ref f) = true ∧
    K.lookup T = some ⟨tc, td, .seq ds.toArray n, ts⟩
/-- an own error class x below the class at R, its __init__ is st -/
def ErrHere (K : PySem.W.Frag) (x q : Str) (st : Stmt) (R C : Addr) : Prop :=
  ∃ (f N : Addr) (nm qn : Str) (bs : List Value) (sn : List Str) (sub : List Value) (ab : Bool) (col : Option Bool) (dd : Option Addr) (m0 m1 m2 m3 m5 : Option Value), PySem.W.nsIn K mainGlobals x = some (some (.ref C)) ∧
    K.lookup C = some (excClassObj nm qn C N bs [.ref R, .type "ValueError", .type "Exception", .type "BaseException", .type "object"] true sn sub ab col dd m0 m1 m2 m3 m5 "ValueError.__new__") ∧
    PySem.W.findIn K (.ref C) "__setattr__" = some (some (.builtin "object.__setattr__")) ∧ PySem.W.findIn K (.ref C) "__getattribute__" = some (some (.builtin "BaseException.__getattribute__")) ∧ PySem.W.findIn K (.ref C) "__getattr__" = some none ∧
    PySem.W.findIn K (.ref C) "value" = some none ∧ PySem.W.findIn K (.ref C) "__init__" = some (some (.ref f)) ∧ PySem.W.typeIn K (.ref f) = some (.type "function") ∧ DefAt K "__init__" q st f ∧
    PySem.W.keepIn K (.ref C) = true ∧ PySem.W.subIn K (.ref C) (.type "BaseException") = some true ∧ PySem.W.typeIn K (.ref C) = some (.type "type") ∧ PySem.W.hasDictIn K C = true
section
variable {K : PySem.W.Frag} {mg : Str → Option Value} {h : Heap}
theorem DefHere.df {x : Str} {st : Stmt} {ps : List Str} (D : DefHere K x st) (X : K.In h) (G : h.Ns mainGlobals mg)
    (b : ∀ (kV doc pm : Value) (an : Option Addr) (cdv ct : Value) (us : List Value), us.length = ps.length → bindArgs (PySem.W.fnOf x x (defArgs st) (defBody st) (defScope st) .none kV doc pm an cdv ct) ⟨us, []⟩ = pure (ps.zip us)) : Df K mg x st ps := by
  obtain ⟨f, g, oc, od, kV, dc, pm, an, cd, ct, sl, l, c, k⟩ := D
  have F := fun_mk (st := st) l c k
  exact ⟨f, _, PySem.W.mg_of X G g, F, F.binds b⟩
/-- the body of __init__(self, value): self.value = value -/
def IsIni (st : Stmt) : Prop := ∃ p1 p2 p3 p4 : Pos, defBody st = [.Assign [.Attribute (.Name "self" p1) "value" p2] (.Name "value" p3) p4] ∧ (defScope st).names.lookup ("self" : Str) = some NameKind.local ∧ (defScope st).names.lookup ("value" : Str) = some NameKind.local
theorem ini_walk {st : Stmt} (I : IsIni st) (X : Cx) (hN : X.N = (["self", "value"] : List Str)) (hS : X.env.scope = defScope st) : ∃ t : TS, PSs X (defBody st) t ∧ (∀ D σ H, tOst X.K "value" (tVar 0) (tVar 1) D σ H → t D σ H) := by
  obtain ⟨p1, p2, p3, p4, e, l1, l2⟩ := I
  rw [e]
  refine ⟨_, pss_one (ps_ost (pe_var (i := 0) (by rw [hN]; rfl) (.inl (by rw [hS]; exact l1))) (pe_var (i := 1) (by rw [hN]; rfl) (.inl (by rw [hS]; exact l2)))), fun D σ H z => z⟩
theorem ErrHere.err {x q : Str} {st : Stmt} {R C : Addr} (E : ErrHere K x q st R C) (X : K.In h) (G : h.Ns mainGlobals mg) (S : FnScope ["self", "value"] ["self", "value"] (defScope st)) (I : IsIni st)
    (b : ∀ (kV doc pm : Value) (an : Option Addr) (cdv ct : Value) (us : List Value), us.length = 2 → bindArgs (PySem.W.fnOf "__init__" q (defArgs st) (defBody st) (defScope st) .none kV doc pm an cdv ct) ⟨us, []⟩ = pure ((["self", "value"] : List Str).zip us)) : Err K mg x C := by
  obtain ⟨f, N, nm, qn, bs, sn, sub, ab, col, dd, m0, m1, m2, m3, m5, g, l, sa, ga, gg, no, ini, ty, ⟨oc, od, kV, dc, pm, an, cd, ct, sl, lf, cf, kf⟩, kc, ex, tc, hd⟩ := E
  have F := fun_mk (x := "__init__") (qual := q) (st := st) lf cf kf
  exact {
    g := PySem.W.mg_of X G g
    ox := ⟨⟨nm, qn, N, bs, _, sn, sub, ab, col, dd, m0, m1, m2, m3, m5, l, rfl⟩, sa, ex, tc, kc⟩
    xf := ⟨ga, gg, ex, hd⟩
    no := no
    ini := ⟨f, q, st, _, ini, ty, F, F.binds b, S, ini_walk I⟩ }
/-- a tuple of ints of the text -/
def IntsHere (K : PySem.W.Frag) (x : Str) (a : Addr) (us : List Value) : Prop := ∃ (dd : Option Addr) (n : Nat) (sl : Array (Option Value)), PySem.W.nsIn K mainGlobals x = some (some (.ref a)) ∧ K.lookup a = some ⟨.type "tuple", dd, .seq us.toArray n, sl⟩
theorem DefHere.of {x : Str} {st : Stmt} {f : Addr} {oc : Value} {od : Option Addr} {kV dc pm : Value} {an : Option Addr} {cd ct : Value} {sl : Array (Option Value)} (g : PySem.W.nsIn K mainGlobals x = some (some (.ref f)))
    (l : K.lookup f = some ⟨oc, od, .func (PySem.W.fnOf x x (defArgs st) (defBody st) (defScope st) .none kV dc pm an cd ct), sl⟩) (c : PySem.W.codeIn K cd x = true) (k : PySem.W.keepIn K (.ref f) = true) : DefHere K x st :=
  ⟨f, g, oc, od, kV, dc, pm, an, cd, ct, sl, l, c, k⟩
theorem DflHere.of {x : Str} {st : Stmt} {ds : List Value} {f T : Addr} {oc : Value} {od : Option Addr} {kV dc pm : Value} {an : Option Addr} {cd ct : Value} {sl : Array (Option Value)} {tc : Value} {td : Option Addr} {n : Nat} {ts : Array (Option Value)}
    (g : PySem.W.nsIn K mainGlobals x = some (some (.ref f))) (l : K.lookup f = some ⟨oc, od, .func (PySem.W.fnOf x x (defArgs st) (defBody st) (defScope st) (.ref T) kV dc pm an cd ct), sl⟩) (c : PySem.W.codeIn K cd x = true) (k : PySem.W.keepIn K (.ref f) = true)
    (t : K.lookup T = some ⟨tc, td, .seq ds.toArray n, ts⟩) : DflHere K x st ds := ⟨f, T, oc, od, kV, dc, pm, an, cd, ct, sl, tc, td, n, ts, g, l, c, k, t⟩
theorem ErrHere.of {x q : Str} {st : Stmt} {R C f N : Addr} {nm qn : Str} {bs : List Value} {sn : List Str} {sub : List Value} {ab : Bool} {col : Option Bool} {dd : Option Addr} {m0 m1 m2 m3 m5 : Option Value}
    {oc : Value} {od : Option Addr} {kV dc pm : Value} {an : Option Addr} {cd ct : Value} {sl : Array (Option Value)} (g : PySem.W.nsIn K mainGlobals x = some (some (.ref C)))
    (xl : K.lookup C = some (excClassObj nm qn C N bs [.ref R, .type "ValueError", .type "Exception", .type "BaseException", .type "object"] true sn sub ab col dd m0 m1 m2 m3 m5 "ValueError.__new__"))
    (sa : PySem.W.findIn K (.ref C) "__setattr__" = some (some (.builtin "object.__setattr__"))) (ga : PySem.W.findIn K (.ref C) "__getattribute__" = some (some (.builtin "BaseException.__getattribute__"))) (gg : PySem.W.findIn K (.ref C) "__getattr__" = some none)
    (no : PySem.W.findIn K (.ref C) "value" = some none) (ini : PySem.W.findIn K (.ref C) "__init__" = some (some (.ref f))) (ty : PySem.W.typeIn K (.ref f) = some (.type "function"))
    (l : K.lookup f = some ⟨oc, od, .func (PySem.W.fnOf "__init__" q (defArgs st) (defBody st) (defScope st) .none kV dc pm an cd ct), sl⟩) (c : PySem.W.codeIn K cd q = true) (k : PySem.W.keepIn K (.ref f) = true)
    (kc : PySem.W.keepIn K (.ref C) = true) (ex : PySem.W.subIn K (.ref C) (.type "BaseException") = some true) (tc : PySem.W.typeIn K (.ref C) = some (.type "type")) (hd : PySem.W.hasDictIn K C = true) : ErrHere K x q st R C :=
  ⟨f, N, nm, qn, bs, sn, sub, ab, col, dd, m0, m1, m2, m3, m5, g, xl, sa, ga, gg, no, ini, ty, ⟨oc, od, kV, dc, pm, an, cd, ct, sl, l, c, k⟩, kc, ex, tc, hd⟩
theorem IntsHere.of {x : Str} {a : Addr} {us : List Value} {dd : Option Addr} {n : Nat} {sl : Array (Option Value)} (g : PySem.W.nsIn K mainGlobals x = some (some (.ref a))) (l : K.lookup a = some ⟨.type "tuple", dd, .seq us.toArray n, sl⟩) : IntsHere K x a us := ⟨dd, n, sl, g, l⟩
end
end Rw
set_option Elab.async false
set_option linter.all false
set_option maxRecDepth 100000
set_option maxHeartbeats 4000000
namespace Rw
open PySem PySem.Spec PyProof.Rows L2
/-- a list (true) or a tuple (false) -/
def SqB (K : PySem.W.Frag) (H : Hp) : Bool → Addr → List V → Prop
  | true, a, xs => SqL K H a xs
  | false, a, xs => SqT K H a xs
end Rw
set_option Elab.async false
set_option linter.all false
set_option maxRecDepth 100000
set_option maxHeartbeats 4000000
namespace Rw
open PySem PySem.Spec PyProof.Rows L2
def itemsD : PyData → List PyData
  | .list ds => ds | .tuple ds => ds | _ => []
/-- not too long, the ints not too great -/
structure Fit1 (d : PyData) : Prop where
  len : (itemsD d).length ≤ 1000
  sm : ∀ n, PyData.int n ∈ itemsD d → n.natAbs.log2 < 400
structure Fit (d : PyData) : Prop where
  top : Fit1 d
  sub : ∀ e, e ∈ itemsD d → Fit1 e
section
variable {K : PySem.W.Frag} {H H' : Hp} {v : V} {d : PyData} {xs : List V} {ds : List PyData}
theorem anyL_len : ∀ {xs : List V} {ds : List PyData}, AnyL H xs ds → xs.length = ds.length
  | _, _, .nil => rfl
  | _, _, .cons _ b => congrArg (· + 1) (anyL_len b)
theorem anyL_keep (k : Same H H') (h : AnyL H xs ds) : AnyL H' xs ds := any_keepL k ds xs h
theorem anyL_snoc : ∀ {xs : List V} {ds : List PyData} {x : V} {d : PyData}, AnyL H xs ds → Any H x d → AnyL H (xs ++ [x]) (ds ++ [d])
  | _, _, _, _, .nil, b => .cons b .nil
  | _, _, _, _, .cons a r, b => .cons a (anyL_snoc r b)
theorem anyL_bools : ∀ {ns : List Bool} {xs : List V}, AnyL H xs (ns.map .bool) → xs = ns.map V.bl
  | [], _, h => by
    cases h
    rfl
  | n :: ns, _, h => by
    cases h with
    | cons a b =>
      cases a
      rw [anyL_bools b] <;> rfl
theorem ints_anyL : ∀ (ns : List Int), AnyL H (ns.map V.int) (ns.map .int)
  | [] => .nil
  | n :: ns => .cons (.int n) (ints_anyL ns)
end
def ItS (K : PySem.W.Frag) : Bool → Addr → It
  | true, a => Itl K a
  | false, a => Itt K a
def iSeq (K : PySem.W.Frag) (tl : TE) : TI := fun σ H R => tl σ H fun x H1 => ∃ a k xs, x = .ref a ∧ SqB K H1 k a xs ∧ R (ItS K k a) H1
theorem pi_seq {X : Cx} {tg l : Expr} {tl : TE} (hl : PE X l tl) : PI X tg l (iSeq X.K tl) := by
  refine ⟨fun pins s σ H R I h => ?_⟩
  refine thn (hl.run pins s σ H _ I h) fun v s1 ⟨x, H1, I1, r1, q1⟩ => ?_
  obtain ⟨a, k, xs, e, hq, q⟩ := q1
  subst e
  cases r1
  cases k with
  | true =>
    obtain ⟨its, rv, p, hz⟩ := I1.list hq
    refine wpAny_pyIter_list p.isList ?_
    refine ⟨s1.heap.objs.size, [s1.heap.objs.size], _, _, H1, rfl, I1.kept (t' := s1.toks) fun b o e => Heap.get?_push_of_some _ e, turn_list a _, ⟨_, Heap.get?_push_size _ rfl, rfl, rfl⟩, fun b hb => ?_, q⟩
    have e : b = s1.heap.objs.size := by simpa using hb
    subst e
    exact I1.fpOk (Nat.le_refl _) (I1.hok.fresh (Nat.le_refl _))
  | false =>
    obtain ⟨its, rv, p, hz⟩ := I1.tuple hq
    refine wpAny_pyIter_tuple (show s1.heap.IsTuple a its.toArray from p) ?_
    refine ⟨s1.heap.objs.size, [s1.heap.objs.size], _, _, H1, rfl, I1.kept (t' := s1.toks) fun b o e => Heap.get?_push_of_some _ e, turn_tuple a _, ⟨_, Heap.get?_push_size _ rfl, rfl, rfl⟩, fun b hb => ?_, q⟩
    have e : b = s1.heap.objs.size := by simpa using hb
    subst e
    exact I1.fpOk (Nat.le_refl _) (I1.hok.fresh (Nat.le_refl _))
section
variable {K : PySem.W.Frag} {k : Bool} {a : Addr} {xs : List V}
theorem walk_seq : Walk (ItS K k a) xs.length (fun H => SqB K H k a xs) (fun i H x H' => H' = H ∧ xs[i]? = some x) := by
  cases k with
  | true => exact walk_list
  | false => exact walk_tup
theorem walk_rng {n : Nat} : Walk (Itr 0 n) n (fun _ => True) (fun i H x H' => H' = H ∧ x = .int (i : Int)) :=
  walk_range.mono (fun _ z => z) fun i H x H' _ _ y => ⟨y.1, by
    have e := y.2
    simpa using e⟩
end
theorem del_upd {H : Hp} {D : Addr} {o : HO} : del (upd H D o) D = del H D := by
  funext c
  by_cases e : c = D
  · rw [e, del_same, del_same]
  · rw [del_ne e, del_ne e, upd_ne e]
/-- new data of each turn, nothing else changed -/
theorem lc_same {J : It} {n : Nat} {G : Hp → Prop} {P : Nat → V → Prop} (w : Walk J n G (fun i H x H' => H' = H ∧ P i x)) {j : Nat} {σ : L2.St} {vs : List Nat} {te : TE} {H1 : Hp} {D : Addr} {Q : Hp → Prop} (hn : n ≤ 1000) (hD : H1 D = none) (hG : ∀ H, Same H1 H → G H) (f : Nat → PyData)
    (hs : ∀ i x H, i < n → P i x → Same H1 H → (∃ o, H D = some o) → wipe ((wipe σ vs).set j (some x)) vs = wipe σ vs ∧ ∀ k : VK, (∀ y H', Same H H' → Any (del H' D) y (f i) → k y H') → te ((wipe σ vs).set j (some x)) H k)
    (hq : ∀ H acc, Same H1 H → H D = some (.lst acc) → AnyL (del H D) acc ((List.range n).map f) → Q H) :
    ∃ W : Nat → Nat → Hp → Prop, (∃ m, W 0 m (upd H1 D (.lst []))) ∧ ∀ i m H, W i m H →
      (J.stop i H ∧ Q H) ∨ (J.go i H ∧ ∃ Nx : Hp → Prop, (∀ H', Nx H' → ∃ m', m' < m ∧ W (i + 1) m' H') ∧ ∀ x H', J.yld i H x H' → gName j x (wipe σ vs) H' fun σ2 H2 => wipe σ2 vs = wipe σ vs ∧ tYes σ2 H2 fun b H3 =>
        if b = true then te σ2 H3 fun y H4 => ∃ acc, H4 D = some (.lst acc) ∧ acc.length < sizeLine ∧ Nx (upd H4 D (.lst (acc ++ [y]))) else Nx H3) := by
  refine lc_it w (Qd := Q) (Pv := fun i H => Same H1 H ∧ ∃ acc, H D = some (.lst acc) ∧ acc.length = i ∧ AnyL (del H D) acc ((List.range i).map f)) ⟨same_new hD, [], upd_same, rfl, .nil⟩ (fun i H _ h => hG H h.1) ?_ ?_
  · rintro i x H H' hi ⟨s1, acc, ha, hl, an⟩ ⟨rfl, hp⟩
    obtain ⟨e1, e2⟩ := hs i x H' hi hp s1 ⟨_, ha⟩
    refine ⟨e1, ?_⟩
    show te _ _ _
    refine e2 _ fun y H4 s2 hy => ?_
    refine ⟨acc, s2 _ _ ha, Nat.lt_of_lt_of_le (by omega : acc.length < 1000) (by decide), ?_, acc ++ [y], upd_same, by rw [List.length_append, hl] <;> rfl, ?_⟩
    · intro b o e
      have ne : b ≠ D := ne_of_none e hD
      rw [upd_ne ne]
      exact s2 _ _ (s1 _ _ e)
    · rw [del_upd, List.range_succ, List.map_append]
      exact anyL_snoc (anyL_keep (Grow.del (Grow.of s2)) an) hy
  · rintro H ⟨s1, acc, ha, hl, an⟩
    exact hq H acc s1 ha an
theorem map_get {α β : Type} (g : α → β) (dd : α) : ∀ l : List α, (List.range l.length).map (fun i => g (l[i]?.getD dd)) = l.map g := by
  intro l
  apply List.ext_getElem
  · simp
  · intro i h1 h2
    simp at h1 h2
    simp [h1]
end Rw
set_option Elab.async false
set_option linter.all false
set_option maxRecDepth 100000
set_option maxHeartbeats 4000000
namespace Rw
open PySem PySem.Spec PyProof.Rows L2
end Rw
set_option Elab.async false
set_option linter.all false
set_option maxRecDepth 100000
set_option maxHeartbeats 4000000
namespace Rw
open PySem PySem.Spec PyProof.Rows L2
inductive IntTab : List DictEntry → List (Int × Value) → Prop
  | nil : IntTab [] []
  | cons {e : DictEntry} {es : List DictEntry} {i : Int} {t : Tok} {v : Value} {kvs : List (Int × Value)} : e.key = .int i t → e.hash = hashInt i → e.val = v → IntTab es kvs → IntTab (e :: es) ((i, v) :: kvs)
inductive TxtTab (P : Params) : List DictEntry → List (Str × Value) → Prop
  | nil : TxtTab P [] []
  | cons {e : DictEntry} {es : List DictEntry} {x : Str} {t : Tok} {v : Value} {kvs : List (Str × Value)} : e.key = .str x t → e.hash = PyData.keyHash P x → e.val = v → TxtTab P es kvs → TxtTab P (e :: es) ((x, v) :: kvs)
def lookI (kvs : List (Int × Value)) (i : Int) : Option Value := (kvs.find? fun q => q.1 == i).map (·.2)
def lookS (kvs : List (Str × Value)) (x : Str) : Option Value := (kvs.find? fun q => q.1 == x).map (·.2)
theorem IntTab.find {es : List DictEntry} {kvs : List (Int × Value)} (T : IntTab es kvs) (i : Int) : findBy Value.isInt es.toArray i = lookI kvs i := by
  unfold findBy lookI
  rw [List.find?_toArray]
  induction T with
  | nil => rfl
  | cons k h v r ih =>
    rename_i e es j t u kvs
    rw [List.find?_cons, List.find?_cons]
    have e1 : Value.isInt i e.key = (j == i) := by rw [k] <;> rfl
    rw [e1]
    cases j == i with
    | true => simp [v]
    | false => exact ih
theorem TxtTab.find {P : Params} {es : List DictEntry} {kvs : List (Str × Value)} (T : TxtTab P es kvs) (x : Str) : findBy Value.isStrOf es.toArray x = lookS kvs x := by
  unfold findBy lookS
  rw [List.find?_toArray]
  induction T with
  | nil => rfl
  | cons k h v r ih =>
    rename_i e es y t u kvs
    rw [List.find?_cons, List.find?_cons]
    have e1 : Value.isStrOf x e.key = (y == x) := by rw [k] <;> rfl
    rw [e1]
    cases y == x with
    | true => simp [v]
    | false => exact ih
theorem IntTab.keys {es : List DictEntry} {kvs : List (Int × Value)} (T : IntTab es kvs) : ∀ e ∈ es, ∃ i t, e.key = .int i t ∧ e.hash = hashInt i := by
  induction T with
  | nil => intro e h; cases h
  | cons k h v r ih =>
    intro e he
    rcases List.mem_cons.mp he with z | z
    · rw [z]; exact ⟨_, _, k, h⟩
    · exact ih e z
theorem TxtTab.keys {P : Params} {es : List DictEntry} {kvs : List (Str × Value)} (T : TxtTab P es kvs) : ∀ e ∈ es, ∃ x t, e.key = .str x t ∧ e.hash = PyData.keyHash P x := by
  induction T with
  | nil => intro e h; cases h
  | cons k h v r ih =>
    intro e he
    rcases List.mem_cons.mp he with z | z
    · rw [z]; exact ⟨_, _, k, h⟩
    · exact ih e z
/-- at d: a written dict with int keys -/
structure TabI (K : PySem.W.Frag) (d : Addr) (kvs : List (Int × Value)) : Prop where
  at_ : ∃ (l : List DictEntry) (n : Nat), K.lookup d = some ⟨.type "dict", none, .dict l.toArray n, #[]⟩ ∧ IntTab l kvs
  low : (d == sysModules) = false
structure TabS (K : PySem.W.Frag) (w : World) (d : Addr) (kvs : List (Str × Value)) : Prop where
  at_ : ∃ (l : List DictEntry) (n : Nat), K.lookup d = some ⟨.type "dict", none, .dict l.toArray n, #[]⟩ ∧ TxtTab w.params l kvs
  low : (d == sysModules) = false
section
variable {X : Cx} {d : Addr} {pins : List (Addr × Obj)} {σ : L2.St} {H : Hp} {s : Shared}
theorem tabI_map {kvs : List (Int × Value)} (T : TabI X.K d kvs) (I : Inv X pins σ H s) : s.heap.MapOf (PySem.intKind X.prog X.w) d (lookI kvs) := by
  obtain ⟨l, n, hl, t⟩ := T.at_
  refine ⟨_, l.toArray, n, I.kIn _ _ hl, ⟨rfl, rfl, rfl⟩, rfl, fun e he => ?_, fun k => t.find k⟩
  obtain ⟨i, tk, e1, e2⟩ := t.keys e (by simpa using he)
  exact ⟨i, by rw [e1]; exact PySem.intKind_is X.prog X.w i tk, e2⟩
theorem tabS_map {kvs : List (Str × Value)} (T : TabS X.K X.w d kvs) (I : Inv X pins σ H s) : s.heap.MapOf (PySem.strKind X.prog X.w) d (lookS kvs) := by
  obtain ⟨l, n, hl, t⟩ := T.at_
  refine ⟨_, l.toArray, n, I.kIn _ _ hl, ⟨rfl, rfl, rfl⟩, rfl, fun e he => ?_, fun k => t.find k⟩
  obtain ⟨i, tk, e1, e2⟩ := t.keys e (by simpa using he)
  exact ⟨i, by rw [e1]; exact PySem.strKind_is X.prog X.w i tk, e2⟩
theorem op_in_ti {kvs : List (Int × Value)} (T : TabI X.K d kvs) : OpR X (compareOp .In) (fun x y H Q => ∃ i, x = .int i ∧ y = .ref d ∧ Q (.bl (lookI kvs i).isSome) H) := by
  intro pins s σ H x y v u Q I rx ry h
  obtain ⟨i, rfl, rfl, q⟩ := h
  obtain ⟨t, rfl⟩ := rx
  cases ry
  exact wpAny_in_of (PySem.intKind_is X.prog X.w i t) T.low (tabI_map T I) ⟨.bl _, H, I.tok _, rfl, q⟩
theorem op_in_ts {kvs : List (Str × Value)} (T : TabS X.K X.w d kvs) : OpR X (compareOp .In) (fun x y H Q => ∃ z, x = .str z ∧ y = .ref d ∧ Q (.bl (lookS kvs z).isSome) H) := by
  intro pins s σ H x y v u Q I rx ry h
  obtain ⟨z, rfl, rfl, q⟩ := h
  obtain ⟨t, rfl⟩ := rx
  cases ry
  exact wpAny_in_of (PySem.strKind_is X.prog X.w z t) T.low (tabS_map T I) ⟨.bl _, H, I.tok _, rfl, q⟩
end
theorem prime_tab {us : List Value} {v1 v2 v3 v4 v5 v6 : Value} (i : Int) : (lookI [(2, v1), (3, v2), (5, v3), (7, v4), (11, v5), (13, v6)] i).isSome = decide (i ∈ primesL) := by
  unfold lookI primesL
  by_cases h : i ∈ ([2, 3, 5, 7, 11, 13] : List Int)
  · rw [decide_eq_true h]
    simp only [List.mem_cons, List.not_mem_nil, or_false] at h
    rcases h with e | e | e | e | e | e <;> subst e <;> rfl
  · rw [decide_eq_false h]
    simp only [List.mem_cons, List.not_mem_nil, or_false, not_or] at h
    obtain ⟨a, b, c, d, e, f⟩ := h
    have z : ∀ j : Int, ¬ i = j → (j == i) = false := fun j q => by simp; exact fun y => q y.symm
    simp [List.find?, z 2 a, z 3 b, z 5 c, z 7 d, z 11 e, z 13 f]
def isArr (c : Nat) : Bool := c == 62 || c == 60
theorem arr_tab {v1 v2 : Value} (c : Nat) : (lookS [(">", v1), ("<", v2)] ⟨#[c]⟩).isSome = isArr c := by
  unfold lookS isArr
  by_cases h1 : c = 62
  · subst h1; rfl
  · by_cases h2 : c = 60
    · subst h2; rfl
    · have z1 : ((">" : Str) == (⟨#[c]⟩ : Str)) = false := by
        refine beq_eq_false_iff_ne.mpr fun e => h1 ?_
        have := congrArg (fun x : Str => x.cps[0]?) e
        exact (Option.some.inj this).symm
      have z2 : (("<" : Str) == (⟨#[c]⟩ : Str)) = false := by
        refine beq_eq_false_iff_ne.mpr fun e => h2 ?_
        have := congrArg (fun x : Str => x.cps[0]?) e
        exact (Option.some.inj this).symm
      simp [List.find?, z1, z2, h1, h2]
end Rw
set_option Elab.async false
set_option linter.all false
set_option maxRecDepth 100000
set_option maxHeartbeats 4000000
namespace Rw
open PySem PySem.Spec PyProof.Rows L2
/-- any int of the script, or a number of the law's own -/
def spCellR (K : PySem.W.Frag) : Sp := fun vs H Q _ => ∃ (a : Addr) (ns : List Int) (j : Nat), vs = [.ref a, .int (j : Int)] ∧ SqL K H a (ns.map V.int) ∧ j < 1000 ∧ ∀ z : Int, Q (.int z) H
/-- at p a box that was drawn from at most n times -/
def Bx (H : Hp) (p : Addr) (n : Nat) : Prop := ∃ a b c : Int, H p = some (.lst [.int a, .int b, .int c]) ∧ 0 ≤ a ∧ 0 ≤ b ∧ b < 2147483629 ∧ 0 ≤ c ∧ c ≤ (n : Int)
theorem Bx.more {H : Hp} {p : Addr} {n m : Nat} (h : Bx H p n) (l : n ≤ m) : Bx H p m := by
  obtain ⟨a, b, c, h1, h2, h3, h4, h5, h6⟩ := h
  exact ⟨a, b, c, h1, h2, h3, h4, h5, by omega⟩
theorem Bx.keep {H H' : Hp} {p : Addr} {n : Nat} (h : Bx H p n) (k : Same H H') : Bx H' p n := by
  obtain ⟨a, b, c, h1, r⟩ := h
  exact ⟨a, b, c, k _ _ h1, r⟩
theorem Bx.ne {H : Hp} {p q : Addr} {n : Nat} (h : Bx H p n) (hq : H q = none) : p ≠ q := by
  obtain ⟨a, b, c, h1, _⟩ := h
  exact ne_of_none h1 hq
def spBoxR : Sp := fun vs H Q _ => ∃ z : Int, vs = [.int z] ∧ ∀ p H', H p = none → Same H H' → Bx H' p 0 → Q (.ref p) H'
def spTakeR : Sp := fun vs H Q _ => ∃ (p : Addr) (m : Int) (n : Nat), vs = [.ref p, .int m] ∧ 0 < m ∧ m < 2 ^ 200 ∧ Bx H p n ∧ n ≤ 1000000 ∧ ∀ r H', 0 ≤ r → r < m → Grow p H H' → Bx H' p (n + 1) → Q (.int r) H'
theorem fdiv_nonneg' {a m : Int} (h : 0 ≤ a) (hm : 0 < m) : 0 ≤ a / m := Int.ediv_nonneg h (by omega)
theorem AnyL.get {H : Hp} : ∀ {vs : List V} {ds : List PyData}, AnyL H vs ds → ∀ i, i < ds.length → ∃ v d, vs[i]? = some v ∧ d ∈ ds ∧ Any H v d
  | _, _, .nil, i, h => absurd h (Nat.not_lt_zero i)
  | _, _, .cons a _, 0, _ => ⟨_, _, rfl, List.mem_cons_self, a⟩
  | _, _, .cons _ b, i + 1, h => by
    obtain ⟨v, d, h1, h2, h3⟩ := AnyL.get b i (Nat.lt_of_succ_lt_succ h)
    exact ⟨v, d, h1, List.mem_cons_of_mem _ h2, h3⟩
/-- what is new in H' -/
def nw (H H' : Hp) : Hp := fun a => if H a = none then H' a else none
theorem nw_put {H H' : Hp} {q : Addr} {o : HO} (h : H q = none) : nw H (upd H' q o) q = some o := by
  show (if H q = none then (upd H' q o) q else none) = _
  rw [if_pos h, upd_same]
theorem nw_same {H H1 H2 : Hp} (k : Same H1 H2) : Same (nw H H1) (nw H H2) := fun b o e => by
  have e' : (if H b = none then H1 b else none) = some o := e
  show (if H b = none then H2 b else none) = some o
  by_cases z : H b = none
  · rw [if_pos z] at e' ⊢
    exact k _ _ e'
  · rw [if_neg z] at e'
    cases e'
theorem nw_grow {H H1 H2 : Hp} {p : Addr} {o : HO} (hp : H p = some o) (k : Grow p H1 H2) : Same (nw H H1) (nw H H2) := fun b u e => by
  have e' : (if H b = none then H1 b else none) = some u := e
  show (if H b = none then H2 b else none) = some u
  by_cases z : H b = none
  · rw [if_pos z] at e' ⊢
    exact k _ _ (fun y => by rw [y, hp] at z; cases z) e'
  · rw [if_neg z] at e'
    cases e'
theorem nw_sub {H H' : Hp} : Same (nw H H') H' := fun b o e => by
  have e' : (if H b = none then H' b else none) = some o := e
  by_cases z : H b = none
  · rw [if_pos z] at e'
    exact e'
  · rw [if_neg z] at e'
    cases e'
/-- some of the items, by a test of each; what is asked is whether there are any -/
theorem lc_filter {J : It} {n : Nat} {G : Hp → Prop} {P : Nat → V → Prop} (w : Walk J n G (fun i H x H' => H' = H ∧ P i x)) {j : Nat} {σ : L2.St} {vs : List Nat} {tt : TT} {te : TE} {H1 : Hp} {D : Addr} {Q : Hp → Prop} (hn : n ≤ 1000) (hD : H1 D = none) (hG : ∀ H, Same H1 H → G H) (f : Nat → Bool)
    (hs : ∀ i x H, i < n → P i x → Same H1 H → wipe ((wipe σ vs).set j (some x)) vs = wipe σ vs ∧ (∀ k : Bool → Hp → Prop, (∀ H', Same H H' → k (f i) H') → tt ((wipe σ vs).set j (some x)) H k) ∧ ∀ (k : VK) (H' : Hp), k x H' → te ((wipe σ vs).set j (some x)) H' k)
    (hq : ∀ H acc, Same H1 H → H D = some (.lst acc) → acc.isEmpty = (List.range n).all (fun i => !f i) → Q H) :
    ∃ W : Nat → Nat → Hp → Prop, (∃ m, W 0 m (upd H1 D (.lst []))) ∧ ∀ i m H, W i m H →
      (J.stop i H ∧ Q H) ∨ (J.go i H ∧ ∃ Nx : Hp → Prop, (∀ H', Nx H' → ∃ m', m' < m ∧ W (i + 1) m' H') ∧ ∀ x H', J.yld i H x H' → gName j x (wipe σ vs) H' fun σ2 H2 => wipe σ2 vs = wipe σ vs ∧ tt σ2 H2 fun b H3 =>
        if b = true then te σ2 H3 fun y H4 => ∃ acc, H4 D = some (.lst acc) ∧ acc.length < sizeLine ∧ Nx (upd H4 D (.lst (acc ++ [y]))) else Nx H3) := by
  refine lc_it w (Qd := Q) (Pv := fun i H => Same H1 H ∧ ∃ acc, H D = some (.lst acc) ∧ acc.length ≤ i ∧ acc.isEmpty = (List.range i).all (fun i => !f i)) ⟨same_new hD, [], upd_same, Nat.le_refl _, rfl⟩ (fun i H _ h => hG H h.1) ?_ ?_
  · rintro i x H H' hi ⟨s1, acc, ha, hl, ea⟩ ⟨rfl, hp⟩
    obtain ⟨e1, e2, e3⟩ := hs i x H' hi hp s1
    refine ⟨e1, e2 _ fun H4 s2 => ?_⟩
    cases fi : f i with
    | true =>
      refine iteT (e3 _ _ ⟨acc, s2 _ _ ha, Nat.lt_of_lt_of_le (by omega : acc.length < 1000) (by decide), ?_, acc ++ [x], upd_same, by rw [List.length_append]; exact Nat.succ_le_succ hl, ?_⟩)
      · intro b o e
        have ne : b ≠ D := ne_of_none e hD
        rw [upd_ne ne]
        exact s2 _ _ (s1 _ _ e)
      · rw [List.range_succ, List.all_append]
        simp [fi]
    | false =>
      refine iteF ⟨s1.trans s2, acc, s2 _ _ ha, by omega, ?_⟩
      rw [ea, List.range_succ, List.all_append]
      simp [fi]
  · rintro H ⟨s1, acc, ha, hl, ea⟩
    exact hq H acc s1 ha ea
end Rw
set_option Elab.async false
set_option linter.all false
set_option maxRecDepth 100000
set_option maxHeartbeats 4000000
namespace Rw
open PySem PySem.Spec PyProof.Rows L2
def isPatD : PyData → Bool
  | .str x => decide (x.length ≤ 6) && x.cps.toList.all isArr
  | _ => false
def aboveD (n : Int) : PyData → Bool
  | .int l => decide (l ≤ n)
  | _ => true
def belowD (n : Int) : PyData → Bool
  | .int l => decide (n ≤ l)
  | _ => true
def inB : PyData → PyData → PyData → Bool
  | .int n, l, h => aboveD n l && belowD n h
  | _, _, _ => false
def isR (x : Str) (i : Nat) : Bool := x.cps.toList[i]? == some 62
def stA (x : Str) (i : Nat) : Nat := if isR x i then i else i + 1
def goA (x : Str) (i : Nat) : Nat := if isR x i then i + 1 else i
/-- a row: an instance of the class at C -/
def RowAt (C : Addr) (H : Hp) (a : Addr) (x : Str) (p : Int) (ss : List PyData) (mm : List (List PyData)) : Prop :=
  ∃ dx ts tm, H a = some (.ins C dx [("_pattern", .str x), ("_prime", .int p), ("_sizes", .ref ts), ("_maps", .ref tm)]) ∧ Any H (.ref ts) (.tuple ss) ∧ Any H (.ref tm) (.tuple (mm.map .tuple))
theorem RowAt.keep {C a : Addr} {H H' : Hp} {x : Str} {p : Int} {ss : List PyData} {mm : List (List PyData)} (r : RowAt C H a x p ss mm) (k : Same H H') : RowAt C H' a x p ss mm := by
  obtain ⟨dx, ts, tm, h1, h2, h3⟩ := r
  exact ⟨dx, ts, tm, k _ _ h1, h2.keep k, h3.keep k⟩
def spNum : Sp := fun vs H Q _ => ∃ v d, vs = [v] ∧ Any H v d ∧ Q (.bl (isIntD d)) H
def spPrime : Sp := fun vs H Q _ => ∃ v d, vs = [v] ∧ Any H v d ∧ Q (.bl (isPr d)) H
def spCheck (CP : Addr) : Sp := fun vs H Q E => ∃ v d, vs = [v] ∧ Any H v d ∧ (isPr d = true → Q .non H) ∧ (isPr d = false → Thrown CP v H E)
theorem Thrown.mono {C : Addr} {v : V} {H H1 : Hp} {E : XK} (h : Thrown C v H E) (k : Same H H1) : Thrown C v H1 E := fun d H' s hd hx => h d H' (k.trans s) (k.free hd) hx
/-- texts that are asked are no longer than a line -/
def Short (d : PyData) : Prop := ∀ x, d = .str x → x.length ≤ 1000
def spPat : Sp := fun vs H Q _ => ∃ v d, vs = [v] ∧ Any H v d ∧ Short d ∧ ∀ H', Same H H' → Q (.bl (isPatD d)) H'
def spCPat (CT : Addr) : Sp := fun vs H Q E => ∃ v d, vs = [v] ∧ Any H v d ∧ Short d ∧ (isPatD d = true → ∀ H', Same H H' → Q .non H') ∧ (isPatD d = false → Thrown CT v H E)
end Rw
set_option Elab.async false
set_option linter.all false
set_option maxRecDepth 100000
set_option maxHeartbeats 4000000
namespace Rw
open PySem PySem.Spec PyProof.Rows L2
def MethHere (K : PySem.W.Frag) (C : Addr) (x q : Str) (st : Stmt) : Prop := ∃ f : Addr, PySem.W.findIn K (.ref C) x = some (some (.ref f)) ∧ PySem.W.isFn K (.ref f) = true ∧ DefAt K x q st f
def TabIHere (K : PySem.W.Frag) (x : Str) (d : Addr) (kvs : List (Int × Value)) : Prop := PySem.W.nsIn K mainGlobals x = some (some (.ref d)) ∧ TabI K d kvs
def TabSHere (K : PySem.W.Frag) (w : World) (x : Str) (d : Addr) (kvs : List (Str × Value)) : Prop := PySem.W.nsIn K mainGlobals x = some (some (.ref d)) ∧ TabS K w d kvs
/-- a property of a class -/
def PropHere (K : PySem.W.Frag) (C : Addr) (x q : Str) (st : Stmt) : Prop := ∃ p g : Addr, PropOf K C x p g ∧ DefAt K x q st g
section
variable {K : PySem.W.Frag} {mg : Str → Option Value} {h : Heap}
theorem PropHere.of {C : Addr} {x q : Str} {st : Stmt} {p g : Addr} {rest : List Value} {oc : Value} {od : Option Addr} {kV dc pm : Value} {an : Option Addr} {cd ct : Value} {sl : Array (Option Value)} (a : PySem.W.findIn K (.ref C) x = some (some (.ref p)))
    (ge : PySem.W.specialIn K (.ref p) "__get__" = some (some (.builtin "property.__get__"))) (ta : PySem.W.takesIn K (.ref p) = some true) (re : PySem.W.recIn K p "property" = some (.ref g :: rest))
    (l : K.lookup g = some ⟨oc, od, .func (PySem.W.fnOf x q (defArgs st) (defBody st) (defScope st) .none kV dc pm an cd ct), sl⟩) (c : PySem.W.codeIn K cd q = true) (k : PySem.W.keepIn K (.ref g) = true) : PropHere K C x q st :=
  ⟨p, g, ⟨a, ge, ta, ⟨rest, re⟩⟩, oc, od, kV, dc, pm, an, cd, ct, sl, l, c, k⟩
theorem MethHere.of {C : Addr} {x q : Str} {st : Stmt} {f : Addr} {oc : Value} {od : Option Addr} {kV dc pm : Value} {an : Option Addr} {cd ct : Value} {sl : Array (Option Value)} (g : PySem.W.findIn K (.ref C) x = some (some (.ref f))) (fn : PySem.W.isFn K (.ref f) = true)
    (l : K.lookup f = some ⟨oc, od, .func (PySem.W.fnOf x q (defArgs st) (defBody st) (defScope st) .none kV dc pm an cd ct), sl⟩) (c : PySem.W.codeIn K cd q = true) (k : PySem.W.keepIn K (.ref f) = true) : MethHere K C x q st :=
  ⟨f, g, fn, oc, od, kV, dc, pm, an, cd, ct, sl, l, c, k⟩
theorem TabIHere.of {x : Str} {d : Addr} {kvs : List (Int × Value)} {l : List DictEntry} {n : Nat} (g : PySem.W.nsIn K mainGlobals x = some (some (.ref d))) (k : K.lookup d = some ⟨.type "dict", none, .dict l.toArray n, #[]⟩) (t : IntTab l kvs) (z : (d == sysModules) = false) : TabIHere K x d kvs :=
  ⟨g, ⟨⟨l, n, k, t⟩, z⟩⟩
theorem TabSHere.of {w : World} {x : Str} {d : Addr} {kvs : List (Str × Value)} {l : List DictEntry} {n : Nat} (g : PySem.W.nsIn K mainGlobals x = some (some (.ref d))) (k : K.lookup d = some ⟨.type "dict", none, .dict l.toArray n, #[]⟩) (t : TxtTab w.params l kvs) (z : (d == sysModules) = false) : TabSHere K w x d kvs :=
  ⟨g, ⟨⟨l, n, k, t⟩, z⟩⟩
end
end Rw
set_option Elab.async false
set_option linter.all false
set_option maxRecDepth 100000
set_option maxHeartbeats 4000000
namespace Rw
open PySem PySem.Spec PyProof.Rows L2
/-- what is data stays -/
structure Keeps (H H' : Hp) : Prop where
  l : ∀ b xs, H b = some (.lst xs) → H' b = some (.lst xs)
  t : ∀ b xs, H b = some (.tup xs) → H' b = some (.tup xs)
  d : ∀ b kvs, H b = some (.dK kvs) → H' b = some (.dK kvs)
mutual
theorem any_keeps {H H' : Hp} (k : Keeps H H') : ∀ (d : PyData) (v : V), Any H v d → Any H' v d
  | .none, _, h => by cases h; exact .non
  | .bool b, _, h => by cases h; exact .bl b
  | .int i, _, h => by cases h; exact .int i
  | .str x, _, h => by cases h; exact .str x
  | .list ds, _, h => by
    cases h with
    | lst e a => exact .lst (k.l _ _ e) (anyL_keeps k ds _ a)
  | .tuple ds, _, h => by
    cases h with
    | tup e a => exact .tup (k.t _ _ e) (anyL_keeps k ds _ a)
  | .dict ds, _, h => by
    cases h with
    | dct e a => exact .dct (k.d _ _ e) (anyK_keeps k ds _ a)
theorem anyL_keeps {H H' : Hp} (k : Keeps H H') : ∀ (ds : List PyData) (vs : List V), AnyL H vs ds → AnyL H' vs ds
  | [], _, h => by cases h; exact .nil
  | d :: ds, _, h => by
    cases h with
    | cons a b => exact .cons (any_keeps k d _ a) (anyL_keeps k ds _ b)
theorem anyK_keeps {H H' : Hp} (k : Keeps H H') : ∀ (ds : List (PyData × PyData)) (vs : List (Key × V)), AnyK H vs ds → AnyK H' vs ds
  | [], _, h => by cases h; exact .nil
  | (_, d) :: ds, _, h => by
    cases h with
    | cons a b => exact .cons (any_keeps k d _ a) (anyK_keeps k ds _ b)
end
theorem Keeps.refl {H : Hp} : Keeps H H := ⟨fun _ _ z => z, fun _ _ z => z, fun _ _ z => z⟩
theorem Keeps.trans {H H1 H2 : Hp} (a : Keeps H H1) (b : Keeps H1 H2) : Keeps H H2 := ⟨fun c xs z => b.l c xs (a.l c xs z), fun c xs z => b.t c xs (a.t c xs z), fun c xs z => b.d c xs (a.d c xs z)⟩
theorem Keeps.of {H H' : Hp} (k : Same H H') : Keeps H H' := ⟨fun b _ e => k b _ e, fun b _ e => k b _ e, fun b _ e => k b _ e⟩
theorem keeps_ins {H H' : Hp} {a C dx : Addr} {fs : List (Str × V)} (e : H a = some (.ins C dx fs)) (g : Grow a H H') : Keeps H H' := by
  have ne : ∀ b o, H b = some o → (∀ fs', o ≠ .ins C dx fs') → b ≠ a := fun b o h n z => by
    rw [z, e] at h
    exact n fs (Option.some.inj h).symm
  exact ⟨fun b xs h => g b _ (ne b _ h fun _ z => nomatch z) h, fun b xs h => g b _ (ne b _ h fun _ z => nomatch z) h, fun b xs h => g b _ (ne b _ h fun _ z => nomatch z) h⟩
theorem Any.keeps {H H' : Hp} {v : V} {d : PyData} (h : Any H v d) (k : Keeps H H') : Any H' v d := any_keeps k d v h
mutual
/-- no list and no dict in it -/
def noL : PyData → Bool
  | .list _ => false
  | .dict _ => false
  | .tuple ds => noLs ds
  | _ => true
def noLs : List PyData → Bool
  | [] => true
  | d :: ds => noL d && noLs ds
end
theorem noLs_of : ∀ {ds : List PyData}, (∀ d, d ∈ ds → noL d = true) → noLs ds = true
  | [], _ => rfl
  | d :: ds, h => by
    show (noL d && noLs ds) = true
    rw [h d List.mem_cons_self, noLs_of fun e he => h e (List.mem_cons_of_mem _ he)] <;> rfl
mutual
theorem any_noL {H : Hp} {D : Addr} {xs : List V} (h : H D = some (.lst xs)) : ∀ (d : PyData) (v : V), Any H v d → noL d = true → Any (del H D) v d
  | .none, _, a, _ => by cases a; exact .non
  | .bool b, _, a, _ => by cases a; exact .bl b
  | .int i, _, a, _ => by cases a; exact .int i
  | .str x, _, a, _ => by cases a; exact .str x
  | .list ds, _, _, z => by cases z
  | .dict ds, _, _, z => by cases z
  | .tuple ds, _, a, z => by
    cases a with
    | tup e b =>
      rename_i q ys
      have ne : q ≠ D := fun y => by
        rw [y, h] at e
        cases e
      exact .tup (by rw [del_ne ne]; exact e) (anyL_noL h ds _ b z)
theorem anyL_noL {H : Hp} {D : Addr} {xs : List V} (h : H D = some (.lst xs)) : ∀ (ds : List PyData) (vs : List V), AnyL H vs ds → noLs ds = true → AnyL (del H D) vs ds
  | [], _, a, _ => by cases a; exact .nil
  | d :: ds, _, a, z => by
    have z2 : (noL d && noLs ds) = true := z
    rw [Bool.and_eq_true] at z2
    cases a with
    | cons a b => exact .cons (any_noL h d _ a z2.1) (anyL_noL h ds _ b z2.2)
end
end Rw
set_option Elab.async false
set_option linter.all false
set_option maxRecDepth 100000
set_option maxHeartbeats 4000000
namespace Rw
open PySem PySem.Spec PyProof.Rows L2
def barD (q : Nat × Nat) : PyData := .tuple [.int (q.1 : Nat), .int (q.2 : Nat)]
end Rw
set_option Elab.async false
set_option linter.all false
set_option maxRecDepth 100000
set_option maxHeartbeats 4000000
namespace Rw
open PySem PySem.Spec PyProof.Rows L2
/-- what is asked of the root, over ValueError, without an own __init__ -/
structure RootC (K : PySem.W.Frag) (CR : Addr) : Prop where
  sp : PySem.W.specialIn K (.ref CR) "__getattribute__" = some (some (.builtin "type.__getattribute__"))
  ty : PySem.W.typeIn K (.ref CR) = some (.type "type")
  rd : PySem.W.readsIn K CR (.type "type") = true
  ini : PySem.W.findCls K (.ref CR) (.type "type") "__init__" = some (.val (.builtin "ValueError.__init__"))
section
variable {X : Cx} {e : Expr} {es : List Expr} {ta : TA} {p1 p2 p pos pos2 : Pos} {x : Str} {CR : Addr}
theorem pe_rootini {pl : Sem Bool} (R : RootC X.K CR) (hg : Gl X x) (hm : X.mg x = some (.ref CR)) (ha : PA X (e :: es) ta) (hdb : (x == ("__debug__" : Str)) = false := by decide)
    (hc : eval (.Call (.Attribute (.Name x p1) "__init__" p2) (e :: es) [] pos) X.env = (do
      let ov ← eval (.Name x p1) X.env
      standAt p2.atName
      let (f, first) ← holding [ov] (getMethod ov "__init__" pl)
      callWith pos f first (backTo pos (starEach (e :: es) X.env)) (backToKw pos (keywordEach [] X.env))) := by rfl)
    (he : starEach (e :: es) X.env = (false, eval e X.env) :: starEach es X.env := by rfl) (hpl : (backTo pos (starEach es X.env)).any (·.1) = false := by rfl) :
    PE X (.Call (.Attribute (.Name x p1) "__init__" p2) (e :: es) [] pos) (tVeI X.K ta) := by
  refine ⟨fun pins s σ H Q I h => ?_⟩
  refine PySem.W.methodCall_KW (ld_glob I hg hm ?_ hdb) hc
  obtain ⟨m, fr⟩ := I.fr
  refine PySem.W.method_of_cls fr I.ok.mod.kin R.sp ?_
  refine PySem.W.cls_val fr I.ok.mod.kin R.ty R.rd R.ini (by decide +kernel) ?_
  show wpAny _ _ (callWith pos (Value.builtin "ValueError.__init__") [] (backTo pos (starEach (e :: es) X.env)) []) _ _ _
  refine PyProof.Rows.callWith_method1 (thn (ha.run pos pins _ σ H _ (I.tok _) h) fun us s1 ⟨vs, H1, I1, r1, a, C, ws, ev, hl, T, ea, q⟩ => ?_) he hpl
  subst ev
  cases r1 with
  | @cons _ u0 _ ur ra rw' =>
    obtain rfl : u0 = Value.ref a := ra
    have hlen : ur.length ≤ sizeLine := by
      rw [← Paired.length rw', sizeLine_eq]
      omega
    exact oinit_ok T I1 ea hlen fun s' J => ⟨.non, H1, J, rfl, q⟩
end
/-- the body of __init__(self): RowError.__init__(self) -/
def IsIniN (K : PySem.W.Frag) (mg : Str → Option Value) (st : Stmt) : Prop := ∀ (P : Program) (w : World) (base : Heap) (q : Str) (f : Addr) (cdv : Value) (A : Around) (outer : List Env) (s : Shared) (H : Hp) (E : XK),
  ∃ t : TS, PSs (cxOf CX0 P w K mg base ["self"] q (defScope st) f cdv A outer s H E).nox (defBody st) t ∧ ∀ D σ H, tDrop (tVeI K (tCons (tVar 0) tNil)) D σ H → t D σ H
def spIniN (K : PySem.W.Frag) (C : Addr) : Sp := fun vs H Q _ => ∃ a : Addr, vs = [.ref a] ∧ H a = some (exo a C none) ∧ Q .non H
/-- x names an error class without a field, at C -/
structure ErrN (K : PySem.W.Frag) (mg : Str → Option Value) (x : Str) (C : Addr) : Prop where
  g : mg x = some (.ref C)
  ox : OexC K C
  ini : ∃ (f : Addr) (q : Str) (st : Stmt) (fd : FuncData), PySem.W.findIn K (.ref C) "__init__" = some (some (.ref f)) ∧ PySem.W.typeIn K (.ref f) = some (.type "function") ∧ Fun K "__init__" q st f fd ∧ Binds K fd ["self"] [] ∧ FnScope ["self"] ["self"] (defScope st) ∧ IsIniN K mg st
/-- an error of the class at C is let out, all else as it was -/
def ThrownN (C : Addr) (H : Hp) (E : XK) : Prop := ∀ H' : Hp, Same H H' → E (.ref C) none H'
theorem ThrownN.mono {C : Addr} {H H1 : Hp} {E : XK} (h : ThrownN C H E) (k : Same H H1) : ThrownN C H1 E := fun H' s => h H' (k.trans s)
section
variable {P : Program} {w : World} {K : PySem.W.Frag} {mg : Str → Option Value} {base : Heap}
theorem ErrN.init {x : Str} {C : Addr} (T : ErrN K mg x C) : ∃ (f : Addr) (fd : FuncData), PySem.W.findIn K (.ref C) "__init__" = some (some (.ref f)) ∧ PySem.W.typeIn K (.ref f) = some (.type "function") ∧ Binds K fd ["self"] [] ∧
    FnOk P w K mg base CX0 1 f fd ["self"] (spIniN K C) := by
  obtain ⟨f, q, st, fd, h1, h2, F, b, S, dv⟩ := T.ini
  refine ⟨f, fd, h1, h2, b, F.ok S (fun vs H Q E h => ?_) (fun cdv A outer s H vs Q E hr h => ?_)⟩
  · obtain ⟨a, e, _⟩ := h
    rw [e]
    rfl
  · obtain ⟨a, e, ea, k⟩ := h
    subst e
    obtain ⟨t, d, go⟩ := dv P w base q f cdv A outer s H E
    refine ⟨t, d, go _ _ _ ?_⟩
    exact ⟨_, rfl, a, C, [], rfl, by decide, T.ox, ea, k⟩
end
/-- such a class of the text -/
def ErrNHere (K : PySem.W.Frag) (x q : Str) (st : Stmt) (R C : Addr) : Prop :=
  ∃ (f N : Addr) (nm qn : Str) (bs : List Value) (sn : List Str) (sub : List Value) (ab : Bool) (col : Option Bool) (dd : Option Addr) (m0 m1 m2 m3 m5 : Option Value), PySem.W.nsIn K mainGlobals x = some (some (.ref C)) ∧
    K.lookup C = some (excClassObj nm qn C N bs [.ref R, .type "ValueError", .type "Exception", .type "BaseException", .type "object"] true sn sub ab col dd m0 m1 m2 m3 m5 "ValueError.__new__") ∧
    PySem.W.findIn K (.ref C) "__setattr__" = some (some (.builtin "object.__setattr__")) ∧ PySem.W.findIn K (.ref C) "__init__" = some (some (.ref f)) ∧ PySem.W.typeIn K (.ref f) = some (.type "function") ∧ DefAt K "__init__" q st f ∧
    PySem.W.keepIn K (.ref C) = true ∧ PySem.W.subIn K (.ref C) (.type "BaseException") = some true ∧ PySem.W.typeIn K (.ref C) = some (.type "type")
section
variable {K : PySem.W.Frag} {mg : Str → Option Value} {h : Heap}
theorem ErrNHere.err {x q : Str} {st : Stmt} {R C : Addr} (E : ErrNHere K x q st R C) (X : K.In h) (G : h.Ns mainGlobals mg) (S : FnScope ["self"] ["self"] (defScope st)) (I : IsIniN K mg st)
    (b : ∀ (kV doc pm : Value) (an : Option Addr) (cdv ct : Value) (us : List Value), us.length = 1 → bindArgs (PySem.W.fnOf "__init__" q (defArgs st) (defBody st) (defScope st) .none kV doc pm an cdv ct) ⟨us, []⟩ = pure ((["self"] : List Str).zip us)) : ErrN K mg x C := by
  obtain ⟨f, N, nm, qn, bs, sn, sub, ab, col, dd, m0, m1, m2, m3, m5, g, l, sa, ini, ty, ⟨oc, od, kV, dc, pm, an, cd, ct, sl, lf, cf, kf⟩, kc, ex, tc⟩ := E
  have F := fun_mk (x := "__init__") (qual := q) (st := st) lf cf kf
  exact {
    g := PySem.W.mg_of X G g
    ox := ⟨⟨nm, qn, N, bs, _, sn, sub, ab, col, dd, m0, m1, m2, m3, m5, l, rfl⟩, sa, ex, tc, kc⟩
    ini := ⟨f, q, st, _, ini, ty, F, F.binds b, S, I⟩ }
theorem ErrNHere.of {x q : Str} {st : Stmt} {R C f N : Addr} {nm qn : Str} {bs : List Value} {sn : List Str} {sub : List Value} {ab : Bool} {col : Option Bool} {dd : Option Addr} {m0 m1 m2 m3 m5 : Option Value}
    {oc : Value} {od : Option Addr} {kV dc pm : Value} {an : Option Addr} {cd ct : Value} {sl : Array (Option Value)} (g : PySem.W.nsIn K mainGlobals x = some (some (.ref C)))
    (xl : K.lookup C = some (excClassObj nm qn C N bs [.ref R, .type "ValueError", .type "Exception", .type "BaseException", .type "object"] true sn sub ab col dd m0 m1 m2 m3 m5 "ValueError.__new__"))
    (sa : PySem.W.findIn K (.ref C) "__setattr__" = some (some (.builtin "object.__setattr__"))) (ini : PySem.W.findIn K (.ref C) "__init__" = some (some (.ref f))) (ty : PySem.W.typeIn K (.ref f) = some (.type "function"))
    (l : K.lookup f = some ⟨oc, od, .func (PySem.W.fnOf "__init__" q (defArgs st) (defBody st) (defScope st) .none kV dc pm an cd ct), sl⟩) (c : PySem.W.codeIn K cd q = true) (k : PySem.W.keepIn K (.ref f) = true)
    (kc : PySem.W.keepIn K (.ref C) = true) (ex : PySem.W.subIn K (.ref C) (.type "BaseException") = some true) (tc : PySem.W.typeIn K (.ref C) = some (.type "type")) : ErrNHere K x q st R C :=
  ⟨f, N, nm, qn, bs, sn, sub, ab, col, dd, m0, m1, m2, m3, m5, g, xl, sa, ini, ty, ⟨oc, od, kV, dc, pm, an, cd, ct, sl, l, c, k⟩, kc, ex, tc⟩
end
end Rw
set_option Elab.async false
set_option linter.all false
set_option maxRecDepth 100000
set_option maxHeartbeats 4000000
namespace Rw
open PySem PySem.Spec PyProof.Rows L2
structure ErrF (K : PySem.W.Frag) (mg : Str → Option Value) (x fl : Str) (C : Addr) : Prop where
  g : mg x = some (.ref C)
  ox : OexC K C
  xf : XfC K C
  no : PySem.W.findIn K (.ref C) fl = some none
  ini : ∃ (f : Addr) (q : Str) (st : Stmt) (fd : FuncData), PySem.W.findIn K (.ref C) "__init__" = some (some (.ref f)) ∧ PySem.W.typeIn K (.ref f) = some (.type "function") ∧ Fun K "__init__" q st f fd ∧ Binds K fd ["self", fl] [] ∧
    FnScope ["self", fl] ["self", fl] (defScope st) ∧
    (∀ X : Cx, X.N = (["self", fl] : List Str) → X.env.scope = defScope st → ∃ t : TS, PSs X (defBody st) t ∧ (∀ D σ H, tOst X.K fl (tVar 0) (tVar 1) D σ H → t D σ H))
/-- an error of the class at C with the value v in its field is let out, all else as it was -/
def ThrownF (fl : Str) (C : Addr) (v : V) (H : Hp) (E : XK) : Prop := ∀ (d : Addr) (H' : Hp), Same H H' → H d = none → H' d = some (.xd [(fl, v)]) → E (.ref C) (some d) H'
theorem ThrownF.mono {fl : Str} {C : Addr} {v : V} {H H1 : Hp} {E : XK} (h : ThrownF fl C v H E) (k : Same H H1) : ThrownF fl C v H1 E := fun d H' s hd hx => h d H' (k.trans s) (k.free hd) hx
def spIniX (K : PySem.W.Frag) (fl : Str) (C : Addr) : Sp := fun vs H Q _ => ∃ (a : Addr) (v : V), vs = [.ref a, v] ∧ H a = some (exo a C none) ∧ ∀ dx, H dx = none → dx ≠ a → Q .non (upd (upd H dx (exd dx [(fl, v)])) a (exo a C (some dx)))
section
variable {P : Program} {w : World} {K : PySem.W.Frag} {mg : Str → Option Value} {base : Heap} {fl : Str}
theorem ErrF.init {x : Str} {C : Addr} (T : ErrF K mg x fl C) : ∃ (f : Addr) (fd : FuncData), PySem.W.findIn K (.ref C) "__init__" = some (some (.ref f)) ∧ PySem.W.typeIn K (.ref f) = some (.type "function") ∧ Binds K fd ["self", fl] [] ∧
    FnOk P w K mg base CX0 1 f fd ["self", fl] (spIniX K fl C) := by
  obtain ⟨f, q, st, fd, h1, h2, F, b, S, dv⟩ := T.ini
  refine ⟨f, fd, h1, h2, b, F.ok S (fun vs H Q E h => ?_) (fun cdv A outer s H vs Q E hr h => ?_)⟩
  · obtain ⟨a, v, e, _⟩ := h
    rw [e]
    rfl
  · obtain ⟨a, v, e, ea, k⟩ := h
    subst e
    obtain ⟨t, d, go⟩ := dv (cxOf CX0 P w K mg base ["self", fl] q (defScope st) f cdv A outer s H E).nox rfl rfl
    refine ⟨t, d, go _ _ _ ?_⟩
    exact ⟨v, rfl, .ref a, rfl, a, C, rfl, T.ox, T.no, Or.inl ⟨ea, k⟩⟩
end
def IsIniF (fl : Str) (st : Stmt) : Prop := ∃ p1 p2 p3 p4 : Pos, defBody st = [.Assign [.Attribute (.Name "self" p1) fl p2] (.Name fl p3) p4] ∧ (defScope st).names.lookup ("self" : Str) = some NameKind.local ∧ (defScope st).names.lookup fl = some NameKind.local
theorem ini_walkF {fl : Str} {st : Stmt} (I : IsIniF fl st) (hdb : (fl == ("__debug__" : Str)) = false) (hcd : (fl == ("__classdict__" : Str)) = false) (X : Cx) (hN : X.N = (["self", fl] : List Str)) (hS : X.env.scope = defScope st) : ∃ t : TS, PSs X (defBody st) t ∧ (∀ D σ H, tOst X.K fl (tVar 0) (tVar 1) D σ H → t D σ H) := by
  obtain ⟨p1, p2, p3, p4, e, l1, l2⟩ := I
  rw [e]
  refine ⟨_, pss_one (ps_ost (pe_var (i := 0) (by rw [hN]; rfl) (.inl (by rw [hS]; exact l1))) (pe_var (i := 1) (by rw [hN]; rfl) (.inl (by rw [hS]; exact l2)) (hd := hdb) (hcd := hcd))), fun D σ H z => z⟩
def ErrFHere (K : PySem.W.Frag) (x q fl : Str) (st : Stmt) (R C : Addr) : Prop :=
  ∃ (f N : Addr) (nm qn : Str) (bs : List Value) (sn : List Str) (sub : List Value) (ab : Bool) (col : Option Bool) (dd : Option Addr) (m0 m1 m2 m3 m5 : Option Value), PySem.W.nsIn K mainGlobals x = some (some (.ref C)) ∧
    K.lookup C = some (excClassObj nm qn C N bs [.ref R, .type "ValueError", .type "Exception", .type "BaseException", .type "object"] true sn sub ab col dd m0 m1 m2 m3 m5 "ValueError.__new__") ∧
    PySem.W.findIn K (.ref C) "__setattr__" = some (some (.builtin "object.__setattr__")) ∧ PySem.W.findIn K (.ref C) "__getattribute__" = some (some (.builtin "BaseException.__getattribute__")) ∧ PySem.W.findIn K (.ref C) "__getattr__" = some none ∧
    PySem.W.findIn K (.ref C) fl = some none ∧ PySem.W.findIn K (.ref C) "__init__" = some (some (.ref f)) ∧ PySem.W.typeIn K (.ref f) = some (.type "function") ∧ DefAt K "__init__" q st f ∧
    PySem.W.keepIn K (.ref C) = true ∧ PySem.W.subIn K (.ref C) (.type "BaseException") = some true ∧ PySem.W.typeIn K (.ref C) = some (.type "type") ∧ PySem.W.hasDictIn K C = true
section
variable {K : PySem.W.Frag} {mg : Str → Option Value} {h : Heap}
theorem ErrFHere.err {x q fl : Str} {st : Stmt} {R C : Addr} (E : ErrFHere K x q fl st R C) (X : K.In h) (G : h.Ns mainGlobals mg) (S : FnScope ["self", fl] ["self", fl] (defScope st)) (I : IsIniF fl st) (hdb : (fl == ("__debug__" : Str)) = false) (hcd : (fl == ("__classdict__" : Str)) = false)
    (b : ∀ (kV doc pm : Value) (an : Option Addr) (cdv ct : Value) (us : List Value), us.length = 2 → bindArgs (PySem.W.fnOf "__init__" q (defArgs st) (defBody st) (defScope st) .none kV doc pm an cdv ct) ⟨us, []⟩ = pure ((["self", fl] : List Str).zip us)) : ErrF K mg x fl C := by
  obtain ⟨f, N, nm, qn, bs, sn, sub, ab, col, dd, m0, m1, m2, m3, m5, g, l, sa, ga, gg, no, ini, ty, ⟨oc, od, kV, dc, pm, an, cd, ct, sl, lf, cf, kf⟩, kc, ex, tc, hd⟩ := E
  have F := fun_mk (x := "__init__") (qual := q) (st := st) lf cf kf
  exact {
    g := PySem.W.mg_of X G g
    ox := ⟨⟨nm, qn, N, bs, _, sn, sub, ab, col, dd, m0, m1, m2, m3, m5, l, rfl⟩, sa, ex, tc, kc⟩
    xf := ⟨ga, gg, ex, hd⟩
    no := no
    ini := ⟨f, q, st, _, ini, ty, F, F.binds b, S, ini_walkF I hdb hcd⟩ }
theorem ErrFHere.of {x q fl : Str} {st : Stmt} {R C f N : Addr} {nm qn : Str} {bs : List Value} {sn : List Str} {sub : List Value} {ab : Bool} {col : Option Bool} {dd : Option Addr} {m0 m1 m2 m3 m5 : Option Value}
    {oc : Value} {od : Option Addr} {kV dc pm : Value} {an : Option Addr} {cd ct : Value} {sl : Array (Option Value)} (g : PySem.W.nsIn K mainGlobals x = some (some (.ref C)))
    (xl : K.lookup C = some (excClassObj nm qn C N bs [.ref R, .type "ValueError", .type "Exception", .type "BaseException", .type "object"] true sn sub ab col dd m0 m1 m2 m3 m5 "ValueError.__new__"))
    (sa : PySem.W.findIn K (.ref C) "__setattr__" = some (some (.builtin "object.__setattr__"))) (ga : PySem.W.findIn K (.ref C) "__getattribute__" = some (some (.builtin "BaseException.__getattribute__"))) (gg : PySem.W.findIn K (.ref C) "__getattr__" = some none)
    (no : PySem.W.findIn K (.ref C) fl = some none) (ini : PySem.W.findIn K (.ref C) "__init__" = some (some (.ref f))) (ty : PySem.W.typeIn K (.ref f) = some (.type "function"))
    (l : K.lookup f = some ⟨oc, od, .func (PySem.W.fnOf "__init__" q (defArgs st) (defBody st) (defScope st) .none kV dc pm an cd ct), sl⟩) (c : PySem.W.codeIn K cd q = true) (k : PySem.W.keepIn K (.ref f) = true)
    (kc : PySem.W.keepIn K (.ref C) = true) (ex : PySem.W.subIn K (.ref C) (.type "BaseException") = some true) (tc : PySem.W.typeIn K (.ref C) = some (.type "type")) (hd : PySem.W.hasDictIn K C = true) : ErrFHere K x q fl st R C :=
  ⟨f, N, nm, qn, bs, sn, sub, ab, col, dd, m0, m1, m2, m3, m5, g, xl, sa, ga, gg, no, ini, ty, ⟨oc, od, kV, dc, pm, an, cd, ct, sl, l, c, k⟩, kc, ex, tc, hd⟩
end
end Rw
set_option Elab.async false
set_option linter.all false
set_option maxRecDepth 100000
set_option maxHeartbeats 4000000
namespace PySem.RwK
open PySem PySem.Spec PySem.Calls PyProof.Rows PySem.W PySem.HandSPX
section
variable {M : Model} {A : Around} {E : Value → Shared → Prop} {hp : Heap} {gs : Array GenState} {dr : Drawn} {tk : Nat} {os : OsState}
variable {nm qn : Str} {C N : Addr} {bs ms msB : List Value} {hasD : Bool} {sn : List Str} {su : List Value} {ab : Bool} {co : Option Bool} {dd : Option Addr} {m0 m1 m2 m3 m5 : Option Value} {B idN idI : String}
theorem new_checked (F : ExcBaseFacts B idN idI msB) (hT : ∀ X : String, ms.contains (.type X) = msB.contains (.type X)) {kw : List (Str × Value)} {Q : Unit → Shared → Prop}
    (lC : hp.get? C = some (excClassObj nm qn C N bs ms hasD sn su ab co dd m0 m1 m2 m3 m5 idN)) (q : Q () ⟨hp, gs, dr, tk, os⟩) : wpAny M A (checkBuiltinCall idN ⟨[.ref C], kw⟩) Q E ⟨hp, gs, dr, tk, os⟩ := by
  have inB : (Value.ref C :: ms).contains (.type B) = true := by
    rw [List.contains_cons, hT, F.hasB, Bool.or_true]
  have nS := F.noStar
  simp only [checkBuiltinCall, F.newKind, F.newSplit, F.newRow]
  repeat (first | refine wpAny_loadPart_at lC ?_ | (refine wpAny_isSubtype_exc lC ?_; rw [inB]) | refine wpAny_staticBase_exc lC ?_ | refine wpAny_madeBy_exc lC ?_ | simp only [bne_self_eq_false, Bool.false_eq_true, if_false] | wp_step)
  exact q
end
section
variable {P : Program} {w : World} {A : Around} {E : Value → Shared → Prop} {R : Result → Shared → Prop} {hp : Heap} {gs : Array GenState} {dr : Drawn} {tk : Nat} {os : OsState}
variable {nm qn : Str} {C N : Addr} {bs ms msB : List Value} {hasD : Bool} {sn : List Str} {su : List Value} {ab : Bool} {co : Option Bool} {dd : Option Addr} {m0 m1 m2 m3 m5 : Option Value} {B idN idI : String}
theorem new_named (F : ExcBaseFacts B idN idI msB) (hT : ∀ X : String, ms.contains (.type X) = msB.contains (.type X)) {kw : List (Str × Value)}
    (lC : hp.get? C = some (excClassObj nm qn C N bs ms hasD sn su ab co dd m0 m1 m2 m3 m5 idN))
    (q : R (.ok (.ret (.ref (hp.objs.size + 1)))) ⟨(hp.push (PySem.W.kdv_tup [])).push (excO C hp.objs.size), gs, dr, tk, os⟩) : codeAny (model P w) A (.builtin idN ⟨[.ref C], kw⟩) R ⟨hp, gs, dr, tk, os⟩ := by
  have ends := F.ends
  have inB : (Value.ref C :: ms).contains (.type B) = true := by
    rw [List.contains_cons, hT, F.hasB, Bool.or_true]
  have inA : (Value.ref C :: ms).contains (.type "AttributeError") = false := by
    rw [List.contains_cons, hT, F.noAttr] <;> rfl
  have inN : (Value.ref C :: ms).contains (.type "NameError") = false := by
    rw [List.contains_cons, hT, F.noName] <;> rfl
  refine codeAny_builtinAt F.entry ?_
  unfold Builtin.«BaseException.__new__»
  refine wpAt_bind ?_
  show wpAt _ _ _ (stack >>= _) _ _ _
  refine wpAt_bind (wpAt_stack fun _ _ => wpAt_of_wpAny ?_)
  wp_walk
  refine wpAt_of_wpAny ?_
  rw [F.owner]
  repeat (first | with_reducible refine wpAny_madeHere_exc F.canon lC ?_ | with_reducible refine wpAny_loadPart_at lC ?_ | (with_reducible refine wpAny_isSubtype_exc lC ?_; first | rw [inB] | rw [inA] | rw [inN]) | wp_step)
  show R _ _
  rw [Heap.size_push]
  exact q
theorem type_named (F : ExcBaseFacts B idN idI msB) (hT : ∀ X : String, ms.contains (.type X) = msB.contains (.type X)) {kw : List (Str × Value)} {fI : Addr} {Q : PySem.Fin → Shared → Prop}
    (lC : hp.get? C = some (excClassObj nm qn C N bs ms hasD sn su ab co dd m0 m1 m2 m3 m5 idN))
    (hi : Looks (model P w) hp (typeLookup (.ref C) "__init__") (some (.ref fI))) (hb : ∀ self, Looks (model P w) hp (bindSpecial (.ref fI) self) (.ref fI, [self]))
    (q : codeAny (model P w) A (.call (.ref fI) ⟨[.ref (hp.objs.size + 1)], kw⟩)
      (fun r s' => match r with | .ok (.ret v) => v = .none ∧ Q (.done (.ret (.ref (hp.objs.size + 1)))) s' | .ok _ => False | .error e => E e s')
      ⟨(hp.push (PySem.W.kdv_tup [])).push (excO C hp.objs.size), gs, dr, tk, os⟩) :
    wpAny (model P w) A (Builtin.«type.__call__» ⟨[.ref C], kw⟩) Q E ⟨hp, gs, dr, tk, os⟩ := by
  repeat (first | with_reducible refine wpAny_loadPart_at lC ?_ | with_reducible refine wpAny_madeBy_exc lC ?_ | wp_step)
  refine codeAny_call_builtin_code (Code.quiet_builtin _ F.quiet) (new_checked F hT lC ?_)
  refine new_named F hT lC ?_
  show wpAny _ _ _ _ _ _
  have k : ∀ b o, hp.get? b = some o → ((hp.push (PySem.W.kdv_tup [])).push (excO C hp.objs.size)).get? b = some o := fun _ _ e => Heap.get?_push_of_some _ (Heap.get?_push_of_some _ e)
  have lC2 := k _ _ lC
  have lE : ((hp.push (PySem.W.kdv_tup [])).push (excO C hp.objs.size)).get? (hp.objs.size + 1) = some (excO C hp.objs.size) := by heap_get
  have inC : (Value.ref C :: ms).contains (.ref C) = true := by simp
  have hi2 := hi.keeps k
  have hb2 := (hb (.ref (hp.objs.size + 1))).keeps k
  unfold isInstance
  repeat (first | with_reducible refine wpAny_loadPart_at lE ?_ | (with_reducible refine wpAny_isSubtype_exc lC2 ?_; rw [inC]) | wp_step)
  show wpAny _ _ (typeLookup (.ref C) _) _ _ _
  refine hi2.at ?_
  refine wpAny_holding (wpAny_bind (hb2.at ?_))
  refine wpAny_bind (wpAny_call (codeAny_mono q fun r s' z => ?_))
  rcases r with e | (v | _ | _ | _) <;> first | exact z | exact z.elim | skip
  obtain ⟨rfl, z⟩ := z
  first
    | exact wpAny_pure (wpAny_pure z)
    | (wp_walk; exact z)
theorem call_named (F : ExcBaseFacts B idN idI msB) (hT : ∀ X : String, ms.contains (.type X) = msB.contains (.type X)) {kw : List (Str × Value)} {fI : Addr}
    (lC : hp.get? C = some (excClassObj nm qn C N bs ms hasD sn su ab co dd m0 m1 m2 m3 m5 idN))
    (hi : Looks (model P w) hp (typeLookup (.ref C) "__init__") (some (.ref fI))) (hb : ∀ self, Looks (model P w) hp (bindSpecial (.ref fI) self) (.ref fI, [self]))
    (q : codeAny (model P w) (A.under (.builtin "type.__call__" ⟨[.ref C], kw⟩)) (.call (.ref fI) ⟨[.ref (hp.objs.size + 1)], kw⟩) (InitBack (hp.objs.size + 1) R)
      ⟨(hp.push (PySem.W.kdv_tup [])).push (excO C hp.objs.size), gs, dr, tk, os⟩) :
    codeAny (model P w) A (.call (.ref C) ⟨[], kw⟩) R ⟨hp, gs, dr, tk, os⟩ := by
  have f1 := tc_lookup
  have f2 := tc_bind (.ref C)
  have isT : (⟨hp, gs, dr, tk, os⟩ : Shared).TypeIs (.ref C) "type" := ⟨_, lC, rfl⟩
  refine codeAny_of_tree ?_
  show wpAny _ _ (callAny (.ref C) _) _ _ _
  repeat (any_goals (first | assumption | with_reducible refine wpAny_loadPart_at lC ?_ | wp_step))
  refine ⟨rfl, ?_⟩
  refine codeAny_call_builtin_at (Code.quiet_builtin _ (by decide +kernel)) entry_typeCall (wpAny_check_type_call_sub lC (type_named F hT lC hi hb ?_))
  refine codeAny_mono q fun r s' z => ?_
  rcases r with e | (v | _ | _ | _) <;> exact z
end
section
variable {P : Program} {w : World} {A : Around} {E : Value → Shared → Prop} {s : Shared} {K : Frag} {x D : Addr} {ox : Obj} {od : Option Obj}
theorem data_found {C : Addr} {name : Str} {a g : Value} (hc : (clsIn K C).isSome = true) (ha : findIn K (.ref C) name = some (some a)) (hg : specialIn K a "__get__" = some (some g)) (ht : takesIn K a = some true) : findObj K C od name = some (.bind g a) := by
  obtain ⟨cd, e⟩ := Option.isSome_iff_exists.mp hc
  unfold findObj
  rw [e, Option.bind_some, ha, Option.bind_some]
  simp [hg, ht]
theorem class_of_exc (C : L2.ExcC K D) {Q : Option Value → Shared → Prop} (X : K.In s.heap) (I : InstAt s.heap x ox D od) (q : Q (some (.ref D)) { s with toks := s.toks + 1 }) : wpAny (model P w) A (getAttr? (.ref x) "__class__") Q E s := by
  have hf : findObj K D od "__class__" = some (.bind (.builtin "getset_descriptor.__get__") (.builtin "object.__class__")) := data_found (by
    obtain ⟨cd, e, _⟩ := any_some C.hd
    rw [e] <;> rfl) C.ha C.hn C.ht
  obtain ⟨hp, gs, dr, tk, os⟩ := s
  have l0 := I.type (M := model P w)
  have l1 := looks_findIn (M := model P w) X C.hg
  have l2 := looks_findIn (M := model P w) X C.hk
  have l3 := looks_find (M := model P w) X I hf
  have isE : Looks (model P w) hp (isInstance (.ref x) (.type "BaseException")) true := l0.andThen (looks_subIn X C.hs)
  have no2 : (Value.builtin "BaseException.__getattribute__" == Value.builtin "object.__getattribute__") = false := by decide +kernel
  have no1 : (onTheHeap (Value.ref D) && Value.builtin "BaseException.__getattribute__" == Value.builtin "object.__getattribute__") = false := by
    rw [no2] <;> rfl
  unfold getAttr? getAttrBy? getAttrBy
  refine wpAny_bind (wpAny_mkText (wpAny_bind (wpAny_attempt (wpAny_holding (wpAny_bind (l0.at (wpAny_bind (l1.at ?_))))))))
  show wpAny _ _ (if (onTheHeap (Value.ref D) && Value.builtin "BaseException.__getattribute__" == Value.builtin "object.__getattribute__") = true then _ else _) _ _ _
  rw [no1, if_neg Bool.false_ne_true]
  unfold getAttrByItsOwn hookBefore
  refine wpAny_bind ?_
  rw [if_pos (show onTheHeap (Value.ref D) = true from rfl)]
  refine l2.at ?_
  refine wpAny_bind (wpAny_attempt (wpAny_holding ?_))
  unfold callGetattribute
  rw [show (false && onTheHeap (Value.builtin "BaseException.__getattribute__")) = false from rfl, if_neg Bool.false_ne_true]
  unfold boundAndCalled
  rw [PySem.F.excAttr_ValueError.ga.bind (.ref x)]
  refine wpAny_bind (wpAny_pure ?_)
  show wpAny _ _ (call (.builtin "BaseException.__getattribute__") [.ref x, .str "__class__" tk]) _ _ _
  refine wpAny_call (codeAny_call_builtin PySem.F.excAttr_ValueError.ga.plain PySem.F.entry_bexc_ga ?_)
  refine @check_slot (model P w) _ _ ⟨hp, gs, dr, tk + 1, os⟩ "BaseException.__getattribute__" "BaseException" "__getattribute__" (.ref x) [.str "__class__" tk] [] _ (by decide +kernel) (by decide +kernel) isE (PySem.F.args_bexc_ga (.ref x) (.str "__class__" tk)) ?_
  unfold Builtin.«object.__getattribute__»
  refine wpAny_bind (wpAny_of_eq (a := ((Value.ref x : Value), [Value.str "__class__" tk])) (by first | rfl | (simp only [slotArgs]; rfl)) ?_)
  refine wpAny_bind (wpAny_pure (wpAny_bind (l0.at (wpAny_bind (l3.at ?_)))))
  show wpAny _ _ (holding [Value.builtin "object.__class__"] (call (.builtin "getset_descriptor.__get__") [.builtin "object.__class__", .ref x, .ref D]) >>= ret) _ _ _
  refine wpAny_bind (wpAny_holding (wpAny_call (class_get (s := ⟨hp, gs, dr, tk + 1, os⟩) (ox := ox) (od := od) X I C.hm ?_)))
  refine wpAny_pure ?_
  show wpAny _ _ (handedOut (.ref D)) _ _ _
  rw [handedOut_of (v := .ref D) rfl]
  first
    | exact wpAny_pure (wpAny_pure q)
    | exact wpAny_pure q
    | exact wpAny_pure (wpAny_bind (wpAny_pure (wpAny_pure q)))
theorem kitx_held (C : L2.ExcC K D) : KitX K (.ref x) (.ref D) (fun h => ∃ (ox : Obj) (od : Option Obj), InstAt h x ox D od) where
  ty := fun _ _ _ ⟨_, _, I⟩ => I.type
  it := fun _ _ X _ => by
    obtain ⟨cd, e, _⟩ := any_some C.hd
    unfold clsIn at e
    split at e
    · rename_i c' d' cd' sl' ho
      intro A' Q' E' s' k q
      unfold isType loadHead
      exact wpAny_bind (wpAny_loadPart (k _ _ (X _ _ ho)) (wpAny_pure q))
    · cases e
  ne := fun h tp dd its n sl X htp => by
    obtain ⟨cd, e, _⟩ := any_some C.hd
    refine Bool.eq_false_iff.mpr fun q => ?_
    have z : D = tp := Value.ref.inj (beq_iff_eq.mp q)
    subst z
    unfold clsIn at e
    split at e
    · rename_i c' d' cd' sl' ho
      cases (X _ _ ho).symm.trans htp
    · cases e
  ca := fun X ⟨_, _, I⟩ k => class_of_exc C X I k
end
end PySem.RwK
set_option Elab.async false
set_option linter.all false
set_option maxRecDepth 100000
set_option maxHeartbeats 4000000
namespace Rw
open PySem PySem.Spec PyProof.Rows L2
/-- an own error with one field, held as a value -/
def ExVal (H : Hp) (a C : Addr) (fl : Str) (v : V) : Prop := ∃ d, H a = some (exo a C (some d)) ∧ H d = some (exd d [(fl, v)])
theorem ExVal.keep {H H' : Hp} {a C : Addr} {fl : Str} {v : V} (h : ExVal H a C fl v) (k : Same H H') : ExVal H' a C fl v := by
  obtain ⟨d, h1, h2⟩ := h
  exact ⟨d, k _ _ h1, k _ _ h2⟩
/-- such a class; its field may be named in a call -/
structure ErrK (K : PySem.W.Frag) (mg : Str → Option Value) (x fl : Str) (C : Addr) : Prop where
  e : ErrF K mg x fl C
  kb : ∃ (f : Addr) (q : Str) (st : Stmt) (fd : FuncData), PySem.W.findIn K (.ref C) "__init__" = some (some (.ref f)) ∧ PySem.W.typeIn K (.ref f) = some (.type "function") ∧ Fun K "__init__" q st f fd ∧ FnScope ["self", fl] ["self", fl] (defScope st) ∧
    (∀ X : Cx, X.N = (["self", fl] : List Str) → X.env.scope = defScope st → ∃ t : TS, PSs X (defBody st) t ∧ (∀ D σ H, tOst X.K fl (tVar 0) (tVar 1) D σ H → t D σ H)) ∧ ∀ (s : Shared) (u z : Value), BindsTo s fd ⟨[u], [(fl, z)]⟩ ((["self", fl] : List Str).zip [u, z])
section
variable {P : Program} {w : World} {K : PySem.W.Frag} {mg : Str → Option Value} {base : Heap} {fl : Str}
theorem ErrK.init {x : Str} {C : Addr} (T : ErrK K mg x fl C) : ∃ (f : Addr) (fd : FuncData), PySem.W.findIn K (.ref C) "__init__" = some (some (.ref f)) ∧ PySem.W.typeIn K (.ref f) = some (.type "function") ∧ (∀ (s : Shared) (u z : Value), BindsTo s fd ⟨[u], [(fl, z)]⟩ ((["self", fl] : List Str).zip [u, z])) ∧
    FnOk P w K mg base CX0 1 f fd ["self", fl] (spIniX K fl C) := by
  obtain ⟨f, q, st, fd, h1, h2, F, S, dv, kb⟩ := T.kb
  refine ⟨f, fd, h1, h2, kb, F.ok S (fun vs H Q E h => ?_) (fun cdv A outer s H vs Q E hr h => ?_)⟩
  · obtain ⟨a, v, e, _⟩ := h
    rw [e]
    rfl
  · obtain ⟨a, v, e, ea, k⟩ := h
    subst e
    obtain ⟨t, d, go⟩ := dv (cxOf CX0 P w K mg base ["self", fl] q (defScope st) f cdv A outer s H E).nox rfl rfl
    refine ⟨t, d, go _ _ _ ?_⟩
    exact ⟨v, rfl, .ref a, rfl, a, C, rfl, T.e.ox, T.e.no, Or.inl ⟨ea, k⟩⟩
end
/-- where such a class stands -/
theorem ErrFHere.errk {K : PySem.W.Frag} {mg : Str → Option Value} {h : Heap} {x q fl : Str} {st : Stmt} {R C : Addr} (E : ErrFHere K x q fl st R C) (X : K.In h) (G : h.Ns mainGlobals mg) (S : FnScope ["self", fl] ["self", fl] (defScope st)) (I : IsIniF fl st) (hdb : (fl == ("__debug__" : Str)) = false) (hcd : (fl == ("__classdict__" : Str)) = false)
    (b : ∀ (kV doc pm : Value) (an : Option Addr) (cdv ct : Value) (us : List Value), us.length = 2 → bindArgs (PySem.W.fnOf "__init__" q (defArgs st) (defBody st) (defScope st) .none kV doc pm an cdv ct) ⟨us, []⟩ = pure ((["self", fl] : List Str).zip us))
    (bk : ∀ (kV doc pm : Value) (an : Option Addr) (cdv ct : Value) (u z : Value), bindArgs (PySem.W.fnOf "__init__" q (defArgs st) (defBody st) (defScope st) .none kV doc pm an cdv ct) ⟨[u], [(fl, z)]⟩ = pure ((["self", fl] : List Str).zip [u, z])) : ErrK K mg x fl C := by
  refine ⟨E.err X G S I hdb hcd b, ?_⟩
  obtain ⟨f, N, nm, qn, bs, sn, sub, ab, col, dd, m0, m1, m2, m3, m5, g, l, sa, ga, gg, no, ini, ty, ⟨oc, od, kV, dc, pm, an, cd, ct, sl, lf, cf, kf⟩, kc, ex, tc, hd⟩ := E
  exact ⟨f, q, st, _, ini, ty, fun_mk (x := "__init__") (qual := q) (st := st) lf cf kf, S, ini_walkF I hdb hcd, fun s u z => .of_eq (bk kV dc pm an cd ct u z)⟩
section
variable {X : Cx} {x fl : Str} {C : Addr} {e : Expr} {te : TE} {p pos : Pos}
/-- C(e), the error as a value -/
def tExv (C : Addr) (fl : Str) (te : TE) : TE := fun σ H Q => te σ H fun v H1 => ∀ a H', H1 a = none → Same H1 H' → ExVal H' a C fl v → Q (.ref a) H'
theorem exv_ini {K : PySem.W.Frag} {H1 : Hp} {Q : VK} {v : V} (h : ∀ a H', H1 a = none → Same H1 H' → ExVal H' a C fl v → Q (.ref a) H') : ∀ a, H1 a = none → spIniX K fl C [.ref a, v] (upd H1 a (exo a C none)) (fun u H2 => u = .non ∧ Q (.ref a) H2) (fun _ _ _ => False) := fun a ha => by
  refine ⟨a, v, rfl, upd_same, fun dx hd ne => ⟨rfl, h a _ ha (fun b o e => ?_) ⟨dx, upd_same, by rw [upd_ne ne, upd_same]⟩⟩⟩
  rw [upd_ne ne] at hd
  rw [upd_ne (ne_of_none e ha), upd_ne (ne_of_none e hd), upd_ne (ne_of_none e ha)]
  exact e
theorem pe_exv (T : ErrF X.K X.mg x fl C) (hr : Room 2 X.A) (he : PE X e te) (hg : Gl X x := by rfl) (hdb : (x == ("__debug__" : Str)) = false := by decide)
    (hs : starEach (e :: []) X.env = (false, eval e X.env) :: starEach [] X.env := by rfl) (hpl : (backTo pos (starEach [] X.env)).any (·.1) = false := by rfl) : PE X (.Call (.Name x p) [e] [] pos) (tExv C fl te) := by
  obtain ⟨fI, fd, hi, ht, hb, G1⟩ := T.init (P := X.prog) (w := X.w) (base := X.base)
  refine ⟨fun pins s σ H Q I h => ?_⟩
  obtain ⟨nm, qn, N, bs, ms, sn, su, ab, co, dd, m0, m1, m2, m3, m5, lC, rC⟩ := T.ox.cls
  refine wpAny_Call_Name_kw (ld_glob I hg T.g ?_ hdb)
  have hq : tCons te tNil σ H (fun vs H1 => match vs with
    | [v] => ∀ a H', H1 a = none → Same H1 H' → ExVal H' a C fl v → Q (.ref a) H'
    | _ => False) := h
  refine PySem.W.callWith_K (h₀ := X.base) I.ok.mod.kin T.ox.kC (thn ((pa_cons he pa_nil hs).run pos pins s σ H _ I hq) fun us s1 ⟨vs, H1, I1, r1, q1⟩ => ⟨I1.kIn, ?_⟩) hs hpl
  show wpAny _ _ (call (.ref C) us) _ _ _
  obtain ⟨v, rfl⟩ : ∃ v, vs = [v] := by
    rcases vs with _ | ⟨v, _ | ⟨u, vs⟩⟩
    · exact q1.elim
    · exact ⟨v, rfl⟩
    · exact q1.elim
  obtain ⟨z, rfl, rz⟩ := vals1 r1
  have q1 : ∀ a H', H1 a = none → Same H1 H' → ExVal H' a C fl v → Q (.ref a) H' := q1
  obtain ⟨hp, gs, dr, tk, os⟩ := s1
  have up := Nat.le_succ hp.objs.size
  have hq := exv_ini (K := X.K) q1 _ (I1.hok.fresh up)
  have kk : ∀ b o, hp.get? b = some o → ((hp.push (PySem.W.kdv_tup [z])).push (PySem.HandSPX.excO C hp.objs.size)).get? b = some o := fun _ _ e => Heap.get?_push_of_some _ (Heap.get?_push_of_some _ e)
  have la : ((hp.push (PySem.W.kdv_tup [z])).push (PySem.HandSPX.excO C hp.objs.size)).get? (hp.objs.size + 1) = some (PySem.HandSPX.excO C hp.objs.size) := by heap_get
  have I2 := I1.laid (t' := tk) (a := hp.objs.size + 1) (o := exo (hp.objs.size + 1) C none) kk up (exo_ok la)
  have r2 : Vals [V.ref (hp.objs.size + 1), v] [Value.ref (hp.objs.size + 1), z] := .cons rfl (.cons rz .nil)
  refine wpAny_call (PySem.HandSPX.call_own PySem.F.excBase_ValueError (fun Y => PySem.HandSPX.refsVE_contains Y ms rC) (I1.kIn _ _ lC) (PySem.W.looks_findIn I1.kIn hi) (fun self => PySem.W.bind_fn I1.kIn self ht) (by show 1 ≤ sizeLine; decide)
    (codeAny_mono (G1.run _ X.stack _ _ ⟨[Value.ref (hp.objs.size + 1), z], []⟩ [Value.ref (hp.objs.size + 1), z] _ _ (fun _ _ _ => False) (hr.make C [z] []) (I2.env0.make C [z] []) (by
      have := hb _ [Value.ref (hp.objs.size + 1), z] I2.kIn rfl
      simpa using this) r2 hq) fun r s' hq' => ?_))
  cases r with
  | error er => exact (show False from hq').elim
  | ok fl =>
    cases fl with
    | ret u =>
      obtain ⟨y, H', I3, ry, ey, q3⟩ := I2.after hq'
      subst ey
      exact ⟨ry, ⟨V.ref (hp.objs.size + 1), H', I3, rfl, q3⟩⟩
    | next => exact False.elim hq'
    | brk => exact False.elim hq'
    | cont => exact False.elim hq'
/-- C(f = e) -/
theorem pe_exk {kpos : Pos} {nm : Option Str} (T : ErrK X.K X.mg x fl C) (hr : Room 2 X.A) (he : PE X e te) (hg : Gl X x := by rfl) (hdb : (x == ("__debug__" : Str)) = false := by decide)
    (hall : (backToKw pos (keywordEach [⟨nm, e, kpos⟩] X.env)).all (·.1.isSome) = true := by rfl) (hks : (backToKw pos (keywordEach [⟨nm, e, kpos⟩] X.env)).filterMap (·.1) = [fl] := by rfl)
    (hpl : ((backTo pos (starEach [] X.env)).any (·.1) || (backToKw pos (keywordEach [⟨nm, e, kpos⟩] X.env)).any (·.1.isNone)) = false := by rfl) : PE X (.Call (.Name x p) [] [⟨nm, e, kpos⟩] pos) (tExv C fl te) := by
  obtain ⟨fI, fd, hi, ht, hb, G1⟩ := T.init (P := X.prog) (w := X.w) (base := X.base)
  refine ⟨fun pins s σ H Q I h => ?_⟩
  obtain ⟨nm, qn, N, bs, ms, sn, su, ab, co, dd, m0, m1, m2, m3, m5, lC, rC⟩ := T.e.ox.cls
  refine wpAny_Call_Name_kw (ld_glob I hg T.e.g ?_ hdb)
  have hq : tCons te tNil σ H (fun vs H1 => match vs with
    | [v] => ∀ a H', H1 a = none → Same H1 H' → ExVal H' a C fl v → Q (.ref a) H'
    | _ => False) := h
  refine PySem.W.callWith_KW0 (h₀ := X.base) I.ok.mod.kin T.e.ox.kC hall ?_ hpl
  refine thn ((pk_cons he pk_nil).run pos pins s σ H _ I hq) fun us s1 ⟨vs, H1, I1, r1, q1⟩ => ⟨I1.kIn, ?_⟩
  rw [hks]
  obtain ⟨v, rfl⟩ : ∃ v, vs = [v] := by
    rcases vs with _ | ⟨v, _ | ⟨u, vs⟩⟩
    · exact q1.elim
    · exact ⟨v, rfl⟩
    · exact q1.elim
  obtain ⟨z, rfl, rz⟩ := vals1 r1
  have q1 : ∀ a H', H1 a = none → Same H1 H' → ExVal H' a C fl v → Q (.ref a) H' := q1
  show wpAny _ _ (call (.ref C) [] [(fl, z)]) _ _ _
  obtain ⟨hp, gs, dr, tk, os⟩ := s1
  have up := Nat.le_succ hp.objs.size
  have hq := exv_ini (K := X.K) q1 _ (I1.hok.fresh up)
  have kk : ∀ b o, hp.get? b = some o → ((hp.push (PySem.W.kdv_tup [])).push (PySem.HandSPX.excO C hp.objs.size)).get? b = some o := fun _ _ e => Heap.get?_push_of_some _ (Heap.get?_push_of_some _ e)
  have la : ((hp.push (PySem.W.kdv_tup [])).push (PySem.HandSPX.excO C hp.objs.size)).get? (hp.objs.size + 1) = some (PySem.HandSPX.excO C hp.objs.size) := by heap_get
  have I2 := I1.laid (t' := tk) (a := hp.objs.size + 1) (o := exo (hp.objs.size + 1) C none) kk up (exo_ok la)
  have r2 : Vals [V.ref (hp.objs.size + 1), v] [Value.ref (hp.objs.size + 1), z] := .cons rfl (.cons rz .nil)
  refine wpAny_call (PySem.RwK.call_named PySem.F.excBase_ValueError (fun Y => PySem.HandSPX.refsVE_contains Y ms rC) (I1.kIn _ _ lC) (PySem.W.looks_findIn I1.kIn hi) (fun self => PySem.W.bind_fn I1.kIn self ht)
    (codeAny_mono (G1.run _ X.stack _ _ ⟨[Value.ref (hp.objs.size + 1)], [(fl, z)]⟩ [Value.ref (hp.objs.size + 1), z] _ _ (fun _ _ _ => False) (hr.make C [] [(fl, z)]) (I2.env0.make C [] [(fl, z)]) (hb _ _ _) r2 hq) fun r s' hq' => ?_))
  cases r with
  | error er => exact (show False from hq').elim
  | ok fl =>
    cases fl with
    | ret u =>
      obtain ⟨y, H', I3, ry, ey, q3⟩ := I2.after hq'
      subst ey
      exact ⟨ry, ⟨V.ref (hp.objs.size + 1), H', I3, rfl, q3⟩⟩
    | next => exact False.elim hq'
    | brk => exact False.elim hq'
    | cont => exact False.elim hq'
/-- C(), an error without a field -/
def tEx0 (C : Addr) : TE := fun _ H Q => ∀ a H', H a = none → Same H H' → H' a = some (exo a C none) → Q (.ref a) H'
theorem pe_ex0 (T : ErrN X.K X.mg x C) (hr : Room 2 X.A) (hg : Gl X x := by rfl) (hdb : (x == ("__debug__" : Str)) = false := by decide) : PE X (.Call (.Name x p) [] [] pos) (tEx0 C) := by
  obtain ⟨fI, fd, hi, ht, hb, G1⟩ := T.init (P := X.prog) (w := X.w) (base := X.base)
  refine ⟨fun pins s σ H Q I h => ?_⟩
  obtain ⟨nm, qn, N, bs, ms, sn, su, ab, co, dd, m0, m1, m2, m3, m5, lC, rC⟩ := T.ox.cls
  refine wpAny_Call_Name_kw (ld_glob I hg T.g ?_ hdb)
  refine PySem.W.callWith_K0 I.kIn T.ox.kC ?_
  show wpAny _ _ (call (.ref C) []) _ _ _
  obtain ⟨hp, gs, dr, tk, os⟩ := s
  have up := Nat.le_succ hp.objs.size
  have hn : H (hp.objs.size + 1) = none := I.hok.fresh up
  have hq : spIniN X.K C [.ref (hp.objs.size + 1)] (upd H (hp.objs.size + 1) (exo (hp.objs.size + 1) C none)) (fun u H2 => u = .non ∧ Q (.ref (hp.objs.size + 1)) H2) (fun _ _ _ => False) := ⟨_, rfl, upd_same, rfl, h _ _ hn (same_new hn) upd_same⟩
  have kk : ∀ b o, hp.get? b = some o → ((hp.push (PySem.W.kdv_tup [])).push (PySem.HandSPX.excO C hp.objs.size)).get? b = some o := fun _ _ e => Heap.get?_push_of_some _ (Heap.get?_push_of_some _ e)
  have la : ((hp.push (PySem.W.kdv_tup [])).push (PySem.HandSPX.excO C hp.objs.size)).get? (hp.objs.size + 1) = some (PySem.HandSPX.excO C hp.objs.size) := by heap_get
  have I2 := I.laid (t' := tk) (a := hp.objs.size + 1) (o := exo (hp.objs.size + 1) C none) kk up (exo_ok la)
  have r2 : Vals [V.ref (hp.objs.size + 1)] [Value.ref (hp.objs.size + 1)] := .cons rfl .nil
  refine wpAny_call (PySem.HandSPX.call_own PySem.F.excBase_ValueError (fun Y => PySem.HandSPX.refsVE_contains Y ms rC) (I.kIn _ _ lC) (PySem.W.looks_findIn I.kIn hi) (fun self => PySem.W.bind_fn I.kIn self ht) (by show 0 ≤ sizeLine; decide)
    (codeAny_mono (G1.run _ X.stack _ _ ⟨[Value.ref (hp.objs.size + 1)], []⟩ [Value.ref (hp.objs.size + 1)] _ _ (fun _ _ _ => False) (hr.make C [] []) (I2.env0.make C [] []) (by
      have := hb _ [Value.ref (hp.objs.size + 1)] I2.kIn rfl
      simpa using this) r2 hq) fun r s' hq' => ?_))
  cases r with
  | error er => exact (show False from hq').elim
  | ok fl =>
    cases fl with
    | ret u =>
      obtain ⟨y, H', I3, ry, ey, q3⟩ := I2.after hq'
      subst ey
      exact ⟨ry, ⟨V.ref (hp.objs.size + 1), H', I3, rfl, q3⟩⟩
    | next => exact False.elim hq'
    | brk => exact False.elim hq'
    | cont => exact False.elim hq'
end
section
variable {X : Cx} {pins : List (Addr × Obj)} {σ : L2.St} {H : Hp} {s : Shared} {a C : Addr} {fl : Str} {v : V}
theorem exval_inst (I : Inv X pins σ H s) (h : ExVal H a C fl v) : ∃ (ox : Obj) (od : Obj) (mA : Str → Option Value), PySem.W.InstAt s.heap a ox C (some od) ∧ (∀ name, PySem.W.lookIn name od = some (mA name)) ∧ ∀ f, RelO (([(fl, v)] : List (Str × V)).lookup f) (mA f) := by
  obtain ⟨d, h1, h2⟩ := h
  obtain ⟨t, e⟩ := exo_at I.hok h1
  obtain ⟨mA, hns, hr⟩ := exd_at I.hok h2
  obtain ⟨od, ho, hl⟩ := lookIn_ns hns
  exact ⟨_, od, mA, ⟨e, rfl, rfl, ho⟩, hl, hr⟩
theorem exbare_inst (I : Inv X pins σ H s) (h : H a = some (exo a C none)) : ∃ ox : Obj, PySem.W.InstAt s.heap a ox C none := by
  obtain ⟨t, e⟩ := exo_at I.hok h
  exact ⟨_, e, rfl, rfl, trivial⟩
end
section
variable {X : Cx} {C : Addr} {fl : Str} {e : Expr} {te : TE} {pos : Pos}
/-- e.f, e an own error that is held -/
def tExf (K : PySem.W.Frag) (f : Str) (te : TE) : TE := fun σ H Q => te σ H fun x H1 => ∃ (a C : Addr) (v : V), x = .ref a ∧ XfC K C ∧ PySem.W.findIn K (.ref C) f = some none ∧ ExVal H1 a C f v ∧ Q v H1
theorem pe_exf {n : Str} (he : PE X e te) (hb : attributeBase e n X.env (eval e X.env) = eval e X.env := by rfl) : PE X (.Attribute e n pos) (tExf X.K n te) := by
  refine ⟨fun pins s σ H Q I h => ?_⟩
  refine attr_of hb (thn (he.run pins s σ H _ I h) fun u s1 hh => ?_)
  obtain ⟨x, H1, I1, rx, a, C, v, ex, T, no, ev, q⟩ := hh
  subst ex
  obtain rfl : u = Value.ref a := rx
  obtain ⟨ox, od, mA, J, hl, hr⟩ := exval_inst I1 ev
  obtain ⟨z, hz, rz⟩ := RelO.some_of (v := v) (o := mA n) (by
    have := hr n
    simpa [List.lookup] using this)
  exact HandSPX.exc_get I1.kIn J T.ga T.gg T.exC (PySem.W.findObj_own T.hdC no rfl (by rw [hl, hz])) (handed_of rz) ⟨v, H1, I1.tok _, rz, q⟩
/-- isinstance(e, c), e an own error that is held -/
def rIsX (K : PySem.W.Frag) : List V → Hp → VK → Prop := fun xs H Q => ∃ (a C : Addr) (c : V) (cv : Value) (b : Bool), xs = [.ref a, c] ∧ ExcC K C ∧ ((∃ fl v, ExVal H a C fl v) ∨ H a = some (exo a C none)) ∧ (∀ u, RelV c u → u = cv) ∧ PySem.W.kitOne K (.ref C) cv = some b ∧ Q (.bl b) H
theorem call_isX : CallR X (.builtin "isinstance") (rIsX X.K) := by
  intro pins s σ H xs us Q I r h
  obtain ⟨a, C, c, cv, b, rfl, T, hv, hcv, e, q⟩ := h
  cases r with
  | cons rx rr =>
    cases rr with
    | cons rt rr =>
      cases rr
      cases rx
      have ec := hcv _ rt
      subst ec
      have J : ∃ (ox : Obj) (od : Option Obj), PySem.W.InstAt s.heap a ox C od := by
        rcases hv with ⟨fl, v, ev⟩ | eb
        · obtain ⟨ox, od, _, J, _⟩ := exval_inst I ev
          exact ⟨ox, some od, J⟩
        · obtain ⟨ox, J⟩ := exbare_inst I eb
          exact ⟨ox, none, J⟩
      exact PySem.W.kia_one (PySem.RwK.kitx_held T) I.kIn J e (fun z => nomatch z) fun tk => ⟨.bl b, H, I.kept (t' := tk) fun _ _ z => z, rfl, q⟩
/-- isinstance(e, c), e the error with a field that the suite holds -/
def rIsS (K : PySem.W.Frag) (cls : Value) (a : Addr) (d : Option Addr) : List V → Hp → VK → Prop := fun xs H Q => ∃ (D dd : Addr) (fs : List (Str × V)) (c : V) (cv : Value) (b : Bool), xs = [.ref a, c] ∧ cls = .ref D ∧ ExcC K D ∧ d = some dd ∧ H dd = some (.xd fs) ∧ (∀ u, RelV c u → u = cv) ∧ PySem.W.kitOne K (.ref D) cv = some b ∧ Q (.bl b) H
theorem call_isS (K : PySem.W.Frag) {a : Addr} {d : Option Addr} {oe : Obj} {pn : List (Addr × Obj)} {cls : Value} (hz : Zc cls d oe) (hf : ∃ vs, oe.data = .fields vs) (eK : X.K = K := by rfl) : CallR (X.suite a ((a, oe) :: pn)) (.builtin "isinstance") (rIsS K cls a d) := by
  subst eK
  intro pins s σ H xs us Q I r h
  obtain ⟨D, dd, fs, c, cv, b, rfl, hc, T, ed, ef, hcv, e, q⟩ := h
  cases r with
  | cons rx rr =>
    cases rr with
    | cons rt rr =>
      cases rr
      cases rx
      have ec := hcv _ rt
      subst ec ed hc
      obtain ⟨hget, _⟩ := I.pin (a, oe) (List.mem_append.mpr (.inl List.mem_cons_self))
      obtain ⟨vs, hv⟩ := hf
      have hx : ObjOk X.prog X.w H s.heap dd (.xd fs) := I.hok dd _ ef
      obtain ⟨mA, hns, hr⟩ := hx
      obtain ⟨od, ho, hl⟩ := lookIn_ns hns
      have J : PySem.W.InstAt s.heap a oe D (some od) := ⟨hget, hz.1, by unfold PySem.W.notCls; rw [hv] <;> rfl, by rw [hz.2]; exact ho⟩
      exact PySem.W.kia_one (PySem.RwK.kitx_held T) I.kIn ⟨_, _, J⟩ e (fun z => nomatch z) fun tk => ⟨.bl b, H, I.kept (t' := tk) fun _ _ z => z, rfl, q⟩
end
end Rw
set_option Elab.async false
set_option linter.all false
set_option maxRecDepth 100000
set_option maxHeartbeats 4000000
namespace K1
open PySem PySem.Spec PyProof.Rows L2 Rw
def top (i : Nat) : Stmt := PySem.Challenge.pw_maprows_k01_exceptions_apart.main.body.getD i (.Pass ⟨0, 0, 0, 0⟩)
abbrev sNum : Stmt := top 34
abbrev sPrime : Stmt := top 35
abbrev sCheck : Stmt := top 36
abbrev sPat : Stmt := top 46
abbrev sCPat : Stmt := top 47
theorem scNum : FnScope ["value"] ["value"] (defScope sNum) := ⟨rfl, rfl, rfl, by decide +kernel, rfl, by decide +kernel, by decide +kernel⟩
theorem scPrime : FnScope ["value"] ["value"] (defScope sPrime) := ⟨rfl, rfl, rfl, by decide +kernel, rfl, by decide +kernel, by decide +kernel⟩
theorem scCheck : FnScope ["prime"] ["prime"] (defScope sCheck) := ⟨rfl, rfl, rfl, by decide +kernel, rfl, by decide +kernel, by decide +kernel⟩
theorem scPat : FnScope ["value", "arrow"] ["value"] (defScope sPat) := ⟨rfl, rfl, rfl, by decide +kernel, rfl, by decide +kernel, by decide +kernel⟩
theorem scCPat : FnScope ["pattern"] ["pattern"] (defScope sCPat) := ⟨rfl, rfl, rfl, by decide +kernel, rfl, by decide +kernel, by decide +kernel⟩
/-- what the top has left for the program's defs -/
structure Txt (K : PySem.W.Frag) (w : World) (mg : Str → Option Value) (aI aT CP CT CZ CA CM CL : Addr) (kI : List (Int × Value)) (kT : List (Str × Value)) : Prop where
  isi : mg "isinstance" = none
  int : mg "int" = none
  bool : mg "bool" = none
  str : mg "str" = none
  list : mg "list" = none
  tuple : mg "tuple" = none
  len : mg "len" = none
  all : mg "all" = none
  range : mg "range" = none
  enum : mg "enumerate" = none
  gI : mg "INVERSES" = some (.ref aI)
  tI : TabI K aI kI
  hI : ∀ i, (lookI kI i).isSome = decide (i ∈ primesL)
  gT : mg "TURNED" = some (.ref aT)
  tT : TabS K w aT kT
  hT : ∀ c, (lookS kT ⟨#[c]⟩).isSome = isArr c
  gM : ∃ t, mg "MOST" = some (.int 6 t)
  eP : Err K mg "InvalidPrime" CP
  eT : Err K mg "InvalidPattern" CT
  eZ : Err K mg "InvalidSizes" CZ
  eA : Err K mg "InvalidMaps" CA
  eM : Err K mg "InvalidMatrix" CM
  eL : Err K mg "InvalidPlace" CL
section
variable {P : Program} {w : World} {K : PySem.W.Frag} {mg : Str → Option Value} {base : Heap} {aI aT CP CT CZ CA CM CL : Addr} {kI : List (Int × Value)} {kT : List (Str × Value)}
theorem okNum {f : Addr} {fd : FuncData} (F : Fun K "is_number" "is_number" sNum f fd) (T : Txt K w mg aI aT CP CT CZ CA CM CL kI kT) : FnOk P w K mg base CX0 1 f fd ["value"] spNum := by
  refine F.ok scNum (fun vs H Q E h => ?_) (fun cdv A outer s H vs Q E hr h => ?_)
  · obtain ⟨v, d, rfl, _⟩ := h
    rfl
  · obtain ⟨v, d, rfl, an, q⟩ := h
    refine ⟨_, (pss_one (ps_ret (pe_and (pe_callB call_isi (by rfl) T.isi (by decide +kernel) (pa_cons (pv 0) (pa_cons (pe_bltn (v := .ty "int") rfl T.int boot_int rfl) pa_nil))) (pe_one (pe_not (pe_callB call_isi (by rfl) T.isi (by decide +kernel) (pa_cons (pv 0) (pa_cons (pe_bltn (v := .ty "bool") rfl T.bool (by decide +kernel) rfl) pa_nil)))))))), ?_⟩
    refine ⟨v, rfl, v, .ty "int", _, _, _, rfl, .ty _, any_ty an, kit_int d, _, rfl, ?_⟩
    cases an with
    | bl b => exact iteT ⟨_, rfl, _, .ty "bool", _, _, _, rfl, .ty _, any_ty (.bl b), kit_bool (.bool b), _, rfl, q⟩
    | int i => exact iteT ⟨_, rfl, _, .ty "bool", _, _, _, rfl, .ty _, any_ty (.int i), kit_bool (.int i), _, rfl, q⟩
    | _ => exact iteF q
theorem okPrime {f : Addr} {fd : FuncData} (F : Fun K "is_prime" "is_prime" sPrime f fd) (T : Txt K w mg aI aT CP CT CZ CA CM CL kI kT) (GN : Own P w K mg base CX0 1 "is_number" ["value"] [] spNum) : FnOk P w K mg base CX0 2 f fd ["value"] spPrime := by
  refine F.ok scPrime (fun vs H Q E h => ?_) (fun cdv A outer s H vs Q E hr h => ?_)
  · obtain ⟨v, d, rfl, _⟩ := h
    rfl
  · obtain ⟨v, d, rfl, an, q⟩ := h
    refine ⟨_, (pss_one (ps_ret (pe_and (pe_own GN hr pass0 (pa_cons (pv 0) pa_nil)) (pe_one (pe_cmpR (op_in_ti T.tI) (pv 0) (pe_glob (v := .ref aI) rfl T.gI rfl) (by rfl)))))), ?_⟩
    refine ⟨_, rfl, _, d, rfl, an, _, rfl, ?_⟩
    cases ed : isIntD d with
    | false =>
      refine iteF ?_
      have e : isPr d = false := by cases d <;> first | rfl | cases ed
      rw [e] at q
      exact q
    | true =>
      obtain ⟨n, rfl, rfl⟩ := int_of an ed
      refine iteT ⟨_, rfl, n, rfl, rfl, ?_⟩
      rw [T.hI]
      exact q
theorem okCheck {f : Addr} {fd : FuncData} (F : Fun K "check_prime" "check_prime" sCheck f fd) (T : Txt K w mg aI aT CP CT CZ CA CM CL kI kT) (GP : Own P w K mg base CX0 2 "is_prime" ["value"] [] spPrime) : FnOk P w K mg base (L2.CX P w) 4 f fd ["prime"] (spCheck CP) := by
  refine F.okX scCheck (fun vs H Q E h => ?_) (fun cdv A outer s H vs Q E hr h => ?_)
  · obtain ⟨v, d, rfl, _⟩ := h
    rfl
  · obtain ⟨v, d, rfl, an, qt, qf⟩ := h
    refine ⟨_, (pss_one (ps_if (pt_not (pt_val (pe_own GP (hr.mono (by decide)) pass0 (pa_cons (pv 0) pa_nil)))) (pss_one (ps_throw T.eP rfl (hr.mono (by decide)) (takes_of rfl rfl rfl rfl) (pv 0))) pss_nil)), ?_⟩
    refine ⟨_, rfl, _, d, rfl, an, _, rfl, ?_⟩
    cases e : isPr d with
    | true => exact iteF (qt e)
    | false => exact iteT ⟨_, rfl, thrown_go (qf e)⟩
theorem kit_str (d : PyData) : PySem.W.kitOne K (.type (kindS d)) (.type "str") = some (match d with | .str _ => true | _ => false) := by
  cases d with
  | none => exact kit_ty (show kitB "NoneType" "str" = some false by decide +kernel)
  | bool b => exact kit_ty (show kitB "bool" "str" = some false by decide +kernel)
  | int i => exact kit_ty (show kitB "int" "str" = some false by decide +kernel)
  | str x => exact kit_ty (show kitB "str" "str" = some true by decide +kernel)
  | list xs => exact kit_ty (show kitB "list" "str" = some false by decide +kernel)
  | tuple xs => exact kit_ty (show kitB "tuple" "str" = some false by decide +kernel)
  | dict kvs => exact kit_ty (show kitB "dict" "str" = some false by decide +kernel)
theorem okPat {f : Addr} {fd : FuncData} (F : Fun K "is_pattern" "is_pattern" sPat f fd) (T : Txt K w mg aI aT CP CT CZ CA CM CL kI kT) : FnOk P w K mg base CX0 1 f fd ["value"] spPat := by
  refine F.ok scPat (fun vs H Q E h => ?_) (fun cdv A outer s H vs Q E hr h => ?_)
  · obtain ⟨v, d, rfl, _⟩ := h
    rfl
  · obtain ⟨v, d, rfl, an, sh, q⟩ := h
    obtain ⟨tM, gM⟩ := T.gM
    refine ⟨_, (pss_one (ps_ret (pe_and (pe_callB call_isi (by rfl) T.isi (by decide +kernel) (pa_cons (pv 0) (pa_cons (pe_bltn (v := .ty "str") rfl T.str (by decide +kernel) rfl) pa_nil))) (pe_and (pe_cmpR op_le (pe_callB call_len_str (by rfl) T.len (by decide +kernel) (pa_cons (pv 0) pa_nil)) (pe_glob (v := .int 6) rfl gM ⟨_, rfl⟩) (nomark _)) (pe_one (pe_callB (cr_all rfl) (by rfl) T.all (by decide +kernel) (pa_cons (pe_lc (own := [("arrow", 1)]) (g := gName 1) (tt := tYes) rfl scPat.nd (pi_str (pv 0)) (blkOk_by (N := ["value", "arrow"]) (sc := defScope sPat) (by decide +kernel)) (fun _ _ _ _ _ => (pg_name (i := 1) scPat.nd rfl (Or.inl rfl))) (fun _ _ _ _ _ => pts_nil) (fun _ _ _ _ _ => (pe_cmpR (op_in_ts T.tT) (pv 1) (pe_glob (v := .ref aT) rfl T.gT rfl) (by rfl)))) pa_nil))))))), ?_⟩
    refine ⟨v, rfl, v, .ty "str", _, _, _, rfl, .ty _, any_ty an, kit_str d, _, rfl, ?_⟩
    cases an with
    | str x =>
      have lx := sh x rfl
      refine iteT ⟨_, rfl, x, rfl, (Nat.le_trans lx (by decide)), _, _, rfl, rfl, _, rfl, ?_⟩
      refine ite2 (fun z => ?_) (fun z => ?_)
      · have z2 : x.length ≤ 6 := by
          have := of_decide_eq_true z
          omega
        have e1 : isPatD (.str x) = x.cps.toList.all isArr := by
          show (decide (x.length ≤ 6) && _) = _
          rw [decide_eq_true z2, Bool.true_and]
        refine ⟨_, rfl, x, rfl, fun D hD => ?_⟩
        refine lc_same walk_str (Nat.le_trans z2 (by decide)) hD (fun _ _ => trivial) (fun i => .bool (isArr (x.cps.toList[i]?.getD 0))) ?_ ?_
        · rintro i y H' hi ⟨c, hc, rfl⟩ s1 hd
          refine ⟨rfl, fun k' hk => ?_⟩
          refine ⟨_, rfl, _, rfl, rfl, hk _ _ (fun _ _ z => z) ?_⟩
          rw [T.hT, show x.cps.toList[i]? = some c by simpa using hc]
          exact .bl _
        · refine fun H' acc s1 ha hal => ?_
          have e4 : (List.range x.cps.size).map (fun i => PyData.bool (isArr (x.cps.toList[i]?.getD 0))) = (x.cps.toList.map isArr).map PyData.bool := by
            rw [show x.cps.size = x.cps.toList.length by simp, map_get (fun c => PyData.bool (isArr c)) 0, List.map_map] <;> rfl
          rw [e4] at hal
          have e2 := anyL_bools hal
          refine ⟨D, _, rfl, .inl (.inl (by rw [← e2]; exact ha)), ?_⟩
          have e3 : (x.cps.toList.map isArr).all id = x.cps.toList.all isArr := by simp
          rw [e3, ← e1]
          exact q _ s1
      · have e1 : isPatD (.str x) = false := by
          show (decide (x.length ≤ 6) && _) = _
          rw [decide_eq_false (fun y => z (decide_eq_true (by omega))), Bool.false_and]
        rw [e1] at q
        exact q _ (fun _ _ z => z)
    | _ => exact iteF (q _ (fun _ _ z => z))
theorem okCPat {f : Addr} {fd : FuncData} (F : Fun K "check_pattern" "check_pattern" sCPat f fd) (T : Txt K w mg aI aT CP CT CZ CA CM CL kI kT) (GP : Own P w K mg base CX0 1 "is_pattern" ["value"] [] spPat) : FnOk P w K mg base (L2.CX P w) 4 f fd ["pattern"] (spCPat CT) := by
  refine F.okX scCPat (fun vs H Q E h => ?_) (fun cdv A outer s H vs Q E hr h => ?_)
  · obtain ⟨v, d, rfl, _⟩ := h
    rfl
  · obtain ⟨v, d, rfl, an, sh, qt, qf⟩ := h
    refine ⟨_, (pss_one (ps_if (pt_not (pt_val (pe_own GP (hr.mono (by decide)) pass0 (pa_cons (pv 0) pa_nil)))) (pss_one (ps_throw T.eT rfl (hr.mono (by decide)) (takes_of rfl rfl rfl rfl) (pv 0))) pss_nil)), ?_⟩
    refine ⟨_, rfl, _, d, rfl, an, sh, fun H1 k1 => ⟨_, rfl, ?_⟩⟩
    cases e : isPatD d with
    | true => exact iteF (qt e _ k1)
    | false => exact iteT ⟨_, rfl, thrown_go ((qf e).mono k1)⟩
end
end K1
set_option Elab.async false
set_option linter.all false
set_option maxRecDepth 100000
set_option maxHeartbeats 4000000
namespace K1
open PySem PySem.Spec PyProof.Rows L2 Rw
abbrev sInv : Stmt := top 37
theorem scInv : FnScope ["number", "prime"] ["number", "prime"] (defScope sInv) := ⟨rfl, rfl, rfl, by decide +kernel, rfl, by decide +kernel, by decide +kernel⟩
abbrev sLed : Stmt := top 42
theorem scLed : FnScope ["prime", "vector", "matrix", "width"] ["prime", "vector", "matrix", "width"] (defScope sLed) := ⟨rfl, rfl, rfl, by decide +kernel, rfl, by decide +kernel, by decide +kernel⟩
abbrev sBars : Stmt := top 48
abbrev NBars : List Str := ["pattern", "places", "first", "last"]
theorem scBars : FnScope NBars ["pattern"] (defScope sBars) := ⟨rfl, rfl, rfl, by decide +kernel, rfl, by decide +kernel, by decide +kernel⟩
/-- what is never come to -/
theorem pss_void {X : Cx} {st : List Stmt} : PSs X st (fun _ _ _ => False) := ⟨fun _ _ _ _ _ _ h => h.elim⟩
def spInvR (CN : Addr) : Sp := fun vs H Q E => ∃ p : Int, vs = [.int p, .int p] ∧ p ∈ primesL ∧ Thrown CN (.int p) H E
def spLedR (CP : Addr) : Sp := fun vs H Q E => ∃ a b c : V, vs = [.int 4, a, b, c] ∧ Thrown CP (.int 4) H E
def spBarsR (CT : Addr) : Sp := fun vs H Q E => vs = [.str "><-"] ∧ Thrown CT (.str "><-") H E
section
variable {P : Program} {w : World} {K : PySem.W.Frag} {mg : Str → Option Value} {base : Heap} {aI aT CP CT CZ CA CM CL CN : Addr} {kI : List (Int × Value)} {kT : List (Str × Value)}
theorem okInv {f : Addr} {fd : FuncData} (F : Fun K "inverse" "inverse" sInv f fd) (eN : Err K mg "NoInverse" CN) (GN : Own P w K mg base CX0 1 "is_number" ["value"] [] spNum) (GC : Own P w K mg base (L2.CX P w) 4 "check_prime" ["prime"] [] (spCheck CP)) : FnOk P w K mg base (L2.CX P w) 6 f fd ["number", "prime"] (spInvR CN) := by
  refine F.okX scInv (fun vs H Q E h => ?_) (fun cdv A outer s H vs Q E hr h => ?_)
  · obtain ⟨p, rfl, _⟩ := h
    rfl
  · obtain ⟨p, rfl, hp, xf⟩ := h
    refine ⟨_, (pss_cons (ps_expr (pe_own (E := E) GC (hr.mono (by decide)) (passes_call (takes_of rfl rfl rfl rfl) (fun _ _ _ _ z => z)) (pa_cons (pv 1) pa_nil)))
      (pss_cons (ps_if (PW.pt (pw_or (pt_not (pt_val (pe_own GN (hr.mono (by decide)) pass0 (pa_cons (pv 0) pa_nil)))) (pw_or1 (pt_cmpR op_eq (pe_op op_modN (pv 0) (pv 1)) pe_int (nomark _)))))
        (pss_one (ps_throw eN rfl (hr.mono (by decide)) (takes_of rfl rfl rfl rfl) (pv 0))) pss_nil)
      pss_void)), ?_⟩
    have pp := prime_pos hp
    refine ⟨_, rfl, _, .int p, rfl, .int p, fun ep => ?_, fun ep => by rw [show isPr (.int p) = true from decide_eq_true hp] at ep; cases ep⟩
    refine ⟨_, rfl, _, _, rfl, .int p, _, rfl, iteF ⟨_, rfl, _, rfl, _, _, rfl, rfl, (by show p ≠ 0; omega), rfl, _, rfl, ?_⟩⟩
    have e : p.fmod p = 0 := Int.fmod_self
    dsimp only
    rw [show decide (V.int (p.fmod p) = V.int 0) = true from decide_eq_true (congrArg V.int e)]
    exact iteT ⟨_, rfl, thrown_go xf⟩
theorem okLed {f : Addr} {fd : FuncData} (F : Fun K "led" "led" sLed f fd) (GC : Own P w K mg base (L2.CX P w) 4 "check_prime" ["prime"] [] (spCheck CP)) : FnOk P w K mg base (L2.CX P w) 6 f fd ["prime", "vector", "matrix", "width"] (spLedR CP) := by
  refine F.okX scLed (fun vs H Q E h => ?_) (fun cdv A outer s H vs Q E hr h => ?_)
  · obtain ⟨a, b, c, rfl, _⟩ := h
    rfl
  · obtain ⟨a, b, c, rfl, xf⟩ := h
    refine ⟨_, (pss_cons (ps_expr (pe_own (E := E) GC (hr.mono (by decide)) (passes_call (takes_of rfl rfl rfl rfl) (fun _ _ _ _ z => z)) (pa_cons (pv 0) pa_nil))) pss_void), ?_⟩
    exact ⟨_, rfl, _, .int 4, rfl, .int 4, fun ep => absurd ep (by decide), fun _ => xf⟩
theorem okBars {f : Addr} {fd : FuncData} (F : Fun K "bars" "bars" sBars f fd) (GC : Own P w K mg base (L2.CX P w) 4 "check_pattern" ["pattern"] [] (spCPat CT)) : FnOk P w K mg base (L2.CX P w) 5 f fd ["pattern"] (spBarsR CT) := by
  refine F.okX scBars (fun vs H Q E h => ?_) (fun cdv A outer s H vs Q E hr h => ?_)
  · obtain ⟨rfl, _⟩ := h
    rfl
  · obtain ⟨rfl, xf⟩ := h
    refine ⟨_, (pss_cons (ps_expr (pe_own (E := E) GC (hr.mono (by decide)) (passes_call (takes_of rfl rfl rfl rfl) (fun _ _ _ _ z => z)) (pa_cons (pv 0) pa_nil))) pss_void), ?_⟩
    exact ⟨_, rfl, _, .str "><-", rfl, .str _, fun x e => by cases e; decide +kernel, fun ep => absurd ep (by decide +kernel), fun _ => xf⟩
end
end K1
set_option Elab.async false
set_option linter.all false
set_option maxRecDepth 100000
set_option maxHeartbeats 4000000
namespace Rw
open PySem PySem.Spec PyProof.Rows L2
theorem list_len (t : Str) (r : List Str) : (listText (t :: r)).length = t.length + piled r + 2 := by
  have a : (listText (t :: r)).length = (textFrom 1 (("[" : Str) ++ (if (0 : Nat) > 0 then ", " else "" : String) ++ t) r).length + 1 := by
    show (textFrom 0 "[" (t :: r) ++ "]").length = _
    rw [strLen_append]
    rfl
  rw [a, textFrom_length_pos r 1 _ (by decide), strLen_append, strLen_append]
  show 1 + 0 + t.length + piled r + 1 = _
  omega
/-- small enough, at the n-th level of lists -/
structure Tm (n : Nat) (d : PyData) : Prop where
  sh : d.showable = true
  dp : d.depth ≤ 3 + n
  ln : d.shown.length ≤ 50 * 8 ^ n
theorem Tm.up {n m : Nat} {d : PyData} (h : Tm n d) (l : n ≤ m) : Tm m d := ⟨h.sh, by have := h.dp; omega, Nat.le_trans h.ln (Nat.mul_le_mul_left _ (Nat.pow_le_pow_right (by decide) l))⟩
theorem piled_le {B : Nat} : ∀ {ts : List Str}, (∀ t ∈ ts, t.length ≤ B) → piled ts ≤ ts.length * (B + 2)
  | [], _ => by rw [piled_nil]; exact Nat.zero_le _
  | t :: ts, h => by
    rw [piled_cons, List.length_cons, Nat.succ_mul]
    have a := h t List.mem_cons_self
    have b := piled_le (ts := ts) fun x hx => h x (List.mem_cons_of_mem _ hx)
    omega
theorem shownAll_map : ∀ ds : List PyData, PyData.shownAll ds = ds.map PyData.shown
  | [] => by simp only [PyData.shownAll]; rfl
  | d :: ds => by
    simp only [PyData.shownAll]
    rw [shownAll_map ds] <;> rfl
theorem tm_all {n : Nat} : ∀ {ds : List PyData}, (∀ d ∈ ds, Tm n d) → PyData.showableAll ds = true ∧ PyData.depthAll ds ≤ 3 + n ∧ ∀ t ∈ PyData.shownAll ds, t.length ≤ 50 * 8 ^ n
  | [], _ => ⟨by simp only [PyData.showableAll], by simp only [PyData.depthAll]; omega, fun t ht => by simp only [PyData.shownAll] at ht; cases ht⟩
  | d :: ds, h => by
    obtain ⟨a, b, c⟩ := tm_all (ds := ds) fun x hx => h x (List.mem_cons_of_mem _ hx)
    have e := h d List.mem_cons_self
    refine ⟨?_, ?_, ?_⟩
    · simp only [PyData.showableAll, e.sh, a, Bool.and_self]
    · simp only [PyData.depthAll]
      have := e.dp
      omega
    · intro t ht
      simp only [PyData.shownAll] at ht
      rcases List.mem_cons.mp ht with z | z
      · rw [z]
        exact e.ln
      · exact c t z
theorem tm_num {n : Nat} {k : Nat} (l : k ≤ 6) : k * (50 * 8 ^ n + 2) + 3 ≤ 50 * 8 ^ (n + 1) := by
  have p : 0 < 8 ^ n := Nat.pow_pos (by decide)
  have q : k * (50 * 8 ^ n + 2) ≤ 6 * (50 * 8 ^ n + 2) := Nat.mul_le_mul_right _ l
  rw [Nat.pow_succ]
  omega
theorem tm_list {n : Nat} {ds : List PyData} (l : ds.length ≤ 6) (h : ∀ d ∈ ds, Tm n d) : Tm (n + 1) (.list ds) := by
  obtain ⟨a, b, c⟩ := tm_all h
  refine ⟨by simp only [PyData.showable]; exact a, by simp only [PyData.depth]; omega, ?_⟩
  simp only [PyData.shown]
  have ln : (PyData.shownAll ds).length = ds.length := by rw [shownAll_map, List.length_map]
  have z := tm_num (n := n) l
  generalize PyData.shownAll ds = ts at c ln
  cases ts with
  | nil =>
    have e : (listText []).length = 2 := rfl
    rw [e]
    omega
  | cons t r =>
    rw [list_len]
    have p := piled_le c
    rw [piled_cons, ln] at p
    omega
theorem int_len {n : Int} (h : n.natAbs < 10 ^ 40) : (PyData.int n).shown.length ≤ 41 := by
  simp only [PyData.shown]
  show (Str.ofString (toString n)).length ≤ 41
  rw [PySem.ofString_length]
  exact int_text_length_le10 (by decide) h
theorem log2_small {n : Int} (h : n.natAbs < 10 ^ 40) : n.natAbs.log2 < 400 := by
  by_cases z : n.natAbs = 0
  · rw [z]
    decide
  · exact (Nat.log2_lt z).mpr (Nat.lt_trans h (by decide +kernel))
theorem tm_int {n : Int} (h : n.natAbs < 10 ^ 40) : Tm 0 (.int n) := by
  refine ⟨?_, by simp only [PyData.depth]; omega, Nat.le_trans (int_len h) (by decide)⟩
  simp only [PyData.showable]
  exact decide_eq_true (Nat.lt_trans (log2_small h) (by decide))
def smallB (d : PyData) : Bool := match d with
  | .int n => decide (n.natAbs < 10 ^ 40) | _ => true
/-- a cell: an int that is not great, or an odd thing -/
structure Cell (d : PyData) : Prop where
  tm : Tm 0 d
  f1 : Fit1 d
  f2 : Fit d
  sm : smallB d = true
theorem fit1_flat {d : PyData} (e : itemsD d = []) : Fit1 d := ⟨by rw [e]; exact Nat.zero_le _, fun n h => by rw [e] at h; cases h⟩
theorem fit_flat {d : PyData} (e : itemsD d = []) : Fit d := ⟨fit1_flat e, fun x h => by rw [e] at h; cases h⟩
theorem cell_int {n : Int} (h : n.natAbs < 10 ^ 40) : Cell (.int n) := ⟨tm_int h, fit1_flat rfl, fit_flat rfl, decide_eq_true h⟩
theorem fit1_of {d : PyData} {ds : List PyData} (e : itemsD d = ds) (l : ds.length ≤ 1000) (h : ∀ x ∈ ds, smallB x = true) : Fit1 d :=
  ⟨by rw [e]; exact l, fun n hn => by rw [e] at hn; exact log2_small (of_decide_eq_true (h _ hn))⟩
/-- a row: a cell, or a list of few cells -/
structure RowT (d : PyData) : Prop where
  tm : Tm 1 d
  f1 : Fit1 d
  sm : smallB d = true
theorem Cell.row {d : PyData} (c : Cell d) : RowT d := ⟨c.tm.up (by decide), c.f1, c.sm⟩
theorem row_list {ds : List PyData} (l : ds.length ≤ 6) (h : ∀ d ∈ ds, Cell d) : RowT (.list ds) := ⟨tm_list l fun d hd => (h d hd).tm, fit1_of (ds := ds) rfl (by omega) fun x hx => (h x hx).sm, rfl⟩
/-- a sheet: a cell, or few rows -/
structure SheetT (d : PyData) : Prop where
  tm : Tm 2 d
  f : Fit d
  few : (itemsD d).length ≤ 6
end Rw
set_option Elab.async false
set_option linter.all false
set_option maxRecDepth 100000
set_option maxHeartbeats 4000000
namespace Rw
open PySem PySem.Spec PyProof.Rows L2
def S : Nat → (Nat → Int) → Int
  | 0, _ => 0
  | n + 1, f => S n f + f n
mutual
theorem any_dp {K : PySem.W.Frag} {H : Hp} : ∀ (d : PyData) (v : V), Any H v d → d.canLay0 = true → Dp K H v d
  | .none, _, h, _ => by
    cases h
    exact .non
  | .bool b, _, h, _ => by
    cases h
    exact .bl b
  | .int i, _, h, _ => by
    cases h
    exact .int i
  | .str x, _, h, _ => by
    cases h
    exact .str x
  | .list ds, _, h, c => by
    cases h with
    | lst e a => exact .lst (SqL.of e) (any_dpL ds _ a (by simpa [PyData.canLay0] using c))
  | .tuple ds, _, h, c => by
    cases h with
    | tup e a => exact .tup (SqT.of e) (any_dpL ds _ a (by simpa [PyData.canLay0] using c))
  | .dict ds, _, h, c => by simp [PyData.canLay0] at c
theorem any_dpL {K : PySem.W.Frag} {H : Hp} : ∀ (ds : List PyData) (vs : List V), AnyL H vs ds → PyData.canLayAll0 ds = true → DpAll K H vs ds
  | [], _, h, _ => by
    cases h
    exact .nil
  | d :: ds, _, h, c => by
    have c' : d.canLay0 = true ∧ PyData.canLayAll0 ds = true := by simpa [PyData.canLayAll0] using c
    cases h with
    | cons a b => exact .cons (any_dp d _ a c'.1) (any_dpL ds _ b c'.2)
end
/-- the same data: not unlike -/
theorem ne_same {K : PySem.W.Frag} {H : Hp} {x y : V} {d : PyData} {Q : VK} (a : Any H x d) (b : Any H y d) (c : d.canLay0 = true) (l : d.depth ≤ 64) (q : Q (.bl false) H) : rNeD K x y H Q := by
  have s : SeqAt.shaped d = true := by
    unfold SeqAt.shaped
    rw [c, decide_eq_true l] <;> rfl
  refine ⟨d, d, any_dp d x a c, any_dp d y b c, s, s, ?_⟩
  rw [SeqAt.eqv_refl d c]
  exact q
theorem eq_same {K : PySem.W.Frag} {H : Hp} {x y : V} {d : PyData} {Q : VK} (a : Any H x d) (b : Any H y d) (c : d.canLay0 = true) (l : d.depth ≤ 64) (q : Q (.bl true) H) : rEqD K x y H Q := by
  have s : SeqAt.shaped d = true := by
    unfold SeqAt.shaped
    rw [c, decide_eq_true l] <;> rfl
  refine ⟨d, d, any_dp d x a c, any_dp d y b c, s, s, ?_⟩
  rw [SeqAt.eqv_refl d c]
  exact q
end Rw
set_option Elab.async false
set_option linter.all false
set_option maxRecDepth 100000
set_option maxHeartbeats 4000000
namespace Rw
open PySem PySem.Spec PyProof.Rows L2
/-- small enough, at the n-th level of lists of at most twelve items -/
structure Tq (n : Nat) (d : PyData) : Prop where
  sh : d.showable = true
  dp : d.depth ≤ 3 + n
  ln : d.shown.length ≤ 80 * 13 ^ n
theorem Tq.up {n m : Nat} {d : PyData} (h : Tq n d) (l : n ≤ m) : Tq m d := ⟨h.sh, by have := h.dp; omega, Nat.le_trans h.ln (Nat.mul_le_mul_left _ (Nat.pow_le_pow_right (by decide) l))⟩
theorem Tm.q {n : Nat} {d : PyData} (h : Tm n d) : Tq n d := ⟨h.sh, h.dp, Nat.le_trans h.ln (Nat.mul_le_mul (by decide) (Nat.pow_le_pow_left (by decide) n))⟩
theorem bx_at {H : Hp} {p : Addr} {n : Nat} (b : Bx H p n) : ∃ xs, H p = some (.lst xs) := by
  obtain ⟨_, _, _, e, _⟩ := b
  exact ⟨_, e⟩
def tupI (ns : List Int) : PyData := .tuple (ns.map .int)
def sheetD (m : List (List Int)) : PyData := .list (m.map tupI)
def natD (s : Nat) : PyData := .int (s : Nat)
def draftD (x : Str) (q : Int) (ss : List Nat) (ms : List (List (List Int))) : PyData := .list [.str x, .int q, .list (ss.map natD), .list (ms.map sheetD)]
structure MatOk (q : Int) (h w : Nat) (m : List (List Int)) : Prop where
  h : m.length = h
  w : ∀ r, r ∈ m → r.length = w ∧ ∀ e, e ∈ r → 0 ≤ e ∧ e < q
structure Draft (x : Str) (q : Int) (most : Nat) (ss : List Nat) (ms : List (List (List Int))) : Prop where
  sl : ss.length = x.length + 1
  sb : ∀ s, s ∈ ss → s ≤ most
  ml : ms.length = x.length
  mo : ∀ i m, ms[i]? = some m → MatOk q (ss[stA x i]?.getD 0) (ss[goA x i]?.getD 0) m
theorem noL_tupI (r : List Int) : noL (tupI r) = true := by
  show noLs (r.map PyData.int) = true
  refine noLs_of fun d hd => ?_
  obtain ⟨n, _, rfl⟩ := List.mem_map.mp hd
  rfl
/-- the pattern of a draw -/
structure Pat (x : Str) (m : Nat) : Prop where
  l : x.length ≤ m
  a : x.cps.toList.all isArr = true
end Rw
set_option Elab.async false
set_option linter.all false
set_option maxRecDepth 100000
set_option maxHeartbeats 4000000
namespace Rw
open PySem PySem.Spec PyProof.Rows L2
/-- what the list begins with -/
def sixV : List V := [.non, .bl true, .int 0, .str "01", .int (-(10 ^ Int.toNat 29)), .str "a b"]
def sixD : List PyData := [.none, .bool true, .int 0, .str "01", .int (-(10 ^ Int.toNat 29)), .str "a b"]
def six (i : Nat) : V := sixV[i]?.getD .non
def sixd (i : Nat) : PyData := sixD[i]?.getD .none
theorem six_any {H : Hp} {i : Nat} (hi : i < 6) : Any H (six i) (sixd i) := by
  rcases (by omega : i = 0 ∨ i = 1 ∨ i = 2 ∨ i = 3 ∨ i = 4 ∨ i = 5) with z | z | z | z | z | z <;> subst z
  · exact .non
  · exact .bl _
  · exact .int _
  · exact .str _
  · exact .int _
  · exact .str _
theorem six_noList {K : PySem.W.Frag} {H : Hp} {i : Nat} (hi : i < 6) : ∃ t, TyX K H (six i) t ∧ PySem.W.kitOne K t (.type "list") = some false := by
  rcases (by omega : i = 0 ∨ i = 1 ∨ i = 2 ∨ i = 3 ∨ i = 4 ∨ i = 5) with z | z | z | z | z | z <;> subst z
  · exact ⟨_, .base .non, kit_ty (by decide +kernel)⟩
  · exact ⟨_, .base (.bl _), kit_ty (by decide +kernel)⟩
  · exact ⟨_, .base (.int _), kit_ty (by decide +kernel)⟩
  · exact ⟨_, .base (.str _), kit_ty (by decide +kernel)⟩
  · exact ⟨_, .base (.int _), kit_ty (by decide +kernel)⟩
  · exact ⟨_, .base (.str _), kit_ty (by decide +kernel)⟩
/-- the thing of the way w at v, round the list at g -/
def ThAt (H : Hp) (g : Addr) (w : Nat) (v : V) : Prop := match w with
  | 0 => v = .ref g
  | 1 => ∃ t, v = .ref t ∧ H t = some (.tup [.int 1, .ref g])
  | 2 => ∃ t, v = .ref t ∧ H t = some (.dK [(.inr "a", .ref g)])
  | 3 => ∃ t, v = .ref t ∧ H t = some (.lst [.ref g, .str "0"])
  | _ => ∃ t u, v = .ref t ∧ H t = some (.tup [.ref u]) ∧ H u = some (.tup [.ref g])
def thD (w : Nat) (L : List PyData) : PyData := match w with
  | 0 => .list L
  | 1 => .tuple [.int 1, .list L]
  | 2 => .dict [(.str "a", .list L)]
  | 3 => .list [.list L, .str "0"]
  | _ => .tuple [.tuple [.list L]]
theorem thq_keep {H H' : Hp} {g : Addr} {w : Nat} {v : V} (h : ThAt H g w v) (k : Same H H') : ThAt H' g w v := by
  unfold ThAt at h ⊢
  split at h
  · exact h
  · obtain ⟨t, e, h1⟩ := h
    exact ⟨t, e, k _ _ h1⟩
  · obtain ⟨t, e, h1⟩ := h
    exact ⟨t, e, k _ _ h1⟩
  · obtain ⟨t, e, h1⟩ := h
    exact ⟨t, e, k _ _ h1⟩
  · obtain ⟨t, u, e, h1, h2⟩ := h
    exact ⟨t, u, e, k _ _ h1, k _ _ h2⟩
/-- the list changes, the thing round it stays -/
theorem thq_put {H : Hp} {g : Addr} {w : Nat} {v x : V} {o : HO} (h : ThAt H g w v) (eg : H g = some (.lst [x])) : ThAt (upd H g o) g w v := by
  unfold ThAt at h ⊢
  split at h
  · exact h
  · obtain ⟨t, e, h1⟩ := h
    exact ⟨t, e, by rw [upd_ne (fun z => by rw [z, eg] at h1; cases h1)]; exact h1⟩
  · obtain ⟨t, e, h1⟩ := h
    exact ⟨t, e, by rw [upd_ne (fun z => by rw [z, eg] at h1; cases h1)]; exact h1⟩
  · obtain ⟨t, e, h1⟩ := h
    exact ⟨t, e, by rw [upd_ne (fun z => by rw [z, eg] at h1; cases h1)]; exact h1⟩
  · obtain ⟨t, u, e, h1, h2⟩ := h
    exact ⟨t, u, e, by rw [upd_ne (fun z => by rw [z, eg] at h1; cases h1)]; exact h1, by rw [upd_ne (fun z => by rw [z, eg] at h2; cases h2)]; exact h2⟩
theorem thq_any {H : Hp} {g : Addr} {w : Nat} {v : V} {xs : List V} {L : List PyData} (h : ThAt H g w v) (eg : H g = some (.lst xs)) (al : AnyL H xs L) : Any H v (thD w L) := by
  unfold ThAt at h
  unfold thD
  have ag : Any H (.ref g) (.list L) := .lst eg al
  split at h
  · rw [h]
    exact ag
  · obtain ⟨t, rfl, h1⟩ := h
    exact .tup h1 (.cons (.int _) (.cons ag .nil))
  · obtain ⟨t, rfl, h1⟩ := h
    exact .dct h1 (.cons ag .nil)
  · obtain ⟨t, rfl, h1⟩ := h
    exact .lst h1 (.cons ag (.cons (.str _) .nil))
  · obtain ⟨t, u, rfl, h1, h2⟩ := h
    exact .tup h1 (.cons (.tup h2 (.cons ag .nil)) .nil)
theorem thq_fine {w i : Nat} (hi : i < 6) : ((thD w [sixd i]).showable = true ∧ (thD w [sixd i]).depth ≤ 60 ∧ (thD w [sixd i]).shown.length ≤ sizeLine) ∧ (thD w [sixd i, .str "more"]).showable = true ∧ (thD w [sixd i, .str "more"]).depth ≤ 60 ∧ (thD w [sixd i, .str "more"]).shown.length ≤ sizeLine := by
  have c : ∀ w, w < 5 → ∀ i, i < 6 → (((thD w [sixd i]).showable = true ∧ (thD w [sixd i]).depth ≤ 60 ∧ (thD w [sixd i]).shown.length ≤ sizeLine) ∧ (thD w [sixd i, .str "more"]).showable = true ∧ (thD w [sixd i, .str "more"]).depth ≤ 60 ∧ (thD w [sixd i, .str "more"]).shown.length ≤ sizeLine) := by decide +kernel
  by_cases h : w < 4
  · exact c w (by omega) i hi
  · have e : ∀ L, thD w L = thD 4 L := fun L => by
      match w, h with
      | w + 4, _ => rfl
      | 0, h => exact absurd (by decide) h
      | 1, h => exact absurd (by decide) h
      | 2, h => exact absurd (by decide) h
      | 3, h => exact absurd (by decide) h
    rw [e, e]
    exact c 4 (by decide) i hi
/-- a thing is drawn: all of it is new -/
def spThing : Sp := fun vs H Q _ => ∃ (p : Addr) (n : Nat), vs = [.ref p] ∧ Bx H p n ∧ n ≤ 900000 ∧ ∀ v g w i H', w < 5 → i < 6 → Grow p H H' → Bx H' p (n + 2) → ThAt (nw H H') g w v → nw H H' g = some (.lst [six i]) → Q v H'
/-- what is innermost -/
def spInner : Sp := fun vs H Q _ => ∃ (v : V) (g : Addr) (w i : Nat), vs = [v] ∧ w < 5 ∧ i < 6 ∧ ThAt H g w v ∧ H g = some (.lst [six i]) ∧ ∀ H', Same H H' → Q (.ref g) H'
/-- on the way down: n steps above the list at g -/
inductive Dn (H : Hp) (g : Addr) : Nat → V → Prop
  | z : Dn H g 0 (.ref g)
  | tup {t : Addr} {xs : List V} {u : V} {n j : Nat} (h : H t = some (.tup xs)) (l : xs.length = j + 1) (e : xs[j]? = some u) (r : Dn H g n u) : Dn H g (n + 1) (.ref t)
  | dct {t : Addr} {u : V} {n : Nat} (h : H t = some (.dK [(.inr "a", u)])) (r : Dn H g n u) : Dn H g (n + 1) (.ref t)
  | lst {t : Addr} {n : Nat} (h : H t = some (.lst [.ref g, .str "0"])) : Dn H g 1 (.ref t)
theorem Dn.keep {H H' : Hp} {g : Addr} (k : Same H H') {n : Nat} {v : V} (h : Dn H g n v) : Dn H' g n v := by
  induction h with
  | z => exact .z
  | tup h l e r ih => exact .tup (k _ _ h) l e ih
  | dct h r ih => exact .dct (k _ _ h) ih
  | lst h => exact .lst (n := 0) (k _ _ h)
theorem thq_dn {H : Hp} {g : Addr} {w : Nat} {v : V} (h : ThAt H g w v) : ∃ n, Dn H g n v := by
  unfold ThAt at h
  split at h
  · rw [h]
    exact ⟨0, .z⟩
  · obtain ⟨t, rfl, h1⟩ := h
    exact ⟨1, .tup (j := 1) h1 rfl rfl .z⟩
  · obtain ⟨t, rfl, h1⟩ := h
    exact ⟨1, .dct h1 .z⟩
  · obtain ⟨t, rfl, h1⟩ := h
    exact ⟨1, .lst (n := 0) h1⟩
  · obtain ⟨t, u, rfl, h1, h2⟩ := h
    exact ⟨2, .tup (j := 0) h1 rfl rfl (.tup (j := 0) h2 rfl rfl .z)⟩
theorem kit_td {K : PySem.W.Frag} : PySem.W.kitAny K (.type "tuple") [.type "tuple", .type "dict"] = some true ∧ PySem.W.kitAny K (.type "dict") [.type "tuple", .type "dict"] = some true ∧ PySem.W.kitAny K (.type "list") [.type "tuple", .type "dict"] = some false := by
  have z : PySem.W.kitAny K (.type "list") [] = some false := rfl
  refine ⟨?_, ?_, ?_⟩
  · exact kitAny_cons (b := true) (kit_ty (by decide +kernel)) (fun e => by cases e) (fun _ => rfl)
  · exact kitAny_cons (b := false) (kit_ty (by decide +kernel)) (fun _ => kitAny_cons (b := true) (kit_ty (by decide +kernel)) (fun e => by cases e) (fun _ => rfl)) (fun e => by cases e)
  · exact kitAny_cons (b := false) (kit_ty (by decide +kernel)) (fun _ => kitAny_cons (b := false) (kit_ty (by decide +kernel)) (fun _ => z) (fun e => by cases e)) (fun e => by cases e)
end Rw
set_option Elab.async false
set_option linter.all false
set_option maxRecDepth 100000
set_option maxHeartbeats 4000000
namespace Rw
open PySem PySem.Spec PyProof.Rows L2
end Rw
set_option Elab.async false
set_option linter.all false
set_option maxRecDepth 100000
set_option maxHeartbeats 4000000
namespace Rw
open PySem PySem.Spec PyProof.Rows L2
def rNilN : R2 := fun x y H Q => ∃ a b xs, x = .ref a ∧ y = .ref b ∧ H a = some (.lst xs) ∧ H b = some (.lst []) ∧ Q (.bl (!xs.isEmpty)) H
theorem op_ne_nil {X : Cx} (hu : X.A.units < cLine) : OpR X (compareOp .NotEq) rNilN := by
  intro pins s σ H x y v u Q I rx ry h
  obtain ⟨a, b, xs, rfl, rfl, ea, eb, q⟩ := h
  obtain rfl : v = Value.ref a := rx
  obtain rfl : u = Value.ref b := ry
  obtain ⟨its, ra, pa, _⟩ := I.list (SqL.of ea)
  obtain ⟨its2, rb, pb, _⟩ := I.list (SqL.of eb)
  cases rb
  have ln := ra.length
  cases xs with
  | nil =>
    cases ra
    exact SeqAt.RcNeAt.lists (e := fun _ => true) pa.isList pb.isList rfl hu (fun j h1 h2 => absurd h1 (Nat.not_lt_zero j)) X.prog X.w _ _ ⟨.bl false, H, I, rfl, q⟩
  | cons z zs =>
    refine SeqAt.RcNeAt.lists_lengths pa.isList pb.isList ?_ hu X.prog X.w _ _ ⟨.bl true, H, I, rfl, q⟩
    simp
    intro e
    rw [e] at ln
    cases ln
end Rw
set_option Elab.async false
set_option linter.all false
set_option maxRecDepth 100000
set_option maxHeartbeats 4000000
set_option pp.maxSteps 300
namespace K1
open PySem PySem.Spec PyProof.Rows L2 Rw
abbrev sCell : Stmt := top 50
abbrev sBox : Stmt := top 51
abbrev sTake : Stmt := top 52
abbrev NCell : List Str := ["_law_script", "_law_k"]
theorem scCell : FnScope NCell ["_law_script", "_law_k"] (defScope sCell) := ⟨rfl, rfl, rfl, by decide +kernel, rfl, by decide +kernel, by decide +kernel⟩
abbrev NBox : List Str := ["_law_cell_here"]
theorem scBox : FnScope NBox ["_law_cell_here"] (defScope sBox) := ⟨rfl, rfl, rfl, by decide +kernel, rfl, by decide +kernel, by decide +kernel⟩
abbrev NTake : List Str := ["_law_box_here", "_law_many", "_law_digit", "_law_figure"]
theorem scTake : FnScope NTake ["_law_box_here", "_law_many"] (defScope sTake) := ⟨rfl, rfl, rfl, by decide +kernel, rfl, by decide +kernel, by decide +kernel⟩
abbrev sThing : Stmt := top 53
abbrev NThing : List Str := ["_law_box_here", "_law_grown_list"]
theorem scThing : FnScope NThing ["_law_box_here"] (defScope sThing) := ⟨rfl, rfl, rfl, by decide +kernel, rfl, by decide +kernel, by decide +kernel⟩
abbrev sInner : Stmt := top 54
abbrev NInner : List Str := ["_law_thing_here"]
theorem scInner : FnScope NInner ["_law_thing_here"] (defScope sInner) := ⟨rfl, rfl, rfl, by decide +kernel, rfl, by decide +kernel, by decide +kernel⟩
theorem new_of_grow {p z : Addr} {c : Nat} {H H' : Hp} (G : Grow p H H') (b : Bx H' p c) (e : H' z = none) : H z = none := by
  cases h : H z with
  | none => rfl
  | some o => exact absurd (G z o ((b.ne e).symm) h) (by rw [e]; exact fun y => by cases y)
section
variable {P : Program} {w : World} {K : PySem.W.Frag} {mg : Str → Option Value} {base : Heap}
theorem okCell {f : Addr} {fd : FuncData} (F : Fun K "_law_cell" "_law_cell" sCell f fd) (zl : mg "len" = none) : FnOk P w K mg base CX0 1 f fd ["_law_script", "_law_k"] (spCellR K) := by
  refine F.ok scCell (fun vs H Q E h => ?_) (fun cdv A outer s H vs Q E hr h => ?_)
  · obtain ⟨a, ns, j, rfl, _⟩ := h
    rfl
  · obtain ⟨a, ns, j, rfl, hs, hj, q⟩ := h
    refine ⟨_, (pss_cons (ps_if (pt_cmpR op_lt (pv 1) (pe_callB call_len_seq (by rfl) zl PySem.boot_len (pa_cons (pv 0) pa_nil)) (nomark _)) (pss_one (ps_ret (pe_ix ix_list (pv 0) (pv 1) (fun _ _ => rfl)))) pss_nil)
      (pss_one (ps_ret (pe_op op_add (pe_op op_mul pe_int (pv 1)) pe_int)))), ?_⟩
    refine ⟨_, rfl, _, rfl, a, _, rfl, .inl hs, _, _, rfl, rfl, _, rfl, ?_⟩
    refine ite2 (fun z => ?_) (fun z => ?_)
    · have z2 := of_decide_eq_true z
      have z3 : j < ns.length := by
        rw [List.length_map] at z2
        omega
      exact ⟨_, rfl, _, rfl, a, _, _, _, rfl, rfl, hs, atI_nat (j := j) (v := .int ns[j]) (by rw [List.getElem?_map, List.getElem?_eq_getElem z3] <;> rfl), q _⟩
    · exact ⟨_, rfl, _, _, rfl, rfl, .inr ⟨by omega, by omega⟩, _, _, rfl, rfl, q _⟩
theorem okBox {f : Addr} {fd : FuncData} (F : Fun K "_law_box" "_law_box" sBox f fd) (zm : mg "max" = none) (zi : mg "int" = none) : FnOk P w K mg base CX0 1 f fd ["_law_cell_here"] spBoxR := by
  refine F.ok scBox (fun vs H Q E h => ?_) (fun cdv A outer s H vs Q E hr h => ?_)
  · obtain ⟨z, rfl, _⟩ := h
    rfl
  · obtain ⟨z, rfl, q⟩ := h
    refine ⟨_, (pss_one (ps_ret (pe_lst (pa_cons (pe_callB (call_max2 rfl) (by rfl) zm (by decide +kernel) (pa_cons pe_int (pa_cons (pe_op op_sub (pv 0) (pe_op op_pow pe_int pe_int)) pa_nil))) (pa_cons (pe_op op_modN (pe_callTy call_int1 (by rfl) zi (by decide +kernel) (pa_cons (pv 0) pa_nil)) pe_int) (pa_cons pe_int pa_nil)))))), ?_⟩
    refine ⟨_, rfl, _, _, rfl, rfl, ⟨by decide, by decide, by decide⟩, _, _, rfl, rfl, _, _, rfl, _, rfl, .inl ⟨_, rfl, _, _, rfl, rfl, (by dsimp only; omega), (by show 3 ≤ sizeLine; decide), fun p hp => ?_⟩⟩
    refine q p _ hp (same_new hp) ⟨_, _, _, upd_same, ?_, ?_, ?_, by omega, by omega⟩
    · split <;> omega
    · rw [fmod_pos (by decide)]
      exact Int.emod_nonneg _ (by decide)
    · rw [fmod_pos (by decide)]
      exact Int.emod_lt_of_pos _ (by decide)
theorem okTake {f : Addr} {fd : FuncData} (F : Fun K "_law_take" "_law_take" sTake f fd) (zi : mg "int" = none) : FnOk P w K mg base CX0 1 f fd ["_law_box_here", "_law_many"] spTakeR := by
  refine F.ok scTake (fun vs H Q E h => ?_) (fun cdv A outer s H vs Q E hr h => ?_)
  · obtain ⟨p, m, n, rfl, _⟩ := h
    rfl
  · obtain ⟨p, m, n, rfl, m0, m1, ⟨a, b, c, hp, a0, b0, b1, c0, c1⟩, hn, q⟩ := h
    refine ⟨_, (pss_cons (ps_if (pt_cmpR op_gt (pe_ix ix_list (pv 0) pe_int (fun _ _ => rfl)) pe_int (nomark _)) (pss_cons (ps_set (i := 2) scTake.nd rfl (Or.inl rfl) (pe_op op_modN (pe_callTy call_int1 (by rfl) zi (by decide +kernel) (pa_cons (pe_ix ix_list (pv 0) pe_int (fun _ _ => rfl)) pa_nil)) (pv 1)))
        (pss_cons (ps_asg (pe_op op_fdivW (pe_ix ix_list (pv 0) pe_int (fun _ _ => rfl)) (pv 1)) (pg_sub (pv 0) pe_int set_list))
        (pss_one (ps_ret (pv 2))))) pss_nil)
      (pss_cons (ps_asg (pe_op op_add (pe_ix ix_list (pv 0) pe_int (fun _ _ => rfl)) pe_int) (pg_sub (pv 0) pe_int set_list))
      (pss_cons (ps_set (i := 3) scTake.nd rfl (Or.inl rfl) (pe_op op_modN (pe_op op_pow (pe_callTy call_int1 (by rfl) zi (by decide +kernel) (pa_cons (pe_op op_add (pe_op op_add (pe_ix ix_list (pv 0) pe_int (fun _ _ => rfl)) (pe_op op_mul pe_int (pe_ix ix_list (pv 0) pe_int (fun _ _ => rfl)))) pe_int) pa_nil)) pe_int) pe_int))
      (pss_cons (ps_set (i := 3) scTake.nd rfl (Or.inl rfl) (pe_op op_modN (pe_op op_pow (pe_callTy call_int1 (by rfl) zi (by decide +kernel) (pa_cons (pe_op op_add (pv 3) (pe_op op_mul pe_int (pe_ix ix_list (pv 0) pe_int (fun _ _ => rfl)))) pa_nil)) pe_int) pe_int))
      (pss_one (ps_ret (pe_op op_modN (pe_callTy call_int1 (by rfl) zi (by decide +kernel) (pa_cons (pe_op op_fdivW (pv 3) pe_int) pa_nil)) (pv 1)))))))), ?_⟩
    refine ⟨_, rfl, p, _, 0, _, rfl, rfl, SqL.of hp, atI_nat (j := 0) rfl, _, _, rfl, rfl, _, rfl, ?_⟩
    refine ite2 (fun z => ?_) (fun z => ?_)
    · refine ⟨_, rfl, p, _, 0, _, rfl, rfl, SqL.of hp, atI_nat (j := 0) rfl, .inl ⟨_, rfl, _, rfl, _, _, rfl, rfl, (by show m ≠ 0; omega), ?_⟩⟩
      refine ⟨_, rfl, p, _, 0, _, rfl, rfl, SqL.of hp, atI_nat (j := 0) rfl, _, rfl, _, _, rfl, rfl, wide_div (b := 200) m0 (by omega) (by decide) (by decide), _, rfl, p, _, 0, 0, rfl, rfl, hp, rfl, ?_⟩
      refine ⟨_, rfl, ?_⟩
      show Q (.int (a.fmod m)) _
      rw [fmod_pos m0]
      exact q _ _ (Int.emod_nonneg _ (by omega)) (Int.emod_lt_of_pos _ m0) Grow.put ⟨_, b, c, upd_same, fdiv_nonneg' a0 m0, b0, b1, c0, by omega⟩
    · refine ⟨_, rfl, p, _, 2, _, rfl, rfl, SqL.of hp, atI_nat (j := 2) rfl, _, _, rfl, rfl, _, rfl, p, _, 2, 2, rfl, rfl, hp, rfl, ?_⟩
      have hp2 : (upd H p (.lst ([V.int a, V.int b, V.int c].set 2 (.int (c + 1))))) p = some (.lst [.int a, .int b, .int (c + 1)]) := upd_same
      refine ⟨_, rfl, p, _, 1, _, rfl, rfl, SqL.of hp2, atI_nat (j := 1) rfl, _, rfl, p, _, 2, _, rfl, rfl, SqL.of hp2, atI_nat (j := 2) rfl, _, _, rfl, rfl, .inl ⟨by omega, by omega⟩, _, _, rfl, rfl, _, _, rfl, rfl, .inl ⟨_, rfl, _, _, rfl, rfl, ⟨by decide, by decide, by omega⟩, _, _, rfl, rfl, (by dsimp only; omega), ?_⟩⟩
      generalize ((b + _ * (c + 1) + _) ^ _ : Int) = y1
      have y2 : 0 ≤ y1.fmod 2147483647 ∧ y1.fmod 2147483647 < 2147483647 := by
        rw [fmod_pos (by decide)]
        exact ⟨Int.emod_nonneg _ (by decide), Int.emod_lt_of_pos _ (by decide)⟩
      refine ⟨_, rfl, _, rfl, p, _, 2, _, rfl, rfl, SqL.of hp2, atI_nat (j := 2) rfl, _, _, rfl, rfl, .inl ⟨by omega, by omega⟩, _, _, rfl, rfl, .inl ⟨_, rfl, _, _, rfl, rfl, ⟨by decide, by decide, by omega⟩, _, _, rfl, rfl, (by dsimp only; omega), ?_⟩⟩
      generalize ((y1.fmod 2147483647 + _ * (c + 1)) ^ _ : Int) = y4
      refine ⟨_, rfl, _, _, rfl, rfl, ⟨by decide, by decide +kernel⟩, .inl ⟨_, rfl, _, rfl, _, _, rfl, rfl, (by show m ≠ 0; omega), ?_⟩⟩
      show Q (.int (Int.fmod _ m)) _
      rw [fmod_pos m0]
      exact q _ _ (Int.emod_nonneg _ (by omega)) (Int.emod_lt_of_pos _ m0) Grow.put ⟨a, b, c + 1, hp2, a0, b0, b1, by omega, by omega⟩
theorem okThing {f : Addr} {fd : FuncData} (F : Fun K "_law_thing" "_law_thing" sThing f fd) (GT : Own P w K mg base CX0 1 "_law_take" ["_law_box_here", "_law_many"] [] spTakeR) : FnOk P w K mg base CX0 2 f fd ["_law_box_here"] spThing := by
  refine F.ok scThing (fun vs H Q E h => ?_) (fun cdv A outer s H vs Q E hr h => ?_)
  · obtain ⟨p, n, rfl, _⟩ := h
    rfl
  · obtain ⟨p, n, rfl, bx, hn, q⟩ := h
    obtain ⟨op, hop⟩ : ∃ o, H p = some o := by
      obtain ⟨_, _, _, e, _⟩ := id bx
      exact ⟨_, e⟩
    refine ⟨_, (pss_cons (ps_set (i := 1) scThing.nd rfl (Or.inl rfl) (pe_lst (pa_cons (pe_ix ix_list (pe_lst (pa_cons pe_non (pa_cons pe_bl (pa_cons pe_int (pa_cons pe_str (pa_cons (pe_un un_neg (pe_op op_pow pe_int pe_int)) (pa_cons pe_str pa_nil))))))) (pe_own GT (hr.mono (by decide)) pass0 (pa_cons (pv 0) (pa_cons pe_int pa_nil))) (fun _ _ => rfl)) pa_nil)))
    (pss_one (ps_ret (pe_ix ix_list (pe_lst (pa_cons (pv 1) (pa_cons (pe_tup (pa_cons pe_int (pa_cons (pv 1) pa_nil))) (pa_cons (pe_disp (pps_cons pe_str (pv 1) pps_nil) (by rfl) (by rfl) (fun z => by cases z) (by decide)) (pa_cons (pe_lst (pa_cons (pv 1) (pa_cons pe_str pa_nil))) (pa_cons (pe_tup (pa_cons (pe_tup (pa_cons (pv 1) pa_nil)) pa_nil)) pa_nil)))))) (pe_own GT (hr.mono (by decide)) pass0 (pa_cons (pv 0) (pa_cons pe_int pa_nil))) (fun _ _ => rfl))))), ?_⟩
    refine ⟨_, _, rfl, rfl, ⟨by decide, by decide, by decide⟩, _, rfl, by show 6 ≤ sizeLine; decide, fun l6 h6 => ?_⟩
    have k1 := same_new (o := .lst sixV) h6
    have n6 : l6 ≠ p := (bx.ne h6).symm
    refine ⟨_, rfl, p, 6, n, rfl, by decide, by decide, bx.keep k1, by omega, fun r H1 r0 r1 G1 B1 => ?_⟩
    obtain ⟨i, rfl⟩ : ∃ i : Nat, r = (i : Int) := ⟨r.toNat, by omega⟩
    have hi : i < 6 := by omega
    have g1 : Grow p H H1 := (Grow.of k1).trans G1
    refine ⟨l6, sixV, _, _, rfl, rfl, SqL.of (G1 _ _ n6 upd_same), atI_nat (v := six i) (by
      unfold six
      rw [List.getElem?_eq_getElem (show i < sixV.length from hi)] <;> rfl), ?_⟩
    refine ⟨by show 1 ≤ sizeLine; decide, fun g hg => ?_⟩
    have B1' : Bx H1 p (n + 1) := B1
    have hgH := new_of_grow g1 B1' hg
    have kg := same_new (o := .lst [six i]) hg
    have G2 : Grow p H (upd H1 g (.lst [six i])) := g1.trans (Grow.of kg)
    have B2 := B1'.keep kg
    have eg : nw H (upd H1 g (.lst [six i])) g = some (.lst [six i]) := nw_put hgH
    generalize upd H1 g (.lst [six i]) = H2 at G2 B2 eg ⊢
    refine ⟨_, rfl, _, rfl, by show 2 ≤ sizeLine; decide, fun t1 h1 => ?_⟩
    have n1 := new_of_grow G2 B2 h1
    have k3 := same_new (o := .tup [.int 1, .ref g]) h1
    have G3 := G2.trans (Grow.of k3)
    have B3 := B2.keep k3
    have e1 : nw H (upd H2 t1 (.tup [.int 1, .ref g])) t1 = some (.tup [.int 1, .ref g]) := nw_put n1
    have d3 := nw_same (H := H) k3
    generalize upd H2 t1 (.tup [.int 1, .ref g]) = H3 at k3 G3 B3 e1 d3 ⊢
    refine fun dd h2 => ⟨_, rfl, upd_same, [(Sum.inr "a", .ref g)], rfl, by show 1 ≤ 15; decide, ?_⟩
    rw [upd_upd]
    have n2 := new_of_grow G3 B3 h2
    have k4 := same_new (o := .dK (mergeK [] [(Sum.inr "a", .ref g)])) h2
    have G4 := G3.trans (Grow.of k4)
    have B4 := B3.keep k4
    have e2 : nw H (upd H3 dd (.dK (mergeK [] [(Sum.inr "a", .ref g)]))) dd = some (.dK [(Sum.inr "a", .ref g)]) := nw_put n2
    have d4 := nw_same (H := H) k4
    generalize upd H3 dd (.dK (mergeK [] [(Sum.inr "a", .ref g)])) = H4 at k4 G4 B4 e2 d4 ⊢
    refine ⟨_, rfl, by show 2 ≤ sizeLine; decide, fun l3 h3 => ?_⟩
    have n3 := new_of_grow G4 B4 h3
    have k5 := same_new (o := .lst [.ref g, .str "0"]) h3
    have G5 := G4.trans (Grow.of k5)
    have B5 := B4.keep k5
    have e3 : nw H (upd H4 l3 (.lst [.ref g, .str "0"])) l3 = some (.lst [.ref g, .str "0"]) := nw_put n3
    have d5 := nw_same (H := H) k5
    generalize upd H4 l3 (.lst [.ref g, .str "0"]) = H5 at k5 G5 B5 e3 d5 ⊢
    refine ⟨_, rfl, by show 1 ≤ sizeLine; decide, fun u4 h4 => ?_⟩
    have n4 := new_of_grow G5 B5 h4
    have k6 := same_new (o := .tup [.ref g]) h4
    have G6 := G5.trans (Grow.of k6)
    have B6 := B5.keep k6
    have e4 : nw H (upd H5 u4 (.tup [.ref g])) u4 = some (.tup [.ref g]) := nw_put n4
    have d6 := nw_same (H := H) k6
    generalize upd H5 u4 (.tup [.ref g]) = H6 at k6 G6 B6 e4 d6 ⊢
    refine ⟨by show 1 ≤ sizeLine; decide, fun t5 h5 => ?_⟩
    have n5 := new_of_grow G6 B6 h5
    have k7 := same_new (o := .tup [.ref u4]) h5
    have G7 := G6.trans (Grow.of k7)
    have B7 := B6.keep k7
    have e5 : nw H (upd H6 t5 (.tup [.ref u4])) t5 = some (.tup [.ref u4]) := nw_put n5
    have d7 := nw_same (H := H) k7
    generalize upd H6 t5 (.tup [.ref u4]) = H7 at k7 G7 B7 e5 d7 ⊢
    refine ⟨by show 5 ≤ sizeLine; decide, fun l5 h6 => ?_⟩
    have k8 := same_new (o := .lst [.ref g, .ref t1, .ref dd, .ref l3, .ref t5]) h6
    have G8 := G7.trans (Grow.of k8)
    have B8 := B7.keep k8
    have d8 := nw_same (H := H) k8
    have nl : l5 ≠ p := (B7.ne h6).symm
    refine ⟨_, rfl, p, 5, n + 1, rfl, by decide, by decide, B8, by omega, fun r H9 r0 r1 G9 B9 => ?_⟩
    obtain ⟨j, rfl⟩ : ∃ j : Nat, r = (j : Int) := ⟨r.toNat, by omega⟩
    have hj : j < 5 := by omega
    have d9 := nw_grow (H := H) hop G9
    have el5 := G9 _ _ nl (upd_same (H := H7) (a := l5) (o := .lst [.ref g, .ref t1, .ref dd, .ref l3, .ref t5]))
    have w8 := d8.trans d9
    have w7 := d7.trans w8
    have w6 := d6.trans w7
    have w5 := d5.trans w6
    have w4 := d4.trans w5
    have w3 := d3.trans w4
    have fin : ∀ v wy, wy < 5 → ThAt (nw H H9) g wy v → Q v H9 := fun v wy hw th => q v g wy i H9 hw hi (G8.trans G9) B9 th (w3 _ _ eg)
    rcases (by omega : j = 0 ∨ j = 1 ∨ j = 2 ∨ j = 3 ∨ j = 4) with z | z | z | z | z <;> subst z
    · exact ⟨l5, _, _, .ref g, rfl, rfl, SqL.of el5, atI_nat (j := 0) rfl, fin _ 0 (by decide) rfl⟩
    · exact ⟨l5, _, _, .ref t1, rfl, rfl, SqL.of el5, atI_nat (j := 1) rfl, fin _ 1 (by decide) ⟨_, rfl, w4 _ _ e1⟩⟩
    · exact ⟨l5, _, _, .ref dd, rfl, rfl, SqL.of el5, atI_nat (j := 2) rfl, fin _ 2 (by decide) ⟨_, rfl, w5 _ _ e2⟩⟩
    · exact ⟨l5, _, _, .ref l3, rfl, rfl, SqL.of el5, atI_nat (j := 3) rfl, fin _ 3 (by decide) ⟨_, rfl, w6 _ _ e3⟩⟩
    · exact ⟨l5, _, _, .ref t5, rfl, rfl, SqL.of el5, atI_nat (j := 4) rfl, fin _ 4 (by decide) ⟨_, _, rfl, w8 _ _ e5, w7 _ _ e4⟩⟩
theorem okInner {f : Addr} {fd : FuncData} (F : Fun K "_law_inner" "_law_inner" sInner f fd) (zi : mg "isinstance" = none) (zt : mg "tuple" = none) (zd : mg "dict" = none) (zl : mg "list" = none) (zn : mg "len" = none) : FnOk P w K mg base CX0 1 f fd ["_law_thing_here"] spInner := by
  refine F.ok scInner (fun vs H Q E h => ?_) (fun cdv A outer s H vs Q E hr h => ?_)
  · obtain ⟨v, g, w, i, rfl, _⟩ := h
    rfl
  · obtain ⟨v, g, wy, i, rfl, hw, hi, th, eg, q⟩ := h
    refine ⟨_, (pss_cons (ps_while PassesOwn.never (PW.pt (pw_or (pt_val (pe_callB call_isiT (by rfl) zi (by decide +kernel) (pa_cons (pv 0) (pa_cons (pe_tup (pa_cons (pe_bltn (v := .ty "tuple") rfl zt (by decide +kernel) rfl) (pa_cons (pe_bltn (v := .ty "dict") rfl zd (by decide +kernel) rfl) pa_nil))) pa_nil)))) (pw_or1 (PW.pt (pw_and (pt_val (pe_callB call_isi (by rfl) zi (by decide +kernel) (pa_cons (pv 0) (pa_cons (pe_bltn (v := .ty "list") rfl zl (by decide +kernel) rfl) pa_nil)))) (pw_and (pt_cmpR (op_ne_nil hr.units0) (pv 0) (pe_lst pa_nil) (by rfl)) (pw_and1 (pt_val (pe_callB call_isi (by rfl) zi (by decide +kernel) (pa_cons (pe_ix ix_list (pv 0) pe_int (fun _ _ => rfl)) (pa_cons (pe_bltn (v := .ty "list") rfl zl (by decide +kernel) rfl) pa_nil))))))))))) (pss_one (ps_if (pt_val (pe_callB call_isi (by rfl) zi (by decide +kernel) (pa_cons (pv 0) (pa_cons (pe_bltn (v := .ty "dict") rfl zd (by decide +kernel) rfl) pa_nil)))) (pss_one (ps_set (i := 0) scInner.nd rfl (Or.inl rfl) (pe_dget (hu_of hr) (pv 0) pe_str (fun _ _ => rfl)))) (pss_one (ps_if (pt_val (pe_callB call_isi (by rfl) zi (by decide +kernel) (pa_cons (pv 0) (pa_cons (pe_bltn (v := .ty "tuple") rfl zt (by decide +kernel) rfl) pa_nil)))) (pss_one (ps_set (i := 0) scInner.nd rfl (Or.inl rfl) (pe_ix ix_tup (pv 0) (pe_op op_sub (pe_callB call_len_seq (by rfl) zn (by decide +kernel) (pa_cons (pv 0) pa_nil)) pe_int) (fun _ _ => rfl)))) (pss_one (ps_set (i := 0) scInner.nd rfl (Or.inl rfl) (pe_ix ix_list (pv 0) pe_int (fun _ _ => rfl))))))))) (pss_one (ps_ret (pv 0)))), ?_⟩
    obtain ⟨n, dn⟩ := thq_dn th
    obtain ⟨td1, td2, td3⟩ := kit_td (K := K)
    refine ⟨fun m σ' H' => Same H H' ∧ ∃ v, σ' = [some v] ∧ Dn H' g m v, ⟨n, Same.refl _, v, rfl, dn⟩, ?_⟩
    rintro m σ' H1 ⟨k1, v, rfl, dn⟩
    have eg1 := k1 _ _ eg
    refine ⟨_, rfl, by show 2 ≤ sizeLine; decide, fun tp htp => ?_⟩
    have k2 := same_new (o := .tup [.ty "tuple", .ty "dict"]) htp
    have dn2 := dn.keep k2
    have eg2 := k2 _ _ eg1
    have etp : (upd H1 tp (.tup [.ty "tuple", .ty "dict"])) tp = some (.tup [.ty "tuple", .ty "dict"]) := upd_same
    have kk := k1.trans k2
    generalize upd H1 tp (.tup [.ty "tuple", .ty "dict"]) = H2 at k2 dn2 eg2 etp kk ⊢
    have pr : Paired ClsV [V.ty "tuple", V.ty "dict"] [Value.type "tuple", Value.type "dict"] := .cons (.ty _) (.cons (.ty _) .nil)
    cases dn2 with
    | z =>
      refine ⟨_, tp, _, _, _, _, rfl, etp, pr, .base (.lst eg2), td3, _, rfl, iteF ?_⟩
      refine ⟨_, rfl, _, _, _, _, _, rfl, .ty _, .base (.lst eg2), kit_ty (show kitB "list" "list" = some true by decide +kernel), _, rfl, iteT ?_⟩
      refine ⟨_, rfl, by show 0 ≤ sizeLine; decide, fun u hu => ⟨g, u, _, rfl, rfl, same_new hu _ _ eg2, upd_same, _, rfl, iteT ?_⟩⟩
      have k3 := same_new (o := .lst []) hu
      obtain ⟨t, ty, kt⟩ := six_noList (K := K) (H := upd H2 u (.lst [])) hi
      refine ⟨_, rfl, g, _, _, _, rfl, rfl, SqL.of (k3 _ _ eg2), atI_nat (j := 0) rfl, _, _, _, _, _, rfl, .ty _, ty, kt, _, rfl, iteF ?_⟩
      exact ⟨_, rfl, q _ (kk.trans k3)⟩
    | @tup t xs u n j h l e r =>
      refine ⟨_, tp, _, _, _, _, rfl, etp, pr, .base (.tup h), td1, _, rfl, iteT ?_⟩
      refine ⟨fun σ' H' => ∃ m', m' < n + 1 ∧ (Same H H' ∧ ∃ v, σ' = [some v] ∧ Dn H' g m' v), fun _ _ z => z, ?_⟩
      refine ⟨_, rfl, _, _, _, _, _, rfl, .ty _, .base (.tup h), kit_ty (show kitB "tuple" "dict" = some false by decide +kernel), _, rfl, iteF ?_⟩
      refine ⟨_, rfl, _, _, _, _, _, rfl, .ty _, .base (.tup h), kit_ty (show kitB "tuple" "tuple" = some true by decide +kernel), _, rfl, iteT ?_⟩
      refine ⟨_, rfl, _, rfl, t, _, rfl, .inr (SqT.of h), _, _, rfl, rfl, t, _, _, u, rfl, rfl, SqT.of h, ?_, ⟨n, by omega, kk, u, rfl, r⟩⟩
      rw [show (xs.length : Int) - 1 = ((j : Nat) : Int) by omega]
      exact atI_nat e
    | @dct t u n h r =>
      refine ⟨_, tp, _, _, _, _, rfl, etp, pr, .base (.dK h), td2, _, rfl, iteT ?_⟩
      refine ⟨fun σ' H' => ∃ m', m' < n + 1 ∧ (Same H H' ∧ ∃ v, σ' = [some v] ∧ Dn H' g m' v), fun _ _ z => z, ?_⟩
      refine ⟨_, rfl, _, _, _, _, _, rfl, .ty _, .base (.dK h), kit_ty (show kitB "dict" "dict" = some true by decide +kernel), _, rfl, iteT ?_⟩
      exact ⟨_, rfl, t, u, rfl, DGet.k (k := Sum.inr "a") h, ⟨n, by omega, kk, u, rfl, r⟩⟩
    | @lst t n h =>
      refine ⟨_, tp, _, _, _, _, rfl, etp, pr, .base (.lst h), td3, _, rfl, iteF ?_⟩
      refine ⟨_, rfl, _, _, _, _, _, rfl, .ty _, .base (.lst h), kit_ty (show kitB "list" "list" = some true by decide +kernel), _, rfl, iteT ?_⟩
      refine ⟨_, rfl, by show 0 ≤ sizeLine; decide, fun u hu => ⟨t, u, _, rfl, rfl, same_new hu _ _ h, upd_same, _, rfl, iteT ?_⟩⟩
      have k3 := same_new (o := .lst []) hu
      refine ⟨_, rfl, t, _, _, _, rfl, rfl, SqL.of (k3 _ _ h), atI_nat (j := 0) rfl, _, _, _, _, _, rfl, .ty _, .base (.lst (k3 _ _ eg2)), kit_ty (show kitB "list" "list" = some true by decide +kernel), _, rfl, iteT ?_⟩
      refine ⟨fun σ' H' => ∃ m', m' < 1 ∧ (Same H H' ∧ ∃ v, σ' = [some v] ∧ Dn H' g m' v), fun _ _ z => z, ?_⟩
      refine ⟨_, rfl, _, _, _, _, _, rfl, .ty _, .base (.lst (k3 _ _ h)), kit_ty (show kitB "list" "dict" = some false by decide +kernel), _, rfl, iteF ?_⟩
      refine ⟨_, rfl, _, _, _, _, _, rfl, .ty _, .base (.lst (k3 _ _ h)), kit_ty (show kitB "list" "tuple" = some false by decide +kernel), _, rfl, iteF ?_⟩
      exact ⟨_, rfl, t, _, _, _, rfl, rfl, SqL.of (k3 _ _ h), atI_nat (j := 0) rfl, ⟨0, by omega, kk.trans k3, _, rfl, .z⟩⟩
end
end K1
set_option Elab.async false
set_option linter.all false
set_option maxRecDepth 100000
set_option maxHeartbeats 8000000
set_option pp.maxSteps 300
namespace Rw
open PySem PySem.Spec PyProof.Rows L2
def flN (i : Nat) : Str := if i = 20 then "bar" else if 22 ≤ i then "name" else "value"
structure Ers (K : PySem.W.Frag) (mg : Str → Option Value) (c : Nat → Addr) (CR : Addr) : Prop where
  e0 : ErrK K mg "InvalidPrime" "value" (c 0)
  e1 : ErrK K mg "NoInverse" "value" (c 1)
  e2 : ErrK K mg "InvalidSize" "value" (c 2)
  e3 : ErrK K mg "InvalidVector" "value" (c 3)
  e4 : ErrK K mg "InvalidMatrix" "value" (c 4)
  e5 : ErrK K mg "InvalidPattern" "value" (c 5)
  e6 : ErrK K mg "InvalidPlace" "value" (c 6)
  e7 : ErrK K mg "InvalidBar" "value" (c 7)
  e8 : ErrK K mg "InvalidSizes" "value" (c 8)
  e9 : ErrK K mg "InvalidMaps" "value" (c 9)
  e10 : ErrK K mg "InvalidNumbers" "value" (c 10)
  e11 : ErrK K mg "InvalidText" "value" (c 11)
  e12 : ErrK K mg "InvalidTerms" "value" (c 12)
  e13 : ErrK K mg "InvalidTable" "value" (c 13)
  e14 : ErrK K mg "InvalidNumber" "value" (c 14)
  e15 : ErrK K mg "InvalidArrow" "value" (c 15)
  e16 : ErrK K mg "InvalidName" "value" (c 16)
  e17 : ErrK K mg "InvalidLine" "value" (c 17)
  e18 : ErrK K mg "NotFitting" "value" (c 18)
  e19 : ErrK K mg "NotOneWay" "value" (c 19)
  e20 : ErrK K mg "NegativeBar" "bar" (c 20)
  e21 : ErrK K mg "TooLarge" "value" (c 21)
  e22 : ErrK K mg "NameTaken" "name" (c 22)
  e23 : ErrK K mg "UnknownName" "name" (c 23)
  e24 : ErrN K mg "UnlikeSpaces" (c 24)
  e25 : ErrN K mg "UnlikePlaces" (c 25)
  e26 : ErrN K mg "UnlikeRows" (c 26)
  e27 : ErrN K mg "NotWithin" (c 27)
  e28 : ErrN K mg "NothingToUndo" (c 28)
  e29 : ErrN K mg "NothingToRedo" (c 29)
  gR : mg "RowError" = some (.ref CR)
  ic : ∀ i, i < 30 → ExcC K (c i)
  kit : ∀ i j, i < 30 → j < 30 → PySem.W.kitOne K (.ref (c i)) (.ref (c j)) = some (decide (i = j))
  kr : ∀ i, i < 30 → PySem.W.kitOne K (.ref (c i)) (.ref CR) = some true
  kv : ∀ i, i < 30 → PySem.W.kitOne K (.ref (c i)) (.type "ValueError") = some true
theorem Ers.xf {K : PySem.W.Frag} {mg : Str → Option Value} {c : Nat → Addr} {CR : Addr} (R : Ers K mg c CR) {i : Nat} (hi : i < 24) : XfC K (c i) ∧ PySem.W.findIn K (.ref (c i)) (flN i) = some none := by
  have h : ∀ i, i < 24 → XfC K (c i) ∧ PySem.W.findIn K (.ref (c i)) (flN i) = some none := fun i hi => match i, hi with
    | 0, _ => ⟨R.e0.e.xf, R.e0.e.no⟩
    | 1, _ => ⟨R.e1.e.xf, R.e1.e.no⟩
    | 2, _ => ⟨R.e2.e.xf, R.e2.e.no⟩
    | 3, _ => ⟨R.e3.e.xf, R.e3.e.no⟩
    | 4, _ => ⟨R.e4.e.xf, R.e4.e.no⟩
    | 5, _ => ⟨R.e5.e.xf, R.e5.e.no⟩
    | 6, _ => ⟨R.e6.e.xf, R.e6.e.no⟩
    | 7, _ => ⟨R.e7.e.xf, R.e7.e.no⟩
    | 8, _ => ⟨R.e8.e.xf, R.e8.e.no⟩
    | 9, _ => ⟨R.e9.e.xf, R.e9.e.no⟩
    | 10, _ => ⟨R.e10.e.xf, R.e10.e.no⟩
    | 11, _ => ⟨R.e11.e.xf, R.e11.e.no⟩
    | 12, _ => ⟨R.e12.e.xf, R.e12.e.no⟩
    | 13, _ => ⟨R.e13.e.xf, R.e13.e.no⟩
    | 14, _ => ⟨R.e14.e.xf, R.e14.e.no⟩
    | 15, _ => ⟨R.e15.e.xf, R.e15.e.no⟩
    | 16, _ => ⟨R.e16.e.xf, R.e16.e.no⟩
    | 17, _ => ⟨R.e17.e.xf, R.e17.e.no⟩
    | 18, _ => ⟨R.e18.e.xf, R.e18.e.no⟩
    | 19, _ => ⟨R.e19.e.xf, R.e19.e.no⟩
    | 20, _ => ⟨R.e20.e.xf, R.e20.e.no⟩
    | 21, _ => ⟨R.e21.e.xf, R.e21.e.no⟩
    | 22, _ => ⟨R.e22.e.xf, R.e22.e.no⟩
    | 23, _ => ⟨R.e23.e.xf, R.e23.e.no⟩
    | n + 24, z => absurd z (by omega)
  exact h i hi
/-- an error of the class i: with v in its field, or bare -/
def ExOf (c : Nat → Addr) (v : V) (H : Hp) (i : Nat) (a : Addr) : Prop := (i < 24 → ExVal H a (c i) (flN i) v) ∧ (24 ≤ i → H a = some (exo a (c i) none))
theorem ExOf.keep {c : Nat → Addr} {v : V} {H H' : Hp} {i : Nat} {a : Addr} (h : ExOf c v H i a) (k : Same H H') : ExOf c v H' i a := ⟨fun z => (h.1 z).keep k, fun z => k _ _ (h.2 z)⟩
theorem ExOf.held {c : Nat → Addr} {v : V} {H : Hp} {i : Nat} {a : Addr} (h : ExOf c v H i a) : (∃ fl v, ExVal H a (c i) fl v) ∨ H a = some (exo a (c i) none) := by
  by_cases z : i < 24
  · exact .inl ⟨_, _, h.1 z⟩
  · exact .inr (h.2 (by omega))
/-- errors of the classes from lo on, in their order -/
def AccX (c : Nat → Addr) (v : V) (H : Hp) (lo n : Nat) (L : List Addr) : Prop := L.length = n ∧ ∀ i a, L[i]? = some a → ExOf c v H (lo + i) a
theorem AccX.keep {c : Nat → Addr} {v : V} {H H' : Hp} {lo n : Nat} {L : List Addr} (h : AccX c v H lo n L) (k : Same H H') : AccX c v H' lo n L := ⟨h.1, fun i a e => (h.2 i a e).keep k⟩
theorem AccX.nil {c : Nat → Addr} {v : V} {H : Hp} {lo : Nat} : AccX c v H lo 0 [] := ⟨rfl, fun i a e => by simp at e⟩
theorem AccX.snoc {c : Nat → Addr} {v : V} {H H' : Hp} {lo n : Nat} {L : List Addr} {a : Addr} (h : AccX c v H lo n L) (k : Same H H') (x : ExOf c v H' (lo + n) a) : AccX c v H' lo (n + 1) (L ++ [a]) := by
  refine ⟨by rw [List.length_append, h.1] <;> rfl, fun i b e => ?_⟩
  by_cases z : i < L.length
  · rw [List.getElem?_append_left z] at e
    exact (h.2 i b e).keep k
  · rw [List.getElem?_append_right (by omega)] at e
    have : i - L.length = 0 := by
      have := (List.getElem?_eq_some_iff.mp e).1
      rw [List.length_singleton] at this
      omega
    rw [this] at e
    cases e
    have : i = n := by
      have := h.1
      omega
    rw [this]
    exact x
theorem AccX.app {c : Nat → Addr} {v : V} {H : Hp} {lo n m : Nat} {L M : List Addr} (h : AccX c v H lo n L) (g : AccX c v H (lo + n) m M) : AccX c v H lo (n + m) (L ++ M) := by
  refine ⟨by rw [List.length_append, h.1, g.1], fun i b e => ?_⟩
  by_cases z : i < L.length
  · rw [List.getElem?_append_left z] at e
    exact h.2 i b e
  · rw [List.getElem?_append_right (by omega)] at e
    have := g.2 _ _ e
    rw [h.1] at this z
    rwa [show lo + n + (i - n) = lo + i by omega] at this
theorem AccX.at_ {c : Nat → Addr} {v : V} {H : Hp} {lo n : Nat} {L : List Addr} (h : AccX c v H lo n L) {i : Nat} (hi : i < n) : ∃ a, L[i]? = some a ∧ ExOf c v H (lo + i) a := by
  have e : L[i]? = some (L[i]'(by rw [h.1]; exact hi)) := List.getElem?_eq_getElem (by rw [h.1]; exact hi)
  exact ⟨_, e, h.2 _ _ e⟩
/-- all with a field -/
def spMadeX (c : Nat → Addr) : Sp := fun vs H Q _ => ∃ v, vs = [v] ∧ ∀ l L H', Same H H' → H' l = some (.lst (L.map V.ref)) → AccX c v H' 0 24 L → Q (.ref l) H'
def spBareX (c : Nat → Addr) : Sp := fun vs H Q _ => vs = [] ∧ ∀ l L H', Same H H' → H' l = some (.lst (L.map V.ref)) → (∀ v, AccX c v H' 24 6 L) → Q (.ref l) H'
end Rw
namespace K1
open PySem PySem.Spec PyProof.Rows L2 Rw
abbrev sMade : Stmt := top 55
abbrev NMade : List Str := ["_law_t", "_law_made_here"]
theorem scMade : FnScope NMade ["_law_t"] (defScope sMade) := ⟨rfl, rfl, rfl, by decide +kernel, rfl, by decide +kernel, by decide +kernel⟩
abbrev sNamed : Stmt := top 56
abbrev NNamed : List Str := ["_law_t", "_law_made_here"]
theorem scNamed : FnScope NNamed ["_law_t"] (defScope sNamed) := ⟨rfl, rfl, rfl, by decide +kernel, rfl, by decide +kernel, by decide +kernel⟩
abbrev sBare : Stmt := top 57
abbrev NBare : List Str := ["_law_made_here"]
theorem scBare : FnScope NBare [] (defScope sBare) := ⟨rfl, rfl, rfl, by decide +kernel, rfl, by decide +kernel, by decide +kernel⟩
section
variable {P : Program} {w : World} {K : PySem.W.Frag} {mg : Str → Option Value} {base : Heap} {c : Nat → Addr} {CR : Addr}
theorem okMade {f : Addr} {fd : FuncData} (F : Fun K "_law_made" "_law_made" sMade f fd) (R : Ers K mg c CR) : FnOk P w K mg base CX0 3 f fd ["_law_t"] (spMadeX c) := by
  refine F.ok scMade (fun vs H Q E h => ?_) (fun cdv A outer s H vs Q E hr h => ?_)
  · obtain ⟨v, rfl, _⟩ := h
    rfl
  · obtain ⟨v, rfl, q⟩ := h
    refine ⟨_, (pss_cons (ps_set (i := 1) scMade.nd rfl (Or.inl rfl) (pe_lst (pa_cons (pe_exv R.e0.e (hr.mono (by decide)) (pv 0)) (pa_cons (pe_exv R.e1.e (hr.mono (by decide)) (pv 0)) (pa_cons (pe_exv R.e2.e (hr.mono (by decide)) (pv 0)) (pa_cons (pe_exv R.e3.e (hr.mono (by decide)) (pv 0)) pa_nil))))))
    (pss_cons (ps_set (i := 1) scMade.nd rfl (Or.inl rfl) (pe_op op_cat (pv 1) (pe_lst (pa_cons (pe_exv R.e4.e (hr.mono (by decide)) (pv 0)) (pa_cons (pe_exv R.e5.e (hr.mono (by decide)) (pv 0)) (pa_cons (pe_exv R.e6.e (hr.mono (by decide)) (pv 0)) (pa_cons (pe_exv R.e7.e (hr.mono (by decide)) (pv 0)) pa_nil)))))))
    (pss_cons (ps_set (i := 1) scMade.nd rfl (Or.inl rfl) (pe_op op_cat (pv 1) (pe_lst (pa_cons (pe_exv R.e8.e (hr.mono (by decide)) (pv 0)) (pa_cons (pe_exv R.e9.e (hr.mono (by decide)) (pv 0)) (pa_cons (pe_exv R.e10.e (hr.mono (by decide)) (pv 0)) (pa_cons (pe_exv R.e11.e (hr.mono (by decide)) (pv 0)) pa_nil)))))))
    (pss_cons (ps_set (i := 1) scMade.nd rfl (Or.inl rfl) (pe_op op_cat (pv 1) (pe_lst (pa_cons (pe_exv R.e12.e (hr.mono (by decide)) (pv 0)) (pa_cons (pe_exv R.e13.e (hr.mono (by decide)) (pv 0)) (pa_cons (pe_exv R.e14.e (hr.mono (by decide)) (pv 0)) (pa_cons (pe_exv R.e15.e (hr.mono (by decide)) (pv 0)) pa_nil)))))))
    (pss_cons (ps_set (i := 1) scMade.nd rfl (Or.inl rfl) (pe_op op_cat (pv 1) (pe_lst (pa_cons (pe_exv R.e16.e (hr.mono (by decide)) (pv 0)) (pa_cons (pe_exv R.e17.e (hr.mono (by decide)) (pv 0)) (pa_cons (pe_exv R.e18.e (hr.mono (by decide)) (pv 0)) (pa_cons (pe_exv R.e19.e (hr.mono (by decide)) (pv 0)) pa_nil)))))))
    (pss_cons (ps_set (i := 1) scMade.nd rfl (Or.inl rfl) (pe_op op_cat (pv 1) (pe_lst (pa_cons (pe_exv R.e20.e (hr.mono (by decide)) (pv 0)) (pa_cons (pe_exv R.e21.e (hr.mono (by decide)) (pv 0)) (pa_cons (pe_exv R.e22.e (hr.mono (by decide)) (pv 0)) (pa_cons (pe_exv R.e23.e (hr.mono (by decide)) (pv 0)) pa_nil)))))))
    (pss_one (ps_ret (pv 1))))))))), ?_⟩
    have ac0 : AccX c v H 0 0 [] := .nil
    have k0 : Same H H := Same.refl _
    refine ⟨_, rfl, fun a0 H1 n0 s0 x0 => ?_⟩
    have ac1 := ac0.snoc s0 ⟨fun _ => x0, fun z => absurd z (by decide)⟩
    have k1 := k0.trans s0
    refine ⟨_, rfl, fun a1 H2 n1 s1 x1 => ?_⟩
    have ac2 := ac1.snoc s1 ⟨fun _ => x1, fun z => absurd z (by decide)⟩
    have k2 := k1.trans s1
    refine ⟨_, rfl, fun a2 H3 n2 s2 x2 => ?_⟩
    have ac3 := ac2.snoc s2 ⟨fun _ => x2, fun z => absurd z (by decide)⟩
    have k3 := k2.trans s2
    refine ⟨_, rfl, fun a3 H4 n3 s3 x3 => ?_⟩
    have ac4 := ac3.snoc s3 ⟨fun _ => x3, fun z => absurd z (by decide)⟩
    have k4 := k3.trans s3
    refine ⟨by show 4 ≤ sizeLine; decide, fun l0 hl0 => ?_⟩
    have t0 := same_new (o := .lst [.ref a0, .ref a1, .ref a2, .ref a3]) hl0
    have el0' : (upd H4 l0 (.lst [.ref a0, .ref a1, .ref a2, .ref a3])) l0 = some (.lst [.ref a0, .ref a1, .ref a2, .ref a3]) := upd_same
    have k5 := k4.trans t0
    replace ac4 : AccX c v (upd H4 l0 (.lst [.ref a0, .ref a1, .ref a2, .ref a3])) 0 4 [a0, a1, a2, a3] := ac4.keep t0
    generalize upd H4 l0 (.lst [.ref a0, .ref a1, .ref a2, .ref a3]) = H5 at t0 el0' k5 ac4 ⊢
    have el : H5 l0 = some (.lst ([a0, a1, a2, a3].map V.ref)) := el0'
    refine ⟨_, rfl, ?_⟩
    refine ⟨_, rfl, fun a4 H6 n4 s4 x4 => ?_⟩
    have ac5 := ac4.snoc s4 ⟨fun _ => x4, fun z => absurd z (by decide)⟩
    have k6 := k5.trans s4
    have el := s4 _ _ el
    refine ⟨_, rfl, fun a5 H7 n5 s5 x5 => ?_⟩
    have ac6 := ac5.snoc s5 ⟨fun _ => x5, fun z => absurd z (by decide)⟩
    have k7 := k6.trans s5
    have el := s5 _ _ el
    refine ⟨_, rfl, fun a6 H8 n6 s6 x6 => ?_⟩
    have ac7 := ac6.snoc s6 ⟨fun _ => x6, fun z => absurd z (by decide)⟩
    have k8 := k7.trans s6
    have el := s6 _ _ el
    refine ⟨_, rfl, fun a7 H9 n7 s7 x7 => ?_⟩
    have ac8 := ac7.snoc s7 ⟨fun _ => x7, fun z => absurd z (by decide)⟩
    have k9 := k8.trans s7
    have el := s7 _ _ el
    refine ⟨by show 4 ≤ sizeLine; decide, fun l1 hl1 => ?_⟩
    have t1 := same_new (o := .lst [.ref a4, .ref a5, .ref a6, .ref a7]) hl1
    have el1' : (upd H9 l1 (.lst [.ref a4, .ref a5, .ref a6, .ref a7])) l1 = some (.lst [.ref a4, .ref a5, .ref a6, .ref a7]) := upd_same
    have el := t1 _ _ el
    have k10 := k9.trans t1
    replace ac8 : AccX c v (upd H9 l1 (.lst [.ref a4, .ref a5, .ref a6, .ref a7])) 0 8 [a0, a1, a2, a3, a4, a5, a6, a7] := ac8.keep t1
    generalize upd H9 l1 (.lst [.ref a4, .ref a5, .ref a6, .ref a7]) = H10 at t1 el1' k10 ac8 el ⊢
    refine ⟨_, _, _, _, rfl, rfl, el, el1', by show 4 + 4 ≤ sizeLine; decide, fun m1 hm1 => ?_⟩
    have u1 := same_new (o := .lst ([a0, a1, a2, a3, a4, a5, a6, a7].map V.ref)) hm1
    have el : (upd H10 m1 (.lst ([a0, a1, a2, a3, a4, a5, a6, a7].map V.ref))) m1 = some (.lst ([a0, a1, a2, a3, a4, a5, a6, a7].map V.ref)) := upd_same
    have k11 := k10.trans u1
    replace ac8 := ac8.keep u1
    have eg1 : upd H10 m1 (.lst (([a0, a1, a2, a3].map V.ref) ++ [.ref a4, .ref a5, .ref a6, .ref a7])) = upd H10 m1 (.lst ([a0, a1, a2, a3, a4, a5, a6, a7].map V.ref)) := rfl
    generalize upd H10 m1 (.lst ([a0, a1, a2, a3, a4, a5, a6, a7].map V.ref)) = H11 at u1 k11 ac8 el eg1 ⊢
    rw [eg1]
    refine ⟨_, rfl, ?_⟩
    refine ⟨_, rfl, fun a8 H12 n8 s8 x8 => ?_⟩
    have ac9 := ac8.snoc s8 ⟨fun _ => x8, fun z => absurd z (by decide)⟩
    have k12 := k11.trans s8
    have el := s8 _ _ el
    refine ⟨_, rfl, fun a9 H13 n9 s9 x9 => ?_⟩
    have ac10 := ac9.snoc s9 ⟨fun _ => x9, fun z => absurd z (by decide)⟩
    have k13 := k12.trans s9
    have el := s9 _ _ el
    refine ⟨_, rfl, fun a10 H14 n10 s10 x10 => ?_⟩
    have ac11 := ac10.snoc s10 ⟨fun _ => x10, fun z => absurd z (by decide)⟩
    have k14 := k13.trans s10
    have el := s10 _ _ el
    refine ⟨_, rfl, fun a11 H15 n11 s11 x11 => ?_⟩
    have ac12 := ac11.snoc s11 ⟨fun _ => x11, fun z => absurd z (by decide)⟩
    have k15 := k14.trans s11
    have el := s11 _ _ el
    refine ⟨by show 4 ≤ sizeLine; decide, fun l2 hl2 => ?_⟩
    have t2 := same_new (o := .lst [.ref a8, .ref a9, .ref a10, .ref a11]) hl2
    have el2' : (upd H15 l2 (.lst [.ref a8, .ref a9, .ref a10, .ref a11])) l2 = some (.lst [.ref a8, .ref a9, .ref a10, .ref a11]) := upd_same
    have el := t2 _ _ el
    have k16 := k15.trans t2
    replace ac12 : AccX c v (upd H15 l2 (.lst [.ref a8, .ref a9, .ref a10, .ref a11])) 0 12 [a0, a1, a2, a3, a4, a5, a6, a7, a8, a9, a10, a11] := ac12.keep t2
    generalize upd H15 l2 (.lst [.ref a8, .ref a9, .ref a10, .ref a11]) = H16 at t2 el2' k16 ac12 el ⊢
    refine ⟨_, _, _, _, rfl, rfl, el, el2', by show 8 + 4 ≤ sizeLine; decide, fun m2 hm2 => ?_⟩
    have u2 := same_new (o := .lst ([a0, a1, a2, a3, a4, a5, a6, a7, a8, a9, a10, a11].map V.ref)) hm2
    have el : (upd H16 m2 (.lst ([a0, a1, a2, a3, a4, a5, a6, a7, a8, a9, a10, a11].map V.ref))) m2 = some (.lst ([a0, a1, a2, a3, a4, a5, a6, a7, a8, a9, a10, a11].map V.ref)) := upd_same
    have k17 := k16.trans u2
    replace ac12 := ac12.keep u2
    have eg2 : upd H16 m2 (.lst (([a0, a1, a2, a3, a4, a5, a6, a7].map V.ref) ++ [.ref a8, .ref a9, .ref a10, .ref a11])) = upd H16 m2 (.lst ([a0, a1, a2, a3, a4, a5, a6, a7, a8, a9, a10, a11].map V.ref)) := rfl
    generalize upd H16 m2 (.lst ([a0, a1, a2, a3, a4, a5, a6, a7, a8, a9, a10, a11].map V.ref)) = H17 at u2 k17 ac12 el eg2 ⊢
    rw [eg2]
    refine ⟨_, rfl, ?_⟩
    refine ⟨_, rfl, fun a12 H18 n12 s12 x12 => ?_⟩
    have ac13 := ac12.snoc s12 ⟨fun _ => x12, fun z => absurd z (by decide)⟩
    have k18 := k17.trans s12
    have el := s12 _ _ el
    refine ⟨_, rfl, fun a13 H19 n13 s13 x13 => ?_⟩
    have ac14 := ac13.snoc s13 ⟨fun _ => x13, fun z => absurd z (by decide)⟩
    have k19 := k18.trans s13
    have el := s13 _ _ el
    refine ⟨_, rfl, fun a14 H20 n14 s14 x14 => ?_⟩
    have ac15 := ac14.snoc s14 ⟨fun _ => x14, fun z => absurd z (by decide)⟩
    have k20 := k19.trans s14
    have el := s14 _ _ el
    refine ⟨_, rfl, fun a15 H21 n15 s15 x15 => ?_⟩
    have ac16 := ac15.snoc s15 ⟨fun _ => x15, fun z => absurd z (by decide)⟩
    have k21 := k20.trans s15
    have el := s15 _ _ el
    refine ⟨by show 4 ≤ sizeLine; decide, fun l3 hl3 => ?_⟩
    have t3 := same_new (o := .lst [.ref a12, .ref a13, .ref a14, .ref a15]) hl3
    have el3' : (upd H21 l3 (.lst [.ref a12, .ref a13, .ref a14, .ref a15])) l3 = some (.lst [.ref a12, .ref a13, .ref a14, .ref a15]) := upd_same
    have el := t3 _ _ el
    have k22 := k21.trans t3
    replace ac16 : AccX c v (upd H21 l3 (.lst [.ref a12, .ref a13, .ref a14, .ref a15])) 0 16 [a0, a1, a2, a3, a4, a5, a6, a7, a8, a9, a10, a11, a12, a13, a14, a15] := ac16.keep t3
    generalize upd H21 l3 (.lst [.ref a12, .ref a13, .ref a14, .ref a15]) = H22 at t3 el3' k22 ac16 el ⊢
    refine ⟨_, _, _, _, rfl, rfl, el, el3', by show 12 + 4 ≤ sizeLine; decide, fun m3 hm3 => ?_⟩
    have u3 := same_new (o := .lst ([a0, a1, a2, a3, a4, a5, a6, a7, a8, a9, a10, a11, a12, a13, a14, a15].map V.ref)) hm3
    have el : (upd H22 m3 (.lst ([a0, a1, a2, a3, a4, a5, a6, a7, a8, a9, a10, a11, a12, a13, a14, a15].map V.ref))) m3 = some (.lst ([a0, a1, a2, a3, a4, a5, a6, a7, a8, a9, a10, a11, a12, a13, a14, a15].map V.ref)) := upd_same
    have k23 := k22.trans u3
    replace ac16 := ac16.keep u3
    have eg3 : upd H22 m3 (.lst (([a0, a1, a2, a3, a4, a5, a6, a7, a8, a9, a10, a11].map V.ref) ++ [.ref a12, .ref a13, .ref a14, .ref a15])) = upd H22 m3 (.lst ([a0, a1, a2, a3, a4, a5, a6, a7, a8, a9, a10, a11, a12, a13, a14, a15].map V.ref)) := rfl
    generalize upd H22 m3 (.lst ([a0, a1, a2, a3, a4, a5, a6, a7, a8, a9, a10, a11, a12, a13, a14, a15].map V.ref)) = H23 at u3 k23 ac16 el eg3 ⊢
    rw [eg3]
    refine ⟨_, rfl, ?_⟩
    refine ⟨_, rfl, fun a16 H24 n16 s16 x16 => ?_⟩
    have ac17 := ac16.snoc s16 ⟨fun _ => x16, fun z => absurd z (by decide)⟩
    have k24 := k23.trans s16
    have el := s16 _ _ el
    refine ⟨_, rfl, fun a17 H25 n17 s17 x17 => ?_⟩
    have ac18 := ac17.snoc s17 ⟨fun _ => x17, fun z => absurd z (by decide)⟩
    have k25 := k24.trans s17
    have el := s17 _ _ el
    refine ⟨_, rfl, fun a18 H26 n18 s18 x18 => ?_⟩
    have ac19 := ac18.snoc s18 ⟨fun _ => x18, fun z => absurd z (by decide)⟩
    have k26 := k25.trans s18
    have el := s18 _ _ el
    refine ⟨_, rfl, fun a19 H27 n19 s19 x19 => ?_⟩
    have ac20 := ac19.snoc s19 ⟨fun _ => x19, fun z => absurd z (by decide)⟩
    have k27 := k26.trans s19
    have el := s19 _ _ el
    refine ⟨by show 4 ≤ sizeLine; decide, fun l4 hl4 => ?_⟩
    have t4 := same_new (o := .lst [.ref a16, .ref a17, .ref a18, .ref a19]) hl4
    have el4' : (upd H27 l4 (.lst [.ref a16, .ref a17, .ref a18, .ref a19])) l4 = some (.lst [.ref a16, .ref a17, .ref a18, .ref a19]) := upd_same
    have el := t4 _ _ el
    have k28 := k27.trans t4
    replace ac20 : AccX c v (upd H27 l4 (.lst [.ref a16, .ref a17, .ref a18, .ref a19])) 0 20 [a0, a1, a2, a3, a4, a5, a6, a7, a8, a9, a10, a11, a12, a13, a14, a15, a16, a17, a18, a19] := ac20.keep t4
    generalize upd H27 l4 (.lst [.ref a16, .ref a17, .ref a18, .ref a19]) = H28 at t4 el4' k28 ac20 el ⊢
    refine ⟨_, _, _, _, rfl, rfl, el, el4', by show 16 + 4 ≤ sizeLine; decide, fun m4 hm4 => ?_⟩
    have u4 := same_new (o := .lst ([a0, a1, a2, a3, a4, a5, a6, a7, a8, a9, a10, a11, a12, a13, a14, a15, a16, a17, a18, a19].map V.ref)) hm4
    have el : (upd H28 m4 (.lst ([a0, a1, a2, a3, a4, a5, a6, a7, a8, a9, a10, a11, a12, a13, a14, a15, a16, a17, a18, a19].map V.ref))) m4 = some (.lst ([a0, a1, a2, a3, a4, a5, a6, a7, a8, a9, a10, a11, a12, a13, a14, a15, a16, a17, a18, a19].map V.ref)) := upd_same
    have k29 := k28.trans u4
    replace ac20 := ac20.keep u4
    have eg4 : upd H28 m4 (.lst (([a0, a1, a2, a3, a4, a5, a6, a7, a8, a9, a10, a11, a12, a13, a14, a15].map V.ref) ++ [.ref a16, .ref a17, .ref a18, .ref a19])) = upd H28 m4 (.lst ([a0, a1, a2, a3, a4, a5, a6, a7, a8, a9, a10, a11, a12, a13, a14, a15, a16, a17, a18, a19].map V.ref)) := rfl
    generalize upd H28 m4 (.lst ([a0, a1, a2, a3, a4, a5, a6, a7, a8, a9, a10, a11, a12, a13, a14, a15, a16, a17, a18, a19].map V.ref)) = H29 at u4 k29 ac20 el eg4 ⊢
    rw [eg4]
    refine ⟨_, rfl, ?_⟩
    refine ⟨_, rfl, fun a20 H30 n20 s20 x20 => ?_⟩
    have ac21 := ac20.snoc s20 ⟨fun _ => x20, fun z => absurd z (by decide)⟩
    have k30 := k29.trans s20
    have el := s20 _ _ el
    refine ⟨_, rfl, fun a21 H31 n21 s21 x21 => ?_⟩
    have ac22 := ac21.snoc s21 ⟨fun _ => x21, fun z => absurd z (by decide)⟩
    have k31 := k30.trans s21
    have el := s21 _ _ el
    refine ⟨_, rfl, fun a22 H32 n22 s22 x22 => ?_⟩
    have ac23 := ac22.snoc s22 ⟨fun _ => x22, fun z => absurd z (by decide)⟩
    have k32 := k31.trans s22
    have el := s22 _ _ el
    refine ⟨_, rfl, fun a23 H33 n23 s23 x23 => ?_⟩
    have ac24 := ac23.snoc s23 ⟨fun _ => x23, fun z => absurd z (by decide)⟩
    have k33 := k32.trans s23
    have el := s23 _ _ el
    refine ⟨by show 4 ≤ sizeLine; decide, fun l5 hl5 => ?_⟩
    have t5 := same_new (o := .lst [.ref a20, .ref a21, .ref a22, .ref a23]) hl5
    have el5' : (upd H33 l5 (.lst [.ref a20, .ref a21, .ref a22, .ref a23])) l5 = some (.lst [.ref a20, .ref a21, .ref a22, .ref a23]) := upd_same
    have el := t5 _ _ el
    have k34 := k33.trans t5
    replace ac24 : AccX c v (upd H33 l5 (.lst [.ref a20, .ref a21, .ref a22, .ref a23])) 0 24 [a0, a1, a2, a3, a4, a5, a6, a7, a8, a9, a10, a11, a12, a13, a14, a15, a16, a17, a18, a19, a20, a21, a22, a23] := ac24.keep t5
    generalize upd H33 l5 (.lst [.ref a20, .ref a21, .ref a22, .ref a23]) = H34 at t5 el5' k34 ac24 el ⊢
    refine ⟨_, _, _, _, rfl, rfl, el, el5', by show 20 + 4 ≤ sizeLine; decide, fun m5 hm5 => ?_⟩
    have u5 := same_new (o := .lst ([a0, a1, a2, a3, a4, a5, a6, a7, a8, a9, a10, a11, a12, a13, a14, a15, a16, a17, a18, a19, a20, a21, a22, a23].map V.ref)) hm5
    have el : (upd H34 m5 (.lst ([a0, a1, a2, a3, a4, a5, a6, a7, a8, a9, a10, a11, a12, a13, a14, a15, a16, a17, a18, a19, a20, a21, a22, a23].map V.ref))) m5 = some (.lst ([a0, a1, a2, a3, a4, a5, a6, a7, a8, a9, a10, a11, a12, a13, a14, a15, a16, a17, a18, a19, a20, a21, a22, a23].map V.ref)) := upd_same
    have k35 := k34.trans u5
    replace ac24 := ac24.keep u5
    have eg5 : upd H34 m5 (.lst (([a0, a1, a2, a3, a4, a5, a6, a7, a8, a9, a10, a11, a12, a13, a14, a15, a16, a17, a18, a19].map V.ref) ++ [.ref a20, .ref a21, .ref a22, .ref a23])) = upd H34 m5 (.lst ([a0, a1, a2, a3, a4, a5, a6, a7, a8, a9, a10, a11, a12, a13, a14, a15, a16, a17, a18, a19, a20, a21, a22, a23].map V.ref)) := rfl
    generalize upd H34 m5 (.lst ([a0, a1, a2, a3, a4, a5, a6, a7, a8, a9, a10, a11, a12, a13, a14, a15, a16, a17, a18, a19, a20, a21, a22, a23].map V.ref)) = H35 at u5 k35 ac24 el eg5 ⊢
    rw [eg5]
    exact ⟨_, rfl, q _ _ _ k35 el ac24⟩
theorem okNamed {f : Addr} {fd : FuncData} (F : Fun K "_law_named" "_law_named" sNamed f fd) (R : Ers K mg c CR) : FnOk P w K mg base CX0 3 f fd ["_law_t"] (spMadeX c) := by
  refine F.ok scNamed (fun vs H Q E h => ?_) (fun cdv A outer s H vs Q E hr h => ?_)
  · obtain ⟨v, rfl, _⟩ := h
    rfl
  · obtain ⟨v, rfl, q⟩ := h
    refine ⟨_, (pss_cons (ps_set (i := 1) scNamed.nd rfl (Or.inl rfl) (pe_lst (pa_cons (pe_exk R.e0 (hr.mono (by decide)) (pv 0)) (pa_cons (pe_exk R.e1 (hr.mono (by decide)) (pv 0)) (pa_cons (pe_exk R.e2 (hr.mono (by decide)) (pv 0)) pa_nil)))))
    (pss_cons (ps_set (i := 1) scNamed.nd rfl (Or.inl rfl) (pe_op op_cat (pv 1) (pe_lst (pa_cons (pe_exk R.e3 (hr.mono (by decide)) (pv 0)) (pa_cons (pe_exk R.e4 (hr.mono (by decide)) (pv 0)) (pa_cons (pe_exk R.e5 (hr.mono (by decide)) (pv 0)) pa_nil))))))
    (pss_cons (ps_set (i := 1) scNamed.nd rfl (Or.inl rfl) (pe_op op_cat (pv 1) (pe_lst (pa_cons (pe_exk R.e6 (hr.mono (by decide)) (pv 0)) (pa_cons (pe_exk R.e7 (hr.mono (by decide)) (pv 0)) (pa_cons (pe_exk R.e8 (hr.mono (by decide)) (pv 0)) pa_nil))))))
    (pss_cons (ps_set (i := 1) scNamed.nd rfl (Or.inl rfl) (pe_op op_cat (pv 1) (pe_lst (pa_cons (pe_exk R.e9 (hr.mono (by decide)) (pv 0)) (pa_cons (pe_exk R.e10 (hr.mono (by decide)) (pv 0)) (pa_cons (pe_exk R.e11 (hr.mono (by decide)) (pv 0)) pa_nil))))))
    (pss_cons (ps_set (i := 1) scNamed.nd rfl (Or.inl rfl) (pe_op op_cat (pv 1) (pe_lst (pa_cons (pe_exk R.e12 (hr.mono (by decide)) (pv 0)) (pa_cons (pe_exk R.e13 (hr.mono (by decide)) (pv 0)) (pa_cons (pe_exk R.e14 (hr.mono (by decide)) (pv 0)) pa_nil))))))
    (pss_cons (ps_set (i := 1) scNamed.nd rfl (Or.inl rfl) (pe_op op_cat (pv 1) (pe_lst (pa_cons (pe_exk R.e15 (hr.mono (by decide)) (pv 0)) (pa_cons (pe_exk R.e16 (hr.mono (by decide)) (pv 0)) (pa_cons (pe_exk R.e17 (hr.mono (by decide)) (pv 0)) pa_nil))))))
    (pss_cons (ps_set (i := 1) scNamed.nd rfl (Or.inl rfl) (pe_op op_cat (pv 1) (pe_lst (pa_cons (pe_exk R.e18 (hr.mono (by decide)) (pv 0)) (pa_cons (pe_exk R.e19 (hr.mono (by decide)) (pv 0)) (pa_cons (pe_exk R.e20 (hr.mono (by decide)) (pv 0)) pa_nil))))))
    (pss_cons (ps_set (i := 1) scNamed.nd rfl (Or.inl rfl) (pe_op op_cat (pv 1) (pe_lst (pa_cons (pe_exk R.e21 (hr.mono (by decide)) (pv 0)) (pa_cons (pe_exk R.e22 (hr.mono (by decide)) (pv 0)) (pa_cons (pe_exk R.e23 (hr.mono (by decide)) (pv 0)) pa_nil))))))
    (pss_one (ps_ret (pv 1))))))))))), ?_⟩
    have ac0 : AccX c v H 0 0 [] := .nil
    have k0 : Same H H := Same.refl _
    refine ⟨_, rfl, fun a0 H1 n0 s0 x0 => ?_⟩
    have ac1 := ac0.snoc s0 ⟨fun _ => x0, fun z => absurd z (by decide)⟩
    have k1 := k0.trans s0
    refine ⟨_, rfl, fun a1 H2 n1 s1 x1 => ?_⟩
    have ac2 := ac1.snoc s1 ⟨fun _ => x1, fun z => absurd z (by decide)⟩
    have k2 := k1.trans s1
    refine ⟨_, rfl, fun a2 H3 n2 s2 x2 => ?_⟩
    have ac3 := ac2.snoc s2 ⟨fun _ => x2, fun z => absurd z (by decide)⟩
    have k3 := k2.trans s2
    refine ⟨by show 3 ≤ sizeLine; decide, fun l0 hl0 => ?_⟩
    have t0 := same_new (o := .lst [.ref a0, .ref a1, .ref a2]) hl0
    have el0' : (upd H3 l0 (.lst [.ref a0, .ref a1, .ref a2])) l0 = some (.lst [.ref a0, .ref a1, .ref a2]) := upd_same
    have k4 := k3.trans t0
    replace ac3 : AccX c v (upd H3 l0 (.lst [.ref a0, .ref a1, .ref a2])) 0 3 [a0, a1, a2] := ac3.keep t0
    generalize upd H3 l0 (.lst [.ref a0, .ref a1, .ref a2]) = H4 at t0 el0' k4 ac3 ⊢
    have el : H4 l0 = some (.lst ([a0, a1, a2].map V.ref)) := el0'
    refine ⟨_, rfl, ?_⟩
    refine ⟨_, rfl, fun a3 H5 n3 s3 x3 => ?_⟩
    have ac4 := ac3.snoc s3 ⟨fun _ => x3, fun z => absurd z (by decide)⟩
    have k5 := k4.trans s3
    have el := s3 _ _ el
    refine ⟨_, rfl, fun a4 H6 n4 s4 x4 => ?_⟩
    have ac5 := ac4.snoc s4 ⟨fun _ => x4, fun z => absurd z (by decide)⟩
    have k6 := k5.trans s4
    have el := s4 _ _ el
    refine ⟨_, rfl, fun a5 H7 n5 s5 x5 => ?_⟩
    have ac6 := ac5.snoc s5 ⟨fun _ => x5, fun z => absurd z (by decide)⟩
    have k7 := k6.trans s5
    have el := s5 _ _ el
    refine ⟨by show 3 ≤ sizeLine; decide, fun l1 hl1 => ?_⟩
    have t1 := same_new (o := .lst [.ref a3, .ref a4, .ref a5]) hl1
    have el1' : (upd H7 l1 (.lst [.ref a3, .ref a4, .ref a5])) l1 = some (.lst [.ref a3, .ref a4, .ref a5]) := upd_same
    have el := t1 _ _ el
    have k8 := k7.trans t1
    replace ac6 : AccX c v (upd H7 l1 (.lst [.ref a3, .ref a4, .ref a5])) 0 6 [a0, a1, a2, a3, a4, a5] := ac6.keep t1
    generalize upd H7 l1 (.lst [.ref a3, .ref a4, .ref a5]) = H8 at t1 el1' k8 ac6 el ⊢
    refine ⟨_, _, _, _, rfl, rfl, el, el1', by show 3 + 3 ≤ sizeLine; decide, fun m1 hm1 => ?_⟩
    have u1 := same_new (o := .lst ([a0, a1, a2, a3, a4, a5].map V.ref)) hm1
    have el : (upd H8 m1 (.lst ([a0, a1, a2, a3, a4, a5].map V.ref))) m1 = some (.lst ([a0, a1, a2, a3, a4, a5].map V.ref)) := upd_same
    have k9 := k8.trans u1
    replace ac6 := ac6.keep u1
    have eg1 : upd H8 m1 (.lst (([a0, a1, a2].map V.ref) ++ [.ref a3, .ref a4, .ref a5])) = upd H8 m1 (.lst ([a0, a1, a2, a3, a4, a5].map V.ref)) := rfl
    generalize upd H8 m1 (.lst ([a0, a1, a2, a3, a4, a5].map V.ref)) = H9 at u1 k9 ac6 el eg1 ⊢
    rw [eg1]
    refine ⟨_, rfl, ?_⟩
    refine ⟨_, rfl, fun a6 H10 n6 s6 x6 => ?_⟩
    have ac7 := ac6.snoc s6 ⟨fun _ => x6, fun z => absurd z (by decide)⟩
    have k10 := k9.trans s6
    have el := s6 _ _ el
    refine ⟨_, rfl, fun a7 H11 n7 s7 x7 => ?_⟩
    have ac8 := ac7.snoc s7 ⟨fun _ => x7, fun z => absurd z (by decide)⟩
    have k11 := k10.trans s7
    have el := s7 _ _ el
    refine ⟨_, rfl, fun a8 H12 n8 s8 x8 => ?_⟩
    have ac9 := ac8.snoc s8 ⟨fun _ => x8, fun z => absurd z (by decide)⟩
    have k12 := k11.trans s8
    have el := s8 _ _ el
    refine ⟨by show 3 ≤ sizeLine; decide, fun l2 hl2 => ?_⟩
    have t2 := same_new (o := .lst [.ref a6, .ref a7, .ref a8]) hl2
    have el2' : (upd H12 l2 (.lst [.ref a6, .ref a7, .ref a8])) l2 = some (.lst [.ref a6, .ref a7, .ref a8]) := upd_same
    have el := t2 _ _ el
    have k13 := k12.trans t2
    replace ac9 : AccX c v (upd H12 l2 (.lst [.ref a6, .ref a7, .ref a8])) 0 9 [a0, a1, a2, a3, a4, a5, a6, a7, a8] := ac9.keep t2
    generalize upd H12 l2 (.lst [.ref a6, .ref a7, .ref a8]) = H13 at t2 el2' k13 ac9 el ⊢
    refine ⟨_, _, _, _, rfl, rfl, el, el2', by show 6 + 3 ≤ sizeLine; decide, fun m2 hm2 => ?_⟩
    have u2 := same_new (o := .lst ([a0, a1, a2, a3, a4, a5, a6, a7, a8].map V.ref)) hm2
    have el : (upd H13 m2 (.lst ([a0, a1, a2, a3, a4, a5, a6, a7, a8].map V.ref))) m2 = some (.lst ([a0, a1, a2, a3, a4, a5, a6, a7, a8].map V.ref)) := upd_same
    have k14 := k13.trans u2
    replace ac9 := ac9.keep u2
    have eg2 : upd H13 m2 (.lst (([a0, a1, a2, a3, a4, a5].map V.ref) ++ [.ref a6, .ref a7, .ref a8])) = upd H13 m2 (.lst ([a0, a1, a2, a3, a4, a5, a6, a7, a8].map V.ref)) := rfl
    generalize upd H13 m2 (.lst ([a0, a1, a2, a3, a4, a5, a6, a7, a8].map V.ref)) = H14 at u2 k14 ac9 el eg2 ⊢
    rw [eg2]
    refine ⟨_, rfl, ?_⟩
    refine ⟨_, rfl, fun a9 H15 n9 s9 x9 => ?_⟩
    have ac10 := ac9.snoc s9 ⟨fun _ => x9, fun z => absurd z (by decide)⟩
    have k15 := k14.trans s9
    have el := s9 _ _ el
    refine ⟨_, rfl, fun a10 H16 n10 s10 x10 => ?_⟩
    have ac11 := ac10.snoc s10 ⟨fun _ => x10, fun z => absurd z (by decide)⟩
    have k16 := k15.trans s10
    have el := s10 _ _ el
    refine ⟨_, rfl, fun a11 H17 n11 s11 x11 => ?_⟩
    have ac12 := ac11.snoc s11 ⟨fun _ => x11, fun z => absurd z (by decide)⟩
    have k17 := k16.trans s11
    have el := s11 _ _ el
    refine ⟨by show 3 ≤ sizeLine; decide, fun l3 hl3 => ?_⟩
    have t3 := same_new (o := .lst [.ref a9, .ref a10, .ref a11]) hl3
    have el3' : (upd H17 l3 (.lst [.ref a9, .ref a10, .ref a11])) l3 = some (.lst [.ref a9, .ref a10, .ref a11]) := upd_same
    have el := t3 _ _ el
    have k18 := k17.trans t3
    replace ac12 : AccX c v (upd H17 l3 (.lst [.ref a9, .ref a10, .ref a11])) 0 12 [a0, a1, a2, a3, a4, a5, a6, a7, a8, a9, a10, a11] := ac12.keep t3
    generalize upd H17 l3 (.lst [.ref a9, .ref a10, .ref a11]) = H18 at t3 el3' k18 ac12 el ⊢
    refine ⟨_, _, _, _, rfl, rfl, el, el3', by show 9 + 3 ≤ sizeLine; decide, fun m3 hm3 => ?_⟩
    have u3 := same_new (o := .lst ([a0, a1, a2, a3, a4, a5, a6, a7, a8, a9, a10, a11].map V.ref)) hm3
    have el : (upd H18 m3 (.lst ([a0, a1, a2, a3, a4, a5, a6, a7, a8, a9, a10, a11].map V.ref))) m3 = some (.lst ([a0, a1, a2, a3, a4, a5, a6, a7, a8, a9, a10, a11].map V.ref)) := upd_same
    have k19 := k18.trans u3
    replace ac12 := ac12.keep u3
    have eg3 : upd H18 m3 (.lst (([a0, a1, a2, a3, a4, a5, a6, a7, a8].map V.ref) ++ [.ref a9, .ref a10, .ref a11])) = upd H18 m3 (.lst ([a0, a1, a2, a3, a4, a5, a6, a7, a8, a9, a10, a11].map V.ref)) := rfl
    generalize upd H18 m3 (.lst ([a0, a1, a2, a3, a4, a5, a6, a7, a8, a9, a10, a11].map V.ref)) = H19 at u3 k19 ac12 el eg3 ⊢
    rw [eg3]
    refine ⟨_, rfl, ?_⟩
    refine ⟨_, rfl, fun a12 H20 n12 s12 x12 => ?_⟩
    have ac13 := ac12.snoc s12 ⟨fun _ => x12, fun z => absurd z (by decide)⟩
    have k20 := k19.trans s12
    have el := s12 _ _ el
    refine ⟨_, rfl, fun a13 H21 n13 s13 x13 => ?_⟩
    have ac14 := ac13.snoc s13 ⟨fun _ => x13, fun z => absurd z (by decide)⟩
    have k21 := k20.trans s13
    have el := s13 _ _ el
    refine ⟨_, rfl, fun a14 H22 n14 s14 x14 => ?_⟩
    have ac15 := ac14.snoc s14 ⟨fun _ => x14, fun z => absurd z (by decide)⟩
    have k22 := k21.trans s14
    have el := s14 _ _ el
    refine ⟨by show 3 ≤ sizeLine; decide, fun l4 hl4 => ?_⟩
    have t4 := same_new (o := .lst [.ref a12, .ref a13, .ref a14]) hl4
    have el4' : (upd H22 l4 (.lst [.ref a12, .ref a13, .ref a14])) l4 = some (.lst [.ref a12, .ref a13, .ref a14]) := upd_same
    have el := t4 _ _ el
    have k23 := k22.trans t4
    replace ac15 : AccX c v (upd H22 l4 (.lst [.ref a12, .ref a13, .ref a14])) 0 15 [a0, a1, a2, a3, a4, a5, a6, a7, a8, a9, a10, a11, a12, a13, a14] := ac15.keep t4
    generalize upd H22 l4 (.lst [.ref a12, .ref a13, .ref a14]) = H23 at t4 el4' k23 ac15 el ⊢
    refine ⟨_, _, _, _, rfl, rfl, el, el4', by show 12 + 3 ≤ sizeLine; decide, fun m4 hm4 => ?_⟩
    have u4 := same_new (o := .lst ([a0, a1, a2, a3, a4, a5, a6, a7, a8, a9, a10, a11, a12, a13, a14].map V.ref)) hm4
    have el : (upd H23 m4 (.lst ([a0, a1, a2, a3, a4, a5, a6, a7, a8, a9, a10, a11, a12, a13, a14].map V.ref))) m4 = some (.lst ([a0, a1, a2, a3, a4, a5, a6, a7, a8, a9, a10, a11, a12, a13, a14].map V.ref)) := upd_same
    have k24 := k23.trans u4
    replace ac15 := ac15.keep u4
    have eg4 : upd H23 m4 (.lst (([a0, a1, a2, a3, a4, a5, a6, a7, a8, a9, a10, a11].map V.ref) ++ [.ref a12, .ref a13, .ref a14])) = upd H23 m4 (.lst ([a0, a1, a2, a3, a4, a5, a6, a7, a8, a9, a10, a11, a12, a13, a14].map V.ref)) := rfl
    generalize upd H23 m4 (.lst ([a0, a1, a2, a3, a4, a5, a6, a7, a8, a9, a10, a11, a12, a13, a14].map V.ref)) = H24 at u4 k24 ac15 el eg4 ⊢
    rw [eg4]
    refine ⟨_, rfl, ?_⟩
    refine ⟨_, rfl, fun a15 H25 n15 s15 x15 => ?_⟩
    have ac16 := ac15.snoc s15 ⟨fun _ => x15, fun z => absurd z (by decide)⟩
    have k25 := k24.trans s15
    have el := s15 _ _ el
    refine ⟨_, rfl, fun a16 H26 n16 s16 x16 => ?_⟩
    have ac17 := ac16.snoc s16 ⟨fun _ => x16, fun z => absurd z (by decide)⟩
    have k26 := k25.trans s16
    have el := s16 _ _ el
    refine ⟨_, rfl, fun a17 H27 n17 s17 x17 => ?_⟩
    have ac18 := ac17.snoc s17 ⟨fun _ => x17, fun z => absurd z (by decide)⟩
    have k27 := k26.trans s17
    have el := s17 _ _ el
    refine ⟨by show 3 ≤ sizeLine; decide, fun l5 hl5 => ?_⟩
    have t5 := same_new (o := .lst [.ref a15, .ref a16, .ref a17]) hl5
    have el5' : (upd H27 l5 (.lst [.ref a15, .ref a16, .ref a17])) l5 = some (.lst [.ref a15, .ref a16, .ref a17]) := upd_same
    have el := t5 _ _ el
    have k28 := k27.trans t5
    replace ac18 : AccX c v (upd H27 l5 (.lst [.ref a15, .ref a16, .ref a17])) 0 18 [a0, a1, a2, a3, a4, a5, a6, a7, a8, a9, a10, a11, a12, a13, a14, a15, a16, a17] := ac18.keep t5
    generalize upd H27 l5 (.lst [.ref a15, .ref a16, .ref a17]) = H28 at t5 el5' k28 ac18 el ⊢
    refine ⟨_, _, _, _, rfl, rfl, el, el5', by show 15 + 3 ≤ sizeLine; decide, fun m5 hm5 => ?_⟩
    have u5 := same_new (o := .lst ([a0, a1, a2, a3, a4, a5, a6, a7, a8, a9, a10, a11, a12, a13, a14, a15, a16, a17].map V.ref)) hm5
    have el : (upd H28 m5 (.lst ([a0, a1, a2, a3, a4, a5, a6, a7, a8, a9, a10, a11, a12, a13, a14, a15, a16, a17].map V.ref))) m5 = some (.lst ([a0, a1, a2, a3, a4, a5, a6, a7, a8, a9, a10, a11, a12, a13, a14, a15, a16, a17].map V.ref)) := upd_same
    have k29 := k28.trans u5
    replace ac18 := ac18.keep u5
    have eg5 : upd H28 m5 (.lst (([a0, a1, a2, a3, a4, a5, a6, a7, a8, a9, a10, a11, a12, a13, a14].map V.ref) ++ [.ref a15, .ref a16, .ref a17])) = upd H28 m5 (.lst ([a0, a1, a2, a3, a4, a5, a6, a7, a8, a9, a10, a11, a12, a13, a14, a15, a16, a17].map V.ref)) := rfl
    generalize upd H28 m5 (.lst ([a0, a1, a2, a3, a4, a5, a6, a7, a8, a9, a10, a11, a12, a13, a14, a15, a16, a17].map V.ref)) = H29 at u5 k29 ac18 el eg5 ⊢
    rw [eg5]
    refine ⟨_, rfl, ?_⟩
    refine ⟨_, rfl, fun a18 H30 n18 s18 x18 => ?_⟩
    have ac19 := ac18.snoc s18 ⟨fun _ => x18, fun z => absurd z (by decide)⟩
    have k30 := k29.trans s18
    have el := s18 _ _ el
    refine ⟨_, rfl, fun a19 H31 n19 s19 x19 => ?_⟩
    have ac20 := ac19.snoc s19 ⟨fun _ => x19, fun z => absurd z (by decide)⟩
    have k31 := k30.trans s19
    have el := s19 _ _ el
    refine ⟨_, rfl, fun a20 H32 n20 s20 x20 => ?_⟩
    have ac21 := ac20.snoc s20 ⟨fun _ => x20, fun z => absurd z (by decide)⟩
    have k32 := k31.trans s20
    have el := s20 _ _ el
    refine ⟨by show 3 ≤ sizeLine; decide, fun l6 hl6 => ?_⟩
    have t6 := same_new (o := .lst [.ref a18, .ref a19, .ref a20]) hl6
    have el6' : (upd H32 l6 (.lst [.ref a18, .ref a19, .ref a20])) l6 = some (.lst [.ref a18, .ref a19, .ref a20]) := upd_same
    have el := t6 _ _ el
    have k33 := k32.trans t6
    replace ac21 : AccX c v (upd H32 l6 (.lst [.ref a18, .ref a19, .ref a20])) 0 21 [a0, a1, a2, a3, a4, a5, a6, a7, a8, a9, a10, a11, a12, a13, a14, a15, a16, a17, a18, a19, a20] := ac21.keep t6
    generalize upd H32 l6 (.lst [.ref a18, .ref a19, .ref a20]) = H33 at t6 el6' k33 ac21 el ⊢
    refine ⟨_, _, _, _, rfl, rfl, el, el6', by show 18 + 3 ≤ sizeLine; decide, fun m6 hm6 => ?_⟩
    have u6 := same_new (o := .lst ([a0, a1, a2, a3, a4, a5, a6, a7, a8, a9, a10, a11, a12, a13, a14, a15, a16, a17, a18, a19, a20].map V.ref)) hm6
    have el : (upd H33 m6 (.lst ([a0, a1, a2, a3, a4, a5, a6, a7, a8, a9, a10, a11, a12, a13, a14, a15, a16, a17, a18, a19, a20].map V.ref))) m6 = some (.lst ([a0, a1, a2, a3, a4, a5, a6, a7, a8, a9, a10, a11, a12, a13, a14, a15, a16, a17, a18, a19, a20].map V.ref)) := upd_same
    have k34 := k33.trans u6
    replace ac21 := ac21.keep u6
    have eg6 : upd H33 m6 (.lst (([a0, a1, a2, a3, a4, a5, a6, a7, a8, a9, a10, a11, a12, a13, a14, a15, a16, a17].map V.ref) ++ [.ref a18, .ref a19, .ref a20])) = upd H33 m6 (.lst ([a0, a1, a2, a3, a4, a5, a6, a7, a8, a9, a10, a11, a12, a13, a14, a15, a16, a17, a18, a19, a20].map V.ref)) := rfl
    generalize upd H33 m6 (.lst ([a0, a1, a2, a3, a4, a5, a6, a7, a8, a9, a10, a11, a12, a13, a14, a15, a16, a17, a18, a19, a20].map V.ref)) = H34 at u6 k34 ac21 el eg6 ⊢
    rw [eg6]
    refine ⟨_, rfl, ?_⟩
    refine ⟨_, rfl, fun a21 H35 n21 s21 x21 => ?_⟩
    have ac22 := ac21.snoc s21 ⟨fun _ => x21, fun z => absurd z (by decide)⟩
    have k35 := k34.trans s21
    have el := s21 _ _ el
    refine ⟨_, rfl, fun a22 H36 n22 s22 x22 => ?_⟩
    have ac23 := ac22.snoc s22 ⟨fun _ => x22, fun z => absurd z (by decide)⟩
    have k36 := k35.trans s22
    have el := s22 _ _ el
    refine ⟨_, rfl, fun a23 H37 n23 s23 x23 => ?_⟩
    have ac24 := ac23.snoc s23 ⟨fun _ => x23, fun z => absurd z (by decide)⟩
    have k37 := k36.trans s23
    have el := s23 _ _ el
    refine ⟨by show 3 ≤ sizeLine; decide, fun l7 hl7 => ?_⟩
    have t7 := same_new (o := .lst [.ref a21, .ref a22, .ref a23]) hl7
    have el7' : (upd H37 l7 (.lst [.ref a21, .ref a22, .ref a23])) l7 = some (.lst [.ref a21, .ref a22, .ref a23]) := upd_same
    have el := t7 _ _ el
    have k38 := k37.trans t7
    replace ac24 : AccX c v (upd H37 l7 (.lst [.ref a21, .ref a22, .ref a23])) 0 24 [a0, a1, a2, a3, a4, a5, a6, a7, a8, a9, a10, a11, a12, a13, a14, a15, a16, a17, a18, a19, a20, a21, a22, a23] := ac24.keep t7
    generalize upd H37 l7 (.lst [.ref a21, .ref a22, .ref a23]) = H38 at t7 el7' k38 ac24 el ⊢
    refine ⟨_, _, _, _, rfl, rfl, el, el7', by show 21 + 3 ≤ sizeLine; decide, fun m7 hm7 => ?_⟩
    have u7 := same_new (o := .lst ([a0, a1, a2, a3, a4, a5, a6, a7, a8, a9, a10, a11, a12, a13, a14, a15, a16, a17, a18, a19, a20, a21, a22, a23].map V.ref)) hm7
    have el : (upd H38 m7 (.lst ([a0, a1, a2, a3, a4, a5, a6, a7, a8, a9, a10, a11, a12, a13, a14, a15, a16, a17, a18, a19, a20, a21, a22, a23].map V.ref))) m7 = some (.lst ([a0, a1, a2, a3, a4, a5, a6, a7, a8, a9, a10, a11, a12, a13, a14, a15, a16, a17, a18, a19, a20, a21, a22, a23].map V.ref)) := upd_same
    have k39 := k38.trans u7
    replace ac24 := ac24.keep u7
    have eg7 : upd H38 m7 (.lst (([a0, a1, a2, a3, a4, a5, a6, a7, a8, a9, a10, a11, a12, a13, a14, a15, a16, a17, a18, a19, a20].map V.ref) ++ [.ref a21, .ref a22, .ref a23])) = upd H38 m7 (.lst ([a0, a1, a2, a3, a4, a5, a6, a7, a8, a9, a10, a11, a12, a13, a14, a15, a16, a17, a18, a19, a20, a21, a22, a23].map V.ref)) := rfl
    generalize upd H38 m7 (.lst ([a0, a1, a2, a3, a4, a5, a6, a7, a8, a9, a10, a11, a12, a13, a14, a15, a16, a17, a18, a19, a20, a21, a22, a23].map V.ref)) = H39 at u7 k39 ac24 el eg7 ⊢
    rw [eg7]
    exact ⟨_, rfl, q _ _ _ k39 el ac24⟩
theorem okBare {f : Addr} {fd : FuncData} (F : Fun K "_law_bare" "_law_bare" sBare f fd) (R : Ers K mg c CR) : FnOk P w K mg base CX0 3 f fd [] (spBareX c) := by
  refine F.ok scBare (fun vs H Q E h => ?_) (fun cdv A outer s H vs Q E hr h => ?_)
  · obtain ⟨rfl, _⟩ := h
    rfl
  · obtain ⟨rfl, q⟩ := h
    refine ⟨_, (pss_cons (ps_set (i := 0) scBare.nd rfl (Or.inl rfl) (pe_lst (pa_cons (pe_ex0 R.e24 (hr.mono (by decide))) (pa_cons (pe_ex0 R.e25 (hr.mono (by decide))) (pa_cons (pe_ex0 R.e26 (hr.mono (by decide))) (pa_cons (pe_ex0 R.e27 (hr.mono (by decide))) pa_nil))))))
    (pss_cons (ps_set (i := 0) scBare.nd rfl (Or.inl rfl) (pe_op op_cat (pv 0) (pe_lst (pa_cons (pe_ex0 R.e28 (hr.mono (by decide))) (pa_cons (pe_ex0 R.e29 (hr.mono (by decide))) pa_nil)))))
    (pss_one (ps_ret (pv 0))))), ?_⟩
    have z : ∀ v : V, AccX c v H 24 0 [] := fun v => .nil
    have k0 : Same H H := Same.refl _
    refine fun a24 H1 n24 s24 x24 => ?_
    have z1 := fun v => (z v).snoc (a := a24) s24 ⟨fun y => absurd y (by decide), fun _ => x24⟩
    have k1 := k0.trans s24
    refine fun a25 H2 n25 s25 x25 => ?_
    have z2 := fun v => (z1 v).snoc (a := a25) s25 ⟨fun y => absurd y (by decide), fun _ => x25⟩
    have k2 := k1.trans s25
    refine fun a26 H3 n26 s26 x26 => ?_
    have z3 := fun v => (z2 v).snoc (a := a26) s26 ⟨fun y => absurd y (by decide), fun _ => x26⟩
    have k3 := k2.trans s26
    refine fun a27 H4 n27 s27 x27 => ?_
    have z4 := fun v => (z3 v).snoc (a := a27) s27 ⟨fun y => absurd y (by decide), fun _ => x27⟩
    have k4 := k3.trans s27
    refine ⟨by show 4 ≤ sizeLine; decide, fun l0 hl0 => ?_⟩
    have t0 := same_new (o := .lst [.ref a24, .ref a25, .ref a26, .ref a27]) hl0
    have el0' : (upd H4 l0 (.lst [.ref a24, .ref a25, .ref a26, .ref a27])) l0 = some (.lst [.ref a24, .ref a25, .ref a26, .ref a27]) := upd_same
    have k5 := k4.trans t0
    replace z4 : ∀ v, AccX c v (upd H4 l0 (.lst [.ref a24, .ref a25, .ref a26, .ref a27])) 24 4 [a24, a25, a26, a27] := fun v => (z4 v).keep t0
    generalize upd H4 l0 (.lst [.ref a24, .ref a25, .ref a26, .ref a27]) = H5 at t0 el0' k5 z4 ⊢
    have el : H5 l0 = some (.lst ([a24, a25, a26, a27].map V.ref)) := el0'
    refine ⟨_, rfl, ?_⟩
    refine fun a28 H6 n28 s28 x28 => ?_
    have z5 := fun v => (z4 v).snoc (a := a28) s28 ⟨fun y => absurd y (by decide), fun _ => x28⟩
    have k6 := k5.trans s28
    have el := s28 _ _ el
    refine fun a29 H7 n29 s29 x29 => ?_
    have z6 := fun v => (z5 v).snoc (a := a29) s29 ⟨fun y => absurd y (by decide), fun _ => x29⟩
    have k7 := k6.trans s29
    have el := s29 _ _ el
    refine ⟨by show 2 ≤ sizeLine; decide, fun l1 hl1 => ?_⟩
    have t1 := same_new (o := .lst [.ref a28, .ref a29]) hl1
    have el1' : (upd H7 l1 (.lst [.ref a28, .ref a29])) l1 = some (.lst [.ref a28, .ref a29]) := upd_same
    have el := t1 _ _ el
    have k8 := k7.trans t1
    replace z6 : ∀ v, AccX c v (upd H7 l1 (.lst [.ref a28, .ref a29])) 24 6 [a24, a25, a26, a27, a28, a29] := fun v => (z6 v).keep t1
    generalize upd H7 l1 (.lst [.ref a28, .ref a29]) = H8 at t1 el1' k8 z6 el ⊢
    refine ⟨_, _, _, _, rfl, rfl, el, el1', by show 4 + 2 ≤ sizeLine; decide, fun m1 hm1 => ?_⟩
    have u1 := same_new (o := .lst ([a24, a25, a26, a27, a28, a29].map V.ref)) hm1
    have el : (upd H8 m1 (.lst ([a24, a25, a26, a27, a28, a29].map V.ref))) m1 = some (.lst ([a24, a25, a26, a27, a28, a29].map V.ref)) := upd_same
    have k9 := k8.trans u1
    replace z6 := fun v => (z6 v).keep u1
    have eg1 : upd H8 m1 (.lst (([a24, a25, a26, a27].map V.ref) ++ [.ref a28, .ref a29])) = upd H8 m1 (.lst ([a24, a25, a26, a27, a28, a29].map V.ref)) := rfl
    generalize upd H8 m1 (.lst ([a24, a25, a26, a27, a28, a29].map V.ref)) = H9 at u1 k9 z6 el eg1 ⊢
    rw [eg1]
    exact ⟨_, rfl, q _ _ _ k9 el z6⟩
end
end K1
set_option Elab.async false
set_option linter.all false
set_option maxRecDepth 100000
set_option maxHeartbeats 8000000
set_option pp.maxSteps 300
namespace Rw
open PySem PySem.Spec PyProof.Rows L2
def spFields (c : Nat → Addr) : Sp := fun vs H Q _ => ∃ (l : Addr) (L : List Addr) (v : V) (n : Nat), vs = [.ref l] ∧ H l = some (.lst (L.map V.ref)) ∧ AccX c v H 0 n L ∧ 24 ≤ n ∧ ∀ t H', H t = none → Same H H' → H' t = some (.lst (List.replicate 24 v)) → Q (.ref t) H'
def spKinds (c : Nat → Addr) : Sp := fun vs H Q _ => ∃ (a : Addr) (i : Nat) (v : V), vs = [.ref a] ∧ i < 30 ∧ ExOf c v H i a ∧ ∀ t H', Same H H' → H' t = some (.lst ((List.range 30).map fun j => V.bl (decide (i = j)))) → Q (.ref t) H'
end Rw
namespace K1
open PySem PySem.Spec PyProof.Rows L2 Rw
abbrev sKinds : Stmt := top 58
abbrev NKinds : List Str := ["_law_e", "_law_kinds_here"]
theorem scKinds : FnScope NKinds ["_law_e"] (defScope sKinds) := ⟨rfl, rfl, rfl, by decide +kernel, rfl, by decide +kernel, by decide +kernel⟩
abbrev sFields : Stmt := top 59
abbrev NFields : List Str := ["_law_made_here", "_law_told"]
theorem scFields : FnScope NFields ["_law_made_here"] (defScope sFields) := ⟨rfl, rfl, rfl, by decide +kernel, rfl, by decide +kernel, by decide +kernel⟩
section
variable {P : Program} {w : World} {K : PySem.W.Frag} {mg : Str → Option Value} {base : Heap} {c : Nat → Addr} {CR : Addr}
theorem okKinds {f : Addr} {fd : FuncData} (F : Fun K "_law_kinds" "_law_kinds" sKinds f fd) (R : Ers K mg c CR) (zi : mg "isinstance" = none) : FnOk P w K mg base CX0 1 f fd ["_law_e"] (spKinds c) := by
  refine F.ok scKinds (fun vs H Q E h => ?_) (fun cdv A outer s H vs Q E hr h => ?_)
  · obtain ⟨a, i, v, rfl, _⟩ := h
    rfl
  · obtain ⟨a, i, v, rfl, hi, x, q⟩ := h
    have ic := R.ic i hi
    refine ⟨_, (pss_cons (ps_set (i := 1) scKinds.nd rfl (Or.inl rfl) (pe_lst (pa_cons (pe_callB call_isX (by rfl) zi (by decide +kernel) (pa_cons (pv 0) (pa_cons (pe_glob (v := .ref (c 0)) rfl R.e0.e.g rfl) pa_nil))) (pa_cons (pe_callB call_isX (by rfl) zi (by decide +kernel) (pa_cons (pv 0) (pa_cons (pe_glob (v := .ref (c 1)) rfl R.e1.e.g rfl) pa_nil))) (pa_cons (pe_callB call_isX (by rfl) zi (by decide +kernel) (pa_cons (pv 0) (pa_cons (pe_glob (v := .ref (c 2)) rfl R.e2.e.g rfl) pa_nil))) pa_nil)))))
    (pss_cons (ps_set (i := 1) scKinds.nd rfl (Or.inl rfl) (pe_op op_cat (pv 1) (pe_lst (pa_cons (pe_callB call_isX (by rfl) zi (by decide +kernel) (pa_cons (pv 0) (pa_cons (pe_glob (v := .ref (c 3)) rfl R.e3.e.g rfl) pa_nil))) (pa_cons (pe_callB call_isX (by rfl) zi (by decide +kernel) (pa_cons (pv 0) (pa_cons (pe_glob (v := .ref (c 4)) rfl R.e4.e.g rfl) pa_nil))) (pa_cons (pe_callB call_isX (by rfl) zi (by decide +kernel) (pa_cons (pv 0) (pa_cons (pe_glob (v := .ref (c 5)) rfl R.e5.e.g rfl) pa_nil))) pa_nil))))))
    (pss_cons (ps_set (i := 1) scKinds.nd rfl (Or.inl rfl) (pe_op op_cat (pv 1) (pe_lst (pa_cons (pe_callB call_isX (by rfl) zi (by decide +kernel) (pa_cons (pv 0) (pa_cons (pe_glob (v := .ref (c 6)) rfl R.e6.e.g rfl) pa_nil))) (pa_cons (pe_callB call_isX (by rfl) zi (by decide +kernel) (pa_cons (pv 0) (pa_cons (pe_glob (v := .ref (c 7)) rfl R.e7.e.g rfl) pa_nil))) (pa_cons (pe_callB call_isX (by rfl) zi (by decide +kernel) (pa_cons (pv 0) (pa_cons (pe_glob (v := .ref (c 8)) rfl R.e8.e.g rfl) pa_nil))) pa_nil))))))
    (pss_cons (ps_set (i := 1) scKinds.nd rfl (Or.inl rfl) (pe_op op_cat (pv 1) (pe_lst (pa_cons (pe_callB call_isX (by rfl) zi (by decide +kernel) (pa_cons (pv 0) (pa_cons (pe_glob (v := .ref (c 9)) rfl R.e9.e.g rfl) pa_nil))) (pa_cons (pe_callB call_isX (by rfl) zi (by decide +kernel) (pa_cons (pv 0) (pa_cons (pe_glob (v := .ref (c 10)) rfl R.e10.e.g rfl) pa_nil))) (pa_cons (pe_callB call_isX (by rfl) zi (by decide +kernel) (pa_cons (pv 0) (pa_cons (pe_glob (v := .ref (c 11)) rfl R.e11.e.g rfl) pa_nil))) pa_nil))))))
    (pss_cons (ps_set (i := 1) scKinds.nd rfl (Or.inl rfl) (pe_op op_cat (pv 1) (pe_lst (pa_cons (pe_callB call_isX (by rfl) zi (by decide +kernel) (pa_cons (pv 0) (pa_cons (pe_glob (v := .ref (c 12)) rfl R.e12.e.g rfl) pa_nil))) (pa_cons (pe_callB call_isX (by rfl) zi (by decide +kernel) (pa_cons (pv 0) (pa_cons (pe_glob (v := .ref (c 13)) rfl R.e13.e.g rfl) pa_nil))) (pa_cons (pe_callB call_isX (by rfl) zi (by decide +kernel) (pa_cons (pv 0) (pa_cons (pe_glob (v := .ref (c 14)) rfl R.e14.e.g rfl) pa_nil))) pa_nil))))))
    (pss_cons (ps_set (i := 1) scKinds.nd rfl (Or.inl rfl) (pe_op op_cat (pv 1) (pe_lst (pa_cons (pe_callB call_isX (by rfl) zi (by decide +kernel) (pa_cons (pv 0) (pa_cons (pe_glob (v := .ref (c 15)) rfl R.e15.e.g rfl) pa_nil))) (pa_cons (pe_callB call_isX (by rfl) zi (by decide +kernel) (pa_cons (pv 0) (pa_cons (pe_glob (v := .ref (c 16)) rfl R.e16.e.g rfl) pa_nil))) (pa_cons (pe_callB call_isX (by rfl) zi (by decide +kernel) (pa_cons (pv 0) (pa_cons (pe_glob (v := .ref (c 17)) rfl R.e17.e.g rfl) pa_nil))) pa_nil))))))
    (pss_cons (ps_set (i := 1) scKinds.nd rfl (Or.inl rfl) (pe_op op_cat (pv 1) (pe_lst (pa_cons (pe_callB call_isX (by rfl) zi (by decide +kernel) (pa_cons (pv 0) (pa_cons (pe_glob (v := .ref (c 18)) rfl R.e18.e.g rfl) pa_nil))) (pa_cons (pe_callB call_isX (by rfl) zi (by decide +kernel) (pa_cons (pv 0) (pa_cons (pe_glob (v := .ref (c 19)) rfl R.e19.e.g rfl) pa_nil))) (pa_cons (pe_callB call_isX (by rfl) zi (by decide +kernel) (pa_cons (pv 0) (pa_cons (pe_glob (v := .ref (c 20)) rfl R.e20.e.g rfl) pa_nil))) pa_nil))))))
    (pss_cons (ps_set (i := 1) scKinds.nd rfl (Or.inl rfl) (pe_op op_cat (pv 1) (pe_lst (pa_cons (pe_callB call_isX (by rfl) zi (by decide +kernel) (pa_cons (pv 0) (pa_cons (pe_glob (v := .ref (c 21)) rfl R.e21.e.g rfl) pa_nil))) (pa_cons (pe_callB call_isX (by rfl) zi (by decide +kernel) (pa_cons (pv 0) (pa_cons (pe_glob (v := .ref (c 22)) rfl R.e22.e.g rfl) pa_nil))) (pa_cons (pe_callB call_isX (by rfl) zi (by decide +kernel) (pa_cons (pv 0) (pa_cons (pe_glob (v := .ref (c 23)) rfl R.e23.e.g rfl) pa_nil))) pa_nil))))))
    (pss_cons (ps_set (i := 1) scKinds.nd rfl (Or.inl rfl) (pe_op op_cat (pv 1) (pe_lst (pa_cons (pe_callB call_isX (by rfl) zi (by decide +kernel) (pa_cons (pv 0) (pa_cons (pe_glob (v := .ref (c 24)) rfl R.e24.g rfl) pa_nil))) (pa_cons (pe_callB call_isX (by rfl) zi (by decide +kernel) (pa_cons (pv 0) (pa_cons (pe_glob (v := .ref (c 25)) rfl R.e25.g rfl) pa_nil))) (pa_cons (pe_callB call_isX (by rfl) zi (by decide +kernel) (pa_cons (pv 0) (pa_cons (pe_glob (v := .ref (c 26)) rfl R.e26.g rfl) pa_nil))) pa_nil))))))
    (pss_cons (ps_set (i := 1) scKinds.nd rfl (Or.inl rfl) (pe_op op_cat (pv 1) (pe_lst (pa_cons (pe_callB call_isX (by rfl) zi (by decide +kernel) (pa_cons (pv 0) (pa_cons (pe_glob (v := .ref (c 27)) rfl R.e27.g rfl) pa_nil))) (pa_cons (pe_callB call_isX (by rfl) zi (by decide +kernel) (pa_cons (pv 0) (pa_cons (pe_glob (v := .ref (c 28)) rfl R.e28.g rfl) pa_nil))) (pa_cons (pe_callB call_isX (by rfl) zi (by decide +kernel) (pa_cons (pv 0) (pa_cons (pe_glob (v := .ref (c 29)) rfl R.e29.g rfl) pa_nil))) pa_nil))))))
    (pss_one (ps_ret (pv 1))))))))))))), ?_⟩
    have k0 : Same H H := Same.refl _
    refine ⟨_, rfl, a, c i, .ref (c 0), .ref (c 0), _, rfl, ic, (x.keep k0).held, fun _ z => z, R.kit i 0 hi (by decide), ?_⟩
    refine ⟨_, rfl, a, c i, .ref (c 1), .ref (c 1), _, rfl, ic, (x.keep k0).held, fun _ z => z, R.kit i 1 hi (by decide), ?_⟩
    refine ⟨_, rfl, a, c i, .ref (c 2), .ref (c 2), _, rfl, ic, (x.keep k0).held, fun _ z => z, R.kit i 2 hi (by decide), ?_⟩
    refine ⟨by show 3 ≤ sizeLine; decide, fun l0 hl0 => ?_⟩
    have t0 := same_new (o := .lst [.bl (decide (i = 0)), .bl (decide (i = 1)), .bl (decide (i = 2))]) hl0
    have e0 : (upd H l0 (.lst [.bl (decide (i = 0)), .bl (decide (i = 1)), .bl (decide (i = 2))])) l0 = some (.lst [.bl (decide (i = 0)), .bl (decide (i = 1)), .bl (decide (i = 2))]) := upd_same
    have k1 := k0.trans t0
    generalize upd H l0 (.lst [.bl (decide (i = 0)), .bl (decide (i = 1)), .bl (decide (i = 2))]) = H1 at t0 e0 k1 ⊢
    have el := e0
    refine ⟨_, rfl, ?_⟩
    refine ⟨_, rfl, a, c i, .ref (c 3), .ref (c 3), _, rfl, ic, (x.keep k1).held, fun _ z => z, R.kit i 3 hi (by decide), ?_⟩
    refine ⟨_, rfl, a, c i, .ref (c 4), .ref (c 4), _, rfl, ic, (x.keep k1).held, fun _ z => z, R.kit i 4 hi (by decide), ?_⟩
    refine ⟨_, rfl, a, c i, .ref (c 5), .ref (c 5), _, rfl, ic, (x.keep k1).held, fun _ z => z, R.kit i 5 hi (by decide), ?_⟩
    refine ⟨by show 3 ≤ sizeLine; decide, fun l1 hl1 => ?_⟩
    have t1 := same_new (o := .lst [.bl (decide (i = 3)), .bl (decide (i = 4)), .bl (decide (i = 5))]) hl1
    have e1 : (upd H1 l1 (.lst [.bl (decide (i = 3)), .bl (decide (i = 4)), .bl (decide (i = 5))])) l1 = some (.lst [.bl (decide (i = 3)), .bl (decide (i = 4)), .bl (decide (i = 5))]) := upd_same
    have k2 := k1.trans t1
    have el := t1 _ _ el
    generalize upd H1 l1 (.lst [.bl (decide (i = 3)), .bl (decide (i = 4)), .bl (decide (i = 5))]) = H2 at t1 e1 k2 el ⊢
    refine ⟨_, _, _, _, rfl, rfl, el, e1, by show 3 + 3 ≤ sizeLine; decide, fun m1 hm1 => ?_⟩
    have eg1 : upd H2 m1 (.lst ([.bl (decide (i = 0)), .bl (decide (i = 1)), .bl (decide (i = 2))] ++ [.bl (decide (i = 3)), .bl (decide (i = 4)), .bl (decide (i = 5))])) = upd H2 m1 (.lst [.bl (decide (i = 0)), .bl (decide (i = 1)), .bl (decide (i = 2)), .bl (decide (i = 3)), .bl (decide (i = 4)), .bl (decide (i = 5))]) := rfl
    rw [eg1]
    have u1 := same_new (o := .lst [.bl (decide (i = 0)), .bl (decide (i = 1)), .bl (decide (i = 2)), .bl (decide (i = 3)), .bl (decide (i = 4)), .bl (decide (i = 5))]) hm1
    have el : (upd H2 m1 (.lst [.bl (decide (i = 0)), .bl (decide (i = 1)), .bl (decide (i = 2)), .bl (decide (i = 3)), .bl (decide (i = 4)), .bl (decide (i = 5))])) m1 = some (.lst [.bl (decide (i = 0)), .bl (decide (i = 1)), .bl (decide (i = 2)), .bl (decide (i = 3)), .bl (decide (i = 4)), .bl (decide (i = 5))]) := upd_same
    have k3 := k2.trans u1
    have fresh := k2.free hm1
    clear eg1
    generalize upd H2 m1 (.lst [.bl (decide (i = 0)), .bl (decide (i = 1)), .bl (decide (i = 2)), .bl (decide (i = 3)), .bl (decide (i = 4)), .bl (decide (i = 5))]) = H3 at u1 el k3 ⊢
    refine ⟨_, rfl, ?_⟩
    refine ⟨_, rfl, a, c i, .ref (c 6), .ref (c 6), _, rfl, ic, (x.keep k3).held, fun _ z => z, R.kit i 6 hi (by decide), ?_⟩
    refine ⟨_, rfl, a, c i, .ref (c 7), .ref (c 7), _, rfl, ic, (x.keep k3).held, fun _ z => z, R.kit i 7 hi (by decide), ?_⟩
    refine ⟨_, rfl, a, c i, .ref (c 8), .ref (c 8), _, rfl, ic, (x.keep k3).held, fun _ z => z, R.kit i 8 hi (by decide), ?_⟩
    refine ⟨by show 3 ≤ sizeLine; decide, fun l2 hl2 => ?_⟩
    have t2 := same_new (o := .lst [.bl (decide (i = 6)), .bl (decide (i = 7)), .bl (decide (i = 8))]) hl2
    have e2 : (upd H3 l2 (.lst [.bl (decide (i = 6)), .bl (decide (i = 7)), .bl (decide (i = 8))])) l2 = some (.lst [.bl (decide (i = 6)), .bl (decide (i = 7)), .bl (decide (i = 8))]) := upd_same
    have k4 := k3.trans t2
    have el := t2 _ _ el
    generalize upd H3 l2 (.lst [.bl (decide (i = 6)), .bl (decide (i = 7)), .bl (decide (i = 8))]) = H4 at t2 e2 k4 el ⊢
    refine ⟨_, _, _, _, rfl, rfl, el, e2, by show 6 + 3 ≤ sizeLine; decide, fun m2 hm2 => ?_⟩
    have eg2 : upd H4 m2 (.lst ([.bl (decide (i = 0)), .bl (decide (i = 1)), .bl (decide (i = 2)), .bl (decide (i = 3)), .bl (decide (i = 4)), .bl (decide (i = 5))] ++ [.bl (decide (i = 6)), .bl (decide (i = 7)), .bl (decide (i = 8))])) = upd H4 m2 (.lst [.bl (decide (i = 0)), .bl (decide (i = 1)), .bl (decide (i = 2)), .bl (decide (i = 3)), .bl (decide (i = 4)), .bl (decide (i = 5)), .bl (decide (i = 6)), .bl (decide (i = 7)), .bl (decide (i = 8))]) := rfl
    rw [eg2]
    have u2 := same_new (o := .lst [.bl (decide (i = 0)), .bl (decide (i = 1)), .bl (decide (i = 2)), .bl (decide (i = 3)), .bl (decide (i = 4)), .bl (decide (i = 5)), .bl (decide (i = 6)), .bl (decide (i = 7)), .bl (decide (i = 8))]) hm2
    have el : (upd H4 m2 (.lst [.bl (decide (i = 0)), .bl (decide (i = 1)), .bl (decide (i = 2)), .bl (decide (i = 3)), .bl (decide (i = 4)), .bl (decide (i = 5)), .bl (decide (i = 6)), .bl (decide (i = 7)), .bl (decide (i = 8))])) m2 = some (.lst [.bl (decide (i = 0)), .bl (decide (i = 1)), .bl (decide (i = 2)), .bl (decide (i = 3)), .bl (decide (i = 4)), .bl (decide (i = 5)), .bl (decide (i = 6)), .bl (decide (i = 7)), .bl (decide (i = 8))]) := upd_same
    have k5 := k4.trans u2
    have fresh := k4.free hm2
    clear eg2
    generalize upd H4 m2 (.lst [.bl (decide (i = 0)), .bl (decide (i = 1)), .bl (decide (i = 2)), .bl (decide (i = 3)), .bl (decide (i = 4)), .bl (decide (i = 5)), .bl (decide (i = 6)), .bl (decide (i = 7)), .bl (decide (i = 8))]) = H5 at u2 el k5 ⊢
    refine ⟨_, rfl, ?_⟩
    refine ⟨_, rfl, a, c i, .ref (c 9), .ref (c 9), _, rfl, ic, (x.keep k5).held, fun _ z => z, R.kit i 9 hi (by decide), ?_⟩
    refine ⟨_, rfl, a, c i, .ref (c 10), .ref (c 10), _, rfl, ic, (x.keep k5).held, fun _ z => z, R.kit i 10 hi (by decide), ?_⟩
    refine ⟨_, rfl, a, c i, .ref (c 11), .ref (c 11), _, rfl, ic, (x.keep k5).held, fun _ z => z, R.kit i 11 hi (by decide), ?_⟩
    refine ⟨by show 3 ≤ sizeLine; decide, fun l3 hl3 => ?_⟩
    have t3 := same_new (o := .lst [.bl (decide (i = 9)), .bl (decide (i = 10)), .bl (decide (i = 11))]) hl3
    have e3 : (upd H5 l3 (.lst [.bl (decide (i = 9)), .bl (decide (i = 10)), .bl (decide (i = 11))])) l3 = some (.lst [.bl (decide (i = 9)), .bl (decide (i = 10)), .bl (decide (i = 11))]) := upd_same
    have k6 := k5.trans t3
    have el := t3 _ _ el
    generalize upd H5 l3 (.lst [.bl (decide (i = 9)), .bl (decide (i = 10)), .bl (decide (i = 11))]) = H6 at t3 e3 k6 el ⊢
    refine ⟨_, _, _, _, rfl, rfl, el, e3, by show 9 + 3 ≤ sizeLine; decide, fun m3 hm3 => ?_⟩
    have eg3 : upd H6 m3 (.lst ([.bl (decide (i = 0)), .bl (decide (i = 1)), .bl (decide (i = 2)), .bl (decide (i = 3)), .bl (decide (i = 4)), .bl (decide (i = 5)), .bl (decide (i = 6)), .bl (decide (i = 7)), .bl (decide (i = 8))] ++ [.bl (decide (i = 9)), .bl (decide (i = 10)), .bl (decide (i = 11))])) = upd H6 m3 (.lst [.bl (decide (i = 0)), .bl (decide (i = 1)), .bl (decide (i = 2)), .bl (decide (i = 3)), .bl (decide (i = 4)), .bl (decide (i = 5)), .bl (decide (i = 6)), .bl (decide (i = 7)), .bl (decide (i = 8)), .bl (decide (i = 9)), .bl (decide (i = 10)), .bl (decide (i = 11))]) := rfl
    rw [eg3]
    have u3 := same_new (o := .lst [.bl (decide (i = 0)), .bl (decide (i = 1)), .bl (decide (i = 2)), .bl (decide (i = 3)), .bl (decide (i = 4)), .bl (decide (i = 5)), .bl (decide (i = 6)), .bl (decide (i = 7)), .bl (decide (i = 8)), .bl (decide (i = 9)), .bl (decide (i = 10)), .bl (decide (i = 11))]) hm3
    have el : (upd H6 m3 (.lst [.bl (decide (i = 0)), .bl (decide (i = 1)), .bl (decide (i = 2)), .bl (decide (i = 3)), .bl (decide (i = 4)), .bl (decide (i = 5)), .bl (decide (i = 6)), .bl (decide (i = 7)), .bl (decide (i = 8)), .bl (decide (i = 9)), .bl (decide (i = 10)), .bl (decide (i = 11))])) m3 = some (.lst [.bl (decide (i = 0)), .bl (decide (i = 1)), .bl (decide (i = 2)), .bl (decide (i = 3)), .bl (decide (i = 4)), .bl (decide (i = 5)), .bl (decide (i = 6)), .bl (decide (i = 7)), .bl (decide (i = 8)), .bl (decide (i = 9)), .bl (decide (i = 10)), .bl (decide (i = 11))]) := upd_same
    have k7 := k6.trans u3
    have fresh := k6.free hm3
    clear eg3
    generalize upd H6 m3 (.lst [.bl (decide (i = 0)), .bl (decide (i = 1)), .bl (decide (i = 2)), .bl (decide (i = 3)), .bl (decide (i = 4)), .bl (decide (i = 5)), .bl (decide (i = 6)), .bl (decide (i = 7)), .bl (decide (i = 8)), .bl (decide (i = 9)), .bl (decide (i = 10)), .bl (decide (i = 11))]) = H7 at u3 el k7 ⊢
    refine ⟨_, rfl, ?_⟩
    refine ⟨_, rfl, a, c i, .ref (c 12), .ref (c 12), _, rfl, ic, (x.keep k7).held, fun _ z => z, R.kit i 12 hi (by decide), ?_⟩
    refine ⟨_, rfl, a, c i, .ref (c 13), .ref (c 13), _, rfl, ic, (x.keep k7).held, fun _ z => z, R.kit i 13 hi (by decide), ?_⟩
    refine ⟨_, rfl, a, c i, .ref (c 14), .ref (c 14), _, rfl, ic, (x.keep k7).held, fun _ z => z, R.kit i 14 hi (by decide), ?_⟩
    refine ⟨by show 3 ≤ sizeLine; decide, fun l4 hl4 => ?_⟩
    have t4 := same_new (o := .lst [.bl (decide (i = 12)), .bl (decide (i = 13)), .bl (decide (i = 14))]) hl4
    have e4 : (upd H7 l4 (.lst [.bl (decide (i = 12)), .bl (decide (i = 13)), .bl (decide (i = 14))])) l4 = some (.lst [.bl (decide (i = 12)), .bl (decide (i = 13)), .bl (decide (i = 14))]) := upd_same
    have k8 := k7.trans t4
    have el := t4 _ _ el
    generalize upd H7 l4 (.lst [.bl (decide (i = 12)), .bl (decide (i = 13)), .bl (decide (i = 14))]) = H8 at t4 e4 k8 el ⊢
    refine ⟨_, _, _, _, rfl, rfl, el, e4, by show 12 + 3 ≤ sizeLine; decide, fun m4 hm4 => ?_⟩
    have eg4 : upd H8 m4 (.lst ([.bl (decide (i = 0)), .bl (decide (i = 1)), .bl (decide (i = 2)), .bl (decide (i = 3)), .bl (decide (i = 4)), .bl (decide (i = 5)), .bl (decide (i = 6)), .bl (decide (i = 7)), .bl (decide (i = 8)), .bl (decide (i = 9)), .bl (decide (i = 10)), .bl (decide (i = 11))] ++ [.bl (decide (i = 12)), .bl (decide (i = 13)), .bl (decide (i = 14))])) = upd H8 m4 (.lst [.bl (decide (i = 0)), .bl (decide (i = 1)), .bl (decide (i = 2)), .bl (decide (i = 3)), .bl (decide (i = 4)), .bl (decide (i = 5)), .bl (decide (i = 6)), .bl (decide (i = 7)), .bl (decide (i = 8)), .bl (decide (i = 9)), .bl (decide (i = 10)), .bl (decide (i = 11)), .bl (decide (i = 12)), .bl (decide (i = 13)), .bl (decide (i = 14))]) := rfl
    rw [eg4]
    have u4 := same_new (o := .lst [.bl (decide (i = 0)), .bl (decide (i = 1)), .bl (decide (i = 2)), .bl (decide (i = 3)), .bl (decide (i = 4)), .bl (decide (i = 5)), .bl (decide (i = 6)), .bl (decide (i = 7)), .bl (decide (i = 8)), .bl (decide (i = 9)), .bl (decide (i = 10)), .bl (decide (i = 11)), .bl (decide (i = 12)), .bl (decide (i = 13)), .bl (decide (i = 14))]) hm4
    have el : (upd H8 m4 (.lst [.bl (decide (i = 0)), .bl (decide (i = 1)), .bl (decide (i = 2)), .bl (decide (i = 3)), .bl (decide (i = 4)), .bl (decide (i = 5)), .bl (decide (i = 6)), .bl (decide (i = 7)), .bl (decide (i = 8)), .bl (decide (i = 9)), .bl (decide (i = 10)), .bl (decide (i = 11)), .bl (decide (i = 12)), .bl (decide (i = 13)), .bl (decide (i = 14))])) m4 = some (.lst [.bl (decide (i = 0)), .bl (decide (i = 1)), .bl (decide (i = 2)), .bl (decide (i = 3)), .bl (decide (i = 4)), .bl (decide (i = 5)), .bl (decide (i = 6)), .bl (decide (i = 7)), .bl (decide (i = 8)), .bl (decide (i = 9)), .bl (decide (i = 10)), .bl (decide (i = 11)), .bl (decide (i = 12)), .bl (decide (i = 13)), .bl (decide (i = 14))]) := upd_same
    have k9 := k8.trans u4
    have fresh := k8.free hm4
    clear eg4
    generalize upd H8 m4 (.lst [.bl (decide (i = 0)), .bl (decide (i = 1)), .bl (decide (i = 2)), .bl (decide (i = 3)), .bl (decide (i = 4)), .bl (decide (i = 5)), .bl (decide (i = 6)), .bl (decide (i = 7)), .bl (decide (i = 8)), .bl (decide (i = 9)), .bl (decide (i = 10)), .bl (decide (i = 11)), .bl (decide (i = 12)), .bl (decide (i = 13)), .bl (decide (i = 14))]) = H9 at u4 el k9 ⊢
    refine ⟨_, rfl, ?_⟩
    refine ⟨_, rfl, a, c i, .ref (c 15), .ref (c 15), _, rfl, ic, (x.keep k9).held, fun _ z => z, R.kit i 15 hi (by decide), ?_⟩
    refine ⟨_, rfl, a, c i, .ref (c 16), .ref (c 16), _, rfl, ic, (x.keep k9).held, fun _ z => z, R.kit i 16 hi (by decide), ?_⟩
    refine ⟨_, rfl, a, c i, .ref (c 17), .ref (c 17), _, rfl, ic, (x.keep k9).held, fun _ z => z, R.kit i 17 hi (by decide), ?_⟩
    refine ⟨by show 3 ≤ sizeLine; decide, fun l5 hl5 => ?_⟩
    have t5 := same_new (o := .lst [.bl (decide (i = 15)), .bl (decide (i = 16)), .bl (decide (i = 17))]) hl5
    have e5 : (upd H9 l5 (.lst [.bl (decide (i = 15)), .bl (decide (i = 16)), .bl (decide (i = 17))])) l5 = some (.lst [.bl (decide (i = 15)), .bl (decide (i = 16)), .bl (decide (i = 17))]) := upd_same
    have k10 := k9.trans t5
    have el := t5 _ _ el
    generalize upd H9 l5 (.lst [.bl (decide (i = 15)), .bl (decide (i = 16)), .bl (decide (i = 17))]) = H10 at t5 e5 k10 el ⊢
    refine ⟨_, _, _, _, rfl, rfl, el, e5, by show 15 + 3 ≤ sizeLine; decide, fun m5 hm5 => ?_⟩
    have eg5 : upd H10 m5 (.lst ([.bl (decide (i = 0)), .bl (decide (i = 1)), .bl (decide (i = 2)), .bl (decide (i = 3)), .bl (decide (i = 4)), .bl (decide (i = 5)), .bl (decide (i = 6)), .bl (decide (i = 7)), .bl (decide (i = 8)), .bl (decide (i = 9)), .bl (decide (i = 10)), .bl (decide (i = 11)), .bl (decide (i = 12)), .bl (decide (i = 13)), .bl (decide (i = 14))] ++ [.bl (decide (i = 15)), .bl (decide (i = 16)), .bl (decide (i = 17))])) = upd H10 m5 (.lst [.bl (decide (i = 0)), .bl (decide (i = 1)), .bl (decide (i = 2)), .bl (decide (i = 3)), .bl (decide (i = 4)), .bl (decide (i = 5)), .bl (decide (i = 6)), .bl (decide (i = 7)), .bl (decide (i = 8)), .bl (decide (i = 9)), .bl (decide (i = 10)), .bl (decide (i = 11)), .bl (decide (i = 12)), .bl (decide (i = 13)), .bl (decide (i = 14)), .bl (decide (i = 15)), .bl (decide (i = 16)), .bl (decide (i = 17))]) := rfl
    rw [eg5]
    have u5 := same_new (o := .lst [.bl (decide (i = 0)), .bl (decide (i = 1)), .bl (decide (i = 2)), .bl (decide (i = 3)), .bl (decide (i = 4)), .bl (decide (i = 5)), .bl (decide (i = 6)), .bl (decide (i = 7)), .bl (decide (i = 8)), .bl (decide (i = 9)), .bl (decide (i = 10)), .bl (decide (i = 11)), .bl (decide (i = 12)), .bl (decide (i = 13)), .bl (decide (i = 14)), .bl (decide (i = 15)), .bl (decide (i = 16)), .bl (decide (i = 17))]) hm5
    have el : (upd H10 m5 (.lst [.bl (decide (i = 0)), .bl (decide (i = 1)), .bl (decide (i = 2)), .bl (decide (i = 3)), .bl (decide (i = 4)), .bl (decide (i = 5)), .bl (decide (i = 6)), .bl (decide (i = 7)), .bl (decide (i = 8)), .bl (decide (i = 9)), .bl (decide (i = 10)), .bl (decide (i = 11)), .bl (decide (i = 12)), .bl (decide (i = 13)), .bl (decide (i = 14)), .bl (decide (i = 15)), .bl (decide (i = 16)), .bl (decide (i = 17))])) m5 = some (.lst [.bl (decide (i = 0)), .bl (decide (i = 1)), .bl (decide (i = 2)), .bl (decide (i = 3)), .bl (decide (i = 4)), .bl (decide (i = 5)), .bl (decide (i = 6)), .bl (decide (i = 7)), .bl (decide (i = 8)), .bl (decide (i = 9)), .bl (decide (i = 10)), .bl (decide (i = 11)), .bl (decide (i = 12)), .bl (decide (i = 13)), .bl (decide (i = 14)), .bl (decide (i = 15)), .bl (decide (i = 16)), .bl (decide (i = 17))]) := upd_same
    have k11 := k10.trans u5
    have fresh := k10.free hm5
    clear eg5
    generalize upd H10 m5 (.lst [.bl (decide (i = 0)), .bl (decide (i = 1)), .bl (decide (i = 2)), .bl (decide (i = 3)), .bl (decide (i = 4)), .bl (decide (i = 5)), .bl (decide (i = 6)), .bl (decide (i = 7)), .bl (decide (i = 8)), .bl (decide (i = 9)), .bl (decide (i = 10)), .bl (decide (i = 11)), .bl (decide (i = 12)), .bl (decide (i = 13)), .bl (decide (i = 14)), .bl (decide (i = 15)), .bl (decide (i = 16)), .bl (decide (i = 17))]) = H11 at u5 el k11 ⊢
    refine ⟨_, rfl, ?_⟩
    refine ⟨_, rfl, a, c i, .ref (c 18), .ref (c 18), _, rfl, ic, (x.keep k11).held, fun _ z => z, R.kit i 18 hi (by decide), ?_⟩
    refine ⟨_, rfl, a, c i, .ref (c 19), .ref (c 19), _, rfl, ic, (x.keep k11).held, fun _ z => z, R.kit i 19 hi (by decide), ?_⟩
    refine ⟨_, rfl, a, c i, .ref (c 20), .ref (c 20), _, rfl, ic, (x.keep k11).held, fun _ z => z, R.kit i 20 hi (by decide), ?_⟩
    refine ⟨by show 3 ≤ sizeLine; decide, fun l6 hl6 => ?_⟩
    have t6 := same_new (o := .lst [.bl (decide (i = 18)), .bl (decide (i = 19)), .bl (decide (i = 20))]) hl6
    have e6 : (upd H11 l6 (.lst [.bl (decide (i = 18)), .bl (decide (i = 19)), .bl (decide (i = 20))])) l6 = some (.lst [.bl (decide (i = 18)), .bl (decide (i = 19)), .bl (decide (i = 20))]) := upd_same
    have k12 := k11.trans t6
    have el := t6 _ _ el
    generalize upd H11 l6 (.lst [.bl (decide (i = 18)), .bl (decide (i = 19)), .bl (decide (i = 20))]) = H12 at t6 e6 k12 el ⊢
    refine ⟨_, _, _, _, rfl, rfl, el, e6, by show 18 + 3 ≤ sizeLine; decide, fun m6 hm6 => ?_⟩
    have eg6 : upd H12 m6 (.lst ([.bl (decide (i = 0)), .bl (decide (i = 1)), .bl (decide (i = 2)), .bl (decide (i = 3)), .bl (decide (i = 4)), .bl (decide (i = 5)), .bl (decide (i = 6)), .bl (decide (i = 7)), .bl (decide (i = 8)), .bl (decide (i = 9)), .bl (decide (i = 10)), .bl (decide (i = 11)), .bl (decide (i = 12)), .bl (decide (i = 13)), .bl (decide (i = 14)), .bl (decide (i = 15)), .bl (decide (i = 16)), .bl (decide (i = 17))] ++ [.bl (decide (i = 18)), .bl (decide (i = 19)), .bl (decide (i = 20))])) = upd H12 m6 (.lst [.bl (decide (i = 0)), .bl (decide (i = 1)), .bl (decide (i = 2)), .bl (decide (i = 3)), .bl (decide (i = 4)), .bl (decide (i = 5)), .bl (decide (i = 6)), .bl (decide (i = 7)), .bl (decide (i = 8)), .bl (decide (i = 9)), .bl (decide (i = 10)), .bl (decide (i = 11)), .bl (decide (i = 12)), .bl (decide (i = 13)), .bl (decide (i = 14)), .bl (decide (i = 15)), .bl (decide (i = 16)), .bl (decide (i = 17)), .bl (decide (i = 18)), .bl (decide (i = 19)), .bl (decide (i = 20))]) := rfl
    rw [eg6]
    have u6 := same_new (o := .lst [.bl (decide (i = 0)), .bl (decide (i = 1)), .bl (decide (i = 2)), .bl (decide (i = 3)), .bl (decide (i = 4)), .bl (decide (i = 5)), .bl (decide (i = 6)), .bl (decide (i = 7)), .bl (decide (i = 8)), .bl (decide (i = 9)), .bl (decide (i = 10)), .bl (decide (i = 11)), .bl (decide (i = 12)), .bl (decide (i = 13)), .bl (decide (i = 14)), .bl (decide (i = 15)), .bl (decide (i = 16)), .bl (decide (i = 17)), .bl (decide (i = 18)), .bl (decide (i = 19)), .bl (decide (i = 20))]) hm6
    have el : (upd H12 m6 (.lst [.bl (decide (i = 0)), .bl (decide (i = 1)), .bl (decide (i = 2)), .bl (decide (i = 3)), .bl (decide (i = 4)), .bl (decide (i = 5)), .bl (decide (i = 6)), .bl (decide (i = 7)), .bl (decide (i = 8)), .bl (decide (i = 9)), .bl (decide (i = 10)), .bl (decide (i = 11)), .bl (decide (i = 12)), .bl (decide (i = 13)), .bl (decide (i = 14)), .bl (decide (i = 15)), .bl (decide (i = 16)), .bl (decide (i = 17)), .bl (decide (i = 18)), .bl (decide (i = 19)), .bl (decide (i = 20))])) m6 = some (.lst [.bl (decide (i = 0)), .bl (decide (i = 1)), .bl (decide (i = 2)), .bl (decide (i = 3)), .bl (decide (i = 4)), .bl (decide (i = 5)), .bl (decide (i = 6)), .bl (decide (i = 7)), .bl (decide (i = 8)), .bl (decide (i = 9)), .bl (decide (i = 10)), .bl (decide (i = 11)), .bl (decide (i = 12)), .bl (decide (i = 13)), .bl (decide (i = 14)), .bl (decide (i = 15)), .bl (decide (i = 16)), .bl (decide (i = 17)), .bl (decide (i = 18)), .bl (decide (i = 19)), .bl (decide (i = 20))]) := upd_same
    have k13 := k12.trans u6
    have fresh := k12.free hm6
    clear eg6
    generalize upd H12 m6 (.lst [.bl (decide (i = 0)), .bl (decide (i = 1)), .bl (decide (i = 2)), .bl (decide (i = 3)), .bl (decide (i = 4)), .bl (decide (i = 5)), .bl (decide (i = 6)), .bl (decide (i = 7)), .bl (decide (i = 8)), .bl (decide (i = 9)), .bl (decide (i = 10)), .bl (decide (i = 11)), .bl (decide (i = 12)), .bl (decide (i = 13)), .bl (decide (i = 14)), .bl (decide (i = 15)), .bl (decide (i = 16)), .bl (decide (i = 17)), .bl (decide (i = 18)), .bl (decide (i = 19)), .bl (decide (i = 20))]) = H13 at u6 el k13 ⊢
    refine ⟨_, rfl, ?_⟩
    refine ⟨_, rfl, a, c i, .ref (c 21), .ref (c 21), _, rfl, ic, (x.keep k13).held, fun _ z => z, R.kit i 21 hi (by decide), ?_⟩
    refine ⟨_, rfl, a, c i, .ref (c 22), .ref (c 22), _, rfl, ic, (x.keep k13).held, fun _ z => z, R.kit i 22 hi (by decide), ?_⟩
    refine ⟨_, rfl, a, c i, .ref (c 23), .ref (c 23), _, rfl, ic, (x.keep k13).held, fun _ z => z, R.kit i 23 hi (by decide), ?_⟩
    refine ⟨by show 3 ≤ sizeLine; decide, fun l7 hl7 => ?_⟩
    have t7 := same_new (o := .lst [.bl (decide (i = 21)), .bl (decide (i = 22)), .bl (decide (i = 23))]) hl7
    have e7 : (upd H13 l7 (.lst [.bl (decide (i = 21)), .bl (decide (i = 22)), .bl (decide (i = 23))])) l7 = some (.lst [.bl (decide (i = 21)), .bl (decide (i = 22)), .bl (decide (i = 23))]) := upd_same
    have k14 := k13.trans t7
    have el := t7 _ _ el
    generalize upd H13 l7 (.lst [.bl (decide (i = 21)), .bl (decide (i = 22)), .bl (decide (i = 23))]) = H14 at t7 e7 k14 el ⊢
    refine ⟨_, _, _, _, rfl, rfl, el, e7, by show 21 + 3 ≤ sizeLine; decide, fun m7 hm7 => ?_⟩
    have eg7 : upd H14 m7 (.lst ([.bl (decide (i = 0)), .bl (decide (i = 1)), .bl (decide (i = 2)), .bl (decide (i = 3)), .bl (decide (i = 4)), .bl (decide (i = 5)), .bl (decide (i = 6)), .bl (decide (i = 7)), .bl (decide (i = 8)), .bl (decide (i = 9)), .bl (decide (i = 10)), .bl (decide (i = 11)), .bl (decide (i = 12)), .bl (decide (i = 13)), .bl (decide (i = 14)), .bl (decide (i = 15)), .bl (decide (i = 16)), .bl (decide (i = 17)), .bl (decide (i = 18)), .bl (decide (i = 19)), .bl (decide (i = 20))] ++ [.bl (decide (i = 21)), .bl (decide (i = 22)), .bl (decide (i = 23))])) = upd H14 m7 (.lst [.bl (decide (i = 0)), .bl (decide (i = 1)), .bl (decide (i = 2)), .bl (decide (i = 3)), .bl (decide (i = 4)), .bl (decide (i = 5)), .bl (decide (i = 6)), .bl (decide (i = 7)), .bl (decide (i = 8)), .bl (decide (i = 9)), .bl (decide (i = 10)), .bl (decide (i = 11)), .bl (decide (i = 12)), .bl (decide (i = 13)), .bl (decide (i = 14)), .bl (decide (i = 15)), .bl (decide (i = 16)), .bl (decide (i = 17)), .bl (decide (i = 18)), .bl (decide (i = 19)), .bl (decide (i = 20)), .bl (decide (i = 21)), .bl (decide (i = 22)), .bl (decide (i = 23))]) := rfl
    rw [eg7]
    have u7 := same_new (o := .lst [.bl (decide (i = 0)), .bl (decide (i = 1)), .bl (decide (i = 2)), .bl (decide (i = 3)), .bl (decide (i = 4)), .bl (decide (i = 5)), .bl (decide (i = 6)), .bl (decide (i = 7)), .bl (decide (i = 8)), .bl (decide (i = 9)), .bl (decide (i = 10)), .bl (decide (i = 11)), .bl (decide (i = 12)), .bl (decide (i = 13)), .bl (decide (i = 14)), .bl (decide (i = 15)), .bl (decide (i = 16)), .bl (decide (i = 17)), .bl (decide (i = 18)), .bl (decide (i = 19)), .bl (decide (i = 20)), .bl (decide (i = 21)), .bl (decide (i = 22)), .bl (decide (i = 23))]) hm7
    have el : (upd H14 m7 (.lst [.bl (decide (i = 0)), .bl (decide (i = 1)), .bl (decide (i = 2)), .bl (decide (i = 3)), .bl (decide (i = 4)), .bl (decide (i = 5)), .bl (decide (i = 6)), .bl (decide (i = 7)), .bl (decide (i = 8)), .bl (decide (i = 9)), .bl (decide (i = 10)), .bl (decide (i = 11)), .bl (decide (i = 12)), .bl (decide (i = 13)), .bl (decide (i = 14)), .bl (decide (i = 15)), .bl (decide (i = 16)), .bl (decide (i = 17)), .bl (decide (i = 18)), .bl (decide (i = 19)), .bl (decide (i = 20)), .bl (decide (i = 21)), .bl (decide (i = 22)), .bl (decide (i = 23))])) m7 = some (.lst [.bl (decide (i = 0)), .bl (decide (i = 1)), .bl (decide (i = 2)), .bl (decide (i = 3)), .bl (decide (i = 4)), .bl (decide (i = 5)), .bl (decide (i = 6)), .bl (decide (i = 7)), .bl (decide (i = 8)), .bl (decide (i = 9)), .bl (decide (i = 10)), .bl (decide (i = 11)), .bl (decide (i = 12)), .bl (decide (i = 13)), .bl (decide (i = 14)), .bl (decide (i = 15)), .bl (decide (i = 16)), .bl (decide (i = 17)), .bl (decide (i = 18)), .bl (decide (i = 19)), .bl (decide (i = 20)), .bl (decide (i = 21)), .bl (decide (i = 22)), .bl (decide (i = 23))]) := upd_same
    have k15 := k14.trans u7
    have fresh := k14.free hm7
    clear eg7
    generalize upd H14 m7 (.lst [.bl (decide (i = 0)), .bl (decide (i = 1)), .bl (decide (i = 2)), .bl (decide (i = 3)), .bl (decide (i = 4)), .bl (decide (i = 5)), .bl (decide (i = 6)), .bl (decide (i = 7)), .bl (decide (i = 8)), .bl (decide (i = 9)), .bl (decide (i = 10)), .bl (decide (i = 11)), .bl (decide (i = 12)), .bl (decide (i = 13)), .bl (decide (i = 14)), .bl (decide (i = 15)), .bl (decide (i = 16)), .bl (decide (i = 17)), .bl (decide (i = 18)), .bl (decide (i = 19)), .bl (decide (i = 20)), .bl (decide (i = 21)), .bl (decide (i = 22)), .bl (decide (i = 23))]) = H15 at u7 el k15 ⊢
    refine ⟨_, rfl, ?_⟩
    refine ⟨_, rfl, a, c i, .ref (c 24), .ref (c 24), _, rfl, ic, (x.keep k15).held, fun _ z => z, R.kit i 24 hi (by decide), ?_⟩
    refine ⟨_, rfl, a, c i, .ref (c 25), .ref (c 25), _, rfl, ic, (x.keep k15).held, fun _ z => z, R.kit i 25 hi (by decide), ?_⟩
    refine ⟨_, rfl, a, c i, .ref (c 26), .ref (c 26), _, rfl, ic, (x.keep k15).held, fun _ z => z, R.kit i 26 hi (by decide), ?_⟩
    refine ⟨by show 3 ≤ sizeLine; decide, fun l8 hl8 => ?_⟩
    have t8 := same_new (o := .lst [.bl (decide (i = 24)), .bl (decide (i = 25)), .bl (decide (i = 26))]) hl8
    have e8 : (upd H15 l8 (.lst [.bl (decide (i = 24)), .bl (decide (i = 25)), .bl (decide (i = 26))])) l8 = some (.lst [.bl (decide (i = 24)), .bl (decide (i = 25)), .bl (decide (i = 26))]) := upd_same
    have k16 := k15.trans t8
    have el := t8 _ _ el
    generalize upd H15 l8 (.lst [.bl (decide (i = 24)), .bl (decide (i = 25)), .bl (decide (i = 26))]) = H16 at t8 e8 k16 el ⊢
    refine ⟨_, _, _, _, rfl, rfl, el, e8, by show 24 + 3 ≤ sizeLine; decide, fun m8 hm8 => ?_⟩
    have eg8 : upd H16 m8 (.lst ([.bl (decide (i = 0)), .bl (decide (i = 1)), .bl (decide (i = 2)), .bl (decide (i = 3)), .bl (decide (i = 4)), .bl (decide (i = 5)), .bl (decide (i = 6)), .bl (decide (i = 7)), .bl (decide (i = 8)), .bl (decide (i = 9)), .bl (decide (i = 10)), .bl (decide (i = 11)), .bl (decide (i = 12)), .bl (decide (i = 13)), .bl (decide (i = 14)), .bl (decide (i = 15)), .bl (decide (i = 16)), .bl (decide (i = 17)), .bl (decide (i = 18)), .bl (decide (i = 19)), .bl (decide (i = 20)), .bl (decide (i = 21)), .bl (decide (i = 22)), .bl (decide (i = 23))] ++ [.bl (decide (i = 24)), .bl (decide (i = 25)), .bl (decide (i = 26))])) = upd H16 m8 (.lst [.bl (decide (i = 0)), .bl (decide (i = 1)), .bl (decide (i = 2)), .bl (decide (i = 3)), .bl (decide (i = 4)), .bl (decide (i = 5)), .bl (decide (i = 6)), .bl (decide (i = 7)), .bl (decide (i = 8)), .bl (decide (i = 9)), .bl (decide (i = 10)), .bl (decide (i = 11)), .bl (decide (i = 12)), .bl (decide (i = 13)), .bl (decide (i = 14)), .bl (decide (i = 15)), .bl (decide (i = 16)), .bl (decide (i = 17)), .bl (decide (i = 18)), .bl (decide (i = 19)), .bl (decide (i = 20)), .bl (decide (i = 21)), .bl (decide (i = 22)), .bl (decide (i = 23)), .bl (decide (i = 24)), .bl (decide (i = 25)), .bl (decide (i = 26))]) := rfl
    rw [eg8]
    have u8 := same_new (o := .lst [.bl (decide (i = 0)), .bl (decide (i = 1)), .bl (decide (i = 2)), .bl (decide (i = 3)), .bl (decide (i = 4)), .bl (decide (i = 5)), .bl (decide (i = 6)), .bl (decide (i = 7)), .bl (decide (i = 8)), .bl (decide (i = 9)), .bl (decide (i = 10)), .bl (decide (i = 11)), .bl (decide (i = 12)), .bl (decide (i = 13)), .bl (decide (i = 14)), .bl (decide (i = 15)), .bl (decide (i = 16)), .bl (decide (i = 17)), .bl (decide (i = 18)), .bl (decide (i = 19)), .bl (decide (i = 20)), .bl (decide (i = 21)), .bl (decide (i = 22)), .bl (decide (i = 23)), .bl (decide (i = 24)), .bl (decide (i = 25)), .bl (decide (i = 26))]) hm8
    have el : (upd H16 m8 (.lst [.bl (decide (i = 0)), .bl (decide (i = 1)), .bl (decide (i = 2)), .bl (decide (i = 3)), .bl (decide (i = 4)), .bl (decide (i = 5)), .bl (decide (i = 6)), .bl (decide (i = 7)), .bl (decide (i = 8)), .bl (decide (i = 9)), .bl (decide (i = 10)), .bl (decide (i = 11)), .bl (decide (i = 12)), .bl (decide (i = 13)), .bl (decide (i = 14)), .bl (decide (i = 15)), .bl (decide (i = 16)), .bl (decide (i = 17)), .bl (decide (i = 18)), .bl (decide (i = 19)), .bl (decide (i = 20)), .bl (decide (i = 21)), .bl (decide (i = 22)), .bl (decide (i = 23)), .bl (decide (i = 24)), .bl (decide (i = 25)), .bl (decide (i = 26))])) m8 = some (.lst [.bl (decide (i = 0)), .bl (decide (i = 1)), .bl (decide (i = 2)), .bl (decide (i = 3)), .bl (decide (i = 4)), .bl (decide (i = 5)), .bl (decide (i = 6)), .bl (decide (i = 7)), .bl (decide (i = 8)), .bl (decide (i = 9)), .bl (decide (i = 10)), .bl (decide (i = 11)), .bl (decide (i = 12)), .bl (decide (i = 13)), .bl (decide (i = 14)), .bl (decide (i = 15)), .bl (decide (i = 16)), .bl (decide (i = 17)), .bl (decide (i = 18)), .bl (decide (i = 19)), .bl (decide (i = 20)), .bl (decide (i = 21)), .bl (decide (i = 22)), .bl (decide (i = 23)), .bl (decide (i = 24)), .bl (decide (i = 25)), .bl (decide (i = 26))]) := upd_same
    have k17 := k16.trans u8
    have fresh := k16.free hm8
    clear eg8
    generalize upd H16 m8 (.lst [.bl (decide (i = 0)), .bl (decide (i = 1)), .bl (decide (i = 2)), .bl (decide (i = 3)), .bl (decide (i = 4)), .bl (decide (i = 5)), .bl (decide (i = 6)), .bl (decide (i = 7)), .bl (decide (i = 8)), .bl (decide (i = 9)), .bl (decide (i = 10)), .bl (decide (i = 11)), .bl (decide (i = 12)), .bl (decide (i = 13)), .bl (decide (i = 14)), .bl (decide (i = 15)), .bl (decide (i = 16)), .bl (decide (i = 17)), .bl (decide (i = 18)), .bl (decide (i = 19)), .bl (decide (i = 20)), .bl (decide (i = 21)), .bl (decide (i = 22)), .bl (decide (i = 23)), .bl (decide (i = 24)), .bl (decide (i = 25)), .bl (decide (i = 26))]) = H17 at u8 el k17 ⊢
    refine ⟨_, rfl, ?_⟩
    refine ⟨_, rfl, a, c i, .ref (c 27), .ref (c 27), _, rfl, ic, (x.keep k17).held, fun _ z => z, R.kit i 27 hi (by decide), ?_⟩
    refine ⟨_, rfl, a, c i, .ref (c 28), .ref (c 28), _, rfl, ic, (x.keep k17).held, fun _ z => z, R.kit i 28 hi (by decide), ?_⟩
    refine ⟨_, rfl, a, c i, .ref (c 29), .ref (c 29), _, rfl, ic, (x.keep k17).held, fun _ z => z, R.kit i 29 hi (by decide), ?_⟩
    refine ⟨by show 3 ≤ sizeLine; decide, fun l9 hl9 => ?_⟩
    have t9 := same_new (o := .lst [.bl (decide (i = 27)), .bl (decide (i = 28)), .bl (decide (i = 29))]) hl9
    have e9 : (upd H17 l9 (.lst [.bl (decide (i = 27)), .bl (decide (i = 28)), .bl (decide (i = 29))])) l9 = some (.lst [.bl (decide (i = 27)), .bl (decide (i = 28)), .bl (decide (i = 29))]) := upd_same
    have k18 := k17.trans t9
    have el := t9 _ _ el
    generalize upd H17 l9 (.lst [.bl (decide (i = 27)), .bl (decide (i = 28)), .bl (decide (i = 29))]) = H18 at t9 e9 k18 el ⊢
    refine ⟨_, _, _, _, rfl, rfl, el, e9, by show 27 + 3 ≤ sizeLine; decide, fun m9 hm9 => ?_⟩
    have eg9 : upd H18 m9 (.lst ([.bl (decide (i = 0)), .bl (decide (i = 1)), .bl (decide (i = 2)), .bl (decide (i = 3)), .bl (decide (i = 4)), .bl (decide (i = 5)), .bl (decide (i = 6)), .bl (decide (i = 7)), .bl (decide (i = 8)), .bl (decide (i = 9)), .bl (decide (i = 10)), .bl (decide (i = 11)), .bl (decide (i = 12)), .bl (decide (i = 13)), .bl (decide (i = 14)), .bl (decide (i = 15)), .bl (decide (i = 16)), .bl (decide (i = 17)), .bl (decide (i = 18)), .bl (decide (i = 19)), .bl (decide (i = 20)), .bl (decide (i = 21)), .bl (decide (i = 22)), .bl (decide (i = 23)), .bl (decide (i = 24)), .bl (decide (i = 25)), .bl (decide (i = 26))] ++ [.bl (decide (i = 27)), .bl (decide (i = 28)), .bl (decide (i = 29))])) = upd H18 m9 (.lst [.bl (decide (i = 0)), .bl (decide (i = 1)), .bl (decide (i = 2)), .bl (decide (i = 3)), .bl (decide (i = 4)), .bl (decide (i = 5)), .bl (decide (i = 6)), .bl (decide (i = 7)), .bl (decide (i = 8)), .bl (decide (i = 9)), .bl (decide (i = 10)), .bl (decide (i = 11)), .bl (decide (i = 12)), .bl (decide (i = 13)), .bl (decide (i = 14)), .bl (decide (i = 15)), .bl (decide (i = 16)), .bl (decide (i = 17)), .bl (decide (i = 18)), .bl (decide (i = 19)), .bl (decide (i = 20)), .bl (decide (i = 21)), .bl (decide (i = 22)), .bl (decide (i = 23)), .bl (decide (i = 24)), .bl (decide (i = 25)), .bl (decide (i = 26)), .bl (decide (i = 27)), .bl (decide (i = 28)), .bl (decide (i = 29))]) := rfl
    rw [eg9]
    have u9 := same_new (o := .lst [.bl (decide (i = 0)), .bl (decide (i = 1)), .bl (decide (i = 2)), .bl (decide (i = 3)), .bl (decide (i = 4)), .bl (decide (i = 5)), .bl (decide (i = 6)), .bl (decide (i = 7)), .bl (decide (i = 8)), .bl (decide (i = 9)), .bl (decide (i = 10)), .bl (decide (i = 11)), .bl (decide (i = 12)), .bl (decide (i = 13)), .bl (decide (i = 14)), .bl (decide (i = 15)), .bl (decide (i = 16)), .bl (decide (i = 17)), .bl (decide (i = 18)), .bl (decide (i = 19)), .bl (decide (i = 20)), .bl (decide (i = 21)), .bl (decide (i = 22)), .bl (decide (i = 23)), .bl (decide (i = 24)), .bl (decide (i = 25)), .bl (decide (i = 26)), .bl (decide (i = 27)), .bl (decide (i = 28)), .bl (decide (i = 29))]) hm9
    have el : (upd H18 m9 (.lst [.bl (decide (i = 0)), .bl (decide (i = 1)), .bl (decide (i = 2)), .bl (decide (i = 3)), .bl (decide (i = 4)), .bl (decide (i = 5)), .bl (decide (i = 6)), .bl (decide (i = 7)), .bl (decide (i = 8)), .bl (decide (i = 9)), .bl (decide (i = 10)), .bl (decide (i = 11)), .bl (decide (i = 12)), .bl (decide (i = 13)), .bl (decide (i = 14)), .bl (decide (i = 15)), .bl (decide (i = 16)), .bl (decide (i = 17)), .bl (decide (i = 18)), .bl (decide (i = 19)), .bl (decide (i = 20)), .bl (decide (i = 21)), .bl (decide (i = 22)), .bl (decide (i = 23)), .bl (decide (i = 24)), .bl (decide (i = 25)), .bl (decide (i = 26)), .bl (decide (i = 27)), .bl (decide (i = 28)), .bl (decide (i = 29))])) m9 = some (.lst [.bl (decide (i = 0)), .bl (decide (i = 1)), .bl (decide (i = 2)), .bl (decide (i = 3)), .bl (decide (i = 4)), .bl (decide (i = 5)), .bl (decide (i = 6)), .bl (decide (i = 7)), .bl (decide (i = 8)), .bl (decide (i = 9)), .bl (decide (i = 10)), .bl (decide (i = 11)), .bl (decide (i = 12)), .bl (decide (i = 13)), .bl (decide (i = 14)), .bl (decide (i = 15)), .bl (decide (i = 16)), .bl (decide (i = 17)), .bl (decide (i = 18)), .bl (decide (i = 19)), .bl (decide (i = 20)), .bl (decide (i = 21)), .bl (decide (i = 22)), .bl (decide (i = 23)), .bl (decide (i = 24)), .bl (decide (i = 25)), .bl (decide (i = 26)), .bl (decide (i = 27)), .bl (decide (i = 28)), .bl (decide (i = 29))]) := upd_same
    have k19 := k18.trans u9
    have fresh := k18.free hm9
    clear eg9
    generalize upd H18 m9 (.lst [.bl (decide (i = 0)), .bl (decide (i = 1)), .bl (decide (i = 2)), .bl (decide (i = 3)), .bl (decide (i = 4)), .bl (decide (i = 5)), .bl (decide (i = 6)), .bl (decide (i = 7)), .bl (decide (i = 8)), .bl (decide (i = 9)), .bl (decide (i = 10)), .bl (decide (i = 11)), .bl (decide (i = 12)), .bl (decide (i = 13)), .bl (decide (i = 14)), .bl (decide (i = 15)), .bl (decide (i = 16)), .bl (decide (i = 17)), .bl (decide (i = 18)), .bl (decide (i = 19)), .bl (decide (i = 20)), .bl (decide (i = 21)), .bl (decide (i = 22)), .bl (decide (i = 23)), .bl (decide (i = 24)), .bl (decide (i = 25)), .bl (decide (i = 26)), .bl (decide (i = 27)), .bl (decide (i = 28)), .bl (decide (i = 29))]) = H19 at u9 el k19 ⊢
    have er : ((List.range 30).map fun j => V.bl (decide (i = j))) = [.bl (decide (i = 0)), .bl (decide (i = 1)), .bl (decide (i = 2)), .bl (decide (i = 3)), .bl (decide (i = 4)), .bl (decide (i = 5)), .bl (decide (i = 6)), .bl (decide (i = 7)), .bl (decide (i = 8)), .bl (decide (i = 9)), .bl (decide (i = 10)), .bl (decide (i = 11)), .bl (decide (i = 12)), .bl (decide (i = 13)), .bl (decide (i = 14)), .bl (decide (i = 15)), .bl (decide (i = 16)), .bl (decide (i = 17)), .bl (decide (i = 18)), .bl (decide (i = 19)), .bl (decide (i = 20)), .bl (decide (i = 21)), .bl (decide (i = 22)), .bl (decide (i = 23)), .bl (decide (i = 24)), .bl (decide (i = 25)), .bl (decide (i = 26)), .bl (decide (i = 27)), .bl (decide (i = 28)), .bl (decide (i = 29))] := rfl
    exact ⟨_, rfl, q _ _ k19 (by rw [er]; exact el)⟩
theorem okFields {f : Addr} {fd : FuncData} (F : Fun K "_law_fields" "_law_fields" sFields f fd) (R : Ers K mg c CR) : FnOk P w K mg base CX0 1 f fd ["_law_made_here"] (spFields c) := by
  refine F.ok scFields (fun vs H Q E h => ?_) (fun cdv A outer s H vs Q E hr h => ?_)
  · obtain ⟨l, L, v, n, rfl, _⟩ := h
    rfl
  · obtain ⟨l, L, v, n, rfl, eL, ac, hn, q⟩ := h
    have at_ : ∀ i, i < 24 → ∃ a, (L.map V.ref)[i]? = some (.ref a) ∧ ExVal H a (c i) (flN i) v := fun i hi => by
      obtain ⟨a, e, x⟩ := ac.at_ (i := i) (by omega)
      rw [Nat.zero_add] at x
      exact ⟨a, by rw [List.getElem?_map, e] <;> rfl, x.1 hi⟩
    refine ⟨_, (pss_cons (ps_set (i := 1) scFields.nd rfl (Or.inl rfl) (pe_lst (pa_cons (pe_exf (pe_ix ix_list (pv 0) pe_int (fun _ _ => rfl))) (pa_cons (pe_exf (pe_ix ix_list (pv 0) pe_int (fun _ _ => rfl))) (pa_cons (pe_exf (pe_ix ix_list (pv 0) pe_int (fun _ _ => rfl))) (pa_cons (pe_exf (pe_ix ix_list (pv 0) pe_int (fun _ _ => rfl))) (pa_cons (pe_exf (pe_ix ix_list (pv 0) pe_int (fun _ _ => rfl))) pa_nil)))))))
    (pss_cons (ps_set (i := 1) scFields.nd rfl (Or.inl rfl) (pe_op op_cat (pv 1) (pe_lst (pa_cons (pe_exf (pe_ix ix_list (pv 0) pe_int (fun _ _ => rfl))) (pa_cons (pe_exf (pe_ix ix_list (pv 0) pe_int (fun _ _ => rfl))) (pa_cons (pe_exf (pe_ix ix_list (pv 0) pe_int (fun _ _ => rfl))) (pa_cons (pe_exf (pe_ix ix_list (pv 0) pe_int (fun _ _ => rfl))) (pa_cons (pe_exf (pe_ix ix_list (pv 0) pe_int (fun _ _ => rfl))) pa_nil))))))))
    (pss_cons (ps_set (i := 1) scFields.nd rfl (Or.inl rfl) (pe_op op_cat (pv 1) (pe_lst (pa_cons (pe_exf (pe_ix ix_list (pv 0) pe_int (fun _ _ => rfl))) (pa_cons (pe_exf (pe_ix ix_list (pv 0) pe_int (fun _ _ => rfl))) (pa_cons (pe_exf (pe_ix ix_list (pv 0) pe_int (fun _ _ => rfl))) (pa_cons (pe_exf (pe_ix ix_list (pv 0) pe_int (fun _ _ => rfl))) (pa_cons (pe_exf (pe_ix ix_list (pv 0) pe_int (fun _ _ => rfl))) pa_nil))))))))
    (pss_cons (ps_set (i := 1) scFields.nd rfl (Or.inl rfl) (pe_op op_cat (pv 1) (pe_lst (pa_cons (pe_exf (pe_ix ix_list (pv 0) pe_int (fun _ _ => rfl))) (pa_cons (pe_exf (pe_ix ix_list (pv 0) pe_int (fun _ _ => rfl))) (pa_cons (pe_exf (pe_ix ix_list (pv 0) pe_int (fun _ _ => rfl))) (pa_cons (pe_exf (pe_ix ix_list (pv 0) pe_int (fun _ _ => rfl))) (pa_cons (pe_exf (pe_ix ix_list (pv 0) pe_int (fun _ _ => rfl))) pa_nil))))))))
    (pss_cons (ps_set (i := 1) scFields.nd rfl (Or.inl rfl) (pe_op op_cat (pv 1) (pe_lst (pa_cons (pe_exf (pe_ix ix_list (pv 0) pe_int (fun _ _ => rfl))) (pa_cons (pe_exf (pe_ix ix_list (pv 0) pe_int (fun _ _ => rfl))) (pa_cons (pe_exf (pe_ix ix_list (pv 0) pe_int (fun _ _ => rfl))) (pa_cons (pe_exf (pe_ix ix_list (pv 0) pe_int (fun _ _ => rfl))) pa_nil)))))))
    (pss_one (ps_ret (pv 1)))))))), ?_⟩
    have k0 : Same H H := Same.refl _
    obtain ⟨a0, i0, x0⟩ := at_ 0 (by decide)
    refine ⟨_, rfl, l, _, _, _, rfl, rfl, SqL.of (k0 _ _ eL), atI_nat (j := 0) i0, a0, c 0, v, rfl, (R.xf (i := 0) (by decide)).1, (R.xf (i := 0) (by decide)).2, x0.keep k0, ?_⟩
    obtain ⟨a1, i1, x1⟩ := at_ 1 (by decide)
    refine ⟨_, rfl, l, _, _, _, rfl, rfl, SqL.of (k0 _ _ eL), atI_nat (j := 1) i1, a1, c 1, v, rfl, (R.xf (i := 1) (by decide)).1, (R.xf (i := 1) (by decide)).2, x1.keep k0, ?_⟩
    obtain ⟨a2, i2, x2⟩ := at_ 2 (by decide)
    refine ⟨_, rfl, l, _, _, _, rfl, rfl, SqL.of (k0 _ _ eL), atI_nat (j := 2) i2, a2, c 2, v, rfl, (R.xf (i := 2) (by decide)).1, (R.xf (i := 2) (by decide)).2, x2.keep k0, ?_⟩
    obtain ⟨a3, i3, x3⟩ := at_ 3 (by decide)
    refine ⟨_, rfl, l, _, _, _, rfl, rfl, SqL.of (k0 _ _ eL), atI_nat (j := 3) i3, a3, c 3, v, rfl, (R.xf (i := 3) (by decide)).1, (R.xf (i := 3) (by decide)).2, x3.keep k0, ?_⟩
    obtain ⟨a4, i4, x4⟩ := at_ 4 (by decide)
    refine ⟨_, rfl, l, _, _, _, rfl, rfl, SqL.of (k0 _ _ eL), atI_nat (j := 4) i4, a4, c 4, v, rfl, (R.xf (i := 4) (by decide)).1, (R.xf (i := 4) (by decide)).2, x4.keep k0, ?_⟩
    refine ⟨by show 5 ≤ sizeLine; decide, fun l0 hl0 => ?_⟩
    have t0 := same_new (o := .lst [v, v, v, v, v]) hl0
    have e0 : (upd H l0 (.lst [v, v, v, v, v])) l0 = some (.lst [v, v, v, v, v]) := upd_same
    have k1 := k0.trans t0
    generalize upd H l0 (.lst [v, v, v, v, v]) = H1 at t0 e0 k1 ⊢
    have el := e0
    refine ⟨_, rfl, ?_⟩
    obtain ⟨a5, i5, x5⟩ := at_ 5 (by decide)
    refine ⟨_, rfl, l, _, _, _, rfl, rfl, SqL.of (k1 _ _ eL), atI_nat (j := 5) i5, a5, c 5, v, rfl, (R.xf (i := 5) (by decide)).1, (R.xf (i := 5) (by decide)).2, x5.keep k1, ?_⟩
    obtain ⟨a6, i6, x6⟩ := at_ 6 (by decide)
    refine ⟨_, rfl, l, _, _, _, rfl, rfl, SqL.of (k1 _ _ eL), atI_nat (j := 6) i6, a6, c 6, v, rfl, (R.xf (i := 6) (by decide)).1, (R.xf (i := 6) (by decide)).2, x6.keep k1, ?_⟩
    obtain ⟨a7, i7, x7⟩ := at_ 7 (by decide)
    refine ⟨_, rfl, l, _, _, _, rfl, rfl, SqL.of (k1 _ _ eL), atI_nat (j := 7) i7, a7, c 7, v, rfl, (R.xf (i := 7) (by decide)).1, (R.xf (i := 7) (by decide)).2, x7.keep k1, ?_⟩
    obtain ⟨a8, i8, x8⟩ := at_ 8 (by decide)
    refine ⟨_, rfl, l, _, _, _, rfl, rfl, SqL.of (k1 _ _ eL), atI_nat (j := 8) i8, a8, c 8, v, rfl, (R.xf (i := 8) (by decide)).1, (R.xf (i := 8) (by decide)).2, x8.keep k1, ?_⟩
    obtain ⟨a9, i9, x9⟩ := at_ 9 (by decide)
    refine ⟨_, rfl, l, _, _, _, rfl, rfl, SqL.of (k1 _ _ eL), atI_nat (j := 9) i9, a9, c 9, v, rfl, (R.xf (i := 9) (by decide)).1, (R.xf (i := 9) (by decide)).2, x9.keep k1, ?_⟩
    refine ⟨by show 5 ≤ sizeLine; decide, fun l1 hl1 => ?_⟩
    have t1 := same_new (o := .lst [v, v, v, v, v]) hl1
    have e1 : (upd H1 l1 (.lst [v, v, v, v, v])) l1 = some (.lst [v, v, v, v, v]) := upd_same
    have k2 := k1.trans t1
    have el := t1 _ _ el
    generalize upd H1 l1 (.lst [v, v, v, v, v]) = H2 at t1 e1 k2 el ⊢
    refine ⟨_, _, _, _, rfl, rfl, el, e1, by show 5 + 5 ≤ sizeLine; decide, fun m1 hm1 => ?_⟩
    have eg1 : upd H2 m1 (.lst ([v, v, v, v, v] ++ [v, v, v, v, v])) = upd H2 m1 (.lst [v, v, v, v, v, v, v, v, v, v]) := rfl
    rw [eg1]
    have u1 := same_new (o := .lst [v, v, v, v, v, v, v, v, v, v]) hm1
    have el : (upd H2 m1 (.lst [v, v, v, v, v, v, v, v, v, v])) m1 = some (.lst [v, v, v, v, v, v, v, v, v, v]) := upd_same
    have k3 := k2.trans u1
    have fresh := k2.free hm1
    clear eg1
    generalize upd H2 m1 (.lst [v, v, v, v, v, v, v, v, v, v]) = H3 at u1 el k3 ⊢
    refine ⟨_, rfl, ?_⟩
    obtain ⟨a10, i10, x10⟩ := at_ 10 (by decide)
    refine ⟨_, rfl, l, _, _, _, rfl, rfl, SqL.of (k3 _ _ eL), atI_nat (j := 10) i10, a10, c 10, v, rfl, (R.xf (i := 10) (by decide)).1, (R.xf (i := 10) (by decide)).2, x10.keep k3, ?_⟩
    obtain ⟨a11, i11, x11⟩ := at_ 11 (by decide)
    refine ⟨_, rfl, l, _, _, _, rfl, rfl, SqL.of (k3 _ _ eL), atI_nat (j := 11) i11, a11, c 11, v, rfl, (R.xf (i := 11) (by decide)).1, (R.xf (i := 11) (by decide)).2, x11.keep k3, ?_⟩
    obtain ⟨a12, i12, x12⟩ := at_ 12 (by decide)
    refine ⟨_, rfl, l, _, _, _, rfl, rfl, SqL.of (k3 _ _ eL), atI_nat (j := 12) i12, a12, c 12, v, rfl, (R.xf (i := 12) (by decide)).1, (R.xf (i := 12) (by decide)).2, x12.keep k3, ?_⟩
    obtain ⟨a13, i13, x13⟩ := at_ 13 (by decide)
    refine ⟨_, rfl, l, _, _, _, rfl, rfl, SqL.of (k3 _ _ eL), atI_nat (j := 13) i13, a13, c 13, v, rfl, (R.xf (i := 13) (by decide)).1, (R.xf (i := 13) (by decide)).2, x13.keep k3, ?_⟩
    obtain ⟨a14, i14, x14⟩ := at_ 14 (by decide)
    refine ⟨_, rfl, l, _, _, _, rfl, rfl, SqL.of (k3 _ _ eL), atI_nat (j := 14) i14, a14, c 14, v, rfl, (R.xf (i := 14) (by decide)).1, (R.xf (i := 14) (by decide)).2, x14.keep k3, ?_⟩
    refine ⟨by show 5 ≤ sizeLine; decide, fun l2 hl2 => ?_⟩
    have t2 := same_new (o := .lst [v, v, v, v, v]) hl2
    have e2 : (upd H3 l2 (.lst [v, v, v, v, v])) l2 = some (.lst [v, v, v, v, v]) := upd_same
    have k4 := k3.trans t2
    have el := t2 _ _ el
    generalize upd H3 l2 (.lst [v, v, v, v, v]) = H4 at t2 e2 k4 el ⊢
    refine ⟨_, _, _, _, rfl, rfl, el, e2, by show 10 + 5 ≤ sizeLine; decide, fun m2 hm2 => ?_⟩
    have eg2 : upd H4 m2 (.lst ([v, v, v, v, v, v, v, v, v, v] ++ [v, v, v, v, v])) = upd H4 m2 (.lst [v, v, v, v, v, v, v, v, v, v, v, v, v, v, v]) := rfl
    rw [eg2]
    have u2 := same_new (o := .lst [v, v, v, v, v, v, v, v, v, v, v, v, v, v, v]) hm2
    have el : (upd H4 m2 (.lst [v, v, v, v, v, v, v, v, v, v, v, v, v, v, v])) m2 = some (.lst [v, v, v, v, v, v, v, v, v, v, v, v, v, v, v]) := upd_same
    have k5 := k4.trans u2
    have fresh := k4.free hm2
    clear eg2
    generalize upd H4 m2 (.lst [v, v, v, v, v, v, v, v, v, v, v, v, v, v, v]) = H5 at u2 el k5 ⊢
    refine ⟨_, rfl, ?_⟩
    obtain ⟨a15, i15, x15⟩ := at_ 15 (by decide)
    refine ⟨_, rfl, l, _, _, _, rfl, rfl, SqL.of (k5 _ _ eL), atI_nat (j := 15) i15, a15, c 15, v, rfl, (R.xf (i := 15) (by decide)).1, (R.xf (i := 15) (by decide)).2, x15.keep k5, ?_⟩
    obtain ⟨a16, i16, x16⟩ := at_ 16 (by decide)
    refine ⟨_, rfl, l, _, _, _, rfl, rfl, SqL.of (k5 _ _ eL), atI_nat (j := 16) i16, a16, c 16, v, rfl, (R.xf (i := 16) (by decide)).1, (R.xf (i := 16) (by decide)).2, x16.keep k5, ?_⟩
    obtain ⟨a17, i17, x17⟩ := at_ 17 (by decide)
    refine ⟨_, rfl, l, _, _, _, rfl, rfl, SqL.of (k5 _ _ eL), atI_nat (j := 17) i17, a17, c 17, v, rfl, (R.xf (i := 17) (by decide)).1, (R.xf (i := 17) (by decide)).2, x17.keep k5, ?_⟩
    obtain ⟨a18, i18, x18⟩ := at_ 18 (by decide)
    refine ⟨_, rfl, l, _, _, _, rfl, rfl, SqL.of (k5 _ _ eL), atI_nat (j := 18) i18, a18, c 18, v, rfl, (R.xf (i := 18) (by decide)).1, (R.xf (i := 18) (by decide)).2, x18.keep k5, ?_⟩
    obtain ⟨a19, i19, x19⟩ := at_ 19 (by decide)
    refine ⟨_, rfl, l, _, _, _, rfl, rfl, SqL.of (k5 _ _ eL), atI_nat (j := 19) i19, a19, c 19, v, rfl, (R.xf (i := 19) (by decide)).1, (R.xf (i := 19) (by decide)).2, x19.keep k5, ?_⟩
    refine ⟨by show 5 ≤ sizeLine; decide, fun l3 hl3 => ?_⟩
    have t3 := same_new (o := .lst [v, v, v, v, v]) hl3
    have e3 : (upd H5 l3 (.lst [v, v, v, v, v])) l3 = some (.lst [v, v, v, v, v]) := upd_same
    have k6 := k5.trans t3
    have el := t3 _ _ el
    generalize upd H5 l3 (.lst [v, v, v, v, v]) = H6 at t3 e3 k6 el ⊢
    refine ⟨_, _, _, _, rfl, rfl, el, e3, by show 15 + 5 ≤ sizeLine; decide, fun m3 hm3 => ?_⟩
    have eg3 : upd H6 m3 (.lst ([v, v, v, v, v, v, v, v, v, v, v, v, v, v, v] ++ [v, v, v, v, v])) = upd H6 m3 (.lst [v, v, v, v, v, v, v, v, v, v, v, v, v, v, v, v, v, v, v, v]) := rfl
    rw [eg3]
    have u3 := same_new (o := .lst [v, v, v, v, v, v, v, v, v, v, v, v, v, v, v, v, v, v, v, v]) hm3
    have el : (upd H6 m3 (.lst [v, v, v, v, v, v, v, v, v, v, v, v, v, v, v, v, v, v, v, v])) m3 = some (.lst [v, v, v, v, v, v, v, v, v, v, v, v, v, v, v, v, v, v, v, v]) := upd_same
    have k7 := k6.trans u3
    have fresh := k6.free hm3
    clear eg3
    generalize upd H6 m3 (.lst [v, v, v, v, v, v, v, v, v, v, v, v, v, v, v, v, v, v, v, v]) = H7 at u3 el k7 ⊢
    refine ⟨_, rfl, ?_⟩
    obtain ⟨a20, i20, x20⟩ := at_ 20 (by decide)
    refine ⟨_, rfl, l, _, _, _, rfl, rfl, SqL.of (k7 _ _ eL), atI_nat (j := 20) i20, a20, c 20, v, rfl, (R.xf (i := 20) (by decide)).1, (R.xf (i := 20) (by decide)).2, x20.keep k7, ?_⟩
    obtain ⟨a21, i21, x21⟩ := at_ 21 (by decide)
    refine ⟨_, rfl, l, _, _, _, rfl, rfl, SqL.of (k7 _ _ eL), atI_nat (j := 21) i21, a21, c 21, v, rfl, (R.xf (i := 21) (by decide)).1, (R.xf (i := 21) (by decide)).2, x21.keep k7, ?_⟩
    obtain ⟨a22, i22, x22⟩ := at_ 22 (by decide)
    refine ⟨_, rfl, l, _, _, _, rfl, rfl, SqL.of (k7 _ _ eL), atI_nat (j := 22) i22, a22, c 22, v, rfl, (R.xf (i := 22) (by decide)).1, (R.xf (i := 22) (by decide)).2, x22.keep k7, ?_⟩
    obtain ⟨a23, i23, x23⟩ := at_ 23 (by decide)
    refine ⟨_, rfl, l, _, _, _, rfl, rfl, SqL.of (k7 _ _ eL), atI_nat (j := 23) i23, a23, c 23, v, rfl, (R.xf (i := 23) (by decide)).1, (R.xf (i := 23) (by decide)).2, x23.keep k7, ?_⟩
    refine ⟨by show 4 ≤ sizeLine; decide, fun l4 hl4 => ?_⟩
    have t4 := same_new (o := .lst [v, v, v, v]) hl4
    have e4 : (upd H7 l4 (.lst [v, v, v, v])) l4 = some (.lst [v, v, v, v]) := upd_same
    have k8 := k7.trans t4
    have el := t4 _ _ el
    generalize upd H7 l4 (.lst [v, v, v, v]) = H8 at t4 e4 k8 el ⊢
    refine ⟨_, _, _, _, rfl, rfl, el, e4, by show 20 + 4 ≤ sizeLine; decide, fun m4 hm4 => ?_⟩
    have eg4 : upd H8 m4 (.lst ([v, v, v, v, v, v, v, v, v, v, v, v, v, v, v, v, v, v, v, v] ++ [v, v, v, v])) = upd H8 m4 (.lst [v, v, v, v, v, v, v, v, v, v, v, v, v, v, v, v, v, v, v, v, v, v, v, v]) := rfl
    rw [eg4]
    have u4 := same_new (o := .lst [v, v, v, v, v, v, v, v, v, v, v, v, v, v, v, v, v, v, v, v, v, v, v, v]) hm4
    have el : (upd H8 m4 (.lst [v, v, v, v, v, v, v, v, v, v, v, v, v, v, v, v, v, v, v, v, v, v, v, v])) m4 = some (.lst [v, v, v, v, v, v, v, v, v, v, v, v, v, v, v, v, v, v, v, v, v, v, v, v]) := upd_same
    have k9 := k8.trans u4
    have fresh := k8.free hm4
    clear eg4
    generalize upd H8 m4 (.lst [v, v, v, v, v, v, v, v, v, v, v, v, v, v, v, v, v, v, v, v, v, v, v, v]) = H9 at u4 el k9 ⊢
    exact ⟨_, rfl, q _ _ fresh k9 el⟩
end
end K1
set_option Elab.async false
set_option linter.all false
set_option maxRecDepth 100000
set_option maxHeartbeats 4000000
namespace Rw
open PySem PySem.Spec PyProof.Rows L2
end Rw
set_option Elab.async false
set_option linter.all false
set_option maxRecDepth 100000
set_option maxHeartbeats 4000000
namespace Rw
open PySem PySem.Spec PyProof.Rows L2
end Rw
set_option Elab.async false
set_option linter.all false
set_option maxRecDepth 100000
set_option maxHeartbeats 4000000
namespace Rw
open PySem PySem.Spec PyProof.Rows L2
end Rw
set_option Elab.async false
set_option linter.all false
set_option maxRecDepth 100000
set_option maxHeartbeats 4000000
namespace Rw
open PySem PySem.Spec PyProof.Rows L2
end Rw
set_option Elab.async false
set_option linter.all false
set_option maxRecDepth 100000
set_option maxHeartbeats 4000000
namespace Rw
open PySem PySem.Spec PyProof.Rows L2
theorem tupI_any {H : Hp} {p : Addr} {r : List Int} (h : H p = some (.tup (r.map V.int))) : Any H (.ref p) (tupI r) := .tup h (ints_anyL r)
end Rw
set_option Elab.async false
set_option linter.all false
set_option maxRecDepth 100000
set_option maxHeartbeats 4000000
namespace Rw
open PySem PySem.Spec PyProof.Rows L2
theorem Draft.at_ {x : Str} {q : Int} {most : Nat} {ss : List Nat} {ms : List (List (List Int))} (d : Draft x q most ss ms) {i : Nat} (h : i < x.length) : MatOk q (ss[stA x i]?.getD 0) (ss[goA x i]?.getD 0) (ms[i]?.getD []) := by
  have h2 : i < ms.length := by rw [d.ml]; exact h
  have e : ms[i]? = some ms[i] := List.getElem?_eq_getElem h2
  rw [e]
  exact d.mo i _ e
theorem nats_anyL {H : Hp} (ss : List Nat) : AnyL H (ss.map fun s => V.int (s : Nat)) (ss.map natD) := by
  have e : ss.map natD = (ss.map fun s => ((s : Nat) : Int)).map PyData.int := by
    rw [List.map_map]
    rfl
  have e2 : (ss.map fun s => V.int (s : Nat)) = (ss.map fun s => ((s : Nat) : Int)).map V.int := by
    rw [List.map_map]
    rfl
  rw [e, e2]
  exact ints_anyL _
/-- a row that a draft tells -/
abbrev RowOf (C : Addr) (H : Hp) (a : Addr) (x : Str) (q : Int) (ss : List Nat) (ms : List (List (List Int))) : Prop := RowAt C H a x q (ss.map natD) (ms.map fun m => m.map tupI)
structure Good (x : Str) (q : Int) (ss : List Nat) (ms : List (List (List Int))) : Prop where
  d : Draft x q 6 ss ms
  p : Pat x 6
  q : q ∈ primesL
end Rw
set_option Elab.async false
set_option linter.all false
set_option maxRecDepth 100000
set_option maxHeartbeats 4000000
namespace Rw
open PySem PySem.Spec PyProof.Rows L2
end Rw
set_option Elab.async false
set_option linter.all false
set_option maxRecDepth 100000
set_option maxHeartbeats 4000000
namespace Rw
open PySem PySem.Spec PyProof.Rows L2
end Rw
set_option Elab.async false
set_option linter.all false
set_option maxRecDepth 100000
set_option maxHeartbeats 4000000
namespace Rw
open PySem PySem.Spec PyProof.Rows L2
/-- the rows of a new sheet: new lists of small ints, each another -/
structure RowsOk (H0 H : Hp) (A : Addr) (xs : List V) (rs : List (List Int)) : Prop where
  len : xs.length = rs.length
  row : ∀ (i : Nat) (r : List Int), rs[i]? = some r → ∃ b : Addr, xs[i]? = some (.ref b) ∧ H b = some (.lst (r.map V.int)) ∧ H0 b = none ∧ b ≠ A
  inj : ∀ (i j : Nat) (b : Addr), xs[i]? = some (.ref b) → xs[j]? = some (.ref b) → i = j
  wide : ∀ r, r ∈ rs → r.length ≤ 4 ∧ ∀ n, n ∈ r → n.natAbs ≤ 100
/-- a new list at A with new rows of any kind -/
structure Gen (H Hn : Hp) (p A : Addr) (c : Nat) : Prop where
  g : Grow p H Hn
  bx : Bx Hn p c
  new : H A = none
  ex : ∃ xs ds, Hn A = some (.lst xs) ∧ AnyL (del (nw H Hn) A) xs ds ∧ ds.length ≤ 5 ∧ ∀ d, d ∈ ds → RowT d
structure Shp (H Hn : Hp) (p A : Addr) (c hi wi : Nat) : Prop where
  g : Grow p H Hn
  bx : Bx Hn p c
  new : H A = none
  ex : ∃ xs rs, Hn A = some (.lst xs) ∧ RowsOk H Hn A xs rs ∧ rs.length = hi ∧ hi ≤ 4 ∧ ∀ r, r ∈ rs → r.length = wi
theorem anyL_all {H : Hp} : ∀ {xs : List V} {ds : List PyData}, xs.length = ds.length → (∀ (i : Nat) (x : V) (d : PyData), xs[i]? = some x → ds[i]? = some d → Any H x d) → AnyL H xs ds
  | [], [], _, _ => .nil
  | x :: xs, d :: ds, l, h => .cons (h 0 x d rfl rfl) (anyL_all (by simpa using l) fun i x d e1 e2 => h (i + 1) x d (by simpa using e1) (by simpa using e2))
theorem nw_at {H Hn : Hp} {b : Addr} {o : HO} (h0 : H b = none) (h : Hn b = some o) : nw H Hn b = some o := by
  show (if H b = none then Hn b else none) = _
  rw [if_pos h0]
  exact h
theorem ints_row {H : Hp} {b : Addr} {r : List Int} (h : H b = some (.lst (r.map V.int))) : Any H (.ref b) (.list (r.map .int)) := .lst h (ints_anyL r)
theorem row_ints {r : List Int} (h : r.length ≤ 4 ∧ ∀ n, n ∈ r → n.natAbs ≤ 100) : RowT (.list (r.map .int)) := row_list (by rw [List.length_map]; omega) (by
  intro d hd
  obtain ⟨n, hn, rfl⟩ := List.mem_map.mp hd
  exact cell_int (Nat.lt_of_le_of_lt (h.2 n hn) (by decide)))
theorem Shp.gen {H Hn : Hp} {p A : Addr} {c hi wi : Nat} (s : Shp H Hn p A c hi wi) : Gen H Hn p A c := by
  obtain ⟨xs, rs, ha, ok, l1, l2, l3⟩ := s.ex
  refine ⟨s.g, s.bx, s.new, xs, rs.map (fun r => .list (r.map .int)), ha, ?_, by rw [List.length_map]; omega, ?_⟩
  · refine anyL_all (by rw [List.length_map]; exact ok.len) fun i x d e1 e2 => ?_
    rw [List.getElem?_map] at e2
    cases e3 : rs[i]? with
    | none => rw [e3] at e2; cases e2
    | some r =>
      rw [e3] at e2
      cases e2
      obtain ⟨b, h1, h2, h3, h4⟩ := ok.row i r e3
      rw [e1] at h1
      cases h1
      refine ints_row ?_
      rw [del_ne h4]
      exact nw_at h3 h2
  · intro d hd
    obtain ⟨r, hr, rfl⟩ := List.mem_map.mp hd
    exact row_ints (ok.wide r hr)
theorem Gen.more {H Hn : Hp} {p A : Addr} {c e : Nat} (s : Gen H Hn p A c) (l : c ≤ e) : Gen H Hn p A e := ⟨s.g, s.bx.more l, s.new, s.ex⟩
theorem Gen.pA {H Hn : Hp} {p A : Addr} {c n : Nat} (s : Gen H Hn p A c) (b : Bx H p n) : p ≠ A := b.ne s.new
/-- only the box has turned, and new things have come -/
theorem Gen.grow {H Hn H2 : Hp} {p A : Addr} {c e n : Nat} (s : Gen H Hn p A c) (b0 : Bx H p n) (k : Grow p Hn H2) (b : Bx H2 p e) : Gen H H2 p A e := by
  obtain ⟨xs, ds, ha, al, l, r⟩ := s.ex
  obtain ⟨_, _, _, hp, _⟩ := id b0
  refine ⟨s.g.trans k, b, s.new, xs, ds, k _ _ (b0.ne s.new).symm ha, anyL_keep ?_ al, l, r⟩
  exact Grow.del (Grow.of (nw_grow hp k))
theorem Shp.grow {H Hn H2 : Hp} {p A : Addr} {c e n hi wi : Nat} (s : Shp H Hn p A c hi wi) (b0 : Bx H p n) (k : Grow p Hn H2) (b : Bx H2 p e) : Shp H H2 p A e hi wi := by
  obtain ⟨xs, rs, ha, ok, l1, l2, l3⟩ := s.ex
  refine ⟨s.g.trans k, b, s.new, xs, rs, k _ _ (b0.ne s.new).symm ha, ⟨ok.len, fun i r e => ?_, ok.inj, ok.wide⟩, l1, l2, l3⟩
  obtain ⟨q, h1, h2, h3, h4⟩ := ok.row i r e
  exact ⟨q, h1, k _ _ (b0.ne h3).symm h2, h3, h4⟩
/-- new in the later is new in the whole -/
theorem nw_from {H Hn H2 : Hp} {p : Addr} {n : Nat} (b0 : Bx Hn p n) (g : Grow p H Hn) : Same (nw Hn H2) (nw H H2) := fun b o e => by
  have e' : (if Hn b = none then H2 b else none) = some o := e
  by_cases z : Hn b = none
  · rw [if_pos z] at e'
    refine nw_at ?_ e'
    cases y : H b with
    | none => rfl
    | some u =>
      by_cases w : b = p
      · obtain ⟨_, _, _, hp, _⟩ := b0
        rw [w, hp] at z
        cases z
      · rw [g _ _ w y] at z
        cases z
  · rw [if_neg z] at e'
    cases e'
theorem anyL_set {H : Hp} : ∀ {xs : List V} {ds : List PyData} {j : Nat} {v : V} {d : PyData}, AnyL H xs ds → Any H v d → AnyL H (xs.set j v) (ds.set j d)
  | _, _, _, _, _, .nil, _ => .nil
  | _, _, 0, _, _, .cons _ r, a => .cons a r
  | _, _, j + 1, _, _, .cons b r, a => .cons b (anyL_set r a)
theorem mem_set {α : Type} {ds : List α} {j : Nat} {d e : α} (h : e ∈ ds.set j d) : e = d ∨ e ∈ ds := by
  rcases List.mem_or_eq_of_mem_set h with z | z
  · exact .inr z
  · exact .inl z
/-- an item of the list at A is set to a thing that is new since -/
theorem Gen.put {H Hn H2 : Hp} {p A : Addr} {c e n : Nat} (s : Gen H Hn p A c) (b0 : Bx H p n) (k : Grow p Hn H2) (b : Bx H2 p e) {v : V} {d : PyData} (a : Any (nw Hn H2) v d) (r : RowT d) :
    ∃ xs, H2 A = some (.lst xs) ∧ ∀ j, Gen H (upd H2 A (.lst (xs.set j v))) p A e := by
  obtain ⟨xs, ds, ha, al, l, rr⟩ := s.ex
  have pA := b0.ne s.new
  refine ⟨xs, k _ _ pA.symm ha, fun j => ?_⟩
  have new := s.new
  obtain ⟨x1, x2, x3, hp, _⟩ := id b0
  have s2 : Same (del (nw H Hn) A) (del (nw H (upd H2 A (.lst (xs.set j v)))) A) := fun q o eo => by
    by_cases y : q = A
    · rw [y, del_same] at eo
      cases eo
    · rw [del_ne y] at eo ⊢
      have e2 := nw_grow hp k _ _ eo
      have e3 : H q = none := by
        cases w : H q with
        | none => rfl
        | some u =>
          have e4 : (if H q = none then Hn q else none) = some o := eo
          rw [if_neg (by rw [w]; exact fun z => by cases z)] at e4
          cases e4
      refine nw_at e3 ?_
      rw [upd_ne y]
      have e5 : (if H q = none then H2 q else none) = some o := e2
      rw [if_pos e3] at e5
      exact e5
  have s3 : Same (nw Hn H2) (del (nw H (upd H2 A (.lst (xs.set j v)))) A) := fun q o eo => by
    have y : q ≠ A := fun y => by
      have e4 : (if Hn q = none then H2 q else none) = some o := eo
      rw [if_neg (by rw [y, ha]; exact fun z => by cases z)] at e4
      cases e4
    have e1 := nw_from s.bx s.g _ _ eo
    rw [del_ne y]
    have e3 : H q = none := by
      cases w : H q with
      | none => rfl
      | some u =>
        have e4 : (if H q = none then H2 q else none) = some o := e1
        rw [if_neg (by rw [w]; exact fun z => by cases z)] at e4
        cases e4
    refine nw_at e3 ?_
    rw [upd_ne y]
    have e5 : (if H q = none then H2 q else none) = some o := e1
    rw [if_pos e3] at e5
    exact e5
  refine ⟨?_, ?_, new, xs.set j v, ds.set j d, upd_same, anyL_set (anyL_keep s2 al) (a.keep s3), by rw [List.length_set]; exact l, fun d' hd => ?_⟩
  · intro q o ne eo
    rw [upd_ne (ne_of_none eo new)]
    exact (s.g.trans k) q o ne eo
  · obtain ⟨a1, a2, a3, h1, rest⟩ := b
    exact ⟨a1, a2, a3, by rw [upd_ne pA]; exact h1, rest⟩
  · rcases mem_set hd with z | z
    · rw [z]; exact r
    · exact rr d' z
/-- a new row behind the others -/
theorem Gen.snoc {H Hn H2 : Hp} {p A : Addr} {c e n : Nat} (s : Gen H Hn p A c) (b0 : Bx H p n) (k : Grow p Hn H2) (b : Bx H2 p e) {q : Addr} {r : List Int} (hq : Hn q = none) (h2 : H2 q = some (.lst (r.map V.int))) (rr : RowT (.list (r.map .int))) (few : ∀ xs, H2 A = some (.lst xs) → xs.length ≤ 4) :
    ∃ xs, H2 A = some (.lst xs) ∧ Gen H (upd H2 A (.lst (xs ++ [.ref q]))) p A e := by
  obtain ⟨xs, ds, ha, al, l, r0⟩ := s.ex
  have pA := b0.ne s.new
  have ha2 := k _ _ pA.symm ha
  have l4 := few xs ha2
  have ln := anyL_len al
  obtain ⟨x1, x2, x3, hp, _⟩ := id b0
  have new := s.new
  have q0 : H q = none := by
    cases y : H q with
    | none => rfl
    | some u =>
      obtain ⟨y1, y2, y3, hp2, _⟩ := s.bx
      by_cases w : q = p
      · rw [w, hp2] at hq
        cases hq
      · rw [s.g _ _ w y] at hq
        cases hq
  have qA : q ≠ A := fun y => by rw [y, ha] at hq; cases hq
  have s2 : Same (del (nw H Hn) A) (del (nw H (upd H2 A (.lst (xs ++ [.ref q])))) A) := fun z o eo => by
    by_cases y : z = A
    · rw [y, del_same] at eo
      cases eo
    · rw [del_ne y] at eo ⊢
      have e3 : H z = none := by
        cases w : H z with
        | none => rfl
        | some u =>
          have e4 : (if H z = none then Hn z else none) = some o := eo
          rw [if_neg (by rw [w]; exact fun z => by cases z)] at e4
          cases e4
      have e2 := nw_grow hp k _ _ eo
      refine nw_at e3 ?_
      rw [upd_ne y]
      have e5 : (if H z = none then H2 z else none) = some o := e2
      rw [if_pos e3] at e5
      exact e5
  refine ⟨xs, ha2, ?_, ?_, new, xs ++ [.ref q], ds ++ [.list (r.map .int)], upd_same, anyL_snoc (anyL_keep s2 al) (ints_row ?_), by rw [List.length_append, List.length_singleton]; omega, fun d hd => ?_⟩
  · intro z o ne eo
    rw [upd_ne (ne_of_none eo new)]
    exact (s.g.trans k) z o ne eo
  · obtain ⟨a1, a2, a3, h1, rest⟩ := b
    exact ⟨a1, a2, a3, by rw [upd_ne pA]; exact h1, rest⟩
  · rw [del_ne qA]
    refine nw_at q0 ?_
    rw [upd_ne qA]
    exact h2
  · rcases List.mem_append.mp hd with z | z
    · exact r0 d z
    · rw [List.mem_singleton.mp z]
      exact rr
/-- an item of a row is set to a thing that is new since -/
theorem Shp.cell {H Hn H2 : Hp} {p A : Addr} {c e n hi wi : Nat} (s : Shp H Hn p A c hi wi) (b0 : Bx H p n) (k : Grow p Hn H2) (b : Bx H2 p e) {v : V} {d : PyData} (a : Any (nw Hn H2) v d) (cd : Cell d) {i : Nat} (hi2 : i < hi) :
    ∃ (xs : List V) (q : Addr) (r : List Int), H2 A = some (.lst xs) ∧ xs[i]? = some (.ref q) ∧ H2 q = some (.lst (r.map V.int)) ∧ r.length = wi ∧ ∀ j, Gen H (upd H2 q (.lst ((r.map V.int).set j v))) p A e := by
  obtain ⟨xs, rs, ha, ok, l1, l2, l3⟩ := s.ex
  have hlt : i < rs.length := by omega
  obtain ⟨q, h1, h2, h3, h4⟩ := ok.row i rs[i] (List.getElem?_eq_getElem hlt)
  have hm : rs[i] ∈ rs := List.getElem_mem hlt
  have pA := b0.ne s.new
  have pq := b0.ne h3
  have new := s.new
  obtain ⟨x1, x2, x3, hp, _⟩ := id b0
  have ha2 := k _ _ pA.symm ha
  refine ⟨xs, q, rs[i], ha2, h1, k _ _ pq.symm h2, l3 _ hm, fun j => ?_⟩
  have s3 : Same (nw Hn H2) (del (nw H (upd H2 q (.lst ((rs[i].map V.int).set j v)))) A) := fun z o eo => by
    have off : ∀ {w : Addr} {u : HO}, Hn w = some u → z ≠ w := fun e y => by
      have e4 : (if Hn z = none then H2 z else none) = some o := eo
      rw [if_neg (by rw [y, e]; exact fun z => by cases z)] at e4
      cases e4
    have e1 := nw_from s.bx s.g _ _ eo
    rw [del_ne (off ha)]
    have e3 : H z = none := by
      cases w : H z with
      | none => rfl
      | some u =>
        have e4 : (if H z = none then H2 z else none) = some o := e1
        rw [if_neg (by rw [w]; exact fun z => by cases z)] at e4
        cases e4
    refine nw_at e3 ?_
    rw [upd_ne (off h2)]
    have e5 : (if H z = none then H2 z else none) = some o := e1
    rw [if_pos e3] at e5
    exact e5
  have inner : AnyL (del (nw H (upd H2 q (.lst ((rs[i].map V.int).set j v)))) A) ((rs[i].map V.int).set j v) ((rs[i].map PyData.int).set j d) := anyL_set (ints_anyL _) (a.keep s3)
  refine ⟨?_, ?_, new, xs, (rs.map (fun r => PyData.list (r.map .int))).set i (.list ((rs[i].map PyData.int).set j d)), ?_, ?_, by rw [List.length_set, List.length_map]; omega, fun e' he => ?_⟩
  · intro z o ne eo
    rw [upd_ne (ne_of_none eo h3)]
    exact (s.g.trans k) z o ne eo
  · obtain ⟨a1, a2, a3, h1, rest⟩ := b
    exact ⟨a1, a2, a3, by rw [upd_ne pq]; exact h1, rest⟩
  · rw [upd_ne h4.symm]
    exact ha2
  · refine anyL_all (by rw [List.length_set, List.length_map]; exact ok.len) fun t x dd e1 e2 => ?_
    by_cases y : t = i
    · subst y
      rw [h1] at e1
      cases e1
      rw [List.getElem?_set_self (by rw [List.length_map]; exact hlt)] at e2
      cases e2
      refine .lst ?_ inner
      rw [del_ne h4]
      refine nw_at h3 ?_
      exact upd_same
    · rw [List.getElem?_set_ne (fun z => y z.symm), List.getElem?_map] at e2
      cases e3 : rs[t]? with
      | none => rw [e3] at e2; cases e2
      | some r =>
        rw [e3] at e2
        cases e2
        obtain ⟨w, g1, g2, g3, g4⟩ := ok.row t r e3
        rw [e1] at g1
        cases g1
        refine ints_row ?_
        rw [del_ne g4]
        refine nw_at g3 ?_
        have wq : w ≠ q := fun z => y (ok.inj t i w e1 (by rw [z]; exact h1))
        rw [upd_ne wq]
        exact k _ _ (b0.ne g3).symm g2
  · rcases mem_set he with z | z
    · rw [z]
      have wide := ok.wide _ hm
      refine row_list (by rw [List.length_set, List.length_map]; omega) fun x hx => ?_
      rcases mem_set hx with y | y
      · rw [y]; exact cd
      · obtain ⟨n, hn, rfl⟩ := List.mem_map.mp y
        exact cell_int (Nat.lt_of_le_of_lt (wide.2 n hn) (by decide))
    · obtain ⟨r, hr, rfl⟩ := List.mem_map.mp z
      exact row_ints (ok.wide r hr)
/-- one row more -/
theorem Shp.snoc {H Hn H2 : Hp} {p A : Addr} {c e n i wi : Nat} (s : Shp H Hn p A c i wi) (b0 : Bx H p n) (k : Grow p Hn H2) (b : Bx H2 p e) {q : Addr} {r : List Int} (hq : Hn q = none) (h2 : H2 q = some (.lst (r.map V.int))) (rl : r.length = wi) (w4 : wi ≤ 4) (sm : ∀ n, n ∈ r → n.natAbs ≤ 100) (l4 : i + 1 ≤ 4) :
    ∃ xs, H2 A = some (.lst xs) ∧ xs.length = i ∧ Shp H (upd H2 A (.lst (xs ++ [.ref q]))) p A e (i + 1) wi := by
  obtain ⟨xs, rs, ha, ok, l1, l2, l3⟩ := s.ex
  have pA := b0.ne s.new
  have ha2 := k _ _ pA.symm ha
  have new := s.new
  have qA : q ≠ A := fun y => by rw [y, ha] at hq; cases hq
  have q0 : H q = none := by
    cases y : H q with
    | none => rfl
    | some u =>
      obtain ⟨y1, y2, y3, hp2, _⟩ := s.bx
      by_cases w : q = p
      · rw [w, hp2] at hq
        cases hq
      · rw [s.g _ _ w y] at hq
        cases hq
  have ln := ok.len
  have in_old : ∀ (t : Nat) (z : Addr), (xs ++ [V.ref q])[t]? = some (.ref z) → (xs[t]? = some (.ref z) ∧ z ≠ q) ∨ (t = xs.length ∧ z = q) := by
    intro t z e1
    by_cases y : t < xs.length
    · rw [List.getElem?_append_left y] at e1
      refine .inl ⟨e1, fun zq => ?_⟩
      have y2 : t < rs.length := by omega
      obtain ⟨w, g1, g2, g3, g4⟩ := ok.row t rs[t] (List.getElem?_eq_getElem y2)
      rw [e1] at g1
      cases g1
      rw [zq, hq] at g2
      cases g2
    · rw [List.getElem?_append_right (by omega)] at e1
      have e3 : t - xs.length = 0 := by
        cases y3 : t - xs.length with
        | zero => rfl
        | succ m => rw [y3] at e1; simp at e1
      rw [e3] at e1
      refine .inr ⟨by omega, ?_⟩
      have e4 : V.ref q = V.ref z := Option.some.inj e1
      injection e4 with e5
      exact e5.symm
  refine ⟨xs, ha2, by omega, ?_, ?_, new, xs ++ [.ref q], rs ++ [r], upd_same, ⟨by rw [List.length_append, List.length_append, ln] <;> rfl, ?_, ?_, ?_⟩, by rw [List.length_append, l1] <;> rfl, l4, ?_⟩
  · intro z o ne eo
    rw [upd_ne (ne_of_none eo new)]
    exact (s.g.trans k) z o ne eo
  · obtain ⟨a1, a2, a3, h1, rest⟩ := b
    exact ⟨a1, a2, a3, by rw [upd_ne pA]; exact h1, rest⟩
  · intro t r' e1
    by_cases y : t < rs.length
    · rw [List.getElem?_append_left y] at e1
      obtain ⟨w, g1, g2, g3, g4⟩ := ok.row t r' e1
      refine ⟨w, by rw [List.getElem?_append_left (by omega)]; exact g1, ?_, g3, g4⟩
      rw [upd_ne g4]
      exact k _ _ (b0.ne g3).symm g2
    · rw [List.getElem?_append_right (by omega)] at e1
      have e3 : t - rs.length = 0 := by
        cases y3 : t - rs.length with
        | zero => rfl
        | succ m => rw [y3] at e1; simp at e1
      rw [e3] at e1
      have e4 : r = r' := Option.some.inj e1
      subst e4
      have e5 : t = xs.length := by omega
      refine ⟨q, by rw [e5, List.getElem?_append_right (Nat.le_refl _), Nat.sub_self] <;> rfl, ?_, q0, qA⟩
      rw [upd_ne qA]
      exact h2
  · intro t t' z e1 e2
    rcases in_old t z e1 with ⟨a1, a2⟩ | ⟨a1, a2⟩
    · rcases in_old t' z e2 with ⟨b1, b2⟩ | ⟨b1, b2⟩
      · exact ok.inj t t' z a1 b1
      · exact absurd b2 a2
    · rcases in_old t' z e2 with ⟨b1, b2⟩ | ⟨b1, b2⟩
      · exact absurd a2 b2
      · omega
  · intro r' hr
    rcases List.mem_append.mp hr with z | z
    · exact ok.wide r' z
    · rw [List.mem_singleton.mp z]
      exact ⟨by omega, sm⟩
  · intro r' hr
    rcases List.mem_append.mp hr with z | z
    · exact l3 r' z
    · rw [List.mem_singleton.mp z]
      exact rl
end Rw
set_option Elab.async false
set_option linter.all false
set_option maxRecDepth 100000
set_option maxHeartbeats 4000000
namespace Rw
open PySem PySem.Spec PyProof.Rows L2
end Rw
namespace Rw
open PySem PySem.Spec PyProof.Rows L2
def off (p F : Addr) (H : Hp) : Hp := del (del H p) F
theorem off_same {p F : Addr} {H H' : Hp} (k : ∀ b o, b ≠ p → b ≠ F → H b = some o → H' b = some o) : Same (off p F H) (off p F H') := fun b o e => by
  unfold off at e ⊢
  by_cases y1 : b = F
  · rw [y1, del_same] at e; cases e
  · rw [del_ne y1] at e ⊢
    by_cases y2 : b = p
    · rw [y2, del_same] at e; cases e
    · rw [del_ne y2] at e ⊢
      exact k b o y2 y1 e
theorem off_subp {p F : Addr} {H : Hp} : Same (off p F H) (del H p) := same_del
structure StrT (d : PyData) : Prop where
  tm : Tq 0 d
  sh : Short d
structure SizT (k : Nat) (d : PyData) : Prop where
  tm : Tq 1 d
  l : (itemsD d).length ≤ k
  c : ∀ e, e ∈ itemsD d → Cell e
structure MapT (k : Nat) (d : PyData) : Prop where
  tm : Tq 3 d
  l : (itemsD d).length ≤ k
  c : ∀ e, e ∈ itemsD d → SheetT e
theorem SizT.up {k m : Nat} {d : PyData} (s : SizT k d) (h : k ≤ m) : SizT m d := ⟨s.tm, Nat.le_trans s.l h, s.c⟩
theorem MapT.up {k m : Nat} {d : PyData} (s : MapT k d) (h : k ≤ m) : MapT m d := ⟨s.tm, Nat.le_trans s.l h, s.c⟩
structure Fnd (H Hn : Hp) (p F : Addr) (c a b : Nat) : Prop where
  g : Grow p H Hn
  bx : Bx Hn p c
  new : H F = none
  ex : ∃ u0 u1 u2 u3 d0 d1 d2 d3, Hn F = some (.lst [u0, u1, u2, u3]) ∧ Any (off p F Hn) u0 d0 ∧ Any (off p F Hn) u1 d1 ∧ Any (off p F Hn) u2 d2 ∧ Any (off p F Hn) u3 d3 ∧ StrT d0 ∧ Tq 0 d1 ∧ SizT a d2 ∧ MapT b d3
theorem Fnd.grow {H Hn H2 : Hp} {p F : Addr} {c e n a b : Nat} (s : Fnd H Hn p F c a b) (b0 : Bx H p n) (k : Grow p Hn H2) (bx : Bx H2 p e) : Fnd H H2 p F e a b := by
  obtain ⟨u0, u1, u2, u3, d0, d1, d2, d3, hF, a0, a1, a2, a3, r⟩ := s.ex
  have pF := b0.ne s.new
  have kk : Same (off p F Hn) (off p F H2) := off_same fun x o n1 n2 ex => k x o n1 ex
  exact ⟨s.g.trans k, bx, s.new, u0, u1, u2, u3, d0, d1, d2, d3, k _ _ pF.symm hF, a0.keep kk, a1.keep kk, a2.keep kk, a3.keep kk, r⟩
theorem Fnd.more {H Hn : Hp} {p F : Addr} {c e a b a' b' : Nat} (s : Fnd H Hn p F c a b) (h : c ≤ e) (ha : a ≤ a') (hb : b ≤ b') : Fnd H Hn p F e a' b' := by
  obtain ⟨u0, u1, u2, u3, d0, d1, d2, d3, hF, a0, a1, a2, a3, r0, r1, r2, r3⟩ := s.ex
  exact ⟨s.g, s.bx.more h, s.new, u0, u1, u2, u3, d0, d1, d2, d3, hF, a0, a1, a2, a3, r0, r1, r2.up ha, r3.up hb⟩
/-- the list is written anew -/
theorem Fnd.put {H Hn : Hp} {p F : Addr} {c n a b : Nat} (g : Grow p H Hn) (bx : Bx Hn p c) (new : H F = none) (b0 : Bx H p n) {u0 u1 u2 u3 : V} {d0 d1 d2 d3 : PyData} (a0 : Any (off p F Hn) u0 d0) (a1 : Any (off p F Hn) u1 d1) (a2 : Any (off p F Hn) u2 d2) (a3 : Any (off p F Hn) u3 d3)
    (r0 : StrT d0) (r1 : Tq 0 d1) (r2 : SizT a d2) (r3 : MapT b d3) : Fnd H (upd Hn F (.lst [u0, u1, u2, u3])) p F c a b := by
  have pF := b0.ne new
  have kk : Same (off p F Hn) (off p F (upd Hn F (.lst [u0, u1, u2, u3]))) := off_same fun x o n1 n2 ex => by rw [upd_ne n2]; exact ex
  refine ⟨fun x o n1 ex => ?_, ?_, new, u0, u1, u2, u3, d0, d1, d2, d3, upd_same, a0.keep kk, a1.keep kk, a2.keep kk, a3.keep kk, r0, r1, r2, r3⟩
  · rw [upd_ne (ne_of_none ex new)]
    exact g x o n1 ex
  · obtain ⟨c1, c2, c3, h1, rest⟩ := bx
    exact ⟨c1, c2, c3, by rw [upd_ne pF]; exact h1, rest⟩
structure ThingT (d : PyData) : Prop where
  ex : ∃ d0 d1 d2 d3, d = .list [d0, d1, d2, d3] ∧ StrT d0 ∧ Tq 0 d1 ∧ SizT 7 d2 ∧ MapT 6 d3
end Rw
set_option Elab.async false
set_option linter.all false
set_option maxRecDepth 100000
set_option maxHeartbeats 4000000
namespace Rw
open PySem PySem.Spec PyProof.Rows L2
theorem Bx.some {H : Hp} {p : Addr} {n : Nat} (b : Bx H p n) : H p ≠ none := by
  obtain ⟨_, _, _, h, _⟩ := b
  rw [h]
  exact fun z => by cases z
section
variable {H Hn : Hp} {p F : Addr} {c n a b : Nat}
theorem Fnd.here (s : Fnd H Hn p F c a b) : Hn F ≠ none := by
  obtain ⟨u0, u1, u2, u3, d0, d1, d2, d3, hF, _⟩ := s.ex
  rw [hF]
  exact fun z => by cases z
theorem Fnd.str (s : Fnd H Hn p F c a b) (b0 : Bx H p n) {v : V} {d : PyData} (r : StrT d) (an : Any (off p F Hn) v d) : ∃ us, Hn F = some (.lst us) ∧ us.length = 4 ∧ Fnd H (upd Hn F (.lst (us.set 0 v))) p F c a b := by
  obtain ⟨u0, u1, u2, u3, d0, d1, d2, d3, hF, a0, a1, a2, a3, r0, r1, r2, r3⟩ := s.ex
  exact ⟨_, hF, rfl, Fnd.put s.g s.bx s.new b0 an a1 a2 a3 r r1 r2 r3⟩
theorem Fnd.map (s : Fnd H Hn p F c a b) (b0 : Bx H p n) {v : V} {d : PyData} {b' : Nat} (r : MapT b' d) (an : Any (off p F Hn) v d) : ∃ us, Hn F = some (.lst us) ∧ us.length = 4 ∧ Fnd H (upd Hn F (.lst (us.set 3 v))) p F c a b' := by
  obtain ⟨u0, u1, u2, u3, d0, d1, d2, d3, hF, a0, a1, a2, a3, r0, r1, r2, r3⟩ := s.ex
  exact ⟨_, hF, rfl, Fnd.put s.g s.bx s.new b0 a0 a1 a2 an r0 r1 r2 r⟩
theorem Fnd.thing (s : Fnd H Hn p F c 7 6) (b0 : Bx H p n) : ∃ d, ThingT d ∧ Any (del Hn p) (.ref F) d := by
  have pF := b0.ne s.new
  obtain ⟨u0, u1, u2, u3, d0, d1, d2, d3, hF, a0, a1, a2, a3, r0, r1, r2, r3⟩ := s.ex
  exact ⟨_, ⟨d0, d1, d2, d3, rfl, r0, r1, r2, r3⟩, .lst (by
    rw [del_ne (Ne.symm pF)]
    exact hF) (.cons (a0.keep off_subp) (.cons (a1.keep off_subp) (.cons (a2.keep off_subp) (.cons (a3.keep off_subp) .nil))))⟩
end
end Rw
set_option Elab.async false
set_option linter.all false
set_option maxRecDepth 100000
set_option maxHeartbeats 4000000
namespace Rw
open PySem PySem.Spec PyProof.Rows L2
theorem _root_.L2.Same.grow {p : Addr} {H H1 H2 : Hp} (s : Same H H1) (hp : H p = none) (g : Grow p H1 H2) : Same H H2 := fun b o e => g b o (ne_of_none e hp) (s b o e)
theorem noL_mats (ms : List (List (List Int))) : noL (.tuple ((ms.map fun m => m.map tupI).map .tuple)) = true := by
  show noLs _ = true
  refine noLs_of fun d hd => ?_
  rw [List.map_map] at hd
  obtain ⟨m, _, rfl⟩ := List.mem_map.mp hd
  show noLs (m.map tupI) = true
  refine noLs_of fun e he => ?_
  obtain ⟨r, _, rfl⟩ := List.mem_map.mp he
  exact noL_tupI r
theorem noL_nats (ss : List Nat) : noL (.tuple (ss.map natD)) = true := by
  show noLs _ = true
  refine noLs_of fun d hd => ?_
  obtain ⟨n, _, rfl⟩ := List.mem_map.mp hd
  rfl
end Rw
set_option Elab.async false
set_option linter.all false
set_option maxRecDepth 100000
set_option maxHeartbeats 4000000
namespace Rw
open PySem PySem.Spec PyProof.Rows L2
/-- no object but lists has changed -/
def Lt (H H' : Hp) : Prop := ∀ b o, H b = some o → (∀ xs, o ≠ .lst xs) → H' b = some o
theorem Lt.refl {H : Hp} : Lt H H := fun _ _ e _ => e
theorem Lt.trans {H H1 H2 : Hp} (a : Lt H H1) (b : Lt H1 H2) : Lt H H2 := fun c o e n => b c o (a c o e n) n
theorem Lt.of {H H' : Hp} (k : Same H H') : Lt H H' := fun b o e _ => k b o e
theorem Lt.put {H : Hp} {a : Addr} {xs ys : List V} (h : H a = some (.lst xs)) : Lt H (upd H a (.lst ys)) := fun b o e n => by
  have ne : b ≠ a := fun z => by
    rw [z, h] at e
    exact n xs (Option.some.inj e).symm
  rw [upd_ne ne]
  exact e
mutual
theorem any_lt {H H' : Hp} (k : Lt H H') : ∀ (d : PyData) (v : V), Any H v d → noL d = true → Any H' v d
  | .none, _, a, _ => by cases a; exact .non
  | .bool b, _, a, _ => by cases a; exact .bl b
  | .int i, _, a, _ => by cases a; exact .int i
  | .str x, _, a, _ => by cases a; exact .str x
  | .list ds, _, _, z => by cases z
  | .dict ds, _, _, z => by cases z
  | .tuple ds, _, a, z => by
    cases a with
    | tup e b => exact .tup (k _ _ e fun xs y => by cases y) (anyL_lt k ds _ b z)
theorem anyL_lt {H H' : Hp} (k : Lt H H') : ∀ (ds : List PyData) (vs : List V), AnyL H vs ds → noLs ds = true → AnyL H' vs ds
  | [], _, a, _ => by cases a; exact .nil
  | d :: ds, _, a, z => by
    have z2 : (noL d && noLs ds) = true := z
    rw [Bool.and_eq_true] at z2
    cases a with
    | cons a b => exact .cons (any_lt k d _ a z2.1) (anyL_lt k ds _ b z2.2)
end
theorem row_lt {C a : Addr} {H H' : Hp} {x : Str} {q : Int} {ss : List Nat} {ms : List (List (List Int))} (r : RowOf C H a x q ss ms) (k : Lt H H') : RowOf C H' a x q ss ms := by
  obtain ⟨dx, ts, tm, h1, h2, h3⟩ := r
  exact ⟨dx, ts, tm, k _ _ h1 (fun xs z => by cases z), any_lt k _ _ h2 (noL_nats ss), any_lt k _ _ h3 (noL_mats ms)⟩
theorem dep_le {n : Nat} : ∀ {ds : List PyData}, (∀ d, d ∈ ds → d.depth ≤ n) → PyData.depthAll ds ≤ n
  | [], _ => by simp only [PyData.depthAll]; omega
  | d :: ds, h => by
    simp only [PyData.depthAll]
    have a := h d List.mem_cons_self
    have b := dep_le (ds := ds) fun e he => h e (List.mem_cons_of_mem _ he)
    omega
end Rw
set_option Elab.async false
set_option linter.all false
set_option maxRecDepth 100000
set_option maxHeartbeats 4000000
namespace Rw
open PySem PySem.Spec PyProof.Rows L2
end Rw
set_option Elab.async false
set_option linter.all false
set_option maxRecDepth 100000
set_option maxHeartbeats 4000000
namespace Rw
open PySem PySem.Spec PyProof.Rows L2
theorem noL_rowsT (m : List (List Int)) : noLs (m.map tupI) = true := noLs_of fun d hd => by
  obtain ⟨r, _, rfl⟩ := List.mem_map.mp hd
  exact noL_tupI r
end Rw
set_option Elab.async false
set_option linter.all false
set_option maxRecDepth 100000
set_option maxHeartbeats 4000000
namespace Rw
open PySem PySem.Spec PyProof.Rows L2
def lstI (r : List Int) : PyData := .list (r.map .int)
end Rw
set_option Elab.async false
set_option linter.all false
set_option maxRecDepth 100000
set_option maxHeartbeats 4000000
namespace Rw
open PySem PySem.Spec PyProof.Rows L2
theorem Lt.grow {p : Addr} {H H' : Hp} {xs : List V} (g : Grow p H H') (h : H p = some (.lst xs)) : Lt H H' := fun b o e n => g b o (fun z => by rw [z, h] at e; exact n xs (Option.some.inj e).symm) e
def ShAt (H : Hp) (bs : List Addr) (ns : List (List (List Int))) : Prop := bs.length = ns.length ∧ ∀ (i : Nat) (b : Addr) (m : List (List Int)), bs[i]? = some b → ns[i]? = some m → ∃ rs, H b = some (.lst rs) ∧ AnyL H rs (m.map tupI)
theorem ShAt.lt {H H' : Hp} {bs : List Addr} {ns : List (List (List Int))} (h : ShAt H bs ns) (k : Lt H H') (e : ∀ b o, b ∈ bs → H b = some o → H' b = some o) : ShAt H' bs ns :=
  ⟨h.1, fun i b m hb hm => by
    obtain ⟨rs, h1, h2⟩ := h.2 i b m hb hm
    exact ⟨rs, e b _ (List.mem_of_getElem? hb) h1, anyL_lt k _ _ h2 (noL_rowsT m)⟩⟩
/-- a draft whose lists are new -/
structure Ot (H0 H : Hp) (F A M : Addr) (bs : List Addr) (y : Str) (q : Int) (ts : List Nat) (ns : List (List (List Int))) : Prop where
  f : H F = some (.lst [.str y, .int q, .ref A, .ref M])
  a : H A = some (.lst (ts.map fun s => V.int (s : Nat)))
  m : H M = some (.lst (bs.map V.ref))
  nf : H0 F = none
  na : H0 A = none
  nm : H0 M = none
  nb : ∀ b, b ∈ bs → H0 b = none
  fa : F ≠ A
  fm : F ≠ M
  am : A ≠ M
  bx : ∀ b, b ∈ bs → b ≠ F ∧ b ≠ A ∧ b ≠ M
  nd : bs.Nodup
  sh : ShAt H bs ns
section
variable {H0 H H' : Hp} {p F A M : Addr} {bs : List Addr} {y : Str} {q : Int} {ts : List Nat} {ns : List (List (List Int))}
theorem Ot.grow {xs : List V} {o : HO} (h : Ot H0 H F A M bs y q ts ns) (hp : H0 p = some o) (hq : H p = some (.lst xs)) (g : Grow p H H') : Ot H0 H' F A M bs y q ts ns := by
  have ne : ∀ b, H0 b = none → b ≠ p := fun b hb z => by rw [z, hp] at hb; cases hb
  exact ⟨g _ _ (ne _ h.nf) h.f, g _ _ (ne _ h.na) h.a, g _ _ (ne _ h.nm) h.m, h.nf, h.na, h.nm, h.nb, h.fa, h.fm, h.am, h.bx, h.nd, h.sh.lt (Lt.grow g hq) fun b o hb e => g _ _ (ne _ (h.nb b hb)) e⟩
theorem Ot.keep (h : Ot H0 H F A M bs y q ts ns) (k : Same H H') : Ot H0 H' F A M bs y q ts ns :=
  ⟨k _ _ h.f, k _ _ h.a, k _ _ h.m, h.nf, h.na, h.nm, h.nb, h.fa, h.fm, h.am, h.bx, h.nd, h.sh.lt (Lt.of k) fun b o _ e => k _ _ e⟩
theorem sheets_any {M0 : Hp} : ∀ {bs : List Addr} {ns : List (List (List Int))}, bs.length = ns.length → (∀ (i : Nat) (b : Addr) (m : List (List Int)), bs[i]? = some b → ns[i]? = some m → ∃ rs, M0 b = some (.lst rs) ∧ AnyL M0 rs (m.map tupI)) → AnyL M0 (bs.map V.ref) (ns.map sheetD)
  | [], [], _, _ => .nil
  | b :: bs, m :: ns, hl, h => by
    obtain ⟨rs, e1, e2⟩ := h 0 b m rfl rfl
    exact .cons (.lst e1 e2) (sheets_any (by simpa using hl) fun i b' m' h1 h2 => h (i + 1) b' m' (by simpa using h1) (by simpa using h2))
theorem Ot.any {xs : List V} {o : HO} (h : Ot H0 H F A M bs y q ts ns) (hp : H0 p = some o) (hq : H p = some (.lst xs)) : Any (del H p) (.ref F) (draftD y q ts ns) := by
  have ne : ∀ b, H0 b = none → b ≠ p := fun b hb z => by rw [z, hp] at hb; cases hb
  refine .lst (by rw [del_ne (ne _ h.nf)]; exact h.f) (.cons (.str y) (.cons (.int q) (.cons (.lst (by rw [del_ne (ne _ h.na)]; exact h.a) (nats_anyL ts)) (.cons (.lst (by rw [del_ne (ne _ h.nm)]; exact h.m) (sheets_any h.sh.1 fun i b m h1 h2 => ?_)) .nil))))
  obtain ⟨rs, e1, e2⟩ := h.sh.2 i b m h1 h2
  exact ⟨rs, by rw [del_ne (ne _ (h.nb b (List.mem_of_getElem? h1)))]; exact e1, anyL_noL hq _ _ e2 (noL_rowsT m)⟩
end
end Rw
set_option Elab.async false
set_option linter.all false
set_option maxRecDepth 100000
set_option maxHeartbeats 4000000
namespace Rw
open PySem PySem.Spec PyProof.Rows L2
theorem bx_on {H H' : Hp} {p : Addr} {n : Nat} (b : Bx H p n) (k : ∀ o, H p = some o → H' p = some o) : Bx H' p n := by
  obtain ⟨c1, c2, c3, h1, rest⟩ := b
  exact ⟨c1, c2, c3, k _ h1, rest⟩
theorem nodup_inj {α : Type} : ∀ {l : List α} (_ : l.Nodup) {i j : Nat} {a : α} (_ : l[i]? = some a) (_ : l[j]? = some a), i = j
  | [], _, i, j, a, h, _ => by simp at h
  | x :: l, nd, 0, 0, a, _, _ => rfl
  | x :: l, nd, 0, j + 1, a, h1, h2 => by
    have e : x = a := by simpa using h1
    subst e
    exact absurd (List.mem_of_getElem? (by simpa using h2)) (List.nodup_cons.mp nd).1
  | x :: l, nd, i + 1, 0, a, h1, h2 => by
    have e : x = a := by simpa using h2
    subst e
    exact absurd (List.mem_of_getElem? (by simpa using h1)) (List.nodup_cons.mp nd).1
  | x :: l, nd, i + 1, j + 1, a, h1, h2 => by
    rw [nodup_inj (List.nodup_cons.mp nd).2 (i := i) (j := j) (by simpa using h1) (by simpa using h2)]
/-- one sheet's row exchanged -/
theorem ShAt.row {H : Hp} {bs : List Addr} {ns : List (List (List Int))} {k j : Nat} {b t : Addr} {m : List (List Int)} {r : List Int} {rs : List V} (h : ShAt H bs ns) (nd : bs.Nodup) (hb : bs[k]? = some b) (hm : ns[k]? = some m) (eb : H b = some (.lst rs)) (al : AnyL H rs (m.map tupI)) (et : H t = some (.tup (r.map V.int))) : ShAt (upd H b (.lst (rs.set j (.ref t)))) bs (ns.set k (m.set j r)) := by
  have lt : Lt H (upd H b (.lst (rs.set j (.ref t)))) := Lt.put eb
  refine ⟨by rw [List.length_set]; exact h.1, fun i b' m' h1 h2 => ?_⟩
  by_cases z : k = i
  · subst z
    rw [hb] at h1
    cases Option.some.inj h1
    rw [List.getElem?_set_self (List.getElem?_eq_some_iff.mp hm).1] at h2
    cases Option.some.inj h2
    refine ⟨_, upd_same, anyL_lt lt _ _ ?_ (noL_rowsT _)⟩
    rw [List.map_set]
    exact anyL_set al (tupI_any et)
  · rw [List.getElem?_set_ne z] at h2
    obtain ⟨rs', e1, e2⟩ := h.2 i b' m' h1 h2
    have ne : b' ≠ b := fun y => by
      subst y
      have i1 := (List.getElem?_eq_some_iff.mp h1)
      have i2 := (List.getElem?_eq_some_iff.mp hb)
      obtain ⟨l1, g1⟩ := i1
      obtain ⟨l2, g2⟩ := i2
      exact z (nodup_inj nd h1 hb).symm
    exact ⟨rs', by rw [upd_ne ne]; exact e1, anyL_lt lt _ _ e2 (noL_rowsT _)⟩
end Rw
set_option Elab.async false
set_option linter.all false
set_option maxRecDepth 100000
set_option maxHeartbeats 4000000
namespace Rw
open PySem PySem.Spec PyProof.Rows L2
structure GAt (H0 H1 : Hp) (G : Addr) (acc : List V) : Prop where
  nd : acc.Nodup
  s : ∀ v, v ∈ acc → ∃ b rs, v = .ref b ∧ H0 b = none ∧ b ≠ G ∧ H1 b = some (.lst rs) ∧ ∀ r, r ∈ rs → r ∉ acc ∧ ∃ c xs, r = .ref c ∧ H0 c = none ∧ c ≠ G ∧ H1 c = some (.lst xs) ∧ xs.length ≤ 1000
structure MI (H0 H1 Hs : Hp) (p G : Addr) (N : Nat) (acc : List V) (i L : Nat) (H : Hp) : Prop where
  g : Grow p H0 H
  b : Bx H p N
  c : H G = some (.lst acc)
  t : Lt Hs H
  e : ∀ j b rs, i ≤ j → acc[j]? = some (.ref b) → H1 b = some (.lst rs) → H b = some (.lst rs)
  f : ∀ b rs r c, V.ref b ∈ acc → H1 b = some (.lst rs) → r ∈ rs → r = .ref c → ∃ xs, H c = some (.lst xs) ∧ xs.length ≤ L
section
variable {H0 H1 Hs H : Hp} {p G : Addr} {N i L : Nat} {acc : List V} {o : HO}
theorem MI.row {b c : Addr} {rs xs : List V} {y : V} (g : GAt H0 H1 G acc) (hp : H0 p = some o) (m : MI H0 H1 Hs p G N acc i L H) (hb : V.ref b ∈ acc) (eb : H1 b = some (.lst rs)) (hc : V.ref c ∈ rs) (ec : H c = some (.lst xs)) (lx : xs.length ≤ L) : MI H0 H1 Hs p G N acc i (L + 1) (upd H c (.lst (xs ++ [y]))) := by
  obtain ⟨b', rs', e1, h1, h2, h3, h4⟩ := g.s _ hb
  cases e1
  rw [eb] at h3
  cases h3
  obtain ⟨n1, c', xs', e2, c0, cG, _⟩ := h4 _ hc
  cases e2
  have cp : p ≠ c := fun z => by rw [← z, hp] at c0; cases c0
  refine ⟨fun d u ne e => ?_, bx_on m.b fun u e => by rw [upd_ne cp]; exact e, by rw [upd_ne cG.symm]; exact m.c, m.t.trans (Lt.put ec), fun j d ds hj hd ed => ?_, fun d ds r u hd ed hr er => ?_⟩
  · rw [upd_ne (ne_of_none e c0)]
    exact m.g d u ne e
  · have : d ≠ c := fun z => n1 (by rw [← z]; exact List.mem_of_getElem? hd)
    rw [upd_ne this]
    exact m.e j d ds hj hd ed
  · obtain ⟨zs, e5, l5⟩ := m.f d ds r u hd ed hr er
    by_cases z : u = c
    · rw [z]
      exact ⟨_, upd_same, by rw [List.length_append]; show xs.length + 1 ≤ _; omega⟩
    · exact ⟨zs, by rw [upd_ne z]; exact e5, by omega⟩
theorem MI.mono {L' : Nat} (m : MI H0 H1 Hs p G N acc i L H) (h : L ≤ L') : MI H0 H1 Hs p G N acc i L' H := ⟨m.g, m.b, m.c, m.t, m.e, fun b rs r c hb eb hr er => by
  obtain ⟨xs, e, l⟩ := m.f b rs r c hb eb hr er
  exact ⟨xs, e, by omega⟩⟩
end
end Rw
set_option Elab.async false
set_option linter.all false
set_option maxRecDepth 100000
set_option maxHeartbeats 4000000
namespace Rw
open PySem PySem.Spec PyProof.Rows L2
end Rw
set_option Elab.async false
set_option linter.all false
set_option maxRecDepth 100000
set_option maxHeartbeats 4000000
namespace Rw
open PySem PySem.Spec PyProof.Rows L2
end Rw
set_option Elab.async false
set_option linter.all false
set_option maxRecDepth 100000
set_option maxHeartbeats 4000000
namespace Rw
open PySem PySem.Spec PyProof.Rows L2
end Rw
set_option Elab.async false
set_option linter.all false
set_option maxRecDepth 100000
set_option maxHeartbeats 4000000
namespace Rw
open PySem PySem.Spec PyProof.Rows L2
end Rw
set_option Elab.async false
set_option linter.all false
set_option maxRecDepth 100000
set_option maxHeartbeats 4000000
namespace Rw
open PySem PySem.Spec PyProof.Rows L2
end Rw
set_option Elab.async false
set_option linter.all false
set_option maxRecDepth 100000
set_option maxHeartbeats 4000000
namespace Rw
open PySem PySem.Spec PyProof.Rows L2
end Rw
set_option Elab.async false
set_option linter.all false
set_option maxRecDepth 100000
set_option maxHeartbeats 4000000
namespace Rw
open PySem PySem.Spec PyProof.Rows L2
/-- rows of numbers, each a list or a tuple -/
inductive Like : List PyData → List (List Int) → Prop
  | nil : Like [] []
  | cons {d : PyData} {r : List Int} {ds : List PyData} {m : List (List Int)} : d = tupI r ∨ d = lstI r → Like ds m → Like (d :: ds) (r :: m)
theorem Like.snoc {ds : List PyData} {m : List (List Int)} {d : PyData} {r : List Int} (a : Like ds m) (h : d = tupI r ∨ d = lstI r) : Like (ds ++ [d]) (m ++ [r]) := by
  induction a with
  | nil => exact .cons h .nil
  | cons k _ ih => exact .cons k ih
theorem Like.len {ds : List PyData} {m : List (List Int)} (a : Like ds m) : ds.length = m.length := by
  induction a with
  | nil => rfl
  | cons k _ ih => rw [List.length_cons, List.length_cons, ih]
theorem Like.mem {ds : List PyData} {m : List (List Int)} (a : Like ds m) : ∀ d, d ∈ ds → ∃ r, r ∈ m ∧ (d = tupI r ∨ d = lstI r) := by
  induction a with
  | nil => intro d hd; cases hd
  | cons k _ ih =>
    intro d hd
    rcases List.mem_cons.mp hd with z | z
    · rw [z]; exact ⟨_, List.mem_cons_self, k⟩
    · obtain ⟨r, hr, h⟩ := ih d z
      exact ⟨r, List.mem_cons_of_mem _ hr, h⟩
end Rw
set_option Elab.async false
set_option linter.all false
set_option maxRecDepth 100000
set_option maxHeartbeats 4000000
namespace Rw
open PySem PySem.Spec PyProof.Rows L2
structure Dr where
  x : Str
  q : Int
  ss : List Nat
  ms : List (List (List Int))
abbrev RowD (C : Addr) (H : Hp) (a : Addr) (d : Dr) : Prop := RowOf C H a d.x d.q d.ss d.ms
abbrev GoodD (d : Dr) : Prop := Good d.x d.q d.ss d.ms
inductive RowsL (C : Addr) (H : Hp) : List V → List Dr → Prop
  | nil : RowsL C H [] []
  | cons {a : Addr} {d : Dr} {vs : List V} {ds : List Dr} : RowD C H a d → RowsL C H vs ds → RowsL C H (.ref a :: vs) (d :: ds)
theorem RowsL.len {C : Addr} {H : Hp} {vs : List V} {ds : List Dr} (h : RowsL C H vs ds) : vs.length = ds.length := by
  induction h with
  | nil => rfl
  | cons _ _ ih => rw [List.length_cons, List.length_cons, ih]
theorem RowsL.move {C : Addr} {H H' : Hp} {vs : List V} {ds : List Dr} (k : ∀ a d, RowD C H a d → RowD C H' a d) (h : RowsL C H vs ds) : RowsL C H' vs ds := by
  induction h with
  | nil => exact .nil
  | cons r _ ih => exact .cons (k _ _ r) ih
theorem RowsL.app {C : Addr} {H : Hp} {vs us : List V} {ds es : List Dr} (h : RowsL C H vs ds) (g : RowsL C H us es) : RowsL C H (vs ++ us) (ds ++ es) := by
  induction h with
  | nil => exact g
  | cons r _ ih => exact .cons r ih
/-- the rows ahead (the oldest first), the present one, the rows behind (the one due next first) -/
structure St where
  past : List Dr
  here : Dr
  later : List Dr
structure GoodS (n : Nat) (s : St) : Prop where
  p : ∀ d, d ∈ s.past → GoodD d
  h : GoodD s.here
  l : ∀ d, d ∈ s.later → GoodD d
  n : s.past.length + s.later.length ≤ n
def Str0 (D : Addr) (H : Hp) (a dx R tp tu : Addr) : Prop := H a = some (.ins D dx [("_row", .ref R), ("_past", .ref tp), ("_undone", .ref tu)])
structure StrIn (D C : Addr) (H : Hp) (a dx R tp tu : Addr) (ps us : List V) (s : St) : Prop where
  o : Str0 D H a dx R tp tu
  r : RowD C H R s.here
  ep : H tp = some (.tup ps)
  p : RowsL C H ps s.past
  eu : H tu = some (.tup us)
  u : RowsL C H us s.later.reverse
def StrAt (D C : Addr) (H : Hp) (a : Addr) (s : St) : Prop := ∃ dx R tp tu ps us, StrIn D C H a dx R tp tu ps us s
theorem StrAt.keep {D C a : Addr} {H H' : Hp} {s : St} (h : StrAt D C H a s) (k : Same H H') : StrAt D C H' a s := by
  obtain ⟨dx, R, tp, tu, ps, us, i⟩ := h
  exact ⟨dx, R, tp, tu, ps, us, k _ _ i.o, i.r.keep k, k _ _ i.ep, i.p.move fun _ _ r => RowAt.keep r k, k _ _ i.eu, i.u.move fun _ _ r => RowAt.keep r k⟩
theorem StrAt.lt {D C a : Addr} {H H' : Hp} {s : St} (h : StrAt D C H a s) (k : Lt H H') : StrAt D C H' a s := by
  obtain ⟨dx, R, tp, tu, ps, us, i⟩ := h
  exact ⟨dx, R, tp, tu, ps, us, k _ _ i.o (fun _ z => nomatch z), row_lt i.r k, k _ _ i.ep (fun _ z => nomatch z), i.p.move fun _ _ r => row_lt r k, k _ _ i.eu (fun _ z => nomatch z), i.u.move fun _ _ r => row_lt r k⟩
/-- a row is kept where a stream changes -/
theorem row_go {D C b dx : Addr} {fs : List (Str × V)} {H H' : Hp} (ne : C ≠ D) (e : H b = some (.ins D dx fs)) (g : Grow b H H') {a : Addr} {d : Dr} (r : RowD C H a d) : RowD C H' a d := by
  obtain ⟨dy, ts, tm, h1, h2, h3⟩ := r
  have ab : a ≠ b := fun z => by
    rw [z, e] at h1
    injection Option.some.inj h1 with h4
    exact ne h4.symm
  exact ⟨dy, ts, tm, g _ _ ab h1, h2.keeps (keeps_ins e g), h3.keeps (keeps_ins e g)⟩
theorem StrIn.lasts {D C a b dx R tp tu : Addr} {ps us : List V} {H H' : Hp} {s : St} {dy : Addr} {fs : List (Str × V)} (i : StrIn D C H a dx R tp tu ps us s) (ne : C ≠ D) (e : H b = some (.ins D dy fs)) (g : Grow b H H') : RowD C H' R s.here ∧ H' tp = some (.tup ps) ∧ RowsL C H' ps s.past ∧ H' tu = some (.tup us) ∧ RowsL C H' us s.later.reverse :=
  ⟨row_go ne e g i.r, (keeps_ins e g).t _ _ i.ep, i.p.move fun _ _ r => row_go ne e g r, (keeps_ins e g).t _ _ i.eu, i.u.move fun _ _ r => row_go ne e g r⟩
theorem StrAt.go {D C a b : Addr} {H H' : Hp} {s t : St} (h : StrAt D C H a s) (h2 : StrAt D C H b t) (ab : a ≠ b) (ne : C ≠ D) (g : Grow b H H') : StrAt D C H' a s := by
  obtain ⟨dx, R, tp, tu, ps, us, i⟩ := h
  obtain ⟨dy, _, _, _, _, _, j⟩ := h2
  obtain ⟨h1, h2, h3, h4, h5⟩ := i.lasts ne j.o g
  exact ⟨dx, R, tp, tu, ps, us, g _ _ ab i.o, h1, h2, h3, h4, h5⟩
theorem StrAt.keeps {D C a : Addr} {H H' : Hp} {s : St} (h : StrAt D C H a s) (g : Grow a H H') : Keeps H H' := by
  obtain ⟨dx, R, tp, tu, ps, us, i⟩ := h
  exact keeps_ins i.o g
theorem StrAt.ins {D C a : Addr} {H : Hp} {s : St} (h : StrAt D C H a s) : ∃ dx fs, H a = some (.ins D dx fs) := by
  obtain ⟨dx, R, tp, tu, ps, us, i⟩ := h
  exact ⟨_, _, i.o⟩
end Rw
set_option Elab.async false
set_option linter.all false
set_option maxRecDepth 100000
set_option maxHeartbeats 4000000
namespace Rw
open PySem PySem.Spec PyProof.Rows L2
section
variable {X : Cx}
def rReprA : List V → Hp → VK → Prop := fun xs H Q => ∃ (v : V) (d : PyData), xs = [v] ∧ Any H v d ∧ d.showable = true ∧ d.depth ≤ 60 ∧ d.shown.length ≤ sizeLine ∧ Q (.str d.shown) H
theorem call_reprA (gu : X.A.guards = some []) (hu : X.A.units + 64 < cLine) : CallR X (.builtin "repr") rReprA := by
  intro pins s σ H xs us Q I r h
  obtain ⟨v, d, rfl, an, sh, dp, sz, q⟩ := h
  cases v with
  | ref a => exact call_repr gu hu pins s σ H _ us Q I r ⟨a, d, rfl, an, sh, dp, sz, q⟩
  | _ =>
    obtain ⟨u, rfl, ru⟩ := vals1 r
    cases an <;> first
      | (cases (show u = Value.none from ru); exact PySem.P.repr_of_none ⟨V.str "None", H, I.tok _, ⟨_, rfl⟩, by simpa only [PyData.shown] using q⟩)
      | (cases (show u = Value.bool _ from ru); exact PySem.P.repr_of_bool ⟨V.str _, H, I.tok _, ⟨_, rfl⟩, by simpa only [PyData.shown] using q⟩)
      | (obtain ⟨t, rfl⟩ := (show ∃ t, u = Value.int _ t from ru); exact PySem.P.repr_of_int (by simpa [PyData.showable] using sh) ⟨V.str _, H, I.tok _, ⟨_, rfl⟩, by simpa only [PyData.shown] using q⟩)
      | (obtain ⟨t, rfl⟩ := (show ∃ t, u = Value.str _ t from ru); exact PySem.P.repr_of_str ⟨V.str _, H, I.tok _, ⟨_, rfl⟩, by simpa only [PyData.shown] using q⟩ (by simpa only [PyData.shown] using sz))
end
end Rw
set_option Elab.async false
set_option linter.all false
set_option maxRecDepth 100000
set_option maxHeartbeats 800000
namespace Rw
open PySem PySem.Spec PyProof.Rows L2
def MOk (M : List Addr) (H : Hp) : Prop := ∀ b, b ∈ M → ∃ o, H b = some o ∧ ∀ xs, o ≠ .tup xs
theorem MOk.new {M : List Addr} {H : Hp} {l : Addr} (m : MOk M H) (h : H l = none) : l ∉ M := fun z => by
  obtain ⟨o, e, _⟩ := m l z
  rw [h] at e
  cases e
theorem MOk.keep {M : List Addr} {H H' : Hp} (m : MOk M H) (k : Same H H') : MOk M H' := fun b hb => by
  obtain ⟨o, e, n⟩ := m b hb
  exact ⟨o, k _ _ e, n⟩
theorem MOk.grow {M : List Addr} {H H' : Hp} {p : Addr} {o : HO} (m : MOk M H) (g : Grow p H H') (hp : H' p = some o) (n : ∀ xs, o ≠ .tup xs) : MOk M H' := fun b hb => by
  by_cases z : b = p
  · rw [z]; exact ⟨o, hp, n⟩
  · obtain ⟨u, e, nu⟩ := m b hb
    exact ⟨u, g _ _ z e, nu⟩
theorem MOk.box {M : List Addr} {H H' : Hp} {p : Addr} {n : Nat} (m : MOk M H) (g : Grow p H H') (b : Bx H' p n) : MOk M H' := by
  obtain ⟨xs, e⟩ := bx_at b
  exact m.grow g e fun _ z => by cases z
theorem GoodS.more {n m : Nat} {s : St} (g : GoodS n s) (h : n ≤ m) : GoodS m s := ⟨g.p, g.h, g.l, Nat.le_trans g.n h⟩
end Rw
set_option Elab.async false
set_option linter.all false
set_option maxRecDepth 100000
set_option maxHeartbeats 800000
namespace Rw
open PySem PySem.Spec PyProof.Rows L2
def z7 : List Int := [0, 0, 0, 0, 0, 0, 0]
end Rw
set_option Elab.async false
set_option linter.all false
set_option maxRecDepth 100000
set_option maxHeartbeats 800000
namespace Rw
open PySem PySem.Spec PyProof.Rows L2
end Rw
set_option Elab.async false
set_option linter.all false
set_option maxRecDepth 100000
set_option maxHeartbeats 800000
namespace Rw
open PySem PySem.Spec PyProof.Rows L2
section
variable {X : Cx}
theorem pe_app (K : PySem.W.Frag) {o e : Expr} {es : List Expr} {to : TE} {t : TA} {apos cpos : Pos} (ho : PE X o to) (ha : PA X (e :: es) t) (eK : X.K = K := by rfl)
    (hbase : attributeBase o "append" X.env (eval o X.env) = eval o X.env := by rfl)
    (hfew : ((backTo cpos (starEach (e :: es) X.env)).all (fun x => !x.1) && (backToKw cpos (keywordEach [] X.env)).all (fun x => x.1.isSome)
      && decide ((e :: es).length + ([] : List Keyword).length + (if ([] : List Keyword).isEmpty then 0 else 1) < 30)) = true := by rfl)
    (hline : (apos.endLine == cpos.line) = true := by rfl) (hs : starEach (e :: es) X.env = (false, eval e X.env) :: starEach es X.env := by rfl) (hplain : (backTo cpos (starEach es X.env)).any (·.1) = false := by rfl) :
    PE X (.Call (.Attribute o "append" apos) (e :: es) [] cpos) (tBM K "list" rAppend to t) := by
  subst eK
  exact pe_bm PySem.F.plainAttrs_list PySem.F.slot_list_append PySem.F.type_list_append mt_append ho ha hbase hfew hline hs hplain
end
end Rw
set_option Elab.async false
set_option linter.all false
set_option maxRecDepth 100000
set_option maxHeartbeats 4000000
set_option pp.maxSteps 300
namespace Rw
open PySem PySem.Spec PyProof.Rows L2
def spApart (c : Nat → Addr) : Sp := fun vs H Q _ => ∃ (l : Addr) (L : List Addr) (v : V), vs = [.ref l] ∧ H l = some (.lst (L.map V.ref)) ∧ AccX c v H 0 30 L ∧ ∀ H', Same H H' → Q (.bl true) H'
def spRaised : Sp := fun vs H Q _ => ∃ p : Int, vs = [.int p] ∧ p ∈ primesL ∧ ∀ H', Same H H' → Q (.bl true) H'
def raisedD : PyData := .list [.list [.str "base", .bool true], .list [.str "prime", .int 4], .list [.str "pattern", .str "><-"]]
theorem bools_any {H : Hp} : ∀ (L : List Nat) (f : Nat → Bool), AnyL H (L.map fun j => V.bl (f j)) (L.map fun j => PyData.bool (f j))
  | [], f => .nil
  | j :: L, f => .cons (.bl _) (bools_any L f)
theorem bools_lay : ∀ (L : List Nat) (f : Nat → Bool), (PyData.list (L.map fun j => PyData.bool (f j))).canLay0 = true
  | [], f => rfl
  | j :: L, f => bools_lay L f
theorem bools_dep (L : List Nat) (f : Nat → Bool) : (PyData.list (L.map fun j => PyData.bool (f j))).depth ≤ 64 := by
  have : PyData.depthAll (L.map fun j => PyData.bool (f j)) ≤ 3 := dep_le fun d hd => by
    obtain ⟨i, _, rfl⟩ := List.mem_map.mp hd
    simp only [PyData.depth]
    omega
  simp only [PyData.depth]
  omega
end Rw
namespace K1
open PySem PySem.Spec PyProof.Rows L2 Rw
abbrev sApart : Stmt := top 60
abbrev NApart : List Str := ["_law_made_here", "_law_k", "_law_j"]
theorem scApart : FnScope NApart ["_law_made_here"] (defScope sApart) := ⟨rfl, rfl, rfl, by decide +kernel, rfl, by decide +kernel, by decide +kernel⟩
abbrev sRaised : Stmt := top 61
abbrev NRaised : List Str := ["_law_p", "_law_told", "_law_e"]
theorem scRaised : FnScope NRaised ["_law_p"] (defScope sRaised) := ⟨rfl, rfl, rfl, by decide +kernel, rfl, by decide +kernel, by decide +kernel⟩
section
variable {P : Program} {w : World} {K : PySem.W.Frag} {mg : Str → Option Value} {base : Heap} {c : Nat → Addr} {CR : Addr}
theorem okApart {f : Addr} {fd : FuncData} (F : Fun K "_law_apart" "_law_apart" sApart f fd) (R : Ers K mg c CR) (zr : mg "range" = none) (zl : mg "len" = none) (zi : mg "isinstance" = none) (zv : mg "ValueError" = none) (GK : Own P w K mg base CX0 1 "_law_kinds" ["_law_e"] [] (spKinds c)) :
    FnOk P w K mg base CX0 2 f fd ["_law_made_here"] (spApart c) := by
  refine F.ok scApart (fun vs H Q E h => ?_) (fun cdv A outer s H vs Q E hr h => ?_)
  · obtain ⟨l, L, v, rfl, _⟩ := h
    rfl
  · obtain ⟨l, L, v, rfl, eL, ac, q⟩ := h
    refine ⟨_, (pss_cons (ps_for PassesOwn.never rfl (pi_range1 rfl zr (pa_cons (pe_callB call_len_seq (by rfl) zl PySem.boot_len (pa_cons (pv 0) pa_nil)) pa_nil)) (pg_name (i := 1) scApart.nd rfl (Or.inr rfl))
      (pss_cons (ps_if (PW.pt (pw_or (pt_not (pt_val (pe_callB call_isX (by rfl) zi (by decide +kernel) (pa_cons (pe_ix ix_list (pv 0) (pv 1) (fun _ _ => rfl)) (pa_cons (pe_glob (v := .ref CR) rfl R.gR rfl) pa_nil))))) (pw_or1 (pt_not (pt_val (pe_callB call_isX (by rfl) zi (by decide +kernel) (pa_cons (pe_ix ix_list (pv 0) (pv 1) (fun _ _ => rfl)) (pa_cons (pe_bltn (v := .ty "ValueError") rfl zv (by decide +kernel) rfl) pa_nil)))))))) (pss_one (ps_ret pe_bl)) pss_nil)
      (pss_one (ps_if (pt_cmpR (op_neD hr.units) (pe_own GK (hr.mono (by decide)) pass0 (pa_cons (pe_ix ix_list (pv 0) (pv 1) (fun _ _ => rfl)) pa_nil)) (pe_lc (own := [("_law_j", 2)]) (g := gName 2) (tt := tYes) rfl scApart.nd (pi_range1 rfl zr (pa_cons (pe_callB call_len_seq (by rfl) zl PySem.boot_len (pa_cons (pv 0) pa_nil)) pa_nil)) (blkOk_by (N := NApart) (sc := defScope sApart) (by decide +kernel)) (fun _ _ _ _ _ => (pg_name (i := 2) scApart.nd rfl (Or.inl rfl))) (fun _ _ _ _ _ => pts_nil) (fun _ _ _ _ _ => (pe_cmpR op_eq (pv 2) (pv 1) (nomark _)))) (by rfl)) (pss_one (ps_ret pe_bl)) pss_nil))))
    (pss_one (ps_ret pe_bl))), ?_⟩
    have lL : (L.map V.ref).length = 30 := by rw [List.length_map, ac.1]
    refine ⟨_, rfl, l, _, rfl, .inl (SqL.of eL), _, rfl, by omega, by rw [lL]; decide, ?_⟩
    rw [lL]
    refine for_range (lo := 0) (n := 30) (fun i σ' H' => (∃ y1, σ' = [some (.ref l), y1, none]) ∧ Same H H') ⟨⟨_, rfl⟩, Same.refl _⟩ ?_ ?_
    rotate_left
    · rintro σ' H1 ⟨⟨y1, rfl⟩, k1⟩
      exact q _ k1
    rintro i σ' H1 hi ⟨⟨y1, rfl⟩, k1⟩
    have hi : i < 30 := hi
    obtain ⟨a, ea, x⟩ := ac.at_ (i := i) hi
    rw [Nat.zero_add] at x
    have ea : (L.map V.ref)[i]? = some (.ref a) := by rw [List.getElem?_map, ea] <;> rfl
    have eL1 := k1 _ _ eL
    have x1 := x.keep k1
    rw [show (0 : Int) + ((i : Nat) : Int) = ((i : Nat) : Int) by omega]
    refine ⟨_, rfl, _, rfl, l, _, _, _, rfl, rfl, SqL.of eL1, atI_nat (j := i) ea, a, c i, .ref CR, .ref CR, _, rfl, R.ic i hi, x1.held, fun _ z => z, R.kr i hi, _, rfl, iteF ?_⟩
    refine ⟨_, rfl, _, rfl, l, _, _, _, rfl, rfl, SqL.of eL1, atI_nat (j := i) ea, a, c i, .ty "ValueError", .type "ValueError", _, rfl, R.ic i hi, x1.held, fun _ z => z, R.kv i hi, _, rfl, iteF ?_⟩
    refine ⟨_, rfl, _, rfl, l, _, _, _, rfl, rfl, SqL.of eL1, atI_nat (j := i) ea, a, i, v, rfl, hi, x1, fun t H2 k2 et => ?_⟩
    have eL2 := k2 _ _ eL1
    refine ⟨_, rfl, l, _, rfl, .inl (SqL.of eL2), _, rfl, by omega, by rw [lL]; decide, fun D hD => ?_⟩
    rw [lL]
    refine lc_same (walk_rng (n := 30)) (by decide) hD (fun _ _ => trivial) (fun j => .bool (decide (i = j))) ?_ ?_
    · rintro j y H3 hj rfl s3 _
      refine ⟨rfl, fun k hk => ⟨_, rfl, _, rfl, rfl, ?_⟩⟩
      refine hk _ _ (Same.refl _) ?_
      have e : decide (V.int ((j : Nat) : Int) = V.int ((i : Nat) : Int)) = decide (i = j) := by
        by_cases z : i = j
        · rw [z, decide_eq_true rfl, decide_eq_true rfl]
        · rw [decide_eq_false z, decide_eq_false fun y => z (by have := V.int.inj y; omega)]
      rw [e]
      exact .bl _
    · intro H3 acc s3 eD aD
      refine ne_same (d := .list ((List.range 30).map fun j => PyData.bool (decide (i = j)))) (.lst (s3 _ _ et) (bools_any _ _)) (.lst eD (anyL_keep same_del aD)) (bools_lay _ _) (bools_dep _ _) ⟨_, rfl, iteF ?_⟩
      exact ⟨⟨_, rfl⟩, k1.trans (k2.trans s3)⟩
theorem okRaised {f : Addr} {fd : FuncData} (F : Fun K "_law_raised" "_law_raised" sRaised f fd) (R : Ers K mg c CR) (zi : mg "isinstance" = none) (nR : PySem.W.exmOne K (.ref (c 1)) (.ref CR) = some true) (nP : PySem.W.exmOne K (.ref (c 0)) (.ref (c 0)) = some true) (nT : PySem.W.exmOne K (.ref (c 5)) (.ref (c 5)) = some true)
    (GI : Own P w K mg base (L2.CX P w) 6 "inverse" ["number", "prime"] [] (spInvR (c 1))) (GL : Own P w K mg base (L2.CX P w) 6 "led" ["prime", "vector", "matrix", "width"] [] (spLedR (c 0))) (GB : Own P w K mg base (L2.CX P w) 5 "bars" ["pattern"] [] (spBarsR (c 5))) :
    FnOk P w K mg base CX0 7 f fd ["_law_p"] spRaised := by
  refine F.ok scRaised (fun vs H Q E h => ?_) (fun cdv A outer s H vs Q E hr h => ?_)
  · obtain ⟨p, rfl, _⟩ := h
    rfl
  · obtain ⟨p, rfl, hp, q⟩ := h
    refine ⟨_, (pss_cons (ps_set (i := 1) scRaised.nd rfl (Or.inl rfl) (pe_lst pa_nil))
    (pss_cons (ps_tries (tb := fun W => tDrop (tOwnS (spInvR (c 1)) [] W (tCons (tVar 0) (tCons (tVar 0) tNil)))) rfl rfl scRaised.nd takes0 (fun W pn xe tk pw => pss_one (ps_expr (pe_ownS (W := W) GI (hr.mono (by decide)) (fun σ => passAt tk σ) (pa_cons (pv 0) (pa_cons (pv 0) pa_nil)))))
      (.as (i := 2) rfl rfl ⟨rfl, by decide, .inl R.gR⟩ (fun a oe cls d pn hz hf => pss_one (ps_expr (pe_app K (pv 1) (pa_cons (pe_lst (pa_cons pe_str (pa_cons (pe_callB (call_isS K hz hf) (by rfl) zi (by decide +kernel) (pa_cons (pv 2) (pa_cons (pe_glob (v := .ref (c 1)) rfl R.e1.e.g rfl) pa_nil))) pa_nil))) pa_nil)))) .nil))
    (pss_cons (ps_tries (tb := fun W => tDrop (tOwnS (spLedR (c 0)) [] W (tCons (tC (.int 4)) (tCons (tTup (tCons (tC (.int 1)) tNil)) (tCons (tLst (tCons (tTup (tCons (tC (.int 1)) tNil)) tNil)) (tCons (tC (.int 1)) tNil)))))) rfl rfl scRaised.nd takes0
        (fun W pn xe tk pw => pss_one (ps_expr (pe_ownS (W := W) GL (hr.mono (by decide)) (fun σ => passAt tk σ) (pa_cons pe_int (pa_cons (pe_tup (pa_cons pe_int pa_nil)) (pa_cons (pe_lst (pa_cons (pe_tup (pa_cons pe_int pa_nil)) pa_nil)) (pa_cons pe_int pa_nil)))))))
      (.as (i := 2) rfl rfl ⟨rfl, by decide, .inl R.e0.e.g⟩ (fun a oe cls d pn hz hf => pss_one (ps_expr (pe_app K (pv 1) (pa_cons (pe_lst (pa_cons pe_str (pa_cons (pe_xf R.e0.e.xf R.e0.e.no hz hf (pv 2)) pa_nil))) pa_nil)))) .nil))
    (pss_cons (ps_tries (tb := fun W => tDrop (tOwnS (spBarsR (c 5)) [] W (tCons (tC (.str "><-")) tNil))) rfl rfl scRaised.nd takes0 (fun W pn xe tk pw => pss_one (ps_expr (pe_ownS (W := W) GB (hr.mono (by decide)) (fun σ => passAt tk σ) (pa_cons pe_str pa_nil))))
      (.as (i := 2) rfl rfl ⟨rfl, by decide, .inl R.e5.e.g⟩ (fun a oe cls d pn hz hf => pss_one (ps_expr (pe_app K (pv 1) (pa_cons (pe_lst (pa_cons pe_str (pa_cons (pe_xf R.e5.e.xf R.e5.e.no hz hf (pv 2)) pa_nil))) pa_nil)))) .nil))
    (pss_one (ps_ret (pe_cmpR (op_eqD hr.units) (pv 1) (pe_lst (pa_cons (pe_lst (pa_cons pe_str (pa_cons pe_bl pa_nil))) (pa_cons (pe_lst (pa_cons pe_str (pa_cons pe_int pa_nil))) (pa_cons (pe_lst (pa_cons pe_str (pa_cons pe_str pa_nil))) pa_nil)))) (by rfl)))))))), ?_⟩
    refine ⟨by show 0 ≤ sizeLine; decide, fun T hT => ?_⟩
    have k1 := same_new (o := .lst []) hT
    have eT : (upd H T (.lst [])) T = some (.lst []) := upd_same
    generalize upd H T (.lst []) = H1 at k1 eT ⊢
    refine ⟨_, rfl, _, rfl, p, rfl, hp, fun d H2 k2 hd xd => ?_⟩
    refine ⟨true, nR, fun _ a ha => ?_, fun z => (nomatch z)⟩
    have eT2 := k2 _ _ eT
    refine ⟨_, rfl, .inl ⟨rfl, _, SqL.of eT2⟩, ?_⟩
    refine ⟨_, rfl, c 1, d, _, .ref (c 1), .ref (c 1), _, rfl, rfl, R.ic 1 (by decide), rfl, xd, fun _ z => z, R.kit 1 1 (by decide) (by decide), by show 2 ≤ sizeLine; decide, fun u hu => ?_⟩
    have u3 := same_new (o := .lst [.str "base", .bl (decide (1 = 1))]) hu
    have eu3 : (upd H2 u (.lst [.str "base", .bl (decide (1 = 1))])) u = some (.lst [.str "base", .bl true]) := upd_same
    have eT3 := u3 _ _ eT2
    have k13 := (k1.trans k2).trans u3
    generalize upd H2 u (.lst [.str "base", .bl (decide (1 = 1))]) = H3 at u3 eu3 eT3 k13 ⊢
    have nuT : u ≠ T := fun z => by rw [z, eT2] at hu; cases hu
    refine ⟨T, _, _, rfl, rfl, eT3, by show 0 < sizeLine; decide, ?_⟩
    have k4 : Same H (upd H3 T (.lst ([] ++ [.ref u]))) := fun b o e => by rw [upd_ne (ne_of_none e hT)]; exact k13 _ _ e
    have eT4 : (upd H3 T (.lst ([] ++ [.ref u]))) T = some (.lst [.ref u]) := upd_same
    have eu4 : (upd H3 T (.lst ([] ++ [.ref u]))) u = some (.lst [.str "base", .bl true]) := by rw [upd_ne nuT]; exact eu3
    clear eu3 eT3 k13 u3 eT2 hu xd hd
    generalize upd H3 T (.lst ([] ++ [.ref u])) = H4 at k4 eT4 eu4 ⊢
    -- led
    refine ⟨by show 1 ≤ sizeLine; decide, fun t1 h1 => ?_⟩
    have m1 := same_new (o := .tup [.int 1]) h1
    have k5 := k4.trans m1
    have eT5 := m1 _ _ eT4
    have eu5 := m1 _ _ eu4
    generalize upd H4 t1 (.tup [.int 1]) = H5 at m1 k5 eT5 eu5 ⊢
    refine ⟨by show 1 ≤ sizeLine; decide, fun t2 h2 => ?_⟩
    have m2 := same_new (o := .tup [.int 1]) h2
    have k6 := k5.trans m2
    have eT6 := m2 _ _ eT5
    have eu6 := m2 _ _ eu5
    generalize upd H5 t2 (.tup [.int 1]) = H6 at m2 k6 eT6 eu6 ⊢
    refine ⟨by show 1 ≤ sizeLine; decide, fun t3 h3 => ?_⟩
    have m3 := same_new (o := .lst [.ref t2]) h3
    have k7 := k6.trans m3
    have eT7 := m3 _ _ eT6
    have eu7 := m3 _ _ eu6
    generalize upd H6 t3 (.lst [.ref t2]) = H7 at m3 k7 eT7 eu7 ⊢
    refine ⟨_, _, _, rfl, fun d H8 m4 hd xd => ⟨true, nP, fun _ a ha => ?_, fun z => (nomatch z)⟩⟩
    have k8 := k7.trans m4
    have eT8 := m4 _ _ eT7
    have eu8 := m4 _ _ eu7
    refine ⟨_, rfl, .inl ⟨rfl, _, SqL.of eT8⟩, ?_⟩
    refine ⟨_, rfl, rfl, rfl, d, _, .int 4, rfl, xd, rfl, by show 2 ≤ sizeLine; decide, fun u2 hu2 => ?_⟩
    have m5 := same_new (o := .lst [.str "prime", .int 4]) hu2
    have k9 := k8.trans m5
    have eT9 := m5 _ _ eT8
    have eu9 := m5 _ _ eu8
    have ev9 : (upd H8 u2 (.lst [.str "prime", .int 4])) u2 = some (.lst [.str "prime", .int 4]) := upd_same
    have nvT : u2 ≠ T := fun z => by rw [z, eT8] at hu2; cases hu2
    generalize upd H8 u2 (.lst [.str "prime", .int 4]) = H9 at m5 k9 eT9 eu9 ev9 ⊢
    refine ⟨T, _, _, rfl, rfl, eT9, by show 1 < sizeLine; decide, ?_⟩
    have k10 : Same H (upd H9 T (.lst ([.ref u] ++ [.ref u2]))) := fun b o e => by rw [upd_ne (ne_of_none e hT)]; exact k9 _ _ e
    have eT10 : (upd H9 T (.lst ([.ref u] ++ [.ref u2]))) T = some (.lst [.ref u, .ref u2]) := upd_same
    have eu10 : (upd H9 T (.lst ([.ref u] ++ [.ref u2]))) u = some (.lst [.str "base", .bl true]) := by rw [upd_ne nuT]; exact eu9
    have ev10 : (upd H9 T (.lst ([.ref u] ++ [.ref u2]))) u2 = some (.lst [.str "prime", .int 4]) := by rw [upd_ne nvT]; exact ev9
    clear eu9 ev9 eT9 k9 m5 eT8 hu2 xd hd h1 h2 h3
    generalize upd H9 T (.lst ([.ref u] ++ [.ref u2])) = H10 at k10 eT10 eu10 ev10 ⊢
    -- bars
    refine ⟨rfl, fun d H11 m6 hd xd => ⟨true, nT, fun _ a ha => ?_, fun z => (nomatch z)⟩⟩
    have k11 := k10.trans m6
    have eT11 := m6 _ _ eT10
    have eu11 := m6 _ _ eu10
    have ev11 := m6 _ _ ev10
    refine ⟨_, rfl, .inl ⟨rfl, _, SqL.of eT11⟩, ?_⟩
    refine ⟨_, rfl, rfl, rfl, d, _, .str "><-", rfl, xd, rfl, by show 2 ≤ sizeLine; decide, fun u3 hu3 => ?_⟩
    have m7 := same_new (o := .lst [.str "pattern", .str "><-"]) hu3
    have k12 := k11.trans m7
    have eT12 := m7 _ _ eT11
    have eu12 := m7 _ _ eu11
    have ev12 := m7 _ _ ev11
    have ew12 : (upd H11 u3 (.lst [.str "pattern", .str "><-"])) u3 = some (.lst [.str "pattern", .str "><-"]) := upd_same
    have nwT : u3 ≠ T := fun z => by rw [z, eT11] at hu3; cases hu3
    generalize upd H11 u3 (.lst [.str "pattern", .str "><-"]) = H12 at m7 k12 eT12 eu12 ev12 ew12 ⊢
    refine ⟨T, _, _, rfl, rfl, eT12, by show 2 < sizeLine; decide, ?_⟩
    have k13 : Same H (upd H12 T (.lst ([.ref u, .ref u2] ++ [.ref u3]))) := fun b o e => by rw [upd_ne (ne_of_none e hT)]; exact k12 _ _ e
    have aT : Any (upd H12 T (.lst ([.ref u, .ref u2] ++ [.ref u3]))) (.ref T) raisedD := .lst upd_same (.cons (.lst (by rw [upd_ne nuT]; exact eu12) (.cons (.str _) (.cons (.bl _) .nil))) (.cons (.lst (by rw [upd_ne nvT]; exact ev12) (.cons (.str _) (.cons (.int _) .nil))) (.cons (.lst (by rw [upd_ne nwT]; exact ew12) (.cons (.str _) (.cons (.str _) .nil))) .nil)))
    generalize upd H12 T (.lst ([.ref u, .ref u2] ++ [.ref u3])) = H13 at k13 aT ⊢
    refine ⟨_, rfl, by show 2 ≤ sizeLine; decide, fun q1 hq1 => ?_⟩
    have j1 := same_new (o := .lst [.str "base", .bl true]) hq1
    have eq1 : (upd H13 q1 (.lst [.str "base", .bl true])) q1 = some (.lst [.str "base", .bl true]) := upd_same
    generalize upd H13 q1 (.lst [.str "base", .bl true]) = H14 at j1 eq1 ⊢
    refine ⟨by show 2 ≤ sizeLine; decide, fun q2 hq2 => ?_⟩
    have j2 := same_new (o := .lst [.str "prime", .int 4]) hq2
    have eq2 : (upd H14 q2 (.lst [.str "prime", .int 4])) q2 = some (.lst [.str "prime", .int 4]) := upd_same
    generalize upd H14 q2 (.lst [.str "prime", .int 4]) = H15 at j2 eq2 ⊢
    refine ⟨by show 2 ≤ sizeLine; decide, fun q3 hq3 => ?_⟩
    have j3 := same_new (o := .lst [.str "pattern", .str "><-"]) hq3
    have eq3 : (upd H15 q3 (.lst [.str "pattern", .str "><-"])) q3 = some (.lst [.str "pattern", .str "><-"]) := upd_same
    generalize upd H15 q3 (.lst [.str "pattern", .str "><-"]) = H16 at j3 eq3 ⊢
    refine ⟨by show 3 ≤ sizeLine; decide, fun q4 hq4 => ?_⟩
    have j4 := same_new (o := .lst [.ref q1, .ref q2, .ref q3]) hq4
    have jj := ((j1.trans j2).trans j3).trans j4
    refine eq_same (d := raisedD) (aT.keep jj) (.lst upd_same (.cons (.lst (j4 _ _ (j3 _ _ (j2 _ _ eq1))) (.cons (.str _) (.cons (.bl _) .nil))) (.cons (.lst (j4 _ _ (j3 _ _ eq2)) (.cons (.str _) (.cons (.int _) .nil))) (.cons (.lst (j4 _ _ eq3) (.cons (.str _) (.cons (.str _) .nil))) .nil)))) (by decide +kernel) (by decide +kernel) (q _ (k13.trans jj))
end
end K1
set_option Elab.async false
set_option linter.all false
set_option exponentiation.threshold 3000
namespace Rw
abbrev Nums := List ((Nat × Nat) × Nat)
end Rw
set_option Elab.async false
set_option linter.all false
set_option maxRecDepth 100000
set_option maxHeartbeats 800000
namespace Rw
open PySem PySem.Spec PyProof.Rows L2
end Rw
set_option Elab.async false
set_option linter.all false
set_option maxRecDepth 100000
set_option maxHeartbeats 1500000
namespace Rw
open PySem PySem.Spec PyProof.Rows L2
end Rw
set_option Elab.async false
set_option linter.all false
set_option maxRecDepth 100000
set_option maxHeartbeats 4000000
namespace Rw
open PySem PySem.Spec PyProof.Rows L2
end Rw
set_option Elab.async false
set_option linter.all false
set_option maxRecDepth 100000
set_option maxHeartbeats 4000000
namespace Rw
open PySem PySem.Spec PyProof.Rows L2
end Rw
set_option Elab.async false
set_option linter.all false
set_option maxRecDepth 100000
set_option maxHeartbeats 4000000
namespace Rw
open PySem PySem.Spec PyProof.Rows L2
/-- a pair of ints that lies at p -/
def PairAt (H : Hp) (p : Addr) (b e : Nat) : Prop := H p = some (.tup [.int (b : Nat), .int (e : Nat)])
theorem PairAt.keep {H H' : Hp} {p : Addr} {b e : Nat} (h : PairAt H p b e) (k : Same H H') : PairAt H' p b e := k _ _ h
theorem PairAt.any {H : Hp} {p : Addr} {b e : Nat} (h : PairAt H p b e) : Any H (.ref p) (barD (b, e)) := .tup h (.cons (.int _) (.cons (.int _) .nil))
end Rw
set_option Elab.async false
set_option linter.all false
set_option maxRecDepth 100000
set_option maxHeartbeats 4000000
namespace Rw
open PySem PySem.Spec PyProof.Rows L2
end Rw
set_option Elab.async false
set_option linter.all false
set_option maxRecDepth 100000
set_option maxHeartbeats 4000000
namespace Rw
open PySem PySem.Spec PyProof.Rows L2
end Rw
set_option Elab.async false
set_option linter.all false
set_option maxRecDepth 100000
set_option maxHeartbeats 4000000
namespace Rw
open PySem PySem.Spec PyProof.Rows L2
end Rw
set_option Elab.async false
set_option linter.all false
set_option maxRecDepth 100000
set_option maxHeartbeats 4000000
namespace Rw
open PySem PySem.Spec PyProof.Rows L2
end Rw
set_option Elab.async false
set_option linter.all false
set_option maxRecDepth 100000
set_option maxHeartbeats 1500000
namespace Rw
open PySem PySem.Spec PyProof.Rows L2
structure CN (c n : Nat) : Prop where
  c : c ≤ 6
  n0 : 0 < n
  n : n ≤ 7
def keyT (q : Nat × Nat) : List Key := [.inl ((q.1 : Nat) : Int), .inl ((q.2 : Nat) : Int)]
end Rw
set_option Elab.async false
set_option linter.all false
set_option maxRecDepth 100000
set_option maxHeartbeats 1500000
namespace Rw
open PySem PySem.Spec PyProof.Rows L2
end Rw
set_option Elab.async false
set_option linter.all false
set_option maxRecDepth 100000
set_option maxHeartbeats 1500000
namespace Rw
open PySem PySem.Spec PyProof.Rows L2
/-- the entries of a dict of numbers -/
def nmE (q : (Nat × Nat) × Nat) : List L2.Key × V := (keyT q.1, .int ((q.2 : Nat) : Int))
def nmT (T : Nums) : List (List L2.Key × V) := T.map nmE
def NumAt (H : Hp) (d : Addr) (T : Nums) : Prop := ∃ o, H d = some (.frz o (.dT (nmT T)))
theorem NumAt.keep {H H' : Hp} {d : Addr} {T : Nums} (h : NumAt H d T) (k : Same H H') : NumAt H' d T := by
  obtain ⟨o, e⟩ := h
  exact ⟨o, k _ _ e⟩
end Rw
set_option Elab.async false
set_option linter.all false
set_option maxRecDepth 100000
set_option maxHeartbeats 1500000
set_option exponentiation.threshold 3000
namespace Rw
open PySem PySem.Spec PyProof.Rows L2
end Rw
set_option Elab.async false
set_option linter.all false
set_option maxRecDepth 100000
set_option maxHeartbeats 1500000
namespace Rw
open PySem PySem.Spec PyProof.Rows L2
theorem MOk.cons {M : List Addr} {D : Addr} {H : Hp} {xs : List V} (m : MOk M H) (e : H D = some (.lst xs)) : MOk (D :: M) H := fun b hb => by
  rcases List.mem_cons.mp hb with z | z
  · rw [z]; exact ⟨_, e, fun _ y => by cases y⟩
  · exact m b z
theorem MOk.put {M : List Addr} {D : Addr} {H : Hp} {xs : List V} (m : MOk M H) : MOk M (upd H D (.lst xs)) := fun b hb => by
  by_cases z : b = D
  · rw [z]; exact ⟨_, upd_same, fun _ y => by cases y⟩
  · rw [upd_ne z]; exact m b hb
structure Tbl (m : Nat) (rows : List (List Int)) : Prop where
  l : rows.length = m
  m1 : 1 ≤ m
  m7 : m ≤ 7
  w : ∀ i r, rows[i]? = some r → r.length + i = m
  e : ∀ r, r ∈ rows → ∀ x, x ∈ r → 0 ≤ x ∧ x < 7
theorem Tbl.len {m : Nat} {rows : List (List Int)} (t : Tbl m rows) {r : List Int} (h : r ∈ rows) : r.length ≤ 7 := by
  obtain ⟨i, hi⟩ := List.getElem?_of_mem h
  have := t.w i r hi
  have := t.m7
  omega
end Rw
set_option Elab.async false
set_option linter.all false
set_option maxRecDepth 100000
set_option maxHeartbeats 1500000
set_option exponentiation.threshold 3000
namespace Rw
open PySem PySem.Spec PyProof.Rows L2
structure PrN (p : Nat) : Prop where
  m : ((p : Nat) : Int) ∈ primesL
  l : 2 ≤ p
  h : p ≤ 13
theorem PrN.d {p : Nat} (h : PrN p) : isPr (.int ((p : Nat) : Int)) = true := decide_eq_true h.m
end Rw
set_option Elab.async false
set_option linter.all false
set_option maxRecDepth 100000
set_option maxHeartbeats 1500000
namespace Rw
open PySem PySem.Spec PyProof.Rows L2
theorem bxB_put {H : Hp} {p a : Addr} {n : Nat} {o : HO} (b : Bx H p n) (ne : a ≠ p) : Bx (upd H a o) p n := by
  obtain ⟨x, y, z, h, r⟩ := b
  exact ⟨x, y, z, by rw [upd_ne ne.symm]; exact h, r⟩
end Rw
set_option Elab.async false
set_option linter.all false
set_option maxRecDepth 100000
set_option maxHeartbeats 8000000
set_option pp.maxSteps 300
namespace Rw
open PySem PySem.Spec PyProof.Rows L2
theorem ExOf.put {c : Nat → Addr} {v : V} {H : Hp} {i : Nat} {a g : Addr} {xs : List V} {o : HO} (h : ExOf c v H i a) (eg : H g = some (.lst xs)) : ExOf c v (upd H g o) i a := by
  refine ⟨fun z => ?_, fun z => ?_⟩
  · obtain ⟨d, h1, h2⟩ := h.1 z
    exact ⟨d, by rw [upd_ne (fun y => by rw [y, eg] at h1; cases h1)]; exact h1, by rw [upd_ne (fun y => by rw [y, eg] at h2; cases h2)]; exact h2⟩
  · have h1 := h.2 z
    rw [upd_ne (fun y => by rw [y, eg] at h1; cases h1)]
    exact h1
theorem AccX.put {c : Nat → Addr} {v : V} {H : Hp} {lo n : Nat} {L : List Addr} {g : Addr} {xs : List V} {o : HO} (h : AccX c v H lo n L) (eg : H g = some (.lst xs)) : AccX c v (upd H g o) lo n L := ⟨h.1, fun i a e => (h.2 i a e).put eg⟩
theorem str_sameC (a : Str) : (!decide (V.str a = V.str a)) = false := by simp
end Rw
namespace K1
open PySem PySem.Spec PyProof.Rows L2 Rw
abbrev sLaw : Stmt := top 62
abbrev NLaw : List Str := ["_law_script", "_law_k", "_law_box_here", "_law_thing_here", "_law_other", "_law_made_here", "_law_named_here", "_law_later", "_law_told", "_law_item"]
theorem scLaw : FnScope NLaw ["_law_script"] (defScope sLaw) := ⟨rfl, rfl, rfl, by decide +kernel, rfl, by decide +kernel, by decide +kernel⟩
def spLaw (K : PySem.W.Frag) : Sp := fun vs H Q _ => ∃ (a : Addr) (ns : List Int), vs = [.ref a] ∧ SqL K H a (ns.map V.int) ∧ ns.length ≤ 63 ∧ ∀ H', Q (.bl true) H'
structure Olaw (P : Program) (w : World) (K : PySem.W.Frag) (mg : Str → Option Value) (base : Heap) (c : Nat → Addr) : Prop where
  cell : Own P w K mg base CX0 1 "_law_cell" ["_law_script", "_law_k"] [] (spCellR K)
  box : Own P w K mg base CX0 1 "_law_box" ["_law_cell_here"] [] spBoxR
  take : Own P w K mg base CX0 1 "_law_take" ["_law_box_here", "_law_many"] [] spTakeR
  thing : Own P w K mg base CX0 2 "_law_thing" ["_law_box_here"] [] spThing
  inner : Own P w K mg base CX0 1 "_law_inner" ["_law_thing_here"] [] spInner
  made : Own P w K mg base CX0 3 "_law_made" ["_law_t"] [] (spMadeX c)
  named : Own P w K mg base CX0 3 "_law_named" ["_law_t"] [] (spMadeX c)
  bare : Own P w K mg base CX0 3 "_law_bare" [] [] (spBareX c)
  fields : Own P w K mg base CX0 1 "_law_fields" ["_law_made_here"] [] (spFields c)
  apart : Own P w K mg base CX0 2 "_law_apart" ["_law_made_here"] [] (spApart c)
  raised : Own P w K mg base CX0 7 "_law_raised" ["_law_p"] [] spRaised
structure Zs (mg : Str → Option Value) : Prop where
  range : mg "range" = none
  max : mg "max" = none
  min : mg "min" = none
  len : mg "len" = none
  repr : mg "repr" = none
theorem pe_own0 {X : Cx} {CX : CXT} {k : Nat} {x : Str} {sp : Sp} {E : XK} {p pos : Pos} (F : Own X.prog X.w X.K X.mg X.base CX k x [] [] sp) (hr : Room k X.A) (hx : Passes CX X E) (hg : Gl X x := by rfl) (hdb : (x == ("__debug__" : Str)) = false := by decide) : PE X (.Call (.Name x p) [] [] pos) (tCall sp [] E tNil) := by
  obtain ⟨f, fd, ds, hm, hk, G, b, v⟩ := F.has
  exact pe_call0 G hr hg hm hk b v hx hdb
abbrev tTst (j : Nat) : TT := tTest (tOp rNe (tCB rReprA (tCons (tVar 9) tNil)) (tCB rReprA (tCons (tVar j) tNil)))
section
variable {P : Program} {w : World} {K : PySem.W.Frag} {mg : Str → Option Value} {base : Heap} {c : Nat → Addr}
theorem okLaw {f : Addr} {fd : FuncData} (F : Fun K "law" "law" sLaw f fd) (Z : Zs mg) (O : Olaw P w K mg base c) : FnG P w K mg base CX0 8 f fd ["_law_script"] (spLaw K) := by
  refine funG F scLaw (fun vs H Q E h => ?_) (fun cdv A outer s H vs Q E gu hr h => ?_)
  · obtain ⟨a, ns, rfl, _⟩ := h
    rfl
  · obtain ⟨a, ns, rfl, hs, hlen, q⟩ := h
    refine ⟨_, (pss_cons (ps_for PassesOwn.never rfl (pi_range1 rfl Z.range (pa_cons (pe_callB (call_max2 rfl) (by rfl) Z.max (by decide +kernel) (pa_cons pe_int (pa_cons (pe_callB (call_min2 rfl) (by rfl) Z.min (by decide +kernel) (pa_cons pe_int (pa_cons (pe_callB call_len_seq (by rfl) Z.len PySem.boot_len (pa_cons (pv 0) pa_nil)) pa_nil))) pa_nil))) pa_nil)) (pg_name (i := 1) scLaw.nd rfl (Or.inl rfl))
      (pss_cons (ps_set (i := 2) scLaw.nd rfl (Or.inl rfl) (pe_own O.box (hr.mono (by decide)) pass0 (pa_cons (pe_own O.cell (hr.mono (by decide)) pass0 (pa_cons (pv 0) (pa_cons (pv 1) pa_nil))) pa_nil)))
      (pss_cons (ps_asg (pe_tup (pa_cons (pe_own O.thing (hr.mono (by decide)) pass0 (pa_cons (pv 2) pa_nil)) (pa_cons (pe_own O.thing (hr.mono (by decide)) pass0 (pa_cons (pv 2) pa_nil)) pa_nil))) (pg_tup rfl (pgs_cons (pg_name (i := 3) scLaw.nd rfl (Or.inr rfl)) (pgs_cons (pg_name (i := 4) scLaw.nd rfl (Or.inr rfl)) pgs_nil))))
      (pss_cons (ps_set (i := 5) scLaw.nd rfl (Or.inl rfl) (pe_op op_cat (pe_own O.made (hr.mono (by decide)) pass0 (pa_cons (pv 3) pa_nil)) (pe_own0 O.bare (hr.mono (by decide)) pass0)))
      (pss_cons (ps_set (i := 6) scLaw.nd rfl (Or.inl rfl) (pe_op op_cat (pe_own O.named (hr.mono (by decide)) pass0 (pa_cons (pv 3) pa_nil)) (pe_own0 O.bare (hr.mono (by decide)) pass0)))
      (pss_cons (ps_set (i := 7) scLaw.nd rfl (Or.inl rfl) (pe_own O.made (hr.mono (by decide)) pass0 (pa_cons (pv 4) pa_nil)))
      (pss_cons (ps_if (PW.pt (pw_or (pt_not (pt_val (pe_own O.apart (hr.mono (by decide)) pass0 (pa_cons (pv 5) pa_nil)))) (pw_or1 (pt_not (pt_val (pe_own O.apart (hr.mono (by decide)) pass0 (pa_cons (pv 6) pa_nil))))))) (pss_one (ps_ret pe_bl)) pss_nil)
      (pss_cons (ps_expr (pe_bm PySem.F.plainAttrs_list PySem.F.slot_list_append PySem.F.type_list_append mt_append (pe_own O.inner (hr.mono (by decide)) pass0 (pa_cons (pv 3) pa_nil)) (pa_cons pe_str pa_nil)))
      (pss_cons (ps_for PassesOwn.never rfl (pi_list (pe_lst (pa_cons (pe_own O.fields (hr.mono (by decide)) pass0 (pa_cons (pv 5) pa_nil)) (pa_cons (pe_own O.fields (hr.mono (by decide)) pass0 (pa_cons (pv 6) pa_nil)) pa_nil)))) (pg_name (i := 8) scLaw.nd rfl (Or.inl rfl))
        (pss_one (ps_if (pt_cmpR (op_ne_nil hr.units0) (pe_lc (own := [("_law_item", 9)]) (g := gName 9) (tt := tTst 3) (te := tVar 9) rfl scLaw.nd (pi_seq (pv 8)) (blkOk_by (N := NLaw) (sc := defScope sLaw) (by decide +kernel)) (fun _ _ _ _ _ => (pg_name (i := 9) scLaw.nd rfl (Or.inl rfl))) (fun _ _ _ _ _ => (pts_one (pt_cmpR op_ne (pe_callB (call_reprA gu hr.units) (by rfl) Z.repr (by decide +kernel) (pa_cons (pv 9) pa_nil)) (pe_callB (call_reprA gu hr.units) (by rfl) Z.repr (by decide +kernel) (pa_cons (pv 3) pa_nil)) (nomark _)))) (fun _ _ _ _ _ => (pv 9))) (pe_lst pa_nil) (by rfl)) (pss_one (ps_ret pe_bl)) pss_nil)))
      (pss_cons (ps_if (pt_cmpR (op_ne_nil hr.units0) (pe_lc (own := [("_law_item", 9)]) (g := gName 9) (tt := tTst 4) (te := tVar 9) rfl scLaw.nd (pi_seq (pe_own O.fields (hr.mono (by decide)) pass0 (pa_cons (pv 7) pa_nil))) (blkOk_by (N := NLaw) (sc := defScope sLaw) (by decide +kernel)) (fun _ _ _ _ _ => (pg_name (i := 9) scLaw.nd rfl (Or.inl rfl))) (fun _ _ _ _ _ => (pts_one (pt_cmpR op_ne (pe_callB (call_reprA gu hr.units) (by rfl) Z.repr (by decide +kernel) (pa_cons (pv 9) pa_nil)) (pe_callB (call_reprA gu hr.units) (by rfl) Z.repr (by decide +kernel) (pa_cons (pv 4) pa_nil)) (nomark _)))) (fun _ _ _ _ _ => (pv 9))) (pe_lst pa_nil) (by rfl)) (pss_one (ps_ret pe_bl)) pss_nil)
      (pss_one (ps_if (pt_not (pt_val (pe_own O.raised (hr.mono (by decide)) pass0 (pa_cons (pe_ix ix_list (pe_lst (pa_cons pe_int (pa_cons pe_int (pa_cons pe_int (pa_cons pe_int (pa_cons pe_int (pa_cons pe_int pa_nil))))))) (pe_own O.take (hr.mono (by decide)) pass0 (pa_cons (pv 2) (pa_cons pe_int pa_nil))) (fun _ _ => rfl)) pa_nil)))) (pss_one (ps_ret pe_bl)) pss_nil))))))))))))
    (pss_one (ps_ret pe_bl))), ?_⟩
    refine ⟨_, rfl, a, _, rfl, .inl hs, _, _, rfl, _, _, rfl, _, rfl, ?_, ?_, ?_⟩
    · split <;> split <;> omega
    · split <;> split <;> omega
    have hn8 : (if (if ((ns.map V.int).length : Int) < 5 then ((ns.map V.int).length : Int) else 5) > 2 then (if ((ns.map V.int).length : Int) < 5 then ((ns.map V.int).length : Int) else 5) else 2).toNat ≤ 8 := by
      split <;> split <;> omega
    refine for_range (lo := 0) (n := _) (fun i σ' H' => (∃ x1 x2 x3 x4 x5 x6 x7 x8, σ' = [some (.ref a), x1, x2, x3, x4, x5, x6, x7, x8, none]) ∧ Same H H') ⟨⟨_, _, _, _, _, _, _, _, rfl⟩, Same.refl _⟩ ?_ ?_
    rotate_left
    · rintro σ' H' ⟨⟨x1, x2, x3, x4, x5, x6, x7, x8, rfl⟩, S⟩
      exact q _
    rintro i σ' Hs hi ⟨⟨x1, x2, x3, x4, x5, x6, x7, x8, rfl⟩, S⟩
    have hi8 : i < 8 := Nat.lt_of_lt_of_le hi hn8
    refine ⟨_, rfl, _, rfl, a, ns, i, (by rw [Int.zero_add] <;> rfl), S.seq hs, by omega, fun z => ⟨z, rfl, fun p Hb hp sm bx => ?_⟩⟩
    obtain ⟨op, hop⟩ : ∃ o, Hb p = some o := by
      obtain ⟨_, _, _, e, _⟩ := id bx
      exact ⟨_, e⟩
    refine ⟨_, rfl, p, 0, rfl, bx, by decide, fun v3 g1 w1 i1 H1 hw1 hi1 G1 B1 th1 eg1 => ?_⟩
    refine ⟨_, rfl, p, 2, rfl, B1, by decide, fun v4 g2 w2 i2 H2 hw2 hi2 G2 B2 th2 eg2 => ?_⟩
    have ng1 : Hb g1 = none := by
      unfold nw at eg1
      split at eg1
      · assumption
      · cases eg1
    have pg1 : g1 ≠ p := fun y => by rw [y, hop] at ng1; cases ng1
    have eg1' : H1 g1 = some (.lst [six i1]) := nw_sub _ _ eg1
    refine ⟨by show 2 ≤ sizeLine; decide, fun t ht => ?_⟩
    have k3 := same_new (o := .tup [v3, v4]) ht
    have e3 := upd_same (H := H2) (a := t) (o := .tup [v3, v4])
    have kk12 : Same (nw Hb H1) H2 := (nw_grow (H := Hb) hop G2).trans nw_sub
    have th1a := thq_keep (thq_keep th1 kk12) k3
    have eg1a := k3 _ _ (kk12 _ _ eg1)
    have hH1p : ∃ o, H1 p = some o := by
      obtain ⟨_, _, _, e, _⟩ := id B1
      exact ⟨_, e⟩
    -- the other thing lies apart from the first one's list
    have sep : ∀ b o, nw H1 H2 b = some o → b ≠ g1 ∧ H2 b = some o := fun b o e => by
      unfold nw at e
      split at e
      · rename_i h0
        exact ⟨(fun y => by rw [y, eg1'] at h0; cases h0), e⟩
      · cases e
    have B3 := B2.keep k3
    have G3 := (G1.trans G2).trans (Grow.of k3)
    have th2a : ∀ H', (∀ b o, b ≠ g1 → (upd H2 t (.tup [v3, v4])) b = some o → H' b = some o) → ThAt H' g2 w2 v4 ∧ H' g2 = some (.lst [six i2]) := fun H' k => ⟨thq_keep th2 fun b o e => k b o (sep b o e).1 (k3 _ _ (sep b o e).2), k _ _ (sep _ _ eg2).1 (k3 _ _ (sep _ _ eg2).2)⟩
    generalize upd H2 t (.tup [v3, v4]) = H3 at k3 e3 th1a eg1a B3 G3 th2a ⊢
    refine ⟨t, _, rfl, SqT.of e3, rfl, _, _, rfl, _, _, rfl, rfl, ?_⟩
    dsimp only
    clear e3 k3 ht kk12 th1 eg1 eg1' B1 B2 G1 G2 th2 eg2 sep hH1p
    -- the errors
    refine ⟨_, rfl, v3, rfl, fun l1 L1 H4 k4 e4 ac4 => ?_⟩
    refine ⟨rfl, fun l2 L2 H5 k5 e5 ac5 => ?_⟩
    refine ⟨_, _, _, _, rfl, rfl, k5 _ _ e4, e5, by rw [List.length_map, List.length_map, ac4.1, (ac5 v3).1]; decide, fun l3 hl3 => ?_⟩
    rw [← List.map_append]
    have k6 := same_new (o := .lst ((L1 ++ L2).map V.ref)) hl3
    have e6 : (upd H5 l3 (.lst ((L1 ++ L2).map V.ref))) l3 = some (.lst ((L1 ++ L2).map V.ref)) := upd_same
    have ac6 : AccX c v3 (upd H5 l3 (.lst ((L1 ++ L2).map V.ref))) 0 30 (L1 ++ L2) := ((ac4.keep k5).app (ac5 v3)).keep k6
    have kA := (k4.trans k5).trans k6
    generalize upd H5 l3 (.lst ((L1 ++ L2).map V.ref)) = H6 at k6 e6 ac6 kA ⊢
    generalize L1 ++ L2 = LA at e6 ac6 ⊢
    clear k4 k5 k6 e4 e5 ac4 ac5 hl3
    refine ⟨_, rfl, v3, rfl, fun l1 L1 H4 k4 e4 ac4 => ?_⟩
    refine ⟨rfl, fun l2 L2 H5 k5 e5 ac5 => ?_⟩
    refine ⟨_, _, _, _, rfl, rfl, k5 _ _ e4, e5, by rw [List.length_map, List.length_map, ac4.1, (ac5 v3).1]; decide, fun l4 hl4 => ?_⟩
    rw [← List.map_append]
    have k6 := same_new (o := .lst ((L1 ++ L2).map V.ref)) hl4
    have e7 : (upd H5 l4 (.lst ((L1 ++ L2).map V.ref))) l4 = some (.lst ((L1 ++ L2).map V.ref)) := upd_same
    have ac7 : AccX c v3 (upd H5 l4 (.lst ((L1 ++ L2).map V.ref))) 0 30 (L1 ++ L2) := ((ac4.keep k5).app (ac5 v3)).keep k6
    have kB := (k4.trans k5).trans k6
    have e6 := kB _ _ e6
    have ac6 := ac6.keep kB
    have kA := kA.trans kB
    generalize upd H5 l4 (.lst ((L1 ++ L2).map V.ref)) = H7 at k6 e6 e7 ac6 ac7 kA kB ⊢
    generalize L1 ++ L2 = LB at e7 ac7 ⊢
    clear k4 k5 k6 e4 e5 ac4 ac5 hl4 kB
    refine ⟨_, rfl, v4, rfl, fun l5 LC H8 k8 e8 ac8 => ?_⟩
    have e6 := k8 _ _ e6
    have e7 := k8 _ _ e7
    have ac6 := ac6.keep k8
    have ac7 := ac7.keep k8
    have kA := kA.trans k8
    clear k8
    refine ⟨_, rfl, l3, LA, v3, rfl, e6, ac6, fun H9 k9 => ⟨_, rfl, iteF ?_⟩⟩
    refine ⟨_, rfl, l4, LB, v3, rfl, k9 _ _ e7, ac7.keep k9, fun H10 k10 => ⟨_, rfl, iteF ?_⟩⟩
    have kk := k9.trans k10
    have e6 := kk _ _ e6
    have e7 := kk _ _ e7
    have e8 := kk _ _ e8
    have ac6 := ac6.keep kk
    have ac7 := ac7.keep kk
    have ac8 := ac8.keep kk
    have kA := kA.trans kk
    clear kk k9 k10
    -- the list grows
    refine ⟨_, rfl, v3, g1, w1, i1, rfl, hw1, hi1, thq_keep th1a kA, kA _ _ eg1a, fun H11 k11 => ?_⟩
    have kA := kA.trans k11
    have e6 := k11 _ _ e6
    have e7 := k11 _ _ e7
    have e8 := k11 _ _ e8
    have ac6 := ac6.keep k11
    have ac7 := ac7.keep k11
    have ac8 := ac8.keep k11
    have eg := kA _ _ eg1a
    refine ⟨.inl ⟨rfl, _, SqL.of eg⟩, g1, _, _, rfl, rfl, eg, by show 1 < sizeLine; decide, ?_⟩
    have th1b : ThAt (upd H11 g1 (.lst ([six i1] ++ [.str "more"]))) g1 w1 v3 := thq_put (thq_keep th1a kA) eg
    have egb : (upd H11 g1 (.lst ([six i1] ++ [.str "more"]))) g1 = some (.lst [six i1, .str "more"]) := upd_same
    obtain ⟨th2b, eg2b⟩ := th2a (upd H11 g1 (.lst ([six i1] ++ [.str "more"]))) fun b o ne e => by rw [upd_ne ne]; exact kA _ _ e
    have ne1 : ∀ {b : Addr} {L : List Addr}, H11 b = some (.lst (L.map V.ref)) → 24 ≤ L.length → b ≠ g1 := fun {b L} e l y => by
      rw [y, eg] at e
      have e2 := congrArg (fun o : Option HO => match o with | some (.lst xs) => xs.length | _ => 0) e
      have e2 : 1 = (L.map V.ref).length := e2
      rw [List.length_map] at e2
      omega
    have e6b : (upd H11 g1 (.lst ([six i1] ++ [.str "more"]))) l3 = some (.lst (LA.map V.ref)) := by rw [upd_ne (ne1 e6 (by rw [ac6.1]; decide))]; exact e6
    have e7b : (upd H11 g1 (.lst ([six i1] ++ [.str "more"]))) l4 = some (.lst (LB.map V.ref)) := by rw [upd_ne (ne1 e7 (by rw [ac7.1]; decide))]; exact e7
    have e8b : (upd H11 g1 (.lst ([six i1] ++ [.str "more"]))) l5 = some (.lst (LC.map V.ref)) := by rw [upd_ne (ne1 e8 (by rw [ac8.1]; decide))]; exact e8
    have ac6b := ac6.put (o := .lst ([six i1] ++ [.str "more"])) eg
    have ac7b := ac7.put (o := .lst ([six i1] ++ [.str "more"])) eg
    have ac8b := ac8.put (o := .lst ([six i1] ++ [.str "more"])) eg
    have B12 : Bx (upd H11 g1 (.lst ([six i1] ++ [.str "more"]))) p 4 := bxB_put (B3.keep kA) pg1
    have S12 : Same H (upd H11 g1 (.lst ([six i1] ++ [.str "more"]))) := fun b o e => by
      have e1 := sm _ _ (S _ _ e)
      rw [upd_ne (ne_of_none e1 ng1)]
      exact kA _ _ (G3 b o (ne_of_none (S _ _ e) hp) e1)
    clear e6 e7 e8 ac6 ac7 ac8 eg th1a eg1a th2a kA k11 G3 B3 ne1
    generalize upd H11 g1 (.lst ([six i1] ++ [.str "more"])) = H12 at th1b egb th2b eg2b e6b e7b e8b ac6b ac7b ac8b B12 S12 ⊢
    have an3 : Any H12 v3 (thD w1 [sixd i1, .str "more"]) := thq_any th1b egb (.cons (six_any hi1) (.cons (.str _) .nil))
    have an4 : Any H12 v4 (thD w2 [sixd i2]) := thq_any th2b eg2b (.cons (six_any hi2) .nil)
    have f3 := (thq_fine (w := w1) hi1).2
    have f4 := (thq_fine (w := w2) hi2).1
    -- the fields of the first ones
    refine ⟨_, rfl, l3, LA, v3, 30, rfl, e6b, ac6b, by decide, fun t1 H13 ht1 k13 et1 => ?_⟩
    refine ⟨_, rfl, l4, LB, v3, 30, rfl, k13 _ _ e7b, ac7b.keep k13, by decide, fun t2 H14 ht2 k14 et2 => ?_⟩
    refine ⟨by show 2 ≤ sizeLine; decide, fun U hU => ?_⟩
    have k15 := same_new (o := .lst [.ref t1, .ref t2]) hU
    have eU : (upd H14 U (.lst [.ref t1, .ref t2])) U = some (.lst [.ref t1, .ref t2]) := upd_same
    have et1 := k15 _ _ (k14 _ _ et1)
    have et2 := k15 _ _ et2
    have kk := (k13.trans k14).trans k15
    generalize upd H14 U (.lst [.ref t1, .ref t2]) = H15 at k15 eU et1 et2 kk ⊢
    refine ⟨U, rfl, ⟨_, SqL.of eU⟩, ?_⟩
    refine for_list (K := K) (a := U) (xs := [.ref t1, .ref t2]) (fun j σ' H' => (∃ y8, σ' = [some (.ref a), some (.int (0 + (i : Int))), some (.ref p), some v3, some v4, some (.ref l3), some (.ref l4), some (.ref l5), y8, none]) ∧ Same H15 H') ⟨⟨_, rfl⟩, Same.refl _⟩ (fun j σ' H' _ h => SqL.of (h.2 _ _ eU)) ?_ ?_
    · rintro j x σ' H16 hx ⟨⟨y8, rfl⟩, s16⟩
      obtain ⟨tt, rfl, ett⟩ : ∃ tt, x = .ref tt ∧ H16 tt = some (.lst (List.replicate 24 v3)) := by
        match j, hx with
        | 0, hx => cases hx; exact ⟨_, rfl, s16 _ _ et1⟩
        | 1, hx => cases hx; exact ⟨_, rfl, s16 _ _ et2⟩
        | n + 2, hx => simp at hx
      refine ⟨_, rfl, tt, true, _, rfl, SqL.of ett, fun D hD => ?_⟩
      refine lc_filter (walk_seq (k := true)) (by rw [List.length_replicate]; decide) hD (fun H' s => SqL.of (s _ _ ett)) (fun _ => false) ?_ ?_
      · rintro k y H17 hk hy s17
        rw [List.length_replicate] at hk
        rw [List.getElem?_replicate, if_pos hk] at hy
        cases hy
        have an := an3.keep ((kk.trans s16).trans s17)
        refine ⟨rfl, fun kf hkf => ?_, fun kf H' z => ⟨_, rfl, z⟩⟩
        refine ⟨_, rfl, v3, _, rfl, an, f3.1, f3.2.1, f3.2.2, _, rfl, v3, _, rfl, an, f3.1, f3.2.1, f3.2.2, rfl, _, rfl, ?_⟩
        rw [str_sameC]
        exact hkf _ (Same.refl _)
      · intro H17 acc s17 eD em
        have em : acc = [] := by
          rw [show (List.range (List.replicate 24 v3).length).all (fun _ => !false) = true by simp] at em
          simpa using em
        subst em
        refine ⟨by show 0 ≤ sizeLine; decide, fun u hu => ⟨D, u, _, rfl, rfl, same_new hu _ _ eD, upd_same, _, rfl, iteF ?_⟩⟩
        exact ⟨⟨_, rfl⟩, s16.trans (s17.trans (same_new hu))⟩
    · rintro σ' H16 ⟨⟨y8, rfl⟩, s16⟩
      have kk := kk.trans s16
      refine ⟨_, rfl, l5, LC, v4, 24, rfl, kk _ _ e8b, ac8b.keep kk, by decide, fun t3 H17 ht3 k17 et3 => ?_⟩
      refine ⟨t3, true, _, rfl, SqL.of et3, fun D hD => ?_⟩
      refine lc_filter (walk_seq (k := true)) (by rw [List.length_replicate]; decide) hD (fun H' s => SqL.of (s _ _ et3)) (fun _ => false) ?_ ?_
      · rintro k y H18 hk hy s18
        rw [List.length_replicate] at hk
        rw [List.getElem?_replicate, if_pos hk] at hy
        cases hy
        have an := an4.keep ((kk.trans k17).trans s18)
        refine ⟨rfl, fun kf hkf => ?_, fun kf H' z => ⟨_, rfl, z⟩⟩
        refine ⟨_, rfl, v4, _, rfl, an, f4.1, f4.2.1, f4.2.2, _, rfl, v4, _, rfl, an, f4.1, f4.2.1, f4.2.2, rfl, _, rfl, ?_⟩
        rw [str_sameC]
        exact hkf _ (Same.refl _)
      · intro H18 acc s18 eD em
        have em : acc = [] := by
          rw [show (List.range (List.replicate 24 v4).length).all (fun _ => !false) = true by simp] at em
          simpa using em
        subst em
        refine ⟨by show 0 ≤ sizeLine; decide, fun u hu => ⟨D, u, _, rfl, rfl, same_new hu _ _ eD, upd_same, _, rfl, iteF ?_⟩⟩
        have kk := ((kk.trans k17).trans s18).trans (same_new (o := .lst []) hu)
        have B19 := B12.keep kk
        have S19 := S12.trans kk
        generalize upd H18 u (.lst []) = H19 at kk B19 S19 ⊢
        refine ⟨by show 6 ≤ sizeLine; decide, fun l6 h6 => ?_⟩
        have k20 := same_new (o := .lst (([2, 3, 5, 7, 11, 13] : List Int).map V.int)) h6
        have n6 : l6 ≠ p := (B19.ne h6).symm
        have e20 : (upd H19 l6 (.lst (([2, 3, 5, 7, 11, 13] : List Int).map V.int))) l6 = some (.lst (([2, 3, 5, 7, 11, 13] : List Int).map V.int)) := upd_same
        refine ⟨_, rfl, p, 6, 4, rfl, by decide, by decide, B19.keep k20, by decide, fun r H21 r0 r1 G21 B21 => ?_⟩
        obtain ⟨j, rfl⟩ : ∃ j : Nat, r = (j : Int) := ⟨r.toNat, by omega⟩
        have hj : j < ([2, 3, 5, 7, 11, 13] : List Int).length := by show j < 6; omega
        have mem : ∀ z ∈ ([2, 3, 5, 7, 11, 13] : List Int), z ∈ primesL := by decide
        refine ⟨l6, ([2, 3, 5, 7, 11, 13] : List Int).map V.int, _, _, rfl, rfl, SqL.of (G21 _ _ n6 e20), atI_nat (v := .int (([2, 3, 5, 7, 11, 13] : List Int)[j])) (by rw [List.getElem?_map, List.getElem?_eq_getElem hj] <;> rfl), ?_⟩
        refine ⟨_, rfl, mem _ (List.getElem_mem hj), fun H22 k22 => ⟨_, rfl, iteF ?_⟩⟩
        refine ⟨⟨_, _, _, _, _, _, _, _, rfl⟩, fun b o e => ?_⟩
        have e1 := S19 _ _ e
        have nb : b ≠ p := ne_of_none (S _ _ e) hp
        exact k22 _ _ (G21 _ _ nb (k20 _ _ e1))
end
end K1
set_option Elab.async false
set_option linter.all false
set_option maxRecDepth 100000
set_option maxHeartbeats 4000000
namespace Rw
open PySem PySem.Spec PyProof.Rows L2
/-- a class of errors right below the root R -/
structure MroAt (K : PySem.W.Frag) (C R : Addr) : Prop where
  m : ∀ b, PySem.W.mroIn K C b = some (([.ref C, .ref R, .type "ValueError", .type "Exception", .type "BaseException", .type "object"] : List Value).contains b)
  s : (PySem.W.clsIn K C).isSome = true
  t : PySem.W.typeIn K (.ref C) = some (.type "type")
theorem mro_of {K : PySem.W.Frag} {C R N : Addr} {nm qn : Str} {bs : List Value} {sn : List Str} {sub : List Value} {ab : Bool} {col : Option Bool} {dd : Option Addr} {m0 m1 m2 m3 m5 : Option Value}
    (l : K.lookup C = some (excClassObj nm qn C N bs [.ref R, .type "ValueError", .type "Exception", .type "BaseException", .type "object"] true sn sub ab col dd m0 m1 m2 m3 m5 "ValueError.__new__")) (t : PySem.W.typeIn K (.ref C) = some (.type "type")) : MroAt K C R := by
  have e : ∃ cd, PySem.W.clsIn K C = some cd ∧ cd.mro = [.ref C, .ref R, .type "ValueError", .type "Exception", .type "BaseException", .type "object"] := by
    unfold PySem.W.clsIn
    rw [l]
    exact ⟨_, rfl, rfl⟩
  obtain ⟨cd, e1, e2⟩ := e
  refine ⟨fun b => ?_, by rw [e1] <;> rfl, t⟩
  unfold PySem.W.mroIn
  rw [e1, Option.bind_some, e2] <;> rfl
theorem ErrFHere.mro {K : PySem.W.Frag} {x q fl : Str} {st : Stmt} {R C : Addr} (E : ErrFHere K x q fl st R C) : MroAt K C R := by
  obtain ⟨f, N, nm, qn, bs, sn, sub, ab, col, dd, m0, m1, m2, m3, m5, g, l, sa, ga, gg, no, ini, ty, da, kc, ex, tc, hd⟩ := E
  exact mro_of l tc
theorem ErrNHere.mro {K : PySem.W.Frag} {x q : Str} {st : Stmt} {R C : Addr} (E : ErrNHere K x q st R C) : MroAt K C R := by
  obtain ⟨f, N, nm, qn, bs, sn, sub, ab, col, dd, m0, m1, m2, m3, m5, g, l, sa, ini, ty, da, kc, ex, tc⟩ := E
  exact mro_of l tc
theorem MroAt.obj {K : PySem.W.Frag} {C R : Addr} (h : MroAt K C R) : PySem.W.mroIn K C (.type "object") = some true := by
  rw [h.m]
  simp only [List.contains_cons, beq_self_eq_true, Bool.or_true, Bool.true_or]
theorem ref_beq {a b : Addr} : ((Value.ref a == Value.ref b) = true) ↔ a = b := ⟨fun h => Value.ref.inj (beq_iff_eq.mp h), fun h => by rw [h]; exact beq_self_eq_true _⟩
theorem kit_apart {K : PySem.W.Frag} {C D R : Addr} (h : MroAt K C R) (g : MroAt K D R) (ne : D ≠ R) : PySem.W.kitOne K (.ref C) (.ref D) = some (decide (C = D)) := by
  unfold PySem.W.kitOne
  by_cases z : C = D
  · rw [if_pos (ref_beq.mpr z), decide_eq_true z]
  · rw [if_neg (fun y => z (ref_beq.mp y)), decide_eq_false z]
    show (if ((PySem.W.clsIn K D).isSome && PySem.W.typeIn K (.ref D) == some (.type "type")) = true then PySem.W.mroIn K C (.ref D) else none) = some false
    rw [if_pos (by rw [g.s, g.t] <;> rfl), h.m]
    have n1 : (Value.ref D == Value.ref C) = false := Bool.eq_false_iff.mpr fun y => z (ref_beq.mp y).symm
    have n2 : (Value.ref D == Value.ref R) = false := Bool.eq_false_iff.mpr fun y => ne (ref_beq.mp y)
    rw [List.contains_cons, n1, List.contains_cons, n2]
    rfl
theorem kit_root {K : PySem.W.Frag} {C R : Addr} (h : MroAt K C R) (s : (PySem.W.clsIn K R).isSome = true) (t : PySem.W.typeIn K (.ref R) = some (.type "type")) : PySem.W.kitOne K (.ref C) (.ref R) = some true := by
  unfold PySem.W.kitOne
  by_cases z : C = R
  · rw [if_pos (ref_beq.mpr z)]
  · rw [if_neg (fun y => z (ref_beq.mp y))]
    show (if ((PySem.W.clsIn K R).isSome && PySem.W.typeIn K (.ref R) == some (.type "type")) = true then PySem.W.mroIn K C (.ref R) else none) = some true
    rw [if_pos (by rw [s, t] <;> rfl), h.m, List.contains_cons, List.contains_cons, beq_self_eq_true, Bool.true_or, Bool.or_true]
theorem kit_val {K : PySem.W.Frag} {C R : Addr} (h : MroAt K C R) : PySem.W.kitOne K (.ref C) (.type "ValueError") = some true := by
  unfold PySem.W.kitOne
  rw [if_neg (fun y => by cases beq_iff_eq.mp y)]
  show (if PySem.W.kitMeta "ValueError" = true then PySem.W.mroIn K C (.type "ValueError") else none) = some true
  rw [if_pos (by decide +kernel), h.m, List.contains_cons, List.contains_cons, List.contains_cons, beq_self_eq_true, Bool.true_or, Bool.or_true, Bool.or_true]
theorem exm_same {K : PySem.W.Frag} {C D : Addr} (hs : PySem.W.subIn K (.ref D) (.type "BaseException") = some true) (s : (PySem.W.clsIn K D).isSome = true) (t : PySem.W.typeIn K (.ref D) = some (.type "type")) (h : PySem.W.mroIn K C (.ref D) = some true) : PySem.W.exmOne K (.ref C) (.ref D) = some true := by
  unfold PySem.W.exmOne
  rw [if_pos (by rw [hs] <;> rfl)]
  show (if ((PySem.W.clsIn K D).isSome && PySem.W.typeIn K (.ref D) == some (.type "type")) = true then PySem.W.mroIn K C (.ref D) else none) = some true
  rw [if_pos (by rw [s, t] <;> rfl), h]
theorem MroAt.self {K : PySem.W.Frag} {C R : Addr} (h : MroAt K C R) : PySem.W.mroIn K C (.ref C) = some true := by
  rw [h.m, List.contains_cons, beq_self_eq_true, Bool.true_or]
theorem MroAt.root {K : PySem.W.Frag} {C R : Addr} (h : MroAt K C R) : PySem.W.mroIn K C (.ref R) = some true := by
  rw [h.m, List.contains_cons, List.contains_cons, beq_self_eq_true, Bool.true_or, Bool.or_true]
/-- the classes by their numbers -/
def clsAt (l : List Addr) (i : Nat) : Addr := l.getD i 0
theorem cls_inj {l : List Addr} (nd : l.Nodup) {i j : Nat} (hi : i < l.length) (hj : j < l.length) : decide (clsAt l i = clsAt l j) = decide (i = j) := by
  by_cases z : i = j
  · rw [z, decide_eq_true rfl, decide_eq_true rfl]
  · rw [decide_eq_false z, decide_eq_false fun y => ?_]
    unfold clsAt at y
    rw [List.getD_eq_getElem?_getD, List.getD_eq_getElem?_getD, List.getElem?_eq_getElem hi, List.getElem?_eq_getElem hj, Option.getD_some, Option.getD_some] at y
    have pw := List.pairwise_iff_getElem.mp nd
    rcases Nat.lt_or_gt_of_ne z with q | q
    · exact pw i j hi hj q y
    · exact pw j i hj hi q y.symm
end Rw
set_option Elab.async false
set_option linter.all false
set_option maxRecDepth 100000
set_option maxHeartbeats 8000000
namespace K1
open PySem PySem.Spec PyProof.Rows L2 Rw
abbrev sIni0 : Stmt := inClass (top 2) 0
theorem scIni0 : FnScope ["self", "value"] ["self", "value"] (defScope sIni0) := ⟨rfl, rfl, rfl, by decide +kernel, rfl, by decide +kernel, by decide +kernel⟩
theorem is0 : IsIniF "value" sIni0 := ⟨_, _, _, _, rfl, rfl, rfl⟩
abbrev sIni1 : Stmt := inClass (top 3) 0
theorem scIni1 : FnScope ["self", "value"] ["self", "value"] (defScope sIni1) := ⟨rfl, rfl, rfl, by decide +kernel, rfl, by decide +kernel, by decide +kernel⟩
theorem is1 : IsIniF "value" sIni1 := ⟨_, _, _, _, rfl, rfl, rfl⟩
abbrev sIni2 : Stmt := inClass (top 4) 0
theorem scIni2 : FnScope ["self", "value"] ["self", "value"] (defScope sIni2) := ⟨rfl, rfl, rfl, by decide +kernel, rfl, by decide +kernel, by decide +kernel⟩
theorem is2 : IsIniF "value" sIni2 := ⟨_, _, _, _, rfl, rfl, rfl⟩
abbrev sIni3 : Stmt := inClass (top 5) 0
theorem scIni3 : FnScope ["self", "value"] ["self", "value"] (defScope sIni3) := ⟨rfl, rfl, rfl, by decide +kernel, rfl, by decide +kernel, by decide +kernel⟩
theorem is3 : IsIniF "value" sIni3 := ⟨_, _, _, _, rfl, rfl, rfl⟩
abbrev sIni4 : Stmt := inClass (top 6) 0
theorem scIni4 : FnScope ["self", "value"] ["self", "value"] (defScope sIni4) := ⟨rfl, rfl, rfl, by decide +kernel, rfl, by decide +kernel, by decide +kernel⟩
theorem is4 : IsIniF "value" sIni4 := ⟨_, _, _, _, rfl, rfl, rfl⟩
abbrev sIni5 : Stmt := inClass (top 7) 0
theorem scIni5 : FnScope ["self", "value"] ["self", "value"] (defScope sIni5) := ⟨rfl, rfl, rfl, by decide +kernel, rfl, by decide +kernel, by decide +kernel⟩
theorem is5 : IsIniF "value" sIni5 := ⟨_, _, _, _, rfl, rfl, rfl⟩
abbrev sIni6 : Stmt := inClass (top 8) 0
theorem scIni6 : FnScope ["self", "value"] ["self", "value"] (defScope sIni6) := ⟨rfl, rfl, rfl, by decide +kernel, rfl, by decide +kernel, by decide +kernel⟩
theorem is6 : IsIniF "value" sIni6 := ⟨_, _, _, _, rfl, rfl, rfl⟩
abbrev sIni7 : Stmt := inClass (top 9) 0
theorem scIni7 : FnScope ["self", "value"] ["self", "value"] (defScope sIni7) := ⟨rfl, rfl, rfl, by decide +kernel, rfl, by decide +kernel, by decide +kernel⟩
theorem is7 : IsIniF "value" sIni7 := ⟨_, _, _, _, rfl, rfl, rfl⟩
abbrev sIni8 : Stmt := inClass (top 10) 0
theorem scIni8 : FnScope ["self", "value"] ["self", "value"] (defScope sIni8) := ⟨rfl, rfl, rfl, by decide +kernel, rfl, by decide +kernel, by decide +kernel⟩
theorem is8 : IsIniF "value" sIni8 := ⟨_, _, _, _, rfl, rfl, rfl⟩
abbrev sIni9 : Stmt := inClass (top 11) 0
theorem scIni9 : FnScope ["self", "value"] ["self", "value"] (defScope sIni9) := ⟨rfl, rfl, rfl, by decide +kernel, rfl, by decide +kernel, by decide +kernel⟩
theorem is9 : IsIniF "value" sIni9 := ⟨_, _, _, _, rfl, rfl, rfl⟩
abbrev sIni10 : Stmt := inClass (top 12) 0
theorem scIni10 : FnScope ["self", "value"] ["self", "value"] (defScope sIni10) := ⟨rfl, rfl, rfl, by decide +kernel, rfl, by decide +kernel, by decide +kernel⟩
theorem is10 : IsIniF "value" sIni10 := ⟨_, _, _, _, rfl, rfl, rfl⟩
abbrev sIni11 : Stmt := inClass (top 13) 0
theorem scIni11 : FnScope ["self", "value"] ["self", "value"] (defScope sIni11) := ⟨rfl, rfl, rfl, by decide +kernel, rfl, by decide +kernel, by decide +kernel⟩
theorem is11 : IsIniF "value" sIni11 := ⟨_, _, _, _, rfl, rfl, rfl⟩
abbrev sIni12 : Stmt := inClass (top 14) 0
theorem scIni12 : FnScope ["self", "value"] ["self", "value"] (defScope sIni12) := ⟨rfl, rfl, rfl, by decide +kernel, rfl, by decide +kernel, by decide +kernel⟩
theorem is12 : IsIniF "value" sIni12 := ⟨_, _, _, _, rfl, rfl, rfl⟩
abbrev sIni13 : Stmt := inClass (top 15) 0
theorem scIni13 : FnScope ["self", "value"] ["self", "value"] (defScope sIni13) := ⟨rfl, rfl, rfl, by decide +kernel, rfl, by decide +kernel, by decide +kernel⟩
theorem is13 : IsIniF "value" sIni13 := ⟨_, _, _, _, rfl, rfl, rfl⟩
abbrev sIni14 : Stmt := inClass (top 16) 0
theorem scIni14 : FnScope ["self", "value"] ["self", "value"] (defScope sIni14) := ⟨rfl, rfl, rfl, by decide +kernel, rfl, by decide +kernel, by decide +kernel⟩
theorem is14 : IsIniF "value" sIni14 := ⟨_, _, _, _, rfl, rfl, rfl⟩
abbrev sIni15 : Stmt := inClass (top 17) 0
theorem scIni15 : FnScope ["self", "value"] ["self", "value"] (defScope sIni15) := ⟨rfl, rfl, rfl, by decide +kernel, rfl, by decide +kernel, by decide +kernel⟩
theorem is15 : IsIniF "value" sIni15 := ⟨_, _, _, _, rfl, rfl, rfl⟩
abbrev sIni16 : Stmt := inClass (top 18) 0
theorem scIni16 : FnScope ["self", "value"] ["self", "value"] (defScope sIni16) := ⟨rfl, rfl, rfl, by decide +kernel, rfl, by decide +kernel, by decide +kernel⟩
theorem is16 : IsIniF "value" sIni16 := ⟨_, _, _, _, rfl, rfl, rfl⟩
abbrev sIni17 : Stmt := inClass (top 19) 0
theorem scIni17 : FnScope ["self", "value"] ["self", "value"] (defScope sIni17) := ⟨rfl, rfl, rfl, by decide +kernel, rfl, by decide +kernel, by decide +kernel⟩
theorem is17 : IsIniF "value" sIni17 := ⟨_, _, _, _, rfl, rfl, rfl⟩
abbrev sIni18 : Stmt := inClass (top 20) 0
theorem scIni18 : FnScope ["self", "value"] ["self", "value"] (defScope sIni18) := ⟨rfl, rfl, rfl, by decide +kernel, rfl, by decide +kernel, by decide +kernel⟩
theorem is18 : IsIniF "value" sIni18 := ⟨_, _, _, _, rfl, rfl, rfl⟩
abbrev sIni19 : Stmt := inClass (top 21) 0
theorem scIni19 : FnScope ["self", "value"] ["self", "value"] (defScope sIni19) := ⟨rfl, rfl, rfl, by decide +kernel, rfl, by decide +kernel, by decide +kernel⟩
theorem is19 : IsIniF "value" sIni19 := ⟨_, _, _, _, rfl, rfl, rfl⟩
abbrev sIni20 : Stmt := inClass (top 22) 0
theorem scIni20 : FnScope ["self", "bar"] ["self", "bar"] (defScope sIni20) := ⟨rfl, rfl, rfl, by decide +kernel, rfl, by decide +kernel, by decide +kernel⟩
theorem is20 : IsIniF "bar" sIni20 := ⟨_, _, _, _, rfl, rfl, rfl⟩
abbrev sIni21 : Stmt := inClass (top 23) 0
theorem scIni21 : FnScope ["self", "value"] ["self", "value"] (defScope sIni21) := ⟨rfl, rfl, rfl, by decide +kernel, rfl, by decide +kernel, by decide +kernel⟩
theorem is21 : IsIniF "value" sIni21 := ⟨_, _, _, _, rfl, rfl, rfl⟩
abbrev sIni22 : Stmt := inClass (top 28) 0
theorem scIni22 : FnScope ["self", "name"] ["self", "name"] (defScope sIni22) := ⟨rfl, rfl, rfl, by decide +kernel, rfl, by decide +kernel, by decide +kernel⟩
theorem is22 : IsIniF "name" sIni22 := ⟨_, _, _, _, rfl, rfl, rfl⟩
abbrev sIni23 : Stmt := inClass (top 29) 0
theorem scIni23 : FnScope ["self", "name"] ["self", "name"] (defScope sIni23) := ⟨rfl, rfl, rfl, by decide +kernel, rfl, by decide +kernel, by decide +kernel⟩
theorem is23 : IsIniF "name" sIni23 := ⟨_, _, _, _, rfl, rfl, rfl⟩
abbrev sIni24 : Stmt := inClass (top 24) 0
theorem scIni24 : FnScope ["self"] ["self"] (defScope sIni24) := ⟨rfl, rfl, rfl, by decide +kernel, rfl, by decide +kernel, by decide +kernel⟩
abbrev sIni25 : Stmt := inClass (top 25) 0
theorem scIni25 : FnScope ["self"] ["self"] (defScope sIni25) := ⟨rfl, rfl, rfl, by decide +kernel, rfl, by decide +kernel, by decide +kernel⟩
abbrev sIni26 : Stmt := inClass (top 26) 0
theorem scIni26 : FnScope ["self"] ["self"] (defScope sIni26) := ⟨rfl, rfl, rfl, by decide +kernel, rfl, by decide +kernel, by decide +kernel⟩
abbrev sIni27 : Stmt := inClass (top 27) 0
theorem scIni27 : FnScope ["self"] ["self"] (defScope sIni27) := ⟨rfl, rfl, rfl, by decide +kernel, rfl, by decide +kernel, by decide +kernel⟩
abbrev sIni28 : Stmt := inClass (top 30) 0
theorem scIni28 : FnScope ["self"] ["self"] (defScope sIni28) := ⟨rfl, rfl, rfl, by decide +kernel, rfl, by decide +kernel, by decide +kernel⟩
abbrev sIni29 : Stmt := inClass (top 31) 0
theorem scIni29 : FnScope ["self"] ["self"] (defScope sIni29) := ⟨rfl, rfl, rfl, by decide +kernel, rfl, by decide +kernel, by decide +kernel⟩
/-- what is asked of the written part -/
structure Asked (K : PySem.W.Frag) (w : World) (aI aT CR C0 C1 C2 C3 C4 C5 C6 C7 C8 C9 C10 C11 C12 C13 C14 C15 C16 C17 C18 C19 C20 C21 C22 C23 C24 C25 C26 C27 C28 C29 : Addr) (kI : List (Int × Value)) (kT : List (Str × Value)) (tM : Tok) : Prop where
  taI : TabIHere K "INVERSES" aI kI
  taT : TabSHere K w "TURNED" aT kT
  iMOST : PySem.W.nsIn K mainGlobals "MOST" = some (some (.int 6 tM))
  hI : ∀ i, (lookI kI i).isSome = decide (i ∈ primesL)
  hT : ∀ c, (lookS kT ⟨#[c]⟩).isSome = isArr c
  root : PySem.W.nsIn K mainGlobals "RowError" = some (some (.ref CR))
  e0 : ErrFHere K "InvalidPrime" "InvalidPrime.__init__" "value" sIni0 CR C0
  e1 : ErrFHere K "NoInverse" "NoInverse.__init__" "value" sIni1 CR C1
  e2 : ErrFHere K "InvalidSize" "InvalidSize.__init__" "value" sIni2 CR C2
  e3 : ErrFHere K "InvalidVector" "InvalidVector.__init__" "value" sIni3 CR C3
  e4 : ErrFHere K "InvalidMatrix" "InvalidMatrix.__init__" "value" sIni4 CR C4
  e5 : ErrFHere K "InvalidPattern" "InvalidPattern.__init__" "value" sIni5 CR C5
  e6 : ErrFHere K "InvalidPlace" "InvalidPlace.__init__" "value" sIni6 CR C6
  e7 : ErrFHere K "InvalidBar" "InvalidBar.__init__" "value" sIni7 CR C7
  e8 : ErrFHere K "InvalidSizes" "InvalidSizes.__init__" "value" sIni8 CR C8
  e9 : ErrFHere K "InvalidMaps" "InvalidMaps.__init__" "value" sIni9 CR C9
  e10 : ErrFHere K "InvalidNumbers" "InvalidNumbers.__init__" "value" sIni10 CR C10
  e11 : ErrFHere K "InvalidText" "InvalidText.__init__" "value" sIni11 CR C11
  e12 : ErrFHere K "InvalidTerms" "InvalidTerms.__init__" "value" sIni12 CR C12
  e13 : ErrFHere K "InvalidTable" "InvalidTable.__init__" "value" sIni13 CR C13
  e14 : ErrFHere K "InvalidNumber" "InvalidNumber.__init__" "value" sIni14 CR C14
  e15 : ErrFHere K "InvalidArrow" "InvalidArrow.__init__" "value" sIni15 CR C15
  e16 : ErrFHere K "InvalidName" "InvalidName.__init__" "value" sIni16 CR C16
  e17 : ErrFHere K "InvalidLine" "InvalidLine.__init__" "value" sIni17 CR C17
  e18 : ErrFHere K "NotFitting" "NotFitting.__init__" "value" sIni18 CR C18
  e19 : ErrFHere K "NotOneWay" "NotOneWay.__init__" "value" sIni19 CR C19
  e20 : ErrFHere K "NegativeBar" "NegativeBar.__init__" "bar" sIni20 CR C20
  e21 : ErrFHere K "TooLarge" "TooLarge.__init__" "value" sIni21 CR C21
  e22 : ErrFHere K "NameTaken" "NameTaken.__init__" "name" sIni22 CR C22
  e23 : ErrFHere K "UnknownName" "UnknownName.__init__" "name" sIni23 CR C23
  e24 : ErrNHere K "UnlikeSpaces" "UnlikeSpaces.__init__" sIni24 CR C24
  e25 : ErrNHere K "UnlikePlaces" "UnlikePlaces.__init__" sIni25 CR C25
  e26 : ErrNHere K "UnlikeRows" "UnlikeRows.__init__" sIni26 CR C26
  e27 : ErrNHere K "NotWithin" "NotWithin.__init__" sIni27 CR C27
  e28 : ErrNHere K "NothingToUndo" "NothingToUndo.__init__" sIni28 CR C28
  e29 : ErrNHere K "NothingToRedo" "NothingToRedo.__init__" sIni29 CR C29
  rSp : PySem.W.specialIn K (.ref CR) "__getattribute__" = some (some (.builtin "type.__getattribute__"))
  rTy : PySem.W.typeIn K (.ref CR) = some (.type "type")
  rRd : PySem.W.readsIn K CR (.type "type") = true
  rIni : PySem.W.findCls K (.ref CR) (.type "type") "__init__" = some (.val (.builtin "ValueError.__init__"))
  rEx : PySem.W.subIn K (.ref CR) (.type "BaseException") = some true
  rCl : (PySem.W.clsIn K CR).isSome = true
  iHn : PySem.W.specialIn K (.builtin "object.__class__") "__get__" = some (some (.builtin "getset_descriptor.__get__"))
  iHt : PySem.W.takesIn K (.builtin "object.__class__") = some true
  nd : ([C0, C1, C2, C3, C4, C5, C6, C7, C8, C9, C10, C11, C12, C13, C14, C15, C16, C17, C18, C19, C20, C21, C22, C23, C24, C25, C26, C27, C28, C29] : List Addr).Nodup
  nr : CR ∉ ([C0, C1, C2, C3, C4, C5, C6, C7, C8, C9, C10, C11, C12, C13, C14, C15, C16, C17, C18, C19, C20, C21, C22, C23, C24, C25, C26, C27, C28, C29] : List Addr)
  ha0 : PySem.W.findIn K (.ref C0) "__class__" = some (some (.builtin "object.__class__"))
  ha1 : PySem.W.findIn K (.ref C1) "__class__" = some (some (.builtin "object.__class__"))
  ha2 : PySem.W.findIn K (.ref C2) "__class__" = some (some (.builtin "object.__class__"))
  ha3 : PySem.W.findIn K (.ref C3) "__class__" = some (some (.builtin "object.__class__"))
  ha4 : PySem.W.findIn K (.ref C4) "__class__" = some (some (.builtin "object.__class__"))
  ha5 : PySem.W.findIn K (.ref C5) "__class__" = some (some (.builtin "object.__class__"))
  ha6 : PySem.W.findIn K (.ref C6) "__class__" = some (some (.builtin "object.__class__"))
  ha7 : PySem.W.findIn K (.ref C7) "__class__" = some (some (.builtin "object.__class__"))
  ha8 : PySem.W.findIn K (.ref C8) "__class__" = some (some (.builtin "object.__class__"))
  ha9 : PySem.W.findIn K (.ref C9) "__class__" = some (some (.builtin "object.__class__"))
  ha10 : PySem.W.findIn K (.ref C10) "__class__" = some (some (.builtin "object.__class__"))
  ha11 : PySem.W.findIn K (.ref C11) "__class__" = some (some (.builtin "object.__class__"))
  ha12 : PySem.W.findIn K (.ref C12) "__class__" = some (some (.builtin "object.__class__"))
  ha13 : PySem.W.findIn K (.ref C13) "__class__" = some (some (.builtin "object.__class__"))
  ha14 : PySem.W.findIn K (.ref C14) "__class__" = some (some (.builtin "object.__class__"))
  ha15 : PySem.W.findIn K (.ref C15) "__class__" = some (some (.builtin "object.__class__"))
  ha16 : PySem.W.findIn K (.ref C16) "__class__" = some (some (.builtin "object.__class__"))
  ha17 : PySem.W.findIn K (.ref C17) "__class__" = some (some (.builtin "object.__class__"))
  ha18 : PySem.W.findIn K (.ref C18) "__class__" = some (some (.builtin "object.__class__"))
  ha19 : PySem.W.findIn K (.ref C19) "__class__" = some (some (.builtin "object.__class__"))
  ha20 : PySem.W.findIn K (.ref C20) "__class__" = some (some (.builtin "object.__class__"))
  ha21 : PySem.W.findIn K (.ref C21) "__class__" = some (some (.builtin "object.__class__"))
  ha22 : PySem.W.findIn K (.ref C22) "__class__" = some (some (.builtin "object.__class__"))
  ha23 : PySem.W.findIn K (.ref C23) "__class__" = some (some (.builtin "object.__class__"))
  ha24 : PySem.W.findIn K (.ref C24) "__class__" = some (some (.builtin "object.__class__"))
  ha25 : PySem.W.findIn K (.ref C25) "__class__" = some (some (.builtin "object.__class__"))
  ha26 : PySem.W.findIn K (.ref C26) "__class__" = some (some (.builtin "object.__class__"))
  ha27 : PySem.W.findIn K (.ref C27) "__class__" = some (some (.builtin "object.__class__"))
  ha28 : PySem.W.findIn K (.ref C28) "__class__" = some (some (.builtin "object.__class__"))
  ha29 : PySem.W.findIn K (.ref C29) "__class__" = some (some (.builtin "object.__class__"))
  ga24 : PySem.W.findIn K (.ref C24) "__getattribute__" = some (some (.builtin "BaseException.__getattribute__"))
  ga25 : PySem.W.findIn K (.ref C25) "__getattribute__" = some (some (.builtin "BaseException.__getattribute__"))
  ga26 : PySem.W.findIn K (.ref C26) "__getattribute__" = some (some (.builtin "BaseException.__getattribute__"))
  ga27 : PySem.W.findIn K (.ref C27) "__getattribute__" = some (some (.builtin "BaseException.__getattribute__"))
  ga28 : PySem.W.findIn K (.ref C28) "__getattribute__" = some (some (.builtin "BaseException.__getattribute__"))
  ga29 : PySem.W.findIn K (.ref C29) "__getattribute__" = some (some (.builtin "BaseException.__getattribute__"))
  gg24 : PySem.W.findIn K (.ref C24) "__getattr__" = some none
  gg25 : PySem.W.findIn K (.ref C25) "__getattr__" = some none
  gg26 : PySem.W.findIn K (.ref C26) "__getattr__" = some none
  gg27 : PySem.W.findIn K (.ref C27) "__getattr__" = some none
  gg28 : PySem.W.findIn K (.ref C28) "__getattr__" = some none
  gg29 : PySem.W.findIn K (.ref C29) "__getattr__" = some none
  hd24 : PySem.W.hasDictIn K C24 = true
  hd25 : PySem.W.hasDictIn K C25 = true
  hd26 : PySem.W.hasDictIn K C26 = true
  hd27 : PySem.W.hasDictIn K C27 = true
  hd28 : PySem.W.hasDictIn K C28 = true
  hd29 : PySem.W.hasDictIn K C29 = true
  d1 : DefHere K "is_number" sNum
  d2 : DefHere K "is_prime" sPrime
  d3 : DefHere K "check_prime" sCheck
  d4 : DefHere K "inverse" sInv
  d5 : DefHere K "led" sLed
  d6 : DefHere K "is_pattern" sPat
  d7 : DefHere K "check_pattern" sCPat
  d8 : DefHere K "bars" sBars
  d9 : DefHere K "_law_cell" sCell
  d10 : DefHere K "_law_box" sBox
  d11 : DefHere K "_law_take" sTake
  d12 : DefHere K "_law_thing" sThing
  d13 : DefHere K "_law_inner" sInner
  d14 : DefHere K "_law_made" sMade
  d15 : DefHere K "_law_named" sNamed
  d16 : DefHere K "_law_bare" sBare
  d17 : DefHere K "_law_kinds" sKinds
  d18 : DefHere K "_law_fields" sFields
  d19 : DefHere K "_law_apart" sApart
  d20 : DefHere K "_law_raised" sRaised
  dl : DefHere K "law" sLaw
  z1 : PySem.W.nsIn K mainGlobals "isinstance" = some none
  z2 : PySem.W.nsIn K mainGlobals "int" = some none
  z3 : PySem.W.nsIn K mainGlobals "bool" = some none
  z4 : PySem.W.nsIn K mainGlobals "str" = some none
  z5 : PySem.W.nsIn K mainGlobals "list" = some none
  z6 : PySem.W.nsIn K mainGlobals "tuple" = some none
  z7 : PySem.W.nsIn K mainGlobals "dict" = some none
  z8 : PySem.W.nsIn K mainGlobals "len" = some none
  z9 : PySem.W.nsIn K mainGlobals "all" = some none
  z10 : PySem.W.nsIn K mainGlobals "range" = some none
  z11 : PySem.W.nsIn K mainGlobals "enumerate" = some none
  z12 : PySem.W.nsIn K mainGlobals "repr" = some none
  z13 : PySem.W.nsIn K mainGlobals "max" = some none
  z14 : PySem.W.nsIn K mainGlobals "min" = some none
  z15 : PySem.W.nsIn K mainGlobals "ValueError" = some none
theorem all_mk {l : PySem.W.OpenLaw} {w : World} {K : PySem.W.Frag} {h : Heap} {mg : Str → Option Value} {fa : Addr} {aI aT CR C0 C1 C2 C3 C4 C5 C6 C7 C8 C9 C10 C11 C12 C13 C14 C15 C16 C17 C18 C19 C20 C21 C22 C23 C24 C25 C26 C27 C28 C29 : Addr} {kI : List (Int × Value)} {kT : List (Str × Value)} {tM : Tok} (X : K.In h) (G : h.Ns mainGlobals mg) (hfa : mg "law" = some (.ref fa)) (Z : Asked K w aI aT CR C0 C1 C2 C3 C4 C5 C6 C7 C8 C9 C10 C11 C12 C13 C14 C15 C16 C17 C18 C19 C20 C21 C22 C23 C24 C25 C26 C27 C28 C29 kI kT tM) :
    ∃ fd : FuncData, (∀ (s : Shared) (v : Value), BindsTo s fd ⟨[v], []⟩ [("_law_script", v)]) ∧ ∀ base : Heap, K.In base → base.Ns mainGlobals mg → FnG l.prog w K mg base CX0 8 fa fd ["_law_script"] (spLaw K) := by
  have zz_isinstance : mg "isinstance" = none := PySem.W.mg_none_of X G Z.z1
  have zz_int : mg "int" = none := PySem.W.mg_none_of X G Z.z2
  have zz_bool : mg "bool" = none := PySem.W.mg_none_of X G Z.z3
  have zz_str : mg "str" = none := PySem.W.mg_none_of X G Z.z4
  have zz_list : mg "list" = none := PySem.W.mg_none_of X G Z.z5
  have zz_tuple : mg "tuple" = none := PySem.W.mg_none_of X G Z.z6
  have zz_dict : mg "dict" = none := PySem.W.mg_none_of X G Z.z7
  have zz_len : mg "len" = none := PySem.W.mg_none_of X G Z.z8
  have zz_all : mg "all" = none := PySem.W.mg_none_of X G Z.z9
  have zz_range : mg "range" = none := PySem.W.mg_none_of X G Z.z10
  have zz_enumerate : mg "enumerate" = none := PySem.W.mg_none_of X G Z.z11
  have zz_repr : mg "repr" = none := PySem.W.mg_none_of X G Z.z12
  have zz_max : mg "max" = none := PySem.W.mg_none_of X G Z.z13
  have zz_min : mg "min" = none := PySem.W.mg_none_of X G Z.z14
  have zz_ValueError : mg "ValueError" = none := PySem.W.mg_none_of X G Z.z15
  have e0 : ErrF K mg "InvalidPrime" "value" C0 := Z.e0.err X G scIni0 is0 (by decide) (by decide) fun _ _ _ _ _ _ us hl => match us, hl with | [_, _], _ => rfl
  have e1 : ErrF K mg "NoInverse" "value" C1 := Z.e1.err X G scIni1 is1 (by decide) (by decide) fun _ _ _ _ _ _ us hl => match us, hl with | [_, _], _ => rfl
  have e2 : ErrF K mg "InvalidSize" "value" C2 := Z.e2.err X G scIni2 is2 (by decide) (by decide) fun _ _ _ _ _ _ us hl => match us, hl with | [_, _], _ => rfl
  have e3 : ErrF K mg "InvalidVector" "value" C3 := Z.e3.err X G scIni3 is3 (by decide) (by decide) fun _ _ _ _ _ _ us hl => match us, hl with | [_, _], _ => rfl
  have e4 : ErrF K mg "InvalidMatrix" "value" C4 := Z.e4.err X G scIni4 is4 (by decide) (by decide) fun _ _ _ _ _ _ us hl => match us, hl with | [_, _], _ => rfl
  have e5 : ErrF K mg "InvalidPattern" "value" C5 := Z.e5.err X G scIni5 is5 (by decide) (by decide) fun _ _ _ _ _ _ us hl => match us, hl with | [_, _], _ => rfl
  have e6 : ErrF K mg "InvalidPlace" "value" C6 := Z.e6.err X G scIni6 is6 (by decide) (by decide) fun _ _ _ _ _ _ us hl => match us, hl with | [_, _], _ => rfl
  have e7 : ErrF K mg "InvalidBar" "value" C7 := Z.e7.err X G scIni7 is7 (by decide) (by decide) fun _ _ _ _ _ _ us hl => match us, hl with | [_, _], _ => rfl
  have e8 : ErrF K mg "InvalidSizes" "value" C8 := Z.e8.err X G scIni8 is8 (by decide) (by decide) fun _ _ _ _ _ _ us hl => match us, hl with | [_, _], _ => rfl
  have e9 : ErrF K mg "InvalidMaps" "value" C9 := Z.e9.err X G scIni9 is9 (by decide) (by decide) fun _ _ _ _ _ _ us hl => match us, hl with | [_, _], _ => rfl
  have e10 : ErrF K mg "InvalidNumbers" "value" C10 := Z.e10.err X G scIni10 is10 (by decide) (by decide) fun _ _ _ _ _ _ us hl => match us, hl with | [_, _], _ => rfl
  have e11 : ErrF K mg "InvalidText" "value" C11 := Z.e11.err X G scIni11 is11 (by decide) (by decide) fun _ _ _ _ _ _ us hl => match us, hl with | [_, _], _ => rfl
  have e12 : ErrF K mg "InvalidTerms" "value" C12 := Z.e12.err X G scIni12 is12 (by decide) (by decide) fun _ _ _ _ _ _ us hl => match us, hl with | [_, _], _ => rfl
  have e13 : ErrF K mg "InvalidTable" "value" C13 := Z.e13.err X G scIni13 is13 (by decide) (by decide) fun _ _ _ _ _ _ us hl => match us, hl with | [_, _], _ => rfl
  have e14 : ErrF K mg "InvalidNumber" "value" C14 := Z.e14.err X G scIni14 is14 (by decide) (by decide) fun _ _ _ _ _ _ us hl => match us, hl with | [_, _], _ => rfl
  have e15 : ErrF K mg "InvalidArrow" "value" C15 := Z.e15.err X G scIni15 is15 (by decide) (by decide) fun _ _ _ _ _ _ us hl => match us, hl with | [_, _], _ => rfl
  have e16 : ErrF K mg "InvalidName" "value" C16 := Z.e16.err X G scIni16 is16 (by decide) (by decide) fun _ _ _ _ _ _ us hl => match us, hl with | [_, _], _ => rfl
  have e17 : ErrF K mg "InvalidLine" "value" C17 := Z.e17.err X G scIni17 is17 (by decide) (by decide) fun _ _ _ _ _ _ us hl => match us, hl with | [_, _], _ => rfl
  have e18 : ErrF K mg "NotFitting" "value" C18 := Z.e18.err X G scIni18 is18 (by decide) (by decide) fun _ _ _ _ _ _ us hl => match us, hl with | [_, _], _ => rfl
  have e19 : ErrF K mg "NotOneWay" "value" C19 := Z.e19.err X G scIni19 is19 (by decide) (by decide) fun _ _ _ _ _ _ us hl => match us, hl with | [_, _], _ => rfl
  have e20 : ErrF K mg "NegativeBar" "bar" C20 := Z.e20.err X G scIni20 is20 (by decide) (by decide) fun _ _ _ _ _ _ us hl => match us, hl with | [_, _], _ => rfl
  have e21 : ErrF K mg "TooLarge" "value" C21 := Z.e21.err X G scIni21 is21 (by decide) (by decide) fun _ _ _ _ _ _ us hl => match us, hl with | [_, _], _ => rfl
  have e22 : ErrF K mg "NameTaken" "name" C22 := Z.e22.err X G scIni22 is22 (by decide) (by decide) fun _ _ _ _ _ _ us hl => match us, hl with | [_, _], _ => rfl
  have e23 : ErrF K mg "UnknownName" "name" C23 := Z.e23.err X G scIni23 is23 (by decide) (by decide) fun _ _ _ _ _ _ us hl => match us, hl with | [_, _], _ => rfl
  have gRoot : mg "RowError" = some (.ref CR) := PySem.W.mg_of X G Z.root
  have rtC : RootC K CR := ⟨Z.rSp, Z.rTy, Z.rRd, Z.rIni⟩
  have e24 : ErrN K mg "UnlikeSpaces" C24 := Z.e24.err X G scIni24 (fun P w base q f cdv A outer s H E => ⟨_, pss_one (ps_expr (pe_rootini rtC rfl gRoot (pa_cons (pv 0) pa_nil))), fun _ _ _ z => z⟩) fun _ _ _ _ _ _ us hl => match us, hl with | [_], _ => rfl
  have kx24 : PySem.W.subIn K (.ref C24) (.type "BaseException") = some true := e24.ox.exC
  have gRoot : mg "RowError" = some (.ref CR) := PySem.W.mg_of X G Z.root
  have rtC : RootC K CR := ⟨Z.rSp, Z.rTy, Z.rRd, Z.rIni⟩
  have e25 : ErrN K mg "UnlikePlaces" C25 := Z.e25.err X G scIni25 (fun P w base q f cdv A outer s H E => ⟨_, pss_one (ps_expr (pe_rootini rtC rfl gRoot (pa_cons (pv 0) pa_nil))), fun _ _ _ z => z⟩) fun _ _ _ _ _ _ us hl => match us, hl with | [_], _ => rfl
  have kx25 : PySem.W.subIn K (.ref C25) (.type "BaseException") = some true := e25.ox.exC
  have gRoot : mg "RowError" = some (.ref CR) := PySem.W.mg_of X G Z.root
  have rtC : RootC K CR := ⟨Z.rSp, Z.rTy, Z.rRd, Z.rIni⟩
  have e26 : ErrN K mg "UnlikeRows" C26 := Z.e26.err X G scIni26 (fun P w base q f cdv A outer s H E => ⟨_, pss_one (ps_expr (pe_rootini rtC rfl gRoot (pa_cons (pv 0) pa_nil))), fun _ _ _ z => z⟩) fun _ _ _ _ _ _ us hl => match us, hl with | [_], _ => rfl
  have kx26 : PySem.W.subIn K (.ref C26) (.type "BaseException") = some true := e26.ox.exC
  have gRoot : mg "RowError" = some (.ref CR) := PySem.W.mg_of X G Z.root
  have rtC : RootC K CR := ⟨Z.rSp, Z.rTy, Z.rRd, Z.rIni⟩
  have e27 : ErrN K mg "NotWithin" C27 := Z.e27.err X G scIni27 (fun P w base q f cdv A outer s H E => ⟨_, pss_one (ps_expr (pe_rootini rtC rfl gRoot (pa_cons (pv 0) pa_nil))), fun _ _ _ z => z⟩) fun _ _ _ _ _ _ us hl => match us, hl with | [_], _ => rfl
  have kx27 : PySem.W.subIn K (.ref C27) (.type "BaseException") = some true := e27.ox.exC
  have gRoot : mg "RowError" = some (.ref CR) := PySem.W.mg_of X G Z.root
  have rtC : RootC K CR := ⟨Z.rSp, Z.rTy, Z.rRd, Z.rIni⟩
  have e28 : ErrN K mg "NothingToUndo" C28 := Z.e28.err X G scIni28 (fun P w base q f cdv A outer s H E => ⟨_, pss_one (ps_expr (pe_rootini rtC rfl gRoot (pa_cons (pv 0) pa_nil))), fun _ _ _ z => z⟩) fun _ _ _ _ _ _ us hl => match us, hl with | [_], _ => rfl
  have kx28 : PySem.W.subIn K (.ref C28) (.type "BaseException") = some true := e28.ox.exC
  have gRoot : mg "RowError" = some (.ref CR) := PySem.W.mg_of X G Z.root
  have rtC : RootC K CR := ⟨Z.rSp, Z.rTy, Z.rRd, Z.rIni⟩
  have e29 : ErrN K mg "NothingToRedo" C29 := Z.e29.err X G scIni29 (fun P w base q f cdv A outer s H E => ⟨_, pss_one (ps_expr (pe_rootini rtC rfl gRoot (pa_cons (pv 0) pa_nil))), fun _ _ _ z => z⟩) fun _ _ _ _ _ _ us hl => match us, hl with | [_], _ => rfl
  have kx29 : PySem.W.subIn K (.ref C29) (.type "BaseException") = some true := e29.ox.exC
  have k0 : ErrK K mg "InvalidPrime" "value" C0 := Z.e0.errk X G scIni0 is0 (by decide) (by decide) (fun _ _ _ _ _ _ us hl => match us, hl with | [_, _], _ => rfl) (fun _ _ _ _ _ _ _ _ => rfl)
  have k1 : ErrK K mg "NoInverse" "value" C1 := Z.e1.errk X G scIni1 is1 (by decide) (by decide) (fun _ _ _ _ _ _ us hl => match us, hl with | [_, _], _ => rfl) (fun _ _ _ _ _ _ _ _ => rfl)
  have k2 : ErrK K mg "InvalidSize" "value" C2 := Z.e2.errk X G scIni2 is2 (by decide) (by decide) (fun _ _ _ _ _ _ us hl => match us, hl with | [_, _], _ => rfl) (fun _ _ _ _ _ _ _ _ => rfl)
  have k3 : ErrK K mg "InvalidVector" "value" C3 := Z.e3.errk X G scIni3 is3 (by decide) (by decide) (fun _ _ _ _ _ _ us hl => match us, hl with | [_, _], _ => rfl) (fun _ _ _ _ _ _ _ _ => rfl)
  have k4 : ErrK K mg "InvalidMatrix" "value" C4 := Z.e4.errk X G scIni4 is4 (by decide) (by decide) (fun _ _ _ _ _ _ us hl => match us, hl with | [_, _], _ => rfl) (fun _ _ _ _ _ _ _ _ => rfl)
  have k5 : ErrK K mg "InvalidPattern" "value" C5 := Z.e5.errk X G scIni5 is5 (by decide) (by decide) (fun _ _ _ _ _ _ us hl => match us, hl with | [_, _], _ => rfl) (fun _ _ _ _ _ _ _ _ => rfl)
  have k6 : ErrK K mg "InvalidPlace" "value" C6 := Z.e6.errk X G scIni6 is6 (by decide) (by decide) (fun _ _ _ _ _ _ us hl => match us, hl with | [_, _], _ => rfl) (fun _ _ _ _ _ _ _ _ => rfl)
  have k7 : ErrK K mg "InvalidBar" "value" C7 := Z.e7.errk X G scIni7 is7 (by decide) (by decide) (fun _ _ _ _ _ _ us hl => match us, hl with | [_, _], _ => rfl) (fun _ _ _ _ _ _ _ _ => rfl)
  have k8 : ErrK K mg "InvalidSizes" "value" C8 := Z.e8.errk X G scIni8 is8 (by decide) (by decide) (fun _ _ _ _ _ _ us hl => match us, hl with | [_, _], _ => rfl) (fun _ _ _ _ _ _ _ _ => rfl)
  have k9 : ErrK K mg "InvalidMaps" "value" C9 := Z.e9.errk X G scIni9 is9 (by decide) (by decide) (fun _ _ _ _ _ _ us hl => match us, hl with | [_, _], _ => rfl) (fun _ _ _ _ _ _ _ _ => rfl)
  have k10 : ErrK K mg "InvalidNumbers" "value" C10 := Z.e10.errk X G scIni10 is10 (by decide) (by decide) (fun _ _ _ _ _ _ us hl => match us, hl with | [_, _], _ => rfl) (fun _ _ _ _ _ _ _ _ => rfl)
  have k11 : ErrK K mg "InvalidText" "value" C11 := Z.e11.errk X G scIni11 is11 (by decide) (by decide) (fun _ _ _ _ _ _ us hl => match us, hl with | [_, _], _ => rfl) (fun _ _ _ _ _ _ _ _ => rfl)
  have k12 : ErrK K mg "InvalidTerms" "value" C12 := Z.e12.errk X G scIni12 is12 (by decide) (by decide) (fun _ _ _ _ _ _ us hl => match us, hl with | [_, _], _ => rfl) (fun _ _ _ _ _ _ _ _ => rfl)
  have k13 : ErrK K mg "InvalidTable" "value" C13 := Z.e13.errk X G scIni13 is13 (by decide) (by decide) (fun _ _ _ _ _ _ us hl => match us, hl with | [_, _], _ => rfl) (fun _ _ _ _ _ _ _ _ => rfl)
  have k14 : ErrK K mg "InvalidNumber" "value" C14 := Z.e14.errk X G scIni14 is14 (by decide) (by decide) (fun _ _ _ _ _ _ us hl => match us, hl with | [_, _], _ => rfl) (fun _ _ _ _ _ _ _ _ => rfl)
  have k15 : ErrK K mg "InvalidArrow" "value" C15 := Z.e15.errk X G scIni15 is15 (by decide) (by decide) (fun _ _ _ _ _ _ us hl => match us, hl with | [_, _], _ => rfl) (fun _ _ _ _ _ _ _ _ => rfl)
  have k16 : ErrK K mg "InvalidName" "value" C16 := Z.e16.errk X G scIni16 is16 (by decide) (by decide) (fun _ _ _ _ _ _ us hl => match us, hl with | [_, _], _ => rfl) (fun _ _ _ _ _ _ _ _ => rfl)
  have k17 : ErrK K mg "InvalidLine" "value" C17 := Z.e17.errk X G scIni17 is17 (by decide) (by decide) (fun _ _ _ _ _ _ us hl => match us, hl with | [_, _], _ => rfl) (fun _ _ _ _ _ _ _ _ => rfl)
  have k18 : ErrK K mg "NotFitting" "value" C18 := Z.e18.errk X G scIni18 is18 (by decide) (by decide) (fun _ _ _ _ _ _ us hl => match us, hl with | [_, _], _ => rfl) (fun _ _ _ _ _ _ _ _ => rfl)
  have k19 : ErrK K mg "NotOneWay" "value" C19 := Z.e19.errk X G scIni19 is19 (by decide) (by decide) (fun _ _ _ _ _ _ us hl => match us, hl with | [_, _], _ => rfl) (fun _ _ _ _ _ _ _ _ => rfl)
  have k20 : ErrK K mg "NegativeBar" "bar" C20 := Z.e20.errk X G scIni20 is20 (by decide) (by decide) (fun _ _ _ _ _ _ us hl => match us, hl with | [_, _], _ => rfl) (fun _ _ _ _ _ _ _ _ => rfl)
  have k21 : ErrK K mg "TooLarge" "value" C21 := Z.e21.errk X G scIni21 is21 (by decide) (by decide) (fun _ _ _ _ _ _ us hl => match us, hl with | [_, _], _ => rfl) (fun _ _ _ _ _ _ _ _ => rfl)
  have k22 : ErrK K mg "NameTaken" "name" C22 := Z.e22.errk X G scIni22 is22 (by decide) (by decide) (fun _ _ _ _ _ _ us hl => match us, hl with | [_, _], _ => rfl) (fun _ _ _ _ _ _ _ _ => rfl)
  have k23 : ErrK K mg "UnknownName" "name" C23 := Z.e23.errk X G scIni23 is23 (by decide) (by decide) (fun _ _ _ _ _ _ us hl => match us, hl with | [_, _], _ => rfl) (fun _ _ _ _ _ _ _ _ => rfl)
  have m0 : MroAt K C0 CR := Z.e0.mro
  have m1 : MroAt K C1 CR := Z.e1.mro
  have m2 : MroAt K C2 CR := Z.e2.mro
  have m3 : MroAt K C3 CR := Z.e3.mro
  have m4 : MroAt K C4 CR := Z.e4.mro
  have m5 : MroAt K C5 CR := Z.e5.mro
  have m6 : MroAt K C6 CR := Z.e6.mro
  have m7 : MroAt K C7 CR := Z.e7.mro
  have m8 : MroAt K C8 CR := Z.e8.mro
  have m9 : MroAt K C9 CR := Z.e9.mro
  have m10 : MroAt K C10 CR := Z.e10.mro
  have m11 : MroAt K C11 CR := Z.e11.mro
  have m12 : MroAt K C12 CR := Z.e12.mro
  have m13 : MroAt K C13 CR := Z.e13.mro
  have m14 : MroAt K C14 CR := Z.e14.mro
  have m15 : MroAt K C15 CR := Z.e15.mro
  have m16 : MroAt K C16 CR := Z.e16.mro
  have m17 : MroAt K C17 CR := Z.e17.mro
  have m18 : MroAt K C18 CR := Z.e18.mro
  have m19 : MroAt K C19 CR := Z.e19.mro
  have m20 : MroAt K C20 CR := Z.e20.mro
  have m21 : MroAt K C21 CR := Z.e21.mro
  have m22 : MroAt K C22 CR := Z.e22.mro
  have m23 : MroAt K C23 CR := Z.e23.mro
  have m24 : MroAt K C24 CR := Z.e24.mro
  have m25 : MroAt K C25 CR := Z.e25.mro
  have m26 : MroAt K C26 CR := Z.e26.mro
  have m27 : MroAt K C27 CR := Z.e27.mro
  have m28 : MroAt K C28 CR := Z.e28.mro
  have m29 : MroAt K C29 CR := Z.e29.mro
  have mm : ∀ i, i < 30 → MroAt K (clsAt [C0, C1, C2, C3, C4, C5, C6, C7, C8, C9, C10, C11, C12, C13, C14, C15, C16, C17, C18, C19, C20, C21, C22, C23, C24, C25, C26, C27, C28, C29] i) CR := fun i hi => match i, hi with
    | 0, _ => m0
    | 1, _ => m1
    | 2, _ => m2
    | 3, _ => m3
    | 4, _ => m4
    | 5, _ => m5
    | 6, _ => m6
    | 7, _ => m7
    | 8, _ => m8
    | 9, _ => m9
    | 10, _ => m10
    | 11, _ => m11
    | 12, _ => m12
    | 13, _ => m13
    | 14, _ => m14
    | 15, _ => m15
    | 16, _ => m16
    | 17, _ => m17
    | 18, _ => m18
    | 19, _ => m19
    | 20, _ => m20
    | 21, _ => m21
    | 22, _ => m22
    | 23, _ => m23
    | 24, _ => m24
    | 25, _ => m25
    | 26, _ => m26
    | 27, _ => m27
    | 28, _ => m28
    | 29, _ => m29
    | n + 30, z => absurd z (by omega)
  have ii : ∀ i, i < 30 → ExcC K (clsAt [C0, C1, C2, C3, C4, C5, C6, C7, C8, C9, C10, C11, C12, C13, C14, C15, C16, C17, C18, C19, C20, C21, C22, C23, C24, C25, C26, C27, C28, C29] i) := fun i hi => match i, hi with
    | 0, _ => ⟨k0.e.xf.ga, k0.e.xf.gg, k0.e.xf.exC, k0.e.xf.hdC, Z.ha0, Z.iHn, Z.iHt, m0.obj⟩
    | 1, _ => ⟨k1.e.xf.ga, k1.e.xf.gg, k1.e.xf.exC, k1.e.xf.hdC, Z.ha1, Z.iHn, Z.iHt, m1.obj⟩
    | 2, _ => ⟨k2.e.xf.ga, k2.e.xf.gg, k2.e.xf.exC, k2.e.xf.hdC, Z.ha2, Z.iHn, Z.iHt, m2.obj⟩
    | 3, _ => ⟨k3.e.xf.ga, k3.e.xf.gg, k3.e.xf.exC, k3.e.xf.hdC, Z.ha3, Z.iHn, Z.iHt, m3.obj⟩
    | 4, _ => ⟨k4.e.xf.ga, k4.e.xf.gg, k4.e.xf.exC, k4.e.xf.hdC, Z.ha4, Z.iHn, Z.iHt, m4.obj⟩
    | 5, _ => ⟨k5.e.xf.ga, k5.e.xf.gg, k5.e.xf.exC, k5.e.xf.hdC, Z.ha5, Z.iHn, Z.iHt, m5.obj⟩
    | 6, _ => ⟨k6.e.xf.ga, k6.e.xf.gg, k6.e.xf.exC, k6.e.xf.hdC, Z.ha6, Z.iHn, Z.iHt, m6.obj⟩
    | 7, _ => ⟨k7.e.xf.ga, k7.e.xf.gg, k7.e.xf.exC, k7.e.xf.hdC, Z.ha7, Z.iHn, Z.iHt, m7.obj⟩
    | 8, _ => ⟨k8.e.xf.ga, k8.e.xf.gg, k8.e.xf.exC, k8.e.xf.hdC, Z.ha8, Z.iHn, Z.iHt, m8.obj⟩
    | 9, _ => ⟨k9.e.xf.ga, k9.e.xf.gg, k9.e.xf.exC, k9.e.xf.hdC, Z.ha9, Z.iHn, Z.iHt, m9.obj⟩
    | 10, _ => ⟨k10.e.xf.ga, k10.e.xf.gg, k10.e.xf.exC, k10.e.xf.hdC, Z.ha10, Z.iHn, Z.iHt, m10.obj⟩
    | 11, _ => ⟨k11.e.xf.ga, k11.e.xf.gg, k11.e.xf.exC, k11.e.xf.hdC, Z.ha11, Z.iHn, Z.iHt, m11.obj⟩
    | 12, _ => ⟨k12.e.xf.ga, k12.e.xf.gg, k12.e.xf.exC, k12.e.xf.hdC, Z.ha12, Z.iHn, Z.iHt, m12.obj⟩
    | 13, _ => ⟨k13.e.xf.ga, k13.e.xf.gg, k13.e.xf.exC, k13.e.xf.hdC, Z.ha13, Z.iHn, Z.iHt, m13.obj⟩
    | 14, _ => ⟨k14.e.xf.ga, k14.e.xf.gg, k14.e.xf.exC, k14.e.xf.hdC, Z.ha14, Z.iHn, Z.iHt, m14.obj⟩
    | 15, _ => ⟨k15.e.xf.ga, k15.e.xf.gg, k15.e.xf.exC, k15.e.xf.hdC, Z.ha15, Z.iHn, Z.iHt, m15.obj⟩
    | 16, _ => ⟨k16.e.xf.ga, k16.e.xf.gg, k16.e.xf.exC, k16.e.xf.hdC, Z.ha16, Z.iHn, Z.iHt, m16.obj⟩
    | 17, _ => ⟨k17.e.xf.ga, k17.e.xf.gg, k17.e.xf.exC, k17.e.xf.hdC, Z.ha17, Z.iHn, Z.iHt, m17.obj⟩
    | 18, _ => ⟨k18.e.xf.ga, k18.e.xf.gg, k18.e.xf.exC, k18.e.xf.hdC, Z.ha18, Z.iHn, Z.iHt, m18.obj⟩
    | 19, _ => ⟨k19.e.xf.ga, k19.e.xf.gg, k19.e.xf.exC, k19.e.xf.hdC, Z.ha19, Z.iHn, Z.iHt, m19.obj⟩
    | 20, _ => ⟨k20.e.xf.ga, k20.e.xf.gg, k20.e.xf.exC, k20.e.xf.hdC, Z.ha20, Z.iHn, Z.iHt, m20.obj⟩
    | 21, _ => ⟨k21.e.xf.ga, k21.e.xf.gg, k21.e.xf.exC, k21.e.xf.hdC, Z.ha21, Z.iHn, Z.iHt, m21.obj⟩
    | 22, _ => ⟨k22.e.xf.ga, k22.e.xf.gg, k22.e.xf.exC, k22.e.xf.hdC, Z.ha22, Z.iHn, Z.iHt, m22.obj⟩
    | 23, _ => ⟨k23.e.xf.ga, k23.e.xf.gg, k23.e.xf.exC, k23.e.xf.hdC, Z.ha23, Z.iHn, Z.iHt, m23.obj⟩
    | 24, _ => ⟨Z.ga24, Z.gg24, e24.ox.exC, Z.hd24, Z.ha24, Z.iHn, Z.iHt, m24.obj⟩
    | 25, _ => ⟨Z.ga25, Z.gg25, e25.ox.exC, Z.hd25, Z.ha25, Z.iHn, Z.iHt, m25.obj⟩
    | 26, _ => ⟨Z.ga26, Z.gg26, e26.ox.exC, Z.hd26, Z.ha26, Z.iHn, Z.iHt, m26.obj⟩
    | 27, _ => ⟨Z.ga27, Z.gg27, e27.ox.exC, Z.hd27, Z.ha27, Z.iHn, Z.iHt, m27.obj⟩
    | 28, _ => ⟨Z.ga28, Z.gg28, e28.ox.exC, Z.hd28, Z.ha28, Z.iHn, Z.iHt, m28.obj⟩
    | 29, _ => ⟨Z.ga29, Z.gg29, e29.ox.exC, Z.hd29, Z.ha29, Z.iHn, Z.iHt, m29.obj⟩
    | n + 30, z => absurd z (by omega)
  have nn : ∀ i, i < 30 → clsAt [C0, C1, C2, C3, C4, C5, C6, C7, C8, C9, C10, C11, C12, C13, C14, C15, C16, C17, C18, C19, C20, C21, C22, C23, C24, C25, C26, C27, C28, C29] i ≠ CR := fun i hi z => Z.nr (by
    have e : clsAt [C0, C1, C2, C3, C4, C5, C6, C7, C8, C9, C10, C11, C12, C13, C14, C15, C16, C17, C18, C19, C20, C21, C22, C23, C24, C25, C26, C27, C28, C29] i ∈ ([C0, C1, C2, C3, C4, C5, C6, C7, C8, C9, C10, C11, C12, C13, C14, C15, C16, C17, C18, C19, C20, C21, C22, C23, C24, C25, C26, C27, C28, C29] : List Addr) := by
      unfold clsAt
      rw [List.getD_eq_getElem?_getD, List.getElem?_eq_getElem (show i < ([C0, C1, C2, C3, C4, C5, C6, C7, C8, C9, C10, C11, C12, C13, C14, C15, C16, C17, C18, C19, C20, C21, C22, C23, C24, C25, C26, C27, C28, C29] : List Addr).length from hi)]
      exact List.getElem_mem _
    rw [z] at e
    exact e)
  have kk : ∀ i j, i < 30 → j < 30 → PySem.W.kitOne K (.ref (clsAt [C0, C1, C2, C3, C4, C5, C6, C7, C8, C9, C10, C11, C12, C13, C14, C15, C16, C17, C18, C19, C20, C21, C22, C23, C24, C25, C26, C27, C28, C29] i)) (.ref (clsAt [C0, C1, C2, C3, C4, C5, C6, C7, C8, C9, C10, C11, C12, C13, C14, C15, C16, C17, C18, C19, C20, C21, C22, C23, C24, C25, C26, C27, C28, C29] j)) = some (decide (i = j)) := fun i j hi hj => by
    rw [kit_apart (mm i hi) (mm j hj) (nn j hj), cls_inj Z.nd hi hj]
  have R : Ers K mg (clsAt [C0, C1, C2, C3, C4, C5, C6, C7, C8, C9, C10, C11, C12, C13, C14, C15, C16, C17, C18, C19, C20, C21, C22, C23, C24, C25, C26, C27, C28, C29]) CR := ⟨k0, k1, k2, k3, k4, k5, k6, k7, k8, k9, k10, k11, k12, k13, k14, k15, k16, k17, k18, k19, k20, k21, k22, k23, e24, e25, e26, e27, e28, e29, gRoot, ii, kk, fun i hi => kit_root (mm i hi) Z.rCl Z.rTy, fun i hi => kit_val (mm i hi)⟩
  have ErrO : ∀ {x : Str} {C : Addr}, ErrK K mg x "value" C → Err K mg x C := fun k => ⟨k.e.g, k.e.ox, k.e.xf, k.e.no, k.e.ini⟩
  have T : Txt K w mg aI aT C0 C5 C8 C9 C4 C6 kI kT := ⟨zz_isinstance, zz_int, zz_bool, zz_str, zz_list, zz_tuple, zz_len, zz_all, zz_range, zz_enumerate, PySem.W.mg_of X G Z.taI.1, Z.taI.2, Z.hI, PySem.W.mg_of X G Z.taT.1, Z.taT.2, Z.hT, ⟨tM, PySem.W.mg_of X G Z.iMOST⟩, ErrO k0, ErrO k5, ErrO k8, ErrO k9, ErrO k4, ErrO k6⟩
  have nR : PySem.W.exmOne K (.ref C1) (.ref CR) = some true := exm_same Z.rEx Z.rCl Z.rTy m1.root
  have nP : PySem.W.exmOne K (.ref C0) (.ref C0) = some true := exm_same k0.e.xf.exC m0.s m0.t m0.self
  have nT : PySem.W.exmOne K (.ref C5) (.ref C5) = some true := exm_same k5.e.xf.exC m5.s m5.t m5.self
  have D1 := Z.d1.df (ps := ["value"]) X G fun _ _ _ _ _ _ us hl => match us, hl with | [_], _ => rfl
  have D2 := Z.d2.df (ps := ["value"]) X G fun _ _ _ _ _ _ us hl => match us, hl with | [_], _ => rfl
  have D3 := Z.d3.df (ps := ["prime"]) X G fun _ _ _ _ _ _ us hl => match us, hl with | [_], _ => rfl
  have D4 := Z.d4.df (ps := ["number", "prime"]) X G fun _ _ _ _ _ _ us hl => match us, hl with | [_, _], _ => rfl
  have D5 := Z.d5.df (ps := ["prime", "vector", "matrix", "width"]) X G fun _ _ _ _ _ _ us hl => match us, hl with | [_, _, _, _], _ => rfl
  have D6 := Z.d6.df (ps := ["value"]) X G fun _ _ _ _ _ _ us hl => match us, hl with | [_], _ => rfl
  have D7 := Z.d7.df (ps := ["pattern"]) X G fun _ _ _ _ _ _ us hl => match us, hl with | [_], _ => rfl
  have D8 := Z.d8.df (ps := ["pattern"]) X G fun _ _ _ _ _ _ us hl => match us, hl with | [_], _ => rfl
  have D9 := Z.d9.df (ps := ["_law_script", "_law_k"]) X G fun _ _ _ _ _ _ us hl => match us, hl with | [_, _], _ => rfl
  have D10 := Z.d10.df (ps := ["_law_cell_here"]) X G fun _ _ _ _ _ _ us hl => match us, hl with | [_], _ => rfl
  have D11 := Z.d11.df (ps := ["_law_box_here", "_law_many"]) X G fun _ _ _ _ _ _ us hl => match us, hl with | [_, _], _ => rfl
  have D12 := Z.d12.df (ps := ["_law_box_here"]) X G fun _ _ _ _ _ _ us hl => match us, hl with | [_], _ => rfl
  have D13 := Z.d13.df (ps := ["_law_thing_here"]) X G fun _ _ _ _ _ _ us hl => match us, hl with | [_], _ => rfl
  have D14 := Z.d14.df (ps := ["_law_t"]) X G fun _ _ _ _ _ _ us hl => match us, hl with | [_], _ => rfl
  have D15 := Z.d15.df (ps := ["_law_t"]) X G fun _ _ _ _ _ _ us hl => match us, hl with | [_], _ => rfl
  have D16 := Z.d16.df (ps := []) X G fun _ _ _ _ _ _ us hl => match us, hl with | [], _ => rfl
  have D17 := Z.d17.df (ps := ["_law_e"]) X G fun _ _ _ _ _ _ us hl => match us, hl with | [_], _ => rfl
  have D18 := Z.d18.df (ps := ["_law_made_here"]) X G fun _ _ _ _ _ _ us hl => match us, hl with | [_], _ => rfl
  have D19 := Z.d19.df (ps := ["_law_made_here"]) X G fun _ _ _ _ _ _ us hl => match us, hl with | [_], _ => rfl
  have D20 := Z.d20.df (ps := ["_law_p"]) X G fun _ _ _ _ _ _ us hl => match us, hl with | [_], _ => rfl
  obtain ⟨f, g, oc, od, kV, dc, pm, an, cd, ct, sl, lk, hc, hk⟩ := Z.dl
  have e := hfa.symm.trans (PySem.W.mg_of X G g)
  cases e
  refine ⟨PySem.W.fnOf "law" "law" (defArgs sLaw) (defBody sLaw) (defScope sLaw) .none kV dc pm an cd ct, fun s v => .of_eq rfl, fun base KB _ => ?_⟩
  have G1 : Own l.prog w K mg base CX0 1 "is_number" ["value"] [] spNum := D1.own fun f fd F => okNum F T
  have G2 : Own l.prog w K mg base CX0 2 "is_prime" ["value"] [] spPrime := D2.own fun f fd F => okPrime F T G1
  have G3 : Own l.prog w K mg base (L2.CX l.prog w) 4 "check_prime" ["prime"] [] (spCheck C0) := D3.own fun f fd F => okCheck F T G2
  have G4 : Own l.prog w K mg base (L2.CX l.prog w) 6 "inverse" ["number", "prime"] [] (spInvR C1) := D4.own fun f fd F => okInv F (ErrO k1) G1 G3
  have G5 : Own l.prog w K mg base (L2.CX l.prog w) 6 "led" ["prime", "vector", "matrix", "width"] [] (spLedR C0) := D5.own fun f fd F => okLed F G3
  have G6 : Own l.prog w K mg base CX0 1 "is_pattern" ["value"] [] spPat := D6.own fun f fd F => okPat F T
  have G7 : Own l.prog w K mg base (L2.CX l.prog w) 4 "check_pattern" ["pattern"] [] (spCPat C5) := D7.own fun f fd F => okCPat F T G6
  have G8 : Own l.prog w K mg base (L2.CX l.prog w) 5 "bars" ["pattern"] [] (spBarsR C5) := D8.own fun f fd F => okBars F G7
  have G9 : Own l.prog w K mg base CX0 1 "_law_cell" ["_law_script", "_law_k"] [] (spCellR K) := D9.own fun f fd F => okCell F T.len
  have G10 : Own l.prog w K mg base CX0 1 "_law_box" ["_law_cell_here"] [] spBoxR := D10.own fun f fd F => okBox F zz_max T.int
  have G11 : Own l.prog w K mg base CX0 1 "_law_take" ["_law_box_here", "_law_many"] [] spTakeR := D11.own fun f fd F => okTake F T.int
  have G12 : Own l.prog w K mg base CX0 2 "_law_thing" ["_law_box_here"] [] spThing := D12.own fun f fd F => okThing F G11
  have G13 : Own l.prog w K mg base CX0 1 "_law_inner" ["_law_thing_here"] [] spInner := D13.own fun f fd F => okInner F T.isi T.tuple zz_dict T.list T.len
  have G14 : Own l.prog w K mg base CX0 3 "_law_made" ["_law_t"] [] (spMadeX (clsAt [C0, C1, C2, C3, C4, C5, C6, C7, C8, C9, C10, C11, C12, C13, C14, C15, C16, C17, C18, C19, C20, C21, C22, C23, C24, C25, C26, C27, C28, C29])) := D14.own fun f fd F => okMade F R
  have G15 : Own l.prog w K mg base CX0 3 "_law_named" ["_law_t"] [] (spMadeX (clsAt [C0, C1, C2, C3, C4, C5, C6, C7, C8, C9, C10, C11, C12, C13, C14, C15, C16, C17, C18, C19, C20, C21, C22, C23, C24, C25, C26, C27, C28, C29])) := D15.own fun f fd F => okNamed F R
  have G16 : Own l.prog w K mg base CX0 3 "_law_bare" [] [] (spBareX (clsAt [C0, C1, C2, C3, C4, C5, C6, C7, C8, C9, C10, C11, C12, C13, C14, C15, C16, C17, C18, C19, C20, C21, C22, C23, C24, C25, C26, C27, C28, C29])) := D16.own fun f fd F => okBare F R
  have G17 : Own l.prog w K mg base CX0 1 "_law_kinds" ["_law_e"] [] (spKinds (clsAt [C0, C1, C2, C3, C4, C5, C6, C7, C8, C9, C10, C11, C12, C13, C14, C15, C16, C17, C18, C19, C20, C21, C22, C23, C24, C25, C26, C27, C28, C29])) := D17.own fun f fd F => okKinds F R T.isi
  have G18 : Own l.prog w K mg base CX0 1 "_law_fields" ["_law_made_here"] [] (spFields (clsAt [C0, C1, C2, C3, C4, C5, C6, C7, C8, C9, C10, C11, C12, C13, C14, C15, C16, C17, C18, C19, C20, C21, C22, C23, C24, C25, C26, C27, C28, C29])) := D18.own fun f fd F => okFields F R
  have G19 : Own l.prog w K mg base CX0 2 "_law_apart" ["_law_made_here"] [] (spApart (clsAt [C0, C1, C2, C3, C4, C5, C6, C7, C8, C9, C10, C11, C12, C13, C14, C15, C16, C17, C18, C19, C20, C21, C22, C23, C24, C25, C26, C27, C28, C29])) := D19.own fun f fd F => okApart F R T.range T.len T.isi zz_ValueError G17
  have G20 : Own l.prog w K mg base CX0 7 "_law_raised" ["_law_p"] [] spRaised := D20.own fun f fd F => okRaised F R T.isi nR nP nT G4 G5 G8
  exact okLaw (fun_mk (st := sLaw) lk hc hk) ⟨zz_range, zz_max, zz_min, zz_len, zz_repr⟩ ⟨G9, G10, G11, G12, G13, G14, G15, G16, G18, G19, G20⟩
end K1
set_option Elab.async false
open PySem PySem.W PyProof.Rows
set_option maxRecDepth 100000
set_option maxHeartbeats 0
theorem PySem.W.Fast.tw2522399876816720746 : True := trivial
theorem PySem.W.Fast.tw18272161754745219518 : True := trivial
theorem PySem.W.Fast.tw15036446512965391130 : True := trivial
theorem PySem.W.Fast.tw17971223096115363807 : True := trivial
theorem PySem.W.Fast.tw11991834905394530035 : True := trivial
theorem PySem.W.Fast.tw3538600566432721094 : True := trivial
theorem PySem.W.Fast.tw13195216016180015869 : True := trivial
theorem PySem.W.Fast.tw598919819012575018 : True := trivial
theorem PySem.W.Fast.tw14860153165778398918 : True := trivial
theorem PySem.W.Fast.tw10263586647210123510 : True := trivial
theorem PySem.W.Fast.tw12180336010256426392 : True := trivial
theorem PySem.W.Fast.tw5402690118366509758 : True := trivial
theorem PySem.W.Fast.tw3042348077876387906 : True := trivial
theorem PySem.W.Fast.tw16107835144521776427 : True := trivial
theorem PySem.W.Fast.tw11290135461015006931 : True := trivial
theorem PySem.W.Fast.tw13730639405335770547 : True := trivial
theorem PySem.W.Fast.tw1095060569853632624 : True := trivial
theorem PySem.W.Fast.tw7794967959139745927 : True := trivial
theorem PySem.W.Fast.tw2589666345604841675 : True := trivial
theorem PySem.W.Fast.tw7115442077052943981 : True := trivial
theorem PySem.W.Fast.tw12115591719345658841 : True := trivial
theorem PySem.W.Fast.tw7241512092582861289 : True := trivial
theorem PySem.W.Fast.tw17047945141820275703 : True := trivial
theorem PySem.W.Fast.tw10697158774302181832 : True := trivial
theorem PySem.W.Fast.tw957176025639012587 : True := trivial
theorem PySem.W.Fast.tw3759104832366396443 : True := trivial
theorem PySem.W.Fast.tw15528226323928307260 : True := trivial
theorem PySem.W.Fast.tw10665470159830195118 : True := trivial
theorem PySem.W.Fast.tw9686374986001645922 : True := trivial
theorem PySem.W.Fast.tw9589574995577715778 : True := trivial
theorem PySem.W.Fast.tw7061836493952604127 : True := trivial
theorem PySem.W.Fast.tw16352543283864469642 : True := trivial
theorem PySem.W.Fast.tw7684250036824668886 : True := trivial
theorem PySem.W.Fast.tw12323812931290060628 : True := trivial
theorem PySem.W.Fast.tw8846113667884578119 : True := trivial
theorem PySem.W.Fast.tw6813981621041978728 : True := trivial
theorem PySem.W.Fast.tw12550587670954699260 : True := trivial
theorem PySem.W.Fast.tw18419169473413983775 : True := trivial
theorem PySem.W.Fast.tw15051831002195991203 : True := trivial
theorem PySem.W.Fast.tw2969306234646110043 : True := trivial
theorem PySem.W.Fast.tw5890560104804451735 : True := trivial
theorem PySem.W.Fast.tw11144783069091993438 : True := trivial
theorem PySem.W.Fast.tw6021971491482626161 : True := trivial
theorem PySem.W.Fast.tw18001098704262358966 : True := trivial
theorem PySem.W.Fast.tw15449242498926949789 : True := trivial
theorem PySem.W.Fast.tw12254457045182396602 : True := trivial
theorem PySem.W.Fast.tw8899164300884646691 : True := trivial
theorem PySem.W.Fast.tw5958617245797555752 : True := trivial
theorem PySem.W.Fast.tw16042589624312256830 : True := trivial
theorem PySem.W.Fast.tw4029274526122715092 : True := trivial
theorem PySem.W.Fast.tw11390308752718484482 : True := trivial
theorem PySem.W.Fast.tw14619425835837396351 : True := trivial
theorem PySem.W.Fast.tw13550752524142421134 : True := trivial
theorem PySem.W.Fast.tw4988420473628337257 : True := trivial
theorem PySem.W.Fast.tw6115701022703695138 : True := trivial
theorem PySem.W.Fast.tw10593973763789742493 : True := trivial
theorem PySem.W.Fast.tw2559052900473345255 : True := trivial
theorem PySem.W.Fast.tw10796421408872148026 : True := trivial
theorem PySem.W.Fast.tw15707877333058043703 : True := trivial
theorem PySem.W.Fast.tw7580318782121112377 : True := trivial
theorem PySem.W.Fast.tw7860938762956465914 : True := trivial
theorem PySem.W.Fast.tw2755644653960225176 : True := trivial
theorem PySem.W.Fast.tw13442140294007863680 : True := trivial
theorem PySem.W.Fast.tw15763740132297999977 : True := trivial
theorem PySem.W.Fast.tw9872015797759878971 : True := trivial
theorem PySem.W.Fast.tw15484559019641600767 : True := trivial
theorem PySem.W.Fast.tw11791908745778263022 : True := trivial
theorem PySem.W.Fast.tw7429209999468751116 : True := trivial
theorem PySem.W.Fast.tw3597509086735155964 : True := trivial
theorem PySem.W.Fast.tw5454807126583085542 : True := trivial
theorem PySem.W.Fast.tw15739554967848622927 : True := trivial
theorem PySem.W.Fast.tw14205110634977156013 : True := trivial
theorem PySem.W.Fast.tw8069698680506393080 : True := trivial
theorem PySem.W.Fast.tw11748202222599878663 : True := trivial
theorem PySem.W.Fast.tw5201264619942182889 : True := trivial
theorem PySem.W.Fast.tw2687838234394968659 : True := trivial
theorem PySem.W.Fast.tw10222060606520698484 : True := trivial
theorem PySem.W.Fast.tw8926938280587763514 : True := trivial
theorem PySem.W.Fast.tw12236548672821668585 : True := trivial
theorem PySem.W.Fast.tw1587785310613571574 : True := trivial
theorem PySem.W.Fast.tw10847060772437495227 : True := trivial
theorem PySem.W.Fast.tw9091419904921663257 : True := trivial
theorem PySem.W.Fast.tw10775835910437228916 : True := trivial
theorem PySem.W.Fast.tw14961280529698701218 : True := trivial
theorem PySem.W.Fast.tw12113947207978930003 : True := trivial
theorem PySem.W.Fast.tw4941975701353014350 : True := trivial
theorem PySem.W.Fast.tw15517754438608343495 : True := trivial
theorem PySem.W.Fast.tw7424686300366799887 : True := trivial
theorem PySem.W.Fast.tw12831516299098145961 : True := trivial
theorem PySem.W.Fast.tw17064685399941369398 : True := trivial
theorem PySem.W.Fast.tw1394829401123161334 : True := trivial
theorem PySem.W.Fast.tw4994388723857717956 : True := trivial
theorem PySem.W.Fast.tw3210062874095902830 : True := trivial
theorem PySem.W.Fast.tw12506102502444407415 : True := trivial
theorem PySem.W.Fast.tw9942606392336813609 : True := trivial
theorem PySem.W.Fast.tw723056177719440843 : True := trivial
theorem PySem.W.Fast.tw9255286437378927719 : True := trivial
theorem PySem.W.Fast.tw4388628240894566254 : True := trivial
theorem PySem.W.Fast.tw14947302506470785482 : True := trivial
theorem PySem.W.Fast.tw2024060321871745923 : True := trivial
theorem PySem.W.Fast.tw11017605994519842636 : True := trivial
theorem PySem.W.Fast.tw15007644302855965398 : True := trivial
theorem PySem.W.Fast.tw11319813540451779793 : True := trivial
theorem PySem.W.Fast.tw16172222459490299528 : True := trivial
theorem PySem.W.Fast.tw5380047096550506921 : True := trivial
theorem PySem.W.Fast.tw14139758172429353706 : True := trivial
theorem PySem.W.Fast.tw11524709673645665158 : True := trivial
theorem PySem.W.Fast.tw16201721666271906671 : True := trivial
theorem PySem.W.Fast.tw11533173033686926717 : True := trivial
theorem PySem.W.Fast.tw16132214180840144934 : True := trivial
theorem PySem.W.Fast.tw1572600776956325124 : True := trivial
theorem PySem.W.Fast.tw7268297044134815329 : True := trivial
theorem PySem.W.Fast.tw6432349638248103694 : True := trivial
theorem PySem.W.Fast.tw9275457291955152990 : True := trivial
theorem PySem.W.Fast.tw2830354601350400650 : True := trivial
theorem PySem.W.Fast.tw2316274343579551069 : True := trivial
theorem PySem.W.Fast.tw8887016760782415212 : True := trivial
theorem PySem.W.Fast.tw15678324876964071202 : True := trivial
theorem PySem.W.Fast.tw1288080433388806807 : True := trivial
theorem PySem.W.Fast.tw10527533316898995958 : True := trivial
theorem PySem.W.Fast.tw15887104695783317743 : True := trivial
theorem PySem.W.Fast.tw18428243871295012487 : True := trivial
theorem PySem.W.Fast.tw15905011055602671065 : True := trivial
theorem PySem.W.Fast.tw2828835220901703847 : True := trivial
theorem PySem.W.Fast.tw14010406359207212594 : True := trivial
theorem PySem.W.Fast.tw147220442756611305 : True := trivial
theorem PySem.W.Fast.tw2592302232303934135 : True := trivial
theorem PySem.W.Fast.tw1383519292629014680 : True := trivial
theorem PySem.W.Fast.tw14571329179930413860 : True := trivial
theorem PySem.W.Fast.tw13808580874821488687 : True := trivial
theorem PySem.W.Fast.tw15846250407349188653 : True := trivial
theorem PySem.W.Fast.tw97553728047468138 : True := trivial
theorem PySem.W.Fast.tw4115051995701080972 : True := trivial
theorem PySem.W.Fast.tw10979548313625319031 : True := trivial
theorem PySem.W.Fast.tw10093830000735457034 : True := trivial
theorem PySem.W.Fast.tw15179951647160213167 : True := trivial
theorem PySem.W.Fast.tw4942743585311952036 : True := trivial
theorem PySem.W.Fast.tw10524017264320914696 : True := trivial
theorem PySem.W.Fast.tw14090636984533918104 : True := trivial
theorem PySem.W.Fast.tw11482307832562023127 : True := trivial
theorem PySem.W.Fast.tw8310904950822381781 : True := trivial
theorem PySem.W.Fast.tw10551220103974534242 : True := trivial
theorem PySem.W.Fast.tw12681739352110102453 : True := trivial
theorem PySem.W.Fast.tw3151490366987539421 : True := trivial
theorem PySem.W.Fast.tw16408390660873149066 : True := trivial
theorem PySem.W.Fast.tw10950163736637476354 : True := trivial
theorem PySem.W.Fast.tw6416101300838901042 : True := trivial
theorem PySem.W.Fast.tw5346270116808523366 : True := trivial
theorem PySem.W.Fast.tw1472986410973097554 : True := trivial
theorem PySem.W.Fast.tw10953343666540255151 : True := trivial
theorem PySem.W.Fast.tw14301890186430390943 : True := trivial
theorem PySem.W.Fast.tw6526710007389844562 : True := trivial
theorem PySem.W.Fast.tw3654782160411488055 : True := trivial
theorem PySem.W.Fast.tw657833590013665272 : True := trivial
theorem PySem.W.Fast.tw381523065345751908 : True := trivial
theorem PySem.W.Fast.tw192416877126873671 : True := trivial
theorem PySem.W.Fast.tw12072913646948112971 : True := trivial
theorem PySem.W.Fast.tw11775213817592591380 : True := trivial
theorem PySem.W.Fast.tw15579050595912007303 : True := trivial
theorem PySem.W.Fast.tw274514330793085570 : True := trivial
theorem PySem.W.Fast.tw5759888633616470518 : True := trivial
theorem PySem.W.Fast.tw10550177151056098073 : True := trivial
theorem PySem.W.Fast.tw8243082837118432980 : True := trivial
theorem PySem.W.Fast.tw10315835662004058763 : True := trivial
theorem PySem.W.Fast.tw13683212089668775648 : True := trivial
theorem PySem.W.Fast.tw33078635660974815 : True := trivial
theorem PySem.W.Fast.tw13712254160629519329 : True := trivial
theorem PySem.W.Fast.tw5391858587390632443 : True := trivial
theorem PySem.W.Fast.tw1125528684978201853 : True := trivial
theorem PySem.W.Fast.tw318176039918259080 : True := trivial
theorem PySem.W.Fast.tw9207994241593767417 : True := trivial
theorem PySem.W.Fast.tw4337936621627365772 : True := trivial
theorem PySem.W.Fast.tw1524758365805059793 : True := trivial
theorem PySem.W.Fast.tw8754364428279151637 : True := trivial
theorem PySem.W.Fast.tw11080312581466452745 : True := trivial
theorem PySem.W.Fast.tw9251073890317551891 : True := trivial
theorem PySem.W.Fast.tw14339831291932872842 : True := trivial
theorem PySem.W.Fast.tw8861313030183380465 : True := trivial
theorem PySem.W.Fast.tw15669940122258787395 : True := trivial
theorem PySem.W.Fast.tw9523916323748405448 : True := trivial
theorem PySem.W.Fast.tw674230286479095884 : True := trivial
theorem PySem.W.Fast.tw870085156732070824 : True := trivial
theorem PySem.W.Fast.tw16901799218152612339 : True := trivial
theorem PySem.W.Fast.tw15222348614383441699 : True := trivial
theorem PySem.W.Fast.tw11190516694200047878 : True := trivial
theorem PySem.W.Fast.tw10794205549927872464 : True := trivial
theorem PySem.W.Fast.tw18123186179305177699 : True := trivial
theorem PySem.W.Fast.tw6488901527635992150 : True := trivial
theorem PySem.W.Fast.tw16961804975990724761 : True := trivial
theorem PySem.W.Fast.tw18320373503230462245 : True := trivial
theorem PySem.W.Fast.tw5632126129938134948 : True := trivial
theorem PySem.W.Fast.tw2958553945768042788 : True := trivial
theorem PySem.W.Fast.tw3453234389706552545 : True := trivial
theorem PySem.W.Fast.tw5028159281590684250 : True := trivial
theorem PySem.W.Fast.tw6975091795395158005 : True := trivial
theorem PySem.W.Fast.tw4085968562392610841 : True := trivial
theorem PySem.W.Fast.tw14851657142591583122 : True := trivial
theorem PySem.W.Fast.tw631530705239723729 : True := trivial
theorem PySem.W.Fast.tw375008863647038914 : True := trivial
theorem PySem.W.Fast.tw9200743660566398339 : True := trivial
theorem PySem.W.Fast.tw14884641824492592039 : True := trivial
theorem PySem.W.Fast.tw5296205867450796163 : True := trivial
theorem PySem.W.Fast.tw17049439663570587013 : True := trivial
theorem PySem.W.Fast.tw3180900086748534221 : True := trivial
theorem PySem.W.Fast.tw16149434974620675140 : True := trivial
theorem PySem.W.Fast.tw17624884806533578956 : True := trivial
theorem PySem.W.Fast.tw13035926126108726788 : True := trivial
theorem PySem.W.Fast.tw3849226617302896897 : True := trivial
theorem PySem.W.Fast.tw16656637745822116926 : True := trivial
theorem PySem.W.Fast.tw12000967153880257111 : True := trivial
theorem PySem.W.Fast.tw1748010196168624474 : True := trivial
theorem PySem.W.Fast.tw14125423789867252859 : True := trivial
theorem PySem.W.Fast.tw4707110474240665965 : True := trivial
theorem PySem.W.Fast.tw6954634824295385817 : True := trivial
theorem PySem.W.Fast.tw747745037120012904 : True := trivial
theorem PySem.W.Fast.tw5659074791976151760 : True := trivial
theorem PySem.W.Fast.tw9246420897845863969 : True := trivial
theorem PySem.W.Fast.tw4686459063594529247 : True := trivial
theorem PySem.W.Fast.tw18210664805363498745 : True := trivial
theorem PySem.W.Fast.tw16883098529152226877 : True := trivial
theorem PySem.W.Fast.tw5073685477526776928 : True := trivial
theorem PySem.W.Fast.tw11396745325869514199 : True := trivial
theorem PySem.W.Fast.tw289650106424865856 : True := trivial
theorem PySem.W.Fast.tw1112889144624839406 : True := trivial
theorem PySem.W.Fast.tw576191163653839024 : True := trivial
theorem PySem.W.Fast.tw4481853031124520547 : True := trivial
theorem PySem.W.Fast.tw14032737264913312277 : True := trivial
theorem PySem.W.Fast.tw7255866738989467197 : True := trivial
theorem PySem.W.Fast.tw16726976578213345834 : True := trivial
theorem PySem.W.Fast.tw15100560798069544586 : True := trivial
theorem PySem.W.Fast.tw9763875292493792836 : True := trivial
theorem PySem.W.Fast.tw12771909071804878654 : True := trivial
theorem PySem.W.Fast.tw11792863238468570133 : True := trivial
theorem PySem.W.Fast.tw14556434824165484780 : True := trivial
theorem PySem.W.Fast.tw849161157095007413 : True := trivial
theorem PySem.W.Fast.tw16802207223662813156 : True := trivial
theorem PySem.W.Fast.tw7997890698341373779 : True := trivial
theorem PySem.W.Fast.tw10067118517490258639 : True := trivial
theorem PySem.W.Fast.tw7481689235320351151 : True := trivial
theorem PySem.W.Fast.tw15082435050714976392 : True := trivial
theorem PySem.W.Fast.tw17269101828413503878 : True := trivial
theorem PySem.W.Fast.tw18224438223059453373 : True := trivial
theorem PySem.W.Fast.tw769085197981766477 : True := trivial
theorem PySem.W.Fast.tw9984805767299958318 : True := trivial
theorem PySem.W.Fast.tw14415892022695795750 : True := trivial
theorem PySem.W.Fast.tw16652157845279470742 : True := trivial
theorem PySem.W.Fast.tw17906290453227981512 : True := trivial
theorem PySem.W.Fast.tw1959868480235582287 : True := trivial
theorem PySem.W.Fast.tw8841712980912215584 : True := trivial
theorem PySem.W.Fast.tw7052711569736402652 : True := trivial
theorem PySem.W.Fast.tw128028554490828166 : True := trivial
theorem PySem.W.Fast.tw14806578671306684732 : True := trivial
theorem PySem.W.Fast.tw6280913273668491556 : True := trivial
theorem PySem.W.Fast.tw8671598670997976066 : True := trivial
theorem PySem.W.Fast.tw1020179157452095727 : True := trivial
theorem PySem.W.Fast.tw6912639065881973769 : True := trivial
theorem PySem.W.Fast.tw11248254189249847875 : True := trivial
theorem PySem.W.Fast.tw10267266502029563471 : True := trivial
theorem PySem.W.Fast.tw6184512405267919640 : True := trivial
theorem PySem.W.Fast.tw4948204728895578788 : True := trivial
theorem PySem.W.Fast.tw17685130631980550511 : True := trivial
theorem PySem.W.Fast.tw13605489918651836316 : True := trivial
theorem PySem.W.Fast.tw1673912220874315696 : True := trivial
theorem PySem.W.Fast.tw1910534398091640576 : True := trivial
theorem PySem.W.Fast.tw5069619573044946639 : True := trivial
theorem PySem.W.Fast.tw3709103295202863180 : True := trivial
theorem PySem.W.Fast.tw13308296698993971677 : True := trivial
theorem PySem.W.Fast.tw10383343641316647616 : True := trivial
theorem PySem.W.Fast.tw14771328595902694566 : True := trivial
theorem PySem.W.Fast.tw2263652088366149678 : True := trivial
theorem PySem.W.Fast.tw11014723613747175386 : True := trivial
theorem PySem.W.Fast.tw5965225611561493840 : True := trivial
theorem PySem.W.Fast.tw7957575123617711510 : True := trivial
theorem PySem.W.Fast.tw16287967456216343229 : True := trivial
theorem PySem.W.Fast.tw14301933003155964374 : True := trivial
theorem PySem.W.Fast.tw5465320090632938029 : True := trivial
theorem PySem.W.Fast.tw1074249795125556207 : True := trivial
theorem PySem.W.Fast.tw1869668797854681477 : True := trivial
theorem PySem.W.Fast.tw2164011030430463113 : True := trivial
theorem PySem.W.Fast.tw14713300765223639350 : True := trivial
theorem PySem.W.Fast.tw834942223643940842 : True := trivial
theorem PySem.W.Fast.tw5063100817789319395 : True := trivial
theorem PySem.W.Fast.tw87972100693426985 : True := trivial
theorem PySem.W.Fast.tw8232392928877072766 : True := trivial
theorem PySem.W.Fast.tw16658144296532231561 : True := trivial
theorem PySem.W.Fast.tw18433424186572319949 : True := trivial
theorem PySem.W.Fast.tw609806276788429219 : True := trivial
theorem PySem.W.Fast.tw11166077132342082830 : True := trivial
theorem PySem.W.Fast.tw15833895278958384794 : True := trivial
theorem PySem.W.Fast.tw14333140093090175668 : True := trivial
theorem PySem.W.Fast.tw15531793889982447419 : True := trivial
theorem PySem.W.Fast.tw8403599072899745105 : True := trivial
theorem PySem.W.Fast.tw11023735014044347318 : True := trivial
theorem PySem.W.Fast.tw2057152895297802159 : True := trivial
theorem PySem.W.Fast.tw17700627675688746661 : True := trivial
theorem PySem.W.Fast.tw12507939960149512945 : True := trivial
theorem PySem.W.Fast.tw6837693041482712264 : True := trivial
theorem PySem.W.Fast.tw15977970155351347280 : True := trivial
theorem PySem.W.Fast.tw15267962760021356254 : True := trivial
theorem PySem.W.Fast.tw5253598501643623712 : True := trivial
theorem PySem.W.Fast.tw11090198407390959925 : True := trivial
theorem PySem.W.Fast.tw3461651854930706506 : True := trivial
theorem PySem.W.Fast.tw16512927604922148195 : True := trivial
theorem PySem.W.Fast.tw1626277064711596972 : True := trivial
theorem PySem.W.Fast.tw2113528296686046420 : True := trivial
theorem PySem.W.Fast.tw17692059810997782674 : True := trivial
theorem PySem.W.Fast.tw11632025762254599046 : True := trivial
theorem PySem.W.Fast.tw16342792055049476279 : True := trivial
theorem PySem.W.Fast.tw8912388994555299151 : True := trivial
theorem PySem.W.Fast.tw10581721181939016271 : True := trivial
theorem PySem.W.Fast.tw1225686283598375829 : True := trivial
theorem PySem.W.Fast.tw16341258027869396881 : True := trivial
theorem PySem.W.Fast.tw2729277033558443857 : True := trivial
theorem PySem.W.Fast.tw12934818239654880175 : True := trivial
theorem PySem.W.Fast.tw10782400498668835323 : True := trivial
theorem PySem.W.Fast.tw15686738997064028289 : True := trivial
theorem PySem.W.Fast.tw14420503129463701498 : True := trivial
theorem PySem.W.Fast.tw2729173146756294020 : True := trivial
theorem PySem.W.Fast.tw5531443792364189190 : True := trivial
theorem PySem.W.Fast.tw8429382860781100846 : True := trivial
theorem PySem.W.Fast.tw8419370835218727822 : True := trivial
theorem PySem.W.Fast.tw422666986681244393 : True := trivial
theorem PySem.W.Fast.tw8318977832907298014 : True := trivial
theorem PySem.W.Fast.tw16747001474989658793 : True := trivial
theorem PySem.W.Fast.tw7189240678649214789 : True := trivial
theorem PySem.W.Fast.tw7149250158483582494 : True := trivial
theorem PySem.W.Fast.tw17413059713077525128 : True := trivial
theorem PySem.W.Fast.tw13656850446213615687 : True := trivial
theorem PySem.W.Fast.tw3553070244703674044 : True := trivial
theorem PySem.W.Fast.tw3010008605341148970 : True := trivial
theorem PySem.W.Fast.tw3414159046556194403 : True := trivial
theorem PySem.W.Fast.tw5238668339846451405 : True := trivial
theorem PySem.W.Fast.tw10097264897478711790 : True := trivial
theorem PySem.W.Fast.tw1573761966224218596 : True := trivial
theorem PySem.W.Fast.tw849459012928594019 : True := trivial
theorem PySem.W.Fast.tw4520428853888473005 : True := trivial
theorem PySem.W.Fast.tw424004143380990875 : True := trivial
theorem PySem.W.Fast.tw14327740644950733434 : True := trivial
theorem PySem.W.Fast.tw15790487969793315130 : True := trivial
theorem PySem.W.Fast.tw5111487196315089919 : True := trivial
theorem PySem.W.Fast.tw17313542410502727686 : True := trivial
theorem PySem.W.Fast.tw2851939150112756573 : True := trivial
theorem PySem.W.Fast.tw10648968754849541204 : True := trivial
theorem PySem.W.Fast.tw6680179145081671977 : True := trivial
theorem PySem.W.Fast.tw16146308981624242870 : True := trivial
theorem PySem.W.Fast.tw16613010576615569022 : True := trivial
theorem PySem.W.Fast.tw129846981450224867 : True := trivial
theorem PySem.W.Fast.tw2861400245874700605 : True := trivial
theorem PySem.W.Fast.tw11745281240772093182 : True := trivial
theorem PySem.W.Fast.tw4697717451505875006 : True := trivial
theorem PySem.W.Fast.tw13322721856003856745 : True := trivial
theorem PySem.W.Fast.tw5136024207248017324 : True := trivial
theorem PySem.W.Fast.tw6421628499925146869 : True := trivial
theorem PySem.W.Fast.tw14550016007598251213 : True := trivial
theorem PySem.W.Fast.tw441949479666435063 : True := trivial
theorem PySem.W.Fast.tw9350078718281821343 : True := trivial
theorem PySem.W.Fast.tw13411758850942195574 : True := trivial
theorem PySem.W.Fast.tw203822752166154095 : True := trivial
theorem PySem.W.Fast.tw5824629031772332284 : True := trivial
theorem PySem.W.Fast.tw2489676568323864766 : True := trivial
theorem PySem.W.Fast.tw2154575127331594195 : True := trivial
theorem PySem.W.Fast.tw11643955951462940049 : True := trivial
theorem PySem.W.Fast.tw14791497172142752750 : True := trivial
theorem PySem.W.Fast.tw9254443072528618050 : True := trivial
theorem PySem.W.Fast.tw3270014637294598684 : True := trivial
theorem PySem.W.Fast.tw10239063334504338297 : True := trivial
theorem PySem.W.Fast.tw12371942845264103999 : True := trivial
theorem PySem.W.Fast.tw14789131881913628868 : True := trivial
theorem PySem.W.Fast.tw15930239841404471431 : True := trivial
theorem PySem.W.Fast.tw7715874407720317937 : True := trivial
theorem PySem.W.Fast.tw5935502197412854086 : True := trivial
theorem PySem.W.Fast.tw8012598892969470598 : True := trivial
theorem PySem.W.Fast.tw7793919709785398615 : True := trivial
theorem PySem.W.Fast.tw2760572144483297166 : True := trivial
theorem PySem.W.Fast.tw7735642871553561152 : True := trivial
theorem PySem.W.Fast.tw9329916877067843 : True := trivial
theorem PySem.W.Fast.tw12454629773848420189 : True := trivial
theorem PySem.W.Fast.tw4439823536047856736 : True := trivial
theorem PySem.W.Fast.tw2409937260473554150 : True := trivial
theorem PySem.W.Fast.tw17981590124830508571 : True := trivial
theorem PySem.W.Fast.tw8323521170360967141 : True := trivial
theorem PySem.W.Fast.tw11649535760534507921 : True := trivial
theorem PySem.W.Fast.tw14665697763664610210 : True := trivial
theorem PySem.W.Fast.tw2438309020030197618 : True := trivial
theorem PySem.W.Fast.tw13673991651172354975 : True := trivial
theorem PySem.W.Fast.tw2479149181788628275 : True := trivial
theorem PySem.W.Fast.tw11862462519540047899 : True := trivial
theorem PySem.W.Fast.tw10906218877601151609 : True := trivial
theorem PySem.W.Fast.tw15534969378471728996 : True := trivial
theorem PySem.W.Fast.tw15698606438763540329 : True := trivial
theorem PySem.W.Fast.tw665401137625464370 : True := trivial
theorem PySem.W.Fast.tw16417414554090672747 : True := trivial
theorem PySem.W.Fast.tw5662840270017150496 : True := trivial
theorem PySem.W.Fast.tw5597022568269633774 : True := trivial
theorem PySem.W.Fast.tw5593806334461781219 : True := trivial
theorem PySem.W.Fast.tw9705511887975327297 : True := trivial
theorem PySem.W.Fast.tw8880483544551890217 : True := trivial
theorem PySem.W.Fast.tw16963167363145475147 : True := trivial
theorem PySem.W.Fast.tw15360189656339370398 : True := trivial
theorem PySem.W.Fast.tw2729764560039866234 : True := trivial
theorem PySem.W.Fast.tw7973239099116006184 : True := trivial
theorem PySem.W.Fast.tw4391055367994988376 : True := trivial
theorem PySem.W.Fast.tw13836868315781683997 : True := trivial
theorem PySem.W.Fast.tw8155471028347400743 : True := trivial
theorem PySem.W.Fast.tw7319606131648028985 : True := trivial
theorem PySem.W.Fast.tw7777868211548853251 : True := trivial
theorem PySem.W.Fast.tw15840550227019949082 : True := trivial
theorem PySem.W.Fast.tw17253086242367100007 : True := trivial
theorem PySem.W.Fast.tw10588336394771771535 : True := trivial
theorem PySem.W.Fast.tw2638112880464488384 : True := trivial
theorem PySem.W.Fast.tw8643140127231945828 : True := trivial
theorem PySem.W.Fast.tw13449797038445104245 : True := trivial
theorem PySem.W.Fast.tw12452243993977677720 : True := trivial
theorem PySem.W.Fast.tw8326324798673840295 : True := trivial
theorem PySem.W.Fast.tw5780023942745843249 : True := trivial
theorem PySem.W.Fast.tw8936846231721043087 : True := trivial
theorem PySem.W.Fast.tw2682639429292379943 : True := trivial
theorem PySem.W.Fast.tw13064697779560501274 : True := trivial
theorem PySem.W.Fast.tw17919989254454826966 : True := trivial
theorem PySem.W.Fast.tw5969635473074378402 : True := trivial
theorem PySem.W.Fast.tw15626614488776487119 : True := trivial
theorem PySem.W.Fast.tw17515656298955499943 : True := trivial
theorem PySem.W.Fast.tw16621489410422073239 : True := trivial
theorem PySem.W.Fast.tw8710227740895341631 : True := trivial
theorem PySem.W.Fast.tw8334231941627557640 : True := trivial
theorem PySem.W.Fast.tw2046700875093838620 : True := trivial
theorem PySem.W.Fast.tw79004194805925007 : True := trivial
theorem PySem.W.Fast.tw9797137916210130306 : True := trivial
theorem PySem.W.Fast.tw4419389403407420045 : True := trivial
theorem PySem.W.Fast.tw10037707875024267834 : True := trivial
theorem PySem.W.Fast.tw12594167637533581138 : True := trivial
theorem PySem.W.Fast.tw6625813681884292888 : True := trivial
theorem PySem.W.Fast.tw11310901441274680824 : True := trivial
theorem PySem.W.Fast.tw4716602162301335800 : True := trivial
theorem PySem.W.Fast.tw13970623993548409385 : True := trivial
theorem PySem.W.Fast.tw1736388073243761231 : True := trivial
theorem PySem.W.Fast.tw2095722623494857043 : True := trivial
theorem PySem.W.Fast.tw4827090501739112203 : True := trivial
theorem PySem.W.Fast.tw520431406391011023 : True := trivial
theorem PySem.W.Fast.tw7965585190732854699 : True := trivial
theorem PySem.W.Fast.tw12916363284124776477 : True := trivial
theorem PySem.W.Fast.tw13381494853813556122 : True := trivial
theorem PySem.W.Fast.tw5422251188512322012 : True := trivial
theorem PySem.W.Fast.tw12328482559173322076 : True := trivial
theorem PySem.W.Fast.tw15618700130266276008 : True := trivial
theorem PySem.W.Fast.tw1838783501239814558 : True := trivial
theorem PySem.W.Fast.tw17494864903164836286 : True := trivial
theorem PySem.W.Fast.tw4280324088650202264 : True := trivial
theorem PySem.W.Fast.tw14362062888074406585 : True := trivial
theorem PySem.W.Fast.tw11373307776598377791 : True := trivial
theorem PySem.W.Fast.tw8077784494383777176 : True := trivial
theorem PySem.W.Fast.tw21574947270628724 : True := trivial
theorem PySem.W.Fast.tw16936543148586487136 : True := trivial
theorem PySem.W.Fast.tw5144113023702905284 : True := trivial
theorem PySem.W.Fast.tw10650296050968789091 : True := trivial
theorem PySem.W.Fast.tw13907955543412653914 : True := trivial
theorem PySem.W.Fast.tw5103537943408564504 : True := trivial
theorem PySem.W.Fast.tw3009479456385573695 : True := trivial
theorem PySem.W.Fast.tw13566468207461665110 : True := trivial
theorem PySem.W.Fast.tw14501344572688663659 : True := trivial
theorem PySem.W.Fast.tw2686118410769906961 : True := trivial
theorem PySem.W.Fast.tw16405863004599639698 : True := trivial
theorem PySem.W.Fast.tw14043438997527100479 : True := trivial
theorem PySem.W.Fast.tw15666419815426128324 : True := trivial
theorem PySem.W.Fast.tw13854142090317694809 : True := trivial
theorem PySem.W.Fast.tw4189627879318824492 : True := trivial
theorem PySem.W.Fast.tw10764178528129766209 : True := trivial
theorem PySem.W.Fast.tw9654103435065530469 : True := trivial
theorem PySem.W.Fast.tw1302043462511347434 : True := trivial
theorem PySem.W.Fast.tw13545874100360191850 : True := trivial
theorem PySem.W.Fast.tw936153261446771082 : True := trivial
theorem PySem.W.Fast.tw15079930279643661650 : True := trivial
theorem PySem.W.Fast.tw961335866489178738 : True := trivial
theorem PySem.W.Fast.tw8579754825795722143 : True := trivial
theorem PySem.W.Fast.tw14722002942268092422 : True := trivial
theorem PySem.W.Fast.tw10591305350120288293 : True := trivial
theorem PySem.W.Fast.tw6646618774319016911 : True := trivial
theorem PySem.W.Fast.tw13099420636110712599 : True := trivial
theorem PySem.W.Fast.tw15043224821264914612 : True := trivial
theorem PySem.W.Fast.tw3839918288401370155 : True := trivial
theorem PySem.W.Fast.tw7105878558485216321 : True := trivial
theorem PySem.W.Fast.tw1741843706265167936 : True := trivial
theorem PySem.W.Fast.tw1645097299622925834 : True := trivial
theorem PySem.W.Fast.tw5852834265478875296 : True := trivial
theorem PySem.W.Fast.tw14238546280265284591 : True := trivial
theorem PySem.W.Fast.tw2453697346448663041 : True := trivial
theorem PySem.W.Fast.tw15508739890767166804 : True := trivial
theorem PySem.W.Fast.tw12038710484486287270 : True := trivial
theorem PySem.W.Fast.tw13352699406277440375 : True := trivial
theorem PySem.W.Fast.tw561347691305627725 : True := trivial
theorem PySem.W.Fast.tw14902590985112824218 : True := trivial
theorem PySem.W.Fast.tw7243841619671668638 : True := trivial
theorem PySem.W.Fast.tw7689292585255140890 : True := trivial
theorem PySem.W.Fast.tw6816192527441777386 : True := trivial
theorem PySem.W.Fast.tw543305959333148680 : True := trivial
theorem PySem.W.Fast.tw17230541525776072156 : True := trivial
theorem PySem.W.Fast.tw774997252759191670 : True := trivial
theorem PySem.W.Fast.tw58467820071615368 : True := trivial
theorem PySem.W.Fast.tw3798283457071660586 : True := trivial
theorem PySem.W.Fast.tw1723200781197538519 : True := trivial
theorem PySem.W.Fast.tw4923282133421313562 : True := trivial
theorem PySem.W.Fast.tw13679010758821292566 : True := trivial
theorem PySem.W.Fast.tw14186969948426776197 : True := trivial
theorem PySem.W.Fast.tw18008881176921381556 : True := trivial
theorem PySem.W.Fast.tw7034764226189370015 : True := trivial
theorem PySem.W.Fast.tw12237012481077267642 : True := trivial
theorem PySem.W.Fast.tw1107936546422534695 : True := trivial
theorem PySem.W.Fast.tw15637272133280599326 : True := trivial
theorem PySem.W.Fast.tw10752630152685484270 : True := trivial
theorem PySem.W.Fast.tw14547225546845813500 : True := trivial
theorem PySem.W.Fast.tw8545001679268069972 : True := trivial
theorem PySem.W.Fast.tw14526638743354612859 : True := trivial
theorem PySem.W.Fast.tw5591960897731435834 : True := trivial
theorem PySem.W.Fast.tw751274177598915310 : True := trivial
theorem PySem.W.Fast.tw13983190424673437921 : True := trivial
theorem PySem.W.Fast.tw1824509673043737337 : True := trivial
theorem PySem.W.Fast.tw1758774767270325763 : True := trivial
theorem PySem.W.Fast.tw11294376535339725159 : True := trivial
theorem PySem.W.Fast.tw11367518707152623106 : True := trivial
theorem PySem.W.Fast.tw7641253514587006263 : True := trivial
theorem PySem.W.Fast.tw10826411643093711956 : True := trivial
theorem PySem.W.Fast.tw10831683701003841200 : True := trivial
theorem PySem.W.Fast.tw12258313263003432392 : True := trivial
theorem PySem.W.Fast.tw1752424910352801969 : True := trivial
theorem PySem.W.Fast.tw15865904263897378046 : True := trivial
theorem PySem.W.Fast.tw4522648294784056064 : True := trivial
theorem PySem.W.Fast.tw3929673409846639451 : True := trivial
theorem PySem.W.Fast.tw2639014947039411873 : True := trivial
theorem PySem.W.Fast.tw7372082506878958728 : True := trivial
theorem PySem.W.Fast.tw6768576582692122873 : True := trivial
theorem PySem.W.Fast.tw7140608732258957643 : True := trivial
theorem PySem.W.Fast.tw2106214350780563465 : True := trivial
theorem PySem.W.Fast.tw7193534338856745303 : True := trivial
theorem PySem.W.Fast.tw11050194833554403250 : True := trivial
theorem PySem.W.Fast.tw15504935663738625315 : True := trivial
theorem PySem.W.Fast.tw12618562765567907463 : True := trivial
theorem PySem.W.Fast.tw4177749209447409597 : True := trivial
theorem PySem.W.Fast.tw16588951180965700238 : True := trivial
theorem PySem.W.Fast.tw15904929687028537689 : True := trivial
theorem PySem.W.Fast.tw16557968882065222616 : True := trivial
theorem PySem.W.Fast.tw11226282375704180217 : True := trivial
theorem PySem.W.Fast.tw16572092881092003909 : True := trivial
theorem PySem.W.Fast.tw3825447960163387555 : True := trivial
theorem PySem.W.Fast.tw4855135036352738044 : True := trivial
theorem PySem.W.Fast.tw17433259160926090752 : True := trivial
theorem PySem.W.Fast.tw2423620981000005277 : True := trivial
theorem PySem.W.Fast.tw7132642135753434451 : True := trivial
theorem PySem.W.Fast.tw16241600654518214487 : True := trivial
theorem PySem.W.Fast.tw15595346662812056855 : True := trivial
theorem PySem.W.Fast.tw11373046459904484212 : True := trivial
theorem PySem.W.Fast.tw9549784371031020078 : True := trivial
theorem PySem.W.Fast.tw3986974512397831106 : True := trivial
theorem PySem.W.Fast.tw1177844514473708860 : True := trivial
theorem PySem.W.Fast.tw7445641486182824634 : True := trivial
theorem PySem.W.Fast.tw17007630392512179388 : True := trivial
theorem PySem.W.Fast.tw8461558273988404400 : True := trivial
theorem PySem.W.Fast.tw175644064064657927 : True := trivial
theorem PySem.W.Fast.tw17402689111925864934 : True := trivial
theorem PySem.W.Fast.tw8125317741992976019 : True := trivial
theorem PySem.W.Fast.tw12059315010119000510 : True := trivial
theorem PySem.W.Fast.tw7145975820987052992 : True := trivial
theorem PySem.W.Fast.tw868767626115320925 : True := trivial
theorem PySem.W.Fast.tw10255570662002951201 : True := trivial
theorem PySem.W.Fast.tw14295370034002768148 : True := trivial
theorem PySem.W.Fast.tw472835874152186246 : True := trivial
theorem PySem.W.Fast.tw12654248317883416171 : True := trivial
theorem PySem.W.Fast.tw6554619056955522245 : True := trivial
theorem PySem.W.Fast.tw17375568175470587943 : True := trivial
theorem PySem.W.Fast.tw5621006079030978235 : True := trivial
theorem PySem.W.Fast.tw8516893399157563896 : True := trivial
theorem PySem.W.Fast.tw2929744045261136770 : True := trivial
theorem PySem.W.Fast.tw771180729235344476 : True := trivial
theorem PySem.W.Fast.tw3124234406428869752 : True := trivial
theorem PySem.W.Fast.tw7052483654857961763 : True := trivial
theorem PySem.W.Fast.tw3582999354665866241 : True := trivial
theorem PySem.W.Fast.tw13553691199199370364 : True := trivial
theorem PySem.W.Fast.tw14338712057838348517 : True := trivial
theorem PySem.W.Fast.tw15176791106576915274 : True := trivial
theorem PySem.W.Fast.tw4382455018087192285 : True := trivial
theorem PySem.W.Fast.tw5931885383648171705 : True := trivial
theorem PySem.W.Fast.tw6665619280963661452 : True := trivial
theorem PySem.W.Fast.tw8842901778368321224 : True := trivial
theorem PySem.W.Fast.tw8027007108422873776 : True := trivial
theorem PySem.W.Fast.tw2955087218726906626 : True := trivial
theorem PySem.W.Fast.tw8805591034671214571 : True := trivial
theorem PySem.W.Fast.tw14823932497859814573 : True := trivial
theorem PySem.W.Fast.tw2768338326989406975 : True := trivial
theorem PySem.W.Fast.tw7238264442814755965 : True := trivial
theorem PySem.W.Fast.tw11783962929076298100 : True := trivial
theorem PySem.W.Fast.tw10202602903787214978 : True := trivial
theorem PySem.W.Fast.tw2423283752791330778 : True := trivial
theorem PySem.W.Fast.tw15189694902995419342 : True := trivial
theorem PySem.W.Fast.tw11338386575467472512 : True := trivial
theorem PySem.W.Fast.tw3798266653727441976 : True := trivial
theorem PySem.W.Fast.tw1069846135905061744 : True := trivial
theorem PySem.W.Fast.tw7343459325101708641 : True := trivial
theorem PySem.W.Fast.tw2615526175559791045 : True := trivial
theorem PySem.W.Fast.tw13067832608849599376 : True := trivial
theorem PySem.W.Fast.tw13838930304294681649 : True := trivial
theorem PySem.W.Fast.tw15544960689166518543 : True := trivial
theorem PySem.W.Fast.tw15626792635782303569 : True := trivial
theorem PySem.W.Fast.tw14023693713010449139 : True := trivial
theorem PySem.W.Fast.tw11073325495228262667 : True := trivial
theorem PySem.W.Fast.tw8391188392602196887 : True := trivial
theorem PySem.W.Fast.tw14884070611913803284 : True := trivial
theorem PySem.W.Fast.tw8289641808875480372 : True := trivial
theorem PySem.W.Fast.tw12983592236549119675 : True := trivial
theorem PySem.W.Fast.tw11422334149350035659 : True := trivial
theorem PySem.W.Fast.tw671792716613201485 : True := trivial
theorem PySem.W.Fast.tw8629354711360304757 : True := trivial
theorem PySem.W.Fast.tw9922206089077262432 : True := trivial
theorem PySem.W.Fast.tw2131825995218212430 : True := trivial
theorem PySem.W.Fast.tw11326767811049578601 : True := trivial
theorem PySem.W.Fast.tw12041577704381035390 : True := trivial
theorem PySem.W.Fast.tw10584979223557036485 : True := trivial
theorem PySem.W.Fast.tw2745019178264653721 : True := trivial
theorem PySem.W.Fast.tw16124777352419849540 : True := trivial
theorem PySem.W.Fast.tw11571812679793368856 : True := trivial
theorem PySem.W.Fast.tw13788200637245746716 : True := trivial
theorem PySem.W.Fast.tw2789400255068060986 : True := trivial
theorem PySem.W.Fast.tw5536951770338164717 : True := trivial
theorem PySem.W.Fast.tw17607210190379663818 : True := trivial
theorem PySem.W.Fast.tw7206310423201741783 : True := trivial
theorem PySem.W.Fast.tw7710545378192746355 : True := trivial
theorem PySem.W.Fast.tw871147765946748072 : True := trivial
theorem PySem.W.Fast.tw4052738679031585728 : True := trivial
theorem PySem.W.Fast.tw6920152122660552666 : True := trivial
theorem PySem.W.Fast.tw2134017312110975378 : True := trivial
theorem PySem.W.Fast.tw9782713080773910471 : True := trivial
theorem PySem.W.Fast.tw10476816914317401458 : True := trivial
theorem PySem.W.Fast.tw6289152419878592234 : True := trivial
theorem PySem.W.Fast.tw6660847548577790283 : True := trivial
theorem PySem.W.Fast.tw5525979051427862356 : True := trivial
theorem PySem.W.Fast.tw8387010480945459480 : True := trivial
theorem PySem.W.Fast.tw11606945132607985902 : True := trivial
theorem PySem.W.Fast.tw16241351166883893658 : True := trivial
theorem PySem.W.Fast.tw11064418646477124857 : True := trivial
theorem PySem.W.Fast.tw6765742603099544035 : True := trivial
theorem PySem.W.Fast.tw17890280188477701012 : True := trivial
theorem PySem.W.Fast.tw7057365872591902639 : True := trivial
theorem PySem.W.Fast.tw17953566081026963330 : True := trivial
theorem PySem.W.Fast.tw6572350383325897597 : True := trivial
theorem PySem.W.Fast.tw13516642827393411177 : True := trivial
theorem PySem.W.Fast.tw17907013383164348 : True := trivial
theorem PySem.W.Fast.tw2735352221784087889 : True := trivial
theorem PySem.W.Fast.tw8855975647862866137 : True := trivial
theorem PySem.W.Fast.tw14066751086426725467 : True := trivial
theorem PySem.W.Fast.tw2037711734001036122 : True := trivial
theorem PySem.W.Fast.tw3538204113711542824 : True := trivial
theorem PySem.W.Fast.tw4558604727217095713 : True := trivial
theorem PySem.W.Fast.tw9158245754787222357 : True := trivial
theorem PySem.W.Fast.tw1941658981819075323 : True := trivial
theorem PySem.W.Fast.tw3667377594949381686 : True := trivial
theorem PySem.W.Fast.tw8160981062591163567 : True := trivial
theorem PySem.W.Fast.tw14027180109449278858 : True := trivial
theorem PySem.W.Fast.tw5029172586865294986 : True := trivial
theorem PySem.W.Fast.tw689952607617025491 : True := trivial
theorem PySem.W.Fast.tw11738501185548253792 : True := trivial
theorem PySem.W.Fast.tw6608233971173011596 : True := trivial
theorem PySem.W.Fast.tw10073139239542438720 : True := trivial
theorem PySem.W.Fast.tw11243865156110748300 : True := trivial
theorem PySem.W.Fast.tw12292227868426617848 : True := trivial
theorem PySem.W.Fast.tw10155435534380697752 : True := trivial
theorem PySem.W.Fast.tw13470111667129794845 : True := trivial
theorem PySem.W.Fast.tw1734049342094588629 : True := trivial
theorem PySem.W.Fast.tw7508242912368638375 : True := trivial
theorem PySem.W.Fast.tw11992430646120275004 : True := trivial
theorem PySem.W.Fast.tw3286875998396162960 : True := trivial
theorem PySem.W.Fast.tw130090803844915982 : True := trivial
theorem PySem.W.Fast.tw16841276457819284533 : True := trivial
theorem PySem.W.Fast.tw139705767520136792 : True := trivial
theorem PySem.W.Fast.tw14882251815395238740 : True := trivial
theorem PySem.W.Fast.tw1226276508300004555 : True := trivial
theorem PySem.W.Fast.tw3803038126455950581 : True := trivial
theorem PySem.W.Fast.tw4693345467021292507 : True := trivial
theorem PySem.W.Fast.tw13941642374886598886 : True := trivial
theorem PySem.W.Fast.tw1477516639966241747 : True := trivial
theorem PySem.W.Fast.tw7167132832119692691 : True := trivial
theorem PySem.W.Fast.tw17700907405275571419 : True := trivial
theorem PySem.W.Fast.tw9460577173860823353 : True := trivial
theorem PySem.W.Fast.tw3987335267800007156 : True := trivial
theorem PySem.W.Fast.tw6890847801032608824 : True := trivial
theorem PySem.W.Fast.tw680651760542884995 : True := trivial
theorem PySem.W.Fast.tw15922654423928276553 : True := trivial
theorem PySem.W.Fast.tw14352686221806835146 : True := trivial
theorem PySem.W.Fast.tw11365318302328083387 : True := trivial
theorem PySem.W.Fast.tw6120901916234347839 : True := trivial
theorem PySem.W.Fast.tw1659688408018974826 : True := trivial
theorem PySem.W.Fast.tw5858906893710706961 : True := trivial
theorem PySem.W.Fast.tw13125638390654386482 : True := trivial
theorem PySem.W.Fast.tw5786033871000052175 : True := trivial
theorem PySem.W.Fast.tw16895158339721748424 : True := trivial
theorem PySem.W.Fast.tw11325772133661714999 : True := trivial
theorem PySem.W.Fast.tw9895427771533361316 : True := trivial
theorem PySem.W.Fast.tw10990005271858969489 : True := trivial
theorem PySem.W.Fast.tw7868181915591451515 : True := trivial
theorem PySem.W.Fast.tw14878991188248041436 : True := trivial
theorem PySem.W.Fast.tw5417394650873316475 : True := trivial
theorem PySem.W.Fast.tw14734617834024581579 : True := trivial
theorem PySem.W.Fast.tw5578096364383494399 : True := trivial
theorem PySem.W.Fast.tw4619576919787093078 : True := trivial
theorem PySem.W.Fast.tw11466961655801333514 : True := trivial
theorem PySem.W.Fast.tw4363295212680559070 : True := trivial
theorem PySem.W.Fast.tw14907155346737873012 : True := trivial
theorem PySem.W.Fast.tw3531769913532962030 : True := trivial
theorem PySem.W.Fast.tw9384141371476054303 : True := trivial
theorem PySem.W.Fast.tw15879495107152766006 : True := trivial
theorem PySem.W.Fast.tw2618548278474514373 : True := trivial
theorem PySem.W.Fast.tw832318933707424082 : True := trivial
theorem PySem.W.Fast.tw17434466375988467848 : True := trivial
theorem PySem.W.Fast.tw18246977452061263432 : True := trivial
theorem PySem.W.Fast.tw6761450386235336106 : True := trivial
theorem PySem.W.Fast.tw6032836298405750434 : True := trivial
theorem PySem.W.Fast.tw10370547636607208956 : True := trivial
theorem PySem.W.Fast.tw6131180598355672232 : True := trivial
theorem PySem.W.Fast.tw17261480983347050029 : True := trivial
theorem PySem.W.Fast.tw2286196878886373806 : True := trivial
theorem PySem.W.Fast.tw17149864081064489319 : True := trivial
theorem PySem.W.Fast.tw17212072559967227687 : True := trivial
theorem PySem.W.Fast.tw16881810176367121110 : True := trivial
theorem PySem.W.Fast.tw10154908720694127225 : True := trivial
theorem PySem.W.Fast.tw17224590349408828358 : True := trivial
theorem PySem.W.Fast.tw4878282043371604432 : True := trivial
theorem PySem.W.Fast.tw16977725842600062893 : True := trivial
theorem PySem.W.Fast.tw7378293391321142533 : True := trivial
theorem PySem.W.Fast.tw18104012596079704320 : True := trivial
theorem PySem.W.Fast.tw3893933012332711649 : True := trivial
theorem PySem.W.Fast.tw6217684735723107813 : True := trivial
theorem PySem.W.Fast.tw10539120577012991924 : True := trivial
theorem PySem.W.Fast.tw9496472418291869839 : True := trivial
theorem PySem.W.Fast.tw12891469895985532191 : True := trivial
theorem PySem.W.Fast.tw12276602460259374543 : True := trivial
theorem PySem.W.Fast.tw13614422887838823768 : True := trivial
theorem PySem.W.Fast.tw6592293559779623683 : True := trivial
theorem PySem.W.Fast.tw11061712195206960898 : True := trivial
theorem PySem.W.Fast.tw12661293929506023422 : True := trivial
theorem PySem.W.Fast.tw3467617264713740605 : True := trivial
theorem PySem.W.Fast.tw3841551401922955271 : True := trivial
theorem PySem.W.Fast.tw8136237619781043749 : True := trivial
theorem PySem.W.Fast.tw2002938557149442212 : True := trivial
theorem PySem.W.Fast.tw16087109170947014710 : True := trivial
theorem PySem.W.Fast.tw14873491616806110232 : True := trivial
theorem PySem.W.Fast.tw6499189696205202651 : True := trivial
theorem PySem.W.Fast.tw9256485764100428869 : True := trivial
theorem PySem.W.Fast.tw4587894896943722506 : True := trivial
theorem PySem.W.Fast.tw13708100765797027663 : True := trivial
theorem PySem.W.Fast.tw6307406549077774845 : True := trivial
theorem PySem.W.Fast.tw902131988477557215 : True := trivial
theorem PySem.W.Fast.tw3262415729971956109 : True := trivial
theorem PySem.W.Fast.tw17830184072790989376 : True := trivial
theorem PySem.W.Fast.tw9951951403348048858 : True := trivial
theorem PySem.W.Fast.tw16378031111617159248 : True := trivial
theorem PySem.W.Fast.tw12686687034839102117 : True := trivial
theorem PySem.W.Fast.tw9737557536933710789 : True := trivial
theorem PySem.W.Fast.tw6071858118104946757 : True := trivial
theorem PySem.W.Fast.tw12896798522621791720 : True := trivial
theorem PySem.W.Fast.tw4938376176836842551 : True := trivial
theorem PySem.W.Fast.tw5614568632456653780 : True := trivial
theorem PySem.W.Fast.tw18404287860879617692 : True := trivial
theorem PySem.W.Fast.tw13728717377946144398 : True := trivial
theorem PySem.W.Fast.tw7013236866312909956 : True := trivial
theorem PySem.W.Fast.tw8195251571645040010 : True := trivial
theorem PySem.W.Fast.tw2859999127996777289 : True := trivial
theorem PySem.W.Fast.tw13858504921482590245 : True := trivial
theorem PySem.W.Fast.tw899770245477556753 : True := trivial
theorem PySem.W.Fast.tw16019368607277485036 : True := trivial
theorem PySem.W.Fast.tw581129273963233655 : True := trivial
theorem PySem.W.Fast.tw13010192473742308281 : True := trivial
theorem PySem.W.Fast.tw9626695101927964328 : True := trivial
theorem PySem.W.Fast.tw1868421610310133209 : True := trivial
theorem PySem.W.Fast.tw838689629326980686 : True := trivial
theorem PySem.W.Fast.tw16173071550906781728 : True := trivial
theorem PySem.W.Fast.tw3241756285753592685 : True := trivial
theorem PySem.W.Fast.tw13993831151613359006 : True := trivial
theorem PySem.W.Fast.tw8052931567050081254 : True := trivial
theorem PySem.W.Fast.tw5604776306909211228 : True := trivial
theorem PySem.W.Fast.tw5203996913347996257 : True := trivial
theorem PySem.W.Fast.tw16565961547801904349 : True := trivial
theorem PySem.W.Fast.tw2689406506813724193 : True := trivial
theorem PySem.W.Fast.tw9443646587953313105 : True := trivial
theorem PySem.W.Fast.tw17462196395286769724 : True := trivial
theorem PySem.W.Fast.tw1055675863977423567 : True := trivial
theorem PySem.W.Fast.tw18417327059234446813 : True := trivial
theorem PySem.W.Fast.tw10187049446390460169 : True := trivial
theorem PySem.W.Fast.tw16229386980400414726 : True := trivial
theorem PySem.W.Fast.tw267025827579667614 : True := trivial
theorem PySem.W.Fast.tw13053524375188278521 : True := trivial
theorem PySem.W.Fast.tw1848868921939918619 : True := trivial
theorem PySem.W.Fast.tw17710298259073054406 : True := trivial
theorem PySem.W.Fast.tw3146848074189108280 : True := trivial
theorem PySem.W.Fast.tw10053545673573159747 : True := trivial
theorem PySem.W.Fast.tw15230155274293382458 : True := trivial
theorem PySem.W.Fast.tw4032301930186576530 : True := trivial
theorem PySem.W.Fast.tw16552096281965694911 : True := trivial
theorem PySem.W.Fast.tw17320661138316899194 : True := trivial
theorem PySem.W.Fast.tw3729471517030623457 : True := trivial
theorem PySem.W.Fast.tw3542012493009698936 : True := trivial
theorem PySem.W.Fast.tw356488443312113532 : True := trivial
theorem PySem.W.Fast.tw3862513764195026059 : True := trivial
theorem PySem.W.Fast.tw2288685721443086797 : True := trivial
theorem PySem.W.Fast.tw12002586706374601195 : True := trivial
theorem PySem.W.Fast.tw1159930219787261513 : True := trivial
theorem PySem.W.Fast.tw11047676512530885120 : True := trivial
theorem PySem.W.Fast.tw11473340282903815323 : True := trivial
theorem PySem.W.Fast.tw12024794775822576128 : True := trivial
theorem PySem.W.Fast.tw7855754755766579535 : True := trivial
theorem PySem.W.Fast.tw9807426415113318609 : True := trivial
theorem PySem.W.Fast.tw2139674510792033140 : True := trivial
theorem PySem.W.Fast.tw16590029854047547829 : True := trivial
theorem PySem.W.Fast.tw11845909968921075902 : True := trivial
theorem PySem.W.Fast.tw1455579269636343243 : True := trivial
theorem PySem.W.Fast.tw115068127671607741 : True := trivial
theorem PySem.W.Fast.tw9945582151852602464 : True := trivial
theorem PySem.W.Fast.tw13989033855182451894 : True := trivial
theorem PySem.W.Fast.tw12898881211597528053 : True := trivial
theorem PySem.W.Fast.tw831552367070873167 : True := trivial
theorem PySem.W.Fast.tw12847664183792591610 : True := trivial
theorem PySem.W.Fast.tw274738646057937593 : True := trivial
theorem PySem.W.Fast.tw18023203362514863324 : True := trivial
theorem PySem.W.Fast.tw5847429582213864405 : True := trivial
theorem PySem.W.Fast.tw7616101134131910937 : True := trivial
theorem PySem.W.Fast.tw4757459544215782641 : True := trivial
theorem PySem.W.Fast.tw12109137087250923064 : True := trivial
theorem PySem.W.Fast.tw4200635695329236584 : True := trivial
theorem PySem.W.Fast.tw15455448090656210269 : True := trivial
theorem PySem.W.Fast.tw14133042962754990053 : True := trivial
theorem PySem.W.Fast.tw11814363888740472795 : True := trivial
theorem PySem.W.Fast.tw14255012307333967717 : True := trivial
theorem PySem.W.Fast.tw12405794277812025730 : True := trivial
theorem PySem.W.Fast.tw11713884776536108927 : True := trivial
theorem PySem.W.Fast.tw9286673249059973637 : True := trivial
theorem PySem.W.Fast.tw7967161623552809995 : True := trivial
theorem PySem.W.Fast.tw3809982522625395560 : True := trivial
theorem PySem.W.Fast.tw2562148091664589423 : True := trivial
theorem PySem.W.Fast.tw7476745625507705770 : True := trivial
theorem PySem.W.Fast.tw17276284994655319219 : True := trivial
theorem PySem.W.Fast.tw15407018073256523862 : True := trivial
theorem PySem.W.Fast.tw13506391537550800943 : True := trivial
theorem PySem.W.Fast.tw7687811026707688481 : True := trivial
theorem PySem.W.Fast.tw8230769011276342081 : True := trivial
theorem PySem.W.Fast.tw5599338644993378687 : True := trivial
theorem PySem.W.Fast.tw290015089825940452 : True := trivial
theorem PySem.W.Fast.tw18210745719060826819 : True := trivial
theorem PySem.W.Fast.tw13606603655419907461 : True := trivial
theorem PySem.W.Fast.tw10531119826145384513 : True := trivial
theorem PySem.W.Fast.tw551705713961547579 : True := trivial
theorem PySem.W.Fast.tw6357612179882385811 : True := trivial
theorem PySem.W.Fast.tw14042915172657718444 : True := trivial
theorem PySem.W.Fast.tw15797210028269578272 : True := trivial
theorem PySem.W.Fast.tw1967598041415459290 : True := trivial
theorem PySem.W.Fast.tw7304691345923291322 : True := trivial
theorem PySem.W.Fast.tw969578219207439834 : True := trivial
theorem PySem.W.Fast.tw12628609896742722065 : True := trivial
theorem PySem.W.Fast.tw13475358023205001256 : True := trivial
theorem PySem.W.Fast.tw12562900684282689561 : True := trivial
theorem PySem.W.Fast.tw6186396520271396916 : True := trivial
theorem PySem.W.Fast.tw3066399394539013369 : True := trivial
theorem PySem.W.Fast.tw14275676213024252065 : True := trivial
theorem PySem.W.Fast.tw277130429778804143 : True := trivial
theorem PySem.W.Fast.tw6712435363897226001 : True := trivial
theorem PySem.W.Fast.tw6015785224965394019 : True := trivial
theorem PySem.W.Fast.tw18322433610499450430 : True := trivial
theorem PySem.W.Fast.tw14159874508593765031 : True := trivial
theorem PySem.W.Fast.tw17289666134912914103 : True := trivial
theorem PySem.W.Fast.tw13874619394657254573 : True := trivial
theorem PySem.W.Fast.tw16951476697116681870 : True := trivial
theorem PySem.W.Fast.tw6490750097808734681 : True := trivial
theorem PySem.W.Fast.tw13174671463865120047 : True := trivial
theorem PySem.W.Fast.tw11878904895897156322 : True := trivial
theorem PySem.W.Fast.tw10613838189510829936 : True := trivial
theorem PySem.W.Fast.tw16567531681332072845 : True := trivial
theorem PySem.W.Fast.tw7380702365514287483 : True := trivial
theorem PySem.W.Fast.tw9928653815720052414 : True := trivial
theorem PySem.W.Fast.tw1949481175541837518 : True := trivial
theorem PySem.W.Fast.tw1214202035827456437 : True := trivial
theorem PySem.W.Fast.tw2647150110147447443 : True := trivial
theorem PySem.W.Fast.tw820397359718247311 : True := trivial
theorem PySem.W.Fast.tw7305150169384557722 : True := trivial
theorem PySem.W.Fast.tw12416137356883018633 : True := trivial
theorem PySem.W.Fast.tw17080878722971753976 : True := trivial
theorem PySem.W.Fast.tw10108980008663704879 : True := trivial
theorem PySem.W.Fast.tw8583055917347607436 : True := trivial
theorem PySem.W.Fast.tw13163082929928675633 : True := trivial
theorem PySem.W.Fast.tw8255716898583875715 : True := trivial
theorem PySem.W.Fast.tw2349518231908288967 : True := trivial
theorem PySem.W.Fast.tw12958376993484156142 : True := trivial
theorem PySem.W.Fast.tw1490700192526882356 : True := trivial
theorem PySem.W.Fast.tw834969283432228754 : True := trivial
theorem PySem.W.Fast.tw1881978394786173215 : True := trivial
theorem PySem.W.Fast.tw8592200672236455266 : True := trivial
theorem PySem.W.Fast.tw3044110225176509652 : True := trivial
theorem PySem.W.Fast.tw17338583340782405864 : True := trivial
theorem PySem.W.Fast.tw7085774983919954922 : True := trivial
theorem PySem.W.Fast.tw9871780186458493872 : True := trivial
theorem PySem.W.Fast.tw12621626483140680416 : True := trivial
theorem PySem.W.Fast.tw1584795668384514386 : True := trivial
theorem PySem.W.Fast.tw5885987465310410493 : True := trivial
theorem PySem.W.Fast.tw12163748233500789839 : True := trivial
theorem PySem.W.Fast.tw7512476642990155068 : True := trivial
theorem PySem.W.Fast.tw9251960535186810017 : True := trivial
theorem PySem.W.Fast.tw4844943174036653080 : True := trivial
theorem PySem.W.Fast.tw9110167505384583508 : True := trivial
theorem PySem.W.Fast.tw1967030610531021280 : True := trivial
theorem PySem.W.Fast.tw4565204056698581373 : True := trivial
theorem PySem.W.Fast.tw4745454430690723625 : True := trivial
theorem PySem.W.Fast.tw12538977462256511885 : True := trivial
theorem PySem.W.Fast.tw9547801608854844511 : True := trivial
theorem PySem.W.Fast.tw9356671451015760069 : True := trivial
theorem PySem.W.Fast.tw12590567798141905382 : True := trivial
theorem PySem.W.Fast.tw10663174029971157943 : True := trivial
theorem PySem.W.Fast.tw12450871808311537296 : True := trivial
theorem PySem.W.Fast.tw813258727124096234 : True := trivial
theorem PySem.W.Fast.tw8315645102816724529 : True := trivial
theorem PySem.W.Fast.tw10791259327892284205 : True := trivial
theorem PySem.W.Fast.tw17401026654459985413 : True := trivial
theorem PySem.W.Fast.tw6633169346259024613 : True := trivial
theorem PySem.W.Fast.tw6802806506256483165 : True := trivial
theorem PySem.W.Fast.tw2075969276131405295 : True := trivial
theorem PySem.W.Fast.tw2165021655630355770 : True := trivial
theorem PySem.W.Fast.tw11241276102138303336 : True := trivial
theorem PySem.W.Fast.tw6378336569062271489 : True := trivial
theorem PySem.W.Fast.tw15731171506199199934 : True := trivial
theorem PySem.W.Fast.tw16671341758606219535 : True := trivial
theorem PySem.W.Fast.tw9188776960511395176 : True := trivial
theorem PySem.W.Fast.tw12622304957442377668 : True := trivial
theorem PySem.W.Fast.tw18045862557221023289 : True := trivial
theorem PySem.W.Fast.tw17502446376742914086 : True := trivial
theorem PySem.W.Fast.tw8222431877173831344 : True := trivial
theorem PySem.W.Fast.tw18226675637355388931 : True := trivial
theorem PySem.W.Fast.tw12618671542921660079 : True := trivial
theorem PySem.W.Fast.tw9230198136569484022 : True := trivial
theorem PySem.W.Fast.tw3717724220247901974 : True := trivial
theorem PySem.W.Fast.tw12189950170294169082 : True := trivial
theorem PySem.W.Fast.tw14545222552528870558 : True := trivial
theorem PySem.W.Fast.tw10562518185168088951 : True := trivial
theorem PySem.W.Fast.tw2219635806076991555 : True := trivial
theorem PySem.W.Fast.tw5277747018013165156 : True := trivial
theorem PySem.W.Fast.tw16820770807608910457 : True := trivial
theorem PySem.W.Fast.tw8613012334349049929 : True := trivial
theorem PySem.W.Fast.tw3914971559349296966 : True := trivial
theorem PySem.W.Fast.tw7171409250769236592 : True := trivial
theorem PySem.W.Fast.tw6813314879655832180 : True := trivial
theorem PySem.W.Fast.tw5724660199887003870 : True := trivial
theorem PySem.W.Fast.tw12366740656292551803 : True := trivial
theorem PySem.W.Fast.tw6469658745351611944 : True := trivial
theorem PySem.W.Fast.tw17663403232891731362 : True := trivial
theorem PySem.W.Fast.tw14013310373245784184 : True := trivial
theorem PySem.W.Fast.tw12239602934447743626 : True := trivial
theorem PySem.W.Fast.tw879249842768431102 : True := trivial
theorem PySem.W.Fast.tw15291689477337219764 : True := trivial
theorem PySem.W.Fast.tw14055930125869010433 : True := trivial
theorem PySem.W.Fast.tw10904121401235217292 : True := trivial
theorem PySem.W.Fast.tw4537373814714548727 : True := trivial
theorem PySem.W.Fast.tw18308014014867250409 : True := trivial
theorem PySem.W.Fast.tw7825810384230252848 : True := trivial
theorem PySem.W.Fast.tw4610496625176027161 : True := trivial
theorem PySem.W.Fast.tw6102670773387224264 : True := trivial
theorem PySem.W.Fast.tw15975252796953894906 : True := trivial
theorem PySem.W.Fast.tw14152585243524509986 : True := trivial
theorem PySem.W.Fast.tw13512555454587411858 : True := trivial
theorem PySem.W.Fast.tw11951383211962791749 : True := trivial
theorem PySem.W.Fast.tw7622782559362627267 : True := trivial
theorem PySem.W.Fast.tw1663145432023525744 : True := trivial
theorem PySem.W.Fast.tw1592652807610561214 : True := trivial
theorem PySem.W.Fast.tw16914128058523237085 : True := trivial
theorem PySem.W.Fast.tw3121217503592211831 : True := trivial
theorem PySem.W.Fast.tw11430130275520856187 : True := trivial
theorem PySem.W.Fast.tw11186192616447979007 : True := trivial
theorem PySem.W.Fast.tw1827890161205358072 : True := trivial
theorem PySem.W.Fast.tw13534308537591875524 : True := trivial
theorem PySem.W.Fast.tw4110101036003136109 : True := trivial
theorem PySem.W.Fast.tw9388997375569943409 : True := trivial
theorem PySem.W.Fast.tw6462998207374239237 : True := trivial
theorem PySem.W.Fast.tw17677626935620681550 : True := trivial
theorem PySem.W.Fast.tw12014407178573697027 : True := trivial
theorem PySem.W.Fast.tw15752541408710960804 : True := trivial
theorem PySem.W.Fast.tw15010414505233394069 : True := trivial
theorem PySem.W.Fast.tw1975132197924320378 : True := trivial
theorem PySem.W.Fast.tw495285859842720743 : True := trivial
theorem PySem.W.Fast.tw3267329214420822204 : True := trivial
theorem PySem.W.Fast.tw15840641090360067674 : True := trivial
theorem PySem.W.Fast.tw15412482091348300344 : True := trivial
theorem PySem.W.Fast.tw10759888119449981059 : True := trivial
theorem PySem.W.Fast.tw9246776842126497525 : True := trivial
theorem PySem.W.Fast.tw6887965744024409017 : True := trivial
theorem PySem.W.Fast.tw2443420932839243380 : True := trivial
theorem PySem.W.Fast.tw3787060802198834868 : True := trivial
theorem PySem.W.Fast.tw501138064353663144 : True := trivial
theorem PySem.W.Fast.tw17736574743371063281 : True := trivial
theorem PySem.W.Fast.tw17863037051026397244 : True := trivial
theorem PySem.W.Fast.tw17519752180011803965 : True := trivial
theorem PySem.W.Fast.tw15959288533142381295 : True := trivial
theorem PySem.W.Fast.tw16049283730912228849 : True := trivial
theorem PySem.W.Fast.tw1565912678996083280 : True := trivial
theorem PySem.W.Fast.tw6329231849288913669 : True := trivial
theorem PySem.W.Fast.tw7457776841015677055 : True := trivial
theorem PySem.W.Fast.tw812742181090893629 : True := trivial
theorem PySem.W.Fast.tw6860066790737940379 : True := trivial
theorem PySem.W.Fast.tw15503454849945465921 : True := trivial
theorem PySem.W.Fast.tw7549771038321208613 : True := trivial
theorem PySem.W.Fast.tw16609363668721416128 : True := trivial
theorem PySem.W.Fast.tw12284715271115597478 : True := trivial
theorem PySem.W.Fast.tw15695030364911999183 : True := trivial
theorem PySem.W.Fast.tw8341109503368361187 : True := trivial
theorem PySem.W.Fast.tw9740468208539685273 : True := trivial
theorem PySem.W.Fast.tw4104738307860254947 : True := trivial
theorem PySem.W.Fast.tw10463491977198703369 : True := trivial
theorem PySem.W.Fast.tw2201977882128731122 : True := trivial
theorem PySem.W.Fast.tw4457287625979407609 : True := trivial
theorem PySem.W.Fast.tw6014669825870829794 : True := trivial
theorem PySem.W.Fast.tw12592583133528085880 : True := trivial
theorem PySem.W.Fast.tw3635504547978909869 : True := trivial
theorem PySem.W.Fast.tw17706274265175549527 : True := trivial
theorem PySem.W.Fast.tw3540034603150315193 : True := trivial
theorem PySem.W.Fast.tw2181471244764860896 : True := trivial
theorem PySem.W.Fast.tw105727658424518019 : True := trivial
theorem PySem.W.Fast.tw2221946076682317837 : True := trivial
theorem PySem.W.Fast.tw10094665238094688702 : True := trivial
theorem PySem.W.Fast.tw12338819710310353453 : True := trivial
theorem PySem.W.Fast.tw12036583626620682656 : True := trivial
theorem PySem.W.Fast.tw10447928167155999544 : True := trivial
theorem PySem.W.Fast.tw6589902137852525335 : True := trivial
theorem PySem.W.Fast.tw12766883359504883104 : True := trivial
theorem PySem.W.Fast.tw9430555759441079058 : True := trivial
theorem PySem.W.Fast.tw15482258554762922785 : True := trivial
theorem PySem.W.Fast.tw17946289808465127835 : True := trivial
theorem PySem.W.Fast.tw5795908788507176634 : True := trivial
theorem PySem.W.Fast.tw17111612114374735270 : True := trivial
theorem PySem.W.Fast.tw11748118355344139996 : True := trivial
theorem PySem.W.Fast.tw4157173764304749006 : True := trivial
theorem PySem.W.Fast.tw13344798846308744816 : True := trivial
theorem PySem.W.Fast.tw13269272501130783430 : True := trivial
theorem PySem.W.Fast.tw10265887651173863246 : True := trivial
theorem PySem.W.Fast.tw10366565539879269328 : True := trivial
theorem PySem.W.Fast.tw16741147203627886504 : True := trivial
theorem PySem.W.Fast.tw3495848620531509274 : True := trivial
theorem PySem.W.Fast.tw5669903822524222232 : True := trivial
theorem PySem.W.Fast.tw323062839014703429 : True := trivial
theorem PySem.W.Fast.tw7950511013976571018 : True := trivial
theorem PySem.W.Fast.tw18303466192316714382 : True := trivial
theorem PySem.W.Fast.tw5457128429177733572 : True := trivial
theorem PySem.W.Fast.tw9398484219413016735 : True := trivial
theorem PySem.W.Fast.tw14435886905117637808 : True := trivial
theorem PySem.W.Fast.tw6102520473490016284 : True := trivial
theorem PySem.W.Fast.tw7708886641223907353 : True := trivial
theorem PySem.W.Fast.tw5294033061290064831 : True := trivial
theorem PySem.W.Fast.tw12686987386455364698 : True := trivial
theorem PySem.W.Fast.tw13478889919621694875 : True := trivial
theorem PySem.W.Fast.tw7556994297529996841 : True := trivial
theorem PySem.W.Fast.tw8405838225964731929 : True := trivial
theorem PySem.W.Fast.tw10810152139284187649 : True := trivial
theorem PySem.W.Fast.tw9705400318337111802 : True := trivial
theorem PySem.W.Fast.tw17336108702349525276 : True := trivial
theorem PySem.W.Fast.tw4820733695180797873 : True := trivial
theorem PySem.W.Fast.tw4854610881544200704 : True := trivial
theorem PySem.W.Fast.tw2692405330769093751 : True := trivial
theorem PySem.W.Fast.tw12049315561051732412 : True := trivial
theorem PySem.W.Fast.tw7252732707981421551 : True := trivial
theorem PySem.W.Fast.tw17232330989655303165 : True := trivial
theorem PySem.W.Fast.tw15822221986093007086 : True := trivial
theorem PySem.W.Fast.tw12132802303285665166 : True := trivial
theorem PySem.W.Fast.tw4298153390451409547 : True := trivial
theorem PySem.W.Fast.tw2302363102179330843 : True := trivial
theorem PySem.W.Fast.tw8861718967480449128 : True := trivial
theorem PySem.W.Fast.tw4160606095502824364 : True := trivial
theorem PySem.W.Fast.tw5523661929005418840 : True := trivial
theorem PySem.W.Fast.tw3621877500219385854 : True := trivial
theorem PySem.W.Fast.tw13495083482278283764 : True := trivial
theorem PySem.W.Fast.tw14949194952750779746 : True := trivial
theorem PySem.W.Fast.tw13788510492604138173 : True := trivial
theorem PySem.W.Fast.tw14394956922459087164 : True := trivial
theorem PySem.W.Fast.tw18143697054077690603 : True := trivial
theorem PySem.W.Fast.tw14719498880633524673 : True := trivial
theorem PySem.W.Fast.tw10234072295298912763 : True := trivial
theorem PySem.W.Fast.tw18133117418578899242 : True := trivial
theorem PySem.W.Fast.tw2158843714355767288 : True := trivial
theorem PySem.W.Fast.tw11746022102768572918 : True := trivial
theorem PySem.W.Fast.tw11924738876152740029 : True := trivial
theorem PySem.W.Fast.tw7228022258127569010 : True := trivial
theorem PySem.W.Fast.tw15555421986869308745 : True := trivial
theorem PySem.W.Fast.tw16724405636885390481 : True := trivial
theorem PySem.W.Fast.tw5873136369279483111 : True := trivial
theorem PySem.W.Fast.tw13934808950521360055 : True := trivial
theorem PySem.W.Fast.tw3052545705135521548 : True := trivial
theorem PySem.W.Fast.tw9902605983423743342 : True := trivial
theorem PySem.W.Fast.tw11948485385284831258 : True := trivial
theorem PySem.W.Fast.tw2826898045993234649 : True := trivial
theorem PySem.W.Fast.tw6799915901501074077 : True := trivial
theorem PySem.W.Fast.tw10563545559614732232 : True := trivial
theorem PySem.W.Fast.tw9707045452069949414 : True := trivial
theorem PySem.W.Fast.tw4285435091751606600 : True := trivial
theorem PySem.W.Fast.tw12746803255515766453 : True := trivial
theorem PySem.W.Fast.tw8812494009566394948 : True := trivial
theorem PySem.W.Fast.tw2334301031593991678 : True := trivial
theorem PySem.W.Fast.tw10739667613039323379 : True := trivial
theorem PySem.W.Fast.tw14519812841381928924 : True := trivial
theorem PySem.W.Fast.tw1916804853497467370 : True := trivial
theorem PySem.W.Fast.tw4503339204118767225 : True := trivial
theorem PySem.W.Fast.tw1641682695173988175 : True := trivial
theorem PySem.W.Fast.tw16642119575278486884 : True := trivial
theorem PySem.W.Fast.tw607750911127468428 : True := trivial
theorem PySem.W.Fast.tw13222642754204829803 : True := trivial
theorem PySem.W.Fast.tw6270647044016034040 : True := trivial
theorem PySem.W.Fast.tw7839472197296678189 : True := trivial
theorem PySem.W.Fast.tw8821160399966359492 : True := trivial
theorem PySem.W.Fast.tw14669122803765104660 : True := trivial
theorem PySem.W.Fast.tw14422288423721725259 : True := trivial
theorem PySem.W.Fast.tw14236714114550570758 : True := trivial
theorem PySem.W.Fast.tw1091802651577167476 : True := trivial
theorem PySem.W.Fast.tw4200139388216733044 : True := trivial
theorem PySem.W.Fast.tw15278376742150462005 : True := trivial
theorem PySem.W.Fast.tw5841893459384233830 : True := trivial
theorem PySem.W.Fast.tw13221730802236057161 : True := trivial
theorem PySem.W.Fast.tw1569477781906557806 : True := trivial
theorem PySem.W.Fast.tw3427000378656818438 : True := trivial
theorem PySem.W.Fast.tw15328516085331701497 : True := trivial
theorem PySem.W.Fast.tw6909037820534404855 : True := trivial
theorem PySem.W.Fast.tw8838301985800714798 : True := trivial
theorem PySem.W.Fast.tw10442814054983893564 : True := trivial
theorem PySem.W.Fast.tw5648575838801769321 : True := trivial
theorem PySem.W.Fast.tw2276205502629566554 : True := trivial
theorem PySem.W.Fast.tw2386202556248186519 : True := trivial
theorem PySem.W.Fast.tw12537652600548131286 : True := trivial
theorem PySem.W.Fast.tw6898061897114598979 : True := trivial
theorem PySem.W.Fast.tw2115810248826924016 : True := trivial
theorem PySem.W.Fast.tw439743553382850106 : True := trivial
theorem PySem.W.Fast.tw3494580649990771434 : True := trivial
theorem PySem.W.Fast.tw17786351792718531670 : True := trivial
theorem PySem.W.Fast.tw13220316867924701105 : True := trivial
theorem PySem.W.Fast.tw4231885592052947958 : True := trivial
theorem PySem.W.Fast.tw6609467561954564729 : True := trivial
theorem PySem.W.Fast.tw9793169580348268045 : True := trivial
theorem PySem.W.Fast.tw13225223917103382081 : True := trivial
theorem PySem.W.Fast.tw17295762983049292169 : True := trivial
theorem PySem.W.Fast.tw11680068871458470145 : True := trivial
theorem PySem.W.Fast.tw1881816938960295493 : True := trivial
theorem PySem.W.Fast.tw7311134169117787708 : True := trivial
theorem PySem.W.Fast.tw2772546443830473203 : True := trivial
theorem PySem.W.Fast.tw15600416717553902770 : True := trivial
theorem PySem.W.Fast.tw10763637273414283218 : True := trivial
theorem PySem.W.Fast.tw74485385711315618 : True := trivial
theorem PySem.W.Fast.tw2897197771380586401 : True := trivial
theorem PySem.W.Fast.tw11755868395901370600 : True := trivial
theorem PySem.W.Fast.tw13419178239573242894 : True := trivial
theorem PySem.W.Fast.tw8634323672577106048 : True := trivial
theorem PySem.W.Fast.tw12363185182932509263 : True := trivial
theorem PySem.W.Fast.tw15409637254166297275 : True := trivial
theorem PySem.W.Fast.tw3981049143713740671 : True := trivial
theorem PySem.W.Fast.tw14862987662398278111 : True := trivial
theorem PySem.W.Fast.tw1724546674909518732 : True := trivial
theorem PySem.W.Fast.tw7884156173492717024 : True := trivial
theorem PySem.W.Fast.tw17681188818444089273 : True := trivial
theorem PySem.W.Fast.tw3210467039139552882 : True := trivial
theorem PySem.W.Fast.tw6355061928174267115 : True := trivial
theorem PySem.W.Fast.tw1466950914891367094 : True := trivial
theorem PySem.W.Fast.tw3892017302367258506 : True := trivial
theorem PySem.W.Fast.tw13297178460915429947 : True := trivial
theorem PySem.W.Fast.tw16079585438436516854 : True := trivial
theorem PySem.W.Fast.tw6818599248191616570 : True := trivial
theorem PySem.W.Fast.tw17340290051746883803 : True := trivial
theorem PySem.W.Fast.tw14456953470404403539 : True := trivial
theorem PySem.W.Fast.tw10745740186718425816 : True := trivial
theorem PySem.W.Fast.tw14425509559319982595 : True := trivial
theorem PySem.W.Fast.tw6610826469670272375 : True := trivial
theorem PySem.W.Fast.tw9351314891896095084 : True := trivial
theorem PySem.W.Fast.tw9082883649822849599 : True := trivial
theorem PySem.W.Fast.tw5474721481764246598 : True := trivial
theorem PySem.W.Fast.tw5350630729243413634 : True := trivial
theorem PySem.W.Fast.tw15913584114086098389 : True := trivial
theorem PySem.W.Fast.tw18226955307381524064 : True := trivial
theorem PySem.W.Fast.tw12005688620658512150 : True := trivial
theorem PySem.W.Fast.tw15677608469621821330 : True := trivial
theorem PySem.W.Fast.tw18279283761671905183 : True := trivial
theorem PySem.W.Fast.tw16565585931587642769 : True := trivial
theorem PySem.W.Fast.tw11925383928880360934 : True := trivial
theorem PySem.W.Fast.tw2508278492457289182 : True := trivial
theorem PySem.W.Fast.tw164183338755518647 : True := trivial
theorem PySem.W.Fast.tw2148563465271699018 : True := trivial
theorem PySem.W.Fast.tw15228300657697662307 : True := trivial
theorem PySem.W.Fast.tw1014136418724062607 : True := trivial
theorem PySem.W.Fast.tw9257840390763608242 : True := trivial
theorem PySem.W.Fast.tw9231034988921813192 : True := trivial
theorem PySem.W.Fast.tw14931739995918860860 : True := trivial
theorem PySem.W.Fast.tw8775107333852095066 : True := trivial
theorem PySem.W.Fast.tw11836377230649939046 : True := trivial
theorem PySem.W.Fast.tw14002924401155577782 : True := trivial
theorem PySem.W.Fast.tw16406575668145321338 : True := trivial
theorem PySem.W.Fast.tw1423604435963711693 : True := trivial
theorem PySem.W.Fast.tw5380746190454861438 : True := trivial
theorem PySem.W.Fast.tw1545795055137767986 : True := trivial
theorem PySem.W.Fast.tw11637521408756635709 : True := trivial
theorem PySem.W.Fast.tw17255129382879902575 : True := trivial
theorem PySem.W.Fast.tw3458478300089778809 : True := trivial
theorem PySem.W.Fast.tw12557194898680309881 : True := trivial
theorem PySem.W.Fast.tw14326847411061732295 : True := trivial
theorem PySem.W.Fast.tw5430571062752871276 : True := trivial
theorem PySem.W.Fast.tw7736196639783594750 : True := trivial
theorem PySem.W.Fast.tw15749732304447304047 : True := trivial
theorem PySem.W.Fast.tw13514793202134305152 : True := trivial
theorem PySem.W.Fast.tw5203443687416861493 : True := trivial
theorem PySem.W.Fast.tw15232492124758755540 : True := trivial
theorem PySem.W.Fast.tw17821822108709719871 : True := trivial
theorem PySem.W.Fast.tw8525897731793558406 : True := trivial
theorem PySem.W.Fast.tw10265772707297601222 : True := trivial
theorem PySem.W.Fast.tw7775198254723640508 : True := trivial
theorem PySem.W.Fast.tw17731574453671575934 : True := trivial
theorem PySem.W.Fast.tw6903243224272522766 : True := trivial
theorem PySem.W.Fast.tw17487439027784067653 : True := trivial
theorem PySem.W.Fast.tw4721366814569985119 : True := trivial
theorem PySem.W.Fast.tw14311833016572487215 : True := trivial
theorem PySem.W.Fast.tw8648183966576295498 : True := trivial
theorem PySem.W.Fast.tw12093110876562008427 : True := trivial
theorem PySem.W.Fast.tw4792399805407856458 : True := trivial
theorem PySem.W.Fast.tw10493377664412619409 : True := trivial
theorem PySem.W.Fast.tw2040249075982582582 : True := trivial
theorem PySem.W.Fast.tw17333865250855483595 : True := trivial
theorem PySem.W.Fast.tw6933380079415870208 : True := trivial
theorem PySem.W.Fast.tw7862028501155807587 : True := trivial
theorem PySem.W.Fast.tw5297220100695381495 : True := trivial
theorem PySem.W.Fast.tw17954738902485492057 : True := trivial
theorem PySem.W.Fast.tw15116034713993084311 : True := trivial
theorem PySem.W.Fast.tw11655417494625091201 : True := trivial
theorem PySem.W.Fast.tw5106643023790980413 : True := trivial
theorem PySem.W.Fast.tw623691642749642726 : True := trivial
theorem PySem.W.Fast.tw17000091468281627605 : True := trivial
theorem PySem.W.Fast.tw16414095350307178713 : True := trivial
theorem PySem.W.Fast.tw17375313441523840054 : True := trivial
theorem PySem.W.Fast.tw9559805534048756608 : True := trivial
theorem PySem.W.Fast.tw10219171380275358133 : True := trivial
theorem PySem.W.Fast.tw8900172512141986006 : True := trivial
theorem PySem.W.Fast.tw7779808191369374801 : True := trivial
theorem PySem.W.Fast.tw2716425709297558965 : True := trivial
theorem PySem.W.Fast.tw1259216191491393074 : True := trivial
theorem PySem.W.Fast.tw1846833267445084426 : True := trivial
theorem PySem.W.Fast.tw1179957393828258403 : True := trivial
theorem PySem.W.Fast.tw4249113321867420756 : True := trivial
theorem PySem.W.Fast.tw15490558202558999394 : True := trivial
theorem PySem.W.Fast.tw18223376141381374755 : True := trivial
theorem PySem.W.Fast.tw18435849952170968473 : True := trivial
theorem PySem.W.Fast.tw9395399630341819620 : True := trivial
theorem PySem.W.Fast.tw12256908072736903430 : True := trivial
theorem PySem.W.Fast.tw6515026736964649051 : True := trivial
theorem PySem.W.Fast.tw1766549821354862593 : True := trivial
theorem PySem.W.Fast.tw6724993347454598998 : True := trivial
theorem PySem.W.Fast.tw17138241945643425790 : True := trivial
theorem PySem.W.Fast.tw15701516842745473041 : True := trivial
theorem PySem.W.Fast.tw18257000471788925232 : True := trivial
theorem PySem.W.Fast.tw17869822950131655949 : True := trivial
theorem PySem.W.Fast.tw15015606636034853563 : True := trivial
theorem PySem.W.Fast.tw13374774364045441225 : True := trivial
theorem PySem.W.Fast.tw6296058772192080749 : True := trivial
theorem PySem.W.Fast.tw2242391024687745503 : True := trivial
theorem PySem.W.Fast.tw16082340186092386697 : True := trivial
theorem PySem.W.Fast.tw4722273970264407471 : True := trivial
theorem PySem.W.Fast.tw4060836111747022595 : True := trivial
theorem PySem.W.Fast.tw14583290732247763920 : True := trivial
theorem PySem.W.Fast.tw10386030000626197014 : True := trivial
theorem PySem.W.Fast.tw4783627063266174196 : True := trivial
theorem PySem.W.Fast.tw9045511666950003228 : True := trivial
theorem PySem.W.Fast.tw17619798615816704683 : True := trivial
theorem PySem.W.Fast.tw6810573621042361233 : True := trivial
theorem PySem.W.Fast.tw10629175241904734348 : True := trivial
theorem PySem.W.Fast.tw2227072396390759503 : True := trivial
theorem PySem.W.Fast.tw262305516850496721 : True := trivial
theorem PySem.W.Fast.tw6985679121282754000 : True := trivial
theorem PySem.W.Fast.tw15094235385189679978 : True := trivial
theorem PySem.W.Fast.tw6435264312748629790 : True := trivial
theorem PySem.W.Fast.tw1040011210394986434 : True := trivial
theorem PySem.W.Fast.tw15247162432612734310 : True := trivial
theorem PySem.W.Fast.tw8359137801921460435 : True := trivial
theorem PySem.W.Fast.tw4448581718503432263 : True := trivial
theorem PySem.W.Fast.tw14598902591089901662 : True := trivial
theorem PySem.W.Fast.tw17248413754720970245 : True := trivial
theorem PySem.W.Fast.tw7552922726812781027 : True := trivial
theorem PySem.W.Fast.tw6422207901125739305 : True := trivial
theorem PySem.W.Fast.tw5437624076690492519 : True := trivial
theorem PySem.W.Fast.tw8137717929365876939 : True := trivial
theorem PySem.W.Fast.tw15473020385236855103 : True := trivial
theorem PySem.W.Fast.tw4767051387604841096 : True := trivial
theorem PySem.W.Fast.tw7808390269033994052 : True := trivial
theorem PySem.W.Fast.tw11242420727588879587 : True := trivial
theorem PySem.W.Fast.tw2499885312660636568 : True := trivial
theorem PySem.W.Fast.tw12791409281480533207 : True := trivial
theorem PySem.W.Fast.tw3527159296765152001 : True := trivial
theorem PySem.W.Fast.tw13070961835644120798 : True := trivial
theorem PySem.W.Fast.tw6832640918514048417 : True := trivial
theorem PySem.W.Fast.tw9160434213772680878 : True := trivial
theorem PySem.W.Fast.tw8275015225169807295 : True := trivial
theorem PySem.W.Fast.tw14259538570033328338 : True := trivial
theorem PySem.W.Fast.tw16644638169038368529 : True := trivial
theorem PySem.W.Fast.tw10834637754991585676 : True := trivial
theorem PySem.W.Fast.tw10809008813100290984 : True := trivial
theorem PySem.W.Fast.tw7906176255939628488 : True := trivial
theorem PySem.W.Fast.tw2049535710111968013 : True := trivial
theorem PySem.W.Fast.tw10759562045937613448 : True := trivial
theorem PySem.W.Fast.tw13514836060787736180 : True := trivial
theorem PySem.W.Fast.tw7948027530652777776 : True := trivial
theorem PySem.W.Fast.tw4741664718251319862 : True := trivial
theorem PySem.W.Fast.tw3144904379716615075 : True := trivial
theorem PySem.W.Fast.tw9473835458144611803 : True := trivial
theorem PySem.W.Fast.tw2057323185527966572 : True := trivial
theorem PySem.W.Fast.tw9876204657678747885 : True := trivial
theorem PySem.W.Fast.tw5032340119040310708 : True := trivial
theorem PySem.W.Fast.tw342023811775787671 : True := trivial
theorem PySem.W.Fast.tw7805557810724337165 : True := trivial
theorem PySem.W.Fast.tw9932234142710062281 : True := trivial
theorem PySem.W.Fast.tw8046632243976218139 : True := trivial
theorem PySem.W.Fast.tw14643496226670903769 : True := trivial
theorem PySem.W.Fast.tw9447676967868537999 : True := trivial
theorem PySem.W.Fast.tw11745909797657869517 : True := trivial
theorem PySem.W.Fast.tw5024276575530286707 : True := trivial
theorem PySem.W.Fast.tw12217004058554211586 : True := trivial
theorem PySem.W.Fast.tw17031140428101600470 : True := trivial
theorem PySem.W.Fast.tw7847546648634670468 : True := trivial
theorem PySem.W.Fast.tw1341316664934672830 : True := trivial
theorem PySem.W.Fast.tw4872720240003776971 : True := trivial
theorem PySem.W.Fast.tw14089280367813561350 : True := trivial
theorem PySem.W.Fast.tw6231049517624413962 : True := trivial
theorem PySem.W.Fast.tw11490145154943438046 : True := trivial
theorem PySem.W.Fast.tw14451612677426139611 : True := trivial
theorem PySem.W.Fast.tw7637719984898553762 : True := trivial
theorem PySem.W.Fast.tw12304827270815431345 : True := trivial
theorem PySem.W.Fast.tw10224406744382376809 : True := trivial
theorem PySem.W.Fast.tw7130194354949815888 : True := trivial
theorem PySem.W.Fast.tw18165263125513101571 : True := trivial
theorem PySem.W.Fast.tw4855498490483656366 : True := trivial
theorem PySem.W.Fast.tw15676957113286147584 : True := trivial
theorem PySem.W.Fast.tw4255857450374022532 : True := trivial
theorem PySem.W.Fast.tw6907121974297074030 : True := trivial
theorem PySem.W.Fast.tw12582617307072943911 : True := trivial
theorem PySem.W.Fast.tw14254224205264221108 : True := trivial
theorem PySem.W.Fast.tw5152673033141621227 : True := trivial
theorem PySem.W.Fast.tw9439595316135412979 : True := trivial
theorem PySem.W.Fast.tw18295601807779809827 : True := trivial
theorem PySem.W.Fast.tw2090949394577398682 : True := trivial
theorem PySem.W.Fast.tw2655768099208594221 : True := trivial
theorem PySem.W.Fast.tw6546951967246066395 : True := trivial
theorem PySem.W.Fast.tw6732409271396082673 : True := trivial
theorem PySem.W.Fast.tw12175315990992155833 : True := trivial
theorem PySem.W.Fast.tw10835820236242222272 : True := trivial
theorem PySem.W.Fast.tw15581062003628286714 : True := trivial
theorem PySem.W.Fast.tw8354513170918289137 : True := trivial
theorem PySem.W.Fast.tw190035098461745282 : True := trivial
theorem PySem.W.Fast.tw9022952141547020993 : True := trivial
theorem PySem.W.Fast.tw17116424676337120207 : True := trivial
theorem PySem.W.Fast.tw2175932761897752187 : True := trivial
theorem PySem.W.Fast.tw7566464447714284231 : True := trivial
theorem PySem.W.Fast.tw14745869567605943498 : True := trivial
theorem PySem.W.Fast.tw15441051324913797235 : True := trivial
theorem PySem.W.Fast.tw1468467938883633565 : True := trivial
theorem PySem.W.Fast.tw2793145656976035119 : True := trivial
theorem PySem.W.Fast.tw6462229334859896908 : True := trivial
theorem PySem.W.Fast.tw2651425466877291675 : True := trivial
theorem PySem.W.Fast.tw11081658338279655530 : True := trivial
theorem PySem.W.Fast.tw14284859666051569649 : True := trivial
theorem PySem.W.Fast.tw992595880433448293 : True := trivial
theorem PySem.W.Fast.tw17547174874041943365 : True := trivial
theorem PySem.W.Fast.tw9555274110145948009 : True := trivial
theorem PySem.W.Fast.tw628558069339794691 : True := trivial
theorem PySem.W.Fast.tw2604210584761121558 : True := trivial
theorem PySem.W.Fast.tw6460438587034523939 : True := trivial
theorem PySem.W.Fast.tw14486698972309495699 : True := trivial
theorem PySem.W.Fast.tw8341312948786005476 : True := trivial
theorem PySem.W.Fast.tw17132770505152141826 : True := trivial
theorem PySem.W.Fast.tw2706516969111900178 : True := trivial
theorem PySem.W.Fast.tw15811214302643286612 : True := trivial
theorem PySem.W.Fast.tw6622983868157772453 : True := trivial
theorem PySem.W.Fast.tw14836719789322902927 : True := trivial
theorem PySem.W.Fast.tw17274847099543633560 : True := trivial
theorem PySem.W.Fast.tw7919587186809861026 : True := trivial
theorem PySem.W.Fast.tw995796507199095417 : True := trivial
theorem PySem.W.Fast.tw18299075422295395182 : True := trivial
theorem PySem.W.Fast.tw1024171167923444051 : True := trivial
theorem PySem.W.Fast.tw10093648474368054176 : True := trivial
theorem PySem.W.Fast.tw18222972299624459723 : True := trivial
theorem PySem.W.Fast.tw16393185371562114699 : True := trivial
theorem PySem.W.Fast.tw17476995231287029159 : True := trivial
theorem PySem.W.Fast.tw16598474609044517550 : True := trivial
theorem PySem.W.Fast.tw15719655504527243692 : True := trivial
theorem PySem.W.Fast.tw10556154255675682909 : True := trivial
theorem PySem.W.Fast.tw17287435957143064405 : True := trivial
theorem PySem.W.Fast.tw9041606912741642989 : True := trivial
theorem PySem.W.Fast.tw936923885786650147 : True := trivial
theorem PySem.W.Fast.tw10693426813915693042 : True := trivial
theorem PySem.W.Fast.tw1934389262085865538 : True := trivial
theorem PySem.W.Fast.tw14479991250126490998 : True := trivial
theorem PySem.W.Fast.tw14065006716590086435 : True := trivial
theorem PySem.W.Fast.tw1918103359377353880 : True := trivial
theorem PySem.W.Fast.tw2315112987478593387 : True := trivial
theorem PySem.W.Fast.tw14510314364242015393 : True := trivial
theorem PySem.W.Fast.tw10970359176028898001 : True := trivial
theorem PySem.W.Fast.tw1133151010407293379 : True := trivial
theorem PySem.W.Fast.tw10083255828349110111 : True := trivial
theorem PySem.W.Fast.tw1807089054153803367 : True := trivial
theorem PySem.W.Fast.tw2691803545453940044 : True := trivial
theorem PySem.W.Fast.tw279100422524064896 : True := trivial
theorem PySem.W.Fast.tw14357127659875693971 : True := trivial
theorem PySem.W.Fast.tw1511466424822134830 : True := trivial
theorem PySem.W.Fast.tw9847460136177988350 : True := trivial
theorem PySem.W.Fast.tw4060494398681100467 : True := trivial
theorem PySem.W.Fast.tw14943888258538561293 : True := trivial
theorem PySem.W.Fast.tw16842105140374852470 : True := trivial
theorem PySem.W.Fast.tw18134262608817731959 : True := trivial
theorem PySem.W.Fast.tw13268447110942584733 : True := trivial
theorem PySem.W.Fast.tw18376134221090132712 : True := trivial
theorem PySem.W.Fast.tw16617470212326944151 : True := trivial
theorem PySem.W.Fast.tw14266101909558187316 : True := trivial
theorem PySem.W.Fast.tw866123241933253646 : True := trivial
theorem PySem.W.Fast.tw4796482889562474651 : True := trivial
theorem PySem.W.Fast.tw10932769717882514277 : True := trivial
theorem PySem.W.Fast.tw16324109559337479390 : True := trivial
theorem PySem.W.Fast.tw16233774219784569706 : True := trivial
theorem PySem.W.Fast.tw6491210341469893352 : True := trivial
theorem PySem.W.Fast.tw15634057572218753063 : True := trivial
theorem PySem.W.Fast.tw17137333715173700541 : True := trivial
theorem PySem.W.Fast.tw699276983940296751 : True := trivial
theorem PySem.W.Fast.tw16804434990818784938 : True := trivial
theorem PySem.W.Fast.tw8457776519681401607 : True := trivial
theorem PySem.W.Fast.tw7619126933762712393 : True := trivial
theorem PySem.W.Fast.tw9206800181477026381 : True := trivial
theorem PySem.W.Fast.tw9441525595969751573 : True := trivial
theorem PySem.W.Fast.tw2700232989136357824 : True := trivial
theorem PySem.W.Fast.tw6403413692557886961 : True := trivial
theorem PySem.W.Fast.tw1239083664466291301 : True := trivial
theorem PySem.W.Fast.tw122094690953665348 : True := trivial
theorem PySem.W.Fast.tw5236472111810609348 : True := trivial
theorem PySem.W.Fast.tw6786962572596321453 : True := trivial
theorem PySem.W.Fast.tw14294205513438505604 : True := trivial
theorem PySem.W.Fast.tw17096391438001479559 : True := trivial
theorem PySem.W.Fast.tw3087145175422738084 : True := trivial
theorem PySem.W.Fast.tw9023782699643466879 : True := trivial
theorem PySem.W.Fast.tw11136684802960198725 : True := trivial
theorem PySem.W.Fast.tw10692967152871548726 : True := trivial
theorem PySem.W.Fast.tw15392289223916181049 : True := trivial
theorem PySem.W.Fast.tw17984812629163621363 : True := trivial
theorem PySem.W.Fast.tw12936024615122147914 : True := trivial
theorem PySem.W.Fast.tw118489771796057718 : True := trivial
theorem PySem.W.Fast.tw15870622957724913635 : True := trivial
theorem PySem.W.Fast.tw5762970658976451355 : True := trivial
theorem PySem.W.Fast.tw2764950211859906146 : True := trivial
theorem PySem.W.Fast.tw13289117863650428734 : True := trivial
theorem PySem.W.Fast.tw12029831984824248863 : True := trivial
theorem PySem.W.Fast.tw10045597562845295811 : True := trivial
theorem PySem.W.Fast.tw18435678322754316351 : True := trivial
theorem PySem.W.Fast.tw11827072545923942311 : True := trivial
theorem PySem.W.Fast.tw7684993737292320874 : True := trivial
theorem PySem.W.Fast.tw3677520599372480270 : True := trivial
theorem PySem.W.Fast.tw2179680804500986987 : True := trivial
theorem PySem.W.Fast.tw13257078174492420715 : True := trivial
theorem PySem.W.Fast.tw17432245751839598890 : True := trivial
theorem PySem.W.Fast.tw3163292441222102694 : True := trivial
theorem PySem.W.Fast.tw13608031974600698062 : True := trivial
theorem PySem.W.Fast.tw1593651406602770653 : True := trivial
theorem PySem.W.Fast.tw18394675698231179598 : True := trivial
theorem PySem.W.Fast.tw532020808412253729 : True := trivial
theorem PySem.W.Fast.tw675215647337184493 : True := trivial
theorem PySem.W.Fast.tw10272520856057623512 : True := trivial
theorem PySem.W.Fast.tw7529642219267135920 : True := trivial
theorem PySem.W.Fast.tw3731215370090666283 : True := trivial
theorem PySem.W.Fast.tw4890010137812478380 : True := trivial
theorem PySem.W.Fast.tw12923079775173305918 : True := trivial
theorem PySem.W.Fast.tw17466587269732376207 : True := trivial
theorem PySem.W.Fast.tw9198326107247630835 : True := trivial
theorem PySem.W.Fast.tw18256811959679286057 : True := trivial
theorem PySem.W.Fast.tw8739117078728653724 : True := trivial
theorem PySem.W.Fast.tw1107545594606138726 : True := trivial
theorem PySem.W.Fast.tw14962400465741947034 : True := trivial
theorem PySem.W.Fast.tw11342931568056905032 : True := trivial
theorem PySem.W.Fast.tw1861818230416058215 : True := trivial
theorem PySem.W.Fast.tw6832252281746024954 : True := trivial
theorem PySem.W.Fast.tw13164876812163103493 : True := trivial
theorem PySem.W.Fast.tw5909047779026328562 : True := trivial
theorem PySem.W.Fast.tw4203225788406381402 : True := trivial
theorem PySem.W.Fast.tw18049614604521945457 : True := trivial
theorem PySem.W.Fast.tw9382208839081510077 : True := trivial
theorem PySem.W.Fast.tw6739789636818160758 : True := trivial
theorem PySem.W.Fast.tw8643725073342532521 : True := trivial
theorem PySem.W.Fast.tw4656522442143340017 : True := trivial
theorem PySem.W.Fast.tw6794420299540854603 : True := trivial
theorem PySem.W.Fast.tw13008614001174744016 : True := trivial
theorem PySem.W.Fast.tw8951350456178613847 : True := trivial
theorem PySem.W.Fast.tw16981112725390483267 : True := trivial
theorem PySem.W.Fast.tw6620874641460271487 : True := trivial
theorem PySem.W.Fast.tw2871069251158214351 : True := trivial
theorem PySem.W.Fast.tw14355813593973502970 : True := trivial
theorem PySem.W.Fast.tw15416528966186392214 : True := trivial
theorem PySem.W.Fast.tw9830810080766581789 : True := trivial
theorem PySem.W.Fast.tw10668979044751206578 : True := trivial
theorem PySem.W.Fast.tw7244675712488315786 : True := trivial
theorem PySem.W.Fast.tw3244848356578428429 : True := trivial
theorem PySem.W.Fast.tw7455699777882017255 : True := trivial
theorem PySem.W.Fast.tw14391986416061765599 : True := trivial
theorem PySem.W.Fast.tw15036940416428655051 : True := trivial
theorem PySem.W.Fast.tw13825214316799396083 : True := trivial
theorem PySem.W.Fast.tw6375981132108054231 : True := trivial
theorem PySem.W.Fast.tw5772128730035584101 : True := trivial
theorem PySem.W.Fast.tw17753622257369608830 : True := trivial
theorem PySem.W.Fast.tw15736686134323809505 : True := trivial
theorem PySem.W.Fast.tw295557958791672419 : True := trivial
theorem PySem.W.Fast.tw5900588021092206936 : True := trivial
theorem PySem.W.Fast.tw3632781064487255675 : True := trivial
theorem PySem.W.Fast.tw12491887940376852061 : True := trivial
theorem PySem.W.Fast.tw16714507238254560052 : True := trivial
theorem PySem.W.Fast.tw4113151837323731220 : True := trivial
theorem PySem.W.Fast.tw12011316131257657296 : True := trivial
theorem PySem.W.Fast.tw18139088834428941689 : True := trivial
theorem PySem.W.Fast.tw7701657294118896671 : True := trivial
theorem PySem.W.Fast.tw13231939874443434936 : True := trivial
theorem PySem.W.Fast.tw12952114140657583924 : True := trivial
theorem PySem.W.Fast.tw600699503155419449 : True := trivial
theorem PySem.W.Fast.tw12783022516324697602 : True := trivial
theorem PySem.W.Fast.tw12884795752903156825 : True := trivial
theorem PySem.W.Fast.tw7874472759477737944 : True := trivial
theorem PySem.W.Fast.tw4559294270370507396 : True := trivial
theorem PySem.W.Fast.tw15031453864320727724 : True := trivial
theorem PySem.W.Fast.tw2684091877229270042 : True := trivial
theorem PySem.W.Fast.tw399418038032424254 : True := trivial
theorem PySem.W.Fast.tw4838290791299358200 : True := trivial
theorem PySem.W.Fast.tw14975383514080217550 : True := trivial
theorem PySem.W.Fast.tw12546222975096818496 : True := trivial
theorem PySem.W.Fast.tw9041590332112594290 : True := trivial
theorem PySem.W.Fast.tw17840519079351821811 : True := trivial
theorem PySem.W.Fast.tw15639967350310954973 : True := trivial
theorem PySem.W.Fast.tw2620451750702282081 : True := trivial
theorem PySem.W.Fast.tw10813702573107200993 : True := trivial
theorem PySem.W.Fast.tw18271831339823173161 : True := trivial
theorem PySem.W.Fast.tw11839503269701279845 : True := trivial
theorem PySem.W.Fast.tw14099123171449121289 : True := trivial
theorem PySem.W.Fast.tw4418302332678927885 : True := trivial
theorem PySem.W.Fast.tw16580160059698308009 : True := trivial
theorem PySem.W.Fast.tw15025940023636813020 : True := trivial
theorem PySem.W.Fast.tw3077429605741071298 : True := trivial
theorem PySem.W.Fast.tw5903502555033679920 : True := trivial
theorem PySem.W.Fast.tw10673372355809386663 : True := trivial
theorem PySem.W.Fast.tw17851324387408935813 : True := trivial
theorem PySem.W.Fast.tw10116177633944015977 : True := trivial
theorem PySem.W.Fast.tw15476161660890620017 : True := trivial
theorem PySem.W.Fast.tw12886606279937811767 : True := trivial
theorem PySem.W.Fast.tw17480926787215363 : True := trivial
theorem PySem.W.Fast.tw5112565937473989041 : True := trivial
theorem PySem.W.Fast.tw7542143615493895861 : True := trivial
theorem PySem.W.Fast.tw18390037938586452430 : True := trivial
theorem PySem.W.Fast.tw5571390710079969335 : True := trivial
theorem PySem.W.Fast.tw17375321372048734999 : True := trivial
theorem PySem.W.Fast.tw10988495706520723085 : True := trivial
theorem PySem.W.Fast.tw3251409565485038006 : True := trivial
theorem PySem.W.Fast.tw4741762184668535047 : True := trivial
theorem PySem.W.Fast.tw9054681535537159282 : True := trivial
theorem PySem.W.Fast.tw248728226903412784 : True := trivial
theorem PySem.W.Fast.tw17430540777786196714 : True := trivial
theorem PySem.W.Fast.tw4134441449237930427 : True := trivial
theorem PySem.W.Fast.tw10133682024040288958 : True := trivial
theorem PySem.W.Fast.tw18427682429644395585 : True := trivial
theorem PySem.W.Fast.tw16257544502102150266 : True := trivial
theorem PySem.W.Fast.tw3551185890187158129 : True := trivial
theorem PySem.W.Fast.tw15032934703778438397 : True := trivial
theorem PySem.W.Fast.tw14813146831200920774 : True := trivial
theorem PySem.W.Fast.tw9235983162844724311 : True := trivial
theorem PySem.W.Fast.tw8707794598336584632 : True := trivial
theorem PySem.W.Fast.tw3429218136398780644 : True := trivial
theorem PySem.W.Fast.tw16452540882118606025 : True := trivial
theorem PySem.W.Fast.tw14481577578858298707 : True := trivial
theorem PySem.W.Fast.tw6640547352106360240 : True := trivial
theorem PySem.W.Fast.tw11362623915099827779 : True := trivial
theorem PySem.W.Fast.tw14364550498462977205 : True := trivial
theorem PySem.W.Fast.tw3642697105162134556 : True := trivial
theorem PySem.W.Fast.tw1404447088888590851 : True := trivial
theorem PySem.W.Fast.tw6996211491039317043 : True := trivial
theorem PySem.W.Fast.tw12468705395605111239 : True := trivial
theorem PySem.W.Fast.tw17082329499569969391 : True := trivial
theorem PySem.W.Fast.tw14246339091463987561 : True := trivial
theorem PySem.W.Fast.tw14075395070240683340 : True := trivial
theorem PySem.W.Fast.tw5428061113510291297 : True := trivial
theorem PySem.W.Fast.tw15508321061605751101 : True := trivial
theorem PySem.W.Fast.tw12924953867437667915 : True := trivial
theorem PySem.W.Fast.tw18016348866111098751 : True := trivial
theorem PySem.W.Fast.tw12372933627339532699 : True := trivial
theorem PySem.W.Fast.tw706593795492615893 : True := trivial
theorem PySem.W.Fast.tw1715975792142151785 : True := trivial
theorem PySem.W.Fast.tw17653898765743880479 : True := trivial
theorem PySem.W.Fast.tw1068522689484575345 : True := trivial
theorem PySem.W.Fast.tw6247741184179021965 : True := trivial
theorem PySem.W.Fast.tw6685538930263317517 : True := trivial
theorem PySem.W.Fast.tw838017270471310242 : True := trivial
theorem PySem.W.Fast.tw17724295016271551468 : True := trivial
theorem PySem.W.Fast.tw15358481674747145898 : True := trivial
theorem PySem.W.Fast.tw2745966437392191834 : True := trivial
theorem PySem.W.Fast.tw14165866100883167401 : True := trivial
theorem PySem.W.Fast.tw8314343085009336685 : True := trivial
theorem PySem.W.Fast.tw14047491646394701522 : True := trivial
theorem PySem.W.Fast.tw10790270065483527193 : True := trivial
theorem PySem.W.Fast.tw11158809846276174490 : True := trivial
theorem PySem.W.Fast.tw6734164466809487891 : True := trivial
theorem PySem.W.Fast.tw13118116292598481339 : True := trivial
theorem PySem.W.Fast.tw16828962133513961664 : True := trivial
theorem PySem.W.Fast.tw1018249528500192101 : True := trivial
theorem PySem.W.Fast.tw6361291580591582721 : True := trivial
theorem PySem.W.Fast.tw16439024453814078522 : True := trivial
theorem PySem.W.Fast.tw17425463926498132003 : True := trivial
theorem PySem.W.Fast.tw16301064574764140693 : True := trivial
open_top k1head for PySem.Challenge.rw_maprows_k01_exceptions_apart
open PySem PySem.W PyProof.Rows in
set_option maxRecDepth 100000 in
set_option maxHeartbeats 0 in
set_option pp.maxSteps 20 in
theorem PySem.Challenge.cw_maprows_k01_exceptions_apart_holds : PySem.Challenge.rw_maprows_k01_exceptions_apart.Holds := by
  refine k1head ?walk
  k_fill
  refine Rw.walkG (l := PySem.Challenge.rw_maprows_k01_exceptions_apart) (n := 63) (k := 8) (x := "_law_script") (sp := K1.spLaw) rfl (by decide) rfl rfl ⟨rfl, by decide, by decide⟩ (fun w h Y => PySem.W.kIn_of Y) ?F (fun K H a ns hl _ hs => ⟨a, ns, rfl, hs, hl, fun _ => rfl⟩)
  intro w mg fa h KX G hmg
  refine' K1.all_mk KX G hmg ?Z
  case' Z => refine' ⟨?taI, ?taT, ?iMOST, ?hI, ?hT, ?root, ?e0, ?e1, ?e2, ?e3, ?e4, ?e5, ?e6, ?e7, ?e8, ?e9, ?e10, ?e11, ?e12, ?e13, ?e14, ?e15, ?e16, ?e17, ?e18, ?e19, ?e20, ?e21, ?e22, ?e23, ?e24, ?e25, ?e26, ?e27, ?e28, ?e29, ?rSp, ?rTy, ?rRd, ?rIni, ?rEx, ?rCl, ?iHn, ?iHt, ?nd, ?nr, ?ha0, ?ha1, ?ha2, ?ha3, ?ha4, ?ha5, ?ha6, ?ha7, ?ha8, ?ha9, ?ha10, ?ha11, ?ha12, ?ha13, ?ha14, ?ha15, ?ha16, ?ha17, ?ha18, ?ha19, ?ha20, ?ha21, ?ha22, ?ha23, ?ha24, ?ha25, ?ha26, ?ha27, ?ha28, ?ha29, ?ga24, ?ga25, ?ga26, ?ga27, ?ga28, ?ga29, ?gg24, ?gg25, ?gg26, ?gg27, ?gg28, ?gg29, ?hd24, ?hd25, ?hd26, ?hd27, ?hd28, ?hd29, ?d1, ?d2, ?d3, ?d4, ?d5, ?d6, ?d7, ?d8, ?d9, ?d10, ?d11, ?d12, ?d13, ?d14, ?d15, ?d16, ?d17, ?d18, ?d19, ?d20, ?dl, ?z1, ?z2, ?z3, ?z4, ?z5, ?z6, ?z7, ?z8, ?z9, ?z10, ?z11, ?z12, ?z13, ?z14, ?z15⟩
  (case taI => refine' Rw.TabIHere.of ?g ?k ?t ?z; (case g => k_is); (case k => k_is); (case t => exact .cons rfl rfl rfl (.cons rfl rfl rfl (.cons rfl rfl rfl (.cons rfl rfl rfl (.cons rfl rfl rfl (.cons rfl rfl rfl .nil)))))); (case z => first | rfl | k_is))
  (case taT => refine' Rw.TabSHere.of ?g ?k ?t ?z; (case g => k_is); (case k => k_is); (case t => exact .cons rfl rfl rfl (.cons rfl rfl rfl .nil)); (case z => first | rfl | k_is))
  (case iMOST => k_is)
  (case hI => exact fun i => Rw.prime_tab (us := []) i)
  (case hT => exact fun c => Rw.arr_tab c)
  (case root => k_is)
  (case e0 => refine' Rw.ErrFHere.of ?g ?xl ?sa ?ga ?gg ?no ?ini ?ty ?l ?c ?k ?kc ?ex ?tc ?hd; (case g => k_is); (case xl => k_is); (case sa => k_is); (case ga => k_is); (case gg => k_is); (case no => k_is); (case ini => k_is); (case ty => k_is); (case l => k_is); (case c => k_is); (case k => k_is); (case kc => k_is); (case ex => k_is); (case tc => k_is); (case hd => k_is))
  (case e1 => refine' Rw.ErrFHere.of ?g ?xl ?sa ?ga ?gg ?no ?ini ?ty ?l ?c ?k ?kc ?ex ?tc ?hd; (case g => k_is); (case xl => k_is); (case sa => k_is); (case ga => k_is); (case gg => k_is); (case no => k_is); (case ini => k_is); (case ty => k_is); (case l => k_is); (case c => k_is); (case k => k_is); (case kc => k_is); (case ex => k_is); (case tc => k_is); (case hd => k_is))
  (case e2 => refine' Rw.ErrFHere.of ?g ?xl ?sa ?ga ?gg ?no ?ini ?ty ?l ?c ?k ?kc ?ex ?tc ?hd; (case g => k_is); (case xl => k_is); (case sa => k_is); (case ga => k_is); (case gg => k_is); (case no => k_is); (case ini => k_is); (case ty => k_is); (case l => k_is); (case c => k_is); (case k => k_is); (case kc => k_is); (case ex => k_is); (case tc => k_is); (case hd => k_is))
  (case e3 => refine' Rw.ErrFHere.of ?g ?xl ?sa ?ga ?gg ?no ?ini ?ty ?l ?c ?k ?kc ?ex ?tc ?hd; (case g => k_is); (case xl => k_is); (case sa => k_is); (case ga => k_is); (case gg => k_is); (case no => k_is); (case ini => k_is); (case ty => k_is); (case l => k_is); (case c => k_is); (case k => k_is); (case kc => k_is); (case ex => k_is); (case tc => k_is); (case hd => k_is))
  (case e4 => refine' Rw.ErrFHere.of ?g ?xl ?sa ?ga ?gg ?no ?ini ?ty ?l ?c ?k ?kc ?ex ?tc ?hd; (case g => k_is); (case xl => k_is); (case sa => k_is); (case ga => k_is); (case gg => k_is); (case no => k_is); (case ini => k_is); (case ty => k_is); (case l => k_is); (case c => k_is); (case k => k_is); (case kc => k_is); (case ex => k_is); (case tc => k_is); (case hd => k_is))
  (case e5 => refine' Rw.ErrFHere.of ?g ?xl ?sa ?ga ?gg ?no ?ini ?ty ?l ?c ?k ?kc ?ex ?tc ?hd; (case g => k_is); (case xl => k_is); (case sa => k_is); (case ga => k_is); (case gg => k_is); (case no => k_is); (case ini => k_is); (case ty => k_is); (case l => k_is); (case c => k_is); (case k => k_is); (case kc => k_is); (case ex => k_is); (case tc => k_is); (case hd => k_is))
  (case e6 => refine' Rw.ErrFHere.of ?g ?xl ?sa ?ga ?gg ?no ?ini ?ty ?l ?c ?k ?kc ?ex ?tc ?hd; (case g => k_is); (case xl => k_is); (case sa => k_is); (case ga => k_is); (case gg => k_is); (case no => k_is); (case ini => k_is); (case ty => k_is); (case l => k_is); (case c => k_is); (case k => k_is); (case kc => k_is); (case ex => k_is); (case tc => k_is); (case hd => k_is))
  (case e7 => refine' Rw.ErrFHere.of ?g ?xl ?sa ?ga ?gg ?no ?ini ?ty ?l ?c ?k ?kc ?ex ?tc ?hd; (case g => k_is); (case xl => k_is); (case sa => k_is); (case ga => k_is); (case gg => k_is); (case no => k_is); (case ini => k_is); (case ty => k_is); (case l => k_is); (case c => k_is); (case k => k_is); (case kc => k_is); (case ex => k_is); (case tc => k_is); (case hd => k_is))
  (case e8 => refine' Rw.ErrFHere.of ?g ?xl ?sa ?ga ?gg ?no ?ini ?ty ?l ?c ?k ?kc ?ex ?tc ?hd; (case g => k_is); (case xl => k_is); (case sa => k_is); (case ga => k_is); (case gg => k_is); (case no => k_is); (case ini => k_is); (case ty => k_is); (case l => k_is); (case c => k_is); (case k => k_is); (case kc => k_is); (case ex => k_is); (case tc => k_is); (case hd => k_is))
  (case e9 => refine' Rw.ErrFHere.of ?g ?xl ?sa ?ga ?gg ?no ?ini ?ty ?l ?c ?k ?kc ?ex ?tc ?hd; (case g => k_is); (case xl => k_is); (case sa => k_is); (case ga => k_is); (case gg => k_is); (case no => k_is); (case ini => k_is); (case ty => k_is); (case l => k_is); (case c => k_is); (case k => k_is); (case kc => k_is); (case ex => k_is); (case tc => k_is); (case hd => k_is))
  (case e10 => refine' Rw.ErrFHere.of ?g ?xl ?sa ?ga ?gg ?no ?ini ?ty ?l ?c ?k ?kc ?ex ?tc ?hd; (case g => k_is); (case xl => k_is); (case sa => k_is); (case ga => k_is); (case gg => k_is); (case no => k_is); (case ini => k_is); (case ty => k_is); (case l => k_is); (case c => k_is); (case k => k_is); (case kc => k_is); (case ex => k_is); (case tc => k_is); (case hd => k_is))
  (case e11 => refine' Rw.ErrFHere.of ?g ?xl ?sa ?ga ?gg ?no ?ini ?ty ?l ?c ?k ?kc ?ex ?tc ?hd; (case g => k_is); (case xl => k_is); (case sa => k_is); (case ga => k_is); (case gg => k_is); (case no => k_is); (case ini => k_is); (case ty => k_is); (case l => k_is); (case c => k_is); (case k => k_is); (case kc => k_is); (case ex => k_is); (case tc => k_is); (case hd => k_is))
  (case e12 => refine' Rw.ErrFHere.of ?g ?xl ?sa ?ga ?gg ?no ?ini ?ty ?l ?c ?k ?kc ?ex ?tc ?hd; (case g => k_is); (case xl => k_is); (case sa => k_is); (case ga => k_is); (case gg => k_is); (case no => k_is); (case ini => k_is); (case ty => k_is); (case l => k_is); (case c => k_is); (case k => k_is); (case kc => k_is); (case ex => k_is); (case tc => k_is); (case hd => k_is))
  (case e13 => refine' Rw.ErrFHere.of ?g ?xl ?sa ?ga ?gg ?no ?ini ?ty ?l ?c ?k ?kc ?ex ?tc ?hd; (case g => k_is); (case xl => k_is); (case sa => k_is); (case ga => k_is); (case gg => k_is); (case no => k_is); (case ini => k_is); (case ty => k_is); (case l => k_is); (case c => k_is); (case k => k_is); (case kc => k_is); (case ex => k_is); (case tc => k_is); (case hd => k_is))
  (case e14 => refine' Rw.ErrFHere.of ?g ?xl ?sa ?ga ?gg ?no ?ini ?ty ?l ?c ?k ?kc ?ex ?tc ?hd; (case g => k_is); (case xl => k_is); (case sa => k_is); (case ga => k_is); (case gg => k_is); (case no => k_is); (case ini => k_is); (case ty => k_is); (case l => k_is); (case c => k_is); (case k => k_is); (case kc => k_is); (case ex => k_is); (case tc => k_is); (case hd => k_is))
  (case e15 => refine' Rw.ErrFHere.of ?g ?xl ?sa ?ga ?gg ?no ?ini ?ty ?l ?c ?k ?kc ?ex ?tc ?hd; (case g => k_is); (case xl => k_is); (case sa => k_is); (case ga => k_is); (case gg => k_is); (case no => k_is); (case ini => k_is); (case ty => k_is); (case l => k_is); (case c => k_is); (case k => k_is); (case kc => k_is); (case ex => k_is); (case tc => k_is); (case hd => k_is))
  (case e16 => refine' Rw.ErrFHere.of ?g ?xl ?sa ?ga ?gg ?no ?ini ?ty ?l ?c ?k ?kc ?ex ?tc ?hd; (case g => k_is); (case xl => k_is); (case sa => k_is); (case ga => k_is); (case gg => k_is); (case no => k_is); (case ini => k_is); (case ty => k_is); (case l => k_is); (case c => k_is); (case k => k_is); (case kc => k_is); (case ex => k_is); (case tc => k_is); (case hd => k_is))
  (case e17 => refine' Rw.ErrFHere.of ?g ?xl ?sa ?ga ?gg ?no ?ini ?ty ?l ?c ?k ?kc ?ex ?tc ?hd; (case g => k_is); (case xl => k_is); (case sa => k_is); (case ga => k_is); (case gg => k_is); (case no => k_is); (case ini => k_is); (case ty => k_is); (case l => k_is); (case c => k_is); (case k => k_is); (case kc => k_is); (case ex => k_is); (case tc => k_is); (case hd => k_is))
  (case e18 => refine' Rw.ErrFHere.of ?g ?xl ?sa ?ga ?gg ?no ?ini ?ty ?l ?c ?k ?kc ?ex ?tc ?hd; (case g => k_is); (case xl => k_is); (case sa => k_is); (case ga => k_is); (case gg => k_is); (case no => k_is); (case ini => k_is); (case ty => k_is); (case l => k_is); (case c => k_is); (case k => k_is); (case kc => k_is); (case ex => k_is); (case tc => k_is); (case hd => k_is))
  (case e19 => refine' Rw.ErrFHere.of ?g ?xl ?sa ?ga ?gg ?no ?ini ?ty ?l ?c ?k ?kc ?ex ?tc ?hd; (case g => k_is); (case xl => k_is); (case sa => k_is); (case ga => k_is); (case gg => k_is); (case no => k_is); (case ini => k_is); (case ty => k_is); (case l => k_is); (case c => k_is); (case k => k_is); (case kc => k_is); (case ex => k_is); (case tc => k_is); (case hd => k_is))
  (case e20 => refine' Rw.ErrFHere.of ?g ?xl ?sa ?ga ?gg ?no ?ini ?ty ?l ?c ?k ?kc ?ex ?tc ?hd; (case g => k_is); (case xl => k_is); (case sa => k_is); (case ga => k_is); (case gg => k_is); (case no => k_is); (case ini => k_is); (case ty => k_is); (case l => k_is); (case c => k_is); (case k => k_is); (case kc => k_is); (case ex => k_is); (case tc => k_is); (case hd => k_is))
  (case e21 => refine' Rw.ErrFHere.of ?g ?xl ?sa ?ga ?gg ?no ?ini ?ty ?l ?c ?k ?kc ?ex ?tc ?hd; (case g => k_is); (case xl => k_is); (case sa => k_is); (case ga => k_is); (case gg => k_is); (case no => k_is); (case ini => k_is); (case ty => k_is); (case l => k_is); (case c => k_is); (case k => k_is); (case kc => k_is); (case ex => k_is); (case tc => k_is); (case hd => k_is))
  (case e22 => refine' Rw.ErrFHere.of ?g ?xl ?sa ?ga ?gg ?no ?ini ?ty ?l ?c ?k ?kc ?ex ?tc ?hd; (case g => k_is); (case xl => k_is); (case sa => k_is); (case ga => k_is); (case gg => k_is); (case no => k_is); (case ini => k_is); (case ty => k_is); (case l => k_is); (case c => k_is); (case k => k_is); (case kc => k_is); (case ex => k_is); (case tc => k_is); (case hd => k_is))
  (case e23 => refine' Rw.ErrFHere.of ?g ?xl ?sa ?ga ?gg ?no ?ini ?ty ?l ?c ?k ?kc ?ex ?tc ?hd; (case g => k_is); (case xl => k_is); (case sa => k_is); (case ga => k_is); (case gg => k_is); (case no => k_is); (case ini => k_is); (case ty => k_is); (case l => k_is); (case c => k_is); (case k => k_is); (case kc => k_is); (case ex => k_is); (case tc => k_is); (case hd => k_is))
  (case e24 => refine' Rw.ErrNHere.of ?g ?xl ?sa ?ini ?ty ?l ?c ?k ?kc ?ex ?tc; (case g => k_is); (case xl => k_is); (case sa => k_is); (case ini => k_is); (case ty => k_is); (case l => k_is); (case c => k_is); (case k => k_is); (case kc => k_is); (case ex => k_is); (case tc => k_is))
  (case e25 => refine' Rw.ErrNHere.of ?g ?xl ?sa ?ini ?ty ?l ?c ?k ?kc ?ex ?tc; (case g => k_is); (case xl => k_is); (case sa => k_is); (case ini => k_is); (case ty => k_is); (case l => k_is); (case c => k_is); (case k => k_is); (case kc => k_is); (case ex => k_is); (case tc => k_is))
  (case e26 => refine' Rw.ErrNHere.of ?g ?xl ?sa ?ini ?ty ?l ?c ?k ?kc ?ex ?tc; (case g => k_is); (case xl => k_is); (case sa => k_is); (case ini => k_is); (case ty => k_is); (case l => k_is); (case c => k_is); (case k => k_is); (case kc => k_is); (case ex => k_is); (case tc => k_is))
  (case e27 => refine' Rw.ErrNHere.of ?g ?xl ?sa ?ini ?ty ?l ?c ?k ?kc ?ex ?tc; (case g => k_is); (case xl => k_is); (case sa => k_is); (case ini => k_is); (case ty => k_is); (case l => k_is); (case c => k_is); (case k => k_is); (case kc => k_is); (case ex => k_is); (case tc => k_is))
  (case e28 => refine' Rw.ErrNHere.of ?g ?xl ?sa ?ini ?ty ?l ?c ?k ?kc ?ex ?tc; (case g => k_is); (case xl => k_is); (case sa => k_is); (case ini => k_is); (case ty => k_is); (case l => k_is); (case c => k_is); (case k => k_is); (case kc => k_is); (case ex => k_is); (case tc => k_is))
  (case e29 => refine' Rw.ErrNHere.of ?g ?xl ?sa ?ini ?ty ?l ?c ?k ?kc ?ex ?tc; (case g => k_is); (case xl => k_is); (case sa => k_is); (case ini => k_is); (case ty => k_is); (case l => k_is); (case c => k_is); (case k => k_is); (case kc => k_is); (case ex => k_is); (case tc => k_is))
  (case rSp => first | rfl | k_is)
  (case rTy => first | rfl | k_is)
  (case rRd => first | rfl | k_is)
  (case rIni => first | rfl | k_is)
  (case rEx => first | rfl | k_is)
  (case rCl => first | rfl | k_is)
  (case iHn => first | rfl | k_is)
  (case iHt => first | rfl | k_is)
  (case nd => decide)
  (case nr => decide)
  (case ha0 => first | rfl | k_is)
  (case ha1 => first | rfl | k_is)
  (case ha2 => first | rfl | k_is)
  (case ha3 => first | rfl | k_is)
  (case ha4 => first | rfl | k_is)
  (case ha5 => first | rfl | k_is)
  (case ha6 => first | rfl | k_is)
  (case ha7 => first | rfl | k_is)
  (case ha8 => first | rfl | k_is)
  (case ha9 => first | rfl | k_is)
  (case ha10 => first | rfl | k_is)
  (case ha11 => first | rfl | k_is)
  (case ha12 => first | rfl | k_is)
  (case ha13 => first | rfl | k_is)
  (case ha14 => first | rfl | k_is)
  (case ha15 => first | rfl | k_is)
  (case ha16 => first | rfl | k_is)
  (case ha17 => first | rfl | k_is)
  (case ha18 => first | rfl | k_is)
  (case ha19 => first | rfl | k_is)
  (case ha20 => first | rfl | k_is)
  (case ha21 => first | rfl | k_is)
  (case ha22 => first | rfl | k_is)
  (case ha23 => first | rfl | k_is)
  (case ha24 => first | rfl | k_is)
  (case ha25 => first | rfl | k_is)
  (case ha26 => first | rfl | k_is)
  (case ha27 => first | rfl | k_is)
  (case ha28 => first | rfl | k_is)
  (case ha29 => first | rfl | k_is)
  (case ga24 => first | rfl | k_is)
  (case ga25 => first | rfl | k_is)
  (case ga26 => first | rfl | k_is)
  (case ga27 => first | rfl | k_is)
  (case ga28 => first | rfl | k_is)
  (case ga29 => first | rfl | k_is)
  (case gg24 => first | rfl | k_is)
  (case gg25 => first | rfl | k_is)
  (case gg26 => first | rfl | k_is)
  (case gg27 => first | rfl | k_is)
  (case gg28 => first | rfl | k_is)
  (case gg29 => first | rfl | k_is)
  (case hd24 => first | rfl | k_is)
  (case hd25 => first | rfl | k_is)
  (case hd26 => first | rfl | k_is)
  (case hd27 => first | rfl | k_is)
  (case hd28 => first | rfl | k_is)
  (case hd29 => first | rfl | k_is)
  (case d1 => refine' Rw.DefHere.of ?g ?l ?c ?k; (case g => k_is); (case l => k_is); (case c => k_is); (case k => k_is))
  (case d2 => refine' Rw.DefHere.of ?g ?l ?c ?k; (case g => k_is); (case l => k_is); (case c => k_is); (case k => k_is))
  (case d3 => refine' Rw.DefHere.of ?g ?l ?c ?k; (case g => k_is); (case l => k_is); (case c => k_is); (case k => k_is))
  (case d4 => refine' Rw.DefHere.of ?g ?l ?c ?k; (case g => k_is); (case l => k_is); (case c => k_is); (case k => k_is))
  (case d5 => refine' Rw.DefHere.of ?g ?l ?c ?k; (case g => k_is); (case l => k_is); (case c => k_is); (case k => k_is))
  (case d6 => refine' Rw.DefHere.of ?g ?l ?c ?k; (case g => k_is); (case l => k_is); (case c => k_is); (case k => k_is))
  (case d7 => refine' Rw.DefHere.of ?g ?l ?c ?k; (case g => k_is); (case l => k_is); (case c => k_is); (case k => k_is))
  (case d8 => refine' Rw.DefHere.of ?g ?l ?c ?k; (case g => k_is); (case l => k_is); (case c => k_is); (case k => k_is))
  (case d9 => refine' Rw.DefHere.of ?g ?l ?c ?k; (case g => k_is); (case l => k_is); (case c => k_is); (case k => k_is))
  (case d10 => refine' Rw.DefHere.of ?g ?l ?c ?k; (case g => k_is); (case l => k_is); (case c => k_is); (case k => k_is))
  (case d11 => refine' Rw.DefHere.of ?g ?l ?c ?k; (case g => k_is); (case l => k_is); (case c => k_is); (case k => k_is))
  (case d12 => refine' Rw.DefHere.of ?g ?l ?c ?k; (case g => k_is); (case l => k_is); (case c => k_is); (case k => k_is))
  (case d13 => refine' Rw.DefHere.of ?g ?l ?c ?k; (case g => k_is); (case l => k_is); (case c => k_is); (case k => k_is))
  (case d14 => refine' Rw.DefHere.of ?g ?l ?c ?k; (case g => k_is); (case l => k_is); (case c => k_is); (case k => k_is))
  (case d15 => refine' Rw.DefHere.of ?g ?l ?c ?k; (case g => k_is); (case l => k_is); (case c => k_is); (case k => k_is))
  (case d16 => refine' Rw.DefHere.of ?g ?l ?c ?k; (case g => k_is); (case l => k_is); (case c => k_is); (case k => k_is))
  (case d17 => refine' Rw.DefHere.of ?g ?l ?c ?k; (case g => k_is); (case l => k_is); (case c => k_is); (case k => k_is))
  (case d18 => refine' Rw.DefHere.of ?g ?l ?c ?k; (case g => k_is); (case l => k_is); (case c => k_is); (case k => k_is))
  (case d19 => refine' Rw.DefHere.of ?g ?l ?c ?k; (case g => k_is); (case l => k_is); (case c => k_is); (case k => k_is))
  (case d20 => refine' Rw.DefHere.of ?g ?l ?c ?k; (case g => k_is); (case l => k_is); (case c => k_is); (case k => k_is))
  (case dl => refine' Rw.DefHere.of ?g ?l ?c ?k; (case g => k_is); (case l => k_is); (case c => k_is); (case k => k_is))
  (case z1 => k_is)
  (case z2 => k_is)
  (case z3 => k_is)
  (case z4 => k_is)
  (case z5 => k_is)
  (case z6 => k_is)
  (case z7 => k_is)
  (case z8 => k_is)
  (case z9 => k_is)
  (case z10 => k_is)
  (case z11 => k_is)
  (case z12 => k_is)
  (case z13 => k_is)
  (case z14 => k_is)
  (case z15 => k_is)
#print axioms PySem.Challenge.cw_maprows_k01_exceptions_apart_holds
