import PyProof.Rows.All
import Wide.All
import OpenK.AllK
import Wide.FinOn
import PySem.Challenge.RW_eachinturn_k19_watched_and_first_unlike
import HandS.ForMost
import HandS.Deep
import HandS.Wide
import HandS.IsInst
import HandS.TupAny
import HandS.Style
import PyProof.P3In
import PyProof.Rows.EqDataRows
import HandS.Conv
import HandS.TupSets
import HandS.SetBool
import HandS.Strs
import HandS.ExcOwn
import HandS.ExcValue
import HandS.Text
import PyProof.Rows.SortShellAny
import PyProof.ReprLen
import PyProof.Rows.RegFStrParts
import HandS.Zip
import KE.KSortTupG
import HandS.RaiseMore
import HandS.Walk
import KE.KDictZip
import KE.GoesMore
import KE.KItemsList
import HandS.TupMul
import KE.KDictPairs
import KE.KDictKeyed
import HandS.Flow
import HandS.TupLen
import HandS.DictComp
import HandS.SetFor
import PyProof.Rows.ChunkEnd
import KE.SortData
import KE.KDictDisplayH
import KE.KeyNested
import HandS.List
import KE.KDictCopyH
import KE.DataMinMax
import HandS.WordsExc
import HandS.ExcIs
import HandS.ListItems
import HandS.SortInts
import KE.DatumIndex
import PyProof.NeKinds
import HandS.Dict
set_option Elab.async false
set_option linter.all false
set_option maxRecDepth 100000
set_option maxHeartbeats 8000000
section
open PySem PySem.W PyProof.Rows
set_option maxRecDepth 100000
set_option maxHeartbeats 0
open_top k19_top for PySem.Challenge.rw_eachinturn_k19_watched_and_first_unlike
end
namespace J
section
open L2 PySem PySem.Spec PyProof.Rows
def rShow (K : PySem.W.Frag) : List V → Hp → VK → Prop := fun xs H Q => ∃ (x : V) (d : PyData), xs = [x] ∧ Dp K H x d ∧ d.showable = true ∧ d.hasDict = false ∧ d.depth ≤ 40 ∧ d.shown.length ≤ sizeLine ∧ (∃ a, x = .ref a) ∧ Q (.str d.shown) H
theorem call_show {X : Cx} (hg : X.A.guards = some []) (hu : X.A.units + 64 < cLine) : CallR X (.builtin "repr") (rShow X.K) := by
  intro pins s σ H xs us Q I r h
  obtain ⟨x, d, rfl, hd, hs, hn, h40, hl, ⟨a, rfl⟩, q⟩ := h
  match us, r with
  | [u], .cons ru .nil =>
    obtain ⟨as, rd⟩ := Dp.reads I d _ u hd ru
    obtain rfl : u = Value.ref a := ru
    exact repr_of_reads' rd hs (fun z => by rw [hn] at z; cases z) hg (by omega) (fun b o e => e) (fun h' t tk k => ⟨.str d.shown, H, I.kept k, ⟨t, rfl⟩, q⟩) hl
structure FnG (P : Program) (w : World) (K : PySem.W.Frag) (mg : Str → Option Value) (base : Heap) (k : Nat) (f : Addr) (fd : FuncData) (ps : List Str) (sp : Sp) : Prop where
  len : ∀ us H Q E, sp us H Q E → us.length = ps.length
  go : ∀ (A : Around) (fr : List Env) (s : Shared) (H : Hp) (ar : Args) (us : List Value) (vs : List V) (Q : VK) (E : XK), A.guards = some [] → Room k A → Env0 P w K mg base A fr s H → BindsTo s fd ar (ps.zip us) →
    Vals vs us → sp vs H Q E → codeAny (model P w) A (.call (.ref f) ar) (CR CX0 fr P w H s Q E) s
section
variable {base : Heap} {P : Program} {w : World} {K : PySem.W.Frag} {mg : Str → Option Value}
theorem okG {x qual : Str} {st : Stmt} {f : Addr} {fd : FuncData} {N ps : List Str} {k : Nat} {sp : Sp} (F : Fun K x qual st f fd) (S : FnScope N ps (defScope st)) (len : ∀ vs H Q E, sp vs H Q E → vs.length = ps.length)
    (bd : ∀ (cdv : Value) (A : Around) (fr : List Env) (s : Shared) (H : Hp) (vs : List V) (Q : VK) (E : XK), A.guards = some [] → Room k (A.deeper (envOfC qual (defScope st) s.heap.objs.size f cdv)) → sp vs H Q E →
      ∃ t, PSs (cxOf CX0 P w K mg base N qual (defScope st) f cdv A fr s H E).nox (defBody st) t ∧ t { nx := fun _ H' => Q .non H', rt := Q } (start N vs) H) :
    FnG P w K mg base (k + 1) f fd ps sp := by
  obtain ⟨oc, od, kV, doc, pm, an, cdv, ct, osl, rfl, lk, hcd⟩ := F.ex
  refine ⟨len, fun A fr s H ar us vs Q E hg hr e0 hb r hsp => ?_⟩
  have hlen := len _ _ _ _ hsp
  have kin : K.In s.heap := PySem.W.Frag.In.keeps e0.mod.kin (fun b o e => (e0.bs b o e).1)
  have nol : s.heap.NoLimit := Heap.NoLimit.keeps e0.mod.nolimit (fun b o e => (e0.bs b o e).1)
  obtain ⟨t, ht, hq⟩ := bd cdv A fr s H vs Q E hg (hr.deeper _) hsp
  have kd : ∀ z ∈ ps.zip us, (defScope st).names.lookup z.1 = some .local ∨ ((defScope st).names.lookup z.1 = some .cell ∧ ((cellsFrom (s.heap.objs.size + 1) (defScope st).names []).lookup z.1).isSome = true) := by
    rintro ⟨n, v⟩ hz
    cases S.par n (List.of_mem_zip hz).1 with
    | inl q => exact .inl q
    | inr q => exact .inr ⟨q, PySem.W.cellsFrom_some _ _ _ (.inl q)⟩
  refine codeAny_call_function hr.depth (kin _ _ lk) rfl S.co S.gen rfl (PySem.W.codeRec_of kin hcd) (hb _ _ _ _ (wpAny_newFunctionEnv_cells S.kind kd ?_))
  rintro env rfl s1 x
  refine ⟨nol.keeps x.toInCall.keep, codeAny_func (wpAny_mono (ht.nox.run [] s1 (start N vs) H _ (inv_start S hr.hd e0 hlen r x) hq) ?_ fun _ _ z => z)⟩
  rintro (_ | _ | _ | u) s' hs
  · obtain ⟨_, _, J, q⟩ := hs
    exact ⟨V.non, _, J.os, J.bare, J.base, J.hok, rfl, q⟩
  · obtain ⟨_, _, _, q⟩ := hs
    exact q.elim
  · obtain ⟨_, _, _, q⟩ := hs
    exact q.elim
  · obtain ⟨v, _, _, J, rv, q⟩ := hs
    exact ⟨v, _, J.os, J.bare, J.base, J.hok, rv, q⟩
end
section
variable {X : Cx} {k : Nat} {f : Addr} {fd : FuncData} {ps : List Str} {sp : Sp} {dvs : List V} {ds : List Value} {E : XK} {x : Str} {p pos : Pos} {e : Expr} {es : List Expr} {t : TA}
theorem go_fn {pins : List (Addr × Obj)} {σ : L2.St} {H : Hp} {s : Shared} {Q : VK} {us : List Value} {vs : List V} (F : FnG X.prog X.w X.K X.mg X.base k f fd ps sp) (gd : X.A.guards = some []) (hr : Room k X.A) (hb : Binds X.K fd ps ds) (hd : Vals dvs ds) (hx : Passes CX0 X E)
    (I : Inv X pins σ H s) (r : Vals vs us)
    (h : sp (vs ++ dvs) H Q E) : wpAny (model X.prog X.w) X.A (call (.ref f) us) (EP X pins σ Q) X.xe s := by
  have rr : Vals (vs ++ dvs) (us ++ ds) := r.append hd
  have ll : (us ++ ds).length = ps.length := rr.length.symm.trans (F.len _ _ _ _ h)
  have fin := F.go X.A X.stack s H ⟨us, []⟩ (us ++ ds) (vs ++ dvs) Q E gd hr I.env0 (hb s us I.kIn ll) rr h
  refine wpAny_call (codeAny_mono fin ?_)
  rintro (err | (_ | _ | _ | u)) s' hq
  · exact hx pins σ H s err s' I hq
  · exact hq.elim
  · exact hq.elim
  · exact hq.elim
  · exact I.after hq
theorem pe_callG (F : FnG X.prog X.w X.K X.mg X.base k f fd ps sp) (gd : X.A.guards = some []) (hr : Room k X.A) (hg : Gl X x) (hm : X.mg x = some (.ref f)) (hk : PySem.W.keepIn X.K (.ref f) = true) (hb : Binds X.K fd ps ds) (hd : Vals dvs ds) (hx : Passes CX0 X E)
    (ha : PA X (e :: es) t) (h1 : (x == ("__debug__" : Str)) = false := by decide) (h2 : starEach (e :: es) X.env = (false, eval e X.env) :: starEach es X.env := by rfl) (h3 : (backTo pos (starEach es X.env)).any (·.1) = false := by rfl) : PE X (.Call (.Name x p) (e :: es) [] pos) (tCall sp dvs E t) := by
  constructor
  intro pins s σ H Q I h
  refine wpAny_Call_Name_kw (ld_glob I hg hm (PySem.W.callWith_K (h₀ := X.base) I.ok.mod.kin hk (thn (ha.run pos pins s σ H _ I h) ?_) h2 h3) h1)
  rintro us s1 ⟨vs, H1, I1, r, q⟩
  exact ⟨I1.kIn, go_fn F gd hr hb hd hx I1 r q⟩
end
section
variable {P : Program} {w : World} {K : PySem.W.Frag} {mg mb : Str → Option Value} {k : Nat} {fa a : Addr} {fd : FuncData} {x : Str} {sp : Sp} {s₁ : Shared} {vs : List Value} {ns : List Int}
abbrev Told (s₁ : Shared) : Result → Shared → Prop := fun r s' => r = .ok (.ret (.bool true)) ∧ OldK s₁.heap s'.heap ∧ s'.os = s₁.os ∧ AllBare s'.gens
theorem run_core {H : Hp} (KX : K.In s₁.heap) (hns : s₁.heap.Ns mainGlobals mg) (hb : s₁.heap.Ns builtinsNs mb) (hbb : ∀ y : Str, y ≠ "__name__" → mb y = bootBuiltins y) (hlim : s₁.heap.NoLimit) (hg : s₁.gens = #[])
    (ha : s₁.heap.get? a = some { cls := .type "list", data := .seq vs.toArray }) (hr : Room k callerA)
    (F : ∀ bs : Heap, K.In bs → bs.Ns mainGlobals mg → FnG P w K mg bs k fa fd [x] sp) (hbind : ∀ (s : Shared) (u : Value), BindsTo s fd ⟨[u], []⟩ [(x, u)])
    (hO : Only H) (hsp : sp [.ref a] H (fun v _ => v = .bl true) fun _ _ _ => False) (hok : HOk P w H s₁.heap) (hA : ∀ b u, H b = some u → b = a) (hK : ∀ u, H a = some u → K.lookup a = none) :
    codeAny (model P w) callerA (.call (.ref fa) ⟨[.ref a], []⟩) (Told s₁) s₁ := by
  have away : ∀ {b : Addr} {o : Obj}, s₁.heap.get? b = some o → (∀ ws n, o.data ≠ .seq ws n) → H b = none := by
    intro b o e nd
    cases q : H b with
    | none => rfl
    | some u =>
      have eb := hA b u q
      rw [eb, ha] at e
      exact absurd (congrArg Obj.data (Option.some.inj e)).symm (nd _ _)
  have ns' : ∀ {b : Addr} {m : Str → Option Value}, s₁.heap.Ns b m → (hidT s₁.heap H).Ns b m := by
    rintro b m ⟨o, es, ep, e, dt, r⟩
    exact ⟨o, es, ep, hidT_get e (away e fun ws n z => by rw [dt] at z; cases z), dt, r⟩
  have kb : K.In (hidT s₁.heap H) := by
    intro b o e
    refine hidT_get (KX b o e) ?_
    cases q : H b with
    | none => rfl
    | some u =>
      have eb := hA b u q
      subst eb
      rw [hK u q] at e
      cases e
  have mo : Mod K mg (hidT s₁.heap H) := ⟨kb, ns' hns, ⟨mb, ns' hb, hbb⟩, by obtain ⟨mc, l1, l2⟩ := hlim; exact ⟨mc, ns' l1, l2⟩⟩
  have ev : Env0 P w K mg (hidT s₁.heap H) callerA [] s₁ H := ⟨rfl, mo, fun b o z => of_hidT z, Nat.le_of_eq (hidT_size _ _), trivial, by rintro b ⟨⟩, hok, .of_eq hg⟩
  have go := (F _ kb (ns' hns)).go callerA [] s₁ H ⟨[.ref a], []⟩ [.ref a] [.ref a] _ _ rfl hr ev (hbind s₁ (.ref a)) (.cons rfl .nil) hsp
  refine codeAny_mono go ?_
  rintro (err | (_ | _ | _ | u)) s' h
  · exact (show False by simpa [CR, CX0] using h).elim
  · exact h.elim
  · exact h.elim
  · exact h.elim
  · obtain ⟨v, H', os, bare, un, hok', r', q⟩ := h
    obtain rfl : v = .bl true := q
    obtain rfl : u = Value.bool true := r'
    refine ⟨rfl, OldK.of_keep ?_, os, bare⟩
    intro b o e
    rcases hO b with z | ⟨ob, xs, z⟩
    · exact un.keep b o e z (by rintro ⟨⟩) (by simp)
    · have f1 := (hok b _ z).1
      have f2 := (hok' b _ (un.frzs b ob _ z)).1
      rw [e] at f1
      cases f1
      exact f2
theorem law_callG (KX : K.In s₁.heap) (hns : s₁.heap.Ns mainGlobals mg) (hb : s₁.heap.Ns builtinsNs mb) (hbb : ∀ y : Str, y ≠ "__name__" → mb y = bootBuiltins y) (hlim : s₁.heap.NoLimit) (hg : s₁.gens = #[])
    (ha : s₁.heap.get? a = some { cls := .type "list", data := .seq vs.toArray })
    (hi : IntsAre vs ns) (hl : ns.length ≤ sizeLine) (hr : Room k callerA)
    (F : ∀ bs : Heap, K.In bs → bs.Ns mainGlobals mg → FnG P w K mg bs k fa fd [x] sp) (hbind : ∀ (s : Shared) (u : Value), BindsTo s fd ⟨[u], []⟩ [(x, u)])
    (hsp : ∀ H : Hp, Only H → SqL K H a (ns.map V.int) → sp [.ref a] H (fun v _ => v = .bl true) fun _ _ _ => False) :
    codeAny (model P w) callerA (.call (.ref fa) ⟨[.ref a], []⟩) (Told s₁) s₁ := by
  have rv := vals_ints hi
  have ln := hi.length
  by_cases hk : ∃ o, K.lookup a = some o
  · obtain ⟨o, hk⟩ := hk
    have e := KX a o hk
    rw [ha] at e
    cases e
    have hO : Only (fun _ => none) := fun _ => .inl rfl
    refine run_core (H := fun _ => none) KX hns hb hbb hlim hg ha hr F hbind hO (hsp _ hO (.inr ⟨_, vs.toArray, _, hk, rfl, rfl, rfl, ?_, by simpa using rv⟩)) ?_ ?_ ?_
    · rw [List.size_toArray, ln]
      exact hl
    · intro b u z
      cases z
    · intro b u z
      cases z
    · intro u z
      cases z
  · have hk0 : K.lookup a = none := by
      cases q : K.lookup a with
      | none => rfl
      | some o => exact absurd ⟨o, q⟩ hk
    let fz : HO := .frz { cls := .type "list", data := .seq vs.toArray } (.lst (ns.map V.int))
    let H : Hp := upd (fun _ => none) a fz
    have hO : Only H := by
      intro b
      by_cases e : b = a
      · subst e
        exact .inr ⟨_, _, upd_same⟩
      · exact .inl (upd_ne e)
    have one : ∀ b u, H b = some u → b = a := by
      intro b u z
      by_cases e : b = a
      · exact e
      · rw [show H b = none from upd_ne e] at z
        cases z
    refine run_core (H := H) KX hns hb hbb hlim hg ha hr F hbind hO (hsp _ hO (.inl (.inr ⟨_, upd_same⟩))) ?_ one fun _ _ => hk0
    intro b u z
    have eb := one b u z
    subst eb
    rw [show H b = some fz from upd_same] at z
    cases z
    refine ⟨ha, ?_, vs, _, rv, ha⟩
    rw [List.length_map]
    exact hl
end
theorem walk_ofG {l : PySem.W.OpenLaw} {n k : Nat} {q : Program} {loose : List Str} {XP : (Str → Option Value) → Heap → Prop} {YP : World → Heap → Prop} {d : DefRec} {K : Params → PySem.W.Frag} {sp : PySem.W.Frag → Sp} {x : Str}
    (hn : l.most = some n) (hn2 : n ≤ sizeLine)
    (hdf : d.params.defaults = []) (hr : Room k callerA) (hY : ∀ (w : World) (h : Heap), YP w h → (K w.params).In h)
    (F : ∀ (w : World) (mg : Str → Option Value) (fa : Addr) (h : Heap), (K w.params).In h → h.Ns mainGlobals mg →
      mg d.name = some (.ref fa) → ∃ fd : FuncData, (∀ (s : Shared) (u : Value), BindsTo s fd ⟨[u], []⟩ [(x, u)]) ∧ ∀ bs : Heap, (K w.params).In bs → bs.Ns mainGlobals mg → FnG l.prog w (K w.params) mg bs k fa fd [x] (sp (K w.params)))
    (hsp : ∀ (K : PySem.W.Frag) (H : Hp) (a : Addr) (ns : List Int), ns.length ≤ n → Only H → SqL K H a (ns.map V.int) → sp K [.ref a] H (fun v _ => v = .bl true) fun _ _ _ => False) :
    PySem.W.WalkO q loose XP YP l.row.toRowW d []
      (fun f vs => PySem.call f vs) := by
  refine Att.attach_call hn hdf fun w s0 s1 mg mb fa o pm cd doc a vs ns G Y ho hd hcd hmg hobj hints hlen hg => ?_
  have kk := hY w _ Y
  obtain ⟨fd, h1, h2⟩ := F w mg fa _ kk G.T.g hmg
  exact law_callG kk G.T.g G.T.b G.T.builtins G.T.nolimit hg hobj hints (Nat.le_trans hlen hn2) hr h2 h1 fun H hO hS => hsp _ H a ns hlen hO hS
end
section
open L2 PySem PySem.Spec PyProof.Rows
structure Bn (mg : Str → Option Value) : Prop where
  int_ : mg "int" = none
  str_ : mg "str" = none
  tuple_ : mg "tuple" = none
  list_ : mg "list" = none
  bool_ : mg "bool" = none
  len_ : mg "len" = none
  isinstance_ : mg "isinstance" = none
  all_ : mg "all" = none
  any_ : mg "any" = none
  max_ : mg "max" = none
  min_ : mg "min" = none
  sum_ : mg "sum" = none
  sorted_ : mg "sorted" = none
  repr_ : mg "repr" = none
  range_ : mg "range" = none
  enumerate_ : mg "enumerate" = none
  zip_ : mg "zip" = none
  set_ : mg "set" = none
structure Cl (P : Program) (w : World) (K : PySem.W.Frag) (mg : Str → Option Value) (base : Heap) (k : Nat) (x : Str) (ps : List Str) (sp : Sp) : Prop where
  ex : ∃ (f : Addr) (fd : FuncData), FnOk P w K mg base CX0 k f fd ps sp ∧ mg x = some (.ref f) ∧ PySem.W.keepIn K (.ref f) = true ∧ Binds K fd ps []
structure ClG (P : Program) (w : World) (K : PySem.W.Frag) (mg : Str → Option Value) (base : Heap) (k : Nat) (x : Str) (ps : List Str) (sp : Sp) : Prop where
  ex : ∃ (f : Addr) (fd : FuncData), FnG P w K mg base k f fd ps sp ∧ mg x = some (.ref f) ∧ PySem.W.keepIn K (.ref f) = true ∧ Binds K fd ps []
section
variable {X : Cx} {k k' : Nat} {ps : List Str} {sp : Sp} {E : XK} {x : Str} {p pos : Pos} {e : Expr} {es : List Expr} {t : TA}
theorem pe_c (C : Cl X.prog X.w X.K X.mg X.base k x ps sp) (hr : Room k' X.A) (ha : PA X (e :: es) t) (hg : Gl X x := by rfl) (hk : k ≤ k' := by decide) (h1 : (x == ("__debug__" : Str)) = false := by decide)
    (h2 : starEach (e :: es) X.env = (false, eval e X.env) :: starEach es X.env := by rfl) (h3 : (backTo pos (starEach es X.env)).any (·.1) = false := by rfl) :
    PE X (.Call (.Name x p) (e :: es) [] pos) (tCall sp [] (fun _ _ _ => False) t) := by
  obtain ⟨f, fd, F, hm, kp, b⟩ := C.ex
  exact pe_call F (hr.mono hk) hg hm kp b .nil pass0 ha h1 h2 h3
theorem pe_cG (C : ClG X.prog X.w X.K X.mg X.base k x ps sp) (gd : X.A.guards = some []) (hr : Room k' X.A) (ha : PA X (e :: es) t) (hg : Gl X x := by rfl) (hk : k ≤ k' := by decide) (h1 : (x == ("__debug__" : Str)) = false := by decide)
    (h2 : starEach (e :: es) X.env = (false, eval e X.env) :: starEach es X.env := by rfl) (h3 : (backTo pos (starEach es X.env)).any (·.1) = false := by rfl) :
    PE X (.Call (.Name x p) (e :: es) [] pos) (tCall sp [] (fun _ _ _ => False) t) := by
  obtain ⟨f, fd, F, hm, kp, b⟩ := C.ex
  exact pe_callG F gd (hr.mono hk) hg hm kp b .nil pass0 ha h1 h2 h3
end
structure Dn (K : PySem.W.Frag) (mg : Str → Option Value) (x : String) (st : Stmt) (ps : List Str) : Prop where
  ex : ∃ (f : Addr) (fd : FuncData), Fun K x x st f fd ∧ mg x = some (.ref f) ∧ Binds K fd ps []
section
variable {base : Heap} {P : Program} {w : World} {K : PySem.W.Frag} {mg : Str → Option Value}
theorem Dn.cl {x : String} {st : Stmt} {N ps : List Str} {k : Nat} {sp : Sp} (D : Dn K mg x st ps) (S : FnScope N ps (defScope st)) (len : ∀ vs H Q E, sp vs H Q E → vs.length = ps.length)
    (bd : ∀ (f : Addr) (cdv : Value) (A : Around) (fr : List Env) (s : Shared) (H : Hp) (vs : List V) (Q : VK) (E : XK), Room k (A.deeper (envOfC x (defScope st) s.heap.objs.size f cdv)) → sp vs H Q E →
      ∃ t, PSs (cxOf CX0 P w K mg base N x (defScope st) f cdv A fr s H E).nox (defBody st) t ∧ t { nx := fun _ H' => Q .non H', rt := Q } (start N vs) H) : Cl P w K mg base (k + 1) x ps sp := by
  obtain ⟨f, fd, F, hm, b⟩ := D.ex
  exact ⟨f, fd, F.ok S len (bd f), hm, F.kp, b⟩
theorem Dn.clG {x : String} {st : Stmt} {N ps : List Str} {k : Nat} {sp : Sp} (D : Dn K mg x st ps) (S : FnScope N ps (defScope st)) (len : ∀ vs H Q E, sp vs H Q E → vs.length = ps.length)
    (bd : ∀ (f : Addr) (cdv : Value) (A : Around) (fr : List Env) (s : Shared) (H : Hp) (vs : List V) (Q : VK) (E : XK), A.guards = some [] → Room k (A.deeper (envOfC x (defScope st) s.heap.objs.size f cdv)) → sp vs H Q E →
      ∃ t, PSs (cxOf CX0 P w K mg base N x (defScope st) f cdv A fr s H E).nox (defBody st) t ∧ t { nx := fun _ H' => Q .non H', rt := Q } (start N vs) H) : ClG P w K mg base (k + 1) x ps sp := by
  obtain ⟨f, fd, F, hm, b⟩ := D.ex
  exact ⟨f, fd, okG F S len (bd f), hm, F.kp, b⟩
end
end
section
open L2 PySem PySem.Spec PyProof.Rows
section
variable {X : Cx}
def rInt : List V → Hp → VK → Prop := fun xs H Q => (∃ i, xs = [.int i] ∧ Q (.int i) H) ∨ ∃ k, xs = [.bl k] ∧ Q (.int (if k then 1 else 0)) H
theorem j_int : CallR X (.type "int") rInt := call_int1
def rTupleOf (K : PySem.W.Frag) : List V → Hp → VK → Prop := fun xs H Q => ∃ p ys, xs = [.ref p] ∧ ((SqL K H p ys ∧ ∀ l, H l = none → Q (.ref l) (upd H l (.tup ys))) ∨ (SqT K H p ys ∧ Q (.ref p) H))
theorem j_tuple (h : CallR X (.type "tuple") (rTupleOf X.K) := by exact call_tuple_of) : CallR X (.type "tuple") (rTupleOf X.K) := h
def rListOf (K : PySem.W.Frag) : List V → Hp → VK → Prop := fun xs H Q => ∃ p ys, xs = [.ref p] ∧ (SqL K H p ys ∨ SqT K H p ys) ∧ ∀ l, H l = none → Q (.ref l) (upd H l (.lst ys))
theorem j_list (h : CallR X (.type "list") (rListOf X.K) := by exact call_list_of) : CallR X (.type "list") (rListOf X.K) := h
def rLenQ (K : PySem.W.Frag) : List V → Hp → VK → Prop := fun xs H Q => ∃ p ys, xs = [.ref p] ∧ (SqL K H p ys ∨ SqT K H p ys) ∧ Q (.int (ys.length : Nat)) H
theorem j_len (h : CallR X (.builtin "len") (rLenQ X.K) := by exact call_len_seq) : CallR X (.builtin "len") (rLenQ X.K) := h
def rMax : List V → Hp → VK → Prop := fun xs H Q => ∃ i j : Int, xs = [.int i, .int j] ∧ Q (.int (if j > i then j else i)) H
theorem j_max (hc : X.calm = true) : CallR X (.builtin "max") rMax := call_max2 hc
def rMin : List V → Hp → VK → Prop := fun xs H Q => ∃ i j : Int, xs = [.int i, .int j] ∧ Q (.int (if j < i then j else i)) H
theorem j_min (hc : X.calm = true) : CallR X (.builtin "min") rMin := call_min2 hc
def rAddS : R2 := fun x y H Q => ∃ i j : Str, x = .str i ∧ y = .str j ∧ i.length + j.length ≤ sizeLine ∧ Q (.str (i ++ j)) H
theorem o_addS : OpR X (binaryOp .Add) rAddS := op_add_str
end
section
variable {σ : L2.St} {H : Hp} {D : Ends} {Q : VK} {QB : Bool → Hp → Prop} {K : PySem.W.Frag}
theorem i_seq {t u : TS} {n : L2.St → Hp → Prop} {r : VK} {b c : L2.St → Hp → Prop} (h : t ⟨u ⟨n, r, b, c⟩, r, b, c⟩ σ H) : tSeq t u ⟨n, r, b, c⟩ σ H := h
theorem i_next {n : L2.St → Hp → Prop} {r : VK} {b c : L2.St → Hp → Prop} (h : n σ H) : tNext ⟨n, r, b, c⟩ σ H := h
theorem i_asg {te : TE} {g : TG} {n : L2.St → Hp → Prop} {r : VK} {b c : L2.St → Hp → Prop} (h : te σ H fun x H1 => g x σ H1 n) : tAsg te g ⟨n, r, b, c⟩ σ H := h
theorem i_gname {i : Nat} {v : V} {q : L2.St → Hp → Prop} (h : q (σ.set i (some v)) H) : gName i v σ H q := h
theorem i_ret {te : TE} {n : L2.St → Hp → Prop} {r : VK} {b c : L2.St → Hp → Prop} (h : te σ H r) : tRet te ⟨n, r, b, c⟩ σ H := h
theorem i_drop {te : TE} {n : L2.St → Hp → Prop} {r : VK} {b c : L2.St → Hp → Prop} (h : te σ H fun _ H1 => n σ H1) : tDrop te ⟨n, r, b, c⟩ σ H := h
theorem i_ifS {k : TT} {t u : TS} {n : L2.St → Hp → Prop} {r : VK} {b c : L2.St → Hp → Prop} (h : k σ H fun d H1 => if d = true then t ⟨n, r, b, c⟩ σ H1 else u ⟨n, r, b, c⟩ σ H1) : tIfS k t u ⟨n, r, b, c⟩ σ H := h
theorem i_test {t : TE} (h : t σ H fun x H' => ∃ k, x = .bl k ∧ QB k H') : tTest t σ H QB := h
theorem i_tB {t : TE} (h : t σ H fun x H' => ∃ k, x = .bl k ∧ QB k H') : tB t σ H QB := h
theorem i_bl {b : Bool} (h : QB b H) : ∃ k, V.bl b = .bl k ∧ QB k H := ⟨b, rfl, h⟩
theorem i_not {t : TT} (h : t σ H fun c H1 => QB (!c) H1) : tNot t σ H QB := h
theorem i_and {t u : TT} (h : t σ H fun c H1 => if c = true then u σ H1 QB else QB false H1) : tAnd t u σ H QB := h
theorem i_or {t u : TT} (h : t σ H fun c H1 => if c = true then QB true H1 else u σ H1 QB) : tOr t u σ H QB := h
theorem i_notV {t : TE} (h : t σ H fun x H1 => ∃ c, x = .bl c ∧ Q (.bl (!c)) H1) : tNotV t σ H Q := h
theorem i_andV {t u : TE} (h : t σ H fun x H1 => ∃ c, x = .bl c ∧ if c = true then u σ H1 Q else Q (.bl false) H1) : tAndV t u σ H Q := h
theorem i_orV {t u : TE} (h : t σ H fun x H1 => ∃ c, x = .bl c ∧ if c = true then Q (.bl true) H1 else u σ H1 Q) : tOrV t u σ H Q := h
theorem i_blQ {b : Bool} {P : Bool → Prop} (h : P b) : ∃ k, V.bl b = .bl k ∧ P k := ⟨b, rfl, h⟩
theorem i_if {t : TT} {a b : TE} (h : t σ H fun c H1 => if c = true then a σ H1 Q else b σ H1 Q) : tIf t a b σ H Q := h
theorem i_op {r : R2} {a b : TE} (h : a σ H fun x H1 => b σ H1 fun y H2 => r x y H2 Q) : tOp r a b σ H Q := h
theorem i_un {r : V → Hp → VK → Prop} {a : TE} (h : a σ H fun x H1 => r x H1 Q) : tUn r a σ H Q := h
theorem i_chain {r r' : R2} {a b c : TE} (h : a σ H fun x H1 => b σ H1 fun y H2 => r x y H2 fun z H3 => ∃ k, z = .bl k ∧ if k = true then c σ H3 fun w' H4 => r' y w' H4 Q else Q (.bl false) H3) : tChain r r' a b c σ H Q := h
theorem i_var {i : Nat} {v : V} (e : σ[i]? = some (some v)) (h : Q v H) : tVar i σ H Q := ⟨v, e, h⟩
theorem i_c {v : V} (h : Q v H) : tC v σ H Q := h
theorem i_rI0 {g : Int → Int → V} {i j : Int} (h : Q (g i j) H) : rI0 g (.int i) (.int j) H Q := ⟨i, j, rfl, rfl, h⟩
theorem i_rI {C : Int → Int → Prop} {g : Int → Int → V} {i j : Int} (c : C i j) (h : Q (g i j) H) : rI C g (.int i) (.int j) H Q := ⟨i, j, rfl, rfl, c, h⟩
theorem i_rU {g : Int → V} {i : Int} (h : Q (g i) H) : rU g (.int i) H Q := ⟨i, rfl, h⟩
theorem i_eqI {i j : Int} (h : Q (.bl (decide (i = j))) H) : rEq (.int i) (.int j) H Q := ⟨rfl, by
  have e : decide (V.int i = V.int j) = decide (i = j) := by
    by_cases z : i = j
    · subst z
      simp
    · rw [decide_eq_false z, decide_eq_false (fun k => z (V.int.inj k))]
  rw [e]
  exact h⟩
theorem i_neI {i j : Int} (h : Q (.bl (decide (i ≠ j))) H) : rNe (.int i) (.int j) H Q := ⟨rfl, by
  have e : (!decide (V.int i = V.int j)) = decide (i ≠ j) := by
    by_cases z : i = j
    · subst z
      simp
    · rw [decide_eq_true z, decide_eq_false (fun k => z (V.int.inj k))]
      rfl
  rw [e]
  exact h⟩
theorem i_eqS {i j : Str} (h : Q (.bl (decide (i = j))) H) : rEq (.str i) (.str j) H Q := ⟨rfl, by
  have e : decide (V.str i = V.str j) = decide (i = j) := by
    by_cases z : i = j
    · subst z
      simp
    · rw [decide_eq_false z, decide_eq_false (fun k => z (V.str.inj k))]
  rw [e]
  exact h⟩
theorem i_neS {i j : Str} (h : Q (.bl (decide (i ≠ j))) H) : rNe (.str i) (.str j) H Q := ⟨rfl, by
  have e : (!decide (V.str i = V.str j)) = decide (i ≠ j) := by
    by_cases z : i = j
    · subst z
      simp
    · rw [decide_eq_true z, decide_eq_false (fun k => z (V.str.inj k))]
      rfl
  rw [e]
  exact h⟩
theorem i_ixL {p : Addr} {xs : List V} {i : Int} {v : V} (e : SqL K H p xs) (z : atI xs i = some v) (h : Q v H) : rIxL K (.ref p) (.int i) H Q := ⟨p, xs, i, v, rfl, rfl, e, z, h⟩
theorem i_ixT {p : Addr} {xs : List V} {i : Int} {v : V} (e : SqT K H p xs) (z : atI xs i = some v) (h : Q v H) : rIxT K (.ref p) (.int i) H Q := ⟨p, xs, i, v, rfl, rfl, e, z, h⟩
theorem i_setL {p : Addr} {xs : List V} {i : Int} {v : V} {j : Nat} {q : Hp → Prop} (e : H p = some (.lst xs)) (z : ixN xs.length i = some j) (h : q (upd H p (.lst (xs.set j v)))) : rSetL (.ref p) (.int i) v H q := ⟨p, xs, i, j, rfl, rfl, e, z, h⟩
theorem i_gsub {to ti : TE} {t : TSet} {v : V} {q : L2.St → Hp → Prop} (h : to σ H fun o H1 => ti σ H1 fun i H2 => t o i v H2 fun H3 => q σ H3) : gSub to ti t v σ H q := h
theorem i_cons {a : TE} {r : TA} {q : List V → Hp → Prop} (h : a σ H fun x H1 => r σ H1 fun xs H2 => q (x :: xs) H2) : tCons a r σ H q := h
theorem i_nil {q : List V → Hp → Prop} (h : q [] H) : tNil σ H q := h
theorem i_cb {r : List V → Hp → VK → Prop} {t : TA} (h : t σ H fun vs H1 => r vs H1 Q) : tCB r t σ H Q := h
theorem i_call {sp : Sp} {E : XK} {t : TA} (h : t σ H fun vs H1 => sp (vs ++ []) H1 Q E) : tCall sp [] E t σ H Q := h
theorem i_tup {t : TA} (h : t σ H fun xs H1 => xs.length ≤ sizeLine ∧ ∀ p, H1 p = none → Q (.ref p) (upd H1 p (.tup xs))) : tTup t σ H Q := h
theorem i_lst {t : TA} (h : t σ H fun xs H1 => xs.length ≤ sizeLine ∧ ∀ p, H1 p = none → Q (.ref p) (upd H1 p (.lst xs))) : tLst t σ H Q := h
theorem i_par {i j : Nat} {ta : TA} {n : L2.St → Hp → Prop} {r : VK} {b c : L2.St → Hp → Prop} (h : ta σ H fun vs H1 => ∃ v w, vs = [v, w] ∧ n ((σ.set i (some v)).set j (some w)) H1) : tPar i j ta ⟨n, r, b, c⟩ σ H := h
theorem i_par3 {i j l : Nat} {ta : TA} {n : L2.St → Hp → Prop} {r : VK} {b c : L2.St → Hp → Prop} (h : ta σ H fun vs H1 => ∃ u v w, vs = [u, v, w] ∧ n (((σ.set i (some u)).set j (some v)).set l (some w)) H1) : tPar3 i j l ta ⟨n, r, b, c⟩ σ H := h
theorem i_par' {v w : V} {P : V → V → Prop} (h : P v w) : ∃ a b, [v, w] = [a, b] ∧ P a b := ⟨v, w, rfl, h⟩
theorem i_int {i : Int} (h : Q (.int i) H) : rInt [.int i] H Q := .inl ⟨i, rfl, h⟩
theorem i_intB {b : Bool} (h : Q (.int (if b then 1 else 0)) H) : rInt [.bl b] H Q := .inr ⟨b, rfl, h⟩
theorem i_tupL {p : Addr} {ys : List V} (e : SqL K H p ys) (h : ∀ l, H l = none → Q (.ref l) (upd H l (.tup ys))) : rTupleOf K [.ref p] H Q := ⟨p, ys, rfl, .inl ⟨e, h⟩⟩
theorem i_lstT {p : Addr} {ys : List V} (e : SqT K H p ys) (h : ∀ l, H l = none → Q (.ref l) (upd H l (.lst ys))) : rListOf K [.ref p] H Q := ⟨p, ys, rfl, .inr e, h⟩
theorem i_lenL {p : Addr} {ys : List V} (e : SqL K H p ys) (h : Q (.int (ys.length : Nat)) H) : rLenQ K [.ref p] H Q := ⟨p, ys, rfl, .inl e, h⟩
theorem i_lenT {p : Addr} {ys : List V} (e : SqT K H p ys) (h : Q (.int (ys.length : Nat)) H) : rLenQ K [.ref p] H Q := ⟨p, ys, rfl, .inr e, h⟩
theorem i_all {p : Addr} {bs : List Bool} (e : SqL K H p (bs.map V.bl)) (h : Q (.bl (bs.all id)) H) : rAll K [.ref p] H Q := ⟨p, bs, rfl, e, h⟩
theorem i_max {i j : Int} (h : Q (.int (max i j)) H) : rMax [.int i, .int j] H Q := ⟨i, j, rfl, by
  have e : (if j > i then j else i) = max i j := by
    split <;> omega
  rw [e]
  exact h⟩
theorem i_min {i j : Int} (h : Q (.int (min i j)) H) : rMin [.int i, .int j] H Q := ⟨i, j, rfl, by
  have e : (if j < i then j else i) = min i j := by
    split <;> omega
  rw [e]
  exact h⟩
theorem i_addS {i j : Str} (c : i.length + j.length ≤ sizeLine) (h : Q (.str (i ++ j)) H) : rAddS (.str i) (.str j) H Q := ⟨i, j, rfl, rfl, c, h⟩
theorem i_ite {c : Prop} [Decidable c] {A B : Prop} (h1 : c → A) (h2 : ¬ c → B) : if decide c = true then A else B := by
  by_cases z : c
  · rw [decide_eq_true z, if_pos rfl]
    exact h1 z
  · rw [decide_eq_false z, if_neg Bool.false_ne_true]
    exact h2 z
theorem i_iteN {c : Prop} [Decidable c] {A B : Prop} (h1 : ¬ c → A) (h2 : c → B) : if (!decide c) = true then A else B := by
  by_cases z : c
  · rw [decide_eq_true z, if_neg (by decide)]
    exact h2 z
  · rw [decide_eq_false z, if_pos (by decide)]
    exact h1 z
theorem i_iteT {A B : Prop} (h : A) : if true = true then A else B := by rw [if_pos rfl]; exact h
theorem i_iteF {A B : Prop} (h : B) : if false = true then A else B := by rw [if_neg Bool.false_ne_true]; exact h
theorem sq_lst {p : Addr} {xs : List V} (e : H p = some (.lst xs)) : SqL K H p xs := .inl (.inl e)
theorem sq_tup {p : Addr} {xs : List V} (e : H p = some (.tup xs)) : SqT K H p xs := .inl (.inl e)
theorem at0 {α : Type} {x : α} {xs : List α} : atI (x :: xs) 0 = some x := atI_nat (j := 0) rfl
theorem at1 {α : Type} {x y : α} {xs : List α} : atI (x :: y :: xs) 1 = some y := atI_nat (j := 1) rfl
theorem at2 {α : Type} {x y z : α} {xs : List α} : atI (x :: y :: z :: xs) 2 = some z := atI_nat (j := 2) rfl
theorem ix_nat {n k : Nat} (h : k < n) : ixN n (k : Int) = some k := by
  unfold ixN
  rw [if_pos (by omega), if_pos (by omega)]
  simp
end
end
section
open L2 PySem PySem.Spec PyProof.Rows
section
variable {σ : L2.St} {H : Hp} {D : Ends} {Q : VK} {K : PySem.W.Frag}
theorem i_sl {r : V → Option Int → Option Int → Hp → VK → Prop} {te : TE} {tl th : TO} (h : te σ H fun x H1 => tl σ H1 fun l H2 => th σ H2 fun u H3 => r x l u H3 Q) : tSl r te tl th σ H Q := h
theorem i_npart {q : Option Int → Hp → Prop} (h : q none H) : tNoPart σ H q := h
def partK (q : Option Int → Hp → Prop) : VK := fun x H1 => ∃ i, x = .int i ∧ q (some i) H1
theorem i_part {te : TE} {q : Option Int → Hp → Prop} (h : te σ H (partK q)) : tPart te σ H q := h
theorem i_partI {i : Int} {q : Option Int → Hp → Prop} (h : q (some i) H) : partK q (.int i) H := ⟨i, rfl, h⟩
theorem i_slL {p : Addr} {xs : List V} {lo hi : Option Int} (e : SqL K H p xs) (h : ∀ l, H l = none → Q (.ref l) (upd H l (.lst (cutV xs lo hi)))) : rSlL K (.ref p) lo hi H Q := ⟨p, xs, rfl, e, h⟩
theorem i_slS {z : Str} {lo hi : Option Int} (e : z.length ≤ sizeLine) (h : Q (.str (cutS z lo hi)) H) : rSlS (.str z) lo hi H Q := ⟨z, rfl, e, h⟩
theorem i_bm {T : String} {r : V → List V → Hp → VK → Prop} {to : TE} {t : TA} (h : to σ H fun x H1 => tyV K T x H1 ∧ t σ H1 fun xs H2 => r x xs H2 Q) : tBM K T r to t σ H Q := h
theorem i_tyL {p : Addr} {xs : List V} {A : Prop} (e : SqL K H p xs) (h : A) : tyV K "list" (.ref p) H ∧ A := ⟨.inl ⟨rfl, xs, e⟩, h⟩
theorem i_app {p : Addr} {xs : List V} {y : V} (e : H p = some (.lst xs)) (z : xs.length < sizeLine) (h : Q .non (upd H p (.lst (xs ++ [y])))) : rAppend (.ref p) [y] H Q := ⟨p, xs, y, rfl, rfl, e, z, h⟩
theorem i_popAt {p : Addr} {xs : List V} {k : Nat} {y : V} (e : H p = some (.lst xs)) (b : k < 2 ^ 60) (z : xs[k]? = some y) (h : Q y (upd H p (.lst (xs.eraseIdx k)))) : rPopAt (.ref p) [.int (k : Int)] H Q :=
  ⟨p, xs, k, k, y, rfl, rfl, e, by omega, by omega, by
    have hk := (List.getElem?_eq_some_iff.mp z).1
    exact (ixN_seq (ix_nat hk)).1, z, h⟩
theorem i_ext {p q : Addr} {xs zs : List V} (e : H p = some (.lst xs)) (e2 : H q = some (.lst zs)) (z : xs.length + zs.length ≤ sizeLine) (h : Q .non (upd H p (.lst (xs ++ zs)))) : rExtend (.ref p) [.ref q] H Q := ⟨p, q, xs, zs, rfl, rfl, e, e2, z, h⟩
theorem i_gtup {n : Nat} {t : TGs} {p : Addr} {xs : List V} {q : L2.St → Hp → Prop} (e : SqT K H p xs) (z : xs.length = n) (h : t xs σ H q) : gTup K n t (.ref p) σ H q := ⟨p, xs, rfl, e, z, h⟩
theorem i_gcons {t : TG} {u : TGs} {v : V} {r : List V} {q : L2.St → Hp → Prop} (h : t v σ H fun σ' H' => u r σ' H' q) : gCons t u (v :: r) σ H q := ⟨v, r, rfl, h⟩
theorem i_gnil {q : L2.St → Hp → Prop} (h : q σ H) : gNil [] σ H q := ⟨rfl, h⟩
theorem i_sum {p : Addr} {ns : List Int} (e : SqL K H p (ns.map V.int)) (h : Q (.int ns.sum) H) : rSum K [.ref p] H Q := ⟨p, ns, rfl, e, h⟩
def rIxA (K : PySem.W.Frag) : R2 := fun x y H Q => rIxL K x y H Q ∨ rIxT K x y H Q
theorem ix_any {X : Cx} : IxR X (rIxA X.K) := by
  intro e1 e2 ps st sl hp x y v u Q I r1 r2 h hs
  rcases h with h | h
  · exact ix_list e1 e2 ps st sl hp x y v u Q I r1 r2 h hs
  · exact ix_tup e1 e2 ps st sl hp x y v u Q I r1 r2 h hs
def SqA (K : PySem.W.Frag) (H : Hp) (p : Addr) (xs : List V) : Prop := SqL K H p xs ∨ SqT K H p xs
theorem i_ixA {p : Addr} {xs : List V} {i : Int} {v : V} (e : SqA K H p xs) (z : atI xs i = some v) (h : Q v H) : rIxA K (.ref p) (.int i) H Q := by
  rcases e with e | e
  · exact .inl (i_ixL e z h)
  · exact .inr (i_ixT e z h)
theorem i_lenA {p : Addr} {ys : List V} (e : SqA K H p ys) (h : Q (.int (ys.length : Nat)) H) : rLenQ K [.ref p] H Q := ⟨p, ys, rfl, e, h⟩
theorem i_lstA {p : Addr} {ys : List V} (e : SqA K H p ys) (h : ∀ l, H l = none → Q (.ref l) (upd H l (.lst ys))) : rListOf K [.ref p] H Q := ⟨p, ys, rfl, e, h⟩
theorem perm_erase {α : Type} : ∀ (l : List α) (k : Nat) (h : k < l.length), (l[k] :: l.eraseIdx k).Perm l
  | [], _, h => absurd h (Nat.not_lt_zero _)
  | x :: r, 0, _ => List.Perm.refl _
  | x :: r, k + 1, h => by
    have hk : k < r.length := Nat.lt_of_succ_lt_succ h
    have ih := perm_erase r k hk
    show (r[k] :: x :: r.eraseIdx k).Perm (x :: r)
    exact (List.Perm.swap x r[k] _).trans (ih.cons x)
def forK (g : TG) (tb : TS) (D : Ends) (σ : L2.St) : It → Hp → Prop := fun J h => tFor (fun _ h' R => R J h') g tb D σ h
theorem i_for {wi : TI} {g : TG} {tb : TS} (h : wi σ H (forK g tb D σ)) : tFor wi g tb D σ H := h
def lcK (g : TG) (tt : TT) (te : TE) (vs : List Nat) (σ : L2.St) (Q : VK) : It → Hp → Prop := fun J h => tLc (fun _ h' R => R J h') g tt te vs σ h Q
theorem i_lc {wi : TI} {g : TG} {tt : TT} {te : TE} {vs : List Nat} (h : wi σ H (lcK g tt te vs σ Q)) : tLc wi g tt te vs σ H Q := h
section
variable {R : It → Hp → Prop}
def rgK (R : It → Hp → Prop) : List V → Hp → Prop := fun vs H => ∃ j : Int, vs = [.int j] ∧ -(2 ^ 62) ≤ j ∧ j < 2 ^ 62 ∧ R (Itr 0 j.toNat) H
def rgK2 (R : It → Hp → Prop) : List V → Hp → Prop := fun vs H => ∃ i j : Int, vs = [.int i, .int j] ∧ (-(2 ^ 62) ≤ i ∧ i < 2 ^ 62 ∧ -(2 ^ 62) ≤ j ∧ j < 2 ^ 62) ∧ R (Itr i (j - i).toNat) H
theorem i_rng1 {ta : TA} (h : ta σ H (rgK R)) : iRng1 ta σ H R := h
theorem i_rng2 {ta : TA} (h : ta σ H (rgK2 R)) : iRng2 ta σ H R := h
theorem i_rgK {j : Int} (b : -(2 ^ 62) ≤ j ∧ j < 2 ^ 62) (h : R (Itr 0 j.toNat) H) : rgK R [.int j] H := ⟨j, rfl, b.1, b.2, h⟩
theorem i_rgK2 {i j : Int} (b : -(2 ^ 62) ≤ i ∧ i < 2 ^ 62 ∧ -(2 ^ 62) ≤ j ∧ j < 2 ^ 62) (h : R (Itr i (j - i).toNat) H) : rgK2 R [.int i, .int j] H := ⟨i, j, rfl, b, h⟩
def ilK (K : PySem.W.Frag) (R : It → Hp → Prop) : V → Hp → Prop := fun x H1 => ∃ a, x = .ref a ∧ (∃ xs, SqL K H1 a xs) ∧ R (Itl K a) H1
def itK (K : PySem.W.Frag) (R : It → Hp → Prop) : V → Hp → Prop := fun x H1 => ∃ a, x = .ref a ∧ (∃ xs, SqT K H1 a xs) ∧ R (Itt K a) H1
theorem i_ilist {t : TE} (h : t σ H (ilK K R)) : iList K t σ H R := h
theorem i_itup {t : TE} (h : t σ H (itK K R)) : iTup K t σ H R := h
theorem i_ilK {p : Addr} {xs : List V} (e : SqL K H p xs) (h : R (Itl K p) H) : ilK K R (.ref p) H := ⟨p, rfl, ⟨xs, e⟩, h⟩
theorem i_itK {p : Addr} {xs : List V} (e : SqT K H p xs) (h : R (Itt K p) H) : itK K R (.ref p) H := ⟨p, rfl, ⟨xs, e⟩, h⟩
end
section
variable {g : TG} {tb : TS} {a : Addr} {xs : List V}
variable {n : L2.St → Hp → Prop} {r : VK} {b c : L2.St → Hp → Prop}
theorem f_list (xs : List V) (Pv : Nat → L2.St → Hp → Prop) (h0 : Pv 0 σ H) (hl : ∀ i σ H, i ≤ xs.length → Pv i σ H → SqL K H a xs)
    (hs : ∀ i x σ H, xs[i]? = some x → Pv i σ H → g x σ H fun σ2 H2 => tb ⟨Pv (i + 1), r, n, Pv (i + 1)⟩ σ2 H2) (hd : ∀ σ H, Pv xs.length σ H → n σ H) : forK g tb ⟨n, r, b, c⟩ σ (Itl K a) H := for_list Pv h0 hl hs hd
theorem f_tup (xs : List V) (Pv : Nat → L2.St → Hp → Prop) (h0 : Pv 0 σ H) (hl : ∀ i σ H, i ≤ xs.length → Pv i σ H → SqT K H a xs)
    (hs : ∀ i x σ H, xs[i]? = some x → Pv i σ H → g x σ H fun σ2 H2 => tb ⟨Pv (i + 1), r, n, Pv (i + 1)⟩ σ2 H2) (hd : ∀ σ H, Pv xs.length σ H → n σ H) : forK g tb ⟨n, r, b, c⟩ σ (Itt K a) H := for_tup Pv h0 hl hs hd
theorem f_range {lo : Int} {m : Nat} (Pv : Nat → L2.St → Hp → Prop) (h0 : Pv 0 σ H)
    (hs : ∀ i σ H, i < m → Pv i σ H → g (.int (lo + i)) σ H fun σ2 H2 => tb ⟨Pv (i + 1), r, n, Pv (i + 1)⟩ σ2 H2) (hd : ∀ σ H, Pv m σ H → n σ H) : forK g tb ⟨n, r, b, c⟩ σ (Itr lo m) H := for_range Pv h0 hs hd
end
section
variable {g : TG} {tt : TT} {te : TE} {vs : List Nat} {a : Addr}
def lcE (D : Addr) (N : Hp → Prop) : VK := fun y H4 => ∃ acc, H4 D = some (.lst acc) ∧ acc.length < sizeLine ∧ N (upd H4 D (.lst (acc ++ [y])))
theorem c_list (xs : List V) (Pv : Addr → Nat → Hp → Prop) (h0 : ∀ D, H D = none → Pv D 0 (upd H D (.lst []))) (hl : ∀ D i H, i ≤ xs.length → Pv D i H → SqL K H a xs)
    (hs : ∀ D i x H, xs[i]? = some x → Pv D i H → g x (wipe σ vs) H fun σ2 H2 => wipe σ2 vs = wipe σ vs ∧ tt σ2 H2 fun b H3 => if b = true then te σ2 H3 (lcE D (Pv D (i + 1))) else Pv D (i + 1) H3)
    (hd : ∀ D H, Pv D xs.length H → Q (.ref D) H) : lcK g tt te vs σ Q (Itl K a) H := fun D hD => lc_list (Qd := fun H => Q (.ref D) H) (Pv D) (h0 D hD) (hl D) (hs D) (hd D)
theorem c_tup (xs : List V) (Pv : Addr → Nat → Hp → Prop) (h0 : ∀ D, H D = none → Pv D 0 (upd H D (.lst []))) (hl : ∀ D i H, i ≤ xs.length → Pv D i H → SqT K H a xs)
    (hs : ∀ D i x H, xs[i]? = some x → Pv D i H → g x (wipe σ vs) H fun σ2 H2 => wipe σ2 vs = wipe σ vs ∧ tt σ2 H2 fun b H3 => if b = true then te σ2 H3 (lcE D (Pv D (i + 1))) else Pv D (i + 1) H3)
    (hd : ∀ D H, Pv D xs.length H → Q (.ref D) H) : lcK g tt te vs σ Q (Itt K a) H := fun D hD => lc_tup (Qd := fun H => Q (.ref D) H) (Pv D) (h0 D hD) (hl D) (hs D) (hd D)
theorem c_range {lo : Int} {n : Nat} (Pv : Addr → Nat → Hp → Prop) (h0 : ∀ D, H D = none → Pv D 0 (upd H D (.lst [])))
    (hs : ∀ D i H, i < n → Pv D i H → g (.int (lo + i)) (wipe σ vs) H fun σ2 H2 => wipe σ2 vs = wipe σ vs ∧ tt σ2 H2 fun b H3 => if b = true then te σ2 H3 (lcE D (Pv D (i + 1))) else Pv D (i + 1) H3)
    (hd : ∀ D H, Pv D n H → Q (.ref D) H) : lcK g tt te vs σ Q (Itr lo n) H := fun D hD => lc_range (Qd := fun H => Q (.ref D) H) (Pv D) (h0 D hD) (hs D) (hd D)
theorem upd_upd {h : Hp} {a : Addr} {o u : HO} : upd (upd h a o) a u = upd h a u := by
  funext b
  by_cases e : b = a
  · subst e
    rw [upd_same, upd_same]
  · rw [upd_ne e, upd_ne e, upd_ne e]
theorem i_yes {σ : L2.St} {H : Hp} {q : Bool → Hp → Prop} (h : q true H) : tYes σ H q := h
theorem i_wip {σ2 σ1 : L2.St} {vs : List Nat} {A : Prop} (e : wipe σ2 vs = wipe σ1 vs) (h : A) : wipe σ2 vs = wipe σ1 vs ∧ A := ⟨e, h⟩
theorem i_lcE {D : Addr} {N : Hp → Prop} {acc : List V} {y : V} (e : H D = some (.lst acc)) (z : acc.length < sizeLine) (h : N (upd H D (.lst (acc ++ [y])))) : lcE D N y H := ⟨acc, e, z, h⟩
theorem p_list {v : Nat} (xs : List V) (f : Nat → V) (e : SqL K H a xs) (hz : xs.length ≤ 100000)
    (hs : ∀ D acc i x (N : VK), H D = none → xs[i]? = some x → N (f i) (upd H D (.lst acc)) → te ((wipe σ [v]).set v (some x)) (upd H D (.lst acc)) N)
    (hd : ∀ D, H D = none → Q (.ref D) (upd H D (.lst ((List.range xs.length).map f)))) : lcK (gName v) tYes te [v] σ Q (Itl K a) H := by
  refine c_list xs (fun D i H' => H D = none ∧ H' = upd H D (.lst ((List.range i).map f))) (fun D hD => ⟨hD, rfl⟩) (fun D i H' _ h => ?_) (fun D i x H' hx h => ?_) (fun D H' h => ?_)
  · obtain ⟨hD, rfl⟩ := h
    exact Same.seq (fun b o z => by rw [upd_ne (ne_of_none z hD)]; exact z) e
  · obtain ⟨hD, rfl⟩ := h
    have hi := (List.getElem?_eq_some_iff.mp hx).1
    refine ⟨?_, ?_⟩
    · show List.set (List.set (List.set σ v none) v (some x)) v none = List.set σ v none
      rw [List.set_set, List.set_set]
    · show te _ _ _
      refine hs D _ i x _ hD hx (i_lcE upd_same ?_ ⟨hD, ?_⟩)
      · rw [List.length_map, List.length_range, sizeLine_eq]
        omega
      · rw [upd_upd, List.range_succ, List.map_append]
        rfl
  · obtain ⟨hD, rfl⟩ := h
    exact hd D hD
theorem p_tup {v : Nat} (xs : List V) (f : Nat → V) (e : SqT K H a xs) (hz : xs.length ≤ 100000)
    (hs : ∀ D acc i x (N : VK), H D = none → xs[i]? = some x → N (f i) (upd H D (.lst acc)) → te ((wipe σ [v]).set v (some x)) (upd H D (.lst acc)) N)
    (hd : ∀ D, H D = none → Q (.ref D) (upd H D (.lst ((List.range xs.length).map f)))) : lcK (gName v) tYes te [v] σ Q (Itt K a) H := by
  have ke : ∀ D o, H D = none → SqT K (upd H D o) a xs := by
    intro D o hD
    rcases e with (e | ⟨ob, e⟩) | e
    · exact .inl (.inl (by rw [upd_ne (ne_of_none e hD)]; exact e))
    · exact .inl (.inr ⟨ob, by rw [upd_ne (ne_of_none e hD)]; exact e⟩)
    · exact .inr e
  refine c_tup xs (fun D i H' => H D = none ∧ H' = upd H D (.lst ((List.range i).map f))) (fun D hD => ⟨hD, rfl⟩) (fun D i H' _ h => ?_) (fun D i x H' hx h => ?_) (fun D H' h => ?_)
  · obtain ⟨hD, rfl⟩ := h
    exact ke D _ hD
  · obtain ⟨hD, rfl⟩ := h
    have hi := (List.getElem?_eq_some_iff.mp hx).1
    refine ⟨?_, ?_⟩
    · show List.set (List.set (List.set σ v none) v (some x)) v none = List.set σ v none
      rw [List.set_set, List.set_set]
    · show te _ _ _
      refine hs D _ i x _ hD hx (i_lcE upd_same ?_ ⟨hD, ?_⟩)
      · rw [List.length_map, List.length_range, sizeLine_eq]
        omega
      · rw [upd_upd, List.range_succ, List.map_append]
        rfl
  · obtain ⟨hD, rfl⟩ := h
    exact hd D hD
end
end
end
section
open L2 PySem PySem.Spec PyProof.Rows
def Fd (H : Hp) (a : Addr) (c : Int) : Prop := ∃ x y n : Int, H a = some (.lst [.int x, .int y, .int n]) ∧ 0 ≤ x ∧ 0 ≤ y ∧ y < 10 ^ 39 + 23 ∧ 0 ≤ n ∧ n ≤ c
def Ch (a : Addr) (H H' : Hp) : Prop := ∀ b o, b ≠ a → H b = some o → H' b = some o
section
variable {a b p q : Addr} {c d : Int} {H H1 H2 H' : Hp} {o : HO} {K : PySem.W.Frag} {xs : List V}
theorem Fd.mono (h : Fd H a c) (z : c ≤ d) : Fd H a d := by
  obtain ⟨x, y, n, h1, h2, h3, h4, h5, h6⟩ := h
  exact ⟨x, y, n, h1, h2, h3, h4, h5, by omega⟩
theorem Fd.ne (h : Fd H a c) (n : H q = none) : q ≠ a := by
  obtain ⟨x, y, m, h1, _⟩ := h
  exact fun z => by rw [z, h1] at n; cases n
theorem Fd.upd (h : Fd H a c) (n : a ≠ q) : Fd (upd H q o) a c := by
  obtain ⟨x, y, m, h1, r⟩ := h
  exact ⟨x, y, m, (upd_ne n).trans h1, r⟩
theorem Ch.refl (H : Hp) : Ch a H H := fun _ _ _ h => h
theorem Ch.trans (h : Ch a H H1) (k : Ch a H1 H2) : Ch a H H2 := fun b o n e => k b o n (h b o n e)
theorem Ch.of_same (h : Same H H') : Ch a H H' := fun b o _ e => h b o e
theorem Ch.upd_new (n : H q = none) : Ch a H (upd H q o) := fun b u _ e => by
  rw [upd_ne (ne_of_none e n)]
  exact e
theorem Ch.upd_self : Ch a H (upd H a o) := fun b u n e => by
  rw [upd_ne n]
  exact e
theorem Ch.upd_l (C : Ch a H H2) (n : H q = none) : Ch a H (upd H2 q o) := fun b u nb e => by
  rw [upd_ne (ne_of_none e n)]
  exact C b u nb e
theorem Ch.upd_n (C : Ch a H H2) (n : H2 q = none) : Ch a H (upd H2 q o) := fun b u nb e => by
  have z := C b u nb e
  rw [upd_ne (ne_of_none z n)]
  exact z
theorem i_al {n : Nat} {A : Prop} (z : n ≤ sizeLine) (h : A) : n ≤ sizeLine ∧ A := ⟨z, h⟩
theorem Ch.at (C : Ch a H H') (n : b ≠ a) (e : H b = some o) : H' b = some o := C b o n e
theorem Ch.free (C : Ch a H H') (n : q ≠ a) (e : H' q = none) : H q = none := by
  cases z : H q with
  | none => rfl
  | some o =>
    rw [C q o n z] at e
    cases e
theorem Ch.sqL (C : Ch a H H') (n : p ≠ a) (e : SqL K H p xs) : SqL K H' p xs := by
  rcases e with (e | ⟨o, e⟩) | e
  · exact .inl (.inl (C p _ n e))
  · exact .inl (.inr ⟨o, C p _ n e⟩)
  · exact .inr e
theorem Ch.sqT (C : Ch a H H') (n : p ≠ a) (e : SqT K H p xs) : SqT K H' p xs := by
  rcases e with (e | ⟨o, e⟩) | e
  · exact .inl (.inl (C p _ n e))
  · exact .inl (.inr ⟨o, C p _ n e⟩)
  · exact .inr e
theorem Ch.sqA (C : Ch a H H') (n : p ≠ a) (e : SqA K H p xs) : SqA K H' p xs := by
  rcases e with e | e
  · exact .inl (C.sqL n e)
  · exact .inr (C.sqT n e)
theorem SqA.l (e : SqL K H p xs) : SqA K H p xs := .inl e
theorem SqA.t (e : SqT K H p xs) : SqA K H p xs := .inr e
theorem Same.upd_new (n : H q = none) : Same H (upd H q o) := fun b u e => by
  rw [upd_ne (ne_of_none e n)]
  exact e
theorem sqA_same (C : Same H H') (e : SqA K H p xs) : SqA K H' p xs := by
  rcases e with e | (e | ⟨o, e⟩) | e
  · exact .inl (C.seq e)
  · exact .inr (.inl (.inl (C p _ e)))
  · exact .inr (.inl (.inr ⟨o, C p _ e⟩))
  · exact .inr (.inr e)
end
theorem cube_ok {s : Int} (h0 : 0 ≤ s) (h1 : s < 2 ^ 160) : CMulW s s ∧ CMulW (s * s) s := by
  have a : s.natAbs < 2 ^ 160 := by omega
  exact ⟨wide_mul a a (by decide) (by decide) (by decide), wide_mul (wide_lt a a) a (by decide) (by decide) (by decide)⟩
def nmSign (c : Nat) : Bool := (decide (97 ≤ c) && decide (c ≤ 122)) || (decide (48 ≤ c) && decide (c ≤ 57))
def nmOk (z : Str) : Bool := match z.cps.toList with
  | [] => false
  | c :: r => decide (r.length ≤ 7) && (decide (97 ≤ c) && decide (c ≤ 122)) && r.all nmSign
def IsNames (ns : List Str) : Prop := ns.Nodup ∧ ∀ z ∈ ns, nmOk z = true
theorem IsNames.perm {ns ms : List Str} (h : IsNames ns) (p : ms.Perm ns) : IsNames ms := ⟨p.nodup_iff.mpr h.1, fun z hz => h.2 z (p.mem_iff.mp hz)⟩
theorem IsNames.take {ns : List Str} (h : IsNames ns) (k : Nat) : IsNames (ns.take k) := ⟨h.1.sublist (List.take_sublist _ _), fun z hz => h.2 z (List.mem_of_mem_take hz)⟩
def spDraw : Sp := fun vs H Q _ => ∃ (a : Addr) (m c : Int), vs = [.ref a, .int m] ∧ Fd H a c ∧ 0 < m ∧ m < 1000000 ∧ c < 10 ^ 15 ∧ ∀ (r : Int) (H' : Hp), 0 ≤ r → r < m → Fd H' a (c + 1) → Ch a H H' → Q (.int r) H'
def spFeed (K : PySem.W.Frag) : Sp := fun vs H Q _ => ∃ (a : Addr) (ns : List Int) (k : Int), vs = [.ref a, .int k] ∧ SqL K H a (ns.map V.int) ∧ ns.length ≤ 63 ∧ 0 ≤ k ∧ k ≤ 100 ∧ ∀ (q : Addr) (H' : Hp), H q = none → Fd H' q 0 → Same H H' → Q (.ref q) H'
def spOne (K : PySem.W.Frag) : Sp := fun vs H Q _ => ∃ (a p : Addr) (c : Int) (xs : List V), vs = [.ref a, .ref p] ∧ Fd H a c ∧ SqA K H p xs ∧ p ≠ a ∧ 0 < xs.length ∧ xs.length < 1000000 ∧ c < 10 ^ 15 ∧
  ∀ (v : V) (H' : Hp), v ∈ xs → Fd H' a (c + 1) → Ch a H H' → Q v H'
def spMixed (K : PySem.W.Frag) : Sp := fun vs H Q _ => ∃ (a p : Addr) (c : Int) (xs : List V), vs = [.ref a, .ref p] ∧ Fd H a c ∧ SqA K H p xs ∧ p ≠ a ∧ xs.length ≤ 1000 ∧ c < 10 ^ 14 ∧
  ∀ (q : Addr) (ys : List V) (H' : Hp), ys.Perm xs → H q = none → H' q = some (.lst ys) → Fd H' a (c + 1000) → Ch a H H' → Q (.ref q) H'
def spNames : Sp := fun vs H Q _ => ∃ (a : Addr) (m c : Int), vs = [.ref a, .int m] ∧ Fd H a c ∧ 0 ≤ m ∧ m ≤ 12 ∧ c < 10 ^ 14 ∧
  ∀ (q : Addr) (ns : List Str) (H' : Hp), IsNames ns → (ns.length : Int) = m → H q = none → H' q = some (.lst (ns.map V.str)) → Fd H' a (c + 1000) → Ch a H H' → Q (.ref q) H'
end
section
open L2 PySem PySem.Spec PyProof.Rows
mutual
def tupOnly : PyData → Bool
  | .none | .bool _ | .int _ => true
  | .str _ => true
  | .tuple xs => tupOnlyAll xs
  | .list _ | .dict _ => false
def tupOnlyAll : List PyData → Bool
  | [] => true
  | x :: xs => tupOnly x && tupOnlyAll xs
end
def TK (K : PySem.W.Frag) (H H' : Hp) : Prop := ∀ b xs, SqT K H b xs → SqT K H' b xs
section
variable {K : PySem.W.Frag} {H H1 H2 H' : Hp} {a p q : Addr} {o : HO} {c : Int}
theorem TK.trans (h : TK K H H1) (k : TK K H1 H2) : TK K H H2 := fun b xs e => k b xs (h b xs e)
theorem TK.of_at (h : ∀ b xs, H b = some (.tup xs) → H' b = some (.tup xs)) (k : ∀ b ob xs, H b = some (.frz ob (.tup xs)) → H' b = some (.frz ob (.tup xs))) : TK K H H' := fun b xs e => by
  rcases e with (e | ⟨ob, e⟩) | e
  · exact .inl (.inl (h b xs e))
  · exact .inl (.inr ⟨ob, k b ob xs e⟩)
  · exact .inr e
theorem TK.same (h : Same H H') : TK K H H' := TK.of_at (fun b _ e => h b _ e) fun b _ _ e => h b _ e
theorem TK.new (n : H q = none) : TK K H (upd H q o) := TK.same (Same.upd_new n)
theorem TK.lst {xs : List V} (e : H q = some (.lst xs)) : TK K H (upd H q o) := by
  refine TK.of_at (fun b ys z => ?_) fun b ob ys z => ?_
  · rw [upd_ne (fun w => by rw [w, e] at z; cases z)]
    exact z
  · rw [upd_ne (fun w => by rw [w, e] at z; cases z)]
    exact z
theorem TK.ch (h : Ch a H H') (f : Fd H a c) : TK K H H' := by
  obtain ⟨x, y, n, e, _⟩ := f
  refine TK.of_at (fun b ys z => h b _ (fun w => ?_) z) fun b ob ys z => h b _ (fun w => ?_) z
  · rw [w, e] at z; cases z
  · rw [w, e] at z; cases z
mutual
theorem Dp.tk (h : TK K H H') : ∀ (d : PyData) (v : V), tupOnly d = true → Dp K H v d → Dp K H' v d
  | .none, _, _, e => by cases e; exact .non
  | .bool b, _, _, e => by cases e; exact .bl b
  | .int i, _, _, e => by cases e; exact .int i
  | .str s, _, _, e => by cases e; exact .str s
  | .list _, _, t, _ => by simp [tupOnly] at t
  | .dict _, _, t, _ => by simp [tupOnly] at t
  | .tuple ds, _, t, e => by
    cases e with
    | tup hs ha => exact .tup (h _ _ hs) (DpAll.tk h ds _ (by simpa [tupOnly] using t) ha)
theorem DpAll.tk (h : TK K H H') : ∀ (ds : List PyData) (vs : List V), tupOnlyAll ds = true → DpAll K H vs ds → DpAll K H' vs ds
  | [], _, _, e => by cases e; exact .nil
  | d :: ds, _, t, e => by
    have t' : tupOnly d = true ∧ tupOnlyAll ds = true := by simpa [tupOnlyAll] using t
    cases e with
    | cons e1 e2 => exact .cons (Dp.tk h d _ t'.1 e1) (DpAll.tk h ds _ t'.2 e2)
end
mutual
theorem Dp.same (h : Same H H') : ∀ (d : PyData) (v : V), Dp K H v d → Dp K H' v d
  | .none, _, e => by cases e; exact .non
  | .bool b, _, e => by cases e; exact .bl b
  | .int i, _, e => by cases e; exact .int i
  | .str s, _, e => by cases e; exact .str s
  | .list ds, _, e => by
    cases e with
    | lst hs ha => exact .lst (h.seq hs) (DpAll.same h ds _ ha)
  | .dict _, _, e => by cases e
  | .tuple ds, _, e => by
    cases e with
    | tup hs ha => exact .tup (TK.same h _ _ hs) (DpAll.same h ds _ ha)
theorem DpAll.same (h : Same H H') : ∀ (ds : List PyData) (vs : List V), DpAll K H vs ds → DpAll K H' vs ds
  | [], _, e => by cases e; exact .nil
  | d :: ds, _, e => by
    cases e with
    | cons e1 e2 => exact .cons (Dp.same h d _ e1) (DpAll.same h ds _ e2)
end
theorem DpAll.strs : ∀ (ns : List Str), DpAll K H (ns.map V.str) (ns.map PyData.str)
  | [] => .nil
  | z :: r => .cons (.str z) (DpAll.strs r)
theorem DpAll.app : ∀ {vs us : List V} {ds es : List PyData}, DpAll K H vs ds → DpAll K H us es → DpAll K H (vs ++ us) (ds ++ es)
  | _, _, _, _, .nil, k => k
  | _, _, _, _, .cons h t, k => .cons h (DpAll.app t k)
theorem DpAll.len : ∀ {vs : List V} {ds : List PyData}, DpAll K H vs ds → vs.length = ds.length
  | _, _, .nil => rfl
  | _, _, .cons _ t => congrArg (· + 1) (DpAll.len t)
theorem DpAll.get : ∀ {vs : List V} {ds : List PyData} {i : Nat} {v : V}, DpAll K H vs ds → vs[i]? = some v → ∃ d, ds[i]? = some d ∧ Dp K H v d
  | _, _, 0, _, .cons h _, e => by cases e; exact ⟨_, rfl, h⟩
  | _, _, n + 1, _, .cons _ t, e => DpAll.get (i := n) t (by simpa using e)
theorem DpAll.get' : ∀ {vs : List V} {ds : List PyData} {i : Nat} {d : PyData}, DpAll K H vs ds → ds[i]? = some d → ∃ v, vs[i]? = some v ∧ Dp K H v d
  | _, _, 0, _, .cons h _, e => by cases e; exact ⟨_, rfl, h⟩
  | _, _, n + 1, _, .cons _ t, e => by
    obtain ⟨v, h1, h2⟩ := DpAll.get' (i := n) t (by simpa using e)
    exact ⟨v, by simpa using h1, h2⟩
theorem DpAll.strs_inv : ∀ {vs : List V} {ns : List Str}, DpAll K H vs (ns.map PyData.str) → vs = ns.map V.str
  | _, [], .nil => rfl
  | _, z :: r, h => by
    cases h with
    | cons h1 h2 =>
      cases h1
      rw [DpAll.strs_inv h2]
      rfl
theorem DpAll.perm {us vs : List V} (pm : us.Perm vs) : ∀ {ds : List PyData}, DpAll K H vs ds → ∃ es, es.Perm ds ∧ DpAll K H us es := by
  induction pm with
  | nil => intro ds h; exact ⟨ds, .refl _, h⟩
  | cons x _ ih =>
    intro ds h
    cases h with
    | cons h1 h2 =>
      obtain ⟨es, p1, p2⟩ := ih h2
      exact ⟨_ :: es, p1.cons _, .cons h1 p2⟩
  | swap x y l =>
    intro ds h
    cases h with
    | cons h1 h2 =>
      cases h2 with
      | cons h2 h3 => exact ⟨_, .swap _ _ _, .cons h2 (.cons h1 h3)⟩
  | trans _ _ ih1 ih2 =>
    intro ds h
    obtain ⟨es, p1, k1⟩ := ih2 h
    obtain ⟨fs, p2, k2⟩ := ih1 k1
    exact ⟨fs, p2.trans p1, k2⟩
end
def LsD (K : PySem.W.Frag) (H : Hp) (L : Addr) (ds : List PyData) : Prop := ∃ vs, H L = some (.lst vs) ∧ DpAll K H vs ds ∧ tupOnlyAll ds = true
theorem tupOnlyAll_app : ∀ (ds es : List PyData), tupOnlyAll ds = true → tupOnlyAll es = true → tupOnlyAll (ds ++ es) = true
  | [], _, _, k => k
  | d :: ds, es, h, k => by
    have h' : tupOnly d = true ∧ tupOnlyAll ds = true := by simpa [tupOnlyAll] using h
    show (tupOnly d && tupOnlyAll (ds ++ es)) = true
    rw [h'.1, tupOnlyAll_app ds es h'.2 k]
    rfl
section
variable {K : PySem.W.Frag} {H H1 H2 H' : Hp} {a p q L : Addr} {o : HO} {c : Int} {ds : List PyData} {d : PyData} {vs : List V} {y : V}
theorem LsD.nil (e : H L = some (.lst [])) : LsD K H L [] := ⟨[], e, .nil, rfl⟩
theorem LsD.tk (h : LsD K H L ds) (t : TK K H H') (e : ∀ vs, H L = some (.lst vs) → H' L = some (.lst vs)) : LsD K H' L ds := by
  obtain ⟨vs, h1, h2, h3⟩ := h
  exact ⟨vs, e vs h1, DpAll.tk t _ _ h3 h2, h3⟩
theorem LsD.ch (h : LsD K H L ds) (k : Ch a H H') (f : Fd H a c) (n : L ≠ a) : LsD K H' L ds := h.tk (TK.ch k f) fun _ e => k _ _ n e
theorem LsD.new (h : LsD K H L ds) (n : H q = none) : LsD K (upd H q o) L ds := h.tk (TK.new n) fun _ e => (upd_ne (ne_of_none e n)).trans e
theorem LsD.push (e : H L = some (.lst vs)) (h : DpAll K H vs ds) (t : tupOnlyAll ds = true) (hy : Dp K H y d) (td : tupOnly d = true) : LsD K (upd H L (.lst (vs ++ [y]))) L (ds ++ [d]) :=
  ⟨vs ++ [y], upd_same, DpAll.tk (TK.lst e) _ _ (tupOnlyAll_app _ _ t (by show (tupOnly d && true) = true; rw [td]; rfl)) (DpAll.app h (.cons hy .nil)), tupOnlyAll_app _ _ t (by show (tupOnly d && true) = true; rw [td]; rfl)⟩
theorem LsD.ext {us : List V} {es : List PyData} (e : H L = some (.lst vs)) (h : DpAll K H vs ds) (t : tupOnlyAll ds = true) (h2 : DpAll K H us es) (t2 : tupOnlyAll es = true) : LsD K (upd H L (.lst (vs ++ us))) L (ds ++ es) :=
  ⟨vs ++ us, upd_same, DpAll.tk (TK.lst e) _ _ (tupOnlyAll_app _ _ t t2) (DpAll.app h h2), tupOnlyAll_app _ _ t t2⟩
theorem LsD.push2 {x z : V} {dx dz : PyData} (e : H L = some (.lst vs)) (h : DpAll K H vs ds) (t : tupOnlyAll ds = true) (n : H p = none) (hx : Dp K H x dx) (hz : Dp K H z dz) (tx : tupOnly dx = true) (tz : tupOnly dz = true) :
    LsD K (upd (upd H p (.tup [x, z])) L (.lst (vs ++ [.ref p]))) L (ds ++ [.tuple [dx, dz]]) := by
  have t1 : TK K H (upd H p (.tup [x, z])) := TK.new n
  refine LsD.push ((upd_ne (ne_of_none e n)).trans e) (DpAll.tk t1 _ _ t h) t (.tup (xs := [x, z]) (.inl (.inl upd_same)) (.cons (Dp.tk t1 _ _ tx hx) (.cons (Dp.tk t1 _ _ tz hz) .nil))) ?_
  show (tupOnly dx && (tupOnly dz && true)) = true
  rw [tx, tz]
  rfl
end
section
variable {X : Cx}
mutual
/-- data without truths -/
def noB : PyData → Bool
  | .none | .int _ | .str _ => true
  | .tuple xs | .list xs => noBAll xs
  | .bool _ | .dict _ => false
def noBAll : List PyData → Bool
  | [] => true
  | x :: xs => noB x && noBAll xs
end
mutual
theorem eqv_dec : ∀ (d e : PyData), noB d = true → noB e = true → (PyData.eqv d e = true ↔ d = e)
  | .none, e, _, k => by cases e <;> simp_all [PyData.eqv, noB]
  | .bool b, _, h, _ => by simp [noB] at h
  | .int i, e, _, k => by cases e <;> simp_all [PyData.eqv, noB]
  | .str s, e, _, k => by cases e <;> simp_all [PyData.eqv, noB]
  | .dict _, _, h, _ => by simp [noB] at h
  | .list xs, e, h, k => by
    cases e with
    | list ys => simpa [PyData.eqv] using eqvAll_dec xs ys (by simpa [noB] using h) (by simpa [noB] using k)
    | _ => simp_all [PyData.eqv, noB]
  | .tuple xs, e, h, k => by
    cases e with
    | tuple ys => simpa [PyData.eqv] using eqvAll_dec xs ys (by simpa [noB] using h) (by simpa [noB] using k)
    | _ => simp_all [PyData.eqv, noB]
theorem eqvAll_dec : ∀ (ds es : List PyData), noBAll ds = true → noBAll es = true → (PyData.eqvAll ds es = true ↔ ds = es)
  | [], [], _, _ => by simp [PyData.eqvAll]
  | [], _ :: _, _, _ => by simp [PyData.eqvAll]
  | _ :: _, [], _, _ => by simp [PyData.eqvAll]
  | d :: ds, e :: es, h, k => by
    have h' : noB d = true ∧ noBAll ds = true := by simpa [noBAll] using h
    have k' : noB e = true ∧ noBAll es = true := by simpa [noBAll] using k
    have h1 := eqv_dec d e h'.1 k'.1
    have h2 := eqvAll_dec ds es h'.2 k'.2
    simp only [PyData.eqvAll, Bool.and_eq_true, h1, h2, List.cons.injEq]
end
def rInQ (K : PySem.W.Frag) (neg : Bool) : R2 := fun x y H Q => ∃ d ds, Dp K H x d ∧ (Dp K H y (.list ds) ∨ Dp K H y (.tuple ds)) ∧ d.canLay0 = true ∧ PyData.canLayAll0 ds = true ∧ d.depth ≤ 60 ∧ Q (.bl (if neg then !(ds.any fun z => PyData.eqv z d) else ds.any fun z => PyData.eqv z d)) H
theorem o_inQ (hu : X.A.units + 64 < cLine) : OpR X (compareOp .In) (rInQ X.K false) := by
  intro pins s σ H x y v u Q I rx ry h
  obtain ⟨d, ds, hd, he | he, sd, se, hz, q⟩ := h
  · obtain ⟨as, r1⟩ := Dp.reads I d x v hd rx
    obtain ⟨bs, r2⟩ := Dp.reads I (.list ds) y u he ry
    exact SeqAt.in_list_reads r2 r1 se sd (by have := Nat.min_le_right (PyData.depthAll ds) d.depth; omega) ⟨.bl _, H, I, rfl, q⟩
  · obtain ⟨as, r1⟩ := Dp.reads I d x v hd rx
    obtain ⟨bs, r2⟩ := Dp.reads I (.tuple ds) y u he ry
    exact SeqAt.in_tuple_reads r2 r1 se sd (by have := Nat.min_le_right (PyData.depthAll ds) d.depth; omega) ⟨.bl _, H, I, rfl, q⟩
theorem o_notInQ (hu : X.A.units + 64 < cLine) : OpR X (compareOp .NotIn) (rInQ X.K true) := by
  intro pins s σ H x y v u Q I rx ry h
  obtain ⟨d, ds, hd, he | he, sd, se, hz, q⟩ := h
  · obtain ⟨as, r1⟩ := Dp.reads I d x v hd rx
    obtain ⟨bs, r2⟩ := Dp.reads I (.list ds) y u he ry
    exact SeqAt.notIn_list_reads r2 r1 se sd (by have := Nat.min_le_right (PyData.depthAll ds) d.depth; omega) ⟨.bl _, H, I, rfl, q⟩
  · obtain ⟨as, r1⟩ := Dp.reads I d x v hd rx
    obtain ⟨bs, r2⟩ := Dp.reads I (.tuple ds) y u he ry
    exact SeqAt.notIn_tuple_reads r2 r1 se sd (by have := Nat.min_le_right (PyData.depthAll ds) d.depth; omega) ⟨.bl _, H, I, rfl, q⟩
end
end
section
open L2 PySem PySem.Spec PyProof.Rows
def roadD (r : Str × Str) : PyData := .tuple [.str r.1, .str r.2]
def webD (ps : List Str) (rs : List (Str × Str)) : PyData := .tuple [.tuple (ps.map .str), .tuple (rs.map roadD)]
structure IsWeb (ps : List Str) (rs : List (Str × Str)) : Prop where
  names : IsNames ps
  pos : 0 < ps.length
  le8 : ps.length ≤ 8
  le14 : rs.length ≤ 14
  ends : ∀ r ∈ rs, r.1 ∈ ps ∧ r.2 ∈ ps ∧ r.1 ≠ r.2
  uniq : rs.Pairwise fun r s => r ≠ s ∧ r ≠ (s.2, s.1)
section
variable {σ : L2.St} {H : Hp} {Q : VK} {K : PySem.W.Frag}
theorem inV_strs {z : Str} {ns : List Str} : inV (.str z) (ns.map V.str) = decide (z ∈ ns) := by
  unfold inV
  induction ns with
  | nil => rfl
  | cons y r ih =>
    rw [List.map_cons, List.any_cons, ih]
    have e : eqV (V.str y) (V.str z) = decide (z = y) := by
      by_cases h : z = y
      · subst h
        simp [eqV]
      · rw [decide_eq_false h]
        simp [eqV]
        exact fun k => h k.symm
    rw [e]
    by_cases h : z = y
    · subst h
      simp
    · simp [h]
theorem flat_str {ns : List Str} : (ns.map V.str).all flatV = true := by
  induction ns with
  | nil => rfl
  | cons y r ih =>
    rw [List.map_cons, List.all_cons, ih]
    rfl
theorem i_inS {z : Str} {p : Addr} {ns : List Str} (e : SqA K H p (ns.map V.str)) (h : Q (.bl (decide (z ∈ ns))) H) : rIn K false (.str z) (.ref p) H Q :=
  ⟨p, ns.map V.str, rfl, e, rfl, flat_str, by
    rw [inV_strs]
    exact h⟩
theorem i_cut {te : TE} (P : V → Hp → Prop) (main : ∀ Q' : VK, (∀ v H', P v H' → Q' v H') → te σ H Q') (rest : ∀ v H', P v H' → Q v H') : te σ H Q := main Q rest
theorem i_cutS {t : TS} {n : L2.St → Hp → Prop} {r : VK} {b c : L2.St → Hp → Prop} (P : L2.St → Hp → Prop) (main : ∀ N : L2.St → Hp → Prop, (∀ σ' H', P σ' H' → N σ' H') → t ⟨N, r, b, c⟩ σ H) (rest : ∀ σ' H', P σ' H' → n σ' H') : t ⟨n, r, b, c⟩ σ H := main n rest
theorem i_iteB {b : Bool} {A B : Prop} (h1 : b = true → A) (h2 : b = false → B) : if b = true then A else B := by
  cases b
  · exact h2 rfl
  · exact h1 rfl
end
def pairD (p : Nat × Nat) : PyData := .tuple [.int p.1, .int p.2]
theorem pairs_any (pl : List (Nat × Nat)) (p : Nat × Nat) : ((pl.map pairD).any fun z => PyData.eqv z (pairD p)) = decide (p ∈ pl) := by
  induction pl with
  | nil => rfl
  | cons x r ih =>
    rw [List.map_cons, List.any_cons, ih]
    have e : PyData.eqv (pairD x) (pairD p) = decide (p = x) := by
      have h := eqv_dec (pairD x) (pairD p) rfl rfl
      by_cases k : p = x
      · subst k
        rw [decide_eq_true rfl]
        exact h.mpr rfl
      · rw [decide_eq_false k]
        cases q : PyData.eqv (pairD x) (pairD p) with
        | false => rfl
        | true =>
          have z := h.mp q
          simp only [pairD, PyData.tuple.injEq, List.cons.injEq, PyData.int.injEq, and_true] at z
          exact absurd (Prod.ext (Int.ofNat.inj z.1.symm) (Int.ofNat.inj z.2.symm)) k
    rw [e]
    by_cases k : p = x
    · subst k
      simp
    · simp [k]
theorem pairs_lay (pl : List (Nat × Nat)) : PyData.canLayAll0 (pl.map pairD) = true := by
  induction pl with
  | nil => rfl
  | cons x r ih =>
    rw [List.map_cons]
    show ((pairD x).canLay0 && PyData.canLayAll0 (r.map pairD)) = true
    rw [ih]
    rfl
theorem pairs_only (pl : List (Nat × Nat)) : tupOnlyAll (pl.map pairD) = true := by
  induction pl with
  | nil => rfl
  | cons x r ih =>
    rw [List.map_cons]
    show (tupOnly (pairD x) && tupOnlyAll (r.map pairD)) = true
    rw [ih]
    rfl
theorem roads_only (rs : List (Str × Str)) : tupOnlyAll (rs.map roadD) = true := by
  induction rs with
  | nil => rfl
  | cons x r ih =>
    rw [List.map_cons]
    show (tupOnly (roadD x) && tupOnlyAll (r.map roadD)) = true
    rw [ih]
    rfl
theorem strs_only (ns : List Str) : tupOnlyAll (ns.map PyData.str) = true := by
  induction ns with
  | nil => rfl
  | cons x r ih =>
    rw [List.map_cons]
    show (tupOnly (.str x) && tupOnlyAll (r.map PyData.str)) = true
    rw [ih]
    rfl
theorem web_only (ps : List Str) (rs : List (Str × Str)) : tupOnly (webD ps rs) = true := by
  show (tupOnlyAll (ps.map PyData.str) && (tupOnlyAll (rs.map roadD) && true)) = true
  rw [strs_only, roads_only]
  rfl
theorem perm_map_inv {α β : Type} {f : α → β} {es ms : List β} (h : es.Perm ms) : ∀ {l : List α}, ms = l.map f → ∃ l' : List α, l'.Perm l ∧ es = l'.map f := by
  induction h with
  | nil => intro l e; exact ⟨[], by rw [List.map_eq_nil_iff.mp e.symm], rfl⟩
  | cons x _ ih =>
    intro l e
    match l, e with
    | y :: r, e =>
      rw [List.map_cons, List.cons.injEq] at e
      obtain ⟨l', p, q⟩ := ih e.2
      exact ⟨y :: l', p.cons y, by rw [List.map_cons, e.1, q]⟩
  | swap x y k =>
    intro l e
    match l, e with
    | u :: v :: r, e =>
      rw [List.map_cons, List.map_cons, List.cons.injEq, List.cons.injEq] at e
      exact ⟨v :: u :: r, .swap _ _ _, by rw [List.map_cons, List.map_cons, e.1, e.2.1, e.2.2]⟩
    | [_], e => cases e
  | trans _ _ ih1 ih2 =>
    intro l e
    obtain ⟨l1, p1, q1⟩ := ih2 e
    obtain ⟨l2, p2, q2⟩ := ih1 q1
    exact ⟨l2, p2.trans p1, q2⟩
def RoadOf (ns : List Str) (p : Nat × Nat) (r : Str × Str) : Prop := (ns[p.1]? = some r.1 ∧ ns[p.2]? = some r.2) ∨ (ns[p.1]? = some r.2 ∧ ns[p.2]? = some r.1)
theorem nodup_at {α : Type} {l : List α} (h : l.Nodup) {i j : Nat} {x : α} (a : l[i]? = some x) (b : l[j]? = some x) : i = j := by
  obtain ⟨ha, ea⟩ := List.getElem?_eq_some_iff.mp a
  obtain ⟨hb, eb⟩ := List.getElem?_eq_some_iff.mp b
  exact (List.getElem_inj h).mp (ea.trans eb.symm)
theorem web_of {ns ps : List Str} {pl : List (Nat × Nat)} {rs : List (Str × Str)} (hn : IsNames ns) (pm : ps.Perm ns) (h0 : 0 < ns.length) (h8 : ns.length ≤ 8) (nd : pl.Nodup) (lt : ∀ p ∈ pl, p.1 < p.2) (l14 : pl.length ≤ 14) (len : rs.length = pl.length)
    (ro : ∀ (k : Nat) p r, pl[k]? = some p → rs[k]? = some r → RoadOf ns p r) : IsWeb ps rs := by
  have at_ : ∀ {k : Nat} {r : Str × Str}, rs[k]? = some r → ∃ p, pl[k]? = some p ∧ RoadOf ns p r := by
    intro k r h
    have hk : k < pl.length := len ▸ (List.getElem?_eq_some_iff.mp h).1
    exact ⟨pl[k], List.getElem?_eq_getElem hk, ro k _ r (List.getElem?_eq_getElem hk) h⟩
  have mem : ∀ {i : Nat} {z : Str}, ns[i]? = some z → z ∈ ps := fun h => pm.mem_iff.mpr (List.mem_of_getElem? h)
  refine ⟨hn.perm pm, by rw [pm.length_eq]; exact h0, by rw [pm.length_eq]; exact h8, by omega, fun r hr => ?_, ?_⟩
  · obtain ⟨k, hk⟩ := List.getElem?_of_mem hr
    obtain ⟨p, hp, q⟩ := at_ hk
    have hlt := lt p (List.mem_of_getElem? hp)
    have ne : ∀ {i j : Nat} {x y : Str}, ns[i]? = some x → ns[j]? = some y → i ≠ j → x ≠ y := fun a b n e => n (nodup_at hn.1 a (e ▸ b))
    rcases q with ⟨q1, q2⟩ | ⟨q1, q2⟩
    · exact ⟨mem q1, mem q2, ne q1 q2 (by omega)⟩
    · exact ⟨mem q2, mem q1, ne q2 q1 (by omega)⟩
  · rw [(List.pairwise_iff_getElem)]
    intro i j hi hj hij
    obtain ⟨p, hp, q⟩ := at_ (List.getElem?_eq_getElem hi)
    obtain ⟨p', hp', q'⟩ := at_ (List.getElem?_eq_getElem hj)
    have hlt := lt p (List.mem_of_getElem? hp)
    have hlt' := lt p' (List.mem_of_getElem? hp')
    have key : p ≠ p' := fun e => by
      have := nodup_at nd hp (e ▸ hp')
      omega
    have inj : ∀ {a b : Nat} {x : Str}, ns[a]? = some x → ns[b]? = some x → a = b := fun a b => nodup_at hn.1 a b
    have cross : ∀ {x y : Str}, (ns[p.1]? = some x ∧ ns[p.2]? = some y) → (ns[p'.1]? = some x ∧ ns[p'.2]? = some y) → False := fun a b => key (Prod.ext (inj a.1 b.1) (inj a.2 b.2))
    have anti : ∀ {x y : Str}, (ns[p.1]? = some x ∧ ns[p.2]? = some y) → (ns[p'.1]? = some y ∧ ns[p'.2]? = some x) → False := fun a b => by
      have h1 := inj a.1 b.2
      have h2 := inj a.2 b.1
      omega
    constructor
    · intro e
      rw [e] at q
      rcases q with q | q <;> rcases q' with q' | q'
      · exact cross q q'
      · exact anti q q'
      · exact anti q q'
      · exact cross q q'
    · intro e
      rw [e] at q
      rcases q with q | q <;> rcases q' with q' | q'
      · exact anti q q'
      · exact cross q q'
      · exact cross q q'
      · exact anti q q'
theorem sl_of {c : Nat} (hc : 97 ≤ c ∧ c ≤ 122) : nmSign c = true := by
  unfold nmSign
  simp only [Bool.or_eq_true, Bool.and_eq_true, decide_eq_true_eq]
  exact .inl hc
def rItS : R2 := fun x y H Q => ∃ (z : Str) (i : Int) (c : Nat), x = .str z ∧ y = .int i ∧ 0 ≤ i ∧ i < 2 ^ 63 ∧ i < z.length ∧ z.cps[i.toNat]? = some c ∧ Q (.str ⟨#[c]⟩) H
theorem pe_its {X : Cx} {e b : Expr} {ta tb : TE} {pos : Pos} (ha : PE X e ta) (hb : PE X b tb) (hs : PlainIxT b) : PE X (.Subscript e b pos) (tOp rItS ta tb) := pe_item_str ha hb hs
def sh2 (st : List Nat) (s : Nat) (k : Nat) (z : Str) : Prop := z.cps.toList = st ++ [97 + (s + k) % 26]
end
section
open L2 PySem PySem.Spec PyProof.Rows
def isRoad (rs : List (Str × Str)) (x y : Str) : Bool := decide ((x, y) ∈ rs) || decide ((y, x) ∈ rs)
def nearL (ps : List Str) (rs : List (Str × Str)) (x : Str) : List Str := ps.filter fun y => isRoad rs x y
theorem nmOk_str {z : Str} (h : nmOk z = true) : PyData.strOk z = true := by
  unfold nmOk at h
  split at h
  · cases h
  · rename_i c r e
    simp only [Bool.and_eq_true, decide_eq_true_eq, List.all_eq_true] at h
    unfold PyData.strOk
    rw [← Array.all_toList, e, List.all_eq_true]
    intro x hx
    rcases List.mem_cons.mp hx with rfl | hx
    · simp; omega
    · have := h.2 x hx
      unfold nmSign at this
      simp only [Bool.or_eq_true, Bool.and_eq_true, decide_eq_true_eq] at this
      simp; omega
theorem strs_lay {ns : List Str} (h : ∀ z ∈ ns, nmOk z = true) : PyData.canLayAll0 (ns.map PyData.str) = true := by
  induction ns with
  | nil => rfl
  | cons x r ih =>
    show (PyData.canLay0 (.str x) && PyData.canLayAll0 (r.map PyData.str)) = true
    rw [ih fun z hz => h z (List.mem_cons_of_mem _ hz)]
    show (PyData.strOk x && true) = true
    rw [nmOk_str (h x List.mem_cons_self)]
    rfl
theorem road_lay {r : Str × Str} (h1 : nmOk r.1 = true) (h2 : nmOk r.2 = true) : (roadD r).canLay0 = true := by
  show (PyData.strOk r.1 && (PyData.strOk r.2 && true)) = true
  rw [nmOk_str h1, nmOk_str h2]
  rfl
theorem roads_lay {ps : List Str} {rs : List (Str × Str)} (W : IsWeb ps rs) : PyData.canLayAll0 (rs.map roadD) = true := by
  have all : ∀ l : List (Str × Str), (∀ r ∈ l, r ∈ rs) → PyData.canLayAll0 (l.map roadD) = true := by
    intro l
    induction l with
    | nil => intro _; rfl
    | cons x r ih =>
      intro h
      show ((roadD x).canLay0 && PyData.canLayAll0 (r.map roadD)) = true
      have hx := W.ends x (h x List.mem_cons_self)
      rw [ih fun z hz => h z (List.mem_cons_of_mem _ hz), road_lay (W.names.2 _ hx.1) (W.names.2 _ hx.2.1)]
      rfl
  exact all rs fun _ h => h
theorem roads_any (rs : List (Str × Str)) (p : Str × Str) : ((rs.map roadD).any fun z => PyData.eqv z (roadD p)) = decide (p ∈ rs) := by
  induction rs with
  | nil => rfl
  | cons x r ih =>
    rw [List.map_cons, List.any_cons, ih]
    have h := eqv_dec (roadD x) (roadD p) rfl rfl
    have e : PyData.eqv (roadD x) (roadD p) = decide (p = x) := by
      by_cases k : p = x
      · subst k
        rw [decide_eq_true rfl]
        exact h.mpr rfl
      · rw [decide_eq_false k]
        cases q : PyData.eqv (roadD x) (roadD p) with
        | false => rfl
        | true =>
          have z := h.mp q
          simp only [roadD, PyData.tuple.injEq, List.cons.injEq, PyData.str.injEq, and_true] at z
          exact absurd (Prod.ext z.1.symm z.2.symm) k
    rw [e]
    by_cases k : p = x
    · subst k
      simp
    · simp [k]
theorem web_parts {K : PySem.W.Frag} {H : Hp} {v : V} {ps : List Str} {rs : List (Str × Str)} (h : Dp K H v (webD ps rs)) : ∃ (t tp tr : Addr) (xs : List V), v = .ref t ∧ SqT K H t [.ref tp, .ref tr] ∧ SqT K H tp (ps.map V.str) ∧ SqT K H tr xs ∧ DpAll K H xs (rs.map roadD) ∧
    Dp K H (.ref tr) (.tuple (rs.map roadD)) ∧ Dp K H (.ref tp) (.tuple (ps.map .str)) := by
  unfold webD at h
  cases h with
  | tup hs ha =>
    cases ha with
    | cons g1 g2 =>
      cases g2 with
      | cons g3 g4 =>
        cases g4
        have g1' := g1
        have g3' := g3
        cases g1 with
        | tup s1 a1 =>
          cases g3 with
          | tup s3 a3 =>
            have e := DpAll.strs_inv a1
            subst e
            exact ⟨_, _, _, _, rfl, hs, s1, s3, a3, g3', g1'⟩
def spNear (K : PySem.W.Frag) : Sp := fun vs H Q _ => ∃ (v : V) (x : Str) (ps : List Str) (rs : List (Str × Str)), vs = [v, .str x] ∧ Dp K H v (webD ps rs) ∧ IsWeb ps rs ∧ x ∈ ps ∧
  ∀ (p : Addr) (H' : Hp), H p = none → Same H H' → H' p = some (.lst ((nearL ps rs x).map V.str)) → Q (.ref p) H'
section
variable {σ : L2.St} {H : Hp} {Q : VK} {K : PySem.W.Frag}
def lrgK (Q : VK) : VK := fun x H1 => ∃ n, x = .int n ∧ (RgOk 0 n ∧ ∀ q, H1 q = none → Q (.ref q) (upd H1 q (.lst (rgV 0 n))))
theorem i_lrg {ta : TE} (h : ta σ H (lrgK Q)) : tLstRg (tRg1 ta) σ H Q := h
theorem i_lrgK {n : Nat} (z : n ≤ 100000) (h : ∀ q, H q = none → Q (.ref q) (upd H q (.lst ((List.range n).map fun i => V.int ((i : Nat) : Int))))) : lrgK Q (.int (n : Int)) H := by
  refine ⟨n, rfl, RgOk.of_le (by omega) (by omega) (by omega) (by omega), fun q nq => ?_⟩
  have e : rgV 0 (n : Int) = (List.range n).map fun i => V.int ((i : Nat) : Int) := by
    unfold rgV
    rw [show ((n : Int) - 0).toNat = n by omega]
    refine List.map_congr_left fun i _ => ?_
    rw [Int.zero_add]
  rw [e]
  exact h q nq
theorem nil_eqv (ns : List Str) : PyData.eqv (.list (ns.map PyData.str)) (.list []) = ns.isEmpty := by
  cases ns <;> rfl
theorem strs_shaped {ns : List Str} (h : ∀ z ∈ ns, nmOk z = true) : SeqAt.shaped (.list (ns.map PyData.str)) = true := by
  have hd : PyData.depth (.list (ns.map PyData.str)) ≤ 64 := by
    show PyData.depthAll (ns.map PyData.str) + 1 ≤ 64
    have : PyData.depthAll (ns.map PyData.str) = 0 := by
      clear h
      induction ns with
      | nil => rfl
      | cons x r ih =>
        show max 0 (PyData.depthAll (r.map PyData.str)) = 0
        rw [ih]
        rfl
    omega
  show (PyData.canLayAll0 (ns.map PyData.str) && decide (PyData.depth (.list (ns.map PyData.str)) ≤ 64)) = true
  rw [strs_lay h, decide_eq_true hd]
  rfl
theorem i_eqNil {p q : Addr} {ns : List Str} (e : SqL K H p (ns.map V.str)) (e2 : SqL K H q []) (ok : ∀ z ∈ ns, nmOk z = true) (h : Q (.bl ns.isEmpty) H) : rEqD K (.ref p) (.ref q) H Q :=
  ⟨.list (ns.map .str), .list [], .lst e (DpAll.strs ns), .lst e2 .nil, strs_shaped ok, by decide, by rw [nil_eqv]; exact h⟩
theorem i_neNil {p q : Addr} {ns : List Str} (e : SqL K H p (ns.map V.str)) (e2 : SqL K H q []) (ok : ∀ z ∈ ns, nmOk z = true) (h : Q (.bl (!ns.isEmpty)) H) : rNeD K (.ref p) (.ref q) H Q :=
  ⟨.list (ns.map .str), .list [], .lst e (DpAll.strs ns), .lst e2 .nil, strs_shaped ok, by decide, by rw [nil_eqv]; exact h⟩
end
def intsD (t : List Nat) : PyData := .tuple (t.map fun n => .int ((n : Nat) : Int))
inductive RuleD (k : Nat) (near : List Str) : PyData → Prop
  | table (t : List Nat) (hl : t.length = k ^ (near.length + 1)) (hk : ∀ x ∈ t, x < k) : RuleD k near (.tuple [.str "table", intsD t])
  | sum (ts : List (List Nat)) (hl : ts.length = k) (hk : ∀ t ∈ ts, t.length = near.length * (k - 1) + 1 ∧ ∀ x ∈ t, x < k) : RuleD k near (.tuple [.str "sum", .tuple (ts.map intsD)])
  | keep : RuleD k near (.tuple [.str "keep"])
  | least : RuleD k near (.tuple [.str "least"])
  | greatest : RuleD k near (.tuple [.str "greatest"])
  | odd : RuleD k near (.tuple [.str "odd"])
  | most (n : Nat) (h : n ≤ 9) : RuleD k near (.tuple [.str "most", .int n])
  | copy (z : Str) (h : z ∈ near) : RuleD k near (.tuple [.str "copy", .str z])
theorem ints_only (t : List Nat) : tupOnlyAll (t.map fun n => PyData.int ((n : Nat) : Int)) = true := by
  induction t with
  | nil => rfl
  | cons x r ih =>
    show (true && tupOnlyAll (r.map fun n => PyData.int ((n : Nat) : Int))) = true
    rw [ih]
    rfl
theorem intss_only (ts : List (List Nat)) : tupOnlyAll (ts.map intsD) = true := by
  induction ts with
  | nil => rfl
  | cons x r ih =>
    show (tupOnlyAll (x.map fun n => PyData.int ((n : Nat) : Int)) && tupOnlyAll (r.map intsD)) = true
    rw [ih, ints_only]
    rfl
theorem rule_only {k : Nat} {near : List Str} {d : PyData} (h : RuleD k near d) : tupOnly d = true := by
  cases h with
  | table t _ _ =>
    show (tupOnlyAll (t.map fun n => PyData.int ((n : Nat) : Int)) && true) = true
    rw [ints_only]
    rfl
  | sum ts _ _ =>
    show (tupOnlyAll (ts.map intsD) && true) = true
    rw [intss_only]
    rfl
  | _ => rfl
theorem ints_dp {K : PySem.W.Frag} {H : Hp} : ∀ t : List Nat, DpAll K H (t.map fun n => V.int ((n : Nat) : Int)) (t.map fun n => PyData.int ((n : Nat) : Int))
  | [] => .nil
  | x :: r => .cons (.int x) (ints_dp r)
def spRule (K : PySem.W.Frag) : Sp := fun vs H Q _ => ∃ (a p : Addr) (k : Nat) (near : List Str) (sort : Str) (c : Int), vs = [.ref a, .int k, .ref p, .str sort] ∧ Fd H a c ∧ (k = 2 ∨ k = 3) ∧ H p = some (.lst (near.map V.str)) ∧ p ≠ a ∧ near.length ≤ 7 ∧ (∀ z ∈ near, nmOk z = true) ∧ c < 10 ^ 12 ∧
  ∀ (v : V) (d : PyData) (H' : Hp), RuleD k near d → Dp K H' v d → Fd H' a (c + 10000000) → Ch a H H' → Q v H'
end
section
open L2 PySem PySem.Spec PyProof.Rows
section
variable {X : Cx} {K : PySem.W.Frag}
theorem k_tuple (hK : X.K = K := by rfl) : CallR X (.type "tuple") (rTupleOf K) := by subst hK; exact j_tuple
theorem k_list (hK : X.K = K := by rfl) : CallR X (.type "list") (rListOf K) := by subst hK; exact j_list
theorem k_len (hK : X.K = K := by rfl) : CallR X (.builtin "len") (rLenQ K) := by subst hK; exact j_len
theorem k_all (hc : X.calm = true) (hK : X.K = K := by rfl) : CallR X (.builtin "all") (rAll K) := by subst hK; exact cr_all hc
theorem k_isi (hK : X.K = K := by rfl) : CallR X (.builtin "isinstance") (rIsi K) := by subst hK; exact call_isi
theorem k_show (hg : X.A.guards = some []) (hu : X.A.units + 64 < cLine) (hK : X.K = K := by rfl) : CallR X (.builtin "repr") (rShow K) := by subst hK; exact call_show hg hu
theorem k_ixL (hK : X.K = K := by rfl) : IxR X (rIxL K) := by subst hK; exact ix_list
theorem k_ixT (hK : X.K = K := by rfl) : IxR X (rIxT K) := by subst hK; exact ix_tup
theorem k_slL (hK : X.K = K := by rfl) : SlR X (rSlL K) := by subst hK; exact sl_list
theorem ksl_tup (hK : X.K = K := by rfl) : SlR X (rSlA K) := by subst hK; exact sl_tupA
theorem k_inS (hK : X.K = K := by rfl) : OpR X (compareOp .In) (rIn K false) := by subst hK; exact op_in_seq
theorem k_inQ (hu : X.A.units + 64 < cLine) (hK : X.K = K := by rfl) : OpR X (compareOp .In) (rInQ K false) := by subst hK; exact o_inQ hu
theorem k_eqD (hu : X.A.units + 64 < cLine) (hK : X.K = K := by rfl) : OpR X (compareOp .Eq) (rEqD K) := by subst hK; exact op_eqD hu
theorem k_neD (hu : X.A.units + 64 < cLine) (hK : X.K = K := by rfl) : OpR X (compareOp .NotEq) (rNeD K) := by subst hK; exact op_neD hu
variable {e : Expr} {es : List Expr} {t : TE} {tg : Expr} {to : TE} {ta : TA} {name : Str} {apos cpos pos : Pos} {T id : String} {r : V → List V → Hp → VK → Prop} {o : Expr}
theorem kpi_list (h : PE X e t) (hK : X.K = K := by rfl) : PI X tg e (iList K t) := by subst hK; exact pi_list h
theorem kpi_tup (h : PE X e t) (hK : X.K = K := by rfl) : PI X tg e (iTup K t) := by subst hK; exact pi_tup h
theorem kpg_tup {k n : Nat} {u : TGs} (hc : X.calm = true) (h : PGs X es u) (hK : X.K = K := by rfl) (h1 : (assignEach es X.env).length = n := by rfl) (h2 : List.findIdx? (fun x => x.fst) (assignEach es X.env) = none := by rfl) : PG X (.Tuple es k pos) (gTup K n u) := by subst hK; exact pg_tup hc h h1 h2
end
end
section
open L2 PySem PySem.Spec PyProof.Rows
def hallD (k : Nat) (ps : List Str) (rs : List (Str × Str)) (ds : List PyData) : PyData := .tuple [.int k, webD ps rs, .tuple ds]
structure IsHall (k : Nat) (ps : List Str) (rs : List (Str × Str)) (ds : List PyData) : Prop where
  two : k = 2 ∨ k = 3
  web : IsWeb ps rs
  few : k ^ ps.length ≤ 256
  len : ds.length = ps.length
  rules : ∀ (i : Nat) z d, ps[i]? = some z → ds[i]? = some d → RuleD k (nearL ps rs z) d
theorem near_len {ps : List Str} {rs : List (Str × Str)} {x : Str} (W : IsWeb ps rs) (hx : x ∈ ps) : (nearL ps rs x).length ≤ 7 := by
  have no : isRoad rs x x = false := by
    cases h : isRoad rs x x with
    | false => rfl
    | true =>
      have hm : (x, x) ∈ rs := by simpa [isRoad] using h
      exact absurd rfl (W.ends _ hm).2.2
  have h1 : (nearL ps rs x).length < ps.length := by
    unfold nearL
    refine Nat.lt_of_le_of_ne (List.length_filter_le _ _) fun e => ?_
    have := (List.length_filter_eq_length_iff.mp e) x hx
    simp [no] at this
  have := W.le8
  omega
theorem near_names {ps : List Str} {rs : List (Str × Str)} {x : Str} (W : IsWeb ps rs) : ∀ z ∈ nearL ps rs x, nmOk z = true := fun z hz => W.names.2 z (List.mem_filter.mp hz).1
theorem rules_only {ds : List PyData} : (∀ d ∈ ds, ∃ k near, RuleD k near d) → tupOnlyAll ds = true := by
  induction ds with
  | nil => intro _; rfl
  | cons x r ih =>
    intro h
    obtain ⟨k, near, hx⟩ := h x List.mem_cons_self
    show (tupOnly x && tupOnlyAll r) = true
    rw [rule_only hx, ih fun d hd => h d (List.mem_cons_of_mem _ hd)]
    rfl
def RulesTo (k : Nat) (ps : List Str) (rs : List (Str × Str)) (ds : List PyData) : Prop := ∀ (i : Nat) d, ds[i]? = some d → ∃ z, ps[i]? = some z ∧ RuleD k (nearL ps rs z) d
theorem RulesTo.nil {k : Nat} {ps : List Str} {rs : List (Str × Str)} : RulesTo k ps rs [] := fun i d h => by simp at h
theorem RulesTo.snoc {k : Nat} {ps : List Str} {rs : List (Str × Str)} {ds : List PyData} {d : PyData} {z : Str} (h : RulesTo k ps rs ds) (hz : ps[ds.length]? = some z) (hd : RuleD k (nearL ps rs z) d) : RulesTo k ps rs (ds ++ [d]) := fun i e he => by
  by_cases hi : i < ds.length
  · rw [List.getElem?_append_left hi] at he
    exact h i e he
  · rw [List.getElem?_append_right (by omega)] at he
    cases q : i - ds.length with
    | succ m => rw [q] at he; simp at he
    | zero =>
      rw [q] at he
      have : d = e := by simpa using he
      subst this
      have : i = ds.length := by omega
      subst this
      exact ⟨z, hz, hd⟩
theorem RulesTo.only {k : Nat} {ps : List Str} {rs : List (Str × Str)} {ds : List PyData} (h : RulesTo k ps rs ds) : tupOnlyAll ds = true := rules_only fun d hd => by
  obtain ⟨i, hi⟩ := List.getElem?_of_mem hd
  obtain ⟨z, _, hr⟩ := h i d hi
  exact ⟨_, _, hr⟩
theorem RulesTo.hall {k : Nat} {ps : List Str} {rs : List (Str × Str)} {ds : List PyData} (h : RulesTo k ps rs ds) (h2 : k = 2 ∨ k = 3) (W : IsWeb ps rs) (hf : k ^ ps.length ≤ 256) (hl : ds.length = ps.length) : IsHall k ps rs ds :=
  ⟨h2, W, hf, hl, fun i z d hz hd => by
    obtain ⟨z', hz', hr⟩ := h i d hd
    rw [hz] at hz'
    cases hz'
    exact hr⟩
end
section
open L2 PySem PySem.Spec PyProof.Rows
theorem pe_ty {X : Cx} {x : Str} {T : String} {p : Pos} (hm : X.mg x = none) (hv : bootBuiltins x = some (.type T)) (hg : Gl X x := by rfl) (h1 : x ≠ "__name__" := by decide) (h2 : (x == ("__debug__" : Str)) = false := by decide) : PE X (.Name x p) (tC (.ty T)) := pe_bltn (v := .ty T) hg hm hv rfl h1 h2
section
variable {K : PySem.W.Frag} {H : Hp} {Q : VK}
theorem i_isi {x : V} {n T : String} {b : Bool} (ty : TyX K H x (.type n)) (e : kitB n T = some b) (h : Q (.bl b) H) : rIsi K [x, .ty T] H Q :=
  ⟨x, .ty T, .type n, .type T, b, rfl, .ty T, ty, kit_ty e, h⟩
theorem ty_tup {a : Addr} {xs : List V} (s : SqT K H a xs) : TyX K H (.ref a) (.type "tuple") := by
  rcases s with (e | ⟨o, e⟩) | ⟨o, its, n, e, c, _⟩
  · exact .base (.tup e)
  · exact .fTuple e
  · exact .kTuple e c
theorem is_int (i : Int) (h : Q (.bl true) H) : rIsi K [.int i, .ty "int"] H Q := i_isi (.base (.int i)) (by decide +kernel) h
theorem is_int_bool (i : Int) (h : Q (.bl false) H) : rIsi K [.int i, .ty "bool"] H Q := i_isi (.base (.int i)) (by decide +kernel) h
theorem is_str (z : Str) (h : Q (.bl true) H) : rIsi K [.str z, .ty "str"] H Q := i_isi (.base (.str z)) (by decide +kernel) h
theorem is_tup {a : Addr} {xs : List V} (s : SqT K H a xs) (h : Q (.bl true) H) : rIsi K [.ref a, .ty "tuple"] H Q := i_isi (ty_tup s) (by decide +kernel) h
end
theorem i_iteNT {A B : Prop} (h : B) : if (!true) = true then A else B := h
theorem i_iteNF {A B : Prop} (h : A) : if (!false) = true then A else B := h
theorem all_true {H : Hp} {K : PySem.W.Frag} {Q : VK} {p : Addr} {n : Nat} (e : SqL K H p ((List.range n).map fun _ => V.bl true)) (h : Q (.bl true) H) : rAll K [.ref p] H Q := by
  refine i_all (bs := (List.range n).map fun _ => true) ?_ ?_
  · rw [List.map_map]
    exact e
  · rw [List.all_eq_true.mpr fun x hx => by
      obtain ⟨_, _, rfl⟩ := List.mem_map.mp hx
      rfl]
    exact h
def spPower : Sp := fun vs H Q _ => ∃ (b e : Nat), vs = [.int b, .int e] ∧ b ≤ 3 ∧ e ≤ 8 ∧ Q (.int ((b ^ e : Nat) : Int)) H
def spIsInt : Sp := fun vs H Q _ => ∃ i : Int, vs = [.int i] ∧ Q (.bl true) H
def spAreStates (K : PySem.W.Frag) : Sp := fun vs H Q _ => ∃ (a : Addr) (k : Nat) (t : List Nat), vs = [.ref a, .int k, .int t.length] ∧ SqT K H a (t.map fun n => V.int ((n : Nat) : Int)) ∧ t.length ≤ 10000 ∧ (∀ x ∈ t, x < k) ∧ ∀ H', Same H H' → Q (.bl true) H'
def spTableLen (K : PySem.W.Frag) : Sp := fun vs H Q _ => ∃ (p : Addr) (k : Nat) (near : List Str), vs = [.int k, .ref p] ∧ SqA K H p (near.map V.str) ∧ near.length ≤ 7 ∧ k ≤ 3 ∧ Q (.int ((k ^ (near.length + 1) : Nat) : Int)) H
def spSumLen (K : PySem.W.Frag) : Sp := fun vs H Q _ => ∃ (p : Addr) (k : Nat) (near : List Str), vs = [.int k, .ref p] ∧ SqA K H p (near.map V.str) ∧ near.length ≤ 7 ∧ 2 ≤ k ∧ k ≤ 3 ∧ Q (.int ((near.length * (k - 1) + 1 : Nat) : Int)) H
def spAreSums (K : PySem.W.Frag) : Sp := fun vs H Q _ => ∃ (a p : Addr) (us : List V) (ts : List (List Nat)) (k : Nat) (near : List Str), vs = [.ref a, .int k, .ref p] ∧ SqT K H a us ∧ DpAll K H us (ts.map intsD) ∧ SqT K H p (near.map V.str) ∧ near.length ≤ 7 ∧ 2 ≤ k ∧ k ≤ 3 ∧ ts.length = k ∧
  (∀ t ∈ ts, t.length = near.length * (k - 1) + 1 ∧ ∀ x ∈ t, x < k) ∧ ∀ H', Same H H' → Q (.bl true) H'
def spIsRule (K : PySem.W.Frag) : Sp := fun vs H Q _ => ∃ (v : V) (d : PyData) (p : Addr) (k : Nat) (near : List Str), vs = [v, .int k, .ref p] ∧ Dp K H v d ∧ RuleD k near d ∧ SqT K H p (near.map V.str) ∧ near.length ≤ 7 ∧ (∀ z ∈ near, nmOk z = true) ∧ 2 ≤ k ∧ k ≤ 3 ∧ ∀ H', Same H H' → Q (.bl true) H'
end
section
open L2 PySem PySem.Spec PyProof.Rows
abbrev Tt (P : Program) (w : World) (h : Heap) (k : List Str) (b : Addr) : Prop := IsTupleKey (PySem.strKind P w) h k b
abbrev tx (P : Program) (w : World) (k : List Str) : Int := tupleKeyHash (PySem.strKind P w) k
def trow (P : Program) (w : World) (p : Addr × List Str) : Int × Value := (tx P w p.2, .ref p.1)
abbrev pr (m : Nat) (h : Int) (c : Nat) : SetTable.Probe := nth m (runAt m (SetTable.bits h % (m + 1)) (SetTable.bits h)) c
section
variable {P : Program} {w : World} {A : Around} {E : Value → Shared → Prop} {s : Shared}
theorem texts_of {k : List Str} {vs : List Value} (h : ItemsAre (PySem.strKind P w) k vs) : ∀ v ∈ vs, ∃ z t, v = Value.str z t := by
  induction h with
  | nil => exact fun v hv => nomatch hv
  | cons h1 _ ih =>
    intro v hv
    cases hv with
    | head =>
      obtain ⟨t, e⟩ := Value.isStrOf_shape h1
      exact ⟨_, t, e⟩
    | tail _ hv => exact ih v hv
theorem noClass_str (n : Nat) (z : Str) (t : Tok) : ofAClassStatement n (.str z t) = pure false := by cases n <;> rfl
theorem byVal_str (n : Nat) (z : Str) (t : Tok) : hashByValue n (.str z t) = pure false := hashByValue_scannable n (rfl : (Value.str z t).scannable = true)
theorem noClass_tt {k : List Str} {b : Addr} {Q : Bool → Shared → Prop} (hk : Tt P w s.heap k b) (q : Q false s) : wpAny (model P w) A (ofAClassStatement 8 (.ref b)) Q E s := by
  have ty := hk.typeIs
  obtain ⟨o, its, n, g, _, d, al⟩ := hk
  have al := texts_of al
  unfold ofAClassStatement
  refine wpAny_bind (wpAny_typeOf ty ?_)
  dsimp only
  simp only [show (("tuple" : String) == "tuple") = true from by decide, if_true, Bool.not_true, Bool.false_eq_true, if_false]
  try refine wpAny_bind (wpAny_pure ?_)
  try simp only [Bool.not_true, Bool.false_eq_true, if_false]
  show wpAny _ _ (seqItems? (.ref b) >>= _) _ _ s
  refine wpAny_bind (wpAny_seqItems g d ?_)
  dsimp only
  refine wpAny_bind ?_
  show wpAny _ _ (forIn its _ _) _ _ s
  rw [← Array.forIn_toList]
  refine wpAny_forIn_list _ (fun l r z => (∀ v ∈ l, ∃ y t, v = Value.str y t) ∧ r.1 = none ∧ z = s) _ (fun v l r z => ?_) (fun r z => ?_) _ _ ⟨al, rfl, rfl⟩
  · rintro ⟨h1, h2, rfl⟩
    obtain ⟨y, t, rfl⟩ := h1 v (.head _)
    rw [noClass_str]
    refine wpAny_bind (wpAny_pure ?_)
    simp only [Bool.false_eq_true, if_false]
    exact wpAny_pure ⟨fun u hu => h1 u (.tail _ hu), rfl, rfl⟩
  · obtain ⟨r1, r2⟩ := r
    rintro ⟨_, h2, rfl⟩
    simp only at h2
    subst h2
    exact wpAny_pure q
theorem byVal_tt {k : List Str} {b : Addr} {Q : Bool → Shared → Prop} (hk : Tt P w s.heap k b) (q : ∀ v, Q v s) : wpAny (model P w) A (hashByValue 8 (.ref b)) Q E s := by
  have ty := hk.typeIs
  obtain ⟨o, its, n, g, _, d, al⟩ := hk
  have al := texts_of al
  unfold hashByValue
  refine wpAny_bind (wpAny_specialOf ty F.slot_tuple_hash.lookup ?_)
  show wpAny _ _ (seqItems? (.ref b) >>= _) _ _ s
  refine wpAny_bind (wpAny_seqItems g d (wpAny_bind ?_))
  show wpAny _ _ (forIn its _ _) _ _ s
  rw [← Array.forIn_toList]
  refine wpAny_forIn_list _ (fun l r z => (∀ v ∈ l, ∃ y t, v = Value.str y t) ∧ r.1 = none ∧ z = s) _ (fun v l r z => ?_) (fun r z => ?_) _ _ ⟨al, rfl, rfl⟩
  · rintro ⟨h1, h2, rfl⟩
    obtain ⟨y, t, rfl⟩ := h1 v (.head _)
    rw [byVal_str]
    refine wpAny_bind (wpAny_pure ?_)
    simp only [Bool.not_false, if_true]
    exact wpAny_pure (wpAny_pure (q _))
  · obtain ⟨r1, r2⟩ := r
    rintro ⟨_, h2, rfl⟩
    simp only at h2
    subst h2
    exact wpAny_pure (q _)
theorem unseen_tt {k : List Str} {b : Addr} {Q : Bool → Shared → Prop} (hk : Tt P w s.heap k b) {ys : List Value} (hy : ∀ y ∈ ys, ∃ k' c, y = Value.ref c ∧ Tt P w s.heap k' c) (q : Q false s) :
    wpAny (model P w) A (searchCouldBeSeen (.ref b) ys) Q E s := by
  unfold searchCouldBeSeen
  refine wpAny_bind (wpAny_forIn_list _ (fun l r z => (∀ y ∈ l, ∃ k' c, y = Value.ref c ∧ Tt P w s.heap k' c) ∧ r.1 = none ∧ z = s) _ (fun v l r z => ?_) (fun r z => ?_) _ _ ⟨hy, rfl, rfl⟩)
  · rintro ⟨h1, h2, rfl⟩
    obtain ⟨k', c, rfl, hc⟩ := h1 v (.head _)
    have on : ∀ u ∈ l, ∃ k' c, u = Value.ref c ∧ Tt P w z.heap k' c := fun u hu => h1 u (.tail _ hu)
    dsimp only
    by_cases e : (b == c || (carriedByValue (.ref b) && carriedByValue (.ref c))) = true
    · exact wp_if_pos e (wpAny_pure ⟨on, rfl, rfl⟩)
    · refine wp_if_neg e (wpAny_bind (wpAny_eqIsQuiet_tuple hk ?_))
      simp only [Bool.not_true, Bool.false_eq_true, if_false]
      refine wpAny_bind (wpAny_eqIsQuiet_tuple hc ?_)
      simp only [Bool.not_true, Bool.false_eq_true, if_false]
      refine wpAny_bind (noClass_tt hk ?_)
      simp only [Bool.false_eq_true, if_false]
      refine wpAny_bind (noClass_tt hc ?_)
      simp only [Bool.false_eq_true, if_false]
      exact wpAny_pure ⟨on, rfl, rfl⟩
  · obtain ⟨r1, r2⟩ := r
    rintro ⟨_, h2, rfl⟩
    simp only at h2
    subst h2
    exact wpAny_pure q
structure TxS (P : Program) (w : World) (h : Heap) (a : Addr) (L : List (Addr × List Str)) (es : Array (Int × Value)) (ep : Nat) (t : SetTable) : Prop where
  here : ∃ o, h.get? a = some o ∧ o.ExactSet ∧ o.data = .set es ep t
  rows : es.toList = L.map (trow P w)
  tab : TabOk t (L.map fun p => tx P w p.2)
  led : w.params.followText "set-order" = true ∨ t.led = true
  room : L.length * 5 < t.mask * 3
  few : L.length < 64
variable {a : Addr} {L : List (Addr × List Str)} {es : Array (Int × Value)} {ep : Nat} {t : SetTable}
theorem rows_size (r : es.toList = L.map (trow P w)) : es.size = L.length := by
  simpa using congrArg List.length r
theorem fits_of {hs : List Int} (T : TabOk t hs) (hn : es.size = hs.length) (hm : hs.length ≤ t.mask) : t.fits es.size = true := by
  have z := T.sz
  simp only [SetTable.fits, SetTable.fill, T.dm, Bool.and_eq_true, beq_iff_eq, decide_eq_true_eq]
  exact ⟨by omega, by show t.place.size + 0 ≤ t.mask; omega⟩
theorem TxS.size (R : TxS P w s.heap a L es ep t) : es.size = L.length := rows_size R.rows
theorem TxS.fits (R : TxS P w s.heap a L es ep t) : t.fits es.size = true := by
  refine fits_of R.tab (by rw [R.size, List.length_map]) ?_
  have z := R.room
  rw [List.length_map]
  omega
theorem TxS.entry (R : TxS P w s.heap a L es ep t) {i : Nat} {p : Addr × List Str} (h : L[i]? = some p) : es[i]? = some (trow P w p) := by
  rw [← Array.getElem?_toList, R.rows, List.getElem?_map, h, Option.map_some]
theorem pr_dummy (m : Nat) (h : Int) (c : Nat) : (pr m h c).dummy = none := by
  have z : ∀ n (p : SetTable.Probe), p.dummy = none → (nth m p n).dummy = none := by
    intro n
    induction n with
    | zero => exact fun p e => e
    | succ n ih =>
      intro p e
      exact ih _ (by unfold adv; split <;> exact e)
  exact z c _ rfl
theorem TxS.search (R : TxS P w s.heap a L es ep t) (hT : ∀ p ∈ L, Tt P w s.heap p.2 p.1) {x : Addr} {k : List Str} (hx : Tt P w s.heap k x) (hu : A.units < cLine) (hk : ∀ p ∈ L, p.2 ≠ k) {K : Nat}
    (hKf : K < 10 * SetTable.turns t.mask) (hK : way t.mask (tx P w k) K ∉ t.place.toList) (hKb : ∀ c, c < K → way t.mask (tx P w k) c ∈ t.place.toList) {Q : SetFound → Shared → Prop}
    (q : Q (.free (way t.mask (tx P w k) K) false) s) : ∀ (f c : Nat) (st : Option SetTable.Probe), st.getD (t.probeStart (tx P w k)) = pr t.mask (tx P w k) c → c ≤ K → K - c < f →
      wpAny (model P w) A (setSearchFrom a (.ref x) (tx P w k) true f st) Q E s := by
  obtain ⟨o, g, hex, hd⟩ := R.here
  intro f
  induction f with
  | zero => exact fun c st _ _ z => absurd z (Nat.not_lt_zero _)
  | succ f ih =>
    intro c st hst hc hf
    have on : ∀ n, nth t.mask (pr t.mask (tx P w k) c) n = pr t.mask (tx P w k) (c + n) := fun n => (nth_add t.mask c _ n).symm
    have end_ : (nth t.mask (pr t.mask (tx P w k) c) (K - c)).j = way t.mask (tx P w k) K := by rw [on, Nat.add_sub_cancel' hc]
    rw [setSearchFrom_succ]
    refine wpAny_bind (wpAny_setState_of g hd R.fits ?_)
    dsimp only
    refine wp_if_neg (by unfold SetTable.gaveWay; rw [mask_odd R.tab.mok]; decide) ?_
    try refine wpAny_bind (wpAny_pure ?_)
    rcases go_spec t R.tab.ris R.tab.dm (fun i => (es[i]?.map (·.1)).getD 0) (tx P w k) (10 * SetTable.turns t.mask) (K - c) _ (pr_dummy _ _ c) (by omega)
      (fun n hn => by rw [on]; exact hKb _ (by omega)) (by rw [end_]; exact hK) with ⟨n, i, hn, hi, _, _, e⟩ | ⟨_, e⟩
    · rw [on, on, ← hst] at e
      rw [show t.probe (fun i => (es[i]?.map (·.1)).getD 0) (tx P w k) (st.getD (t.probeStart (tx P w k))) = _ from e]
      dsimp only
      rw [on] at hi
      have hl : i < L.length := by
        have h1 := (List.getElem?_eq_some_iff.mp hi).1
        have h2 := R.tab.sz
        rw [List.length_map] at h2
        rw [Array.length_toList] at h1
        omega
      have hp := List.getElem?_eq_getElem hl
      have me : L[i] ∈ L := List.getElem_mem hl
      have go : wpAny (model P w) A (searchRest a (.ref x) (tx P w k) true f es t (way t.mask (tx P w k) (c + n)) i (pr t.mask (tx P w k) (c + (n + 1)))) Q E s := by
        unfold searchRest
        rw [R.entry hp]
        dsimp only [trow]
        refine wpAny_bind (wpAny_holding (wpAny_eqBool_tuple hu (hT _ me) hx ?_))
        rw [decide_eq_false (hk _ me)]
        refine wpAny_bind (wpAny_setState_of g hd R.fits ?_)
        dsimp only
        refine wp_if_neg (by decide) ?_
        try refine wpAny_bind (wpAny_pure ?_)
        rw [L2.sameMem]
        dsimp only
        simp only [if_true, slot_live R.tab.ris hi, R.entry hp]
        refine wpAny_bind (wpAny_isSame_ref_self (wpAny_bind (wpAny_pure ?_)))
        simp only [if_true]
        refine wp_if_neg Bool.false_ne_true ?_
        exact ih (c + (n + 1)) _ rfl (by omega) (by omega)
      by_cases hl : t.led = true
      · refine wp_if_neg (by simp [hl]) ?_
        try refine wpAny_bind (wpAny_pure ?_)
        exact go
      · refine wp_if_pos (by simp [hl]) (wpAny_bind (unseen_tt hx (fun y hy => ?_) ?_))
        · obtain ⟨u, hu1, hu2⟩ := List.mem_map.mp hy
          have hu3 : u ∈ es ∧ u.1 = tx P w k := by simpa using hu1
          have hu4 : u ∈ es.toList := by simpa using hu3.1
          rw [R.rows] at hu4
          obtain ⟨p, hp1, hp2⟩ := List.mem_map.mp hu4
          exact ⟨p.2, p.1, by rw [← hu2, ← hp2]; rfl, hT p hp1⟩
        · refine wp_if_neg (by decide) ?_
          try refine wpAny_bind (wpAny_pure ?_)
          exact go
    · rw [end_, ← hst] at e
      rw [show t.probe (fun i => (es[i]?.map (·.1)).getD 0) (tx P w k) (st.getD (t.probeStart (tx P w k))) = _ from e]
      dsimp only
      exact wpAny_pure q
theorem TxS.look (R : TxS P w s.heap a L es ep t) (hT : ∀ p ∈ L, Tt P w s.heap p.2 p.1) {x : Addr} {k : List Str} (hx : Tt P w s.heap k x) (hu : A.units < cLine) (hk : ∀ p ∈ L, p.2 ≠ k) {Q : SetFound → Shared → Prop}
    (q : ∀ K, way t.mask (tx P w k) K ∉ t.place.toList → (∀ c, c < K → way t.mask (tx P w k) c ∈ t.place.toList) → Q (.free (way t.mask (tx P w k) K) false) s) :
    wpAny (model P w) A (setSearch a (.ref x) (tx P w k) true) Q E s := by
  have rm := R.room
  obtain ⟨K, h1, h2, h3⟩ := R.tab.first (by rw [List.length_map]; omega) (tx P w k)
  have h4 : K < 100000 := by
    have : 10 * SetTable.turns t.mask ≤ 1420 := by
      unfold SetTable.turns
      rcases R.tab.mok with e | e | e <;> omega
    omega
  unfold setSearch
  exact R.search hT hx hu hk h1 h2 h3 (q K h2 h3) 100000 0 none rfl (Nat.zero_le _) (by omega)
theorem picked {α β : Type} (g : α → β) (d : β) (L : List α) : ∀ l : List Nat, (∀ i ∈ l, i < L.length) → (l.filterMap fun i => L[i]?).map g = l.map fun i => (L.map g).getD i d
  | [], _ => rfl
  | i :: l, h => by
    have hi : i < L.length := h i (.head _)
    rw [List.filterMap_cons_some (List.getElem?_eq_getElem hi), List.map_cons, List.map_cons, picked g d L l fun j hj => h j (.tail _ hj)]
    congr 1
    rw [List.getD_eq_getElem?_getD, List.getElem?_map, List.getElem?_eq_getElem hi]
    rfl
theorem all_picked {α : Type} (L : List α) : ∀ n, n ≤ L.length → (List.range n).filterMap (fun i => L[i]?) = L.take n
  | 0, _ => rfl
  | n + 1, h => by
    rw [List.range_succ, List.filterMap_append, all_picked L n (Nat.le_of_succ_le h), List.take_succ]
    cases e : L[n]? <;> simp [e]
variable {o : Obj}
theorem relay_tx (g : s.heap.get? a = some o) (hex : o.ExactSet) (hd : o.data = .set es ep t) (hr : es.toList = L.map (trow P w)) (T : TabOk t (L.map fun p => tx P w p.2)) (hm : L.length ≤ t.mask) (ld : w.params.followText "set-order" = true ∨ t.led = true) (few : L.length < 64)
    {wd M : Nat} (hw : SetTable.sizeAbove wd - 1 = M) (hM : MaskOk M) (h128 : SetTable.sizeAbove wd ≤ 128) (hn : L.length * 5 < M * 3) {Q : Unit → Shared → Prop}
    (q : ∀ h' L' es' ep' t', Heap.SameBut a s.heap h' → TxS P w h' a L' es' ep' t' → L'.Perm L → Q () { s with heap := h' }) : wpAny (model P w) A (setRelay a wd) Q E s := by
  have sz := rows_size hr
  have ft : t.fits es.size = true := fits_of T (by rw [sz, List.length_map]) (by rw [List.length_map]; exact hm)
  obtain ⟨t', od, e, pm, T', m', l', p', _⟩ := relaid_ok t (hs := es.map (·.1)) (wanted := wd) hw hM (by rw [Array.size_map, sz]; omega)
  rw [Array.size_map, sz] at pm
  have lt : ∀ i ∈ od.toList, i < L.length := fun i hi => List.mem_range.mp (pm.mem_iff.mp hi)
  have eL : (es.map (·.1)).toList = L.map fun p => tx P w p.2 := by
    rw [Array.toList_map, hr, List.map_map]
    rfl
  have e1 : (od.filterMap (es[·]?)).toList = (od.toList.filterMap fun i => L[i]?).map (trow P w) := by
    rw [Array.toList_filterMap, picked (trow P w) (0, .none) L _ lt]
    have : ∀ l : List Nat, (∀ i ∈ l, i < L.length) → l.filterMap (fun i => es[i]?) = l.map fun i => (L.map (trow P w)).getD i (0, .none) := by
      intro l
      induction l with
      | nil => exact fun _ => rfl
      | cons i l ih =>
        intro hl
        have z : es[i]? = some ((L.map (trow P w)).getD i (0, .none)) := by
          rw [← Array.getElem?_toList, hr, List.getD_eq_getElem?_getD, List.getElem?_map, List.getElem?_eq_getElem (hl i (.head _))]
          rfl
        rw [List.filterMap_cons_some z, ih fun j hj => hl j (.tail _ hj), List.map_cons]
    exact this _ lt
  have e2 : (od.toList.filterMap fun i => L[i]?).map (fun p => tx P w p.2) = od.toList.map fun i => (es.map (·.1)).getD i 0 := by
    rw [picked (fun p : Addr × List Str => tx P w p.2) 0 L _ lt]
    refine List.map_congr_left fun i _ => ?_
    rw [← eL]
    simp [List.getD_eq_getElem?_getD, Array.getD_eq_getD_getElem?]
  have e3 : (od.toList.filterMap fun i => L[i]?).Perm L := by
    have z := pm.filterMap fun i => L[i]?
    rw [all_picked L L.length (Nat.le_refl _), List.take_length] at z
    exact z
  rw [← e2] at T'
  generalize (od.toList.filterMap fun i => L[i]?) = L2 at e1 e3 T'
  have s2 := rows_size e1
  rw [e3.length_eq] at s2
  rw [setRelay_eq]
  refine wpAny_bind (wpAny_setState_of g hd ft ?_)
  dsimp only
  refine wp_if_neg (by rw [sizeLine_eq]; omega) ?_
  try refine wpAny_bind (wpAny_pure ?_)
  rw [e]
  dsimp only
  refine wpAny_bind (wp_if_neg (by rw [s2, sz]; simp) ?_)
  try refine wpAny_bind (wpAny_pure ?_)
  refine wpAny_pure ?_
  dsimp only
  refine wpAny_storeSet_of g hd (q _ L2 _ (ep + 1) t' (Heap.SameBut.update ..) ⟨⟨_, store_at g hd, hex, rfl⟩, e1, T', by rw [l']; exact ld, ?_, ?_⟩ e3) (by rw [s2, sizeLine_eq]; omega)
  · rw [e3.length_eq, m']
    exact hn
  · rw [e3.length_eq]
    exact few
theorem TxS.add (R : TxS P w s.heap a L es ep t) (hT : ∀ p ∈ L, Tt P w s.heap p.2 p.1) {x : Addr} {k : List Str} (hx : Tt P w s.heap k x) (hu : A.units < cLine) (hk : ∀ p ∈ L, p.2 ≠ k) (hf : L.length + 1 < 64) {Q : Bool → Shared → Prop}
    (q : ∀ h' L' es' ep' t', Heap.SameBut a s.heap h' → TxS P w h' a L' es' ep' t' → L'.Perm ((x, k) :: L) → Q true { s with heap := h' }) :
    wpAny (model P w) A (setAddHashed a (.ref x) (tx P w k)) Q E s := by
  obtain ⟨o, g, hex, hd⟩ := R.here
  have sz := R.size
  have rm := R.room
  unfold setAddHashed
  refine wpAny_holding ?_
  rw [show (100000 : Nat) = 99999 + 1 from rfl, setAddHashedIn_succ]
  refine wpAny_bind (wpAny_setState_of g hd R.fits ?_)
  dsimp only
  refine wp_if_neg (by simp [byScan, Value.scannable]) ?_
  try refine wpAny_bind (wpAny_pure ?_)
  refine wpAny_bind (R.look hT hx hu hk fun K hK hb => ?_)
  dsimp only
  refine wpAny_bind (wpAny_setState_of g hd R.fits ?_)
  dsimp only
  obtain ⟨q1, q2, q3, q4, q5, q6, q7, q8, q9⟩ := R.tab.put hK hb
  generalize hu1 : t.put (way t.mask (tx P w k) K) = u at q1 q3 q4 q5 q6 q7 q8 q9 ⊢
  obtain ⟨t1, n⟩ := u
  dsimp only at q1 q3 q4 q5 q6 q7 q8 q9 ⊢
  subst q1
  have key : ∀ t2 : SetTable, TabOk t2 ((L.map fun p => tx P w p.2).take (SetTable.below t.place (way t.mask (tx P w k) K)) ++ tx P w k :: (L.map fun p => tx P w p.2).drop (SetTable.below t.place (way t.mask (tx P w k) K))) → t2.mask = t.mask → t2.led = t.led → t2.fill = t1.fill →
      wpAny (model P w) A (do
        storeSet a (SetTable.insertAt es (SetTable.below t.place (way t.mask (tx P w k) K)) (tx P w k, Value.ref x)) t2
        if !false && t2.tooFull then setRelay a (SetTable.grown (es.size + 1))
        return true) Q E s := fun t2 q3 q4 q5 q9' => by
    generalize hn : SetTable.below t.place (way t.mask (tx P w k) K) = n at q2 q3
    have r1 : (SetTable.insertAt es n (tx P w k, Value.ref x)).toList = (L.take n ++ (x, k) :: L.drop n).map (trow P w) := by
      rw [SetTable.toList_insertAt, R.rows, List.map_append, List.map_cons, List.map_take, List.map_drop]
      rfl
    have e3 : (L.take n ++ (x, k) :: L.drop n).map (fun p => tx P w p.2) = (L.map fun p => tx P w p.2).take n ++ tx P w k :: (L.map fun p => tx P w p.2).drop n := by
      rw [List.map_append, List.map_cons, List.map_take, List.map_drop]
    rw [← e3] at q3
    have pm : (L.take n ++ (x, k) :: L.drop n).Perm ((x, k) :: L) := put_perm L n (x, k)
    generalize SetTable.insertAt es n (tx P w k, Value.ref x) = es1 at r1 ⊢
    generalize L.take n ++ (x, k) :: L.drop n = L1 at r1 q3 pm
    have l1 : L1.length = L.length + 1 := pm.length_eq
    have s1 := rows_size r1
    rw [l1] at s1
    refine wpAny_bind (wpAny_storeSet_of g hd ?_ (by rw [s1, sizeLine_eq]; omega))
    have sb : Heap.SameBut a s.heap (s.heap.update a (Obj.putSet es1 t2)) := Heap.SameBut.update ..
    have g1 := store_at (es' := es1) (t' := t2) g hd
    generalize s.heap.update a (Obj.putSet es1 t2) = h1 at sb g1 ⊢
    have ld1 : w.params.followText "set-order" = true ∨ t2.led = true := by rw [q5]; exact R.led
    by_cases hfull : t2.tooFull = true
    · have z := hfull
      unfold SetTable.tooFull at z
      rw [decide_eq_true_eq, q9', q9, List.length_map] at z
      have two : (t.mask = 7 ∧ L.length = 4) ∨ (t.mask = 31 ∧ L.length = 18) := by
        rcases R.tab.mok with e | e | e <;> rw [q4, e] at z <;> rw [e] at rm
        · exact .inl ⟨e, by omega⟩
        · exact .inr ⟨e, by omega⟩
        · omega
      have step : ∀ M, SetTable.sizeAbove (SetTable.grown (L.length + 1)) - 1 = M → MaskOk M → SetTable.sizeAbove (SetTable.grown (L.length + 1)) ≤ 128 → (L.length + 1) * 5 < M * 3 →
          wpAny (model P w) A (setRelay a (SetTable.grown (L.length + 1))) (fun _ s' => wpAny (model P w) A (pure true) Q E s') E { s with heap := h1 } := fun M a1 a2 a3 a4 =>
        relay_tx (s := { s with heap := h1 }) g1 hex rfl r1 q3 (by rw [l1, q4]; rcases two with ⟨e, e2⟩ | ⟨e, e2⟩ <;> omega) ld1 (by rw [l1]; exact hf) a1 a2 a3 (by rw [l1]; exact a4)
          fun h2 L2 es2 ep2 t2 sb2 R2 pm2 => wpAny_pure (q h2 L2 es2 ep2 t2 (sb.trans sb2) R2 (pm2.trans pm))
      first
        | (refine wpAny_bind ?_; refine wp_if_pos (by simp [hfull]) ?_)
        | (refine wp_if_pos (by simp [hfull]) ?_; refine wpAny_bind ?_)
      rw [sz]
      rcases two with ⟨_, e2⟩ | ⟨_, e2⟩
      · exact step 31 (by rw [e2, size_20]) (.inr (.inl rfl)) (by rw [e2, size_20]; decide) (by omega)
      · exact step 127 (by rw [e2, size_76]) (.inr (.inr rfl)) (by rw [e2, size_76]; decide) (by omega)
    · first
        | refine wp_if_neg (by simp [hfull]) ?_
        | (refine wpAny_bind ?_; refine wp_if_neg (by simp [hfull]) ?_; refine wpAny_pure ?_)
      have z := hfull
      unfold SetTable.tooFull at z
      rw [decide_eq_true_eq, q9', q9, List.length_map] at z
      exact wpAny_pure (q h1 L1 es1 (ep + 1) t2 sb ⟨⟨_, g1, hex, rfl⟩, r1, q3, ld1, by rw [l1]; omega, by rw [l1]; exact hf⟩ pm)
  have fin : ∀ b : Bool, wpAny (model P w) A (do
        storeSet a (SetTable.insertAt es (SetTable.below t.place (way t.mask (tx P w k) K)) (tx P w k, Value.ref x)) (if b = true then t1 else { t1 with plain := false })
        if !false && (if b = true then t1 else { t1 with plain := false }).tooFull then setRelay a (SetTable.grown (es.size + 1))
        return true) Q E s := fun b => by
    cases b with
    | true => exact key t1 q3 q4 q5 rfl
    | false => exact key { t1 with plain := false } ⟨q3.ris, q3.dm, q3.sz, q3.mok, q3.bd, q3.reach⟩ q4 q5 rfl
  by_cases p1 : t1.plain = true
  · first
      | (refine wpAny_bind ?_; refine wp_if_pos p1 ?_; refine byVal_tt hx fun b => ?_)
      | refine wp_if_pos p1 (wpAny_bind (byVal_tt hx fun b => ?_))
    exact fin b
  · first
      | (refine wpAny_bind ?_; refine wp_if_neg p1 ?_; refine wpAny_pure ?_)
      | refine wp_if_neg p1 (wpAny_bind (wpAny_pure ?_))
      | refine wp_if_neg p1 ?_
    exact fin true
end
end
section
open L2 PySem PySem.Spec PyProof.Rows
def TsO (P : Program) (w : World) (a : Addr) (L : List (Addr × List Str)) : HO := .ext fun h => ∃ es ep t, TxS P w h a L es ep t
abbrev setObj0 (w : World) : Obj := { cls := .type "set", dict := none, data := .set #[] 0 (.fresh 0 0 (!w.params.followText "set-order")) }
section
variable {P : Program} {w : World} {A : Around} {E : Value → Shared → Prop} {s : Shared}
theorem TxS.keep {h h' : Heap} {a : Addr} {L : List (Addr × List Str)} {es : Array (Int × Value)} {ep : Nat} {t : SetTable} (R : TxS P w h a L es ep t) (k : ∀ o, h.get? a = some o → h'.get? a = some o) : TxS P w h' a L es ep t :=
  let ⟨o, g, r⟩ := R.here
  ⟨⟨o, k o g, r⟩, R.rows, R.tab, R.led, R.room, R.few⟩
theorem txs_fresh {h : Heap} {a : Addr} (g : h.get? a = some (setObj0 w)) : TxS P w h a [] #[] 0 (.fresh 0 0 (!w.params.followText "set-order")) := by
  refine ⟨⟨_, g, ⟨rfl, rfl, rfl⟩, rfl⟩, rfl, ⟨List.Pairwise.nil, rfl, rfl, .inl rfl, fun x hx => (by cases hx), fun i h j hi => (by simp at hi)⟩, ?_, by show 0 * 5 < 7 * 3; decide, by show 0 < 64; decide⟩
  cases e : w.params.followText "set-order"
  · exact .inr rfl
  · exact .inl rfl
theorem ts_obj {H : Hp} {h : Heap} {a : Addr} {L : List (Addr × List Str)} (R : ∃ es ep t, TxS P w h a L es ep t) : ObjOk P w H h a (TsO P w a L) := by
  refine ⟨R, ?_, fun h1 h2 ⟨es, ep, t, z⟩ k => ⟨es, ep, t, z.keep k⟩⟩
  obtain ⟨es, ep, t, z⟩ := R
  obtain ⟨o, g, _⟩ := z.here
  exact ⟨o, g⟩
theorem txs_put {a x : Addr} {L : List (Addr × List Str)} {k : List Str} {es : Array (Int × Value)} {ep : Nat} {t : SetTable} (R : TxS P w s.heap a L es ep t) (hT : ∀ p ∈ L, Tt P w s.heap p.2 p.1) (hx : Tt P w s.heap k x) (hu : A.units + 64 < cLine) (hk : ∀ p ∈ L, p.2 ≠ k) (hf : L.length + 1 < 64) {Q : Value → Shared → Prop}
    (q : ∀ h' L' tk, Heap.SameBut a s.heap h' → (∃ es ep t, TxS P w h' a L' es ep t) → L'.Perm ((x, k) :: L) → Q .none { s with heap := h', toks := tk }) : wpAny (model P w) A (call (.builtin "set.add") [.ref a, .ref x]) Q E s := by
  obtain ⟨o, g, hex, hd⟩ := R.here
  have ty : s.TypeIs (.ref a) "set" := ⟨o, g, hex.1⟩
  refine wpAny_call_entry F.slot_set_add ty F.entry_set_add ?_ (F.args_set_add_2 _ _)
  unfold Builtin.«set.add» Builtin.Frozenset.oneOther
  simp only [List.isEmpty_nil, bind_assoc]
  unfold Builtin.Frozenset.addrOf setAdd
  refine wpAny_bind (wpAny_pure ?_)
  try dsimp only
  refine wpAny_bind (wpAny_pure ?_)
  try dsimp only
  refine wpAny_bind (wpAny_holding (wpAny_bind (wpAny_pyHash_tuple ?hun hx ?_)))
  case hun => first | omega | (show A.units + 1 < cLine; omega) | (show A.units < cLine; omega)
  refine (show TxS P w ({ s with toks := s.toks + (k.length + 1) } : Shared).heap a L es ep t from R).add (s := { s with toks := s.toks + (k.length + 1) }) hT hx ?hun hk hf fun h' L' es' ep' t' sb R' pm => ?_
  case hun => first | omega | (show A.units + 1 < cLine; omega) | (show A.units < cLine; omega)
  show wpAny _ _ (ret Value.none) _ _ _
  exact wpAny_pure ⟨_, rfl, q h' L' _ sb ⟨es', ep', t', R'⟩ pm⟩
end
section
variable {X : Cx}
theorem tt_of {pins : List (Addr × Obj)} {σ : L2.St} {H : Hp} {s : Shared} {b : Addr} {k : List Str} (I : Inv X pins σ H s) (h : SqT X.K H b (k.map V.str)) : Tt X.prog X.w s.heap k b := by
  obtain ⟨its, r, ⟨o, g, c, n, d⟩, _⟩ := I.tuple h
  refine ⟨o, its.toArray, n, g, c, d, ?_⟩
  show ItemsAre _ k its
  have key : ∀ {k : List Str} {us : List Value}, Vals (k.map V.str) us → ItemsAre (PySem.strKind X.prog X.w) k us := by
    intro k
    induction k with
    | nil => intro us v; cases v; exact .nil
    | cons z k ih =>
      intro us v
      cases v with
      | cons r t =>
        obtain ⟨tk, rfl⟩ := r
        exact .cons (PySem.strKind_is _ _ z tk) (ih t)
  exact key r
theorem ts_add {pins : List (Addr × Obj)} {σ : L2.St} {H : Hp} {s : Shared} {E : Value → Shared → Prop} {D x : Addr} {L : List (Addr × List Str)} {k : List Str} {Q : Value → Shared → Prop} (I : Inv X pins σ H s) (hu : X.A.units + 64 < cLine) (hD : H D = some (TsO X.prog X.w D L))
    (hT : ∀ p ∈ L, SqT X.K H p.1 (p.2.map V.str)) (hx : SqT X.K H x (k.map V.str)) (hk : ∀ p ∈ L, p.2 ≠ k) (hf : L.length + 1 < 64)
    (h : ∀ L' s', L'.Perm ((x, k) :: L) → Inv X pins σ (upd H D (TsO X.prog X.w D L')) s' → Q .none s') : wpAny (model X.prog X.w) X.A (call (.builtin "set.add") [.ref D, .ref x]) Q E s := by
  obtain ⟨es, ep, t, R⟩ : ∃ es ep t, TxS X.prog X.w s.heap D L es ep t := (I.hok D _ hD).1
  refine txs_put R (fun p hp => tt_of I (hT p hp)) (tt_of I hx) hu hk hf fun h' L' tk sb R' pm => ?_
  have he : ∃ u, h'.get? D = some u := by
    obtain ⟨_, _, _, z⟩ := R'
    obtain ⟨o, g, _⟩ := z.here
    exact ⟨o, g⟩
  exact h L' _ pm (I.write (e := D) (t' := tk) (by rw [hD]; trivial) (.inl rfl) (fun b u hb hu => (sb.2 b hb).trans hu) he (ts_obj R'))
def tSct (P : Program) (w : World) (K : PySem.W.Frag) (wi : TI) (g : TG) (tt : TT) (te : TE) (vs : List Nat) : TE := fun σ H Q => wi σ H fun J H1 => ∀ D, H1 D = none → ∃ W : Nat → Nat → Hp → Prop, (∃ m, W 0 m (upd H1 D (TsO P w D []))) ∧ ∀ i m H, W i m H →
  (J.stop i H ∧ Q (.ref D) H) ∨ (J.go i H ∧ ∃ Nx : Hp → Prop, (∀ H', Nx H' → ∃ m', m' < m ∧ W (i + 1) m' H') ∧ ∀ x H', J.yld i H x H' → g x (wipe σ vs) H' fun σ2 H2 => wipe σ2 vs = wipe σ vs ∧ tt σ2 H2 fun b H3 =>
    if b = true then te σ2 H3 fun y H4 => ∃ (p : Addr) (k : List Str) (L : List (Addr × List Str)), y = .ref p ∧ SqT K H4 p (k.map V.str) ∧ H4 D = some (TsO P w D L) ∧ (∀ q ∈ L, SqT K H4 q.1 (q.2.map V.str)) ∧ (∀ q ∈ L, q.2 ≠ k) ∧ L.length + 1 < 64 ∧
      ∀ L' : List (Addr × List Str), L'.Perm ((p, k) :: L) → Nx (upd H4 D (TsO P w D L')) else Nx H3)
theorem pe_sct {elt tg iter : Expr} {ifs : List Expr} {scope : Scope} {own : List (PySem.Str × Nat)} {pos : Pos} {wi : TI} {g : TG} {tt : TT} {te : TE} (hc : X.calm = true) (hu : X.A.units + 64 < cLine) (hN : X.N.Nodup) (hi : PI X tg iter wi) (ok : BlkOk X.N X.env.scope scope own)
    (hg : ∀ (s : Shared) (H : Hp) (C : Addr) (cl : List (PySem.Str × Addr)) (fp : List Addr), PG (X.blk s H scope (compEnvC scope cl C X.env) fp) tg g) (ht : ∀ (s : Shared) (H : Hp) (C : Addr) (cl : List (PySem.Str × Addr)) (fp : List Addr), PTs (X.blk s H scope (compEnvC scope cl C X.env) fp) ifs tt)
    (he : ∀ (s : Shared) (H : Hp) (C : Addr) (cl : List (PySem.Str × Addr)) (fp : List Addr), PE (X.blk s H scope (compEnvC scope cl C X.env) fp) elt te) (hs : ∀ x, foldedSetIterable iter X.env x = pure x := by intro _; rfl) :
    PE X (.SetComp elt [⟨tg, iter, ifs, 0⟩] scope pos) (tSct X.prog X.w X.K wi g tt te (own.map (·.2))) := by
  refine ⟨fun pins s σ H Q I h => ?_⟩
  rw [PpSet.eval_SetComp]
  have fr : ∀ y ∈ scope.names, y.2 = .free → ∃ c, X.env.cells.lookup y.1 = some c := fun y hy e => (ok.free y hy e).elim (fun k => I.ok.has _ (.inl k)) fun k => I.ok.has _ (.inr k)
  refine wpAny_comprehension_free rfl hs (closure_ok fr) ok.kind (fun y hy e => by rw [ok.uniq y hy, e]) (thn (hi.run pins s σ H _ I h) fun xv s1 hx => thn hx fun itv s2 ⟨it, fp, tn, J, H2, e, I2, T, st2, f2, q⟩ => ?_)
  subst e
  refine PpSet.newSet_ok (newEnv_comp ?_)
  obtain ⟨D, hD⟩ : ∃ D, D = s2.heap.objs.size := ⟨_, rfl⟩
  rw [← hD]
  have D0 : H2 D = none := I2.hok.fresh (Nat.le_of_eq hD.symm)
  obtain ⟨W, ⟨m0, w0⟩, turn⟩ := q D D0
  generalize es3 : ({ s2 with heap := s2.heap.push (setObj0 X.w) } : Shared) = s3
  have h3 : s3.heap = s2.heap.push (setObj0 X.w) := by rw [← es3]
  have I3 : Inv X pins σ (upd H2 D (TsO X.prog X.w D [])) s3 := by
    rw [← es3]
    refine I2.laid (t' := s2.toks) (fun b o e => Heap.get?_push_of_some _ e) (Nat.le_of_eq hD.symm) (ts_obj ⟨_, _, _, txs_fresh ?_⟩)
    rw [hD]
    exact Heap.get?_push_size _ rfl
  show codeAny _ _ (.compStart (.SetComp elt [⟨tg, iter, ifs, 0⟩] scope pos) 0 (.ref it) (.ref D) (compEnvC scope (cellsFrom (s3.heap.objs.size + 1) scope.names (cloFrom X.env.cells scope.names [])) s3.heap.objs.size X.env)) (compPost (model X.prog X.w) X.A X.xe none (EP X pins σ Q) (.ref D) s3.heap.objs.size) { s3 with heap := pushCells (s3.heap.push { cls := .type "dict", data := .dict #[] }) scope.names }
  have f3 : ∀ b ∈ fp, FpOk X pins (upd H2 D (TsO X.prog X.w D [])) b ∧ b < s3.heap.objs.size := fun b hb => by
    obtain ⟨o, e, _⟩ := T.obj _ _ st2 b hb
    have lt : b < s2.heap.objs.size := Heap.lt_size e
    refine ⟨⟨(upd_ne (by rw [hD]; exact Nat.ne_of_lt lt)).trans (f2 b hb).1, (f2 b hb).2⟩, ?_⟩
    rw [h3, Heap.size_push]
    exact Nat.lt_succ_of_lt lt
  have st3 : tn 0 s3.heap := T.keep _ _ _ st2 fun b _ o e => by rw [h3]; exact Heap.get?_push_of_some _ e
  obtain ⟨H3, eH3⟩ : ∃ H3, H3 = upd H2 D (TsO X.prog X.w D []) := ⟨_, rfl⟩
  rw [← eH3] at I3 f3 w0
  have I4 := block_start I3 ok hN f3
  have pg := hg s3 H3 s3.heap.objs.size (cellsFrom (s3.heap.objs.size + 1) scope.names (cloFrom X.env.cells scope.names [])) fp
  have pt := ht s3 H3 s3.heap.objs.size (cellsFrom (s3.heap.objs.size + 1) scope.names (cloFrom X.env.cells scope.names [])) fp
  have pe := he s3 H3 s3.heap.objs.size (cellsFrom (s3.heap.objs.size + 1) scope.names (cloFrom X.env.cells scope.names [])) fp
  obtain ⟨ce, ece⟩ : ∃ ce, ce = compEnvC scope (cellsFrom (s3.heap.objs.size + 1) scope.names (cloFrom X.env.cells scope.names [])) s3.heap.objs.size X.env := ⟨_, rfl⟩
  rw [← ece] at I4 pg pt pe
  have cL : ce.locals = s3.heap.objs.size := by rw [ece]; rfl
  obtain ⟨s4, es4⟩ : ∃ s4 : Shared, s4 = { s3 with heap := pushCells (s3.heap.push { cls := .type "dict", data := .dict #[] }) scope.names } := ⟨_, rfl⟩
  rw [← es4] at I4 ⊢
  have goal' : codeAny (model X.prog X.w) X.A (.compStart (.SetComp elt [⟨tg, iter, ifs, 0⟩] scope pos) 0 (.ref it) (.ref D) ce) (compPost (model X.prog X.w) X.A X.xe none (EP X pins σ Q) (.ref D) ce.locals) s4 := by
    have st4 : tn 0 s4.heap := T.keep _ _ _ st3 fun b _ o e => by rw [es4]; exact pushCells_keeps _ _ _ _ (Heap.get?_push_of_some _ e)
    have n4 : ∀ b ∈ fp, H3 b = none := fun b hb => (f3 b hb).1.1
    have own' : ∀ {σ' : L2.St} {H' : Hp} {s' : Shared}, Inv (X.blk s3 H3 scope ce fp) [] σ' H' s' → (∀ b ∈ fp, H' b = none) → ∀ b ∈ fp, FpOk (X.blk s3 H3 scope ce fp) [] H' b := fun I' n b hb =>
      ⟨n b hb, (I'.ok.exf b hb).1, I'.ok.exfs b hb, .inl hb, fun x c e => (I'.ok.exf b hb).2 x c e, fun p hp => absurd (show p ∈ ([] : List (Addr × Obj)) ++ [] from hp) (by simp)⟩
    have loop : codeAny (model X.prog X.w) X.A (.compLoop (.SetComp elt [⟨tg, iter, ifs, 0⟩] scope pos) 0 (.ref it) (.ref D) ce) (compPost (model X.prog X.w) X.A X.xe none (EP X pins σ Q) (.ref D) ce.locals) s4 := by
      refine PpSet.compLoopS_any (fun n s' => ∃ i H', W i n H' ∧ (∀ b ∈ fp, H' b = none) ∧ tn i s'.heap ∧ Inv (X.blk s3 H3 scope ce fp) [] (wipe σ (own.map (·.2))) H' s') ?_ m0 ⟨0, H3, w0, n4, st4, I4⟩
      rintro n s5 ⟨i, H5, w5, n5, st5, I5⟩
      rcases turn i n H5 w5 with ⟨stop, qq⟩ | ⟨go, Nx, hNx, step⟩
      · refine thnF (T.done (X.blk s3 H3 scope ce fp) rfl rfl rfl hc i [] s5 _ H5 (fun _ _ => False) I5 (own' I5 n5) st5 stop) fun r s6 ⟨hr, I6⟩ => ?_
        subst hr
        have I7 : Inv X pins σ H5 s6 := I3.call' (ch := fp) I6.os I6.base I6.hok I6.bare fun b hb => ⟨(f3 b hb).1.2.2.2.1, (f3 b hb).1.2.1, (f3 b hb).1.2.2.2.2.1, (f3 b hb).1.2.2.2.2.2⟩
        have nC : H5 s3.heap.objs.size = none := cL ▸ I6.free
        obtain ⟨m, hn, _⟩ := I6.loc
        have hn : s6.heap.Ns ce.locals m := hn
        obtain ⟨g0, g1, g3, g4, g5, g6⟩ := I3.fpOk (Nat.le_refl s3.heap.objs.size) nC
        rw [← cL] at g0 g1 g3 g4 g5 g6
        exact ⟨m, hn, fun h'' sb => ⟨.ref D, H5, I7.turned (t' := s6.toks) (fun b o hb e => (sb.2 b hb).trans e) g0 g1 g4 g5 g6, rfl, qq⟩⟩
      · refine thnF (T.item (X.blk s3 H3 scope ce fp) rfl rfl rfl hc i [] s5 _ H5 (fun _ _ => False) I5 (own' I5 n5) st5 go) fun r s6 ⟨u, hr, h6⟩ => ?_
        subst hr
        refine thnF h6 fun _ s7 ⟨x, H7, I7, r7, y7, st7, n7⟩ => ?_
        have I7' := I7.pinned (own' I7 n7) (T.obj _ _ st7)
        refine thnF (pg.run _ s7 _ H7 x u _ I7' r7 (step x H7 y7)) fun _ s8 ⟨σ8, H8, I8, hw8, q8⟩ => thnF (pt.run _ s8 σ8 H8 _ I8 q8) fun b s9 ⟨H9, I9, q9⟩ => ?_
        have fin : ∀ {s' : Shared} {H' : Hp}, Inv (X.blk s3 H3 scope ce fp) ([] ++ pinsAt fp s7.heap) σ8 H' s' → Nx H' → ∃ m, m < n ∧ ∃ i H', W i m H' ∧ (∀ b ∈ fp, H' b = none) ∧ tn i s'.heap ∧ Inv (X.blk s3 H3 scope ce fp) [] (wipe σ (own.map (·.2))) H' s' := fun {s' H'} I' nx => by
          obtain ⟨m', lt, w'⟩ := hNx H' nx
          have pin' : ∀ b ∈ fp, ∀ o, s7.heap.get? b = some o → s'.heap.get? b = some o ∧ H' b = none := fun b hb o e =>
            have z := I'.pin (b, o) (List.mem_append_right _ (List.mem_append_right _ (mem_pinsAt hb e)))
            ⟨z.1, z.2.1⟩
          refine ⟨m', lt, i + 1, H', w', fun b hb => ?_, T.keep _ _ _ st7 fun b hb o e => (pin' b hb o e).1, (I'.unpinned (pins := [])).weak (by rw [← hw8, wipe_length]) fun j v e => ?_⟩
          · obtain ⟨o, e, _⟩ := T.obj _ _ st7 b hb
            exact (pin' b hb o e).2
          · rw [← hw8] at e
            exact (wipe_some e).1
        cases b with
        | false =>
          simp only [Bool.false_eq_true, if_false] at q9 ⊢
          exact fin I9 q9
        | true =>
          simp only [if_true] at q9 ⊢
          refine thnF (pe.run _ s9 σ8 H9 _ I9 q9) fun z s10 ⟨yv, H10, I10, r10, p, k, L, ey, hp, hD10, hT, hk, hf, nx⟩ => ?_
          subst ey
          cases r10
          exact ts_add (X := X.blk s3 H3 scope ce fp) I10 hu hD10 hT hp hk hf fun L' s11 pm I11 => fin I11 (nx L' pm)
    exact PpSet.codeAny_compStart_set loop (T.self X.A 0 _ _ _ st4 loop)
  rw [cL, ece] at goal'
  exact goal'
def rLenTs (P : Program) (w : World) : List V → Hp → VK → Prop := fun xs H Q => ∃ (D : Addr) (L : List (Addr × List Str)), xs = [.ref D] ∧ H D = some (TsO P w D L) ∧ Q (.int L.length) H
theorem cr_lenTs : CallR X (.builtin "len") (rLenTs X.prog X.w) := by
  intro pins s σ H xs us Q I r h
  obtain ⟨D, L, rfl, hD, q⟩ := h
  rw [Vals.ref1 r]
  obtain ⟨es, ep, t, R⟩ : ∃ es ep t, TxS X.prog X.w s.heap D L es ep t := (I.hok D _ hD).1
  obtain ⟨o, g, hex, hd⟩ := R.here
  refine call_len_set g hex hd R.fits ?_ ⟨.int L.length, H, I.tok _, ⟨_, by rw [R.size]⟩, q⟩
  have := R.few
  rw [R.size]
  omega
end
end
section
open L2 PySem PySem.Spec PyProof.Rows
abbrev TxOf (P : Program) (w : World) (h : Heap) (a : Addr) (xs : List Str) : Prop := h.SetOf (PySem.strKind P w) a (fun k => decide (k ∈ xs)) xs.length
abbrev eset (led : Bool) : Obj := { cls := .type "set", dict := none, data := .set #[] 0 (.fresh 0 0 led) }
theorem TxOf.at {P : Program} {w : World} {h h' : Heap} {a : Addr} {xs : List Str} (z : TxOf P w h a xs) (k : ∀ o, h.get? a = some o → h'.get? a = some o) : TxOf P w h' a xs :=
  let ⟨o, es, ep, t, g, r⟩ := z
  ⟨o, es, ep, t, k o g, r⟩
section
variable {P : Program} {w : World} {A : Around} {R : Result → Shared → Prop} {I : Addr} {fp wr : List Addr} {G : Array GenState → Array GenState → Prop} {n : Nat} {Pv : Nat → Value → Prop} {St : Nat → Shared → Prop}
theorem fill_texts (W : WalksS P w A.in1 I fp wr G n Pv St) (S : Addr) (nS : S ∉ fp) (xs : List Str) (hl : xs.length = n) (nd : xs.Nodup) (hb : n + 1 < scanBound) (hv : ∀ i v, Pv i v → ∃ z t, xs[i]? = some z ∧ v = .str z t) :
    ∀ (m i : Nat) (s : Shared), n - i = m → i ≤ n → St i s → TxOf P w s.heap S (xs.take i) → (∀ s', Moved (S :: wr) G s s' → TxOf P w s'.heap S xs → R (.ok (.ret .none)) s') →
      codeAny (model P w) A (.builtin "set.update.loop" ⟨[.ref S, .ref I], []⟩) R s := by
  have nw : S ∉ wr := fun z => nS (W.sub _ z)
  have up : ∀ b ∈ wr, b ∈ S :: wr := fun b hb => .tail _ hb
  intro m
  induction m with
  | zero =>
    intro i s hm hi st z q
    have e : i = n := by omega
    refine codeAny_builtin PyProof.Rows.F.entry_set_update_loop ?_
    rw [Around.under_plainId PyProof.Rows.F.plain_set_update_loop _]
    show wpAny _ A.in1 (pyNext (.ref I) >>= _) _ _ s
    rw [e] at st z
    refine wpAny_bind (W.done s _ _ st fun s' mv => ?_)
    show wpAny _ A.in1 (ret Value.none) _ _ s'
    rw [← hl, List.take_length] at z
    exact wpAny_pure (q s' (mv.mono up) (z.at fun o g => mv.heap S o nw g))
  | succ m ih =>
    intro i s hm hi st z q
    have lt : i < n := by omega
    refine codeAny_builtin PyProof.Rows.F.entry_set_update_loop ?_
    rw [Around.under_plainId PyProof.Rows.F.plain_set_update_loop _]
    show wpAny _ A.in1 (pyNext (.ref I) >>= _) _ _ s
    refine wpAny_bind (W.item i s _ _ lt st fun v s' pv st' mv => ?_)
    obtain ⟨x, tk, hx, rfl⟩ := hv i v pv
    have z' : TxOf P w s'.heap S (xs.take i) := z.at fun o g => mv.heap S o nw g
    have ln : (xs.take i).length = i := by rw [List.length_take]; omega
    have new : x ∉ xs.take i := fun hm => by
      obtain ⟨j, hj, e⟩ := List.getElem_of_mem hm
      rw [List.length_take] at hj
      obtain ⟨hi2, e2⟩ := List.getElem?_eq_some_iff.mp hx
      rw [List.getElem_take] at e
      have := (List.getElem_inj nd).mp (e.trans e2.symm)
      omega
    show wpAny _ A.in1 (holding [Value.str x tk] (setAdd S (.str x tk)) >>= _) _ _ s'
    refine wpAny_bind (wpAny_holding ?_)
    unfold setAdd
    refine wpAny_holding (wpAny_bind ((PySem.strKind P w).pyHash (k := x) (PySem.strKind_is _ _ _ _) ?_))
    refine wpAny_setAddHashed_of (knd := PySem.strKind P w) (s := { s' with toks := s'.toks + 1 }) (PySem.strKind_is _ _ _ _) rfl z' (by omega) fun h' sb z2 => ?_
    have z3 : TxOf P w h' S (xs.take (i + 1)) := by
      have tk1 : xs.take (i + 1) = xs.take i ++ [x] := by rw [List.take_succ, hx]; rfl
      refine SetOf_congr z2 (fun k => ?_) (by rw [if_neg (by simpa using new), ln, List.length_take]; omega)
      rw [tk1]
      by_cases e : k = x <;> simp [e]
    refine wpAny_pure ⟨plainId_quiet PyProof.Rows.F.plain_set_update_loop _, ih (i + 1) _ (by omega) lt (W.frame _ s' _ _ st' (Nat.le_succ _) fun b hb o e => (sb.2 b fun h => nS (h ▸ hb)).trans e) z3 fun s2 mv2 z4 => q s2 (Moved.trans W.gtrans ((mv.mono up).then_heap (Nat.le_succ _) fun b o hb e => (sb.2 b fun h => hb (h ▸ .head _)).trans e) mv2) z4⟩
end
section
variable {P : Program} {w : World} {A : Around} {E : Value → Shared → Prop} {s : Shared}
theorem call_set_texts {l : Addr} {items : Array Value} {xs : List Str} {Q : Value → Shared → Prop} (hh : A.handled = none) (hl : s.heap.IsTuple l items) (hi : StrsAre items.toList xs) (nd : xs.Nodup) (hb : xs.length + 1 < scanBound)
    (q : ∀ (h' : Heap) (tk : Nat), TxOf P w h' s.heap.objs.size xs → (∀ b o, b < s.heap.objs.size → s.heap.get? b = some o → h'.get? b = some o) → Q (.ref s.heap.objs.size) { s with heap := h', toks := tk }) :
    wpAny (model P w) A (call (.type "set") [.ref l]) Q E s := by
  have c1 := PySem.F.called_set.made
  have c2 := PySem.F.called_set.sub
  have c3 := PySem.F.called_set.notType
  have c4 := PySem.F.called_set.canCreate
  have c5 := PySem.F.typeCall_set_1 (.ref l)
  obtain ⟨_, _, c6⟩ := PySem.F.called_set.mro
  refine wpAny_call (codeAny_of_tree ?_)
  show wpAny _ _ (callAny (.type "set") _) _ _ _
  refine wpAny_pure ⟨Code.quiet_builtin _ (by decide +kernel), codeAny_builtin PySem.F.entry_type_call ?_⟩
  rw [Around.under_plain (weight_type_call_type "set" [.ref l] []) rfl]
  repeat (any_goals (first | assumption | wp_step))
  refine codeAny_mono (code_set_new_1 (.ref l) (E := E) (Q₁ := fun v z => ∃ led : Bool, v = .ref s.heap.objs.size ∧ z = { s with heap := s.heap.push (eset led) }) fun led => ⟨led, rfl, rfl⟩) fun r z hr => ?_
  cases r with
  | error e => exact hr
  | ok fl =>
   cases fl with
   | ret obj =>
    obtain ⟨led, rfl, rfl⟩ := hr
    have g0 : (s.heap.push (eset led)).get? s.heap.objs.size = some (eset led) := Heap.get?_push_size _ rfl
    have ty : Shared.TypeIs { s with heap := s.heap.push (eset led) } (.ref s.heap.objs.size) "set" := ⟨_, g0, rfl⟩
    have d1 := PySem.F.called_set.init.lookup
    have d2 := PySem.F.called_set.init.bind (.ref s.heap.objs.size)
    repeat (any_goals (first | assumption | wp_step))
    refine codeAny_mono (codeAny_call_builtin (R := wants (fun v z => v = .none ∧ ∃ h' tk, z = { s with heap := h', toks := tk } ∧ TxOf P w h' s.heap.objs.size xs ∧ ∀ b o, b < s.heap.objs.size → s.heap.get? b = some o → h'.get? b = some o) E) PySem.F.called_set.init.plain PySem.F.entry_set_init (check_set_init_1 ty ?_)) fun r z hr => ?_
    · obtain ⟨⟨cl, di, da, sl⟩, hol, hcl, nl, hdl⟩ := hl
      simp only at hcl hdl
      subst hcl hdl
      have hol' : (s.heap.push (eset led)).get? l = some { cls := .type "tuple", dict := di, data := .seq items nl, slots := sl } := Heap.get?_push_of_some _ hol
      have f1 := PySem.F.sub_tuple_set
      have f2 := PySem.F.sub_tuple_frozenset
      have f3 : (Value.type "tuple" == Value.type "dict") = false := by decide
      have hl1 : (s.heap.push (eset led)).IsTuple l items := ⟨_, hol', rfl, nl, rfl⟩
      unfold Builtin.«set.__init__» noKeywords Builtin.Frozenset.updateFrom
      generalize hPI : pyIter = PI
      wp_walk
      subst hPI
      refine wpAny_pyIter_tuple hl1 (wpAny_bind (wpAny_runValue ?_))
      have lt : l < s.heap.objs.size := Heap.lt_size hol
      have sz : (s.heap.push (eset led)).objs.size = s.heap.objs.size + 1 := Heap.size_push ..
      have ne : l ≠ (s.heap.push (eset led)).objs.size := by rw [sz]; exact Nat.ne_of_lt (Nat.lt_succ_of_lt lt)
      have nS : s.heap.objs.size ∉ [(s.heap.push (eset led)).objs.size, l] := by
        rw [sz]
        simp only [List.mem_cons, List.not_mem_nil, or_false, not_or]
        exact ⟨Nat.ne_of_lt (Nat.lt_succ_self _), Nat.ne_of_gt lt⟩
      have len : xs.length = items.size := by rw [← StrsAre.len_eq hi, Array.length_toList]
      have at_ : ∀ (i : Nat) (v : Value), items[i]? = some v → ∃ z t, xs[i]? = some z ∧ v = .str z t := fun i v hv => by
        obtain ⟨t, e⟩ := SS.strs_at hi i v (by rw [Array.getElem?_toList]; exact hv)
        have hlt : i < xs.length := by
          rw [len]
          exact (Array.getElem?_eq_some_iff.mp hv).1
        refine ⟨xs[i], t, List.getElem?_eq_getElem hlt, ?_⟩
        rw [e, List.getD_eq_getElem?_getD, List.getElem?_eq_getElem hlt]
        rfl
      refine fill_texts ((Walks.tuple (by simp [hh]) _ l ne items).toS) s.heap.objs.size nS xs len nd (by rw [← len]; exact hb) at_ (items.size - 0) 0 _ (by omega) (Nat.zero_le _) ⟨⟨_, Heap.get?_push_size _ rfl, rfl, rfl⟩, (hl1.push _)⟩ ?_ fun s' mv z => ?_
      · exact SetOf_congr ((setObjOf_fresh (knd := PySem.strKind P w) led).setOf (Heap.get?_push_of_some _ g0) (by unfold scanBound; omega)) (fun _ => by simp) rfl
      · obtain ⟨h', g', d', tk', os'⟩ := s'
        obtain rfl : g' = s.gens := mv.gens
        obtain rfl : d' = s.drawn := mv.drawn
        obtain rfl : os' = s.os := mv.os
        show wpAny _ _ _ _ _ _
        refine wpAny_pure ?_
        show wpAny _ _ (ret Value.none) _ _ _
        refine wpAny_pure ⟨rfl, h', tk', rfl, z, fun b o hb e => mv.heap b o ?_ (Heap.get?_push_of_some _ (Heap.get?_push_of_some _ e))⟩
        rw [sz]
        simp only [List.mem_cons, List.not_mem_nil, or_false, not_or]
        exact ⟨Nat.ne_of_lt hb, Nat.ne_of_lt (Nat.lt_succ_of_lt hb)⟩
    · cases r with
      | error e => exact hr
      | ok fl =>
       cases fl with
       | ret v =>
        obtain ⟨rfl, h', tk, rfl, z, k⟩ := hr
        repeat (any_goals (first | assumption | wp_step))
        exact q _ _ z k
       | _ => exact hr.elim
   | _ => exact hr.elim
end
section
variable {X : Cx}
def TxsO (P : Program) (w : World) (a : Addr) (xs : List Str) : HO := .ext fun h => TxOf P w h a xs
def rSetTexts (K : PySem.W.Frag) (P : Program) (w : World) : List V → Hp → VK → Prop := fun vs H Q => ∃ (l : Addr) (xs : List Str), vs = [.ref l] ∧ SqT K H l (xs.map V.str) ∧ xs.Nodup ∧ xs.length < 60 ∧ ∀ D, H D = none → Q (.ref D) (upd H D (TxsO P w D xs))
theorem cr_setTexts (hc : X.calm = true) : CallR X (.type "set") (rSetTexts X.K X.prog X.w) := by
  intro pins s σ H vs us Q I r h
  obtain ⟨l, xs, rfl, hl, nd, lt, q⟩ := h
  rw [Vals.ref1 r]
  obtain ⟨its, rv, pl, hz⟩ := I.tuple hl
  refine call_set_texts (I.ok.hd hc) pl (by simpa using strsAre_of rv) nd (by unfold scanBound; omega) fun h' tk z k => ?_
  refine ⟨.ref s.heap.objs.size, upd H s.heap.objs.size (TxsO X.prog X.w s.heap.objs.size xs), I.laid (t' := tk) (fun b o e => k b o (Heap.lt_size e) e) (Nat.le_refl _) ⟨z, ?_, fun h1 h2 z k => TxOf.at z k⟩, rfl, q _ (I.hok.fresh (Nat.le_refl _))⟩
  obtain ⟨o, _, _, _, g, _⟩ := z
  exact ⟨o, g⟩
def rLenTexts (P : Program) (w : World) : List V → Hp → VK → Prop := fun vs H Q => ∃ (D : Addr) (xs : List Str), vs = [.ref D] ∧ H D = some (TxsO P w D xs) ∧ Q (.int xs.length) H
theorem cr_lenTexts : CallR X (.builtin "len") (rLenTexts X.prog X.w) := by
  intro pins s σ H vs us Q I r h
  obtain ⟨D, xs, rfl, hD, q⟩ := h
  rw [Vals.ref1 r]
  obtain ⟨o, es, ep, t, ho, hex, hd, _, _, hlt, hf, hn⟩ : TxOf X.prog X.w s.heap D xs := (I.hok D _ hD).1
  refine call_len_set ho hex hd hf ?_ ⟨.int xs.length, H, I.tok _, ⟨_, by rw [hn]⟩, q⟩
  unfold scanBound at hlt
  omega
end
end
section
open L2 PySem PySem.Spec PyProof.Rows
section
variable {P : Program} {w : World} {A : Around} {E : Value → Shared → Prop} {s : Shared}
theorem sorted_texts {l : Addr} {items : Array Value} {ss : List Str} {Q : Value → Shared → Prop} (hl : s.heap.IsTuple l items) (hS : StrsAre items.toList ss) (hL : items.size ≤ sizeLine)
    (q : ∀ (h' : Heap) (a : Addr) (out : Array Value) (e : Nat) (ss' : List Str), (∀ b o, s.heap.get? b = some o → h'.get? b = some o) → s.heap.get? a = none → h'.get? a = some (seqObj "list" out e) → StrsAre out.toList ss' → ss'.Perm ss → sortedS ss' = true → Q (.ref a) { s with heap := h' }) :
    wpAny (model P w) A (call (.builtin "sorted") [.ref l]) Q E s := by
  obtain ⟨o, ho, hc, n, hd⟩ := hl
  refine Calls.call_function_entry kind_sorted plain_sorted entry_sorted (args_sorted1 _) ?_
  unfold Builtin.«sorted»
  refine wpAny_bind (m := checkCount "sorted" 1 1 _) (wpAny_pure (wpAny_bind (wpAny_collect_seq l (.inr rfl) ho hc hd (fun h1 k1 => wpAny_bind (wpAny_newList ?_ ?_)) hL)))
  · have g0 : (h1.push (seqObj "list" items.toList.toArray 0)).get? h1.objs.size = some (seqObj "list" items.toList.toArray 0) := Heap.get?_push_size _ rfl
    show wpAny _ _ _ _ _ { s with heap := h1.push (seqObj "list" items.toList.toArray 0) }
    refine wpAny_bind (wpAny_holding (wpAny_call_entry slot_list_sort ⟨_, g0, rfl⟩ entry_list_sort (list_sort_treeKAny strKind_oneLt g0 hS.keysOf (fun v₁ v₂ rest e => keyKind_strs (by rw [← e]; exact hS)) (by rw [Array.length_toList]; exact hL) fun st a1 a2 => ⟨_, rfl, ?_⟩) (args_list_sort _)))
    refine wpAny_pure ?_
    obtain ⟨ss', b1, b2, b3⟩ := sorted_out_str hS a1 a2
    obtain ⟨e, ge⟩ := sortedHeap_at (vs := items.toList) (out := (arrOf st).map (·.2)) g0
    refine ⟨_, rfl, q _ h1.objs.size _ e ss' (fun b o' z => ?_) ?_ ge b1 b2 b3⟩
    · have lt : b < h1.objs.size := Heap.lt_size (k1 b o' z)
      rw [sortedHeap_old (Nat.ne_of_lt lt) (by rw [size_push']; exact Nat.lt_succ_of_lt lt)]
      exact Heap.get?_push_of_some _ (k1 b o' z)
    · cases z : s.heap.get? h1.objs.size with
      | none => rfl
      | some o' => exact absurd (Heap.lt_size (k1 _ o' z)) (Nat.lt_irrefl _)
  · rw [Array.length_toList]
    exact hL
end
section
variable {X : Cx}
def rSortedTx (K : PySem.W.Frag) : List V → Hp → VK → Prop := fun vs H Q => ∃ (a : Addr) (xs : List Str), vs = [.ref a] ∧ SqT K H a (xs.map V.str) ∧ ∀ (ys : List Str) (p : Addr), ys.Perm xs → sortedS ys = true → H p = none → Q (.ref p) (upd H p (.lst (ys.map V.str)))
theorem cr_sortedTx : CallR X (.builtin "sorted") (rSortedTx X.K) := by
  intro pins s σ H vs us Q I r h
  obtain ⟨a, xs, rfl, hs, q⟩ := h
  obtain ⟨its, rv, pl, hz⟩ := I.tuple hs
  rw [Vals.ref1 r]
  have hz' : its.toArray.size ≤ sizeLine := by
    rw [List.size_toArray, ← rv.length]
    exact hz
  refine sorted_texts (ss := xs) pl (by simpa using rv.strs) hz' fun h' p out e ys k n0 g b1 b2 b3 => ?_
  have hn : H p = none := I.hok.gone n0
  refine ⟨.ref p, upd H p (.lst (ys.map V.str)), I.laidN (t' := s.toks) k n0 hn ⟨?_, out.toList, e, vals_of_strs b1, ?_⟩, rfl, q ys p b2 b3 hn⟩
  · rw [List.length_map, b2.length_eq, ← List.length_map (f := V.str)]
    exact hz
  · rw [g]
end
end
section
open L2 PySem PySem.Spec PyProof.Rows
theorem ps_dead {X : Cx} {st : Stmt} : PS X st (fun _ _ _ => False) := ⟨fun pins s σ H D I h => h.elim⟩
section
variable {X : Cx} {K : PySem.W.Frag}
theorem k_sortedTx (hK : X.K = K := by rfl) : CallR X (.builtin "sorted") (rSortedTx K) := by subst hK; exact cr_sortedTx
def rTIndex (K : PySem.W.Frag) : V → List V → Hp → VK → Prop := fun x xs H Q => ∃ p, ∃ ys : List Str, ∃ z j, x = .ref p ∧ xs = [.str z] ∧ SqT K H p (ys.map V.str) ∧ ys[j]? = some z ∧ (∀ m, m < j → ys[m]? ≠ some z) ∧ Q (.int (j : Nat)) H
theorem k_tindex (hK : X.K = K := by rfl) : MtR X "tuple.index" (rTIndex K) := by subst hK; exact mt_tup_index
end
theorem idx_first {ys : List Str} {z : Str} (h : z ∈ ys) : ys[ys.idxOf z]? = some z ∧ ∀ m, m < ys.idxOf z → ys[m]? ≠ some z := by
  have lt := List.idxOf_lt_length_iff.mpr h
  refine ⟨by rw [List.getElem?_eq_getElem lt, List.getElem_idxOf], fun m hm e => ?_⟩
  obtain ⟨hm2, e2⟩ := List.getElem?_eq_some_iff.mp e
  have := List.not_of_lt_findIdx (p := (· == z)) (xs := ys) hm
  rw [e2] at this
  simp at this
section
variable {σ : L2.St} {H : Hp} {Q : VK} {K : PySem.W.Frag}
theorem i_tix {p : Addr} {ys : List Str} {z : Str} (e : SqT K H p (ys.map V.str)) (h : z ∈ ys) (q : Q (.int ((ys.idxOf z : Nat) : Int)) H) : rTIndex K (.ref p) [.str z] H Q :=
  ⟨p, ys, z, ys.idxOf z, rfl, rfl, e, (idx_first h).1, (idx_first h).2, q⟩
end
end
section
open L2 PySem PySem.Spec PyProof.Rows
def obOk (ob : Obj) : Prop := ob.cls = .type "tuple" ∧ ob.dict = none
def FT (H : Hp) (p : Addr) (xs : List V) : Prop := ∃ ob, H p = some (.frz ob (.tup xs)) ∧ obOk ob
theorem FT.sq {K : PySem.W.Frag} {H : Hp} {p : Addr} {xs : List V} (h : FT H p xs) : SqT K H p xs := let ⟨ob, e, _⟩ := h; .inl (.inr ⟨ob, e⟩)
theorem FT.new {H : Hp} {p : Addr} {xs : List V} {ob : Obj} (h : obOk ob) : FT (upd H p (.frz ob (.tup xs))) p xs := ⟨ob, upd_same, h⟩
theorem FT.same {H H' : Hp} {p : Addr} {xs : List V} (h : FT H p xs) (k : Same H H') : FT H' p xs := let ⟨ob, e, o⟩ := h; ⟨ob, k _ _ e, o⟩
theorem FT.ch {H H' : Hp} {a p : Addr} {c : Int} {xs : List V} (h : FT H p xs) (k : Ch a H H') (f : Fd H a c) : FT H' p xs := by
  obtain ⟨ob, e, o⟩ := h
  obtain ⟨x, y, n, e2, _⟩ := f
  exact ⟨ob, k p _ (fun z => by rw [z, e2] at e; cases e) e, o⟩
section
variable {X : Cx}
theorem lay_tup {pins : List (Addr × Obj)} {σ : L2.St} {H : Hp} {s : Shared} {xs : List V} {us : List Value} (I : Inv X pins σ H s) (r : Vals xs us) (z : xs.length ≤ sizeLine) :
    ∃ (p : Addr) (ob : Obj), p = s.heap.objs.size ∧ obOk ob ∧ H p = none ∧ Inv X pins σ (upd H p (.frz ob (.tup xs))) { s with heap := s.heap.push { cls := .type "tuple", data := .seq us.toArray } } :=
  ⟨s.heap.objs.size, { cls := .type "tuple", data := .seq us.toArray }, rfl, ⟨rfl, rfl⟩, I.hok.fresh (Nat.le_refl _), I.laid (t' := s.toks) (fun b u e => Heap.get?_push_of_some _ e) (Nat.le_refl _)
    ⟨Heap.get?_push_size _ rfl, z, us, r, ⟨_, Heap.get?_push_size _ rfl, rfl, _, rfl⟩⟩⟩
def rTupleF (K : PySem.W.Frag) : List V → Hp → VK → Prop := fun xs H Q => ∃ p ys, xs = [.ref p] ∧ SqL K H p ys ∧ ∀ l ob, H l = none → obOk ob → Q (.ref l) (upd H l (.frz ob (.tup ys)))
theorem cr_tupleF : CallR X (.type "tuple") (rTupleF X.K) := by
  intro pins s σ H xs us Q I r h
  obtain ⟨p, ys, rfl, hq, q⟩ := h
  rw [Vals.ref1 r]
  obtain ⟨its, r', pl, hz⟩ := I.list hq
  have hl := r'.length
  refine call_tuple_list pl.isList (fun h' kp => ?_) (by simp only [List.size_toArray] <;> omega)
  obtain ⟨p, ob, rfl, ok, n, J⟩ := lay_tup (I.kept (t' := s.toks) kp : Inv X pins σ H { s with heap := h' }) r' hz
  exact ⟨.ref _, _, J, rfl, q _ ob n ok⟩
end
section
variable {X : Cx} {K : PySem.W.Frag}
theorem k_tupleF (hK : X.K = K := by rfl) : CallR X (.type "tuple") (rTupleF K) := by subst hK; exact cr_tupleF
def tBMF (r : V → List V → Hp → VK → Prop) (to : TE) (t : TA) : TE := fun σ H Q => to σ H fun x H1 => (∃ p xs, x = .ref p ∧ FT H1 p xs) ∧ t σ H1 fun vs H2 => r x vs H2 Q
variable {o e : Expr} {es : List Expr} {to : TE} {t : TA} {name : Str} {apos cpos : Pos} {id : String} {r : V → List V → Hp → VK → Prop}
theorem pe_bmF (pa : PlainAttrs "tuple") (slot : Slot "tuple" name id) (hty : typeOf (.builtin id) = pure (.type "method_descriptor")) (hm : MtR X id r) (ho : PE X o to) (ha : PA X (e :: es) t)
    (hbase : attributeBase o name X.env (eval o X.env) = eval o X.env := by rfl)
    (hfew : ((backTo cpos (starEach (e :: es) X.env)).all (fun x => !x.1) && (backToKw cpos (keywordEach [] X.env)).all (fun x => x.1.isSome)
      && decide ((e :: es).length + ([] : List Keyword).length + (if ([] : List Keyword).isEmpty then 0 else 1) < 30)) = true := by rfl)
    (hline : (apos.endLine == cpos.line) = true := by rfl) (hs : starEach (e :: es) X.env = (false, eval e X.env) :: starEach es X.env := by rfl) (hplain : (backTo cpos (starEach es X.env)).any (·.1) = false := by rfl) :
    PE X (.Call (.Attribute o name apos) (e :: es) [] cpos) (tBMF r to t) := by
  refine ⟨fun pins s σ H Q I h => ?_⟩
  refine wpAny_Call_method_late hbase hfew hline rfl (thn (ho.run pins s σ H _ I h) fun v s1 ⟨x, H1, I1, r1, ⟨p, xs, ex, ob, hp, oc, od⟩, q1⟩ => ?_)
  subst ex
  obtain rfl : v = Value.ref p := r1
  have g : s1.heap.get? p = some ob := (I1.hok p _ hp).1
  refine ⟨"tuple", id, pa, slot, hty, ⟨ob, g, oc⟩, fun a z => ?_, ?_⟩
  · injection z with z
    subst z
    exact ⟨ob, g, od⟩
  have hA := ha.run cpos pins s1 σ H1 _ I1 q1
  rw [hs] at hA ⊢
  refine Calls.callWith_builtin (by show (false || (backTo cpos (starEach es X.env)).any (·.1)) = false; rw [hplain] <;> rfl) (Calls.evalArgs_plain ?_)
  exact thn hA fun us s2 ⟨vs, H2, I2, r2, q2⟩ => hm pins s2 σ H2 (.ref p) vs (.ref p) us Q I2 rfl r2 q2
end
section
variable {σ : L2.St} {H : Hp} {Q : VK} {K : PySem.W.Frag}
theorem i_bmF {r : V → List V → Hp → VK → Prop} {to : TE} {t : TA} (h : to σ H fun x H1 => (∃ p xs, x = .ref p ∧ FT H1 p xs) ∧ t σ H1 fun vs H2 => r x vs H2 Q) : tBMF r to t σ H Q := h
theorem i_tyF {p : Addr} {xs : List V} {A : Prop} (e : FT H p xs) (h : A) : (∃ q ys, V.ref p = .ref q ∧ FT H q ys) ∧ A := ⟨⟨p, xs, rfl, e⟩, h⟩
end
end
section
open L2 PySem PySem.Spec PyProof.Rows
def spIsName : Sp := fun vs H Q _ => ∃ z : Str, vs = [.str z] ∧ nmOk z = true ∧ ∀ H', Same H H' → Q (.bl true) H'
def spArePlaces (K : PySem.W.Frag) : Sp := fun vs H Q _ => ∃ (p : Addr) (ps : List Str), vs = [.ref p] ∧ SqT K H p (ps.map V.str) ∧ IsNames ps ∧ 0 < ps.length ∧ ps.length ≤ 8 ∧ ∀ H', Same H H' → Q (.bl true) H'
def spIsOneOf (K : PySem.W.Frag) : Sp := fun vs H Q _ => ∃ (z : Str) (p : Addr) (ps : List Str), vs = [.str z, .ref p] ∧ SqT K H p (ps.map V.str) ∧ z ∈ ps ∧ Q (.bl true) H
def spIsRoad (K : PySem.W.Frag) : Sp := fun vs H Q _ => ∃ (v : V) (r : Str × Str) (p : Addr) (ps : List Str), vs = [v, .ref p] ∧ Dp K H v (roadD r) ∧ SqT K H p (ps.map V.str) ∧ r.1 ∈ ps ∧ r.2 ∈ ps ∧ r.1 ≠ r.2 ∧ ∀ H', Same H H' → Q (.bl true) H'
def spAreRoads (K : PySem.W.Frag) : Sp := fun vs H Q _ => ∃ (tr tp : Addr) (xs : List V) (ps : List Str) (rs : List (Str × Str)), vs = [.ref tr, .ref tp] ∧ SqT K H tr xs ∧ DpAll K H xs (rs.map roadD) ∧ SqT K H tp (ps.map V.str) ∧ IsWeb ps rs ∧ ∀ H', Same H H' → Q (.bl true) H'
def spIsWeb (K : PySem.W.Frag) : Sp := fun vs H Q _ => ∃ (v : V) (ps : List Str) (rs : List (Str × Str)), vs = [v] ∧ Dp K H v (webD ps rs) ∧ IsWeb ps rs ∧ ∀ H', Same H H' → Q (.bl true) H'
def spIsOrder (K : PySem.W.Frag) : Sp := fun vs H Q _ => ∃ (v : V) (o : Addr) (qs ps : List Str) (rs : List (Str × Str)), vs = [v, .ref o] ∧ Dp K H v (webD ps rs) ∧ IsWeb ps rs ∧ SqT K H o (qs.map V.str) ∧ qs.Perm ps ∧ ∀ H', Same H H' → Q (.bl true) H'
def spNeedOrder (K : PySem.W.Frag) : Sp := fun vs H Q _ => ∃ (v : V) (o : Addr) (qs ps : List Str) (rs : List (Str × Str)), vs = [v, .ref o] ∧ Dp K H v (webD ps rs) ∧ IsWeb ps rs ∧ SqT K H o (qs.map V.str) ∧ qs.Perm ps ∧ ∀ H', Same H H' → Q .non H'
end
section
open L2 PySem PySem.Spec PyProof.Rows
section
variable {σ : L2.St} {H : Hp} {Q : VK} {K : PySem.W.Frag} {te : TE} {R : It → Hp → Prop}
def isK (R : It → Hp → Prop) : V → Hp → Prop := fun x H1 => ∃ z, x = .str z ∧ R (Its z) H1
theorem i_istr {t : TE} (h : t σ H (isK R)) : iStr t σ H R := h
theorem i_isK {z : Str} (h : R (Its z) H) : isK R (.str z) H := ⟨z, rfl, h⟩
theorem p_str {v : Nat} (z : Str) (f : Nat → V) (hz : z.cps.size ≤ 100000)
    (hs : ∀ D acc i c (N : VK), H D = none → z.cps[i]? = some c → N (f i) (upd H D (.lst acc)) → te ((wipe σ [v]).set v (some (.str ⟨#[c]⟩))) (upd H D (.lst acc)) N)
    (hd : ∀ D, H D = none → Q (.ref D) (upd H D (.lst ((List.range z.cps.size).map f)))) : lcK (gName v) tYes te [v] σ Q (Its z) H := by
  intro D nD
  refine ⟨fun i m H' => m = z.cps.size - i ∧ i ≤ z.cps.size ∧ H' = upd H D (.lst ((List.range i).map f)), ⟨z.cps.size, by simp, Nat.zero_le _, rfl⟩, ?_⟩
  rintro i m H' ⟨rfl, hi, rfl⟩
  by_cases lt : i < z.cps.size
  · refine .inr ⟨lt, fun H' => H' = upd H D (.lst ((List.range (i + 1)).map f)), fun H' e => ⟨z.cps.size - (i + 1), by omega, rfl, lt, e⟩, ?_⟩
    rintro x H' ⟨rfl, c, hc, rfl⟩
    refine ⟨?_, ?_⟩
    · show List.set (List.set (List.set σ v none) v (some _)) v none = List.set σ v none
      rw [List.set_set, List.set_set]
    · show te _ _ _
      refine hs D _ i c _ nD hc ⟨_, upd_same, ?_, ?_⟩
      · rw [List.length_map, List.length_range, sizeLine_eq]
        omega
      · rw [upd_upd, List.range_succ, List.map_append]
        rfl
  · have e : i = z.cps.size := by omega
    subst e
    exact .inl ⟨Nat.le_refl _, hd D nD⟩
end
theorem nm_parts {z : Str} (h : nmOk z = true) : ∃ c r, z.cps.toList = c :: r ∧ r.length ≤ 7 ∧ (97 ≤ c ∧ c ≤ 122) ∧ ∀ x ∈ r, nmSign x = true := by
  unfold nmOk at h
  split at h
  · cases h
  · rename_i c r e
    simp only [Bool.and_eq_true, decide_eq_true_eq, List.all_eq_true] at h
    exact ⟨c, r, e, h.1.1, h.1.2, h.2⟩
theorem letter_in : ∀ k : Nat, k < 26 → (97 + k) ∈ (Str.ofString "abcdefghijklmnopqrstuvwxyz").cps.toList := by decide +kernel
theorem letter_in2 : ∀ k : Nat, k < 26 → (97 + k) ∈ (Str.ofString "abcdefghijklmnopqrstuvwxyz0123456789").cps.toList := by decide +kernel
theorem figure_in : ∀ k : Nat, k < 10 → (48 + k) ∈ (Str.ofString "abcdefghijklmnopqrstuvwxyz0123456789").cps.toList := by decide +kernel
theorem sign_in {c : Nat} (h : nmSign c = true) : c ∈ (Str.ofString "abcdefghijklmnopqrstuvwxyz0123456789").cps.toList := by
  unfold nmSign at h
  simp only [Bool.or_eq_true, Bool.and_eq_true, decide_eq_true_eq] at h
  rcases h with h | h
  · have := letter_in2 (c - 97) (by omega)
    rwa [show 97 + (c - 97) = c from by omega] at this
  · have := figure_in (c - 48) (by omega)
    rwa [show 48 + (c - 48) = c from by omega] at this
section
variable {P : Program} {w : World} {σ : L2.St} {H : Hp} {Q : VK} {K : PySem.W.Frag} {g : TG} {tt : TT} {te : TE} {vs : List Nat} {a : Addr}
def sctE (P : Program) (w : World) (K : PySem.W.Frag) (D : Addr) (N : Hp → Prop) : VK := fun y H4 => ∃ (p : Addr) (k : List Str) (L : List (Addr × List Str)), y = .ref p ∧ SqT K H4 p (k.map V.str) ∧ H4 D = some (TsO P w D L) ∧ (∀ q ∈ L, SqT K H4 q.1 (q.2.map V.str)) ∧ (∀ q ∈ L, q.2 ≠ k) ∧ L.length + 1 < 64 ∧
  ∀ L' : List (Addr × List Str), L'.Perm ((p, k) :: L) → N (upd H4 D (TsO P w D L'))
def sctK (P : Program) (w : World) (K : PySem.W.Frag) (g : TG) (tt : TT) (te : TE) (vs : List Nat) (σ : L2.St) (Q : VK) : It → Hp → Prop := fun J h => tSct P w K (fun _ h' R => R J h') g tt te vs σ h Q
theorem i_sct {wi : TI} (h : wi σ H (sctK P w K g tt te vs σ Q)) : tSct P w K wi g tt te vs σ H Q := h
theorem s_tup (xs : List V) (Pv : Addr → Nat → Hp → Prop) (h0 : ∀ D, H D = none → Pv D 0 (upd H D (TsO P w D []))) (hl : ∀ D i H, i ≤ xs.length → Pv D i H → SqT K H a xs)
    (hs : ∀ D i x H, xs[i]? = some x → Pv D i H → g x (wipe σ vs) H fun σ2 H2 => wipe σ2 vs = wipe σ vs ∧ tt σ2 H2 fun b H3 => if b = true then te σ2 H3 (sctE P w K D (Pv D (i + 1))) else Pv D (i + 1) H3)
    (hd : ∀ D H, Pv D xs.length H → Q (.ref D) H) : sctK P w K g tt te vs σ Q (Itt K a) H := by
  intro D nD
  refine ⟨fun i m H => m = xs.length - i ∧ i ≤ xs.length ∧ Pv D i H, ⟨xs.length, by simp, Nat.zero_le _, h0 D nD⟩, ?_⟩
  rintro i m H ⟨rfl, hi, p⟩
  have q := hl D i H hi p
  by_cases lt : i < xs.length
  · refine .inr ⟨⟨xs, xs[i], q, by simp [lt]⟩, Pv D (i + 1), fun H' p' => ⟨xs.length - (i + 1), by omega, rfl, lt, p'⟩, fun x H' y => ?_⟩
    obtain ⟨rfl, y⟩ := y
    exact hs D i x _ (y xs q) p
  · have e : i = xs.length := by omega
    subst e
    exact .inl ⟨⟨xs, q, Nat.le_refl _⟩, hd D H p⟩
end
theorem road_parts {K : PySem.W.Frag} {H : Hp} {v : V} {r : Str × Str} (h : Dp K H v (roadD r)) : ∃ t, v = .ref t ∧ SqT K H t [.str r.1, .str r.2] := by
  cases h with
  | tup s1 a1 =>
    cases a1 with
    | cons g1 g2 =>
      cases g1
      cases g2 with
      | cons g3 g4 =>
        cases g3
        cases g4
        exact ⟨_, rfl, s1⟩
section
variable {H : Hp} {Q : VK} {K : PySem.W.Frag}
theorem at_str {qs : List Str} {k : Nat} {z : Str} (h : qs[k]? = some z) : atI (qs.map V.str) (k : Int) = some (.str z) := atI_nat (by rw [List.getElem?_map, h]; rfl)
theorem cut_from {xs : List V} {k : Nat} : cutV xs (some (k : Int)) none = xs.drop k := by
  unfold cutV
  rw [HT.sIx_none, HT.sIx_nat]
  by_cases h : k ≤ xs.length
  · rw [Nat.min_eq_left h, List.take_of_length_le (by rw [List.length_drop]; exact Nat.le_refl _)]
  · rw [Nat.min_eq_right (by omega), List.drop_of_length_le (Nat.le_refl _), List.drop_of_length_le (by omega), List.take_nil]
end
theorem at_nat {k : Nat} {α : Type} {l : List α} (h : k < l.length) : ∃ z, l[k]? = some z := ⟨l[k], List.getElem?_eq_getElem h⟩
def sw (qs : List Str) (i : Nat) : List Str := match qs[i]?, qs[i + 1]? with
  | some x, some y => qs.take i ++ y :: x :: qs.drop (i + 2)
  | _, _ => qs
end
section
open L2 PySem PySem.Spec PyProof.Rows
def g2 {α : Type} (us ws : List α) : List α := match us, ws with
  | [], [o] => [o]
  | [], [o, w] => [w, o]
  | [], [o, w, z] => [z, w, o]
  | [], [o, w, z, y] => [y, z, w, o]
  | _, _ => []
theorem g2_rel : ∀ {vs : List V} {us : List Value} {zs : List V} {ws : List Value}, Vals vs us → Vals zs ws → Vals (g2 vs zs) (g2 us ws)
  | [], [], [], [], _, _ => .nil
  | [], [], [_], [_], _, .cons x .nil => .cons x .nil
  | [], [], [_, _], [_, _], _, .cons x (.cons y .nil) => .cons y (.cons x .nil)
  | [], [], [_, _, _], [_, _, _], _, .cons x (.cons y (.cons z .nil)) => .cons z (.cons y (.cons x .nil))
  | [], [], [_, _, _, _], [_, _, _, _], _, .cons x (.cons y (.cons z (.cons a .nil))) => .cons a (.cons z (.cons y (.cons x .nil)))
  | [], [], _ :: _ :: _ :: _ :: _ :: _, _ :: _ :: _ :: _ :: _ :: _, _, _ => .nil
  | _ :: _, _ :: _, _, _, _, _ => .nil
theorem kb4 {K : PySem.W.Frag} {fd : FuncData} {ps ks : List Str} (hp : ps.length = 4) (h : ∀ a b c d : Value, bindArgs fd ⟨[], ks.zip [a, b, c, d]⟩ = pure (ps.zip [d, c, b, a])) : KBinds K fd ps ks g2 g2 := by
  refine ⟨fun s us ws _ hl => ?_, g2_rel⟩
  rw [hp] at hl
  rcases us with _ | ⟨u, us⟩
  · rcases ws with _ | ⟨a, _ | ⟨b, _ | ⟨c, _ | ⟨d, _ | ⟨e, ws⟩⟩⟩⟩⟩
    · exact absurd hl (by simp [g2])
    · exact absurd hl (by simp [g2])
    · exact absurd hl (by simp [g2])
    · exact absurd hl (by simp [g2])
    · exact .of_eq (h a b c d)
    · exact absurd hl (by simp [g2])
  · exact absurd hl (by simp [g2])
structure ClK (P : Program) (w : World) (K : PySem.W.Frag) (mg : Str → Option Value) (base : Heap) (k : Nat) (x : Str) (ps ks : List Str) (sp : Sp) : Prop where
  ex : ∃ (f : Addr) (fd : FuncData), FnOk P w K mg base CX0 k f fd ps sp ∧ mg x = some (.ref f) ∧ PySem.W.keepIn K (.ref f) = true ∧ KBinds K fd ps ks g2 g2
structure Dk (K : PySem.W.Frag) (mg : Str → Option Value) (x : String) (st : Stmt) (ps ks : List Str) : Prop where
  ex : ∃ (f : Addr) (fd : FuncData), Fun K x x st f fd ∧ mg x = some (.ref f) ∧ KBinds K fd ps ks g2 g2
section
variable {base : Heap} {P : Program} {w : World} {K : PySem.W.Frag} {mg : Str → Option Value}
theorem Dk.cl {x : String} {st : Stmt} {N ps ks : List Str} {k : Nat} {sp : Sp} (D : Dk K mg x st ps ks) (S : FnScope N ps (defScope st)) (len : ∀ vs H Q E, sp vs H Q E → vs.length = ps.length)
    (bd : ∀ (f : Addr) (cdv : Value) (A : Around) (fr : List Env) (s : Shared) (H : Hp) (vs : List V) (Q : VK) (E : XK), Room k (A.deeper (envOfC x (defScope st) s.heap.objs.size f cdv)) → sp vs H Q E →
      ∃ t, PSs (cxOf CX0 P w K mg base N x (defScope st) f cdv A fr s H E).nox (defBody st) t ∧ t { nx := fun _ H' => Q .non H', rt := Q } (start N vs) H) : ClK P w K mg base (k + 1) x ps ks sp := by
  obtain ⟨f, fd, F, hm, b⟩ := D.ex
  exact ⟨f, fd, F.ok S len (bd f), hm, F.kp, b⟩
end
section
variable {X : Cx} {k k' : Nat} {ps ks : List Str} {sp : Sp} {x : Str} {p pos : Pos} {kws : List Keyword} {tk : TA}
def tCallK0 (sp : Sp) (tk : TA) : TE := fun σ H Q => tk σ H fun zs H1 => sp (g2 [] zs) H1 Q (fun _ _ _ => False)
theorem pe_ck (C : ClK X.prog X.w X.K X.mg X.base k x ps ks sp) (hr : Room k' X.A) (hkw : PK X kws tk) (hg : Gl X x := by rfl) (hk : k ≤ k' := by decide) (hall : (backToKw pos (keywordEach kws X.env)).all (·.1.isSome) = true := by rfl) (hks : (backToKw pos (keywordEach kws X.env)).filterMap (·.1) = ks := by rfl)
    (hdb : (x == ("__debug__" : Str)) = false := by decide) (hpl : ((backTo pos (starEach [] X.env)).any (·.1) || (backToKw pos (keywordEach kws X.env)).any (·.1.isNone)) = false := by rfl) : PE X (.Call (.Name x p) [] kws pos) (tCallK0 sp tk) := by
  obtain ⟨f, fd, F, hm, kp, b⟩ := C.ex
  refine ⟨fun pins s σ H Q I h => ?_⟩
  refine wpAny_Call_Name_kw (ld_glob I hg hm ?_ hdb)
  refine PySem.W.callWith_KW0 (h₀ := X.base) I.ok.mod.kin kp hall (thn (hkw.run pos pins s σ H _ I h) fun ws s2 ⟨zs, H2, I2, rz, q2⟩ => ⟨I2.kIn, ?_⟩) hpl
  rw [hks]
  exact run_fnk F (hr.mono hk) b pass0 I2 .nil rz q2
end
end
section
open L2 PySem PySem.Spec PyProof.Rows
abbrev rsD (l : List (Str × Str)) : PyData := .tuple (l.map roadD)
theorem idx_is {l : List Str} (nd : l.Nodup) {k : Nat} {z : Str} (h : l[k]? = some z) : l.idxOf z = k := nodup_at nd (idx_first (List.mem_of_getElem? h)).1 h
end
section
open L2 PySem PySem.Spec PyProof.Rows
section
variable {σ : L2.St} {H : Hp} {Q : VK} {K : PySem.W.Frag} {te : TE}
theorem i_ck {sp : Sp} {tk : TA} (h : tk σ H fun zs H1 => sp (g2 [] zs) H1 Q (fun _ _ _ => False)) : tCallK0 sp tk σ H Q := h
theorem tup_parts {v : V} {ds : List PyData} (h : Dp K H v (.tuple ds)) : ∃ t xs, v = .ref t ∧ SqT K H t xs ∧ DpAll K H xs ds := by
  cases h with
  | tup s a => exact ⟨_, _, rfl, s, a⟩
theorem sqL_ch {H' : Hp} {a q : Addr} {xs : List V} (h : SqL K H a xs) (n : H q = none) (k : Ch q H H') : SqL K H' a xs := by
  rcases h with (e | ⟨o, e⟩) | e
  · exact .inl (.inl (k a _ (ne_of_none e n) e))
  · exact .inl (.inr ⟨o, k a _ (ne_of_none e n) e⟩)
  · exact .inr e
end
end
section
open L2 PySem PySem.Spec PyProof.Rows
section
variable {X : Cx} {σ : L2.St} {H : Hp} {Q : VK} {K : PySem.W.Frag} {g : TG} {tt : TT} {te : TE} {vs : List Nat} {a b : Addr} {R : It → Hp → Prop}
theorem kpi_zip {e e2 : Expr} {ta : TA} {p pos tpos : Pos} {elts : List Expr} {kk : Nat} (hm : X.mg "zip" = none) (ha : PA X [e, e2] ta) (hK : X.K = K := by rfl) (hg : Gl X "zip" := by rfl)
    (hs : starEach [e, e2] X.env = (false, eval e X.env) :: starEach [e2] X.env := by rfl) (hpl : (backTo pos (starEach [e2] X.env)).any (·.1) = false := by rfl) : PI X (.Tuple elts kk tpos) (.Call (.Name "zip" p) [e, e2] [] pos) (RZ.iZipA K ta) := by
  subst hK
  exact RZ.pi_zipA hg hm ha hs hpl
def zipK (K : PySem.W.Frag) (R : It → Hp → Prop) : List V → Hp → Prop := fun us H1 => ∃ a b xs ys, us = [.ref a, .ref b] ∧ ((SqL K H1 a xs ∧ SqL K H1 b ys ∧ R (Itz K a b) H1) ∨ (SqT K H1 a xs ∧ SqT K H1 b ys ∧ R (RZ.ItzT K a b) H1))
theorem i_zip {ta : TA} (h : ta σ H (zipK K R)) : RZ.iZipA K ta σ H R := h
theorem i_zipT {xs ys : List V} (ha : SqT K H a xs) (hb : SqT K H b ys) (h : R (RZ.ItzT K a b) H) : zipK K R [.ref a, .ref b] H := ⟨a, b, xs, ys, rfl, .inr ⟨ha, hb, h⟩⟩
theorem c_zip (xs ys : List V) (hl : xs.length = ys.length) (Pv : Addr → Nat → Hp → Prop) (h0 : ∀ D, H D = none → Pv D 0 (upd H D (.lst []))) (ha : ∀ D i H, Pv D i H → SqT K H a xs ∧ SqT K H b ys)
    (hs : ∀ D i x y H T, xs[i]? = some x → ys[i]? = some y → Pv D i H → H T = none → g (.ref T) (wipe σ vs) (upd H T (.tup [x, y])) fun σ2 H2 => wipe σ2 vs = wipe σ vs ∧ tt σ2 H2 fun c H3 => if c = true then te σ2 H3 (lcE D (Pv D (i + 1))) else Pv D (i + 1) H3)
    (hd : ∀ D H, Pv D xs.length H → Q (.ref D) H) : lcK g tt te vs σ Q (RZ.ItzT K a b) H := by
  intro D nD
  refine ⟨fun i m H => m = xs.length - i ∧ i ≤ xs.length ∧ Pv D i H, ⟨xs.length, by simp, Nat.zero_le _, h0 D nD⟩, ?_⟩
  rintro i m H ⟨rfl, hi, p⟩
  obtain ⟨qa, qb⟩ := ha D i H p
  by_cases lt : i < xs.length
  · have lt2 : i < ys.length := by omega
    refine .inr ⟨⟨xs, ys, xs[i], ys[i], qa, qb, by simp [lt], by simp [lt2]⟩, Pv D (i + 1), fun H' p' => ⟨xs.length - (i + 1), by omega, rfl, lt, p'⟩, fun v H' y => ?_⟩
    obtain ⟨T, x, z, rfl, nT, rfl, hx, hz⟩ := y
    exact hs D i x z H T (hx xs qa) (hz ys qb) p nT
  · have e : i = xs.length := by omega
    subst e
    exact .inl ⟨⟨xs, ys, qa, qb, .inl (Nat.le_refl _)⟩, hd D H p⟩
end
def spJoined (K : PySem.W.Frag) : Sp := fun vs H Q _ => ∃ (v : V) (x y : Str) (ps : List Str) (rs : List (Str × Str)), vs = [v, .str x, .str y] ∧ Dp K H v (webD ps rs) ∧ IsWeb ps rs ∧ x ∈ ps ∧ y ∈ ps ∧ ∀ H', Same H H' → Q (.bl (isRoad rs x y)) H'
def spWorth (K : PySem.W.Frag) : Sp := fun vs H Q _ => ∃ (z : Str) (x : V) (d : PyData) (p : Addr) (k : Nat) (near : List Str), vs = [.str z, x, .int k, .ref p] ∧ Dp K H x d ∧ RuleD k near (.tuple [.str z, d]) ∧ SqT K H p (near.map V.str) ∧ near.length ≤ 7 ∧ 2 ≤ k ∧ k ≤ 3 ∧ ∀ H', Same H H' → Q (.bl true) H'
def spAreRules (K : PySem.W.Frag) : Sp := fun vs H Q _ => ∃ (t : Addr) (v : V) (us : List V) (k : Nat) (ps : List Str) (rs : List (Str × Str)) (ds : List PyData), vs = [.ref t, .int k, v] ∧ SqT K H t us ∧ DpAll K H us ds ∧ Dp K H v (webD ps rs) ∧ IsHall k ps rs ds ∧ ∀ H', Same H H' → Q (.bl true) H'
def spIsHall (K : PySem.W.Frag) (r : V) : Sp := fun vs H Q _ => ∃ (v : V) (k : Nat) (ps : List Str) (rs : List (Str × Str)) (ds : List PyData), vs = [v] ∧ Dp K H v (hallD k ps rs ds) ∧ IsHall k ps rs ds ∧ ∀ H', Same H H' → Q r H'
def natsV (t : List Nat) : List V := t.map fun n => V.int ((n : Nat) : Int)
def spNeedState (K : PySem.W.Frag) : Sp := fun vs H Q _ => ∃ (v : V) (s : Addr) (k : Nat) (ps : List Str) (rs : List (Str × Str)) (ds : List PyData) (t : List Nat), vs = [v, .ref s] ∧ Dp K H v (hallD k ps rs ds) ∧ IsHall k ps rs ds ∧ SqT K H s (natsV t) ∧ t.length = ps.length ∧ (∀ n ∈ t, n < k) ∧ ∀ H', Same H H' → Q .non H'
def spIsState (K : PySem.W.Frag) : Sp := fun vs H Q _ => ∃ (v : V) (s : Addr) (k : Nat) (ps : List Str) (rs : List (Str × Str)) (ds : List PyData) (t : List Nat), vs = [v, .ref s] ∧ Dp K H v (hallD k ps rs ds) ∧ IsHall k ps rs ds ∧ SqT K H s (natsV t) ∧ t.length = ps.length ∧ (∀ n ∈ t, n < k) ∧ ∀ H', Same H H' → Q (.bl true) H'
theorem hall_parts {K : PySem.W.Frag} {H : Hp} {v : V} {k : Nat} {ps : List Str} {rs : List (Str × Str)} {ds : List PyData} (h : Dp K H v (hallD k ps rs ds)) :
    ∃ (t : Addr) (wv : V) (tr : Addr) (us : List V), v = .ref t ∧ SqT K H t [.int k, wv, .ref tr] ∧ Dp K H wv (webD ps rs) ∧ SqT K H tr us ∧ DpAll K H us ds := by
  unfold hallD at h
  cases h with
  | tup s1 a1 =>
    cases a1 with
    | cons g1 g2 =>
      cases g1
      cases g2 with
      | cons g3 g4 =>
        cases g4 with
        | cons g5 g6 =>
          cases g6
          obtain ⟨tr, us, e, s2, a2⟩ := tup_parts g5
          subst e
          exact ⟨_, _, tr, us, rfl, s1, g3, s2, a2⟩
end
section
open L2 PySem PySem.Spec PyProof.Rows
def lc2K (g : TG) (tt : TT) (wi1 : TI) (g1 : TG) (tt1 : TT) (te : TE) (vs vs1 : List Nat) (σ : L2.St) (Q : VK) : It → Hp → Prop := fun J h => tLc2 (fun _ h' R => R J h') g tt wi1 g1 tt1 te vs vs1 σ h Q
section
variable {σ : L2.St} {H : Hp} {Q : VK} {K : PySem.W.Frag} {te : TE}
theorem i_lc2 {wi : TI} {g : TG} {tt : TT} {wi1 : TI} {g1 : TG} {tt1 : TT} {vs vs1 : List Nat} (h : wi σ H (lc2K g tt wi1 g1 tt1 te vs vs1 σ Q)) : tLc2 wi g tt wi1 g1 tt1 te vs vs1 σ H Q := h
theorem c2_lr {v u : Nat} {wi1 : TI} {a : Addr} (hv : v < σ.length) (huv : u ≠ v) (xs : List V) (n : Nat) (Pv : Addr → Nat → Nat → Hp → Prop) (h0 : ∀ D, H D = none → Pv D 0 0 (upd H D (.lst [])))
    (hl : ∀ D i H', Pv D i 0 H' → SqL K H' a xs) (hr : ∀ D i x H' (R : It → Hp → Prop), i < xs.length → Pv D i 0 H' → R (Itr 0 n) H' → wi1 ((wipe σ [v, u]).set v (some x)) H' R)
    (hs : ∀ D i (j : Nat) x H', xs[i]? = some x → j < n → Pv D i j H' → te (((wipe σ [v, u]).set v (some x)).set u (some (.int (0 + (j : Int))))) H' (lcE D (Pv D i (j + 1))))
    (hw : ∀ D i H', i < xs.length → Pv D i n H' → Pv D (i + 1) 0 H') (hd : ∀ D H', Pv D xs.length 0 H' → Q (.ref D) H') : lc2K (gName v) tYes wi1 (gName u) tYes te [v, u] [u] σ Q (Itl K a) H := by
  intro D nD
  refine ⟨fun i m H => m = xs.length - i ∧ i ≤ xs.length ∧ Pv D i 0 H, ⟨xs.length, by simp, Nat.zero_le _, h0 D nD⟩, ?_⟩
  rintro i m H ⟨rfl, hi, p⟩
  have q := hl D i H p
  by_cases lt : i < xs.length
  · refine .inr ⟨⟨xs, xs[i], q, by simp [lt]⟩, Pv D (i + 1) 0, fun H' p' => ⟨xs.length - (i + 1), by omega, rfl, lt, p'⟩, fun x H' y => ?_⟩
    obtain ⟨rfl, y⟩ := y
    have hx := y xs q
    refine ⟨?_, ?_⟩
    · show List.set (List.set (List.set (List.set (List.set σ u none) v none) v (some _)) u none) v none = List.set (List.set σ u none) v none
      rw [List.set_set, List.set_comm _ _ huv.symm, List.set_set, List.set_set]
    · show wi1 _ _ _
      refine hr D i x H' _ lt p ?_
      refine ⟨fun j k H => k = n - j ∧ j ≤ n ∧ Pv D i j H, ⟨n, by simp, Nat.zero_le _, p⟩, ?_⟩
      rintro j k H2 ⟨rfl, hj, p2⟩
      by_cases ltj : j < n
      · refine .inr ⟨ltj, Pv D i (j + 1), fun H3 p3 => ⟨n - (j + 1), by omega, rfl, ltj, p3⟩, fun z H3 yz => ?_⟩
        obtain ⟨rfl, rfl⟩ := yz
        refine ⟨?_, ?_⟩
        · show List.set (List.set (List.set _ u none) u (some _)) u none = List.set _ u none
          rw [List.set_set, List.set_set]
        · show te (List.set (List.set (List.set (List.set (List.set σ u none) v none) v (some x)) u none) u (some _)) _ _
          rw [List.set_set]
          exact hs D i j x _ hx ltj p2
      · have e : j = n := by omega
        subst e
        exact .inl ⟨Nat.le_refl _, hw D i _ lt p2⟩
  · have e : i = xs.length := by omega
    subst e
    exact .inl ⟨⟨xs, q, Nat.le_refl _⟩, hd D _ p⟩
theorem k_catA {X : Cx} {K : PySem.W.Frag} (hK : X.K = K := by rfl) : OpR X (binaryOp .Add) (rCatA K) := by subst hK; exact op_catA
theorem i_catA {a b : Addr} {xs ys : List V} (e : SqT K H a xs) (e2 : SqT K H b ys) (ne : ys ≠ []) (z : xs.length + ys.length ≤ sizeLine) (h : ∀ p H', Same H H' → SqT K H' p (xs ++ ys) → Q (.ref p) H') : rCatA K (.ref a) (.ref b) H Q := by
  refine ⟨a, b, xs, ys, rfl, rfl, e, e2, z, fun hx => ?_, fun hx hy => absurd hy ne, fun hx hy p np => ?_⟩
  · subst hx
    exact h b H (Same.refl _) e2
  · exact h p _ (Same.upd_new np) (sq_tup upd_same)
end
def statesL (k : Nat) : Nat → List (List Nat)
  | 0 => [[]]
  | n + 1 => (statesL k n).flatMap fun s => (List.range k).map fun o => s ++ [o]
def numN (k : Nat) (t : List Nat) : Nat := t.foldl (fun m o => m * k + o) 0
theorem numN_snoc (k : Nat) (s : List Nat) (o : Nat) : numN k (s ++ [o]) = numN k s * k + o := by
  unfold numN
  rw [List.foldl_append]
  rfl
theorem range_mul (a k : Nat) : List.range (a * k) = (List.range a).flatMap fun m => (List.range k).map fun o => m * k + o := by
  induction a with
  | zero => simp
  | succ a ih =>
    rw [Nat.succ_mul, List.range_add, ih, List.range_succ, List.flatMap_append]
    simp
theorem states_num (k n : Nat) : (statesL k n).map (numN k) = List.range (k ^ n) := by
  induction n with
  | zero => rfl
  | succ n ih =>
    show ((statesL k n).flatMap fun s => (List.range k).map fun o => s ++ [o]).map (numN k) = _
    rw [Nat.pow_succ, range_mul, ← ih, List.map_flatMap, List.flatMap_map]
    congr 1
    funext s
    rw [List.map_map]
    exact List.map_congr_left fun o _ => numN_snoc k s o
theorem states_len (k n : Nat) : (statesL k n).length = k ^ n := by
  have := congrArg List.length (states_num k n)
  rwa [List.length_map, List.length_range] at this
theorem states_ok (k n : Nat) : ∀ s ∈ statesL k n, s.length = n ∧ ∀ x ∈ s, x < k := by
  induction n with
  | zero =>
    intro s hs
    rw [List.mem_singleton.mp hs]
    exact ⟨rfl, fun x h => by cases h⟩
  | succ n ih =>
    intro s hs
    obtain ⟨t, ht, h⟩ := List.mem_flatMap.mp hs
    obtain ⟨o, ho, rfl⟩ := List.mem_map.mp h
    obtain ⟨h1, h2⟩ := ih t ht
    refine ⟨by rw [List.length_append, h1]; rfl, fun x hx => ?_⟩
    rcases List.mem_append.mp hx with hx | hx
    · exact h2 x hx
    · rw [List.mem_singleton.mp hx]
      exact List.mem_range.mp ho
def intsI (s : List Nat) : List Int := s.map fun n => ((n : Nat) : Int)
def rowsL (L : List (List Nat)) (k i j : Nat) : List (List Nat) := ((L.take i).flatMap fun s => (List.range k).map fun o => s ++ [o]) ++ (List.range j).map fun o => L.getD i [] ++ [o]
theorem rows_push (L : List (List Nat)) (k i j : Nat) : rowsL L k i (j + 1) = rowsL L k i j ++ [L.getD i [] ++ [j]] := by
  unfold rowsL
  rw [List.range_succ, List.map_append, List.append_assoc]
  rfl
theorem rows_next {L : List (List Nat)} {k i : Nat} (h : i < L.length) : rowsL L k i k = rowsL L k (i + 1) 0 := by
  unfold rowsL
  rw [List.take_add_one, List.flatMap_append, List.getElem?_eq_getElem h, List.getD_eq_getElem?_getD, List.getElem?_eq_getElem h]
  simp
theorem rows_all (k n : Nat) : rowsL (statesL k n) k (statesL k n).length 0 = statesL k (n + 1) := by
  unfold rowsL
  rw [List.take_length]
  simp [statesL]
theorem rows_len (L : List (List Nat)) {k i j : Nat} (hi : i ≤ L.length) : (rowsL L k i j).length = i * k + j := by
  unfold rowsL
  rw [List.length_append, List.length_map, List.length_range, List.length_flatMap]
  congr 1
  have : ((L.take i).map fun s => ((List.range k).map fun o => s ++ [o]).length) = List.replicate i k := by
    rw [List.eq_replicate_iff]
    refine ⟨by rw [List.length_map, List.length_take]; omega, fun b hb => ?_⟩
    obtain ⟨s, _, rfl⟩ := List.mem_map.mp hb
    rw [List.length_map, List.length_range]
  rw [this]
  first | rw [List.sum_replicate_nat] | simp
end
section
open L2 PySem PySem.Spec PyProof.Rows
def iD (n : Nat) : PyData := .int ((n : Nat) : Int)
theorem small_all : ∀ n : Fin 300, ((iD n.1).canLay0 && decide ((iD n.1).weight ≤ 10) && PyData.intsShort 13 (iD n.1) && (iD n.1).showable) = true := by decide +kernel
theorem small_int {n : Nat} (h : n < 300) : (iD n).canLay0 = true ∧ (iD n).weight ≤ 10 ∧ PyData.intsShort 13 (iD n) = true ∧ (iD n).showable = true := by
  have := small_all ⟨n, h⟩
  simp only [Bool.and_eq_true, decide_eq_true_eq] at this
  exact ⟨this.1.1.1, this.1.1.2, this.1.2, this.2⟩
theorem ints_data : ∀ l : List Nat, (∀ n ∈ l, n < 300) → PyData.canLayAll0 (l.map iD) = true ∧ PyData.showableAll (l.map iD) = true ∧ PyData.hasDictAll (l.map iD) = false ∧ PyData.depthAll (l.map iD) = 0 ∧
    PyData.weightAll (l.map iD) ≤ 11 * l.length ∧ PyData.intsShortAll 13 (l.map iD) = true ∧ noBAll (l.map iD) = true
  | [], _ => ⟨rfl, rfl, rfl, rfl, Nat.le_refl _, rfl, rfl⟩
  | x :: l, h => by
    obtain ⟨a1, a2, a3, a4, a5, a6, a7⟩ := ints_data l fun r hr => h r (List.mem_cons_of_mem _ hr)
    obtain ⟨b1, b2, b3, b4⟩ := small_int (h x List.mem_cons_self)
    refine ⟨?_, ?_, ?_, ?_, ?_, ?_, ?_⟩
    · show ((iD x).canLay0 && PyData.canLayAll0 (l.map iD)) = true
      rw [b1, a1]
      rfl
    · show ((iD x).showable && PyData.showableAll (l.map iD)) = true
      rw [b4, a2]
      rfl
    · show (false || PyData.hasDictAll (l.map iD)) = false
      rw [a3]
      rfl
    · show max 0 (PyData.depthAll (l.map iD)) = 0
      omega
    · show (iD x).weight + 1 + PyData.weightAll (l.map iD) ≤ 11 * (l.length + 1)
      omega
    · show (PyData.intsShort 13 (iD x) && PyData.intsShortAll 13 (l.map iD)) = true
      rw [b3, a6]
      rfl
    · show (true && noBAll (l.map iD)) = true
      rw [a7]
      rfl
def Sm (s : List Nat) : Prop := s.length ≤ 8 ∧ ∀ n ∈ s, n < 300
theorem states_data : ∀ l : List (List Nat), (∀ s ∈ l, Sm s) → PyData.canLayAll0 (l.map intsD) = true ∧ PyData.showableAll (l.map intsD) = true ∧ PyData.hasDictAll (l.map intsD) = false ∧ PyData.depthAll (l.map intsD) ≤ 1 ∧
    PyData.weightAll (l.map intsD) ≤ 100 * l.length ∧ PyData.intsShortAll 13 (l.map intsD) = true ∧ noBAll (l.map intsD) = true
  | [], _ => ⟨rfl, rfl, rfl, Nat.zero_le _, Nat.le_refl _, rfl, rfl⟩
  | x :: l, h => by
    obtain ⟨a1, a2, a3, a4, a5, a6, a7⟩ := states_data l fun r hr => h r (List.mem_cons_of_mem _ hr)
    obtain ⟨hl, hx⟩ := h x List.mem_cons_self
    obtain ⟨b1, b2, b3, b4, b5, b6, b7⟩ := ints_data x hx
    refine ⟨?_, ?_, ?_, ?_, ?_, ?_, ?_⟩
    · show (PyData.canLayAll0 (x.map iD) && PyData.canLayAll0 (l.map intsD)) = true
      rw [b1, a1]
      rfl
    · show (PyData.showableAll (x.map iD) && PyData.showableAll (l.map intsD)) = true
      rw [b2, a2]
      rfl
    · show (PyData.hasDictAll (x.map iD) || PyData.hasDictAll (l.map intsD)) = false
      rw [b3, a3]
      rfl
    · show max (PyData.depthAll (x.map iD) + 1) (PyData.depthAll (l.map intsD)) ≤ 1
      omega
    · show PyData.weightAll (x.map iD) + 1 + PyData.weightAll (l.map intsD) ≤ 100 * (l.length + 1)
      omega
    · show (PyData.intsShortAll 13 (x.map iD) && PyData.intsShortAll 13 (l.map intsD)) = true
      rw [b6, a6]
      rfl
    · show (noBAll (x.map iD) && noBAll (l.map intsD)) = true
      rw [b7, a7]
      rfl
abbrev stD (l : List (List Nat)) : PyData := .list (l.map intsD)
theorem st_shaped {l : List (List Nat)} (h : ∀ s ∈ l, Sm s) : SeqAt.shaped (stD l) = true := by
  obtain ⟨a1, _, _, a4, _⟩ := states_data l h
  show (PyData.canLayAll0 (l.map intsD) && decide (PyData.depthAll (l.map intsD) + 1 ≤ 64)) = true
  rw [a1, decide_eq_true (by omega)]
  rfl
theorem LsD.same {K : PySem.W.Frag} {H H' : Hp} {D : Addr} {ds : List PyData} (h : LsD K H D ds) (k : Same H H') : LsD K H' D ds := let ⟨vs, e, d, t⟩ := h; ⟨vs, k _ _ e, DpAll.same k _ _ d, t⟩
theorem LsD.dp {K : PySem.W.Frag} {H : Hp} {D : Addr} {ds : List PyData} (h : LsD K H D ds) : Dp K H (.ref D) (.list ds) := let ⟨_, e, d, _⟩ := h; .lst (sq_lst e) d
theorem fold_lt {k : Nat} : ∀ (t : List Nat) (m : Nat), (∀ x ∈ t, x < k) → t.foldl (fun m o => m * k + o) m < (m + 1) * k ^ t.length
  | [], m, _ => by simp
  | x :: r, m, h => by
    have hx := h x List.mem_cons_self
    have ih := fold_lt r (m * k + x) fun y hy => h y (List.mem_cons_of_mem _ hy)
    have : (m * k + x + 1) * k ^ r.length ≤ ((m + 1) * k) * k ^ r.length := Nat.mul_le_mul_right _ (by rw [Nat.succ_mul]; omega)
    rw [List.length_cons, Nat.pow_succ, Nat.mul_comm (k ^ r.length) k, ← Nat.mul_assoc]
    exact Nat.lt_of_lt_of_le ih this
theorem num_lt {k : Nat} {t : List Nat} (h : ∀ x ∈ t, x < k) : numN k t < k ^ t.length := by
  have := fold_lt t 0 h
  rw [Nat.zero_add, Nat.one_mul] at this
  exact this
theorem st_at {k n j : Nat} {t : List Nat} (h : (statesL k n)[j]? = some t) : numN k t = j := by
  have e := congrArg (fun l => l[j]?) (states_num k n)
  have hj : j < k ^ n := by
    rw [← states_len k n]
    exact (List.getElem?_eq_some_iff.mp h).1
  simp only [List.getElem?_map, h, List.getElem?_range hj] at e
  exact Option.some.inj e
theorem cut_take {xs : List V} {k : Nat} : cutV xs none (some (k : Int)) = xs.take k := by
  unfold cutV
  rw [HT.sIx_none, HT.sIx_nat, List.drop_zero, Nat.sub_zero]
  by_cases z : k ≤ xs.length
  · rw [Nat.min_eq_left z]
  · rw [Nat.min_eq_right (by omega), List.take_of_length_le (Nat.le_refl _), List.take_of_length_le (by omega)]
theorem dp_nts {K : PySem.W.Frag} {H : Hp} : ∀ t : List Nat, DpAll K H (natsV t) (t.map iD)
  | [] => .nil
  | x :: r => .cons (.int _) (dp_nts r)
end
section
open L2 PySem PySem.Spec PyProof.Rows
section
variable {K : PySem.W.Frag} {H H' : Hp} {a : Addr} {c : Int} {v : V} {k : Nat} {ps : List Str} {rs : List (Str × Str)} {ds : List PyData}
def WF (K : PySem.W.Frag) (H : Hp) (v : V) (ps : List Str) (rs : List (Str × Str)) : Prop := ∃ (t tp tr : Addr), v = .ref t ∧ SqT K H t [.ref tp, .ref tr] ∧ FT H tp (ps.map V.str) ∧ Dp K H (.ref tr) (.tuple (rs.map roadD))
theorem WF.dp (h : WF K H v ps rs) : Dp K H v (webD ps rs) := by
  obtain ⟨t, tp, tr, rfl, s, f, d⟩ := h
  exact .tup s (.cons (.tup f.sq (DpAll.strs ps)) (.cons d .nil))
theorem WF.same (h : WF K H v ps rs) (s : Same H H') : WF K H' v ps rs := by
  obtain ⟨t, tp, tr, rfl, q, f, d⟩ := h
  exact ⟨t, tp, tr, rfl, TK.same s _ _ q, f.same s, Dp.same s _ _ d⟩
theorem WF.ch (h : WF K H v ps rs) (s : Ch a H H') (f : Fd H a c) : WF K H' v ps rs := by
  obtain ⟨t, tp, tr, rfl, q, g, d⟩ := h
  have tk := TK.ch (K := K) s f
  exact ⟨t, tp, tr, rfl, tk _ _ q, g.ch s f, Dp.tk tk _ _ (roads_only rs) d⟩
theorem WF.lst {D : Addr} {o : HO} {xs : List V} (h : WF K H v ps rs) (e : H D = some (.lst xs)) : WF K (upd H D o) v ps rs := by
  obtain ⟨t, tp, tr, rfl, q, ⟨ob, g, k⟩, d⟩ := h
  have tk := TK.lst (K := K) (o := o) e
  refine ⟨t, tp, tr, rfl, tk _ _ q, ⟨ob, ?_, k⟩, Dp.tk tk _ _ (roads_only rs) d⟩
  rw [upd_ne (fun z => by rw [z, e] at g; cases g)]
  exact g
def HF (K : PySem.W.Frag) (H : Hp) (v : V) (k : Nat) (ps : List Str) (rs : List (Str × Str)) (ds : List PyData) : Prop := ∃ (t T : Addr) (wv : V), v = .ref t ∧ SqT K H t [.int k, wv, .ref T] ∧ WF K H wv ps rs ∧ Dp K H (.ref T) (.tuple ds) ∧ tupOnlyAll ds = true
theorem HF.dp (h : HF K H v k ps rs ds) : Dp K H v (hallD k ps rs ds) := by
  obtain ⟨t, T, wv, rfl, s, w, d, _⟩ := h
  exact .tup s (.cons (.int _) (.cons w.dp (.cons d .nil)))
theorem HF.same (h : HF K H v k ps rs ds) (s : Same H H') : HF K H' v k ps rs ds := by
  obtain ⟨t, T, wv, rfl, q, w, d, u⟩ := h
  exact ⟨t, T, wv, rfl, TK.same s _ _ q, w.same s, Dp.same s _ _ d, u⟩
theorem HF.ch (h : HF K H v k ps rs ds) (s : Ch a H H') (f : Fd H a c) : HF K H' v k ps rs ds := by
  obtain ⟨t, T, wv, rfl, q, w, d, u⟩ := h
  have tk := TK.ch (K := K) s f
  exact ⟨t, T, wv, rfl, tk _ _ q, w.ch s f, Dp.tk tk (.tuple ds) _ u d, u⟩
end
def spWebF (K : PySem.W.Frag) : Sp := fun vs H Q _ => ∃ (a : Addr) (way : Str) (most c : Int), vs = [.ref a, .str way, .int most] ∧ Fd H a c ∧ 1 ≤ most ∧ most ≤ 8 ∧ c < 10 ^ 13 ∧
  ∀ (v : V) (ps : List Str) (rs : List (Str × Str)) (H' : Hp), IsWeb ps rs → (ps.length : Int) ≤ max 3 most → WF K H' v ps rs → Fd H' a (c + 10000) → Ch a H H' → Q v H'
def spHallF (K : PySem.W.Frag) : Sp := fun vs H Q _ => ∃ (a : Addr) (way sort : Str) (most c : Int), vs = [.ref a, .str way, .str sort, .int most] ∧ Fd H a c ∧ 1 ≤ most ∧ most ≤ 8 ∧ c < 10 ^ 11 ∧
  ∀ (v : V) (k : Nat) (ps : List Str) (rs : List (Str × Str)) (ds : List PyData) (H' : Hp), IsHall k ps rs ds → HF K H' v k ps rs ds → Fd H' a (c + 1000000000) → Ch a H H' → Q v H'
end
section
open L2 PySem PySem.Spec PyProof.Rows
def minN : List Nat → Nat
  | [] => 0
  | x :: r => r.foldl min x
def maxN : List Nat → Nat
  | [] => 0
  | x :: r => r.foldl max x
theorem fold_min (r : List Nat) (x : Nat) : (r.foldl min x ∈ x :: r) ∧ ∀ y ∈ x :: r, r.foldl min x ≤ y := by
  induction r generalizing x with
  | nil => exact ⟨by simp, fun y hy => by rw [List.mem_singleton.mp hy]; exact Nat.le_refl _⟩
  | cons z r ih =>
    obtain ⟨h1, h2⟩ := ih (min x z)
    show (r.foldl min (min x z) ∈ x :: z :: r) ∧ ∀ y ∈ x :: z :: r, r.foldl min (min x z) ≤ y
    refine ⟨?_, fun y hy => ?_⟩
    · rcases List.mem_cons.mp h1 with e | e
      · rw [e]
        rcases Nat.le_total x z with q | q
        · rw [Nat.min_eq_left q]; simp
        · rw [Nat.min_eq_right q]; simp
      · exact List.mem_cons_of_mem _ (List.mem_cons_of_mem _ e)
    · have h3 := h2 (min x z) List.mem_cons_self
      rcases List.mem_cons.mp hy with rfl | hy
      · omega
      · rcases List.mem_cons.mp hy with rfl | hy
        · omega
        · exact h2 y (List.mem_cons_of_mem _ hy)
theorem fold_max (r : List Nat) (x : Nat) : (r.foldl max x ∈ x :: r) ∧ ∀ y ∈ x :: r, y ≤ r.foldl max x := by
  induction r generalizing x with
  | nil => exact ⟨by simp, fun y hy => by rw [List.mem_singleton.mp hy]; exact Nat.le_refl _⟩
  | cons z r ih =>
    obtain ⟨h1, h2⟩ := ih (max x z)
    show (r.foldl max (max x z) ∈ x :: z :: r) ∧ ∀ y ∈ x :: z :: r, y ≤ r.foldl max (max x z)
    refine ⟨?_, fun y hy => ?_⟩
    · rcases List.mem_cons.mp h1 with e | e
      · rw [e]
        rcases Nat.le_total x z with q | q
        · rw [Nat.max_eq_right q]; simp
        · rw [Nat.max_eq_left q]; simp
      · exact List.mem_cons_of_mem _ (List.mem_cons_of_mem _ e)
    · have h3 := h2 (max x z) List.mem_cons_self
      rcases List.mem_cons.mp hy with rfl | hy
      · omega
      · rcases List.mem_cons.mp hy with rfl | hy
        · omega
        · exact h2 y (List.mem_cons_of_mem _ hy)
theorem min_is {s : List Nat} (h : s ≠ []) : minN s ∈ s ∧ ∀ y ∈ s, minN s ≤ y := by
  cases s with
  | nil => exact absurd rfl h
  | cons x r => exact fold_min r x
theorem max_is {s : List Nat} (h : s ≠ []) : maxN s ∈ s ∧ ∀ y ∈ s, y ≤ maxN s := by
  cases s with
  | nil => exact absurd rfl h
  | cons x r => exact fold_max r x
def tabIx (k : Nat) (ss : List Nat) : Nat := ss.reverse.foldl (fun i s => i * k + s) 0
theorem tabIx_eq (k : Nat) (ss : List Nat) : tabIx k ss = numN k ss.reverse := rfl
theorem tabIx_lt {k : Nat} {ss : List Nat} (h : ∀ s ∈ ss, s < k) : tabIx k ss < k ^ ss.length := by
  rw [tabIx_eq, ← List.length_reverse]
  exact num_lt fun x hx => h x (List.mem_reverse.mp hx)
def natOf : PyData → Nat
  | .int i => i.toNat
  | _ => 0
def tupOf : PyData → List PyData
  | .tuple l => l
  | _ => []
def nextV (k : Nat) (near : List Str) : PyData → List Nat → Nat
  | .tuple [.str s], ss => if s = "keep" then ss.headD 0 else if s = "least" then minN ss else if s = "greatest" then maxN ss else ss.sum % k
  | .tuple [.str s, .tuple ts], ss => if s = "table" then natOf (ts.getD (tabIx k ss) .none) else natOf ((tupOf (ts.getD (ss.headD 0) .none)).getD ss.tail.sum .none)
  | .tuple [.str _, .int n], ss => if n ≤ ((ss.tail.filter fun s => decide (s ≠ 0)).length : Int) then 1 else 0
  | .tuple [.str _, .str z], ss => ss.tail.getD (near.idxOf z) 0
  | _, _ => 0
section
variable (k : Nat) (near : List Str) (ss : List Nat)
theorem nextV_keep : nextV k near (.tuple [.str "keep"]) ss = ss.headD 0 := by
  simp only [nextV]
  rw [if_pos trivial]
theorem nextV_least : nextV k near (.tuple [.str "least"]) ss = minN ss := by
  simp only [nextV]
  rw [if_neg (by decide), if_pos trivial]
theorem nextV_greatest : nextV k near (.tuple [.str "greatest"]) ss = maxN ss := by
  simp only [nextV]
  rw [if_neg (by decide), if_neg (by decide), if_pos trivial]
theorem nextV_odd : nextV k near (.tuple [.str "odd"]) ss = ss.sum % k := by
  simp only [nextV]
  rw [if_neg (by decide), if_neg (by decide), if_neg (by decide)]
theorem nextV_table (t : List Nat) : nextV k near (.tuple [.str "table", intsD t]) ss = t.getD (tabIx k ss) 0 := by
  unfold intsD
  simp only [nextV]
  rw [if_pos trivial, List.getD_eq_getElem?_getD, List.getElem?_map, List.getD_eq_getElem?_getD]
  cases t[tabIx k ss]? <;> rfl
theorem nextV_sum (ts : List (List Nat)) (o : Nat) (r : List Nat) : nextV k near (.tuple [.str "sum", .tuple (ts.map intsD)]) (o :: r) = (ts.getD o []).getD r.sum 0 := by
  simp only [nextV, List.headD_cons, List.tail_cons]
  rw [if_neg (by decide), List.getD_eq_getElem?_getD (l := ts.map intsD), List.getElem?_map, List.getD_eq_getElem?_getD (l := ts)]
  cases ts[o]? with
  | none => rfl
  | some t =>
    show natOf ((t.map fun n => PyData.int ((n : Nat) : Int)).getD r.sum .none) = t.getD r.sum 0
    rw [List.getD_eq_getElem?_getD, List.getElem?_map, List.getD_eq_getElem?_getD]
    cases t[r.sum]? <;> rfl
end
def spTabIx (K : PySem.W.Frag) : Sp := fun vs H Q _ => ∃ (L : Addr) (k : Nat) (ss : List Nat), vs = [.int k, .ref L] ∧ SqL K H L (natsV ss) ∧ k ≤ 3 ∧ ∀ H', Same H H' → Q (.int (tabIx k ss : Nat)) H'
def spNext (K : PySem.W.Frag) : Sp := fun vs H Q _ => ∃ (v : V) (d : PyData) (p L : Addr) (k : Nat) (near : List Str) (ss : List Nat), vs = [v, .int k, .ref p, .ref L] ∧ Dp K H v d ∧ RuleD k near d ∧ FT H p (near.map V.str) ∧ near.Nodup ∧ SqL K H L (natsV ss) ∧ ss.length = near.length + 1 ∧ (∀ s ∈ ss, s < k) ∧ 2 ≤ k ∧ k ≤ 3 ∧ near.length ≤ 7 ∧
  ∀ H', Same H H' → Q (.int (nextV k near d ss : Nat)) H'
section
variable {K : PySem.W.Frag} {H : Hp} {Q : VK}
theorem k_minL {X : Cx} {K : PySem.W.Frag} (hc : X.calm = true) (hK : X.K = K := by rfl) : CallR X (.builtin "min") (L2.rMin K) := by subst hK; exact cr_min hc
theorem k_maxL {X : Cx} {K : PySem.W.Frag} (hc : X.calm = true) (hK : X.K = K := by rfl) : CallR X (.builtin "max") (L2.rMax K) := by subst hK; exact cr_max hc
theorem k_revL {X : Cx} {K : PySem.W.Frag} {e : Expr} {te : TE} {k : Nat} {p1 p2 p3 pos : Pos} (he : PE X e te) (hK : X.K = K := by rfl) : PE X (.Subscript e (.Slice none none (some (.UnaryOp .USub (.Constant (.int 1) k p1) p2)) p3) pos) (tRevL K te) := by subst hK; exact pe_revL he
theorem i_revL {σ : L2.St} {te : TE} (h : te σ H fun x H1 => ∃ a xs, x = .ref a ∧ SqL K H1 a xs ∧ ∀ p, H1 p = none → Q (.ref p) (upd H1 p (.lst xs.reverse))) : tRevL K te σ H Q := h
theorem k_sumL {X : Cx} {K : PySem.W.Frag} (hc : X.calm = true) (hK : X.K = K := by rfl) : CallR X (.builtin "sum") (rSum K) := by subst hK; exact cr_sum hc
theorem nats_int (ss : List Nat) : natsV ss = (intsI ss).map V.int := by
  unfold natsV intsI
  rw [List.map_map]
  rfl
theorem i_minL {a : Addr} {ss : List Nat} (e : SqL K H a (natsV ss)) (ne : ss ≠ []) (h : Q (.int (minN ss : Nat)) H) : L2.rMin K [.ref a] H Q := by
  obtain ⟨h1, h2⟩ := min_is ne
  refine ⟨a, intsI ss, rfl, by rw [← nats_int]; exact e, by unfold intsI; rw [List.length_map]; exact List.length_pos_iff.mpr ne, fun m hm hle => ?_⟩
  obtain ⟨x, hx, rfl⟩ := List.mem_map.mp hm
  have h3 : (x : Int) ≤ (minN ss : Nat) := hle _ (List.mem_map.mpr ⟨_, h1, rfl⟩)
  have h4 := h2 x hx
  rw [show x = minN ss by omega]
  exact h
theorem i_maxL {a : Addr} {ss : List Nat} (e : SqL K H a (natsV ss)) (ne : ss ≠ []) (h : Q (.int (maxN ss : Nat)) H) : L2.rMax K [.ref a] H Q := by
  obtain ⟨h1, h2⟩ := max_is ne
  refine ⟨a, intsI ss, rfl, by rw [← nats_int]; exact e, by unfold intsI; rw [List.length_map]; exact List.length_pos_iff.mpr ne, fun m hm hle => ?_⟩
  obtain ⟨x, hx, rfl⟩ := List.mem_map.mp hm
  have h3 : ((maxN ss : Nat) : Int) ≤ x := hle _ (List.mem_map.mpr ⟨_, h1, rfl⟩)
  have h4 := h2 x hx
  rw [show x = maxN ss by omega]
  exact h
theorem sum_nats (ss : List Nat) : (intsI ss).sum = ((ss.sum : Nat) : Int) := by
  induction ss with
  | nil => rfl
  | cons x r ih =>
    show ((x : Int) + (intsI r).sum) = (((x + r.sum : Nat)) : Int)
    rw [ih]
    omega
theorem i_sumN {a : Addr} {ss : List Nat} (e : SqL K H a (natsV ss)) (h : Q (.int ((ss.sum : Nat) : Int)) H) : rSum K [.ref a] H Q := by
  refine i_sum (ns := intsI ss) (by rw [← nats_int]; exact e) ?_
  rw [sum_nats]
  exact h
end
end
section
open L2 PySem PySem.Spec PyProof.Rows
def seenL (ps : List Str) (rs : List (Str × Str)) (z : Str) : List Nat := ps.idxOf z :: (nearL ps rs z).map fun y => ps.idxOf y
def ownV (k : Nat) (ps : List Str) (rs : List (Str × Str)) (ds : List PyData) (t : List Nat) (z : Str) : Nat := nextV k (nearL ps rs z) (ds.getD (ps.idxOf z) .none) ((seenL ps rs z).map fun i => t.getD i 0)
def stepN (k : Nat) (ps : List Str) (rs : List (Str × Str)) (ds : List PyData) (t : List Nat) (z : Str) : List Nat := t.set (ps.idxOf z) (ownV k ps rs ds t z)
def dayN (k : Nat) (ps : List Str) (rs : List (Str × Str)) (ds : List PyData) (t : List Nat) (qs : List Str) : List Nat := qs.foldl (stepN k ps rs ds) t
theorem step_len {k : Nat} {ps : List Str} {rs : List (Str × Str)} {ds : List PyData} {t : List Nat} {z : Str} : (stepN k ps rs ds t z).length = t.length := by
  unfold stepN
  rw [List.length_set]
theorem next_lt {k : Nat} {near : List Str} {d : PyData} {ss : List Nat} (hR : RuleD k near d) (hk : 2 ≤ k) (hl : ss.length = near.length + 1) (hs : ∀ s ∈ ss, s < k) : nextV k near d ss < k := by
  obtain ⟨own, oth, rfl⟩ : ∃ own oth, ss = own :: oth := by
    cases ss with
    | nil => simp at hl
    | cons x r => exact ⟨x, r, rfl⟩
  cases hR with
  | keep => rw [nextV_keep]; exact hs own List.mem_cons_self
  | least => rw [nextV_least]; exact hs _ (min_is (by simp)).1
  | greatest => rw [nextV_greatest]; exact hs _ (max_is (by simp)).1
  | odd => rw [nextV_odd]; exact Nat.mod_lt _ (by omega)
  | table t ht h =>
    have hlt := tabIx_lt hs
    rw [hl, ← ht] at hlt
    rw [nextV_table, List.getD_eq_getElem?_getD, List.getElem?_eq_getElem hlt]
    exact h _ (List.getElem_mem hlt)
  | sum ts ht h =>
    rw [nextV_sum]
    by_cases ho : own < ts.length
    · rw [List.getD_eq_getElem?_getD (l := ts), List.getElem?_eq_getElem ho, Option.getD_some, List.getD_eq_getElem?_getD]
      cases e : ts[own][oth.sum]? with
      | none => show 0 < k; omega
      | some x => exact (h _ (List.getElem_mem ho)).2 x (List.mem_of_getElem? e)
    · rw [List.getD_eq_getElem?_getD (l := ts), List.getElem?_eq_none (by omega)]
      show 0 < k
      omega
  | most n h =>
    show (if _ then 1 else 0) < k
    split <;> omega
  | copy z h =>
    show oth.getD (near.idxOf z) 0 < k
    rw [List.getD_eq_getElem?_getD]
    cases e : oth[near.idxOf z]? with
    | none => show 0 < k; omega
    | some x => exact hs x (List.mem_cons_of_mem _ (List.mem_of_getElem? e))
theorem getD_lt {k : Nat} {t : List Nat} (hk : 0 < k) (h : ∀ x ∈ t, x < k) (i : Nat) : t.getD i 0 < k := by
  rw [List.getD_eq_getElem?_getD]
  cases e : t[i]? with
  | none => exact hk
  | some x => exact h x (List.mem_of_getElem? e)
theorem own_lt {k : Nat} {ps : List Str} {rs : List (Str × Str)} {ds : List PyData} {t : List Nat} {z : Str} (hH : IsHall k ps rs ds) (hz : z ∈ ps) (h : ∀ x ∈ t, x < k) : ownV k ps rs ds t z < k := by
  have hk : 2 ≤ k := by rcases hH.two with e | e <;> omega
  have lt := List.idxOf_lt_length_iff.mpr hz
  have hd : ds.getD (ps.idxOf z) .none = ds[ps.idxOf z]'(by rw [hH.len]; exact lt) := by
    rw [List.getD_eq_getElem?_getD, List.getElem?_eq_getElem (by rw [hH.len]; exact lt)]
    rfl
  unfold ownV
  rw [hd]
  refine next_lt (hH.rules (ps.idxOf z) z _ (idx_first hz).1 (List.getElem?_eq_getElem _)) hk (by unfold seenL; simp) fun s hs => ?_
  obtain ⟨i, _, rfl⟩ := List.mem_map.mp hs
  exact getD_lt (by omega) h i
theorem step_lt {k : Nat} {ps : List Str} {rs : List (Str × Str)} {ds : List PyData} {t : List Nat} {z : Str} (hH : IsHall k ps rs ds) (hz : z ∈ ps) (h : ∀ x ∈ t, x < k) : ∀ x ∈ stepN k ps rs ds t z, x < k := by
  intro x hx
  unfold stepN at hx
  rcases List.mem_or_eq_of_mem_set hx with q | q
  · exact h x q
  · rw [q]
    exact own_lt hH hz h
def spLooks (K : PySem.W.Frag) : Sp := fun vs H Q _ => ∃ (v : V) (z : Str) (ps : List Str) (rs : List (Str × Str)), vs = [v, .int (ps.idxOf z : Nat)] ∧ WF K H v ps rs ∧ IsWeb ps rs ∧ z ∈ ps ∧
  ∀ T p L H', Same H H' → SqT K H' T [.ref p, .ref L] → FT H' p ((nearL ps rs z).map V.str) → SqL K H' L (natsV (seenL ps rs z)) → Q (.ref T) H'
def spStepped (K : PySem.W.Frag) : Sp := fun vs H Q _ => ∃ (v : V) (s : Addr) (z : Str) (k : Nat) (ps : List Str) (rs : List (Str × Str)) (ds : List PyData) (t : List Nat), vs = [v, .ref s, .str z] ∧ HF K H v k ps rs ds ∧ IsHall k ps rs ds ∧ SqT K H s (natsV t) ∧ t.length = ps.length ∧ (∀ x ∈ t, x < k) ∧ z ∈ ps ∧
  ∀ p H', Same H H' → SqT K H' p (natsV (stepN k ps rs ds t z)) → Q (.ref p) H'
def spPassed (K : PySem.W.Frag) : Sp := fun vs H Q _ => ∃ (v : V) (o s : Addr) (qs : List Str) (k : Nat) (ps : List Str) (rs : List (Str × Str)) (ds : List PyData) (t : List Nat), vs = [v, .ref o, .ref s] ∧ HF K H v k ps rs ds ∧ IsHall k ps rs ds ∧ SqT K H o (qs.map V.str) ∧ qs.Perm ps ∧ SqT K H s (natsV t) ∧ t.length = ps.length ∧ (∀ x ∈ t, x < k) ∧
  ∀ p H', Same H H' → SqT K H' p (natsV (dayN k ps rs ds t qs)) → Q (.ref p) H'
theorem i_catB {K : PySem.W.Frag} {H : Hp} {Q : VK} {a b : Addr} {xs ys : List V} (e : SqT K H a xs) (e2 : SqT K H b ys) (ne : xs ≠ []) (z : xs.length + ys.length ≤ sizeLine) (h : ∀ p H', Same H H' → SqT K H' p (xs ++ ys) → Q (.ref p) H') : rCatA K (.ref a) (.ref b) H Q := by
  refine ⟨a, b, xs, ys, rfl, rfl, e, e2, z, fun hx => absurd hx ne, fun hx hy => ?_, fun hx hy p np => ?_⟩
  · subst hy
    exact h a H (Same.refl _) (by rw [List.append_nil]; exact e)
  · exact h p _ (Same.upd_new np) (sq_tup upd_same)
theorem cut_all {xs : List V} {lo hi : Option Int} (h : HT.sIx xs.length 0 lo = 0 ∧ HT.sIx xs.length xs.length hi = xs.length) : cutV xs lo hi = xs := by
  unfold cutV
  rw [h.1, h.2, List.drop_zero, Nat.sub_zero, List.take_of_length_le (Nat.le_refl _)]
theorem i_slG {K : PySem.W.Frag} {H : Hp} {Q : VK} {p : Addr} {xs : List V} {lo hi : Option Int} (e : SqT K H p xs) (h : ∀ p' H', Same H H' → SqT K H' p' (cutV xs lo hi) → Q (.ref p') H') : rSlA K (.ref p) lo hi H Q :=
  ⟨p, xs, rfl, e, fun hf => h p H (Same.refl _) (by rw [cut_all hf]; exact e), fun _ p' np' => h p' _ (Same.upd_new np') (sq_tup upd_same)⟩
theorem nats_set {t : List Nat} {i x : Nat} (h : i < t.length) : (natsV t).take i ++ [V.int (x : Int)] ++ (natsV t).drop (i + 1) = natsV (t.set i x) := by
  unfold natsV
  rw [List.set_eq_take_append_cons_drop, if_pos h, List.map_append, List.map_cons, List.map_take, List.map_drop, List.append_assoc]
  rfl
end
section
open L2 PySem PySem.Spec PyProof.Rows
def spLNext (K : PySem.W.Frag) : Sp := fun vs H Q _ => ∃ (v : V) (s : Addr) (z : Str) (k : Nat) (ps : List Str) (rs : List (Str × Str)) (ds : List PyData) (t : List Nat), vs = [v, .ref s, .str z] ∧ HF K H v k ps rs ds ∧ IsHall k ps rs ds ∧ SqT K H s (natsV t) ∧ t.length = ps.length ∧ (∀ x ∈ t, x < k) ∧ z ∈ ps ∧
  ∀ H', Same H H' → Q (.int (ownV k ps rs ds t z : Nat)) H'
end
section
open L2 PySem PySem.Spec PyProof.Rows
theorem ins_shaped {t : List Nat} (h : ∀ n ∈ t, n < 300) : SeqAt.shaped (intsD t) = true := by
  obtain ⟨a1, _, _, a4, _⟩ := ints_data t h
  show (PyData.canLayAll0 (t.map iD) && decide (PyData.depthAll (t.map iD) + 1 ≤ 64)) = true
  rw [a1, decide_eq_true (by omega)]
  rfl
theorem map_int_inj {l m : List Nat} (e : l.map (fun n => PyData.int ((n : Nat) : Int)) = m.map (fun n => PyData.int ((n : Nat) : Int))) : l = m := by
  induction l generalizing m with
  | nil =>
    cases m with
    | nil => rfl
    | cons y s => simp at e
  | cons x r ih =>
    cases m with
    | nil => simp at e
    | cons y s =>
      rw [List.map_cons, List.map_cons] at e
      injection e with e1 e2
      injection e1 with e3
      rw [Int.ofNat.inj e3, ih e2]
theorem st_dp {K : PySem.W.Frag} {H : Hp} {p : Addr} {t : List Nat} (h : SqT K H p (natsV t)) : Dp K H (.ref p) (intsD t) := .tup h (dp_nts t)
theorem Fd.same {H H' : Hp} {a : Addr} {c : Int} (h : Fd H a c) (s : Same H H') : Fd H' a c := let ⟨x, y, n, h1, h2⟩ := h; ⟨x, y, n, s _ _ h1, h2⟩
def spGreatF (K : PySem.W.Frag) : Sp := fun vs H Q _ => ∃ (a : Addr) (sort : Str) (c : Int), vs = [.ref a, .str sort] ∧ Fd H a c ∧ c < 10 ^ 10 ∧
  ∀ (v : V) (k : Nat) (ps : List Str) (rs : List (Str × Str)) (ds : List PyData) (H' : Hp), IsHall k ps rs ds → HF K H' v k ps rs ds → Fd H' a (c + 2000000000) → Ch a H H' → Q v H'
theorem rule_word {k : Nat} {near : List Str} {d : PyData} (h : RuleD k near d) : ∃ w r, d = .tuple (.str w :: r) := by
  cases h <;> exact ⟨_, _, rfl⟩
end
section
open L2 PySem PySem.Spec PyProof.Rows
section
variable {σ : L2.St} {H : Hp} {Q : VK} {K : PySem.W.Frag} {g : TG} {tt : TT} {te : TE} {vs : List Nat} {a : Addr}
def enumK (K : PySem.W.Frag) (R : It → Hp → Prop) : List V → Hp → Prop := fun us H1 => ∃ a xs, us = [.ref a] ∧ SqL K H1 a xs ∧ R (Ite K a) H1
theorem i_enum {ta : TA} {R : It → Hp → Prop} (h : ta σ H (enumK K R)) : iEnum K ta σ H R := h
theorem i_enumK {R : It → Hp → Prop} {xs : List V} (e : SqL K H a xs) (h : R (Ite K a) H) : enumK K R [.ref a] H := ⟨a, xs, rfl, e, h⟩
theorem kpi_enum {X : Cx} {e : Expr} {ta : TA} {p pos tpos : Pos} {elts : List Expr} {kk : Nat} (hm : X.mg "enumerate" = none) (ha : PA X [e] ta) (hK : X.K = K := by rfl) (hg : Gl X "enumerate" := by rfl) (hs : starEach [e] X.env = [(false, eval e X.env)] := by rfl) :
    PI X (.Tuple elts kk tpos) (.Call (.Name "enumerate" p) [e] [] pos) (iEnum K ta) := by subst hK; exact pi_enum hg hm ha hs
theorem c_enum (xs : List V) (Pv : Addr → Nat → Hp → Prop) (h0 : ∀ D, H D = none → Pv D 0 (upd H D (.lst []))) (ha : ∀ D i H, Pv D i H → SqL K H a xs)
    (hs : ∀ D i x H T, xs[i]? = some x → Pv D i H → H T = none → g (.ref T) (wipe σ vs) (upd H T (.tup [.int (i : Nat), x])) fun σ2 H2 => wipe σ2 vs = wipe σ vs ∧ tt σ2 H2 fun c H3 => if c = true then te σ2 H3 (lcE D (Pv D (i + 1))) else Pv D (i + 1) H3)
    (hd : ∀ D H, Pv D xs.length H → Q (.ref D) H) : lcK g tt te vs σ Q (Ite K a) H := by
  intro D nD
  refine ⟨fun i m H => m = xs.length - i ∧ i ≤ xs.length ∧ Pv D i H, ⟨xs.length, by simp, Nat.zero_le _, h0 D nD⟩, ?_⟩
  rintro i m H ⟨rfl, hi, p⟩
  have qa := ha D i H p
  by_cases lt : i < xs.length
  · refine .inr ⟨⟨xs, xs[i], qa, by simp [lt]⟩, Pv D (i + 1), fun H' p' => ⟨xs.length - (i + 1), by omega, rfl, lt, p'⟩, fun v H' y => ?_⟩
    obtain ⟨T, x, rfl, nT, rfl, hx⟩ := y
    exact hs D i x H T (hx xs qa) p nT
  · have e : i = xs.length := by omega
    subst e
    exact .inl ⟨⟨xs, qa, Nat.le_refl _⟩, hd D H p⟩
end
theorem fold_add (k : Nat) : ∀ (r : List Nat) (m d : Nat), r.foldl (fun m o => m * k + o) (m + d) = r.foldl (fun m o => m * k + o) m + d * k ^ r.length
  | [], m, d => by simp
  | x :: r, m, d => by
    show r.foldl _ ((m + d) * k + x) = r.foldl _ (m * k + x) + d * k ^ (r.length + 1)
    have e : (m + d) * k + x = (m * k + x) + d * k := by rw [Nat.add_mul]; omega
    rw [e, fold_add k r, Nat.pow_succ, Nat.mul_assoc, Nat.mul_comm k]
theorem fold_set (k x : Nat) : ∀ (t : List Nat) (m j : Nat) (hj : j < t.length), ((t.set j x).foldl (fun m o => m * k + o) m : Nat) + t[j] * k ^ (t.length - 1 - j) = t.foldl (fun m o => m * k + o) m + x * k ^ (t.length - 1 - j)
  | y :: r, m, 0, _ => by
    show r.foldl _ (m * k + x) + y * k ^ (r.length + 1 - 1 - 0) = r.foldl _ (m * k + y) + x * k ^ (r.length + 1 - 1 - 0)
    have e : r.length + 1 - 1 - 0 = r.length := by omega
    rw [e, ← fold_add, ← fold_add]
    congr 1
    omega
  | y :: r, m, j + 1, h => by
    have h' : j < r.length := by simpa using h
    have e : (y :: r).length - 1 - (j + 1) = r.length - 1 - j := by rw [List.length_cons]; omega
    rw [e]
    exact fold_set k x r (m * k + y) j h'
theorem num_set {k x j : Nat} {t : List Nat} (hj : j < t.length) : (numN k (t.set j x) : Int) = (numN k t : Int) + ((x : Int) - (t.getD j 0 : Nat)) * ((k ^ (t.length - 1 - j) : Nat) : Int) := by
  have h := fold_set k x t 0 j hj
  have g : t.getD j 0 = t[j] := by rw [List.getD_eq_getElem?_getD, List.getElem?_eq_getElem hj]; rfl
  rw [g, Int.sub_mul]
  have h' : (numN k (t.set j x) : Int) + (t[j] : Nat) * ((k ^ (t.length - 1 - j) : Nat) : Int) = (numN k t : Int) + (x : Int) * ((k ^ (t.length - 1 - j) : Nat) : Int) := by
    rw [← Int.natCast_mul, ← Int.natCast_mul, ← Int.natCast_add, ← Int.natCast_add]
    exact congrArg Int.ofNat h
  omega
theorem st_num {k n : Nat} {t : List Nat} (hl : t.length = n) (hk : ∀ x ∈ t, x < k) : (statesL k n)[numN k t]? = some t := by
  have key : ∀ (n : Nat) (t : List Nat), t.length = n → (∀ x ∈ t, x < k) → t ∈ statesL k n := by
    intro n
    induction n with
    | zero =>
      intro t hl _
      rw [List.length_eq_zero_iff.mp hl]
      exact List.mem_singleton.mpr rfl
    | succ n ih =>
      intro t hl hk
      have ne : t ≠ [] := fun e => by rw [e] at hl; simp at hl
      rw [← List.dropLast_concat_getLast ne]
      refine List.mem_flatMap.mpr ⟨t.dropLast, ih _ (by rw [List.length_dropLast, hl]; rfl) fun x hx => hk x (List.dropLast_subset t hx), List.mem_map.mpr ⟨t.getLast ne, List.mem_range.mpr (hk _ (List.getLast_mem ne)), rfl⟩⟩
  obtain ⟨j, hj⟩ := List.getElem?_of_mem (key n t hl hk)
  have := st_at hj
  rw [this]
  exact hj
section
variable {k : Nat} {ps : List Str} {rs : List (Str × Str)} {ds : List PyData}
def stepIx (k : Nat) (ps : List Str) (rs : List (Str × Str)) (ds : List PyData) (j i : Nat) : Nat := numN k (stepN k ps rs ds ((statesL k ps.length).getD i []) (ps.getD j ""))
theorem step_ix {i j : Nat} {t : List Nat} (W : IsWeb ps rs) (hj : j < ps.length) (ht : (statesL k ps.length)[i]? = some t) :
    (stepIx k ps rs ds j i : Int) = (i : Int) + ((ownV k ps rs ds t ps[j] : Nat) - (t.getD j 0 : Nat)) * ((k ^ (ps.length - 1 - j) : Nat) : Int) := by
  have hl := (states_ok k _ _ (List.mem_of_getElem? ht)).1
  have e1 : (statesL k ps.length).getD i [] = t := by rw [List.getD_eq_getElem?_getD, ht]; rfl
  have e2 : ps.getD j "" = ps[j] := by rw [List.getD_eq_getElem?_getD, List.getElem?_eq_getElem hj]; rfl
  have e3 : ps.idxOf ps[j] = j := idx_is W.names.1 (List.getElem?_eq_getElem hj)
  unfold stepIx
  rw [e1, e2]
  unfold stepN
  rw [e3, num_set (by omega), hl, st_at ht]
theorem step_ix_lt {i j : Nat} (hH : IsHall k ps rs ds) (hj : j < ps.length) (hi : i < k ^ ps.length) : stepIx k ps rs ds j i < k ^ ps.length := by
  have hi' : i < (statesL k ps.length).length := by rw [states_len]; exact hi
  have ho := states_ok k _ _ (List.getElem_mem hi')
  have e2 : ps.getD j "" = ps[j] := by rw [List.getD_eq_getElem?_getD, List.getElem?_eq_getElem hj]; rfl
  have e1 : (statesL k ps.length).getD i [] = (statesL k ps.length)[i] := by rw [List.getD_eq_getElem?_getD, List.getElem?_eq_getElem hi']; rfl
  unfold stepIx
  rw [e1, e2]
  have := num_lt (k := k) (step_lt (z := ps[j]) (t := (statesL k ps.length)[i]) hH (List.getElem_mem hj) ho.2)
  rwa [step_len, ho.1] at this
end
def stepsAt (H : Hp) (D : Addr) (f : Nat → List Nat) (n : Nat) : Prop := ∃ Ls : List Addr, H D = some (.lst (Ls.map V.ref)) ∧ Ls.length = n ∧ ∀ (j : Nat) L, Ls[j]? = some L → H L = some (.lst (natsV (f j)))
def stepRow (k : Nat) (ps : List Str) (rs : List (Str × Str)) (ds : List PyData) (j : Nat) : List Nat := (List.range (k ^ ps.length)).map (stepIx k ps rs ds j)
def spStepList (K : PySem.W.Frag) : Sp := fun vs H Q _ => ∃ (v : V) (D : Addr) (j k : Nat) (ps : List Str) (rs : List (Str × Str)) (ds : List PyData), vs = [v, .ref D, .int j] ∧ HF K H v k ps rs ds ∧ IsHall k ps rs ds ∧ LsD K H D ((statesL k ps.length).map intsD) ∧ j < ps.length ∧
  ∀ L H', H L = none → Same H H' → H' L = some (.lst (natsV (stepRow k ps rs ds j))) → Q (.ref L) H'
def spStepLists (K : PySem.W.Frag) : Sp := fun vs H Q _ => ∃ (v : V) (k : Nat) (ps : List Str) (rs : List (Str × Str)) (ds : List PyData), vs = [v] ∧ HF K H v k ps rs ds ∧ IsHall k ps rs ds ∧
  ∀ D H', Same H H' → stepsAt H' D (stepRow k ps rs ds) ps.length → Q (.ref D) H'
end
section
open L2 PySem PySem.Spec PyProof.Rows
structure Gd (d : PyData) (w p : Nat) : Prop where
  lay : d.canLay0 = true
  sho : d.showable = true
  dct : d.hasDict = false
  dep : d.depth ≤ p
  wei : d.weight ≤ w
  sml : d.intsShort 13 = true
structure GA (ds : List PyData) (w p : Nat) : Prop where
  lay : PyData.canLayAll0 ds = true
  sho : PyData.showableAll ds = true
  dct : PyData.hasDictAll ds = false
  dep : PyData.depthAll ds ≤ p
  wei : PyData.weightAll ds ≤ w
  sml : PyData.intsShortAll 13 ds = true
theorem GA.nil {p : Nat} : GA [] 0 p := ⟨rfl, rfl, rfl, Nat.zero_le _, Nat.le_refl _, rfl⟩
theorem GA.cons {d : PyData} {ds : List PyData} {w1 w2 p : Nat} (a : Gd d w1 p) (b : GA ds w2 p) : GA (d :: ds) (w1 + 1 + w2) p where
  lay := by show (d.canLay0 && PyData.canLayAll0 ds) = true; rw [a.lay, b.lay]; rfl
  sho := by show (d.showable && PyData.showableAll ds) = true; rw [a.sho, b.sho]; rfl
  dct := by show (d.hasDict || PyData.hasDictAll ds) = false; rw [a.dct, b.dct]; rfl
  dep := by have h1 := a.dep; have h2 := b.dep; show max d.depth (PyData.depthAll ds) ≤ p; omega
  wei := by have h1 := a.wei; have h2 := b.wei; show d.weight + 1 + PyData.weightAll ds ≤ _; omega
  sml := by show (PyData.intsShort 13 d && PyData.intsShortAll 13 ds) = true; rw [a.sml, b.sml]; rfl
theorem GA.mono {ds : List PyData} {w w' p p' : Nat} (a : GA ds w p) (h : w ≤ w') (h2 : p ≤ p') : GA ds w' p' := ⟨a.lay, a.sho, a.dct, Nat.le_trans a.dep h2, Nat.le_trans a.wei h, a.sml⟩
theorem GA.tup {ds : List PyData} {w p : Nat} (a : GA ds w p) : Gd (.tuple ds) w (p + 1) := ⟨a.lay, a.sho, a.dct, Nat.succ_le_succ a.dep, a.wei, a.sml⟩
theorem GA.of {p w : Nat} : ∀ ds : List PyData, (∀ d ∈ ds, Gd d w p) → GA ds ((w + 1) * ds.length) p
  | [], _ => GA.nil.mono (Nat.zero_le _) (Nat.le_refl _)
  | d :: ds, h => (GA.cons (h d List.mem_cons_self) (GA.of ds fun e he => h e (List.mem_cons_of_mem _ he))).mono (by rw [List.length_cons, Nat.mul_succ]; omega) (Nat.le_refl _)
theorem Gd.nat {n p : Nat} (h : n < 300) : Gd (.int ((n : Nat) : Int)) 10 p := by
  obtain ⟨a, b, c, d⟩ := small_int h
  exact ⟨a, d, rfl, Nat.zero_le _, b, c⟩
theorem Gd.ints {t : List Nat} (h : ∀ n ∈ t, n < 300) : Gd (intsD t) (11 * t.length) 1 := by
  have := GA.of (w := 10) (p := 0) (t.map fun n => PyData.int ((n : Nat) : Int)) fun d hd => by
    obtain ⟨n, hn, rfl⟩ := List.mem_map.mp hd
    exact .nat (h n hn)
  rw [List.length_map] at this
  exact this.tup
theorem Gd.shown {d : PyData} {w p : Nat} (g : Gd d w p) (hw : w ≤ 1000000) (hp : p ≤ 40) : d.showable = true ∧ d.hasDict = false ∧ d.depth ≤ 40 ∧ d.shown.length ≤ sizeLine := by
  have h1 := g.dep
  have h2 := g.wei
  refine ⟨g.sho, g.dct, by omega, Nat.le_trans (shown_le13 ?_ g.sml) (by rw [sizeLine_eq]; omega)⟩
  have e20 : (2 : Nat) ^ 20 = 1048576 := by decide
  show (d.canLay0 && decide (d.depth ≤ 64) && decide (d.weight ≤ 2 ^ 20)) = true
  rw [g.lay, decide_eq_true (by omega), decide_eq_true (by omega)]
  rfl
end
section
open L2 PySem PySem.Spec PyProof.Rows
section
variable {k : Nat} {ps : List Str} {rs : List (Str × Str)} {ds : List PyData}
def dayIx (k : Nat) (ps : List Str) (rs : List (Str × Str)) (ds : List PyData) (ord : List Str) (i : Nat) : Nat := ord.foldl (fun m z => stepIx k ps rs ds (ps.idxOf z) m) i
theorem dayIx_snoc {ord : List Str} {z : Str} {i : Nat} : dayIx k ps rs ds (ord ++ [z]) i = stepIx k ps rs ds (ps.idxOf z) (dayIx k ps rs ds ord i) := by
  unfold dayIx
  rw [List.foldl_append]
  rfl
theorem dayIx_lt (hH : IsHall k ps rs ds) : ∀ (ord : List Str) (i : Nat), (∀ z ∈ ord, z ∈ ps) → i < k ^ ps.length → dayIx k ps rs ds ord i < k ^ ps.length
  | [], _, _, h => h
  | z :: r, i, ho, h => dayIx_lt hH r _ (fun y hy => ho y (List.mem_cons_of_mem _ hy)) (step_ix_lt hH (List.idxOf_lt_length_iff.mpr (ho z List.mem_cons_self)) h)
theorem stepIx_num (hH : IsHall k ps rs ds) {t : List Nat} {z : Str} (hz : z ∈ ps) (hl : t.length = ps.length) (hk : ∀ x ∈ t, x < k) : stepIx k ps rs ds (ps.idxOf z) (numN k t) = numN k (stepN k ps rs ds t z) := by
  have e1 : (statesL k ps.length).getD (numN k t) [] = t := by rw [List.getD_eq_getElem?_getD, st_num hl hk]; rfl
  have e2 : ps.getD (ps.idxOf z) "" = z := by rw [List.getD_eq_getElem?_getD, (idx_first hz).1]; rfl
  unfold stepIx
  rw [e1, e2]
theorem dayIx_num (hH : IsHall k ps rs ds) : ∀ (ord : List Str) (t : List Nat), (∀ z ∈ ord, z ∈ ps) → t.length = ps.length → (∀ x ∈ t, x < k) → dayIx k ps rs ds ord (numN k t) = numN k (dayN k ps rs ds t ord)
  | [], _, _, _, _ => rfl
  | z :: r, t, ho, hl, hk => by
    have hz := ho z List.mem_cons_self
    have e := dayIx_num hH r (stepN k ps rs ds t z) (fun y hy => ho y (List.mem_cons_of_mem _ hy)) (by rw [step_len, hl]) (step_lt hH hz hk)
    rw [← stepIx_num hH hz hl hk] at e
    exact e
theorem day_len : ∀ (ord : List Str) (t : List Nat), (dayN k ps rs ds t ord).length = t.length
  | [], _ => rfl
  | z :: r, t => (day_len r _).trans step_len
theorem day_lt (hH : IsHall k ps rs ds) : ∀ (ord : List Str) (t : List Nat), (∀ z ∈ ord, z ∈ ps) → (∀ x ∈ t, x < k) → ∀ x ∈ dayN k ps rs ds t ord, x < k
  | [], _, _, h => h
  | z :: r, t, ho, h => day_lt hH r _ (fun y hy => ho y (List.mem_cons_of_mem _ hy)) (step_lt hH (ho z List.mem_cons_self) h)
end
theorem row_at {k : Nat} {ps : List Str} {rs : List (Str × Str)} {ds : List PyData} {j m : Nat} (h : m < k ^ ps.length) : atI (natsV (stepRow k ps rs ds j)) ((m : Nat) : Int) = some (.int (stepIx k ps rs ds j m : Nat)) := atI_nat (by
  unfold natsV stepRow
  rw [List.getElem?_map, List.getElem?_map, List.getElem?_range h]
  rfl)
theorem stepsAt.same {H H' : Hp} {D : Addr} {f : Nat → List Nat} {n : Nat} (h : stepsAt H D f n) (k : Same H H') : stepsAt H' D f n := by
  obtain ⟨Ls, e, l, g⟩ := h
  exact ⟨Ls, k _ _ e, l, fun j L z => k _ _ (g j L z)⟩
end
section
open L2 PySem PySem.Spec PyProof.Rows
open PySem PySem.W
section
variable {prog : Program} {w : World} {A : Around} {E : Value → Shared → Prop} {s : Shared} {z TI TO i1 i2 : Addr} {fp1 fp2 : List Addr} {n1 n2 i : Nat} {P1 P2 : Nat → Value → Prop} {St1 St2 : Nat → Heap → Prop}
theorem heldNext {T : Addr} {f : Bool} {oT : Obj} {Q : Value → Shared → Prop} (S : ZipSep2 z TI TO i1 i2 fp1 fp2) (G1 : Draws prog w A i1 fp1 n1 P1 St1) (G2 : Draws prog w A i2 fp2 n2 P2 St2)
    (zH : IsZipHeld s.heap z TI TO T f) (oH : s.heap.get? T = some oT) (iH : IsTupOf2 s.heap TI (.ref i1) (.ref i2)) (a1 : St1 i s.heap) (a2 : St2 i s.heap) (l1 : i < n1) (l2 : i < n2)
    (q : ∀ x y g tk, P1 i x → P2 i y → IsZipHeld g z TI TO T true → St1 (i + 1) g → St2 (i + 1) g → IsTupOf2 g s.heap.objs.size x y → g.objs.size = s.heap.objs.size + 1 →
      (∀ c o, c ≠ z → c ≠ i1 → c ≠ i2 → s.heap.get? c = some o → g.get? c = some o) → Q (.ref s.heap.objs.size) { s with heap := g, toks := tk }) :
    wpAny (model prog w) A (Builtin.«zip.__next__» ⟨[.ref z], []⟩) (fun fin s' => ∃ v, fin = .done (.ret v) ∧ Q v s') E s := by
  obtain ⟨hp, ge, dr, tk0, os⟩ := s
  show wpAny _ _ (field (.ref z) 2 >>= _) _ _ _
  refine wpAny_bind (wpAny_field zH rfl (x := .bool false) rfl ?_)
  show wpAny _ _ (field (.ref z) 3 >>= _) _ _ _
  refine wpAny_bind (wpAny_field zH rfl (x := .ref TI) rfl (wpAny_bind (wpAny_seqItems iH rfl ?_)))
  show wpAny _ _ (Builtin.SmallTypes.ownedTupleIsFree (.ref z) >>= _) _ _ _
  refine wpAny_bind (wpAny_tupleHeld_zip zH oH fun g1 zG1 sG1 => ?_)
  replace sG1 : Heap.SameBut z hp g1 := sG1
  simp only [Bool.false_eq_true, if_false]
  refine wpAny_bind ?_
  rw [← Array.forIn_toList]
  simp only [List.forIn_nil, List.forIn_cons]
  refine wpAny_bind (wpAny_bind (wpAny_holding ?_))
  show wpAny _ _ (Builtin.SmallTypes.nextOf (.ref i1) >>= _) _ _ ⟨g1, ge, dr, tk0, os⟩
  refine wpAny_bind (G1.item i _ _ _ l1 (G1.over a1 sG1 S.zf1) fun x g2 tk1 px b1 sG2 => wpAny_pure (wpAny_pure ?_))
  replace sG2 : Heap.SameBut i1 g1 g2 := sG2
  refine wpAny_bind (wpAny_bind (wpAny_holding ?_))
  show wpAny _ _ (Builtin.SmallTypes.nextOf (.ref i2) >>= _) _ _ ⟨g2, ge, dr, tk1, os⟩
  refine wpAny_bind (G2.item i _ _ _ l2 (G2.over (G2.over a2 sG1 S.zf2) sG2 S.sep1_2) fun y g3 tk2 py b2 sG3 => wpAny_pure (wpAny_pure (wpAny_pure ?_)))
  replace sG3 : Heap.SameBut i2 g2 g3 := sG3
  show wpAny _ _ (newTuple [x, y] >>= _) _ _ ⟨g3, ge, dr, tk2, os⟩
  refine wpAny_bind (wpAny_newTuple (wpAny_pure ⟨_, rfl, ?_⟩))
  have sz : g3.objs.size = hp.objs.size := by rw [sG3.1, sG2.1, sG1.1]
  have up : ∀ c o, c ≠ z → c ≠ i1 → c ≠ i2 → hp.get? c = some o → g3.get? c = some o := fun c o c1 c2 c3 e => sG3.extBut _ _ c3 (sG2.extBut _ _ c2 (sG1.extBut _ _ c1 e))
  have zG3 : IsZipHeld g3 z TI TO T true := sG3.extBut _ _ S.zi2 (sG2.extBut _ _ S.zi1 zG1)
  have c1 : St1 (i + 1) g3 := G1.over b1 sG3 S.sep2_1
  have pN : IsTupOf2 (g3.push { cls := .type "tuple", data := .seq #[x, y] }) g3.objs.size x y := Heap.get?_push_size _ rfl
  have sN : (g3.push { cls := .type "tuple", data := .seq #[x, y] }).objs.size = g3.objs.size + 1 := Heap.size_push ..
  show Q (.ref g3.objs.size) _
  rw [sz] at pN sN ⊢
  exact q x y _ tk2 px py (Heap.get?_push_of_some _ zG3) (G1.frame _ _ _ c1 fun b _ o e => Heap.get?_push_of_some _ e) (G2.frame _ _ _ b2 fun b _ o e => Heap.get?_push_of_some _ e) pN sN fun c o d1 d2 d3 e => Heap.get?_push_of_some _ (up c o d1 d2 d3 e)
theorem heldStop {T : Addr} {f : Bool} {oT : Obj} {Q : Fin → Shared → Prop} (S : ZipSep2 z TI TO i1 i2 fp1 fp2) (G1 : Draws prog w A i1 fp1 n1 P1 St1)
    (zH : IsZipHeld s.heap z TI TO T f) (oH : s.heap.get? T = some oT) (iH : IsTupOf2 s.heap TI (.ref i1) (.ref i2)) (a1 : St1 n1 s.heap)
    (q : ∀ g e, (∀ c o, c ≠ z → c ≠ i1 → s.heap.get? c = some o → g.get? c = some o) → (∃ o, g.get? e = some o ∧ o.cls = .type "StopIteration") → E (.ref e) { s with heap := g }) :
    wpAny (model prog w) A (Builtin.«zip.__next__» ⟨[.ref z], []⟩) Q E s := by
  obtain ⟨hp, ge, dr, tk0, os⟩ := s
  show wpAny _ _ (field (.ref z) 2 >>= _) _ _ _
  refine wpAny_bind (wpAny_field zH rfl (x := .bool false) rfl ?_)
  show wpAny _ _ (field (.ref z) 3 >>= _) _ _ _
  refine wpAny_bind (wpAny_field zH rfl (x := .ref TI) rfl (wpAny_bind (wpAny_seqItems iH rfl ?_)))
  show wpAny _ _ (Builtin.SmallTypes.ownedTupleIsFree (.ref z) >>= _) _ _ _
  refine wpAny_bind (wpAny_tupleHeld_zip zH oH fun g1 zG1 sG1 => ?_)
  replace sG1 : Heap.SameBut z hp g1 := sG1
  simp only [Bool.false_eq_true, if_false]
  refine wpAny_bind ?_
  rw [← Array.forIn_toList]
  simp only [List.forIn_nil, List.forIn_cons]
  refine wpAny_bind (wpAny_bind (wpAny_holding ?_))
  show wpAny _ _ (Builtin.SmallTypes.nextOf (.ref i1) >>= _) _ _ ⟨g1, ge, dr, tk0, os⟩
  exact wpAny_bind (G1.done ⟨g1, ge, dr, tk0, os⟩ _ _ (G1.over a1 sG1 S.zf1) fun g e kG he => q g e (fun c o c1 c2 x => kG _ _ c2 (sG1.extBut _ _ c1 x)) he)
end
def ZKept (z TI TO i1 i2 S : Addr) (St1 St2 : Nat → Heap → Prop) (i : Nat) (h : Heap) : Prop :=
  ((i = 0 ∧ IsZip h z TI TO .none) ∨ ∃ T f oT, IsZipHeld h z TI TO T f ∧ h.get? T = some oT ∧ T ≠ S ∧ T ≠ z ∧ T ≠ i1 ∧ T ≠ i2) ∧ IsTupOf2 h TI (.ref i1) (.ref i2) ∧ (∃ a b, IsTupOf2 h TO a b) ∧ St1 i h ∧ St2 i h
section
variable {prog : Program} {w : World} {A : Around} {E : Value → Shared → Prop} {s : Shared} {z TI TO i1 i2 S : Addr} {fp1 fp2 : List Addr} {n1 n2 i : Nat} {P1 P2 : Nat → Value → Prop} {St1 St2 : Nat → Heap → Prop}
theorem ZKept.over {h g : Heap} (k : ZKept z TI TO i1 i2 S St1 St2 i h) (G1 : Draws prog w A i1 fp1 n1 P1 St1) (G2 : Draws prog w A i2 fp2 n2 P2 St2) (hz : z ≠ S) (hI : TI ≠ S) (hO : TO ≠ S) (h1 : S ∉ fp1) (h2 : S ∉ fp2)
    (up : ∀ b o, b ≠ S → h.get? b = some o → g.get? b = some o) : ZKept z TI TO i1 i2 S St1 St2 i g := by
  obtain ⟨k0, kI, ⟨a, b, kO⟩, k1, k2⟩ := k
  refine ⟨?_, up _ _ hI kI, ⟨a, b, up _ _ hO kO⟩, G1.frame _ _ _ k1 fun b hb o e => up b o (fun z => h1 (z ▸ hb)) e, G2.frame _ _ _ k2 fun b hb o e => up b o (fun z => h2 (z ▸ hb)) e⟩
  rcases k0 with ⟨e, k0⟩ | ⟨T, f, oT, k0, kT, c1, c2⟩
  · exact .inl ⟨e, up _ _ hz k0⟩
  · exact .inr ⟨T, f, oT, up _ _ hz k0, up _ _ c1 kT, c1, c2⟩
theorem keptNext {Q : Option Value → Shared → Prop} (D : ZipSep2 z TI TO i1 i2 fp1 fp2) (G1 : Draws prog w A.in1 i1 fp1 n1 P1 St1) (G2 : Draws prog w A.in1 i2 fp2 n2 P2 St2) (k : ZKept z TI TO i1 i2 S St1 St2 i s.heap) (hS : S < s.heap.objs.size) (l1 : i < n1) (l2 : i < n2)
    (q : ∀ x y g tk, P1 i x → P2 i y → ZKept z TI TO i1 i2 S St1 St2 (i + 1) g → IsTupOf2 g s.heap.objs.size x y → g.objs.size = s.heap.objs.size + 1 →
      (∀ c o, c ≠ z → c ≠ TO → c ≠ i1 → c ≠ i2 → s.heap.get? c = some o → g.get? c = some o) → Q (some (.ref s.heap.objs.size)) { s with heap := g, toks := tk }) : wpAny (model prog w) A (pyNext (.ref z)) Q E s := by
  obtain ⟨k0, kI, ⟨a, b, kO⟩, k1, k2⟩ := k
  have lt : ∀ {c o}, s.heap.get? c = some o → s.heap.objs.size ≠ c := fun e => Nat.ne_of_gt (Heap.lt_size e)
  have u1 : s.heap.objs.size ≠ i1 := let ⟨_, e⟩ := G1.live _ _ k1; lt e
  have u2 : s.heap.objs.size ≠ i2 := let ⟨_, e⟩ := G2.live _ _ k2; lt e
  rcases k0 with ⟨rfl, k0⟩ | ⟨T, f, oT, k0, kT, c1, c2, c3, c4⟩
  · exact wpAny_pyNext_zipD2_item D G1 G2 k0 kI kO k1 k2 l1 l2 fun x y g tk px py gz gO g1 g2 gp gs up =>
      q x y g tk px py ⟨.inr ⟨_, _, _, gz, gp, Nat.ne_of_gt hS, lt k0, u1, u2⟩, up _ _ D.TIz D.TITO D.TIi1 D.TIi2 kI, ⟨_, _, gO⟩, g1, g2⟩ gp gs up
  · have ty : s.TypeIs (.ref z) "zip" := ⟨_, k0, rfl⟩
    unfold pyNext
    exact wpAny_bind (wpAny_attempt (wpAny_callSpecial?_slot (name := Str.ofString "__next__") ty F.slot_zip_next
      (wpAny_call_entry F.slot_zip_next ty F.entry_zip_next (heldNext D G1 G2 k0 kT kI k1 k2 l1 l2 fun x y g tk px py gz g1 g2 gp gs up => wpAny_pure
        (q x y g tk px py ⟨.inr ⟨T, true, oT, gz, up _ _ c2 c3 c4 kT, c1, c2, c3, c4⟩, up _ _ D.TIz D.TIi1 D.TIi2 kI, ⟨a, b, up _ _ D.TOz D.Ti1 D.Ti2 kO⟩, g1, g2⟩ gp gs fun c o d1 _ d3 d4 e => up c o d1 d3 d4 e)) (F.args_zip_next_1 _))))
theorem keptStop {Q : Option Value → Shared → Prop} (D : ZipSep2 z TI TO i1 i2 fp1 fp2) (G1 : Draws prog w A.in1 i1 fp1 n1 P1 St1) (k : ZKept z TI TO i1 i2 S St1 St2 n1 s.heap) (h0 : 0 < n1)
    (q : ∀ g, (∀ c o, c ≠ z → c ≠ i1 → s.heap.get? c = some o → g.get? c = some o) → Q none { s with heap := g }) : wpAny (model prog w) A (pyNext (.ref z)) Q E s := by
  obtain ⟨k0, kI, _, k1, _⟩ := k
  rcases k0 with ⟨e, _⟩ | ⟨T, f, oT, k0, kT, _⟩
  · omega
  have ty : s.TypeIs (.ref z) "zip" := ⟨_, k0, rfl⟩
  unfold pyNext
  refine wpAny_bind (wpAny_attempt (wpAny_callSpecial?_slot (name := Str.ofString "__next__") ty F.slot_zip_next
    (wpAny_call_entry F.slot_zip_next ty F.entry_zip_next (heldStop D G1 k0 kT kI k1 fun g e up ⟨o, ho, hc⟩ => ?_) (F.args_zip_next_1 _))))
  exact wpAny_bind (wpAny_isInstance (T := "StopIteration") (b := true) ⟨o, ho, hc⟩ isSubtype_stop (wpAny_pure (q _ up)))
end
structure PairsAt (P1 P2 : Nat → Value → Prop) (lo : Addr) (h : Heap) (as : List Addr) : Prop where
  rise : as.Pairwise (· < ·)
  above : ∀ a ∈ as, lo < a
  pairs : ∀ (j : Nat) (a : Addr), as[j]? = some a → ∃ x y, P1 j x ∧ P2 j y ∧ IsTupOf2 h a x y
section
variable {prog : Program} {w : World} {A : Around} {s : Shared} {R : Result → Shared → Prop} {z TI TO i1 i2 S : Addr} {fp1 fp2 : List Addr} {n1 n2 : Nat} {P1 P2 : Nat → Value → Prop} {St1 St2 : Nat → Heap → Prop}
theorem keptLoop (D : ZipSep2 z TI TO i1 i2 fp1 fp2) (G1 : Draws prog w A.in1.in1 i1 fp1 n1 P1 St1) (G2 : Draws prog w A.in1.in1 i2 fp2 n2 P2 St2) (h0 : 0 < n1) (h12 : n1 ≤ n2) (hn : n1 ≤ 1000)
    (hz : z < S) (hI : TI < S) (hO : TO < S) (hi1 : i1 < S) (hi2 : i2 < S) (f1 : S ∉ fp1) (f2 : S ∉ fp2) (res : Value) {h1 : Heap}
    (hR : ∀ g tk acc c as, (∀ b o, b ≠ S → b ≠ z → b ≠ TO → b ≠ i1 → b ≠ i2 → h1.get? b = some o → g.get? b = some o) → g.get? S = some { cls := .type "list", dict := none, data := .seq acc c, slots := #[] } → as.length = n1 → PairsAt P1 P2 S g as →
      acc.toList = as.map Value.ref → R (.ok (.ret res)) { s with heap := g, toks := tk }) :
    ∀ (k i : Nat) (h : Heap) (tk c : Nat) (acc : Array Value) (as : List Addr), n1 - i = k → i ≤ n1 → ZKept z TI TO i1 i2 S St1 St2 i h → (∀ b o, b ≠ S → b ≠ z → b ≠ TO → b ≠ i1 → b ≠ i2 → h1.get? b = some o → h.get? b = some o) →
      h.get? S = some { cls := .type "list", dict := none, data := .seq acc c, slots := #[] } → acc.toList = as.map Value.ref → as.length = i → PairsAt P1 P2 S h as →
      codeAny (model prog w) A (.builtin "list.extend.loop" ⟨[.ref S, .ref z, res], []⟩) R { s with heap := h, toks := tk } := by
  intro k
  induction k with
  | zero =>
    intro i h tk c acc as hk hi hZ up hS hacc hal hP
    obtain rfl : i = n1 := by omega
    refine codeAny_builtin F.entry_extend_loop ?_
    rw [Around.under_plainId F.plain_extend_loop _]
    show wpAny _ A.in1 (pyNext (.ref z) >>= _) _ _ _
    refine wpAny_bind (keptStop (s := { s with heap := h, toks := tk }) (A := A.in1) D G1 hZ h0 fun g ug => ?_)
    refine wpAny_pure (hR g tk acc c as (fun b o c1 c2 c3 c4 c5 e => ug b o c2 c4 (up b o c1 c2 c3 c4 c5 e)) (ug S _ (Nat.ne_of_gt hz) (Nat.ne_of_gt hi1) hS) hal ⟨hP.rise, hP.above, fun j a hj => ?_⟩ hacc)
    obtain ⟨x, y, e1, e2, e3⟩ := hP.pairs j a hj
    have ha := hP.above a (List.mem_of_getElem? hj)
    exact ⟨x, y, e1, e2, ug a _ (Nat.ne_of_gt (Nat.lt_trans hz ha)) (Nat.ne_of_gt (Nat.lt_trans hi1 ha)) e3⟩
  | succ k ih =>
    intro i h tk c acc as hk hi hZ up hS hacc hal hP
    have hlt : i < n1 := by omega
    have hsz : acc.size = i := by rw [← Array.length_toList, hacc, List.length_map, hal]
    have hSl : S < h.objs.size := Heap.lt_size hS
    refine codeAny_builtin F.entry_extend_loop ?_
    rw [Around.under_plainId F.plain_extend_loop _]
    show wpAny _ A.in1 (pyNext (.ref z) >>= _) _ _ _
    refine wpAny_bind (keptNext (s := { s with heap := h, toks := tk }) (A := A.in1) D G1 G2 hZ hSl hlt (by omega) fun x y g tk2 px py zg gp gs ug => ?_)
    dsimp only at gp gs ug ⊢
    have hSg := ug S _ (Nat.ne_of_gt hz) (Nat.ne_of_gt hO) (Nat.ne_of_gt hi1) (Nat.ne_of_gt hi2) hS
    have vs : ∀ b o, b ≠ S → g.get? b = some o → (g.update S (Obj.mapSeq (·.push (Value.ref h.objs.size)))).get? b = some o := fun b o hb e => (Heap.get?_update_other _ _ (Ne.symm hb)).trans e
    have old : ∀ b o, S < b → h.get? b = some o → (g.update S (Obj.mapSeq (·.push (Value.ref h.objs.size)))).get? b = some o := fun b o hb e =>
      vs b o (Nat.ne_of_gt hb) (ug b o (Nat.ne_of_gt (Nat.lt_trans hz hb)) (Nat.ne_of_gt (Nat.lt_trans hO hb)) (Nat.ne_of_gt (Nat.lt_trans hi1 hb)) (Nat.ne_of_gt (Nat.lt_trans hi2 hb)) e)
    show wpAny _ A.in1 (updateSeq S (·.push (Value.ref h.objs.size)) >>= _) _ _ _
    refine wpAny_bind ?_
    refine wpAny_updateSeq hSg rfl (wpAny_pure ⟨plainId_quiet F.plain_extend_loop _, ih (i + 1) _ tk2 _ (acc.push (Value.ref h.objs.size)) (as ++ [h.objs.size]) (by omega) hlt
      (zg.over G1 G2 (Nat.ne_of_lt hz) (Nat.ne_of_lt hI) (Nat.ne_of_lt hO) f1 f2 vs) (fun b o c1 c2 c3 c4 c5 e => vs b o c1 (ug b o c2 c3 c4 c5 (up b o c1 c2 c3 c4 c5 e))) (Heap.get?_update_self _ hSg rfl)
      (by rw [Array.toList_push, hacc, List.map_append]; rfl) (by rw [List.length_append, hal]; rfl) ⟨?_, ?_, ?_⟩⟩) (by rw [hsz, sizeLine_eq]; omega) (by show (acc.push (Value.ref h.objs.size)).size ≤ sizeLine + 1; rw [Array.size_push, hsz, sizeLine_eq]; omega)
    · refine List.pairwise_append.mpr ⟨hP.rise, List.pairwise_singleton _ _, fun a ha b hb => ?_⟩
      rw [List.mem_singleton.mp hb]
      obtain ⟨j, hj⟩ := List.mem_iff_getElem?.mp ha
      obtain ⟨_, _, _, _, e⟩ := hP.pairs j a hj
      exact Heap.lt_size e
    · intro a ha
      rcases List.mem_append.mp ha with ha | ha
      · exact hP.above a ha
      · rw [List.mem_singleton.mp ha]
        exact hSl
    · intro j b hj
      by_cases h1 : j < as.length
      · rw [List.getElem?_append_left h1] at hj
        obtain ⟨x', y', e1, e2, e3⟩ := hP.pairs j b hj
        exact ⟨x', y', e1, e2, old b _ (hP.above b (List.mem_of_getElem? hj)) e3⟩
      · have hjl := (List.getElem?_eq_some_iff.mp hj).1
        rw [List.length_append, List.length_singleton] at hjl
        obtain rfl : j = as.length := by omega
        have hb : h.objs.size = b := by simpa using hj
        subst hb
        exact ⟨x, y, by rw [hal]; exact px, by rw [hal]; exact py, vs _ _ (Nat.ne_of_gt hSl) gp⟩
theorem zip_no_len : typeLookup (.type "zip") "__len__" = pure none := am_miss_of_fast (by decide +kernel)
theorem zip_no_hint : typeLookup (.type "zip") "__length_hint__" = pure none := am_miss_of_fast (by decide +kernel)
theorem keptExtend (D : ZipSep2 z TI TO i1 i2 fp1 fp2) (G1 : Draws prog w A.in1.in1 i1 fp1 n1 P1 St1) (G2 : Draws prog w A.in1.in1 i2 fp2 n2 P2 St2) (h0 : 0 < n1) (h12 : n1 ≤ n2) (hn : n1 ≤ 1000)
    (hz : z < S) (hI : TI < S) (hO : TO < S) (hi1 : i1 < S) (hi2 : i2 < S) (f1 : S ∉ fp1) (f2 : S ∉ fp2) (res : Value) (kz : IsZip s.heap z TI TO .none) (kI : IsTupOf2 s.heap TI (.ref i1) (.ref i2)) (kO : ∃ a b, IsTupOf2 s.heap TO a b) (a1 : St1 0 s.heap) (a2 : St2 0 s.heap)
    (c₀ : Nat) (hS : s.heap.get? S = some { cls := .type "list", data := .seq #[] c₀ })
    (hR : ∀ g tk acc c as, (∀ b o, b ≠ S → b ≠ z → b ≠ TO → b ≠ i1 → b ≠ i2 → s.heap.get? b = some o → g.get? b = some o) → g.get? S = some { cls := .type "list", dict := none, data := .seq acc c, slots := #[] } → as.length = n1 → PairsAt P1 P2 S g as →
      acc.toList = as.map Value.ref → R (.ok (.ret res)) { s with heap := g, toks := tk }) :
    wpAny (model prog w) A.in1 (Builtin.List.listExtendWith (.ref S) (.ref z) res)
      (fun fin s' => match fin with | .done f => R (.ok f) s' | .again c' => c'.quiet = true ∧ codeAny (model prog w) A c' R s') (fun e s' => R (.error e) s') s := by
  have ty : s.TypeIs (.ref z) "zip" := ⟨_, kz, rfl⟩
  have kZ : ZKept z TI TO i1 i2 S St1 St2 0 s.heap := ⟨.inl ⟨rfl, kz⟩, kI, kO, a1, a2⟩
  unfold Builtin.List.listExtendWith
  refine wpAny_bind (wpAny_typeOf ty ?_)
  have e1 : Builtin.List.listSameRef (.ref S) (.ref z) = false := by simp [Builtin.List.listSameRef, Nat.ne_of_gt hz]
  have e2 : (Value.type "zip" == Value.type "list") = false := by decide
  have e3 : (Value.type "zip" == Value.type "tuple") = false := by decide
  simp only [e1, e2, e3, Bool.or_false, Bool.false_eq_true, if_false]
  refine wpAny_bind (wpAny_pyIter_zip kz (wpAny_bind (wpAny_holding ?_)))
  unfold Builtin.List.listLengthHint
  refine wpAny_bind (wpAny_specialOf ty zip_no_len ?_)
  show wpAny _ A.in1 (specialOf (Value.ref z) (Str.ofString "__length_hint__") >>= _) _ _ _
  refine wpAny_bind (wpAny_specialOf ty zip_no_hint ?_)
  refine wpAny_pure ?_
  show wpAny _ A.in1 (rule "list.extend.makes-room" >>= fun _ => Builtin.List.listTouch (.ref S) >>= fun _ => again (.builtin "list.extend.loop" ⟨[.ref S, .ref z, res], []⟩)) _ _ _
  refine wpAny_bind (wpAny_rule (wpAny_bind ?_))
  show wpAny _ A.in1 (updateSeq S (·.push .none) >>= fun _ => updateSeq S (·.pop)) _ _ _
  refine wpAny_bind (wpAny_updateSeq hS rfl ?_)
  have hS2 := Heap.get?_update_self (Obj.mapSeq (·.push Value.none)) hS rfl
  refine wpAny_updateSeq (hz := by seq_fits) hS2 rfl ?_
  have hS3 := Heap.get?_update_self (Obj.mapSeq (·.pop)) hS2 rfl
  have up : ∀ b o, b ≠ S → s.heap.get? b = some o → ((s.heap.update S (Obj.mapSeq (·.push Value.none))).update S (Obj.mapSeq (·.pop))).get? b = some o :=
    fun b o hb e => (Heap.get?_update_other _ _ (Ne.symm hb)).trans ((Heap.get?_update_other _ _ (Ne.symm hb)).trans e)
  exact wpAny_pure ⟨plainId_quiet F.plain_extend_loop _, keptLoop (s := s) (h1 := s.heap) D G1 G2 h0 h12 hn hz hI hO hi1 hi2 f1 f2 res hR n1 0 _ s.toks _ #[] [] (Nat.sub_zero _) (Nat.zero_le _)
    (kZ.over G1 G2 (Nat.ne_of_lt hz) (Nat.ne_of_lt hI) (Nat.ne_of_lt hO) f1 f2 up) (fun b o hb _ _ _ _ e => up b o hb e) hS3 rfl rfl ⟨List.Pairwise.nil, (fun _ ha => nomatch ha), (fun j a hj => by simp at hj)⟩⟩
theorem keptInit (D : ZipSep2 z TI TO i1 i2 fp1 fp2) (G1 : Draws prog w A.in1.in1 i1 fp1 n1 P1 St1) (G2 : Draws prog w A.in1.in1 i2 fp2 n2 P2 St2) (h0 : 0 < n1) (h12 : n1 ≤ n2) (hn : n1 ≤ 1000)
    (hz : z < S) (hI : TI < S) (hO : TO < S) (hi1 : i1 < S) (hi2 : i2 < S) (f1 : S ∉ fp1) (f2 : S ∉ fp2) (kz : IsZip s.heap z TI TO .none) (kI : IsTupOf2 s.heap TI (.ref i1) (.ref i2)) (kO : ∃ a b, IsTupOf2 s.heap TO a b) (a1 : St1 0 s.heap) (a2 : St2 0 s.heap)
    (hS : s.heap.get? S = some { cls := .type "list", data := .seq #[] })
    (hR : ∀ g tk acc c as, (∀ b o, b ≠ S → b ≠ z → b ≠ TO → b ≠ i1 → b ≠ i2 → s.heap.get? b = some o → g.get? b = some o) → g.get? S = some { cls := .type "list", dict := none, data := .seq acc c, slots := #[] } → as.length = n1 → PairsAt P1 P2 S g as →
      acc.toList = as.map Value.ref → R (.ok (.ret .none)) { s with heap := g, toks := tk }) :
    wpAny (model prog w) A.in1 (Builtin.«list.__init__» ⟨[.ref S, .ref z], []⟩)
      (fun fin s' => match fin with | .done f => R (.ok f) s' | .again c' => c'.quiet = true ∧ codeAny (model prog w) A c' R s') (fun e s' => R (.error e) s') s := by
  show wpAny _ A.in1 (do let old ← Builtin.List.listItems (.ref S); Builtin.List.listUpdate (.ref S) (fun _ => #[]); letGo old.toList.reverse; Builtin.List.listExtendWith (.ref S) (.ref z) .none) _ _ s
  refine wpAny_bind ?_
  unfold Builtin.List.listItems
  refine wpAny_bind (wpAny_seqItems hS rfl (wpAny_pure ?_))
  show wpAny _ A.in1 (updateSeq S (fun _ => #[]) >>= fun _ => letGo (#[] : Array Value).toList.reverse >>= fun _ => Builtin.List.listExtendWith (.ref S) (.ref z) .none) _ _ s
  refine wpAny_bind (wpAny_updateSeq hS rfl ?_)
  have hS2 := Heap.get?_update_self (Obj.mapSeq (fun _ => (#[] : Array Value))) hS rfl
  have up : ∀ b o, b ≠ S → s.heap.get? b = some o → (s.heap.update S (Obj.mapSeq (fun _ => (#[] : Array Value)))).get? b = some o := fun b o hb e => (Heap.get?_update_other _ _ (Ne.symm hb)).trans e
  refine wpAny_bind (wpAny_letGo ?_)
  obtain ⟨a, b, kO⟩ := kO
  refine keptExtend D G1 G2 h0 h12 hn hz hI hO hi1 hi2 f1 f2 .none (up _ _ (Nat.ne_of_lt hz) kz) (up _ _ (Nat.ne_of_lt hI) kI) ⟨a, b, up _ _ (Nat.ne_of_lt hO) kO⟩ (G1.frame _ _ _ a1 fun b hb o e => up b o (fun z => f1 (z ▸ hb)) e) (G2.frame _ _ _ a2 fun b hb o e => up b o (fun z => f2 (z ▸ hb)) e) _ hS2 fun g tk acc c as ug gS hl hP hacc => ?_
  exact hR g tk acc c as (fun b o c1 c2 c3 c4 c5 e => ug b o c1 c2 c3 c4 c5 (up b o c1 e)) gS hl hP hacc
end
end
section
open L2 PySem PySem.Spec PyProof.Rows
open PySem PySem.W PySem.Spec PyProof.Rows L2
section
variable {prog : Program} {w : World} {A : Around} {E : Value → Shared → Prop} {s : Shared}
theorem nin2 {a x y : Nat} (h1 : a ≠ x) (h2 : a ≠ y) : a ∉ [x, y] := by
  intro z
  rcases List.mem_cons.mp z with z | z
  · exact h1 z
  · exact h2 (List.mem_singleton.mp z)
theorem ltk {t b : Nat} (k : Nat) (h : t < b) : b + k ≠ t := by omega
theorem lk {b : Nat} (k m : Nat) (h : k < m) : b + k < b + m := by omega
theorem nk {b : Nat} (k m : Nat) (h : k ≠ m) : b + k ≠ b + m := by omega
theorem apart5 {b t l : Nat} (ht : t < b) (hl : l < b) : ZipSep2 (b + 4) (b + 2) (b + 3) b (b + 1) [b, t] [b + 1, l] where
  TIz := nk 2 4 (by decide)
  TOz := nk 3 4 (by decide)
  TITO := nk 2 3 (by decide)
  TIi1 := nk 2 0 (by decide)
  mem1 := List.mem_cons_self
  zf1 := nin2 (nk 4 0 (by decide)) (ltk 4 ht)
  Tf1 := nin2 (nk 3 0 (by decide)) (ltk 3 ht)
  TIi2 := nk 2 1 (by decide)
  mem2 := List.mem_cons_self
  zf2 := nin2 (nk 4 1 (by decide)) (ltk 4 hl)
  Tf2 := nin2 (nk 3 1 (by decide)) (ltk 3 hl)
  sep1_2 := nin2 (nk 0 1 (by decide)) (ltk 0 hl)
  sep2_1 := nin2 (nk 1 0 (by decide)) (ltk 1 ht)
theorem ltn {a b : Nat} (k : Nat) (h : a < b) : a ≠ b + k := by omega
theorem callListZip {Q : Value → Shared → Prop} {t l b : Addr} {xs ys : Array Value} (hh : A.handled = none) (ht : s.heap.IsTuple t xs) (hl : s.heap.IsList l ys) (lt : t < b) (ll : l < b) (b5 : s.heap.objs.size = b + 5)
    (hz : IsZip s.heap (b + 4) (b + 2) (b + 3) .none) (hI : IsTupOf2 s.heap (b + 2) (.ref b) (.ref (b + 1))) (hO : IsTupOf2 s.heap (b + 3) .none .none) (h1 : s.heap.IsTupleIter b t 0) (h2 : s.heap.IsListIter (b + 1) l 0)
    (p0 : 0 < xs.size) (p1 : xs.size ≤ ys.size) (p2 : xs.size ≤ 1000)
    (q : ∀ g tk acc c as, (∀ a o, a < b → s.heap.get? a = some o → g.get? a = some o) → g.get? (b + 5) = some { cls := .type "list", dict := none, data := .seq acc c, slots := #[] } → as.length = xs.size →
      PairsAt (fun j v => xs[j]? = some v) (fun j v => ys[j]? = some v) (b + 5) g as → acc.toList = as.map Value.ref → Q (.ref (b + 5)) { s with heap := g, toks := tk }) :
    wpAny (model prog w) A (call (.type "list") [.ref (b + 4)]) Q E s := by
  refine callType_codes (Q₁ := fun r s₁ => r = .ref s.heap.objs.size ∧ s₁ = { s with heap := s.heap.push { cls := .type "list", data := .seq #[] } }) F.called_list (F.typeCall_list_1 _) F.entry_list_init
    (code_list_new _ ⟨rfl, rfl⟩) fun r s₁ e₁ => ?_
  obtain ⟨rfl, rfl⟩ := e₁
  have hS : (s.heap.push { cls := .type "list", data := .seq #[] }).get? s.heap.objs.size = some { cls := .type "list", data := .seq #[] } := Heap.get?_push_size _ rfl
  have up : ∀ a o, s.heap.get? a = some o → (s.heap.push { cls := .type "list", data := .seq #[] }).get? a = some o := fun a o e => Heap.get?_push_of_some _ e
  rw [b5] at hS ⊢
  refine ⟨⟨_, hS, rfl⟩, F.args_list_init_2 _ _, ?_⟩
  refine keptInit (A := A.in1) (s := { s with heap := s.heap.push { cls := .type "list", data := .seq #[] } }) (apart5 lt ll) (Draws.tuple (A := A.in1.in1.in1) hh b t (Nat.ne_of_lt lt) xs) (Draws.list (A := A.in1.in1.in1) hh (b + 1) l (Nat.ne_of_lt (Nat.lt_succ_of_lt ll)) ys) p0 p1 p2
    (lk 4 5 (by decide)) (lk 2 5 (by decide)) (lk 3 5 (by decide)) (lk 0 5 (by decide)) (lk 1 5 (by decide)) (nin2 (nk 5 0 (by decide)) (ltk 5 lt)) (nin2 (nk 5 1 (by decide)) (ltk 5 ll)) (up _ _ hz) (up _ _ hI) ⟨_, _, up _ _ hO⟩ ⟨h1.at fun o e => up _ _ e, ht.at fun o e => up _ _ e⟩ ⟨h2.at fun o e => up _ _ e, hl.at fun o e => up _ _ e⟩ hS fun g tk acc c as ug gS hn hP ha => ?_
  exact ⟨rfl, q g tk acc c as (fun a o la e => ug a o (ltn 5 la) (ltn 4 la) (ltn 3 la) (ltn 0 la) (ltn 1 la) (up a o e)) gS hn hP ha⟩
end
theorem Inv.laidAll {X : Cx} {pins : List (Addr × Obj)} {σ : List (Option V)} {H H' : Hp} {s : Shared} {h' : Heap} {t' : Nat} (I : Inv X pins σ H s) (k : ∀ b u, s.heap.get? b = some u → h'.get? b = some u) (sm : Same H H')
    (new : ∀ b, b < s.heap.objs.size → H b = none → H' b = none) (ok : ∀ b o, H' b = some o → H b = none → ObjOk X.prog X.w H' h' b o) : Inv X pins σ H' { s with heap := h', toks := t' } := by
  refine I.un ⟨fun b u q _ _ _ => k b u q, fun b u q _ _ _ => ⟨u.slots, k b u q⟩, fun b u q n _ => new b (Heap.lt_size q) n, fun b u q _ => ⟨u, k b u q⟩, fun b xs q => sm _ _ q, fun b u xs q => sm _ _ q, fun b ps q => ⟨#[], by rw [sm _ _ q]; simp⟩⟩ fun b o e => ?_
  cases hb : H b with
  | none => exact ok b o e hb
  | some u =>
    have e' := sm b u hb
    rw [e] at e'
    cases e'
    exact (I.hok b o hb).stay (fun c v _ q => k c v q) (fun c q => sm _ _ q) fun c xs q => sm _ _ q
structure ZipL (H H' : Hp) (q : Addr) (as : List Addr) (xs ys : List V) : Prop where
  same : Same H H'
  list : H' q = some (.lst (as.map V.ref))
  len : as.length = xs.length
  pair : ∀ (j : Nat) (a : Addr), as[j]? = some a → ∃ x y, xs[j]? = some x ∧ ys[j]? = some y ∧ H' a = some (.tup [x, y])
  free : H q = none
def zipH (H : Hp) (q : Addr) (as : List Addr) (xs ys : List V) : Hp := fun b =>
  if b ∈ as then some (.tup [xs.getD (as.idxOf b) .non, ys.getD (as.idxOf b) .non]) else if b = q then some (.lst (as.map V.ref)) else H b
def tLz (K : PySem.W.Frag) (ta : TA) : TE := fun σ H Q => ta σ H fun vs H1 => ∃ a b xs ys, vs = [.ref a, .ref b] ∧ SqT K H1 a xs ∧ SqL K H1 b ys ∧ 0 < xs.length ∧ xs.length ≤ ys.length ∧ xs.length ≤ 1000 ∧ ∀ q as H2, ZipL H1 H2 q as xs ys → Q (.ref q) H2
section
variable {X : Cx}
theorem pe_listZip {e e2 : Expr} {ta : TA} {p p2 pos pos2 : Pos} (hc : X.calm = true) (hg : Gl X "zip") (hm : X.mg "zip" = none) (gl : Gl X "list") (ml : X.mg "list" = none) (ha : PA X [e, e2] ta)
    (hs : starEach [e, e2] X.env = (false, eval e X.env) :: starEach [e2] X.env := by rfl) (hpl : (backTo pos2 (starEach [e2] X.env)).any (·.1) = false := by rfl)
    (na : starEach [.Call (.Name "zip" p2) [e, e2] [] pos2] X.env = (false, eval (.Call (.Name "zip" p2) [e, e2] [] pos2) X.env) :: starEach [] X.env := by rfl) :
    PE X (.Call (.Name "list" p) [.Call (.Name "zip" p2) [e, e2] [] pos2] [] pos) (tLz X.K ta) := by
  refine ⟨fun pins s σ H Q I h => ?_⟩
  refine Call_ (ld_blt I gl ml PyProof.Rows.boot_list (PyProof.Rows.callWith_type1 (args_cons ?_ na) na))
  refine Call_ (ld_blt I hg hm PyProof.Rows.boot_zip (PyProof.Rows.callWith_type1 (thn (ha.run pos2 pins s σ H _ I h) fun us s1 ⟨vs, H1, I1, r1, q1⟩ => ?_) hs hpl))
  obtain ⟨a, b, xs, ys, ex, hqx, hqy, p0, p1, p2, q⟩ := q1
  subst ex
  cases r1 with
  | cons r rr =>
    cases rr with
    | cons r' rr =>
      cases rr
      cases r
      cases r'
      obtain ⟨its, rv, pt, _⟩ := I1.tuple hqx
      obtain ⟨its2, rv2, pl, _⟩ := I1.list hqy
      obtain ⟨o1, ho1, _⟩ := id pt
      have l1 := rv.length
      have l2 := rv2.length
      refine zip_begins2 (begins_tuple a its.toArray) (begins_list b its2.toArray) (show s1.heap.IsTuple a its.toArray from pt) pl.isList fun h' hz hTI hTO h1 h2 hsz hk => args_nil ?_
      refine callListZip (s := { s1 with heap := h' }) (xs := its.toArray) (ys := its2.toArray) (I1.ok.hd hc) (Heap.IsTuple.at (show s1.heap.IsTuple a its.toArray from pt) fun o e => hk _ _ e) (Heap.IsList.at pl.isList fun o e => hk _ _ e) (Heap.lt_size ho1) pl.lt hsz hz hTI hTO ⟨_, h1, rfl, rfl⟩ ⟨_, h2, rfl, rfl⟩
        (by simp; omega) (by simp; omega) (by simp; omega) fun g tk acc cc as kg gS hn hP hacc => ?_
      have nd : as.Nodup := hP.rise.imp fun z => Nat.ne_of_lt z
      have fr : ∀ c, s1.heap.objs.size ≤ c → H1 c = none := fun c z => I1.hok.fresh z
      have big : ∀ c, c ∈ as → s1.heap.objs.size ≤ c := fun c z => Nat.le_trans (Nat.le_add_right _ 5) (Nat.le_of_lt (hP.above c z))
      have nq : s1.heap.objs.size + 5 ∉ as := fun z => Nat.lt_irrefl _ (hP.above _ z)
      have hn' : as.length = xs.length := by rw [hn, l1]; simp
      have pr : ∀ (j : Nat) (c : Addr), as[j]? = some c → ∃ x y, xs[j]? = some x ∧ ys[j]? = some y ∧ (zipH H1 (s1.heap.objs.size + 5) as xs ys) c = some (.tup [x, y]) ∧ ObjOk X.prog X.w (zipH H1 (s1.heap.objs.size + 5) as xs ys) g c (.tup [x, y]) := by
        intro j c hj
        obtain ⟨u, u2, e1, e2, e3⟩ := hP.pairs j c hj
        have jl : j < as.length := (List.getElem?_eq_some_iff.mp hj).1
        have jc : as[j] = c := (List.getElem?_eq_some_iff.mp hj).2
        have jx : xs[j]? = some xs[j] := List.getElem?_eq_getElem (by omega)
        have jy : ys[j]? = some ys[j] := List.getElem?_eq_getElem (by omega)
        obtain ⟨w1, f1, r1⟩ := rv.get jx
        obtain ⟨w2, f2, r2⟩ := rv2.get jy
        have g1 : its[j]? = some u := by simpa using e1
        have g2 : its2[j]? = some u2 := by simpa using e2
        rw [f1] at g1; cases g1
        rw [f2] at g2; cases g2
        have ix : as.idxOf c = j := by rw [← jc]; exact nd.idxOf_getElem j jl
        refine ⟨xs[j], ys[j], jx, jy, ?_, by show 2 ≤ sizeLine; decide, [u, u2], .cons r1 (.cons r2 .nil), ⟨_, e3, rfl, _, rfl⟩⟩
        show (if c ∈ as then _ else _) = _
        rw [if_pos (List.mem_of_getElem? hj), ix, List.getD_eq_getElem?_getD, List.getD_eq_getElem?_getD, jx, jy]
        rfl
      have zq : (zipH H1 (s1.heap.objs.size + 5) as xs ys) (s1.heap.objs.size + 5) = some (.lst (as.map V.ref)) := by
        show (if _ ∈ as then _ else _) = _
        rw [if_neg nq, if_pos rfl]
      have sm : Same H1 (zipH H1 (s1.heap.objs.size + 5) as xs ys) := fun c o e => by
        have lc := I1.hok.lt e
        show (if c ∈ as then _ else _) = _
        rw [if_neg (fun z => Nat.lt_irrefl _ (Nat.lt_of_lt_of_le lc (big c z))), if_neg (ltn 5 lc)]
        exact e
      refine ⟨.ref (s1.heap.objs.size + 5), zipH H1 (s1.heap.objs.size + 5) as xs ys, Inv.laidAll (s := s1) (h' := g) (t' := tk) I1 (fun c o e => kg c o (Heap.lt_size e) (hk c o e)) sm (fun c lc e => ?_) (fun c o e n => ?_), rfl,
        q _ as _ ⟨sm, zq, hn', fun j c hj => let ⟨x, y, e1, e2, e3, _⟩ := pr j c hj; ⟨x, y, e1, e2, e3⟩, fr _ (Nat.le_add_right _ 5)⟩⟩
      · show (if c ∈ as then _ else _) = _
        rw [if_neg (fun z => Nat.lt_irrefl _ (Nat.lt_of_lt_of_le lc (big c z))), if_neg (ltn 5 lc)]
        exact e
      · by_cases hm : c ∈ as
        · obtain ⟨j, hj⟩ := List.mem_iff_getElem?.mp hm
          obtain ⟨x, y, _, _, e3, e4⟩ := pr j c hj
          rw [e] at e3
          cases e3
          exact e4
        · by_cases hq : c = s1.heap.objs.size + 5
          · subst hq
            rw [e] at zq
            cases zq
            refine ⟨by rw [List.length_map, hn', sizeLine_eq]; omega, acc.toList, cc, ?_, ?_⟩
            · rw [hacc]; exact vals_refs as
            · rw [Array.toArray_toList]; exact gS
          · have : (if c ∈ as then some (HO.tup [xs.getD (as.idxOf c) .non, ys.getD (as.idxOf c) .non]) else if c = s1.heap.objs.size + 5 then some (.lst (as.map V.ref)) else H1 c) = some o := e
            rw [if_neg hm, if_neg hq, n] at this
            cases this
end
end
section
open L2 PySem PySem.Spec PyProof.Rows
section
variable {X : Cx} {K : PySem.W.Frag} {mg : Str → Option Value}
theorem k_listZip {e e2 : Expr} {ta : TA} {p p2 pos pos2 : Pos} (hm : X.mg "zip" = none) (ml : X.mg "list" = none) (ha : PA X [e, e2] ta) (hK : X.K = K := by rfl) (hc : X.calm = true := by rfl) (hg : Gl X "zip" := by rfl) (gl : Gl X "list" := by rfl)
    (hs : starEach [e, e2] X.env = (false, eval e X.env) :: starEach [e2] X.env := by rfl) (hpl : (backTo pos2 (starEach [e2] X.env)).any (·.1) = false := by rfl)
    (na : starEach [.Call (.Name "zip" p2) [e, e2] [] pos2] X.env = (false, eval (.Call (.Name "zip" p2) [e, e2] [] pos2) X.env) :: starEach [] X.env := by rfl) :
    PE X (.Call (.Name "list" p) [.Call (.Name "zip" p2) [e, e2] [] pos2] [] pos) (tLz K ta) := by
  subst hK
  exact pe_listZip hc hg hm gl ml ha hs hpl na
def rDictP (K : PySem.W.Frag) : List V → Hp → VK → Prop := fun xs H Q => ∃ (a : Addr) (ps : List Addr) (kvs : List (Key × V)), xs = [.ref a] ∧ SqL K H a (ps.map V.ref) ∧ Paired (fun p kv => SqT K H p [kV kv.1, kv.2]) ps kvs ∧
    ∀ p, H p = none → Q (.ref p) (upd H p (.dK (mergeK [] kvs)))
theorem k_dictP (hK : X.K = K := by rfl) (hc : X.calm = true := by rfl) : CallR X (.type "dict") (rDictP K) := by subst hK; exact call_dictP hc
end
def zipK2 (K : PySem.W.Frag) (Q : VK) : List V → Hp → Prop := fun vs H1 => ∃ a b xs ys, vs = [.ref a, .ref b] ∧ SqT K H1 a xs ∧ SqL K H1 b ys ∧ 0 < xs.length ∧ xs.length ≤ ys.length ∧ xs.length ≤ 1000 ∧ ∀ q as H2, ZipL H1 H2 q as xs ys → Q (.ref q) H2
theorem i_lz {K : PySem.W.Frag} {ta : TA} {σ : L2.St} {H : Hp} {Q : VK} (h : ta σ H (zipK2 K Q)) : tLz K ta σ H Q := h
def newOf (ps ys : List Str) (z : Str) : Str := ys.getD (ps.idxOf z) ""
def kvOf (ps ys : List Str) : List (Key × V) := (ps.zip ys).map fun p => (Sum.inr p.1, V.str p.2)
theorem merge_out (k : Key) : ∀ (more acc : List (Key × V)), (∀ p ∈ more, p.1 ≠ k) → valV (mergeK acc more) k = valV acc k
  | [], _, _ => rfl
  | p :: r, acc, h => by
    show valV (mergeK (putK acc p.1 p.2) r) k = _
    rw [merge_out k r _ fun q hq => h q (List.mem_cons_of_mem _ hq), valV_put, if_neg fun e => h p List.mem_cons_self e.symm]
theorem val_kv (z : Str) : ∀ (ps ys : List Str) (acc : List (Key × V)), ps.Nodup → ps.length ≤ ys.length → z ∈ ps → valV (mergeK acc (kvOf ps ys)) (.inr z) = some (.str (newOf ps ys z))
  | [], _, _, _, _, h => absurd h List.not_mem_nil
  | x :: ps, [], _, _, l, _ => by simp at l
  | x :: ps, y :: ys, acc, n, l, h => by
    show valV (mergeK (putK acc (Sum.inr x) (V.str y)) (kvOf ps ys)) (.inr z) = _
    have n' := List.nodup_cons.mp n
    by_cases hx : z = x
    · subst hx
      rw [merge_out, valV_put, if_pos rfl]
      · unfold newOf; simp
      · intro p hp e
        unfold kvOf at hp
        obtain ⟨q, hq, rfl⟩ := List.mem_map.mp hp
        have : q.1 = z := by simpa using e
        exact n'.1 (this ▸ (List.of_mem_zip hq).1)
    · have hm : z ∈ ps := by simpa [hx] using h
      rw [val_kv z ps ys _ n'.2 (by simpa using l) hm]
      unfold newOf
      have ei : (x :: ps).idxOf z = ps.idxOf z + 1 := by
        rw [List.idxOf_cons]
        have : (x == z) = false := by simpa using fun e => hx (Eq.symm e)
        rw [this]
        rfl
      rw [ei]
      rfl
theorem new_at {ps ys : List Str} {z : Str} (l : ps.length ≤ ys.length) (h : z ∈ ps) : ys[ps.idxOf z]? = some (newOf ps ys z) := by
  have h1 : ps.idxOf z < ps.length := List.idxOf_lt_length_iff.mpr h
  unfold newOf
  rw [List.getD_eq_getElem?_getD, List.getElem?_eq_getElem (by omega)]
  rfl
theorem zip_dict {K : PySem.W.Frag} {H H2 : Hp} {q : Addr} {as : List Addr} {ps ys : List Str} {Q : VK} (z : ZipL H H2 q as (ps.map V.str) (ys.map V.str)) (l : ps.length ≤ ys.length)
    (h : ∀ p, H2 p = none → Q (.ref p) (upd H2 p (.dK (mergeK [] (kvOf ps ys))))) : rDictP K [.ref q] H2 Q := by
  refine ⟨q, as, kvOf ps ys, rfl, sq_lst z.list, ?_, h⟩
  have len := z.len
  have pair := z.pair
  clear h z
  rw [List.length_map] at len
  have gen : ∀ (as : List Addr) (ps ys : List Str), as.length = ps.length → ps.length ≤ ys.length → (∀ (j : Nat) (a : Addr), as[j]? = some a → ∃ x y, (ps.map V.str)[j]? = some x ∧ (ys.map V.str)[j]? = some y ∧ H2 a = some (.tup [x, y])) →
      Paired (fun p (kv : Key × V) => SqT K H2 p [kV kv.1, kv.2]) as (kvOf ps ys) := by
    intro as
    induction as with
    | nil =>
      intro ps ys e _ _
      cases ps with
      | nil => exact .nil
      | cons _ _ => simp at e
    | cons a as ih =>
      intro ps ys e l h
      cases ps with
      | nil => simp at e
      | cons x ps =>
        cases ys with
        | nil => simp at l
        | cons y ys =>
          obtain ⟨u, v, e1, e2, e3⟩ := h 0 a rfl
          obtain rfl : V.str x = u := by simpa using e1
          obtain rfl : V.str y = v := by simpa using e2
          exact .cons (sq_tup e3) (ih ps ys (by simpa using e) (by simpa using l) fun j b hb => by simpa using h (j + 1) b (by simpa using hb))
  exact gen as ps ys len l pair
structure Ren (ps : List Str) (f : Str → Str) : Prop where
  inj : ∀ x ∈ ps, ∀ y ∈ ps, f x = f y → x = y
  nm : ∀ x ∈ ps, nmOk (f x) = true
def rn (f : Str → Str) (r : Str × Str) : Str × Str := (f r.1, f r.2)
theorem ren_of {ps ys : List Str} (N : IsNames ys) (l : ps.length ≤ ys.length) : Ren ps (newOf ps ys) where
  inj := fun x hx y hy e => by
    have a := new_at l hx
    have b := new_at l hy
    rw [e, ← b] at a
    have h1 : ps.idxOf x < ps.length := List.idxOf_lt_length_iff.mpr hx
    have h2 : ps.idxOf y < ps.length := List.idxOf_lt_length_iff.mpr hy
    have ei : ps.idxOf x = ps.idxOf y := (List.getElem?_inj (by omega) N.1).mp a
    have g1 := List.getElem_idxOf h1
    have g2 := List.getElem_idxOf h2
    rw [← g1, ← g2]
    congr 1
  nm := fun x hx => N.2 _ (List.mem_of_getElem? (new_at l hx))
section
variable {ps : List Str} {rs : List (Str × Str)} {f : Str → Str} {k : Nat}
theorem Ren.mem (R : Ren ps f) {x y : Str} (hx : x ∈ ps) (hy : y ∈ ps) (en : ∀ r ∈ rs, r.1 ∈ ps ∧ r.2 ∈ ps) : (f x, f y) ∈ rs.map (rn f) ↔ (x, y) ∈ rs := by
  constructor
  · intro h
    obtain ⟨r, hr, e⟩ := List.mem_map.mp h
    obtain ⟨e1, e2⟩ := en r hr
    have a : f r.1 = f x := congrArg Prod.fst e
    have b : f r.2 = f y := congrArg Prod.snd e
    have := R.inj _ e1 _ hx a
    have := R.inj _ e2 _ hy b
    obtain ⟨r1, r2⟩ := r
    dsimp only at *
    subst_vars
    exact hr
  · exact fun h => List.mem_map.mpr ⟨_, h, rfl⟩
theorem Ren.road (R : Ren ps f) {x y : Str} (hx : x ∈ ps) (hy : y ∈ ps) (en : ∀ r ∈ rs, r.1 ∈ ps ∧ r.2 ∈ ps) : isRoad (rs.map (rn f)) (f x) (f y) = isRoad rs x y := by
  unfold isRoad
  rw [decide_eq_decide.mpr (R.mem hx hy en), decide_eq_decide.mpr (R.mem hy hx en)]
theorem Ren.near (R : Ren ps f) {x : Str} (hx : x ∈ ps) (en : ∀ r ∈ rs, r.1 ∈ ps ∧ r.2 ∈ ps) : nearL (ps.map f) (rs.map (rn f)) (f x) = (nearL ps rs x).map f := by
  unfold nearL
  rw [List.filter_map]
  congr 1
  refine List.filter_congr fun y hy => ?_
  exact R.road hx hy en
theorem nodup_ren (R : Ren ps f) (n : ps.Nodup) : (ps.map f).Nodup := List.pairwise_map.mpr (n.imp_of_mem fun {a b} ha hb h e => h (R.inj a ha b hb e))
theorem Ren.web (R : Ren ps f) (W : IsWeb ps rs) : IsWeb (ps.map f) (rs.map (rn f)) where
  names := ⟨nodup_ren R W.names.1, fun z hz => by
    obtain ⟨x, hx, rfl⟩ := List.mem_map.mp hz
    exact R.nm x hx⟩
  pos := by rw [List.length_map]; exact W.pos
  le8 := by rw [List.length_map]; exact W.le8
  le14 := by rw [List.length_map]; exact W.le14
  ends := fun r hr => by
    obtain ⟨s, hs, rfl⟩ := List.mem_map.mp hr
    obtain ⟨a, b, c⟩ := W.ends s hs
    exact ⟨List.mem_map_of_mem a, List.mem_map_of_mem b, fun e => c (R.inj _ a _ b e)⟩
  uniq := List.pairwise_map.mpr (W.uniq.imp_of_mem fun {r s} hr hs h => by
    obtain ⟨a, b, _⟩ := W.ends r hr
    obtain ⟨c, d, _⟩ := W.ends s hs
    refine ⟨fun e => h.1 ?_, fun e => h.2 ?_⟩
    · exact Prod.ext (R.inj _ a _ c (congrArg Prod.fst e)) (R.inj _ b _ d (congrArg Prod.snd e))
    · exact Prod.ext (R.inj _ a _ d (congrArg Prod.fst e)) (R.inj _ b _ c (congrArg Prod.snd e)))
theorem rule_many {near near' : List Str} {d : PyData} (h : RuleD k near d) (l : near'.length = near.length) (nc : ∀ r, d ≠ .tuple (.str "copy" :: r)) : RuleD k near' d := by
  cases h with
  | table t h1 h2 => exact .table t (by rw [l]; exact h1) h2
  | sum ts h1 h2 => exact .sum ts h1 (by rw [l]; exact h2)
  | keep => exact .keep
  | least => exact .least
  | greatest => exact .greatest
  | odd => exact .odd
  | most n h => exact .most n h
  | copy z h => exact absurd rfl (nc [.str z])
theorem rule_copy {near : List Str} {r : List PyData} (h : RuleD k near (.tuple (.str "copy" :: r))) : ∃ z, r = [.str z] ∧ z ∈ near := by
  cases h with
  | copy z h => exact ⟨z, rfl, h⟩
end
def nmAt (n i : Nat) (x : Str) : Str := cutS (cutS "roomroom" none (some (n : Int))) none (some (i : Int)) ++ x ++ cutS (cutS "roomroom" none (some (n : Int))) (some ((i : Int) + 1)) none
theorem cut_len (z : Str) (lo hi : Option Int) : (cutS z lo hi).length ≤ z.length := by
  show ((z.cps.toList.drop _).take _).toArray.size ≤ z.cps.size
  rw [List.size_toArray, List.length_take, List.length_drop, Array.length_toList]
  omega
theorem app_len (x y : Str) : (x ++ y).length = x.length + y.length := by
  show (x.cps ++ y.cps).size = x.cps.size + y.cps.size
  exact Array.size_append
theorem perm_strs {ys : List V} {ns : List Str} (h : ys.Perm (ns.map V.str)) : ∃ zs : List Str, ys = zs.map V.str ∧ zs.Perm ns := by
  let g : V → Str := fun v => match v with | .str z => z | _ => ""
  have e1 : (ns.map V.str).map g = ns := by
    rw [List.map_map]
    exact List.map_id _
  refine ⟨ys.map g, ?_, by rw [← e1]; exact h.map g⟩
  rw [List.map_map]
  refine (List.map_id _).symm.trans (List.map_congr_left fun y hy => ?_)
  obtain ⟨z, _, rfl⟩ := List.mem_map.mp (h.mem_iff.mp hy)
  rfl
def sgns : List Str := ["a", "b", "c", "d", "e", "f", "g", "h"]
theorem sgns_of : ("abcdefgh" : Str).cps.toList.map (fun c => (⟨#[c]⟩ : Str)) = sgns := by decide +kernel
theorem nmAt_ok : ∀ n < 9, ∀ i < n, (sgns.map (nmAt n i)).Nodup ∧ ∀ z ∈ sgns.map (nmAt n i), nmOk z = true := by decide +kernel
theorem sgn_at {j c : Nat} (h : ("abcdefgh" : Str).cps[j]? = some c) : (⟨#[c]⟩ : Str) = sgns.getD j "" := by
  have e : (("abcdefgh" : Str).cps.toList.map (fun c => (⟨#[c]⟩ : Str)))[j]? = sgns[j]? := by rw [sgns_of]
  rw [List.getElem?_map, Array.getElem?_toList, h] at e
  rw [List.getD_eq_getElem?_getD, ← e]
  rfl
theorem names_at {n i : Nat} (h : i < n) (h8 : n ≤ 8) : IsNames (sgns.map (nmAt n i)) := nmAt_ok n (by omega) i h
def wordsP : List Str := ["keep", "least", "greatest", "odd", "most", "copy", "sum", "table"]
theorem words_ok : IsNames wordsP := by
  refine ⟨by decide +kernel, ?_⟩
  have : ∀ z ∈ wordsP, nmOk z = true := by decide +kernel
  exact this
def dgK (Q : VK) (x y : V) : Hp → Prop := fun H2 => ∃ a u, x = .ref a ∧ DGet H2 a y (some u) ∧ Q u H2
theorem i_dg {td ty : TE} {σ : L2.St} {H : Hp} {Q : VK} (h : td σ H fun x H1 => ty σ H1 fun y H2 => dgK Q x y H2) : tDGet td ty σ H Q := h
theorem i_dget {d : Addr} {kvs : List (Key × V)} {z : Str} {v : V} {H : Hp} {Q : VK} (e : H d = some (.dK kvs)) (ev : valV kvs (.inr z) = some v) (h : Q v H) : dgK Q (.ref d) (.str z) H := by
  refine ⟨d, v, rfl, ?_, h⟩
  have := DGet.k (k := Sum.inr z) e
  rw [ev] at this
  exact this
theorem hu1 {k : Nat} {A : Around} (r : Room k A) : A.units + 1 < cLine := by have := r.units; omega
def spCalled (K : PySem.W.Frag) : Sp := fun vs H Q _ => ∃ (a : Addr) (v : V) (k : Nat) (ps : List Str) (rs : List (Str × Str)) (ds : List PyData) (c : Int), vs = [.ref a, v] ∧ Fd H a c ∧ HF K H v k ps rs ds ∧ IsHall k ps rs ds ∧ c < 10 ^ 12 ∧
  ∀ (v' : V) (ps' : List Str) (rs' : List (Str × Str)) (ds' : List PyData) (H' : Hp), IsHall k ps' rs' ds' → HF K H' v' k ps' rs' ds' → Fd H' a (c + 2000) → Ch a H H' → Q v' H'
end
section
open L2 PySem PySem.Spec PyProof.Rows
def natsK (t : List Nat) : List L2.Key := t.map fun n => Sum.inl ((n : Nat) : Int)
theorem natsK_V (t : List Nat) : (natsK t).map kV = natsV t := by
  unfold natsK natsV
  rw [List.map_map]
  rfl
theorem natsK_inj {t u : List Nat} (h : natsK t = natsK u) : t = u := by
  unfold natsK at h
  refine (List.map_inj_right fun a b e => ?_).mp h
  have : ((a : Nat) : Int) = b := by simpa using e
  omega
abbrev StL := List (List Nat × Addr × V)
def RwL (l : List Nat × Addr × V) (x : List L2.Key × Addr × Value) : Prop := x.1 = natsK l.1 ∧ x.2.1 = l.2.1 ∧ RelV l.2.2 x.2.2
def DtP (P : Program) (w : World) (D : Addr) (L : StL) (h : Heap) : Prop :=
  ∃ xs, Paired RwL L xs ∧ ∃ o es ep, h.get? D = some o ∧ o.ExactDict ∧ o.data = .dict es ep ∧ es.toList = xs.map (entryOfKey (tupleKind (mixKind P w))) ∧ (xs.map (·.1)).Nodup
def DtO (P : Program) (w : World) (D : Addr) (L : StL) : HO := .ext (DtP P w D L)
def lookT (L : StL) (t : List Nat) : Option V := (L.find? fun l => decide (l.1 = t)).map (·.2.2)
def KeysT (K : PySem.W.Frag) (H : Hp) (L : StL) : Prop := ∀ l ∈ L, SqT K H l.2.1 (natsV l.1)
theorem rw_look {L : StL} {xs : List (List L2.Key × Addr × Value)} (r : Paired RwL L xs) {t : List Nat} {v : V} (h : lookT L t = some v) : ∃ p, atKey xs (natsK t) = some p ∧ RelV v p.2 := by
  induction r with
  | nil => cases h
  | @cons l x ls rest hl _ ih =>
    obtain ⟨e1, e2, e3⟩ := hl
    unfold lookT at h
    unfold atKey
    by_cases e : l.1 = t
    · rw [List.find?_cons_of_pos (by simp [e])] at h
      rw [List.find?_cons_of_pos (by simp [e1, e])]
      cases h
      exact ⟨_, rfl, e3⟩
    · rw [List.find?_cons_of_neg (by simp [e])] at h
      rw [List.find?_cons_of_neg (by
        simp only [decide_eq_true_eq, e1]
        exact fun z => e (natsK_inj z))]
      exact ih h
theorem rw_all {L : StL} {xs : List (List L2.Key × Addr × Value)} (r : Paired RwL L xs) : ∀ x ∈ xs, ∃ l ∈ L, RwL l x := by
  induction r with
  | nil => exact fun x hx => nomatch hx
  | @cons l y ls rest hl _ ih =>
    intro x hx
    rcases List.mem_cons.mp hx with e | hx
    · rw [e]
      exact ⟨l, List.mem_cons_self, hl⟩
    · obtain ⟨m, hm, q⟩ := ih x hx
      exact ⟨m, List.mem_cons_of_mem _ hm, q⟩
theorem rw_keys {L : StL} {xs : List (List L2.Key × Addr × Value)} (r : Paired RwL L xs) : xs.map (·.1) = L.map fun l => natsK l.1 := by
  induction r with
  | nil => rfl
  | cons hl _ ih => rw [List.map_cons, List.map_cons, ih, hl.1]
section
variable {X : Cx} {pins : List (Addr × Obj)} {σ : List (Option V)} {H : Hp} {s : Shared}
theorem state_key {b : Addr} {t : List Nat} (I : Inv X pins σ H s) (h : SqT X.K H b (natsV t)) : (tupleKind (mixKind X.prog X.w)).is s.heap (natsK t) b := by
  rw [← natsK_V] at h
  obtain ⟨its, r, ⟨o, h1, h2, n, h3⟩, _⟩ := I.tuple h
  exact ⟨o, its.toArray, n, h1, h2, h3, by simpa using items_are r⟩
theorem dt_raw {D : Addr} {L : StL} (I : Inv X pins σ H s) (e : H D = some (DtO X.prog X.w D L)) (k : KeysT X.K H L) : ∃ xs, Paired RwL L xs ∧ s.heap.DictOfH (tupleKind (mixKind X.prog X.w)) D xs := by
  obtain ⟨⟨xs, r, o, es, ep, h1, h2, h3, h4, h5⟩, _⟩ := (show ObjOk X.prog X.w H s.heap D (DtO X.prog X.w D L) from I.hok _ _ e)
  refine ⟨xs, r, o, es, ep, h1, h2, h3, h4, fun x hx => ?_, h5⟩
  obtain ⟨l, hl, e1, e2, _⟩ := rw_all r x hx
  rw [e1, e2]
  exact state_key I (k l hl)
def DgT (K : PySem.W.Frag) (P : Program) (w : World) (Q : VK) (x y : V) : Hp → Prop := fun H2 => ∃ (D b : Addr) (L : StL) (t : List Nat) (v : V), x = .ref D ∧ y = .ref b ∧ H2 D = some (DtO P w D L) ∧ KeysT K H2 L ∧ SqT K H2 b (natsV t) ∧ lookT L t = some v ∧ Q v H2
def tDgT (K : PySem.W.Frag) (P : Program) (w : World) (td ty : TE) : TE := fun σ H Q => td σ H fun x H1 => ty σ H1 fun y H2 => DgT K P w Q x y H2
theorem pe_dgT {o i : Expr} {pos : Pos} {td ty : TE} (hu : X.A.units + 1 < cLine) (ho : PE X o td) (hi : PE X i ty) (hs : NoSl i) : PE X (.Subscript o i pos) (tDgT X.K X.prog X.w td ty) := by
  refine ⟨fun pn z ν G Q I h => ?_⟩
  refine subD_of PySem.F.slot_dict_getitem.lookup hs (thn (ho.run pn z ν G _ I h) fun u s1 ⟨x, H1, I1, rx, q1⟩ => thn (hi.run pn s1 ν H1 _ I1 q1) fun iv s2 ⟨y, H2, I2, ry, D, b, L, t, v, ex, ey, e, k, sb, lk, q⟩ => ?_)
  subst ex ey
  obtain rfl : u = Value.ref D := rx
  obtain rfl : iv = Value.ref b := ry
  obtain ⟨xs, r, dd⟩ := dt_raw I2 e k
  obtain ⟨p, hp, rp⟩ := rw_look r lk
  refine ⟨dd.typeIs, wpAny_getItem_heap (tupleKind_room_in1 hu) (state_key I2 sb) dd hp ?_⟩
  exact ⟨v, H2, I2.tok _, rp, q⟩
end
theorem k_dgT {X : Cx} {K : PySem.W.Frag} {P : Program} {w : World} {o i : Expr} {pos : Pos} {td ty : TE} (hu : X.A.units + 1 < cLine) (ho : PE X o td) (hi : PE X i ty) (hs : NoSl i) (hK : X.K = K := by rfl) (hP : X.prog = P := by rfl) (hw : X.w = w := by rfl) : PE X (.Subscript o i pos) (tDgT K P w td ty) := by
  subst hK hP hw
  exact pe_dgT hu ho hi hs
theorem i_dgT {K : PySem.W.Frag} {P : Program} {w : World} {td ty : TE} {σ : L2.St} {H : Hp} {Q : VK} (h : td σ H fun x H1 => ty σ H1 fun y H2 => DgT K P w Q x y H2) : tDgT K P w td ty σ H Q := h
theorem i_dgAt {K : PySem.W.Frag} {P : Program} {w : World} {H : Hp} {Q : VK} {D b : Addr} {L : StL} {t : List Nat} {v : V} (e : H D = some (DtO P w D L)) (k : KeysT K H L) (sb : SqT K H b (natsV t)) (lk : lookT L t = some v) (h : Q v H) : DgT K P w Q (.ref D) (.ref b) H :=
  ⟨D, b, L, t, v, rfl, rfl, e, k, sb, lk, h⟩
theorem all_new {κ : Type} [DecidableEq κ] : ∀ (ps acc : List (κ × Addr × Value)), ((acc ++ ps).map (·.1)).Nodup → storedAllH acc ps = acc ++ ps
  | [], acc, _ => (List.append_nil acc).symm
  | p :: ps, acc, n => by
    have hn : atKey acc p.1 = none := by
      unfold atKey
      rw [Option.map_eq_none_iff, List.find?_eq_none]
      intro x hx e
      have e' : x.1 = p.1 := by simpa using e
      rw [List.map_append] at n
      have := (List.nodup_append.mp n).2.2 x.1 (List.mem_map_of_mem hx) p.1 (List.mem_map_of_mem List.mem_cons_self)
      exact this e'
    show storedAllH (storedH acc p.1 p.2.1 p.2.2) ps = _
    rw [storedH_new hn, all_new ps _ (by rw [List.append_assoc]; exact n), List.append_assoc]
    rfl
theorem dt_pairs {X : Cx} {pins : List (Addr × Obj)} {σ : List (Option V)} {H : Hp} {s : Shared} (I : Inv X pins σ H s) {ps : List Addr} {L : StL} (r : Paired (fun p (l : List Nat × Addr × V) => SqT X.K H p [.ref l.2.1, l.2.2] ∧ SqT X.K H l.2.1 (natsV l.1)) ps L) :
    ∃ xs, Paired RwL L xs ∧ Paired (fun (p : Addr) (x : List L2.Key × Addr × Value) => s.heap.IsTuple p #[.ref x.2.1, x.2.2]) ps xs := by
  induction r with
  | nil => exact ⟨[], .nil, .nil⟩
  | @cons p l ps' ls hl _ ih =>
    obtain ⟨xs, r1, r2⟩ := ih
    obtain ⟨its, rv, pt, _⟩ := I.tuple hl.1
    cases rv with
    | @cons a u b us g1 g2 =>
      cases g2 with
      | @cons a u2 b us g3 g4 =>
        cases g4
        obtain rfl : u = Value.ref l.2.1 := g1
        exact ⟨(natsK l.1, l.2.1, u2) :: xs, .cons ⟨rfl, rfl, g3⟩ r1, .cons pt r2⟩
def dIt (k : Nat) (ps : List Str) (rs : List (Str × Str)) (ds : List PyData) (ord : List Str) (t : List Nat) : Nat → List Nat
  | 0 => t
  | n + 1 => dayN k ps rs ds (dIt k ps rs ds ord t n) ord
def storyL (k : Nat) (ps : List Str) (rs : List (Str × Str)) (ds : List PyData) (ord : List Str) (t : List Nat) (n : Nat) : List (List Nat) := (List.range (n + 1)).map (dIt k ps rs ds ord t)
section
variable {k : Nat} {ps : List Str} {rs : List (Str × Str)} {ds : List PyData} {ord : List Str} {t : List Nat}
theorem dIt_len : ∀ n, (dIt k ps rs ds ord t n).length = t.length
  | 0 => rfl
  | n + 1 => (day_len ord _).trans (dIt_len n)
theorem dIt_lt (hH : IsHall k ps rs ds) (ho : ∀ z ∈ ord, z ∈ ps) (h : ∀ x ∈ t, x < k) : ∀ n, ∀ x ∈ dIt k ps rs ds ord t n, x < k
  | 0 => h
  | n + 1 => day_lt hH ord _ ho (dIt_lt hH ho h n)
theorem story_succ (n : Nat) : storyL k ps rs ds ord t (n + 1) = storyL k ps rs ds ord t n ++ [dIt k ps rs ds ord t (n + 1)] := by
  unfold storyL
  rw [List.range_succ, List.map_append]
  rfl
theorem story_len (n : Nat) : (storyL k ps rs ds ord t n).length = n + 1 := by
  unfold storyL
  rw [List.length_map, List.length_range]
end
theorem free_same {H H' : Hp} {b : Addr} (h : Same H H') (n : H' b = none) : H b = none := by
  cases e : H b with
  | none => rfl
  | some o => rw [h _ _ e] at n; cases n
def PairsT (K : PySem.W.Frag) (H : Hp) (Ts : List Addr) (L : StL) : Prop := Paired (fun p (l : List Nat × Addr × V) => SqT K H p [.ref l.2.1, l.2.2] ∧ SqT K H l.2.1 (natsV l.1)) Ts L
theorem PairsT.tk {K : PySem.W.Frag} {H H' : Hp} {Ts : List Addr} {L : StL} (h : PairsT K H Ts L) (k : TK K H H') : PairsT K H' Ts L := by
  unfold PairsT at h ⊢
  induction h with
  | nil => exact .nil
  | cons hh _ ih => exact .cons ⟨k _ _ hh.1, k _ _ hh.2⟩ ih
theorem PairsT.keys {K : PySem.W.Frag} {H : Hp} {Ts : List Addr} {L : StL} (h : PairsT K H Ts L) : KeysT K H L := by
  unfold PairsT at h
  induction h with
  | nil => exact fun l hl => nomatch hl
  | cons hh _ ih =>
    intro l hl
    rcases List.mem_cons.mp hl with e | hl
    · rw [e]; exact hh.2
    · exact ih l hl
theorem KeysT.tk {K : PySem.W.Frag} {H H' : Hp} {L : StL} (h : KeysT K H L) (k : TK K H H') : KeysT K H' L := fun l hl => k _ _ (h l hl)
theorem look_mem {L : StL} {t : List Nat} (h : t ∈ L.map (·.1)) : ∃ l ∈ L, l.1 = t ∧ lookT L t = some l.2.2 := by
  unfold lookT
  cases e : L.find? fun l => decide (l.1 = t) with
  | none =>
    obtain ⟨l, hl, e2⟩ := List.mem_map.mp h
    have := List.find?_eq_none.mp e l hl
    simp [e2] at this
  | some l => exact ⟨l, List.mem_of_find?_eq_some e, by simpa using List.find?_some e, rfl⟩
theorem states_nodup (k n : Nat) : (statesL k n).Nodup := by
  have h : ((statesL k n).map (numN k)).Nodup := by rw [states_num]; exact List.nodup_range
  exact (List.pairwise_map.mp h).imp fun hh e => hh (by rw [e])
theorem dp_take {K : PySem.W.Frag} {H : Hp} : ∀ {vs : List V} {ds : List PyData} (n : Nat), DpAll K H vs ds → DpAll K H (vs.take n) (ds.take n)
  | _, _, 0, _ => .nil
  | _, _, n + 1, .nil => .nil
  | _, _, n + 1, .cons h t => .cons h (dp_take n t)
theorem nats_from {K : PySem.W.Frag} {H : Hp} : ∀ (t : List Nat) (us : List V), DpAll K H us (t.map fun n => PyData.int ((n : Nat) : Int)) → us = natsV t
  | [], _, h => by cases h; rfl
  | n :: t, _, h => by
    cases h with
    | cons a b =>
      cases a
      rw [nats_from t _ b]
      rfl
theorem st_ref {K : PySem.W.Frag} {H : Hp} {v : V} {t : List Nat} (h : Dp K H v (intsD t)) : ∃ b, v = .ref b ∧ SqT K H b (natsV t) := by
  obtain ⟨b, us, rfl, sb, db⟩ := tup_parts (ds := t.map fun n => PyData.int ((n : Nat) : Int)) h
  have := nats_from _ us db
  subst this
  exact ⟨b, rfl, sb⟩
def spNeedCount : Sp := fun vs H Q _ => ∃ (n m : Int), vs = [.int n, .int m] ∧ 0 ≤ n ∧ n ≤ m ∧ ∀ H', Same H H' → Q .non H'
def spTold (K : PySem.W.Frag) : Sp := fun vs H Q _ => ∃ (v : V) (o s : Addr) (n k : Nat) (ps : List Str) (rs : List (Str × Str)) (ds : List PyData) (ord : List Str) (t : List Nat), vs = [v, .ref o, .ref s, .int n] ∧ HF K H v k ps rs ds ∧ IsHall k ps rs ds ∧ SqT K H o (ord.map V.str) ∧ ord.Perm ps ∧ SqT K H s (natsV t) ∧ t.length = ps.length ∧ (∀ x ∈ t, x < k) ∧ n ≤ 500 ∧
  ∀ D H', H D = none → Same H H' → LsD K H' D ((storyL k ps rs ds ord t n).map intsD) → Q (.ref D) H'
end
section
open L2 PySem PySem.Spec PyProof.Rows
theorem i_catG {K : PySem.W.Frag} {H : Hp} {Q : VK} {a b : Addr} {xs ys : List V} (e : SqT K H a xs) (e2 : SqT K H b ys) (z : xs.length + ys.length ≤ sizeLine) (h : ∀ p H', Same H H' → SqT K H' p (xs ++ ys) → Q (.ref p) H') : rCatA K (.ref a) (.ref b) H Q := by
  refine ⟨a, b, xs, ys, rfl, rfl, e, e2, z, fun hx => ?_, fun _ hy => ?_, fun _ _ p np => h p _ (Same.upd_new np) (sq_tup upd_same)⟩
  · subst hx
    exact h b H (Same.refl _) e2
  · subst hy
    exact h a H (Same.refl _) (by rw [List.append_nil]; exact e)
end
section
open L2 PySem PySem.Spec PyProof.Rows
theorem ints_inj {t u : List Nat} (e : intsD t = intsD u) : t = u := by
  unfold intsD at e
  injection e with e
  exact map_int_inj e
theorem map_ints_inj : ∀ {a b : List (List Nat)}, a.map intsD = b.map intsD → a = b
  | [], [], _ => rfl
  | [], _ :: _, e => by cases e
  | _ :: _, [], e => by cases e
  | x :: a, y :: b, e => by
    rw [List.map_cons, List.map_cons] at e
    injection e with e1 e2
    rw [ints_inj e1, map_ints_inj e2]
theorem st_eqd {a b : List (List Nat)} (ha : ∀ s ∈ a, Sm s) (hb : ∀ s ∈ b, Sm s) : PyData.eqv (stD a) (stD b) = decide (a = b) := by
  obtain ⟨_, _, _, _, _, _, a7⟩ := states_data a ha
  obtain ⟨_, _, _, _, _, _, b7⟩ := states_data b hb
  have q := eqv_dec (stD a) (stD b) a7 b7
  by_cases k : a = b
  · subst k
    rw [decide_eq_true rfl, q.mpr rfl]
  · rw [decide_eq_false k]
    cases z : PyData.eqv (stD a) (stD b) with
    | false => rfl
    | true =>
      have := q.mp z
      injection this with e
      exact absurd (map_ints_inj e) k
theorem nats_len (l : List Nat) : (natsV l).length = l.length := List.length_map ..
section
variable {k : Nat} {ps : List Str} {rs : List (Str × Str)} {ds : List PyData} {ord : List Str}
def dayL (k : Nat) (ps : List Str) (rs : List (Str × Str)) (ds : List PyData) (ord : List Str) : List Nat := (List.range (k ^ ps.length)).map (dayIx k ps rs ds ord)
theorem dayL_len : (dayL k ps rs ds ord).length = k ^ ps.length := by unfold dayL; rw [List.length_map, List.length_range]
theorem dayL_at {i : Nat} (h : i < k ^ ps.length) : (dayL k ps rs ds ord)[i]? = some (dayIx k ps rs ds ord i) := by
  unfold dayL
  rw [List.getElem?_map, List.getElem?_range h]
  rfl
theorem dayL_num (hH : IsHall k ps rs ds) (ho : ∀ z ∈ ord, z ∈ ps) {t : List Nat} (hl : t.length = ps.length) (hk : ∀ x ∈ t, x < k) : (dayL k ps rs ds ord)[numN k t]? = some (numN k (dayN k ps rs ds t ord)) := by
  have h := num_lt hk
  rw [hl] at h
  rw [dayL_at h, dayIx_num hH ord t ho hl hk]
end
def spNumsN (K : PySem.W.Frag) : Sp := fun vs H Q _ => ∃ (v : V) (D o M : Addr) (k : Nat) (ps : List Str) (rs : List (Str × Str)) (ds : List PyData) (ord : List Str) (nums : List Nat), vs = [v, .ref D, .ref o, .ref M] ∧ WF K H v ps rs ∧ IsHall k ps rs ds ∧ stepsAt H D (stepRow k ps rs ds) ps.length ∧ SqT K H o (ord.map V.str) ∧ (∀ z ∈ ord, z ∈ ps) ∧ H M = some (.lst (natsV nums)) ∧ (∀ m ∈ nums, m < k ^ ps.length) ∧ nums.length ≤ 256 ∧
  ∀ M' H', (M' = M ∨ H M' = none) → Same H H' → H' M' = some (.lst (natsV (nums.map (dayIx k ps rs ds ord)))) → Q (.ref M') H'
def spDayNumsN (K : PySem.W.Frag) : Sp := fun vs H Q _ => ∃ (v : V) (D o : Addr) (k : Nat) (ps : List Str) (rs : List (Str × Str)) (ds : List PyData) (ord : List Str), vs = [v, .ref D, .ref o] ∧ WF K H v ps rs ∧ IsHall k ps rs ds ∧ stepsAt H D (stepRow k ps rs ds) ps.length ∧ SqT K H o (ord.map V.str) ∧ (∀ z ∈ ord, z ∈ ps) ∧
  ∀ M' H', H M' = none → Same H H' → H' M' = some (.lst (natsV ((List.range (k ^ ps.length)).map (dayIx k ps rs ds ord)))) → Q (.ref M') H'
def spDayListN (K : PySem.W.Frag) : Sp := fun vs H Q _ => ∃ (v : V) (o : Addr) (k : Nat) (ps : List Str) (rs : List (Str × Str)) (ds : List PyData) (ord : List Str), vs = [v, .ref o] ∧ HF K H v k ps rs ds ∧ IsHall k ps rs ds ∧ SqT K H o (ord.map V.str) ∧ (∀ z ∈ ord, z ∈ ps) ∧
  ∀ M' H', H M' = none → Same H H' → H' M' = some (.lst (natsV ((List.range (k ^ ps.length)).map (dayIx k ps rs ds ord)))) → Q (.ref M') H'
section
variable {k : Nat} {ps : List Str} {rs : List (Str × Str)} {ds : List PyData} {ord : List Str}
theorem take_push {α : Type} {l : List α} {i : Nat} {x : α} (h : l[i]? = some x) : l.take (i + 1) = l.take i ++ [x] := by
  rw [List.take_add_one, h]
  rfl
end
end
section
open L2 PySem PySem.Spec PyProof.Rows
def DayV (K : PySem.W.Frag) (H : Hp) (k : Nat) (ps : List Str) (rs : List (Str × Str)) (ds : List PyData) (qs : List Str) (L : StL) : Prop :=
  ∀ t : List Nat, t.length = ps.length → (∀ x ∈ t, x < k) → ∃ b, lookT L t = some (.ref b) ∧ SqT K H b (natsV (dayN k ps rs ds t qs))
theorem DayV.tk {K : PySem.W.Frag} {H H' : Hp} {k : Nat} {ps : List Str} {rs : List (Str × Str)} {ds : List PyData} {qs : List Str} {L : StL} (h : DayV K H k ps rs ds qs L) (t : TK K H H') : DayV K H' k ps rs ds qs L := fun u h1 h2 => by
  obtain ⟨b, e, s⟩ := h u h1 h2
  exact ⟨b, e, t _ _ s⟩
end
section
open L2 PySem PySem.Spec PyProof.Rows
theorem vals_refs {zp : List (Addr × List Int)} : ∀ {its : List Value}, Vals (zp.map fun z => V.ref z.1) its → its = zp.map fun z => Value.ref z.1 := by
  induction zp with
  | nil => intro its h; cases h; rfl
  | cons z r ih =>
    intro its h
    cases h with
    | cons h1 h2 => rw [ih h2]; cases h1; rfl
end
section
open L2 PySem PySem.Spec PyProof.Rows
mutual
def nkOf : PyData → NestedKey
  | .int i => .num i
  | .str x => .text x
  | .tuple ds => .tup (nkAll ds)
  | .none => .none
  | .bool b => .num (if b = true then 1 else 0)
  | .list _ => .none
  | .dict _ => .none
def nkAll : List PyData → List NestedKey
  | [] => []
  | d :: ds => nkOf d :: nkAll ds
end
abbrev DnL := List (NestedKey × Addr × V)
def arrK (l : List (Str × Str)) : NestedKey := nkOf (rsD l)
end
section
open L2 PySem PySem.Spec PyProof.Rows
mutual
inductive Ob (K : PySem.W.Frag) (H : Hp) (a : Addr) : V → PyData → Prop
  | non : Ob K H a .non .none
  | bl (b : Bool) : Ob K H a (.bl b) (.bool b)
  | int (i : Int) : Ob K H a (.int i) (.int i)
  | str (x : Str) : Ob K H a (.str x) (.str x)
  | lst {p : Addr} {xs : List V} {ds : List PyData} : H p = some (.lst xs) → p ≠ a → ObAll K H a xs ds → Ob K H a (.ref p) (.list ds)
  | tup {p : Addr} {xs : List V} {ds : List PyData} : SqT K H p xs → ObAll K H a xs ds → Ob K H a (.ref p) (.tuple ds)
  | dic {p : Addr} : H p = some (.dK []) → p ≠ a → Ob K H a (.ref p) (.dict [])
inductive ObAll (K : PySem.W.Frag) (H : Hp) (a : Addr) : List V → List PyData → Prop
  | nil : ObAll K H a [] []
  | cons {v : V} {vs : List V} {d : PyData} {ds : List PyData} : Ob K H a v d → ObAll K H a vs ds → ObAll K H a (v :: vs) (d :: ds)
end
section
variable {X : Cx} {pins : List (Addr × Obj)} {σ : L2.St} {H : Hp} {s : Shared} {a : Addr}
mutual
theorem Ob.reads (I : Inv X pins σ H s) : ∀ (d : PyData) (v : V) (u : Value), Ob X.K H a v d → RelV v u → ∃ as, Reads s.heap u d as ∧ (∀ kvs, d = .dict kvs → sysModules ∉ as)
  | .none, _, _, h, r => by
    cases h
    cases r
    exact ⟨_, .none, fun _ c => by cases c⟩
  | .bool b, _, _, h, r => by
    cases h
    cases r
    exact ⟨_, .bool b, fun _ c => by cases c⟩
  | .int i, _, _, h, r => by
    cases h
    obtain ⟨t, rfl⟩ := r
    exact ⟨_, .int i t, fun _ c => by cases c⟩
  | .str x, _, _, h, r => by
    cases h
    obtain ⟨t, rfl⟩ := r
    exact ⟨_, .str x t, fun _ c => by cases c⟩
  | .list ds, _, _, h, r => by
    cases h with
    | lst e n al =>
      cases r
      obtain ⟨its, rv, ⟨o, m, ho, hc, _, hd⟩, _⟩ := I.list (sq_lst e)
      obtain ⟨as, hr⟩ := ObAll.reads I ds _ its al rv
      exact ⟨_, .list ho hc hd hr, fun _ c => by cases c⟩
  | .tuple ds, _, _, h, r => by
    cases h with
    | tup s al =>
      cases r
      obtain ⟨its, rv, ⟨o, ho, hc, m, hd⟩, _⟩ := I.tuple s
      obtain ⟨as, hr⟩ := ObAll.reads I ds _ its al rv
      exact ⟨_, .tuple ho hc hd hr, fun _ c => by cases c⟩
  | .dict _, _, _, h, r => by
    cases h with
    | dic e n =>
      cases r
      obtain ⟨hz, hS, vs, rk, o, es, ep, h1, h2, h3, _, h4, _⟩ := (show ObjOk X.prog X.w H s.heap _ (.dK []) from I.hok _ _ e)
      cases rk
      have e0 : es.toList = [] := by
        generalize es.toList = l at h4
        cases l with
        | nil => rfl
        | cons x r => cases h4
      refine ⟨_, .dict (as := []) (bs := []) (kvs := []) h1 h2.1 h3 (by rw [e0]; exact .nil) (by rw [e0]; exact .nil), fun _ _ c => ?_⟩
      simp only [List.append_nil, List.mem_singleton] at c
      rw [← c] at hS
      simp at hS
theorem ObAll.reads (I : Inv X pins σ H s) : ∀ (ds : List PyData) (vs : List V) (us : List Value), ObAll X.K H a vs ds → Vals vs us → ∃ as, ReadsAll s.heap us ds as
  | [], _, _, h, r => by
    cases h
    cases r
    exact ⟨_, .nil⟩
  | d :: ds, _, _, h, r => by
    cases h with
    | cons h1 h2 =>
      cases r with
      | cons r1 r2 =>
        obtain ⟨as, q1, _⟩ := Ob.reads I d _ _ h1 r1
        obtain ⟨bs, q2⟩ := ObAll.reads I ds _ _ h2 r2
        exact ⟨_, .cons q1 q2⟩
end
end
def shO : PyData → Str
  | .none => "None"
  | .bool b => if b then "True" else "False"
  | .int i => toString i
  | .str x => reprText x
  | d => d.shown
structure ShO (d : PyData) : Prop where
  int_ : ∀ i, d = .int i → i.natAbs.log2 < 1920
  str_ : ∀ x, d = .str x → (reprText x).length ≤ sizeLine
  sho : d.showable = true
  dct : d.hasDict = false ∨ d = .dict []
  dep : d.depth ≤ 40
  len : d.shown.length ≤ sizeLine
def rShowO (K : PySem.W.Frag) : List V → Hp → VK → Prop := fun xs H Q => ∃ (x : V) (d : PyData) (a : Addr), xs = [x] ∧ Ob K H a x d ∧ ShO d ∧ Q (.str (shO d)) H
theorem k_showO {X : Cx} {K : PySem.W.Frag} (hg : X.A.guards = some []) (hu : X.A.units + 64 < cLine) (hK : X.K = K := by rfl) : CallR X (.builtin "repr") (rShowO K) := by
  subst hK
  intro pins s σ H xs us Q I r h
  obtain ⟨x, d, a, rfl, hd, hs, q⟩ := h
  match us, r with
  | [u], .cons ru .nil =>
    obtain ⟨as, rd, hno⟩ := Ob.reads I d _ u hd ru
    have hdep := hs.dep
    have hns : d.hasDict = true → sysModules ∉ as := fun z => by
      rcases hs.dct with c | c
      · rw [c] at z; cases z
      · exact hno _ c
    cases hd with
    | non =>
      cases ru
      exact PySem.P.repr_of_none ⟨.str "None", H, I.tok _, ⟨_, rfl⟩, q⟩
    | bl b =>
      cases ru
      exact PySem.P.repr_of_bool ⟨.str _, H, I.tok _, ⟨_, rfl⟩, q⟩
    | int i =>
      obtain ⟨t, rfl⟩ := ru
      exact PySem.P.repr_of_int (hs.int_ i rfl) ⟨.str _, H, I.tok _, ⟨_, rfl⟩, q⟩
    | str z =>
      obtain ⟨t, rfl⟩ := ru
      exact PySem.P.repr_of_str ⟨.str _, H, I.tok _, ⟨_, rfl⟩, q⟩ (hs.str_ z rfl)
    | lst e n al =>
      obtain rfl : u = Value.ref _ := ru
      exact repr_of_reads' rd hs.sho hns hg (by omega) (fun b o e => e) (fun h' t tk k => ⟨.str _, H, I.kept k, ⟨t, rfl⟩, q⟩) hs.len
    | tup e al =>
      obtain rfl : u = Value.ref _ := ru
      exact repr_of_reads' rd hs.sho hns hg (by omega) (fun b o e => e) (fun h' t tk k => ⟨.str _, H, I.kept k, ⟨t, rfl⟩, q⟩) hs.len
    | dic e n =>
      obtain rfl : u = Value.ref _ := ru
      exact repr_of_reads' rd hs.sho hns hg (by omega) (fun b o e => e) (fun h' t tk k => ⟨.str _, H, I.kept k, ⟨t, rfl⟩, q⟩) hs.len
end
section
open L2 PySem PySem.Spec PyProof.Rows
structure Sml (d : PyData) : Prop where
  sho : d.showable = true
  dct : d.hasDict = false
  dep : d.depth ≤ 5
  lea : d.leavesShort 40 = true
  wei : d.weight ≤ 1000
theorem sml_fin : ∀ n : Fin 400, ((PyData.int ((n.1 : Int) - 5)).showable && decide ((PyData.int ((n.1 : Int) - 5)).leavesShort 40 = true) && decide ((PyData.int ((n.1 : Int) - 5)).weight ≤ 10)) = true := by decide +kernel
theorem sml_int {i : Int} (h0 : -5 ≤ i) (h1 : i < 395) : Sml (.int i) ∧ (PyData.int i).weight ≤ 10 := by
  obtain ⟨n, hn⟩ := Int.eq_ofNat_of_zero_le (show 0 ≤ i + 5 by omega)
  have := sml_fin ⟨n, by omega⟩
  have e : ((⟨n, by omega⟩ : Fin 400).1 : Int) - 5 = i := by show (n : Int) - 5 = i; omega
  rw [e, Bool.and_eq_true, Bool.and_eq_true, decide_eq_true_iff, decide_eq_true_iff] at this
  exact ⟨⟨this.1.1, rfl, Nat.zero_le _, this.1.2, by omega⟩, this.2⟩
end
section
open L2 PySem PySem.Spec PyProof.Rows
theorem sh_none : ShO .none := ⟨fun i c => (by cases c), fun x c => (by cases c), rfl, .inl rfl, by decide, by decide +kernel⟩
end
section
open L2 PySem PySem.Spec PyProof.Rows
abbrev ARow := List (Str × Str) × Addr × Nat
def nL (R : List ARow) : DnL := R.map fun r => (arrK r.1, r.2.1, V.int (r.2.2 : Nat))
end
section
open L2 PySem PySem.Spec PyProof.Rows
abbrev dc2 (kx vx t0 i0 : Expr) (fs0 : List Expr) (t1 i1 : Expr) (fs1 : List Expr) (scope : Scope) (pos : Pos) : Expr := .DictComp kx vx [⟨t0, i0, fs0, 0⟩, ⟨t1, i1, fs1, 0⟩] scope pos
end
section
open L2 PySem PySem.Spec PyProof.Rows
theorem ints_eqd {a b : List Nat} (ha : ∀ n ∈ a, n < 300) (hb : ∀ n ∈ b, n < 300) : PyData.eqv (intsD a) (intsD b) = decide (a = b) := by
  obtain ⟨_, _, _, _, _, _, a7⟩ := ints_data a ha
  obtain ⟨_, _, _, _, _, _, b7⟩ := ints_data b hb
  have q := eqv_dec (intsD a) (intsD b) a7 b7
  by_cases k : a = b
  · subst k
    rw [decide_eq_true rfl, q.mpr rfl]
  · rw [decide_eq_false k]
    cases z : PyData.eqv (intsD a) (intsD b) with
    | false => rfl
    | true => exact absurd (ints_inj (q.mp z)) k
end
section
open L2 PySem PySem.Spec PyProof.Rows
section
variable {k n : Nat}
theorem st_of {t : List Nat} (hl : t.length = n) (hk : ∀ x ∈ t, x < k) : (statesL k n).getD (numN k t) [] = t := by
  rw [List.getD_eq_getElem?_getD, st_num hl hk]
  rfl
end
end
section
open L2 PySem PySem.Spec PyProof.Rows
def gS {α : Type} (us ws : List α) : List α := match us with
  | [] => ws
  | _ :: _ => []
end
section
open L2 PySem PySem.Spec PyProof.Rows
abbrev ti (P : Program) (w : World) (k : List Int) : Int := tupleKeyHash (PySem.intKind P w) k
end
section
open L2 PySem PySem.Spec PyProof.Rows
theorem not_sys {X : Cx} {pins : List (Addr × Obj)} {σ : List (Option V)} {H : Hp} {s : Shared} (I : Inv X pins σ H s) : (s.heap.objs.size == sysModules) = false := by
  have b := I.big
  refine beq_eq_false_iff_ne.mpr fun e => ?_
  rw [e] at b
  exact absurd b (Nat.lt_irrefl _)
def rDictT2 (K : PySem.W.Frag) (P : Program) (w : World) : List V → Hp → VK → Prop := fun xs H Q => ∃ (a : Addr) (ps : List Addr) (L : StL), xs = [.ref a] ∧ SqL K H a (ps.map V.ref) ∧ Paired (fun p (l : List Nat × Addr × V) => SqT K H p [.ref l.2.1, l.2.2] ∧ SqT K H l.2.1 (natsV l.1)) ps L ∧ (L.map (·.1)).Nodup ∧ L.length ≤ 1000 ∧
    ∀ D, (D == sysModules) = false → H D = none → Q (.ref D) (upd H D (DtO P w D L))
theorem call_dictT2 {X : Cx} (hu : X.A.units + 64 < cLine) (hcalm : X.calm = true) : CallR X (.type "dict") (rDictT2 X.K X.prog X.w) := by
  intro pins s σ H xs us Q I r h
  obtain ⟨a, ps, L, ex, hq, hp, nd, hl, q⟩ := h
  subst ex
  obtain ⟨u, eu, rx⟩ := vals1 r
  subst eu
  cases rx
  obtain ⟨its, rv, pl, hz⟩ := I.list hq
  have ei := refs_at rv
  subst ei
  obtain ⟨zs, r1, r2⟩ := dt_pairs I hp
  have l1 := r1.length
  have l2 := r2.length
  obtain ⟨o, n, ho, hc, hd, hdat⟩ := pl
  have nk : (zs.map (·.1)).Nodup := by
    rw [rw_keys r1]
    have : (L.map fun l => natsK l.1) = (L.map (·.1)).map natsK := by rw [List.map_map]; rfl
    rw [this]
    exact List.pairwise_map.mpr (nd.imp fun h e => h (natsK_inj e))
  have keys : ∀ x ∈ zs, (tupleKind (mixKind X.prog X.w)).is s.heap x.1 x.2.1 := fun x hx => by
    obtain ⟨l, hlm, e1, e2, _⟩ := rw_all r1 x hx
    rw [e1, e2]
    have : ∀ {ps : List Addr} {L : StL}, Paired (fun p (l : List Nat × Addr × V) => SqT X.K H p [.ref l.2.1, l.2.2] ∧ SqT X.K H l.2.1 (natsV l.1)) ps L → ∀ l ∈ L, SqT X.K H l.2.1 (natsV l.1) := by
      intro ps L r
      induction r with
      | nil => exact fun l hl => nomatch hl
      | cons hh _ ih =>
        intro l hl
        rcases List.mem_cons.mp hl with e | hl
        · rw [e]; exact hh.2
        · exact ih l hl
    exact state_key I (this hp l hlm)
  have at2 : ∀ {ps : List Addr} {zs : List (List L2.Key × Addr × Value)}, Paired (fun (p : Addr) (x : List L2.Key × Addr × Value) => s.heap.IsTuple p #[.ref x.2.1, x.2.2]) ps zs → ∀ (j : Nat) x, zs[j]? = some x → ∃ p, ps[j]? = some p ∧ s.heap.IsTuple p #[.ref x.2.1, x.2.2] := by
    intro ps zs r
    induction r with
    | nil => intro j x hx; simp at hx
    | @cons p x ps' xs' hh _ ih =>
      intro j y hy
      cases j with
      | zero => cases hy; exact ⟨p, rfl, hh⟩
      | succ j => exact ih j y (by simpa using hy)
  refine call_dict_pairsH (knd := tupleKind (mixKind X.prog X.w)) (ps := zs) (PairArg.list a (ps.map Value.ref).toArray (fun j => ps.getD j 0) (zs.map fun x => (Value.ref x.2.1, x.2.2))) (I.ok.hd hcalm) ?_ ⟨⟨o, n, ho, hc, hd, hdat⟩, ?_, ?_⟩ ⟨?_, ?_⟩ (fun h' hk x hx => ?_) ?_ fun h' tk hd' k => ?_
  · show X.A.units + 1 + 1 < cLine
    omega
  · rw [List.size_toArray, List.length_map, List.length_map, l2]
  · intro j ky v hj
    rw [List.getElem?_map] at hj
    cases e : zs[j]? with
    | none => rw [e] at hj; cases hj
    | some x =>
      rw [e] at hj
      cases hj
      obtain ⟨p, h1, h2⟩ := at2 r2 j x e
      have hg : ps.getD j 0 = p := by rw [List.getD_eq_getElem?_getD, h1]; rfl
      refine ⟨?_, ?_⟩
      · show (ps.map Value.ref).toArray[j]? = some (.ref (ps.getD j 0))
        rw [hg, List.getElem?_toArray, List.getElem?_map, h1]
        rfl
      · show PairAt s.heap (ps.getD j 0) _ _
        rw [hg]
        exact .inl h2
  · rw [List.length_map]
  · intro i ky v hj
    have hj : (zs.map fun x => (Value.ref x.2.1, x.2.2))[i]? = some (ky, v) := hj
    rw [List.getElem?_map] at hj
    cases e : zs[i]? with
    | none => rw [e] at hj; cases hj
    | some x =>
      rw [e] at hj
      cases hj
      exact ⟨_, _, rfl, rfl⟩
  · exact tupleKind_stays.stays (fun b o' vs m e1 _ => by
      by_cases hb : b = s.heap.objs.size
      · exact absurd (Heap.lt_size e1) (by rw [hb]; exact Nat.lt_irrefl _)
      · exact hk b o' hb (by simp) e1) (keys x hx)
  · rw [List.length_map, sizeLine_eq]; omega
  · rw [all_new zs [] (by rw [List.nil_append]; exact nk), List.nil_append] at hd'
    obtain ⟨o2, es, ep, g1, g2, g3, g4, _, g5⟩ := hd'
    have sb := I.laid (t' := tk) (a := s.heap.objs.size) (o := DtO X.prog X.w s.heap.objs.size L) (fun b o' e => k b o' (by simp) e) (Nat.le_refl _)
      (show ObjOk X.prog X.w _ _ _ (DtO X.prog X.w s.heap.objs.size L) from ⟨⟨zs, r1, o2, es, ep, g1, g2, g3, g4, g5⟩, ⟨o2, g1⟩, fun h1 h2 ⟨ys, y1, y2, y3, y4, y5, y6⟩ kk => ⟨ys, y1, y2, y3, y4, kk _ y5, y6⟩⟩)
    exact ⟨.ref s.heap.objs.size, _, sb, rfl, q _ (not_sys I) (I.hok.fresh (Nat.le_refl _))⟩
theorem k_dictT2 {X : Cx} {K : PySem.W.Frag} {P : Program} {w : World} (hu : X.A.units + 64 < cLine) (hc : X.calm = true := by rfl) (hK : X.K = K := by rfl) (hP : X.prog = P := by rfl) (hw : X.w = w := by rfl) : CallR X (.type "dict") (rDictT2 K P w) := by
  subst hK hP hw
  exact call_dictT2 hu hc
def rLenD (K : PySem.W.Frag) (P : Program) (w : World) : List V → Hp → VK → Prop := fun xs H Q => ∃ (D : Addr) (L : StL), xs = [.ref D] ∧ (D == sysModules) = false ∧ L.length ≤ 1000 ∧ H D = some (DtO P w D L) ∧ KeysT K H L ∧ Q (.int (L.length : Nat)) H
section
variable {X : Cx} {pins : List (Addr × Obj)} {σ : List (Option V)} {H : Hp} {s : Shared}
theorem call_lenD : CallR X (.builtin "len") (rLenD X.K X.prog X.w) := by
  intro pins s σ H xs us Q I r h
  obtain ⟨p, L, rfl, hd, hl, e, k, q⟩ := h
  obtain ⟨u, rfl, rx⟩ := vals1 r
  obtain rfl : u = .ref p := rx
  obtain ⟨ys, rl, dd⟩ := dt_raw I e k
  have h1 : L.length = ys.length := Paired.length rl
  refine call_len_dictH hd dd (by rw [← h1]; omega) ?_
  rw [← h1]
  exact ⟨.int ((L.length : Nat) : Int), H, I.tok _, ⟨_, rfl⟩, q⟩
end
section
variable {X : Cx} {K : PySem.W.Frag} {P : Program} {w : World}
theorem k_lenD (hK : X.K = K := by rfl) (hP : X.prog = P := by rfl) (hw : X.w = w := by rfl) : CallR X (.builtin "len") (rLenD K P w) := by
  subst hK hP hw
  exact call_lenD
end
end
section
open L2 PySem PySem.Spec PyProof.Rows
section
variable {K : PySem.W.Frag} {H H' : Hp} {k n : Nat} {zs ys : List (Addr × Nat)}
variable {Q : VK} {x y : V} {t u : List Nat}
theorem i_neSt (ht : ∀ n ∈ t, n < 300) (hu : ∀ n ∈ u, n < 300) (dt : Dp K H x (intsD t)) (du : Dp K H y (intsD u)) (q : Q (.bl (!decide (t = u))) H) : rNeD K x y H Q :=
  ⟨_, _, dt, du, ins_shaped ht, ins_shaped hu, by rw [ints_eqd ht hu]; exact q⟩
end
end
section
open L2 PySem PySem.Spec PyProof.Rows
mutual
def okD : PyData → Bool
  | .str z => decide (z.cps.size ≤ 1000) && PyData.strOk z
  | .list ds => okAll ds
  | .tuple ds => okAll ds
  | _ => true
def okAll : List PyData → Bool
  | [] => true
  | d :: ds => okD d && okAll ds
end
structure Nw (m n : Nat) (d : PyData) : Prop where
  sho : d.showable = true
  dct : d.hasDict = false
  dep : d.depth ≤ m
  lea : d.leavesShort 40 = true
  wei : d.weight ≤ n
  ok : okD d = true
theorem nw_int {i : Int} (h0 : -5 ≤ i) (h1 : i < 395) : Nw 0 10 (.int i) :=
  have r := sml_int h0 h1
  ⟨r.1.sho, rfl, Nat.le_refl _, r.1.lea, r.2, rfl⟩
theorem Nw.sh {m n : Nat} {d : PyData} (h : Nw m n d) (hm : m ≤ 40) (hn : n ≤ 390000) : ShO d := by
  have l := PyData.shown_le 40 (by decide) d h.lea
  have hl : d.shown.length ≤ sizeLine := by
    rw [sizeLine_eq]
    have := h.wei
    omega
  refine ⟨fun i e => ?_, fun x e => ?_, h.sho, .inl h.dct, Nat.le_trans h.dep hm, hl⟩
  · have := h.sho
    subst e
    exact of_decide_eq_true this
  · subst e
    exact hl
end
section
open L2 PySem PySem.Spec PyProof.Rows
def stB (k : Nat) : PyData → Bool
  | .int i => decide (0 ≤ i) && decide (i < (k : Int))
  | _ => false
def statesB (k many : Nat) : PyData → Bool
  | .tuple ds => decide (ds.length = many) && ds.all (stB k)
  | _ => false
def sumsB (k n : Nat) : PyData → Bool
  | .tuple ds => decide (ds.length = k) && ds.all (statesB k (n * (k - 1) + 1))
  | _ => false
def mostB : PyData → Bool
  | .int i => decide (0 ≤ i) && decide (i ≤ 9)
  | _ => false
def textB (near : List Str) : PyData → Bool
  | .str z => decide (z ∈ near)
  | _ => false
def worthB (k : Nat) (near : List Str) (s : Str) (w : PyData) : Bool :=
  if s = "table" then statesB k (k ^ (near.length + 1)) w else if s = "sum" then sumsB k near.length w else if s = "most" then mostB w else decide (s = "copy") && textB near w
def bareL : List Str := ["keep", "least", "greatest", "odd"]
def ruleB (k : Nat) (near : List Str) : PyData → Bool
  | .tuple (.str s :: r) => if s ∈ bareL then r.isEmpty else match r with
    | [w] => worthB k near s w
    | _ => false
  | _ => false
theorem is_st {k n : Nat} (h : n < k) : stB k (.int (n : Int)) = true := by
  show (decide ((0 : Int) ≤ (n : Int)) && decide ((n : Int) < (k : Int))) = true
  rw [decide_eq_true (by omega), decide_eq_true (by omega)]
  rfl
theorem is_states {k : Nat} {t : List Nat} (h : ∀ n ∈ t, n < k) : statesB k t.length (intsD t) = true := by
  show (decide ((t.map fun n => PyData.int ((n : Nat) : Int)).length = t.length) && (t.map fun n => PyData.int ((n : Nat) : Int)).all (stB k)) = true
  rw [decide_eq_true (List.length_map ..), Bool.true_and, List.all_eq_true]
  intro d hd
  obtain ⟨n, hn, rfl⟩ := List.mem_map.mp hd
  exact is_st (h n hn)
theorem rule_worth {k : Nat} {near : List Str} {s : Str} {w : PyData} (h : s ∉ bareL) : ruleB k near (.tuple [.str s, w]) = worthB k near s w := by
  show (if s ∈ bareL then [w].isEmpty else worthB k near s w) = _
  rw [if_neg h]
theorem is_rule {k : Nat} {near : List Str} {d : PyData} (h : RuleD k near d) : ruleB k near d = true := by
  cases h with
  | table t hl hk =>
    rw [rule_worth (by decide +kernel)]
    unfold worthB
    rw [if_pos rfl, ← hl]
    exact is_states hk
  | sum ts hl hk =>
    rw [rule_worth (by decide +kernel)]
    unfold worthB
    rw [if_neg (by decide +kernel), if_pos rfl]
    show (decide ((ts.map intsD).length = k) && (ts.map intsD).all (statesB k (near.length * (k - 1) + 1))) = true
    rw [List.length_map, decide_eq_true hl, Bool.true_and, List.all_eq_true]
    intro d hd
    obtain ⟨t, ht, rfl⟩ := List.mem_map.mp hd
    rw [← (hk t ht).1]
    exact is_states (hk t ht).2
  | keep => rfl
  | least => rfl
  | greatest => rfl
  | odd => rfl
  | most n h =>
    rw [rule_worth (by decide +kernel)]
    unfold worthB
    rw [if_neg (by decide +kernel), if_neg (by decide +kernel), if_pos rfl]
    show (decide ((0 : Int) ≤ (n : Int)) && decide ((n : Int) ≤ 9)) = true
    rw [decide_eq_true (by omega), decide_eq_true (by omega)]
    rfl
  | copy z h =>
    rw [rule_worth (by decide +kernel)]
    unfold worthB
    rw [if_neg (by decide +kernel), if_neg (by decide +kernel), if_neg (by decide +kernel)]
    show (decide (("copy" : Str) = "copy") && decide (z ∈ near)) = true
    rw [decide_eq_true rfl, decide_eq_true h]
    rfl
end
section
open L2 PySem PySem.Spec PyProof.Rows
end
section
open L2 PySem PySem.Spec PyProof.Rows
theorem i_neSts {K : PySem.W.Frag} {H : Hp} {Q : VK} {x y : V} {l : List (List Nat)} (dx : Dp K H x (.list (l.map intsD))) (dy : Dp K H y (.list (l.map intsD))) (sm : ∀ s ∈ l, Sm s) (q : Q (.bl false) H) : rNeD K x y H Q :=
  ⟨_, _, dx, dy, st_shaped sm, st_shaped sm, by
    have e := st_eqd sm sm
    rw [decide_eq_true rfl] at e
    have e2 : PyData.eqv (.list (l.map intsD)) (.list (l.map intsD)) = true := e
    rw [e2]
    exact q⟩
end
section
open L2 PySem PySem.Spec PyProof.Rows
def optV : Option Nat → V
  | none => .non
  | some n => .int ((n : Nat) : Int)
end
section
open L2 PySem PySem.Spec PyProof.Rows
section
variable {k : Nat} {ps : List Str} {rs : List (Str × Str)} {ds : List PyData} {qs os : List Str} {t : List Nat}
def SameAt (k : Nat) (ps : List Str) (rs : List (Str × Str)) (ds : List PyData) (qs os : List Str) (t : List Nat) (j : Nat) : Prop := dayN k ps rs ds (dIt k ps rs ds qs t j) qs = dayN k ps rs ds (dIt k ps rs ds qs t j) os
inductive IsUn (k : Nat) (ps : List Str) (rs : List (Str × Str)) (ds : List PyData) (qs os : List Str) (t : List Nat) (m : Nat) : Option Nat → Prop
  | never (h : ∀ j, j < m → SameAt k ps rs ds qs os t j) : IsUn k ps rs ds qs os t m none
  | day (c : Nat) (hc : c < m) (n : ¬ SameAt k ps rs ds qs os t c) (h : ∀ j, j < c → SameAt k ps rs ds qs os t j) : IsUn k ps rs ds qs os t m (some (c + 1))
theorem IsUn.one {m : Nat} {o o' : Option Nat} (h : IsUn k ps rs ds qs os t m o) (h' : IsUn k ps rs ds qs os t m o') : o = o' := by
  cases h with
  | never a =>
    cases h' with
    | never b => rfl
    | day c hc n _ => exact absurd (a c hc) n
  | day c hc n a =>
    cases h' with
    | never b => exact absurd (b c hc) n
    | day d hd n' b =>
      rcases Nat.lt_trichotomy c d with e | e | e
      · exact absurd (b c e) n
      · rw [e]
      · exact absurd (a d e) n'
theorem same_it : ∀ i : Nat, (∀ j, j < i → SameAt k ps rs ds qs os t j) → dIt k ps rs ds os t i = dIt k ps rs ds qs t i
  | 0, _ => rfl
  | i + 1, h => by
    have ih := same_it i fun j hj => h j (by omega)
    show dayN k ps rs ds (dIt k ps rs ds os t i) os = dayN k ps rs ds (dIt k ps rs ds qs t i) qs
    rw [ih]
    exact (h i (Nat.lt_succ_self i)).symm
theorem SameAt.flip {j : Nat} (h : ∀ i, i < j → SameAt k ps rs ds qs os t i) : SameAt k ps rs ds os qs t j ↔ SameAt k ps rs ds qs os t j := by
  unfold SameAt
  rw [same_it j h]
  exact eq_comm
theorem same_flip {m : Nat} (h : ∀ j, j < m → SameAt k ps rs ds qs os t j) : ∀ j, j < m → SameAt k ps rs ds os qs t j := fun j hj => (SameAt.flip fun i hi => h i (by omega)).mpr (h j hj)
theorem IsUn.flip {m : Nat} {o : Option Nat} (h : IsUn k ps rs ds qs os t m o) : IsUn k ps rs ds os qs t m o := by
  cases h with
  | never a => exact .never (same_flip a)
  | day c hc n a => exact .day c hc (fun z => n ((SameAt.flip a).mp z)) (same_flip a)
theorem IsUn.self {m : Nat} : IsUn k ps rs ds qs qs t m none := .never fun _ _ => rfl
theorem IsUn.le {m c : Nat} (h : IsUn k ps rs ds qs os t m (some c)) : 1 ≤ c ∧ c ≤ m ∧ ∀ j, j < c → dIt k ps rs ds os t j = dIt k ps rs ds qs t j := by
  cases h with
  | day c hc n a => exact ⟨by omega, by omega, fun j hj => same_it j fun i hi => a i (by omega)⟩
end
def gR {α : Type} (us ws : List α) : List α := match us with
  | [] => ws.reverse
  | _ :: _ => []
theorem gR_rel : ∀ {vs : List V} {us : List Value} {zs : List V} {ws : List Value}, Vals vs us → Vals zs ws → Vals (gR vs zs) (gR us ws)
  | [], [], _, _, _, h => h.reverse
  | _ :: _, _ :: _, _, _, _, _ => .nil
theorem kbR5 {K : PySem.W.Frag} {fd : FuncData} {ps ks : List Str} (hp : ps.length = 5) (h : ∀ a b c d e : Value, bindArgs fd ⟨[], ks.zip [a, b, c, d, e]⟩ = pure (ps.zip [e, d, c, b, a])) : KBinds K fd ps ks gR gR := by
  refine ⟨fun s us ws _ hl => ?_, gR_rel⟩
  rw [hp] at hl
  rcases us with _ | ⟨u, us⟩
  · have hw : ws.length = 5 := by
      have : ws.reverse.length = 5 := hl
      rwa [List.length_reverse] at this
    rcases ws with _ | ⟨a, _ | ⟨b, _ | ⟨c, _ | ⟨d, _ | ⟨e, _ | ⟨g, ws⟩⟩⟩⟩⟩⟩
    · exact absurd hw (by simp)
    · exact absurd hw (by simp)
    · exact absurd hw (by simp)
    · exact absurd hw (by simp)
    · exact absurd hw (by simp)
    · exact .of_eq (h a b c d e)
    · exact absurd hw (by simp)
  · exact absurd hl (by simp [gR])
structure ClK5 (P : Program) (w : World) (K : PySem.W.Frag) (mg : Str → Option Value) (base : Heap) (k : Nat) (x : Str) (ps ks : List Str) (sp : Sp) : Prop where
  ex : ∃ (f : Addr) (fd : FuncData), FnOk P w K mg base CX0 k f fd ps sp ∧ mg x = some (.ref f) ∧ PySem.W.keepIn K (.ref f) = true ∧ KBinds K fd ps ks gR gR
structure Dk5 (K : PySem.W.Frag) (mg : Str → Option Value) (x : String) (st : Stmt) (ps ks : List Str) : Prop where
  ex : ∃ (f : Addr) (fd : FuncData), Fun K x x st f fd ∧ mg x = some (.ref f) ∧ KBinds K fd ps ks gR gR
section
variable {base : Heap} {P : Program} {w : World} {K : PySem.W.Frag} {mg : Str → Option Value}
theorem Dk5.cl {x : String} {st : Stmt} {N ps ks : List Str} {k : Nat} {sp : Sp} (D : Dk5 K mg x st ps ks) (S : FnScope N ps (defScope st)) (len : ∀ vs H Q E, sp vs H Q E → vs.length = ps.length)
    (bd : ∀ (f : Addr) (cdv : Value) (A : Around) (fr : List Env) (s : Shared) (H : Hp) (vs : List V) (Q : VK) (E : XK), Room k (A.deeper (envOfC x (defScope st) s.heap.objs.size f cdv)) → sp vs H Q E →
      ∃ t, PSs (cxOf CX0 P w K mg base N x (defScope st) f cdv A fr s H E).nox (defBody st) t ∧ t { nx := fun _ H' => Q .non H', rt := Q } (start N vs) H) : ClK5 P w K mg base (k + 1) x ps ks sp := by
  obtain ⟨f, fd, F, hm, b⟩ := D.ex
  exact ⟨f, fd, F.ok S len (bd f), hm, F.kp, b⟩
end
section
variable {X : Cx} {k k' : Nat} {ps ks : List Str} {sp : Sp} {x : Str} {p pos : Pos} {kws : List Keyword} {tk : TA}
def tCallK5 (sp : Sp) (tk : TA) : TE := fun σ H Q => tk σ H fun zs H1 => sp (gR [] zs) H1 Q (fun _ _ _ => False)
theorem pe_ck5 (C : ClK5 X.prog X.w X.K X.mg X.base k x ps ks sp) (hr : Room k' X.A) (hkw : PK X kws tk) (hg : Gl X x := by rfl) (hk : k ≤ k' := by decide) (hall : (backToKw pos (keywordEach kws X.env)).all (·.1.isSome) = true := by rfl) (hks : (backToKw pos (keywordEach kws X.env)).filterMap (·.1) = ks := by rfl)
    (hdb : (x == ("__debug__" : Str)) = false := by decide) (hpl : ((backTo pos (starEach [] X.env)).any (·.1) || (backToKw pos (keywordEach kws X.env)).any (·.1.isNone)) = false := by rfl) : PE X (.Call (.Name x p) [] kws pos) (tCallK5 sp tk) := by
  obtain ⟨f, fd, F, hm, kp, b⟩ := C.ex
  refine ⟨fun pins s σ H Q I h => ?_⟩
  refine wpAny_Call_Name_kw (ld_glob I hg hm ?_ hdb)
  refine PySem.W.callWith_KW0 (h₀ := X.base) I.ok.mod.kin kp hall (thn (hkw.run pos pins s σ H _ I h) fun ws s2 ⟨zs, H2, I2, rz, q2⟩ => ⟨I2.kIn, ?_⟩) hpl
  rw [hks]
  exact run_fnk F (hr.mono hk) b pass0 I2 .nil rz q2
end
theorem i_ck5 {σ : L2.St} {H : Hp} {Q : VK} {sp : Sp} {tk : TA} (h : tk σ H fun zs H1 => sp (gR [] zs) H1 Q (fun _ _ _ => False)) : tCallK5 sp tk σ H Q := h
theorem cut_most {xs : List V} : cutV xs none (some (-1)) = xs.take (xs.length - 1) := by
  unfold cutV
  rw [HT.sIx_none, List.drop_zero, Nat.sub_zero]
  congr 1
  show (if (-1 : Int) < 0 then ((-1 : Int) + (xs.length : Int)).toNat else min (-1 : Int).toNat xs.length) = xs.length - 1
  rw [if_pos (by decide)]
  omega
end
open L2 PySem PySem.Spec PyProof.Rows
local macro_rules | `(tactic| walk_at "jz") => `(tactic| first
  | assumption
  | (rw [sizeLine_eq]; simp only [List.length_map, List.length_append, List.length_cons, List.length_nil, List.length_range, List.length_take, List.length_drop]; omega)
  | (rw [sizeLine_eq]; omega)
  | fail "none")
local macro_rules | `(tactic| walk_at "jc") => `(tactic| first
  | assumption
  | (refine ⟨?_, ?_⟩ <;> omega)
  | (show (0 : Int) < _; omega)
  | (show (0 : Int) < _; decide)
  | (refine ⟨?_, ?_, ?_⟩ <;> decide)
  | (refine ⟨?_, ?_⟩ <;> decide)
  | (left; refine ⟨?_, ?_⟩ <;> omega)
  | (right; refine ⟨?_, ?_⟩ <;> omega)
  | fail "none")
local macro_rules | `(tactic| walk_at "jn") => `(tactic| first
  | assumption
  | (apply Ne.symm; assumption)
  | (refine Fd.ne (H := ?h0) (c := ?c0) ?e0 ?n0; (case n0 => assumption); (case e0 => walk_at "jf"))
  | (apply Ne.symm; refine Fd.ne (H := ?h0) (c := ?c0) ?e0 ?n0; (case n0 => assumption); (case e0 => walk_at "jf"))
  | (refine ne_of_none (H := ?h0) (o := ?o0) ?e0 ?n0; (case n0 => assumption); (case e0 => walk_at "jl"))
  | (apply Ne.symm; refine ne_of_none (H := ?h0) (o := ?o0) ?e0 ?n0; (case n0 => assumption); (case e0 => walk_at "jl"))
  | fail "none")
local macro_rules | `(tactic| walk_at "jl") => `(tactic| first
  | assumption
  | exact upd_same
  | (refine Ch.at (a := ?a0) (H := ?h0) ?c0 ?n0 ?e0; (case c0 => assumption); (case n0 => walk_at "jn"); (case e0 => walk_at "jl"))
  | (refine (upd_ne ?_).trans ?_; (walk_at "jn"); (walk_at "jl"))
  | fail "none")
local macro_rules | `(tactic| walk_at "jq") => `(tactic| first
  | assumption
  | ((with_reducible refine sq_lst ?_); (walk_at "jl"))
  | ((with_reducible refine sq_tup ?_); (walk_at "jl"))
  | ((with_reducible refine Ch.sqA (a := ?a0) (H := ?h0) ?c0 ?n0 ?e0); (case c0 => assumption); (case n0 => walk_at "jn"); (case e0 => walk_at "jq"))
  | ((with_reducible refine Ch.sqL (a := ?a0) (H := ?h0) ?c0 ?n0 ?e0); (case c0 => assumption); (case n0 => walk_at "jn"); (case e0 => walk_at "jq"))
  | ((with_reducible refine Ch.sqT (a := ?a0) (H := ?h0) ?c0 ?n0 ?e0); (case c0 => assumption); (case n0 => walk_at "jn"); (case e0 => walk_at "jq"))
  | ((with_reducible refine sqA_same (H := ?h0) ?c0 ?e0); (case c0 => first | assumption | (refine Same.upd_new ?_; assumption)); (case e0 => walk_at "jq"))
  | ((with_reducible refine SqA.l ?_); (walk_at "jq"))
  | ((with_reducible refine SqA.t ?_); (walk_at "jq"))
  | fail "none")
local macro_rules | `(tactic| walk_at "jf") => `(tactic| first
  | assumption
  | (refine Fd.upd ?_ ?_; (walk_at "jf"); (walk_at "jn"))
  | fail "none")
local macro_rules | `(tactic| walk_at "jh") => `(tactic| first
  | assumption
  | exact Ch.refl _
  | exact Ch.upd_self
  | (refine Ch.upd_l ?_ ?_; (walk_at "jh"); assumption)
  | (refine Ch.upd_a ?_; (walk_at "jh"))
  | (refine Ch.upd_n ?c0 ?c1; (case c1 => assumption); (case c0 => walk_at "jh"))
  | (refine Ch.trans (H1 := ?h1) ?c0 ?c1; (case c1 => assumption); (case c0 => walk_at "jh"))
  | fail "none")
local macro_rules | `(tactic| walk_at "jt") => `(tactic| first
  | assumption
  | exact TK.refl _
  | ((with_reducible refine TK.new' ?c0 ?c1); (case c1 => assumption); (case c0 => walk_at "jt"))
  | ((with_reducible refine TK.lst' (xs := ?xs1) ?c0 ?c1); (case c1 => walk_at "jl"); (case c0 => walk_at "jt"))
  | ((with_reducible refine TK.ch' (H1 := ?h1) (a := ?a1) (c := ?k1) ?c0 ?c1 ?c2); (case c1 => assumption); (case c2 => walk_at "jf"); (case c0 => walk_at "jt"))
  | fail "jt")
local macro_rules | `(tactic| walk_at "js") => `(tactic| with_reducible (first
  | refine i_seq ?_ | refine i_asg ?_ | refine i_gname ?_ | refine i_ifS ?_ | refine i_test ?_ | refine i_tB ?_ | refine i_ret ?_ | refine i_retN ?_ | refine i_drop ?_ | refine i_next ?_
  | refine i_op ?_ | refine i_un ?_ | refine i_c ?_ | refine i_rI0 ?_ | refine i_rU ?_ | refine i_add ?_ | refine i_sub ?_ | refine i_eqI ?_ | refine i_neI ?_ | refine i_eqS ?_ | refine i_neS ?_
  | refine i_bl ?_ | refine i_blQ ?_ | refine i_not ?_ | refine i_and ?_ | refine i_or ?_ | refine i_notV ?_ | refine i_andV ?_ | refine i_orV ?_ | refine i_if ?_ | refine i_chain ?_
  | refine i_gsub ?_ | refine i_cons ?_ | refine i_nil ?_ | refine i_cb ?_ | refine i_call ?_ | refine i_tup ?_ | refine i_lst ?_ | refine i_par ?_ | refine i_par' ?_ | refine i_par3 ?_ | refine i_par3' ?_
  | refine i_sl ?_ | refine i_npart ?_ | refine i_part ?_ | refine i_partI ?_ | refine i_bm ?_ | refine i_for ?_ | refine i_lc ?_ | refine i_yes ?_ | refine i_lrg ?_ | refine i_gcons ?_ | refine i_gnil ?_ | refine i_rng1 ?_ | refine i_rng2 ?_ | refine i_ilist ?_ | refine i_itup ?_
  | refine i_iteT ?_ | refine i_iteF ?_ | refine i_iteNT ?_ | refine i_iteNF ?_
  | fail "js"))
local macro_rules | `(tactic| walk_at "jv") => `(tactic| first
  | walk_at "js"
  | ((with_reducible refine i_var (v := ?v) ?e ?_); (case e => rfl))
  | ((with_reducible refine i_ixL (v := ?v) (xs := ?xs) ?e ?z ?_); (case e => walk_at "jq"); (case z => first | exact at0 | exact at1 | exact at2 | assumption))
  | ((with_reducible refine i_ixT (v := ?v) (xs := ?xs) ?e ?z ?_); (case e => walk_at "jq"); (case z => first | exact at0 | exact at1 | exact at2 | assumption))
  | ((with_reducible refine i_setL (xs := ?xs) (j := ?j) ?e ?z ?_); (case e => walk_at "jl"); (case z => first | rfl | assumption))
  | (with_reducible refine i_ite (fun _ => ?_) (fun _ => ?_))
  | (with_reducible refine i_iteN (fun _ => ?_) (fun _ => ?_))
  | ((with_reducible refine i_rI (i := ?i) (j := ?j) ?c ?_); (case c => walk_at "jc"))
  | (with_reducible refine i_int ?_)
  | (with_reducible refine i_intB ?_)
  | (with_reducible refine i_max ?_)
  | (with_reducible refine i_min ?_)
  | ((with_reducible refine i_tupL (ys := ?ys) ?e ?_); (case e => walk_at "jq"))
  | ((with_reducible refine i_tupT (ys := ?ys) ?e ?_); (case e => walk_at "jq"))
  | ((with_reducible refine i_lstL (ys := ?ys) ?e ?_); (case e => walk_at "jq"))
  | ((with_reducible refine i_lstT (ys := ?ys) ?e ?_); (case e => walk_at "jq"))
  | ((with_reducible refine i_lenL (ys := ?ys) ?e ?_); (case e => walk_at "jq"))
  | ((with_reducible refine i_lenT (ys := ?ys) ?e ?_); (case e => walk_at "jq"))
  | ((with_reducible refine i_all (bs := ?bs) ?e ?_); (case e => walk_at "jq"))
  | ((with_reducible refine i_slL (xs := ?xs) ?e ?_); (case e => walk_at "jq"))
  | ((with_reducible refine i_tyL (xs := ?xs) ?e ?_); (case e => walk_at "jq"))
  | ((with_reducible refine i_app (xs := ?xs) ?e ?z ?_); (case e => walk_at "jl"); (case z => walk_at "jz"))
  | ((with_reducible refine i_ixA (v := ?v) (xs := ?xs) ?e ?z ?_); (case e => walk_at "jq"); (case z => first | exact at0 | exact at1 | exact at2 | assumption))
  | ((with_reducible refine i_lenA (ys := ?ys) ?e ?_); (case e => walk_at "jq"))
  | ((with_reducible refine i_lstA (ys := ?ys) ?e ?_); (case e => walk_at "jq"))
  | ((with_reducible refine i_sum (ns := ?ns) ?e ?_); (case e => walk_at "jq"))
  | ((with_reducible refine i_rgK ?b ?_); (case b => first | assumption | (refine ⟨?_, ?_⟩ <;> omega)))
  | ((with_reducible refine i_rgK2 ?b ?_); (case b => first | assumption | (refine ⟨?_, ?_, ?_, ?_⟩ <;> omega)))
  | ((with_reducible refine i_ilK (xs := ?xs) ?e ?_); (case e => walk_at "jq"))
  | ((with_reducible refine i_itK (xs := ?xs) ?e ?_); (case e => walk_at "jq"))
  | ((with_reducible refine i_gtup (xs := ?xs) ?e ?z ?_); (case e => walk_at "jq"); (case z => rfl))
  | (with_reducible refine is_int _ ?_)
  | (with_reducible refine is_int_bool _ ?_)
  | (with_reducible refine is_str _ ?_)
  | ((with_reducible refine is_tup (xs := ?xs) ?e ?_); (case e => walk_at "jq"))
  | ((with_reducible refine i_wip ?z ?_); (case z => rfl))
  | ((with_reducible refine i_lcE (acc := ?acc) ?e ?z ?_); (case e => walk_at "jl"); (case z => walk_at "jz"))
  | ((with_reducible refine i_inS (ns := ?ns) ?e ?_); (case e => walk_at "jq"))
  | ((with_reducible refine i_al ?z ?_); (case z => first | (show _ ≤ sizeLine; decide) | walk_at "jz"))
  | (with_reducible refine i_nx ?_) | (with_reducible refine i_rt ?_) | (with_reducible refine i_bk ?_) | (with_reducible refine i_ct ?_)
  | fail "none")
section
open L2 PySem PySem.Spec PyProof.Rows
def topS (i : Nat) : Stmt := PySem.Challenge.pw_eachinturn_k19_watched_and_first_unlike.main.body.getD i (.Pass ⟨0, 0, 0, 0⟩)
abbrev s__law_draw : Stmt := topS 63
theorem sc__law_draw : FnScope ["_law_feed_here", "_law_many", "_law_rest", "_law_got", "_law_stir"] ["_law_feed_here", "_law_many"] (defScope s__law_draw) := ⟨rfl, rfl, rfl, by decide +kernel, rfl, by decide +kernel, by decide +kernel⟩
abbrev s__law_feed : Stmt := topS 62
theorem sc__law_feed : FnScope ["_law_script", "_law_k", "_law_cell"] ["_law_script", "_law_k"] (defScope s__law_feed) := ⟨rfl, rfl, rfl, by decide +kernel, rfl, by decide +kernel, by decide +kernel⟩
abbrev s__law_one : Stmt := topS 64
theorem sc__law_one : FnScope ["_law_feed_here", "_law_things"] ["_law_feed_here", "_law_things"] (defScope s__law_one) := ⟨rfl, rfl, rfl, by decide +kernel, rfl, by decide +kernel, by decide +kernel⟩
abbrev s__law_mixed : Stmt := topS 65
theorem sc__law_mixed : FnScope ["_law_feed_here", "_law_things", "_law_pool", "_law_got", "_law_turn"] ["_law_feed_here", "_law_things"] (defScope s__law_mixed) := ⟨rfl, rfl, rfl, by decide +kernel, rfl, by decide +kernel, by decide +kernel⟩
abbrev s__law_names : Stmt := topS 66
theorem sc__law_names : FnScope ["_law_feed_here", "_law_many"] ["_law_feed_here", "_law_many"] (defScope s__law_names) := ⟨rfl, rfl, rfl, by decide +kernel, rfl, by decide +kernel, by decide +kernel⟩
section
variable {base : Heap} {P : Program} {w : World} {K : PySem.W.Frag} {mg : Str → Option Value}
theorem ok_draw (D : Dn K mg "_law_draw" s__law_draw ["_law_feed_here", "_law_many"]) (B : Bn mg) : Cl P w K mg base 1 "_law_draw" ["_law_feed_here", "_law_many"] spDraw := by
  refine D.cl sc__law_draw (fun vs H Q E h => ?_) (fun f cdv A outer s H vs Q E hr h => ?_)
  · obtain ⟨a, m, c, rfl, _⟩ := h
    rfl
  · obtain ⟨a, m, c, rfl, ⟨x, y, n, ha, hx, hy, hy2, hn, hnc⟩, hm0, hm1, hc, q⟩ := h
    refine ⟨_, (pss_cons (ps_if (pt_cmpR op_gt (pe_ix (k_ixL (K := K)) (pv 0) pe_int (fun _ _ => rfl)) pe_int (nomark _)) (pss_cons (ps_set (i := 2) sc__law_draw.nd rfl (by first | exact Or.inl rfl | exact Or.inr rfl) (pe_op op_fdiv (pe_ix (k_ixL (K := K)) (pv 0) pe_int (fun _ _ => rfl)) (pv 1)))
      (pss_cons (ps_set (i := 3) sc__law_draw.nd rfl (by first | exact Or.inl rfl | exact Or.inr rfl) (pe_op op_sub (pe_ix (k_ixL (K := K)) (pv 0) pe_int (fun _ _ => rfl)) (pe_op op_mul (pv 2) (pv 1))))
      (pss_cons (ps_asg (pv 2) (pg_sub (pv 0) pe_int set_list))
      (pss_one (ps_ret (pv 3)))))) pss_nil)
      (pss_cons (ps_asg (pe_op op_add (pe_ix (k_ixL (K := K)) (pv 0) pe_int (fun _ _ => rfl)) pe_int) (pg_sub (pv 0) pe_int set_list))
      (pss_cons (ps_set (i := 4) sc__law_draw.nd rfl (by first | exact Or.inl rfl | exact Or.inr rfl) (pe_op op_add (pe_ix (k_ixL (K := K)) (pv 0) pe_int (fun _ _ => rfl)) (pe_op op_mul pe_int (pe_ix (k_ixL (K := K)) (pv 0) pe_int (fun _ _ => rfl)))))
      (pss_cons (ps_set (i := 4) sc__law_draw.nd rfl (by first | exact Or.inl rfl | exact Or.inr rfl) (pe_op op_mod (pe_callTy (j_int) rfl B.int_ (by decide +kernel) (pa_cons (pe_op op_add (pe_op op_mulW (pe_op op_mulW (pv 4) (pv 4)) (pv 4)) (pe_op op_mul pe_int (pe_ix (k_ixL (K := K)) (pv 0) pe_int (fun _ _ => rfl)))) pa_nil)) (pe_op op_add (pe_op op_pow pe_int pe_int) pe_int)))
      (pss_cons (ps_set (i := 4) sc__law_draw.nd rfl (by first | exact Or.inl rfl | exact Or.inr rfl) (pe_op op_mod (pe_callTy (j_int) rfl B.int_ (by decide +kernel) (pa_cons (pe_op op_add (pe_op op_mulW (pv 4) (pv 4)) pe_int) pa_nil)) (pe_op op_add (pe_op op_pow pe_int pe_int) pe_int)))
      (pss_one (ps_ret (pe_op op_mod (pe_callTy (j_int) rfl B.int_ (by decide +kernel) (pa_cons (pe_op op_fdiv (pv 4) (pe_op op_pow pe_int pe_int)) pa_nil)) (pv 1))))))))), ?_⟩
    repeat' (walk_at "jv")
    · have e1 : 0 ≤ x / m := Int.ediv_nonneg hx (by omega)
      have e2 : x % m = x - x / m * m := by
        rw [Int.emod_def, Int.mul_comm]
      refine q _ _ (by rw [← e2]; exact Int.emod_nonneg _ (by omega)) (by rw [← e2]; exact Int.emod_lt_of_pos _ hm0) ⟨x / m, y, n, upd_same, e1, hy, hy2, hn, by omega⟩ Ch.upd_self
    · obtain ⟨c1, c2⟩ := cube_ok (s := y + 6700417 * (n + 1)) (by omega) (by omega)
      repeat' (walk_at "jv")
      generalize (y + 6700417 * (n + 1)) * (y + 6700417 * (n + 1)) * (y + 6700417 * (n + 1)) + 15485863 * (n + 1) = z at *
      have b1 : 0 ≤ z % (10 ^ Int.toNat 43 + 57) := Int.emod_nonneg _ (by decide)
      have b2 : z % (10 ^ Int.toNat 43 + 57) < 10 ^ Int.toNat 43 + 57 := Int.emod_lt_of_pos _ (by decide)
      rw [show (10 : Int) ^ Int.toNat 43 + 57 = 10 ^ 43 + 57 from rfl] at *
      generalize z % (10 ^ 43 + 57) = u at *
      have c3 : CMulW u u := (cube_ok b1 (Int.lt_trans b2 (by decide))).1
      repeat' (walk_at "jv")
      refine q _ _ (Int.emod_nonneg _ (by omega)) (Int.emod_lt_of_pos _ hm0) ⟨x, y, n + 1, upd_same, hx, hy, hy2, by omega, by omega⟩ Ch.upd_self
theorem ok_one (D : Dn K mg "_law_one" s__law_one ["_law_feed_here", "_law_things"]) (B : Bn mg) (C__law_draw : Cl P w K mg base 1 "_law_draw" ["_law_feed_here", "_law_many"] spDraw) : Cl P w K mg base 2 "_law_one" ["_law_feed_here", "_law_things"] (spOne K) := by
  refine D.cl sc__law_one (fun vs H Q E h => ?_) (fun f cdv A outer s H vs Q E hr h => ?_)
  · obtain ⟨a, p, c, xs, rfl, _⟩ := h
    rfl
  · obtain ⟨a, p, c, xs, rfl, hf, hp, hpa, h0, hz, hc, q⟩ := h
    refine ⟨_, (pss_one (ps_ret (pe_ix ix_any (pv 1) (pe_c C__law_draw hr (pa_cons (pv 0) (pa_cons (pe_callB (k_len (K := K)) rfl B.len_ (by decide +kernel) (pa_cons (pv 1) pa_nil)) pa_nil))) (fun _ _ => rfl)))), ?_⟩
    repeat' (walk_at "jv")
    refine ⟨a, xs.length, c, rfl, hf, by omega, by omega, hc, fun r H1 r0 r1 f1 k1 => ?_⟩
    obtain ⟨k, rfl⟩ := Int.eq_ofNat_of_zero_le r0
    have hk : k < xs.length := by omega
    refine i_ixA (k1.sqA hpa hp) (atI_nat (List.getElem?_eq_getElem hk)) ?_
    repeat' (walk_at "jv")
    exact q _ _ (List.getElem_mem hk) f1 k1
end
end
section
open L2 PySem PySem.Spec PyProof.Rows
section
variable {base : Heap} {P : Program} {w : World} {K : PySem.W.Frag} {mg : Str → Option Value}
theorem ok_mixed (D : Dn K mg "_law_mixed" s__law_mixed ["_law_feed_here", "_law_things"]) (B : Bn mg) (C__law_draw : Cl P w K mg base 1 "_law_draw" ["_law_feed_here", "_law_many"] spDraw) : Cl P w K mg base 2 "_law_mixed" ["_law_feed_here", "_law_things"] (spMixed K) := by
  refine D.cl sc__law_mixed (fun vs H Q E h => ?_) (fun f cdv A outer s H vs Q E hr h => ?_)
  · obtain ⟨a, p, c, xs, rfl, _⟩ := h
    rfl
  · obtain ⟨a, p, c, xs, rfl, hf, hp, hpa, hz, hc, q⟩ := h
    refine ⟨_, (pss_cons (ps_par (i := 2) (j := 3) rfl sc__law_mixed.nd rfl rfl (by decide) rfl rfl (pa_cons (pe_callTy (k_list (K := K)) rfl B.list_ (by decide +kernel) (pa_cons (pv 1) pa_nil)) (pa_cons (pe_lst pa_nil) pa_nil)) (by rfl))
      (pss_cons (ps_for PassesOwn.never rfl (pi_range1 rfl B.range_ (pa_cons (pe_callB (k_len (K := K)) rfl B.len_ (by decide +kernel) (pa_cons (pv 1) pa_nil)) pa_nil)) (pg_name (i := 4) sc__law_mixed.nd rfl (by first | exact Or.inl rfl | exact Or.inr rfl)) (pss_one (ps_expr (pe_bm PySem.F.plainAttrs_list PySem.F.slot_list_append PySem.F.type_list_append mt_append (pv 3) (pa_cons (pe_bm PySem.F.plainAttrs_list PySem.F.slot_list_pop PySem.F.type_list_pop mt_popAt (pv 2) (pa_cons (pe_c C__law_draw hr (pa_cons (pv 0) (pa_cons (pe_callB (k_len (K := K)) rfl B.len_ (by decide +kernel) (pa_cons (pv 2) pa_nil)) pa_nil))) pa_nil)) pa_nil)))))
      (pss_one (ps_ret (pv 3))))), ?_⟩
    repeat' (walk_at "jv")
    intro L nL
    have nLa := hf.ne nL
    repeat' (walk_at "jv")
    intro G nG
    have nGL : G ≠ L := by walk_at "jn"
    have nG0 : H G = none := Ch.free (a := a) (by walk_at "jh") (by walk_at "jn") nG
    have nGa := hf.ne nG0
    repeat' (walk_at "jv")
    refine f_range (fun i σ H' => ∃ y4 pool gs, σ = [some (.ref a), some (.ref p), some (.ref L), some (.ref G), y4] ∧ H' L = some (.lst pool) ∧ H' G = some (.lst gs) ∧ (gs ++ pool).Perm xs ∧ gs.length = i ∧ Fd H' a (c + i) ∧ Ch a H H') ⟨none, xs, [], rfl, ?_, ?_, List.Perm.refl _, rfl, ?_, ?_⟩ (fun i σ H' hi h => ?_) (fun σ H' h => ?_)
    · walk_at "jl"
    · walk_at "jl"
    · exact Fd.mono (c := c) (by walk_at "jf") (by omega)
    · walk_at "jh"
    · obtain ⟨y4, pool, gs, rfl, h1, h2, h3, h4, h5, h6⟩ := h
      have hl := h3.length_eq
      rw [List.length_append] at hl
      repeat' (walk_at "jv")
      refine ⟨a, pool.length, c + i, rfl, h5, by omega, by omega, by omega, fun r H1 r0 r1 f1 k1 => ?_⟩
      obtain ⟨k, rfl⟩ := Int.eq_ofNat_of_zero_le r0
      have hk : k < pool.length := by omega
      repeat' (walk_at "jv")
      refine i_popAt (xs := pool) (by walk_at "jl") (by omega) (List.getElem?_eq_getElem hk) ?_
      repeat' (walk_at "jv")
      refine ⟨_, _, _, rfl, by walk_at "jl", by walk_at "jl", ?_, ?_, ?_, by walk_at "jh"⟩
      · rw [List.append_assoc]
        exact (List.Perm.append_left gs (perm_erase pool k hk)).trans h3
      · rw [List.length_append, h4]
        rfl
      · exact Fd.mono (c := c + i + 1) (by walk_at "jf") (by omega)
    · obtain ⟨y4, pool, gs, rfl, h1, h2, h3, h4, h5, h6⟩ := h
      repeat' (walk_at "jv")
      have hl := h3.length_eq
      rw [List.length_append] at hl
      have e0 : pool = [] := List.eq_nil_of_length_eq_zero (by omega)
      rw [e0, List.append_nil] at h3
      exact q G gs H' h3 nG0 h2 (h5.mono (by omega)) h6
def theNames : List Str := ["a", "b10", "b", "zz", "a1", "q1w2e3r4", "b9", "x", "m0", "road", "k", "a1b"]
theorem the_names : IsNames theNames := ⟨by decide +kernel, by decide +kernel⟩
theorem ok_names (D : Dn K mg "_law_names" s__law_names ["_law_feed_here", "_law_many"]) (B : Bn mg) (C__law_mixed : Cl P w K mg base 2 "_law_mixed" ["_law_feed_here", "_law_things"] (spMixed K)) : Cl P w K mg base 3 "_law_names" ["_law_feed_here", "_law_many"] spNames := by
  refine D.cl sc__law_names (fun vs H Q E h => ?_) (fun f cdv A outer s H vs Q E hr h => ?_)
  · obtain ⟨a, m, c, rfl, _⟩ := h
    rfl
  · obtain ⟨a, m, c, rfl, hf, hm0, hm1, hc, q⟩ := h
    refine ⟨_, (pss_one (ps_ret (pe_slice (k_slL (K := K)) (pe_c C__law_mixed hr (pa_cons (pv 0) (pa_cons (pe_lst (pa_cons pe_str (pa_cons pe_str (pa_cons pe_str (pa_cons pe_str (pa_cons pe_str (pa_cons pe_str (pa_cons pe_str (pa_cons pe_str (pa_cons pe_str (pa_cons pe_str (pa_cons pe_str (pa_cons pe_str pa_nil))))))))))))) pa_nil))) po_none (po_some (pv 1))))), ?_⟩
    repeat' (walk_at "jv")
    intro L nL
    have nLa := hf.ne nL
    repeat' (walk_at "jv")
    refine ⟨a, L, c, theNames.map V.str, rfl, by walk_at "jf", SqA.l (sq_lst upd_same), nLa, by decide, hc, fun G ys H1 pm nG eG f1 k1 => ?_⟩
    repeat' (walk_at "jv")
    intro R nR
    repeat' (walk_at "jv")
    obtain ⟨ns, rfl⟩ : ∃ ns : List Str, ys = ns.map V.str := by
      refine ⟨ys.map fun v => match v with | .str z => z | _ => Str.empty, ?_⟩
      rw [List.map_map]
      conv => lhs; rw [← List.map_id ys]
      refine List.map_congr_left fun v hv => ?_
      have h1 := pm.mem_iff.mp hv
      obtain ⟨z, _, rfl⟩ := List.mem_map.mp h1
      rfl
    have pm2 : ns.Perm theNames := by
      have h2 := pm.map fun v => match v with | .str z => z | _ => Str.empty
      rw [List.map_map, List.map_map] at h2
      have e : ((fun v => match v with | V.str z => z | _ => Str.empty) ∘ V.str) = id := rfl
      rw [e, List.map_id, List.map_id] at h2
      exact h2
    obtain ⟨k, rfl⟩ := Int.eq_ofNat_of_zero_le hm0
    have e1 : cutV (ns.map V.str) none (some (k : Int)) = (ns.take k).map V.str := by
      unfold cutV
      rw [HT.sIx_none, HT.sIx_nat, List.drop_zero, Nat.sub_zero, List.length_map, List.map_take]
      have hl := pm2.length_eq
      rw [Nat.min_eq_left (by rw [hl]; show k ≤ 12; omega)]
    refine q R (ns.take k) _ ((the_names.perm pm2).take k) ?_ ?_ ?_ ?_ ?_
    · have hl := pm2.length_eq
      rw [List.length_take, hl]
      show ((min k 12 : Nat) : Int) = k
      omega
    · have n2 : R ≠ a := by walk_at "jn"
      have n3 : upd H L (.lst (theNames.map V.str)) R = none := k1.free n2 nR
      have n4 : R ≠ L := fun z => by rw [z, upd_same] at n3; cases n3
      rw [upd_ne n4] at n3
      exact n3
    · rw [← e1]
      exact upd_same
    · exact f1.upd (Ne.symm (f1.ne nR))
    · exact ((Ch.upd_new nL).trans k1).trans (Ch.upd_new nR)
end
end
section
open L2 PySem PySem.Spec PyProof.Rows
abbrev s__law_web : Stmt := topS 67
theorem sc__law_web : FnScope ["_law_feed_here", "_law_way", "_law_most", "_law_many", "_law_pairs", "_law_shape", "_law_at", "_law_back", "_law_turn", "_law_one_here", "_law_other", "_law_pair", "_law_names_here", "_law_roads"] ["_law_feed_here", "_law_way", "_law_most"] (defScope s__law_web) := ⟨rfl, rfl, rfl, by decide +kernel, rfl, by decide +kernel, by decide +kernel⟩
section
variable {base : Heap} {P : Program} {w : World} {K : PySem.W.Frag} {mg : Str → Option Value}
theorem ok_web (D : Dn K mg "_law_web" s__law_web ["_law_feed_here", "_law_way", "_law_most"]) (B : Bn mg) (C__law_draw : Cl P w K mg base 1 "_law_draw" ["_law_feed_here", "_law_many"] spDraw)
    (C__law_mixed : Cl P w K mg base 2 "_law_mixed" ["_law_feed_here", "_law_things"] (spMixed K)) (C__law_names : Cl P w K mg base 3 "_law_names" ["_law_feed_here", "_law_many"] spNames) :
    Cl P w K mg base 4 "_law_web" ["_law_feed_here", "_law_way", "_law_most"] (spWebF K) := by
  refine D.cl sc__law_web (fun vs H Q E h => ?_) (fun f cdv A outer s H vs Q E hr h => ?_)
  · obtain ⟨a, way, most, c, rfl, _⟩ := h
    rfl
  · obtain ⟨a, way, most, c, rfl, hf, hm1, hm8, hc, q⟩ := h
    refine ⟨_, (pss_cons (ps_set (i := 3) sc__law_web.nd rfl (by first | exact Or.inl rfl | exact Or.inr rfl) (pe_ifExp (pt_cmpR op_eq (pv 1) pe_str (nomark _)) (pe_callB (j_max rfl) rfl B.max_ (by decide +kernel) (pa_cons pe_int (pa_cons (pe_op op_add pe_int (pe_c C__law_draw hr (pa_cons (pv 0) (pa_cons (pv 2) pa_nil)))) pa_nil))) (pe_op op_add pe_int (pe_c C__law_draw hr (pa_cons (pv 0) (pa_cons (pv 2) pa_nil))))))
      (pss_cons (ps_par (i := 4) (j := 5) rfl sc__law_web.nd rfl rfl (by decide) rfl rfl (pa_cons (pe_lst pa_nil) (pa_cons (pe_c C__law_draw hr (pa_cons (pv 0) (pa_cons pe_int pa_nil))) pa_nil)) (by rfl))
      (pss_cons (ps_for PassesOwn.never rfl (pi_range2 rfl B.range_ (pa_cons pe_int (pa_cons (pv 3) pa_nil))) (pg_name (i := 6) sc__law_web.nd rfl (by first | exact Or.inl rfl | exact Or.inr rfl)) (pss_cons (ps_set (i := 7) sc__law_web.nd rfl (by first | exact Or.inl rfl | exact Or.inr rfl) (pe_ifExp (PW.pt (pw_or (pt_cmpR op_eq (pv 5) pe_int (nomark _)) (pw_or1 (pt_cmpR op_eq (pv 1) pe_str (nomark _))))) (pe_op op_sub (pv 6) pe_int) (pe_ifExp (pt_cmpR op_eq (pv 5) pe_int (nomark _)) pe_int (pe_c C__law_draw hr (pa_cons (pv 0) (pa_cons (pv 6) pa_nil))))))
      (pss_one (ps_if (PW.pt (pw_or (pt_cmpR op_ne (pv 1) pe_str (nomark _)) (pw_or1 (pt_cmpR op_gt (pe_c C__law_draw hr (pa_cons (pv 0) (pa_cons pe_int pa_nil))) pe_int (nomark _))))) (pss_one (ps_expr (pe_bm PySem.F.plainAttrs_list PySem.F.slot_list_append PySem.F.type_list_append mt_append (pv 4) (pa_cons (pe_tup (pa_cons (pv 7) (pa_cons (pv 6) pa_nil))) pa_nil)))) pss_nil))))
      (pss_cons (ps_if (pt_cmpR op_eq (pv 1) pe_str (nomark _)) (pss_one (ps_expr (pe_bm PySem.F.plainAttrs_list PySem.F.slot_list_append PySem.F.type_list_append mt_append (pv 4) (pa_cons (pe_tup (pa_cons pe_int (pa_cons (pe_op op_sub (pv 3) pe_int) pa_nil))) pa_nil)))) pss_nil)
      (pss_cons (ps_for PassesOwn.never rfl (pi_range1 rfl B.range_ (pa_cons (pe_ifExp (PW.pt (pw_and (pt_cmpR (k_inS (K := K)) (pv 1) (pe_tup (pa_cons pe_str (pa_cons pe_str pa_nil))) (by rfl)) (pw_and1 (pt_cmpR op_gt (pv 3) pe_int (nomark _))))) (pe_c C__law_draw hr (pa_cons (pv 0) (pa_cons pe_int pa_nil))) pe_int) pa_nil)) (pg_name (i := 8) sc__law_web.nd rfl (by first | exact Or.inl rfl | exact Or.inr rfl)) (pss_cons (ps_set (i := 9) sc__law_web.nd rfl (by first | exact Or.inl rfl | exact Or.inr rfl) (pe_c C__law_draw hr (pa_cons (pv 0) (pa_cons (pv 3) pa_nil))))
      (pss_cons (ps_set (i := 10) sc__law_web.nd rfl (by first | exact Or.inl rfl | exact Or.inr rfl) (pe_op op_mod (pe_callTy (j_int) rfl B.int_ (by decide +kernel) (pa_cons (pe_op op_add (pe_op op_add (pv 9) pe_int) (pe_c C__law_draw hr (pa_cons (pv 0) (pa_cons (pe_op op_sub (pv 3) pe_int) pa_nil)))) pa_nil)) (pv 3)))
      (pss_cons (ps_set (i := 11) sc__law_web.nd rfl (by first | exact Or.inl rfl | exact Or.inr rfl) (pe_tup (pa_cons (pe_callB (j_min rfl) rfl B.min_ (by decide +kernel) (pa_cons (pv 9) (pa_cons (pv 10) pa_nil))) (pa_cons (pe_callB (j_max rfl) rfl B.max_ (by decide +kernel) (pa_cons (pv 9) (pa_cons (pv 10) pa_nil))) pa_nil))))
      (pss_one (ps_if (pt_cmpR (o_notInQ hr.units) (pv 11) (pv 4) (by rfl)) (pss_one (ps_expr (pe_bm PySem.F.plainAttrs_list PySem.F.slot_list_append PySem.F.type_list_append mt_append (pv 4) (pa_cons (pv 11) pa_nil)))) pss_nil))))))
      (pss_cons (ps_set (i := 12) sc__law_web.nd rfl (by first | exact Or.inl rfl | exact Or.inr rfl) (pe_c C__law_names hr (pa_cons (pv 0) (pa_cons (pv 3) pa_nil))))
      (pss_cons (ps_set (i := 13) sc__law_web.nd rfl (by first | exact Or.inl rfl | exact Or.inr rfl) (pe_lst pa_nil))
      (pss_cons (ps_for PassesOwn.never rfl (kpi_list (K := K) (pe_c C__law_mixed hr (pa_cons (pv 0) (pa_cons (pv 4) pa_nil)))) (kpg_tup (K := K) (n := 2) rfl (pgs_cons (pg_name (i := 9) sc__law_web.nd rfl (by first | exact Or.inl rfl | exact Or.inr rfl)) (pgs_cons (pg_name (i := 10) sc__law_web.nd rfl (by first | exact Or.inl rfl | exact Or.inr rfl)) pgs_nil))) (pss_one (ps_expr (pe_bm PySem.F.plainAttrs_list PySem.F.slot_list_append PySem.F.type_list_append mt_append (pv 13) (pa_cons (pe_ifExp (pt_cmpR op_eq (pe_c C__law_draw hr (pa_cons (pv 0) (pa_cons pe_int pa_nil))) pe_int (nomark _)) (pe_tup (pa_cons (pe_ix (k_ixL (K := K)) (pv 12) (pv 9) (fun _ _ => rfl)) (pa_cons (pe_ix (k_ixL (K := K)) (pv 12) (pv 10) (fun _ _ => rfl)) pa_nil))) (pe_tup (pa_cons (pe_ix (k_ixL (K := K)) (pv 12) (pv 10) (fun _ _ => rfl)) (pa_cons (pe_ix (k_ixL (K := K)) (pv 12) (pv 9) (fun _ _ => rfl)) pa_nil)))) pa_nil)))))
      (pss_one (ps_ret (pe_tup (pa_cons (pe_callTy (k_tupleF (K := K)) rfl B.tuple_ (by decide +kernel) (pa_cons (pe_c C__law_mixed hr (pa_cons (pv 0) (pa_cons (pv 12) pa_nil))) pa_nil)) (pa_cons (pe_callTy (k_tuple (K := K)) rfl B.tuple_ (by decide +kernel) (pa_cons (pv 13) pa_nil)) pa_nil))))))))))))), ?_⟩
    refine i_seq ?_
    refine i_asg ?_
    refine i_cut (fun v H' => ∃ n : Nat, v = .int n ∧ 1 ≤ n ∧ (n : Int) ≤ max 3 most ∧ (way = "ring" → 3 ≤ n) ∧ Fd H' a (c + 1) ∧ Ch a H H') (fun Q1 hQ1 => ?_) ?_
    · repeat' (walk_at "jv")
      · refine ⟨a, most, c, rfl, hf, by omega, by omega, by omega, fun r H1 r0 r1 f1 k1 => ?_⟩
        repeat' (walk_at "jv")
        obtain ⟨k, rfl⟩ := Int.eq_ofNat_of_zero_le r0
        exact hQ1 _ _ ⟨max 3 (1 + k), congrArg V.int (by omega), by omega, by omega, fun _ => by omega, f1, k1⟩
      · rename_i hw
        refine ⟨a, most, c, rfl, hf, by omega, by omega, by omega, fun r H1 r0 r1 f1 k1 => ?_⟩
        repeat' (walk_at "jv")
        obtain ⟨k, rfl⟩ := Int.eq_ofNat_of_zero_le r0
        exact hQ1 _ _ ⟨1 + k, congrArg V.int (by omega), by omega, by omega, fun z => absurd z hw, f1, k1⟩
    rintro v H1 ⟨n, rfl, n1, n3, nr, f1, k1⟩
    repeat' (walk_at "jv")
    intro L nL
    have nLa := f1.ne nL
    have nL0 : H L = none := k1.free nLa nL
    repeat' (walk_at "jv")
    refine ⟨a, 3, c + 1, rfl, by walk_at "jf", by omega, by omega, by omega, fun r H2 r0 r1 f2 k2 => ?_⟩
    have eL : H2 L = some (.lst []) := by walk_at "jl"
    have k20 : Ch a H H2 := by walk_at "jh"
    repeat' (walk_at "jv")
    -- the tree's roads
    let PL := fun (pl : List (Nat × Nat)) (t : Nat) => pl.Nodup ∧ (∀ p ∈ pl, p.1 < p.2 ∧ p.2 ≤ t ∧ (way = "ring" → p.2 = p.1 + 1)) ∧ pl.length ≤ t
    have grow : ∀ (pl : List (Nat × Nat)) (i b : Nat), PL pl i → b ≤ i → (way = "ring" → b = i) → PL (pl ++ [(b, i + 1)]) (i + 1) := by
      rintro pl i b ⟨p1, p2, p3⟩ b1 b2
      refine ⟨List.nodup_append.mpr ⟨p1, by simp, fun x hx y hy => ?_⟩, fun p hp => ?_, ?_⟩
      · rcases List.mem_singleton.mp hy with rfl
        intro z
        have := (p2 x hx).2.1
        rw [z] at this
        simp at this
        omega
      · rcases List.mem_append.mp hp with hp | hp
        · have := p2 p hp
          exact ⟨this.1, by omega, this.2.2⟩
        · rcases List.mem_singleton.mp hp with rfl
          exact ⟨by show b < i + 1; omega, Nat.le_refl _, fun z => by show i + 1 = b + 1; rw [b2 z]⟩
      · rw [List.length_append]
        show pl.length + 1 ≤ i + 1
        omega
    have stay : ∀ (pl : List (Nat × Nat)) (i : Nat), PL pl i → PL pl (i + 1) := by
      rintro pl i ⟨p1, p2, p3⟩
      exact ⟨p1, fun p hp => by have := p2 p hp; exact ⟨this.1, by omega, this.2.2⟩, by omega⟩
    refine f_range (fun i σ H' => ∃ y6 y7 pl, σ = [some (.ref a), some (.str way), some (.int most), some (.int n), some (.ref L), some (.int r), y6, y7, none, none, none, none, none, none] ∧ LsD K H' L (pl.map pairD) ∧ PL pl i ∧ Fd H' a (c + 2 + 2 * i) ∧ Ch a H H')
      ⟨none, none, [], rfl, LsD.nil eL, ⟨List.nodup_nil, fun _ z => absurd z List.not_mem_nil, Nat.le_refl _⟩, by simpa using f2.mono (by omega), k20⟩ (fun i σ H3 hi h => ?_) (fun σ H3 h => ?_)
    · obtain ⟨y6, y7, pl, rfl, l3, hp, f3, k3⟩ := h
      refine i_gname ?_
      refine i_seq ?_
      refine i_asg ?_
      refine i_cut (fun v H' => ∃ b : Nat, v = .int b ∧ b ≤ i ∧ (way = "ring" → b = i) ∧ Fd H' a (c + 2 + 2 * i + 1) ∧ Ch a H3 H') (fun Q1 hQ1 => ?_) ?_
      · repeat' (walk_at "jv")
        · exact hQ1 _ _ ⟨i, congrArg V.int (by omega), Nat.le_refl _, fun _ => rfl, f3.mono (by omega), Ch.refl _⟩
        · exact hQ1 _ _ ⟨i, congrArg V.int (by omega), Nat.le_refl _, fun _ => rfl, f3.mono (by omega), Ch.refl _⟩
        · rename_i hw _
          exact hQ1 _ _ ⟨0, rfl, Nat.zero_le _, fun z => absurd z hw, f3.mono (by omega), Ch.refl _⟩
        · rename_i hw _
          refine ⟨a, _, _, rfl, f3, by omega, by omega, by omega, fun r1 H4 s0 s1 f4 k4 => ?_⟩
          repeat' (walk_at "jv")
          obtain ⟨k, rfl⟩ := Int.eq_ofNat_of_zero_le s0
          exact hQ1 _ _ ⟨k, rfl, by omega, fun z => absurd z hw, f4, k4⟩
      rintro v H4 ⟨b, rfl, b1, b2, f4, k4⟩
      obtain ⟨vs, e4, d4, t4⟩ := l3.ch k4 f3 nLa
      have hlen : vs.length = pl.length := by rw [DpAll.len d4, List.length_map]
      have hpl := hp.2.2
      have e1 : (1 + (i : Int)) = ((i + 1 : Nat) : Int) := by omega
      rw [e1]
      repeat' (walk_at "jv")
      · intro p np
        repeat' (walk_at "jv")
        exact ⟨_, _, pl ++ [(b, i + 1)], rfl, by rw [List.map_append]; exact LsD.push2 e4 d4 t4 np (.int b) (.int (i + 1 : Nat)) rfl rfl, grow pl i b hp b1 b2, Fd.mono (c := c + 2 + 2 * i + 1) (by walk_at "jf") (by omega), by walk_at "jh"⟩
      · refine ⟨a, 5, _, rfl, f4, by omega, by omega, by omega, fun r1 H5 s0 s1 f5 k5 => ?_⟩
        obtain ⟨us, e5, d5, t5⟩ := LsD.ch ⟨vs, e4, d4, t4⟩ k5 f4 nLa
        have hlen5 : us.length = pl.length := by rw [DpAll.len d5, List.length_map]
        repeat' (walk_at "jv")
        · intro p np
          repeat' (walk_at "jv")
          exact ⟨_, _, pl ++ [(b, i + 1)], rfl, by rw [List.map_append]; exact LsD.push2 e5 d5 t5 np (.int b) (.int (i + 1 : Nat)) rfl rfl, grow pl i b hp b1 b2, Fd.mono (c := c + 2 + 2 * i + 1 + 1) (by walk_at "jf") (by omega), by walk_at "jh"⟩
        · exact ⟨_, _, pl, rfl, ⟨us, e5, d5, t5⟩, stay pl i hp, f5.mono (by omega), by walk_at "jh"⟩
    · obtain ⟨y6, y7, pl, rfl, l3, hp, f3, k3⟩ := h
      have hn1 : (((n : Int) - 1).toNat : Int) = n - 1 := by omega
      rw [hn1] at f3
      let PW := fun (pl : List (Nat × Nat)) => pl.Nodup ∧ (∀ p ∈ pl, p.1 < p.2 ∧ p.2 < n)
      refine i_seq ?_
      refine i_cutS (fun σ H' => ∃ ql, σ = [some (.ref a), some (.str way), some (.int most), some (.int n), some (.ref L), some (.int r), y6, y7, none, none, none, none, none, none] ∧ LsD K H' L (ql.map pairD) ∧ PW ql ∧ ql.length ≤ n ∧ Fd H' a (c + 20) ∧ Ch a H H') (fun N hN => ?_) ?_
      · obtain ⟨vs, e3, d3, t3⟩ := l3
        repeat' (walk_at "jv")
        · rename_i hw
          intro p np
          have hlen : vs.length = pl.length := by rw [DpAll.len d3, List.length_map]
          have hpl := hp.2.2
          have hn3 := nr hw
          have e1 : (n : Int) - 1 = ((n - 1 : Nat) : Int) := by omega
          rw [e1]
          repeat' (walk_at "jv")
          refine hN _ _ ⟨pl ++ [(0, n - 1)], rfl, by rw [List.map_append]; exact LsD.push2 e3 d3 t3 np (.int 0) (.int (n - 1 : Nat)) rfl rfl, ⟨?_, ?_⟩, ?_, Fd.mono (c := c + 2 + 2 * (n - 1)) (by walk_at "jf") (by omega), by walk_at "jh"⟩
          · refine List.nodup_append.mpr ⟨hp.1, by simp, fun x hx y hy => ?_⟩
            rcases List.mem_singleton.mp hy with rfl
            intro z
            have h9 := (hp.2.1 x hx).2.2 hw
            rw [z] at h9
            simp at h9
            omega
          · intro p hp'
            rcases List.mem_append.mp hp' with hp' | hp'
            · have := hp.2.1 p hp'
              exact ⟨this.1, by omega⟩
            · rcases List.mem_singleton.mp hp' with rfl
              exact ⟨by show 0 < n - 1; omega, by show n - 1 < n; omega⟩
          · rw [List.length_append]
            show pl.length + 1 ≤ n
            omega
        · exact hN _ _ ⟨pl, rfl, ⟨vs, e3, d3, t3⟩, ⟨hp.1, fun p hp' => ⟨(hp.2.1 p hp').1, by have := (hp.2.1 p hp').2.1; omega⟩⟩, by have := hp.2.2; omega, f3.mono (by omega), k3⟩
      rintro σ H4 ⟨ql, rfl, l4, hq, hq2, f4, k4⟩
      clear hp l3 f3 k3 pl
      refine i_seq ?_
      refine i_for ?_
      refine i_rng1 ?_
      refine i_cons ?_
      refine i_cut (fun v H' => ∃ t : Nat, v = .int t ∧ t ≤ 4 ∧ (0 < t → 2 < n) ∧ Fd H' a (c + 30) ∧ Ch a H H' ∧ LsD K H' L (ql.map pairD)) (fun Q1 hQ1 => ?_) ?_
      · refine i_if ?_
        repeat' (walk_at "js")
        repeat' (walk_at "jv")
        intro p np
        repeat' (walk_at "jv")
        refine i_inS (ns := ["whole", "any"]) (SqA.t (sq_tup upd_same)) ?_
        have l5 : LsD K (upd H4 p (.tup [.str "whole", .str "any"])) L (ql.map pairD) := l4.new np
        repeat' (walk_at "jv")
        · refine ⟨a, 5, c + 20, rfl, by walk_at "jf", by omega, by omega, by omega, fun r1 H5 s0 s1 f5 k5 => ?_⟩
          repeat' (walk_at "jv")
          obtain ⟨k, rfl⟩ := Int.eq_ofNat_of_zero_le s0
          exact hQ1 _ _ ⟨k, rfl, by omega, fun _ => by omega, f5.mono (by omega), by walk_at "jh", l5.ch (c := c + 20) k5 (by walk_at "jf") nLa⟩
        · exact hQ1 _ _ ⟨0, rfl, by omega, fun z => absurd z (Nat.lt_irrefl 0), Fd.mono (c := c + 20) (by walk_at "jf") (by omega), by walk_at "jh", l5⟩
        · exact hQ1 _ _ ⟨0, rfl, by omega, fun z => absurd z (Nat.lt_irrefl 0), Fd.mono (c := c + 20) (by walk_at "jf") (by omega), by walk_at "jh", l5⟩
      rintro v H5 ⟨t, rfl, t4, tn, f5, k5, l5⟩
      repeat' (walk_at "jv")
      refine f_range (fun i σ H' => ∃ y8 y9 y10 y11 pl, σ = [some (.ref a), some (.str way), some (.int most), some (.int n), some (.ref L), some (.int r), y6, y7, y8, y9, y10, y11, none, none] ∧ LsD K H' L (pl.map pairD) ∧ PW pl ∧ pl.length ≤ n + i ∧ Fd H' a (c + 30 + 2 * i) ∧ Ch a H H')
        ⟨none, none, none, none, ql, rfl, l5, hq, hq2, f5.mono (by omega), k5⟩ (fun i σ H6 hi h => ?_) (fun σ H6 h => ?_)
      · obtain ⟨y8, y9, y10, y11, pl, rfl, l6, hp, hp2, f6, k6⟩ := h
        have hn2 := tn (by omega)
        repeat' (walk_at "jv")
        refine ⟨a, n, _, rfl, f6, by omega, by omega, by omega, fun x H7 s0 s1 f7 k7 => ?_⟩
        repeat' (walk_at "jv")
        refine ⟨a, (n : Int) - 1, _, rfl, f7, by omega, by omega, by omega, fun y H8 u0 u1 f8 k8 => ?_⟩
        obtain ⟨x, rfl⟩ := Int.eq_ofNat_of_zero_le s0
        obtain ⟨y, rfl⟩ := Int.eq_ofNat_of_zero_le u0
        repeat' (walk_at "jv")
        have eo : ∃ o : Nat, ((x : Int) + 1 + y) % n = o ∧ o < n ∧ o ≠ x := by
          by_cases hz : x + 1 + y < n
          · exact ⟨x + 1 + y, by rw [Int.emod_eq_of_lt (by omega) (by omega)]; omega, hz, by omega⟩
          · refine ⟨x + 1 + y - n, ?_, by omega, by omega⟩
            rw [← Int.sub_emod_right, Int.emod_eq_of_lt (by omega) (by omega)]
            omega
        obtain ⟨o, eo, o1, o2⟩ := eo
        rw [eo]
        repeat' (walk_at "jv")
        intro p np
        obtain ⟨vs, e8, d8, t8⟩ := ((l6.ch k7 f6 nLa).ch k8 f7 nLa).new (o := .tup [.int (min (x : Int) o), .int (max (x : Int) o)]) np
        have hlen : vs.length = pl.length := by rw [DpAll.len d8, List.length_map]
        have em : (min (x : Int) o) = ((min x o : Nat) : Int) := by omega
        have eM : (max (x : Int) o) = ((max x o : Nat) : Int) := by omega
        have dp : Dp K (upd H8 p (.tup [.int (min (x : Int) o), .int (max (x : Int) o)])) (.ref p) (pairD (min x o, max x o)) := by
          rw [em, eM]
          exact .tup (xs := [.int ((min x o : Nat) : Int), .int ((max x o : Nat) : Int)]) (.inl (.inl upd_same)) (.cons (.int _) (.cons (.int _) .nil))
        repeat' (walk_at "jv")
        refine ⟨pairD (min x o, max x o), pl.map pairD, dp, .inl (.lst (sq_lst e8) d8), rfl, pairs_lay pl, by show 0 + 1 ≤ 60; decide, ?_⟩
        rw [if_pos rfl, pairs_any]
        repeat' (walk_at "jv")
        · rename_i hin
          refine ⟨_, _, _, _, pl ++ [(min x o, max x o)], rfl, by rw [List.map_append]; exact LsD.push e8 d8 t8 dp rfl, ⟨?_, ?_⟩, by rw [List.length_append]; show pl.length + 1 ≤ _; omega, Fd.mono (c := c + 30 + 2 * i + 1 + 1) (by walk_at "jf") (by omega), by walk_at "jh"⟩
          · refine List.nodup_append.mpr ⟨hp.1, by simp, fun z hz w hw => ?_⟩
            rcases List.mem_singleton.mp hw with rfl
            intro e
            rw [e] at hz
            exact hin hz
          · intro q hq'
            rcases List.mem_append.mp hq' with hq' | hq'
            · exact hp.2 q hq'
            · rcases List.mem_singleton.mp hq' with rfl
              exact ⟨by show min x o < max x o; omega, by show max x o < n; omega⟩
        · exact ⟨_, _, _, _, pl, rfl, ⟨vs, e8, d8, t8⟩, hp, by omega, Fd.mono (c := c + 30 + 2 * i + 1 + 1) (by walk_at "jf") (by omega), by walk_at "jh"⟩
      · obtain ⟨y8, y9, y10, y11, pl, rfl, l6, hp, hp2, f6, k6⟩ := h
        repeat' (walk_at "jv")
        have nt : (((t : Int).toNat : Nat) : Int) = t := by omega
        rw [nt] at f6
        refine ⟨a, n, _, rfl, f6, by omega, by omega, by omega, fun G ns H7 hns hl nG eG f7 k7 => ?_⟩
        have nGa := f6.ne nG
        have l7 := l6.ch k7 f6 nLa
        have nG0 : H G = none := k6.free nGa nG
        have k70 : Ch a H H7 := k6.trans k7
        repeat' (walk_at "jv")
        intro R nR
        have nRa : R ≠ a := f7.ne nR
        have nR0 : H R = none := k70.free nRa nR
        have nRG : R ≠ G := (ne_of_none eG nR).symm
        have nRL : R ≠ L := by
          obtain ⟨vs, e, _⟩ := l7
          exact (ne_of_none e nR).symm
        obtain ⟨vs, e8, d8, t8⟩ := l7.new (o := .lst []) nR
        have hlen : vs.length = pl.length := by rw [DpAll.len d8, List.length_map]
        repeat' (walk_at "jv")
        refine ⟨a, L, c + 30 + 2 * t + 1000, vs, rfl, by walk_at "jf", SqA.l (sq_lst e8), nLa, by omega, by omega, fun q9 ys H9 pm n9 e9 f9 k9 => ?_⟩
        obtain ⟨es, pe, dy⟩ := DpAll.perm pm d8
        obtain ⟨pl', pp, rfl⟩ := perm_map_inv pe rfl
        have n9a : q9 ≠ a := by walk_at "jn"
        have n9R : q9 ≠ R := by walk_at "jn"
        have dy9 : DpAll K H9 ys (pl'.map pairD) := DpAll.tk (TK.ch (c := c + 30 + 2 * t + 1000) k9 (by walk_at "jf")) _ _ (pairs_only pl') dy
        have eR9 : H9 R = some (.lst []) := by walk_at "jl"
        have eG9 : H9 G = some (.lst (ns.map V.str)) := by walk_at "jl"
        have k90 : Ch a H H9 := by walk_at "jh"
        have n90 : H q9 = none := Ch.free (a := a) (H := H) (H' := upd H7 R (.lst [])) (by walk_at "jh") n9a n9
        have hpl' : pl'.length = pl.length := pp.length_eq
        have hys : ys.length = pl'.length := by rw [DpAll.len dy9, List.length_map]
        have ltn : ∀ p ∈ pl', p.1 < p.2 ∧ p.2 < n := fun p hp' => hp.2 p (pp.mem_iff.mp hp')
        repeat' (walk_at "jv")
        refine f_list ys (fun i σ H' => ∃ y9 y10 rs, σ = [some (.ref a), some (.str way), some (.int most), some (.int n), some (.ref L), some (.int r), y6, y7, y8, y9, y10, y11, some (.ref G), some (.ref R)] ∧ H' q9 = some (.lst ys) ∧ DpAll K H' ys (pl'.map pairD) ∧ H' G = some (.lst (ns.map V.str)) ∧
            LsD K H' R (rs.map roadD) ∧ rs.length = i ∧ (∀ (k : Nat) p x, pl'[k]? = some p → rs[k]? = some x → RoadOf ns p x) ∧ Fd H' a (c + 3000 + 2 * i) ∧ Ch a H H')
          ⟨_, _, [], rfl, e9, dy9, eG9, LsD.nil eR9, rfl, fun k p x _ z => by simp at z, f9.mono (by omega), k90⟩ (fun i σ H' _ h => ?_) (fun i x σ H' hx h => ?_) (fun σ H' h => ?_)
        · obtain ⟨_, _, _, _, h1, _⟩ := h
          exact sq_lst h1
        · obtain ⟨y9, y10, rs, rfl, h1, h2, h3, h4, h5, h6, h7, h8⟩ := h
          obtain ⟨d, hd, dx⟩ := DpAll.get h2 hx
          have hi : i < ys.length := (List.getElem?_eq_some_iff.mp hx).1
          have hip : i < pl'.length := by omega
          rw [List.getElem?_map, List.getElem?_eq_getElem hip] at hd
          have hd' : pairD pl'[i] = d := Option.some.inj hd
          subst hd'
          obtain ⟨p1, p2⟩ := ltn pl'[i] (List.getElem_mem hip)
          have ats : ∀ k, k < n → ∃ z, ns[k]? = some z ∧ atI (ns.map V.str) (k : Int) = some (.str z) := fun k hk => by
            have hk' : k < ns.length := by omega
            exact ⟨ns[k], List.getElem?_eq_getElem hk', atI_nat (by rw [List.getElem?_map, List.getElem?_eq_getElem hk']; rfl)⟩
          obtain ⟨z1, a1, b1⟩ := ats pl'[i].1 (by omega)
          obtain ⟨z2, a2, b2⟩ := ats pl'[i].2 (by omega)
          cases dx with
          | tup hs ha =>
            rename_i b xs
            cases ha with
            | cons g1 g2 =>
              cases g1
              cases g2 with
              | cons g3 g4 =>
                cases g3
                cases g4
                refine ⟨b, _, rfl, hs, rfl, _, _, rfl, ?_⟩
                refine i_gname ?_
                refine ⟨_, _, rfl, ?_⟩
                refine i_gname ?_
                refine ⟨rfl, ?_⟩
                refine i_drop ?_
                refine i_bm ?_
                refine i_var rfl ?_
                obtain ⟨ws, ew, dw, tw⟩ := h4
                have hws : ws.length = rs.length := by rw [DpAll.len dw, List.length_map]
                refine i_tyL (sq_lst ew) ?_
                refine i_cons ?_
                have push : ∀ (H5 : Hp) (p : Addr) (x : Str × Str), RoadOf ns pl'[i] x → H5 p = none → Ch a H' H5 → Fd H5 a (c + 3000 + 2 * i + 1) →
                    ∃ (y9 y10 : Option V) (rs : List (Str × Str)), ([some (.ref a), some (.str way), some (.int most), some (.int n), some (.ref L), some (.int r), y6, y7, y8, some (.int pl'[i].1), some (.int pl'[i].2), y11, some (.ref G), some (.ref R)] : L2.St) = [some (.ref a), some (.str way), some (.int most), some (.int n), some (.ref L), some (.int r), y6, y7, y8, y9, y10, y11, some (.ref G), some (.ref R)] ∧
                      (upd (upd H5 p (.tup [.str x.1, .str x.2])) R (.lst (ws ++ [.ref p]))) q9 = some (.lst ys) ∧ DpAll K (upd (upd H5 p (.tup [.str x.1, .str x.2])) R (.lst (ws ++ [.ref p]))) ys (pl'.map pairD) ∧ (upd (upd H5 p (.tup [.str x.1, .str x.2])) R (.lst (ws ++ [.ref p]))) G = some (.lst (ns.map V.str)) ∧
                      LsD K (upd (upd H5 p (.tup [.str x.1, .str x.2])) R (.lst (ws ++ [.ref p]))) R (rs.map roadD) ∧ rs.length = i + 1 ∧ (∀ (k : Nat) p x, pl'[k]? = some p → rs[k]? = some x → RoadOf ns p x) ∧ Fd (upd (upd H5 p (.tup [.str x.1, .str x.2])) R (.lst (ws ++ [.ref p]))) a (c + 3000 + 2 * (i + 1 : Nat)) ∧ Ch a H (upd (upd H5 p (.tup [.str x.1, .str x.2])) R (.lst (ws ++ [.ref p]))) := by
                  intro H5 p x rx np k5 f5
                  have e5R : H5 R = some (.lst ws) := k5 R _ nRa ew
                  have e59 : H5 q9 = some (.lst ys) := k5 q9 _ n9a h1
                  have e5G : H5 G = some (.lst (ns.map V.str)) := k5 G _ nGa h3
                  have t5 : TK K H' H5 := TK.ch k5 h7
                  have d5w := DpAll.tk t5 _ _ tw dw
                  have npR : R ≠ p := ne_of_none e5R np
                  have np9 : q9 ≠ p := ne_of_none e59 np
                  have npG : G ≠ p := ne_of_none e5G np
                  refine ⟨_, _, rs ++ [x], rfl, ?_, ?_, ?_, by rw [List.map_append]; exact LsD.push2 e5R d5w tw np (.str x.1) (.str x.2) rfl rfl, by rw [List.length_append, h5]; rfl, ?_, ?_, ?_⟩
                  · rw [upd_ne n9R, upd_ne np9]
                    exact e59
                  · exact DpAll.tk ((t5.trans (TK.new np)).trans (TK.lst (xs := ws) (by rw [upd_ne npR]; exact e5R))) _ _ (pairs_only pl') h2
                  · rw [upd_ne nRG.symm, upd_ne npG]
                    exact e5G
                  · intro k p' x' hp' hx'
                    by_cases hk : k < rs.length
                    · rw [List.getElem?_append_left hk] at hx'
                      exact h6 k p' x' hp' hx'
                    · rw [List.getElem?_append_right (by omega)] at hx'
                      have hk0 : k - rs.length = 0 := by
                        cases z : k - rs.length with
                        | zero => rfl
                        | succ m => rw [z] at hx'; simp at hx'
                      rw [hk0] at hx'
                      have hxx : x = x' := by simpa using hx'
                      subst hxx
                      have hki : k = i := by omega
                      subst hki
                      rw [List.getElem?_eq_getElem hip] at hp'
                      have := Option.some.inj hp'
                      subst this
                      exact rx
                  · have := ((f5.upd (q := p) (o := .tup [.str x.1, .str x.2]) (Ne.symm (f5.ne np))).upd (q := R) (o := .lst (ws ++ [.ref p])) (Ne.symm nRa)).mono (d := c + 3000 + 2 * (i + 1 : Nat)) (by omega)
                    exact this
                  · exact ((h8.trans k5).upd_n np).upd_l nR0
                refine i_if ?_
                repeat' (walk_at "js")
                repeat' (walk_at "jv")
                refine ⟨a, 2, _, rfl, h7, by omega, by omega, by omega, fun rr H5 s0 s1 f5 k5 => ?_⟩
                have e5R : H5 R = some (.lst ws) := k5 R _ nRa ew
                have e5G : H5 G = some (.lst (ns.map V.str)) := k5 G _ nGa h3
                repeat' (walk_at "jv")
                · intro p np
                  have npR : R ≠ p := ne_of_none e5R np
                  repeat' (walk_at "jv")
                  exact push H5 p (z1, z2) (.inl ⟨a1, a2⟩) np k5 f5
                · intro p np
                  have npR : R ≠ p := ne_of_none e5R np
                  repeat' (walk_at "jv")
                  exact push H5 p (z2, z1) (.inr ⟨a1, a2⟩) np k5 f5
        · obtain ⟨y9, y10, rs, rfl, h1, h2, h3, h4, h5, h6, h7, h8⟩ := h
          repeat' (walk_at "jv")
          refine ⟨a, G, _, ns.map V.str, rfl, h7, SqA.l (sq_lst h3), nGa, by rw [List.length_map]; omega, by omega, fun W zs HA pz nW eW fA kA => ?_⟩
          obtain ⟨ws, ew, dw, tw⟩ := h4.ch kA h7 nRa
          have hwl : ws.length = rs.length := by rw [DpAll.len dw, List.length_map]
          have kA0 : Ch a H HA := h8.trans kA
          obtain ⟨es, pe2, dz⟩ := DpAll.perm pz (DpAll.strs (K := K) (H := HA) ns)
          obtain ⟨ps, pps, rfl⟩ := perm_map_inv pe2 rfl
          have ez := DpAll.strs_inv dz
          subst ez
          repeat' (walk_at "jv")
          refine ⟨W, ps.map V.str, rfl, sq_lst eW, fun T1 ob nT1 okb => ?_⟩
          repeat' (walk_at "jv")
          intro T2 nT2
          refine i_nil ?_
          refine i_al (by show 2 ≤ sizeLine; decide) ?_
          intro T3 nT3
          have c1 : TK K HA (upd HA T1 (.frz ob (.tup (ps.map V.str)))) := TK.new nT1
          have c2 : TK K (upd HA T1 (.frz ob (.tup (ps.map V.str)))) (upd (upd HA T1 (.frz ob (.tup (ps.map V.str)))) T2 (.tup ws)) := TK.new nT2
          have c3 : TK K (upd (upd HA T1 (.frz ob (.tup (ps.map V.str)))) T2 (.tup ws)) (upd (upd (upd HA T1 (.frz ob (.tup (ps.map V.str)))) T2 (.tup ws)) T3 (.tup [.ref T1, .ref T2])) := TK.new nT3
          have fT1 : FT (upd HA T1 (.frz ob (.tup (ps.map V.str)))) T1 (ps.map V.str) := FT.new okb
          refine q _ ps rs _ (web_of hns pps (by omega) (by omega) (pp.nodup_iff.mpr hp.1) (fun p hp' => (ltn p hp').1) (by omega) (by omega) h6) (by rw [pps.length_eq]; omega) ?_ ?_ ?_
          · refine ⟨T3, T1, T2, rfl, .inl (.inl upd_same), (fT1.same (Same.upd_new nT2)).same (Same.upd_new nT3), ?_⟩
            exact Dp.tk c3 _ _ (roads_only rs) (.tup (xs := ws) (.inl (.inl upd_same)) (DpAll.tk (c1.trans c2) _ _ tw dw))
          · have g1 := fA.upd (q := T1) (o := .frz ob (.tup (ps.map V.str))) (Ne.symm (fA.ne nT1))
            have g2 := g1.upd (q := T2) (o := .tup ws) (Ne.symm (g1.ne nT2))
            exact (g2.upd (Ne.symm (g2.ne nT3))).mono (by omega)
          · exact ((kA0.upd_n nT1).upd_n nT2).upd_n nT3
end
end
section
open L2 PySem PySem.Spec PyProof.Rows
abbrev s__law_neighbours : Stmt := topS 68
theorem sc__law_neighbours : FnScope ["_law_web_here", "_law_place", "_law_got", "_law_other"] ["_law_web_here", "_law_place"] (defScope s__law_neighbours) := ⟨rfl, rfl, rfl, by decide +kernel, rfl, by decide +kernel, by decide +kernel⟩
section
variable {base : Heap} {P : Program} {w : World} {K : PySem.W.Frag} {mg : Str → Option Value}
theorem ok_near (D : Dn K mg "_law_neighbours" s__law_neighbours ["_law_web_here", "_law_place"]) (B : Bn mg) : Cl P w K mg base 1 "_law_neighbours" ["_law_web_here", "_law_place"] (spNear K) := by
  refine D.cl sc__law_neighbours (fun vs H Q E h => ?_) (fun f cdv A outer s H vs Q E hr h => ?_)
  · obtain ⟨v, x, ps, rs, rfl, _⟩ := h
    rfl
  · obtain ⟨v, x, ps, rs, rfl, hd, hW, hx, q⟩ := h
    obtain ⟨t, tp, tr, xs, rfl, s1, s2, s3, d3, dr, dpl⟩ := web_parts hd
    refine ⟨_, (pss_cons (ps_set (i := 2) sc__law_neighbours.nd rfl (by first | exact Or.inl rfl | exact Or.inr rfl) (pe_lst pa_nil))
      (pss_cons (ps_for PassesOwn.never rfl (kpi_tup (K := K) (pe_ix ix_tup (pv 0) pe_int (fun _ _ => rfl))) (pg_name (i := 3) sc__law_neighbours.nd rfl (by first | exact Or.inl rfl | exact Or.inr rfl)) (pss_one (ps_if (PW.pt (pw_or (pt_cmpR (o_inQ hr.units) (pe_tup (pa_cons (pv 1) (pa_cons (pv 3) pa_nil))) (pe_ix ix_tup (pv 0) pe_int (fun _ _ => rfl)) (by rfl)) (pw_or1 (pt_cmpR (o_inQ hr.units) (pe_tup (pa_cons (pv 3) (pa_cons (pv 1) pa_nil))) (pe_ix ix_tup (pv 0) pe_int (fun _ _ => rfl)) (by rfl))))) (pss_one (ps_expr (pe_bm PySem.F.plainAttrs_list PySem.F.slot_list_append PySem.F.type_list_append mt_append (pv 2) (pa_cons (pv 3) pa_nil)))) pss_nil)))
      (pss_one (ps_ret (pv 2))))), ?_⟩
    repeat' (walk_at "jv")
    intro L nL
    have sm : Same H (upd H L (.lst [])) := Same.upd_new nL
    have s1' := TK.same (K := K) sm _ _ s1
    have s2' := TK.same (K := K) sm _ _ s2
    repeat' (walk_at "jv")
    refine f_tup (ps.map V.str) (fun i σ H' => ∃ y3, σ = [some (.ref t), some (.str x), some (.ref L), y3] ∧ Same H H' ∧ H' L = some (.lst (((ps.take i).filter fun y => isRoad rs x y).map V.str))) ⟨none, rfl, sm, upd_same⟩ (fun i σ H' _ h => ?_) (fun i y σ H' hy h => ?_) (fun σ H' h => ?_)
    · obtain ⟨_, _, k, _⟩ := h
      exact TK.same k _ _ s2
    · obtain ⟨y3, rfl, k, e⟩ := h
      have hi : i < ps.length := by
        have := (List.getElem?_eq_some_iff.mp hy).1
        rwa [List.length_map] at this
      rw [List.getElem?_map, List.getElem?_eq_getElem hi] at hy
      obtain rfl : V.str ps[i] = y := Option.some.inj hy
      have hmem : ps[i] ∈ ps := List.getElem_mem hi
      have s1k := TK.same (K := K) k _ _ s1
      have drk := Dp.same (K := K) k _ _ dr
      have h8 := hW.le8
      have hl : (((ps.take i).filter fun y => isRoad rs x y).map V.str).length < sizeLine := by
        rw [List.length_map, sizeLine_eq]
        have := List.length_filter_le (fun y => isRoad rs x y) (ps.take i)
        rw [List.length_take] at this
        omega
      have et : ((ps.take (i + 1)).filter fun y => isRoad rs x y) = ((ps.take i).filter fun y => isRoad rs x y) ++ (if isRoad rs x ps[i] = true then [ps[i]] else []) := by
        rw [List.take_add_one, List.getElem?_eq_getElem hi, List.filter_append]
        show _ ++ List.filter (fun y => isRoad rs x y) [ps[i]] = _
        by_cases h : isRoad rs x ps[i] = true
        · simp [h]
        · simp [h]
      repeat' (walk_at "jv")
      intro p np
      have npL : L ≠ p := ne_of_none e np
      have sp := Same.upd_new (o := .tup [.str x, .str ps[i]]) np
      have s1p := TK.same (K := K) sp _ _ s1k
      repeat' (walk_at "jv")
      refine ⟨roadD (x, ps[i]), rs.map roadD, .tup (xs := [.str x, .str ps[i]]) (.inl (.inl upd_same)) (.cons (.str _) (.cons (.str _) .nil)), .inr (Dp.same sp _ _ drk), road_lay (hW.names.2 _ hx) (hW.names.2 _ hmem), roads_lay hW, by show 0 + 1 ≤ 60; decide, ?_⟩
      rw [if_neg (by decide), roads_any]
      repeat' (walk_at "jv")
      · rename_i h1
        have er : isRoad rs x ps[i] = true := by simp [isRoad, h1]
        rw [if_pos er] at et
        refine ⟨_, rfl, fun b o z => ?_, ?_⟩
        · have := sp _ _ (k _ _ z)
          rw [upd_ne (fun w => by rw [w, nL] at z; cases z)]
          exact this
        · rw [upd_same, et, List.map_append]
          rfl
      · rename_i h1
        intro p2 np2
        have npL2 : L ≠ p2 := ne_of_none ((upd_ne npL).trans e) np2
        have sp2 := Same.upd_new (o := .tup [.str ps[i], .str x]) np2
        have s1q := TK.same (K := K) sp2 _ _ s1p
        repeat' (walk_at "jv")
        refine ⟨roadD (ps[i], x), rs.map roadD, .tup (xs := [.str ps[i], .str x]) (.inl (.inl upd_same)) (.cons (.str _) (.cons (.str _) .nil)), .inr (Dp.same sp2 _ _ (Dp.same sp _ _ drk)), road_lay (hW.names.2 _ hmem) (hW.names.2 _ hx), roads_lay hW, by show 0 + 1 ≤ 60; decide, ?_⟩
        rw [if_neg (by decide), roads_any]
        have e2 : (upd (upd H' p (.tup [.str x, .str ps[i]])) p2 (.tup [.str ps[i], .str x])) L = some (.lst (((ps.take i).filter fun y => isRoad rs x y).map V.str)) := (upd_ne npL2).trans ((upd_ne npL).trans e)
        repeat' (walk_at "jv")
        · rename_i h2
          have er : isRoad rs x ps[i] = true := by simp [isRoad, h2]
          rw [if_pos er] at et
          refine ⟨_, rfl, fun b o z => ?_, ?_⟩
          · have := sp2 _ _ (sp _ _ (k _ _ z))
            rw [upd_ne (fun w => by rw [w, nL] at z; cases z)]
            exact this
          · rw [upd_same, et, List.map_append]
            rfl
        · rename_i h2
          have er : ¬ isRoad rs x ps[i] = true := by simp [isRoad, h1, h2]
          rw [if_neg er, List.append_nil] at et
          refine ⟨_, rfl, fun b o z => sp2 _ _ (sp _ _ (k _ _ z)), ?_⟩
          rw [et]
          exact e2
    · obtain ⟨y3, rfl, k, e⟩ := h
      repeat' (walk_at "jv")
      rw [List.length_map, List.take_length] at e
      exact q L H' nL k e
end
end
section
open L2 PySem PySem.Spec PyProof.Rows
abbrev s__law_rule : Stmt := topS 69
theorem sc__law_rule : FnScope ["_law_feed_here", "_law_k", "_law_others", "_law_sort", "_law_way", "_law_many", "_law_other", "_law_turn", "_law_rows", "_law_cells", "_law_own", "_law_row"] ["_law_feed_here", "_law_k", "_law_others", "_law_sort"] (defScope s__law_rule) := ⟨rfl, rfl, rfl, by decide +kernel, rfl, by decide +kernel, by decide +kernel⟩
section
variable {base : Heap} {P : Program} {w : World} {K : PySem.W.Frag} {mg : Str → Option Value}
theorem ok_rule (D : Dn K mg "_law_rule" s__law_rule ["_law_feed_here", "_law_k", "_law_others", "_law_sort"]) (B : Bn mg) (C__law_draw : Cl P w K mg base 1 "_law_draw" ["_law_feed_here", "_law_many"] spDraw)
    (C__law_mixed : Cl P w K mg base 2 "_law_mixed" ["_law_feed_here", "_law_things"] (spMixed K)) (C__law_one : Cl P w K mg base 2 "_law_one" ["_law_feed_here", "_law_things"] (spOne K)) :
    Cl P w K mg base 4 "_law_rule" ["_law_feed_here", "_law_k", "_law_others", "_law_sort"] (spRule K) := by
  refine D.cl sc__law_rule (fun vs H Q E h => ?_) (fun f cdv A outer s H vs Q E hr h => ?_)
  · obtain ⟨a, p, k, near, sort, c, rfl, _⟩ := h
    rfl
  · obtain ⟨a, p, k, near, sort, c, rfl, hf, hk, hp, hpa, hn7, hnm, hc, q⟩ := h
    refine ⟨_, (pss_cons (ps_if (pt_cmpR op_eq (pv 3) pe_str (nomark _)) (pss_one (ps_ret (pe_tup (pa_cons pe_str (pa_cons (pe_ifExp (pt_cmpR op_eq (pe_c C__law_draw hr (pa_cons (pv 0) (pa_cons pe_int pa_nil))) pe_int (nomark _)) (pe_c C__law_draw hr (pa_cons (pv 0) (pa_cons (pe_op op_add (pe_callB (k_len (K := K)) rfl B.len_ (by decide +kernel) (pa_cons (pv 2) pa_nil)) pe_int) pa_nil))) (pe_c C__law_draw hr (pa_cons (pv 0) (pa_cons pe_int pa_nil)))) pa_nil))))) pss_nil)
      (pss_cons (ps_if (pt_cmpR op_eq (pv 3) pe_str (nomark _)) (pss_cons (ps_set (i := 4) sc__law_rule.nd rfl (by first | exact Or.inl rfl | exact Or.inr rfl) (pe_c C__law_draw hr (pa_cons (pv 0) (pa_cons pe_int pa_nil))))
      (pss_one (ps_ret (pe_ifExp (pt_cmpR op_eq (pv 4) pe_int (nomark _)) (pe_tup (pa_cons pe_str pa_nil)) (pe_ifExp (PW.pt (pw_and (pt_cmpR op_eq (pv 4) pe_int (nomark _)) (pw_and1 (pt_cmpR (k_neD (K := K) hr.units) (pv 2) (pe_lst pa_nil) (nomark _))))) (pe_tup (pa_cons pe_str (pa_cons (pe_c C__law_one hr (pa_cons (pv 0) (pa_cons (pv 2) pa_nil))) pa_nil))) (pe_tup (pa_cons pe_str pa_nil))))))) pss_nil)
      (pss_cons (ps_set (i := 5) sc__law_rule.nd rfl (by first | exact Or.inl rfl | exact Or.inr rfl) pe_int)
      (pss_cons (ps_for PassesOwn.never rfl (kpi_list (K := K) (pv 2)) (pg_name (i := 6) sc__law_rule.nd rfl (by first | exact Or.inl rfl | exact Or.inr rfl)) (pss_one (ps_set (i := 5) sc__law_rule.nd rfl (by first | exact Or.inl rfl | exact Or.inr rfl) (pe_op op_mul (pv 5) (pv 1)))))
      (pss_cons (ps_if (pt_cmpR op_eq (pv 3) pe_str (nomark _)) (pss_cons (ps_set (i := 4) sc__law_rule.nd rfl (by first | exact Or.inl rfl | exact Or.inr rfl) (pe_c C__law_draw hr (pa_cons (pv 0) (pa_cons pe_int pa_nil))))
      (pss_cons (ps_if (pt_cmpR op_lt (pv 4) pe_int (nomark _)) (pss_one (ps_ret (pe_ix (k_ixL (K := K)) (pe_lst (pa_cons (pe_tup (pa_cons pe_str pa_nil)) (pa_cons (pe_tup (pa_cons pe_str pa_nil)) (pa_cons (pe_ifExp (pt_cmpR (k_eqD (K := K) hr.units) (pv 2) (pe_lst pa_nil) (nomark _)) (pe_tup (pa_cons pe_str pa_nil)) (pe_tup (pa_cons pe_str pa_nil))) pa_nil)))) (pv 4) (fun _ _ => rfl)))) pss_nil)
      (pss_cons (ps_if (pt_cmpR op_eq (pv 4) pe_int (nomark _)) (pss_cons (ps_set (i := 8) sc__law_rule.nd rfl (by first | exact Or.inl rfl | exact Or.inr rfl) (pe_lc (own := [("_law_turn", 7)]) rfl sc__law_rule.nd (pi_range1 rfl B.range_ (pa_cons (pe_op op_add (pe_op op_mul (pe_callB (k_len (K := K)) rfl B.len_ (by decide +kernel) (pa_cons (pv 2) pa_nil)) (pe_op op_sub (pv 1) pe_int)) pe_int) pa_nil)) (blkOk_by (N := ["_law_feed_here", "_law_k", "_law_others", "_law_sort", "_law_way", "_law_many", "_law_other", "_law_turn", "_law_rows", "_law_cells", "_law_own", "_law_row"]) (sc := defScope s__law_rule) (by decide +kernel)) (fun _ _ _ _ _ => (pg_name (i := 7) sc__law_rule.nd rfl (by first | exact Or.inl rfl | exact Or.inr rfl))) (fun _ _ _ _ _ => pts_nil) (fun _ _ _ _ _ => (pe_c C__law_mixed hr (pa_cons (pv 0) (pa_cons (pe_listRg rfl rfl B.list_ (prg_1 rfl B.range_ (pv 1))) pa_nil))))))
      (pss_one (ps_ret (pe_tup (pa_cons pe_str (pa_cons (pe_callTy (k_tuple (K := K)) rfl B.tuple_ (by decide +kernel) (pa_cons (pe_lc (own := [("_law_own", 10)]) rfl sc__law_rule.nd (pi_range1 rfl B.range_ (pa_cons (pv 1) pa_nil)) (blkOk_by (N := ["_law_feed_here", "_law_k", "_law_others", "_law_sort", "_law_way", "_law_many", "_law_other", "_law_turn", "_law_rows", "_law_cells", "_law_own", "_law_row"]) (sc := defScope s__law_rule) (by decide +kernel)) (fun _ _ _ _ _ => (pg_name (i := 10) sc__law_rule.nd rfl (by first | exact Or.inl rfl | exact Or.inr rfl))) (fun _ _ _ _ _ => pts_nil) (fun _ _ _ _ _ => (pe_callTy (k_tuple (K := K)) rfl B.tuple_ (by decide +kernel) (pa_cons (pe_lc (own := [("_law_row", 11)]) rfl sc__law_rule.nd (kpi_list (K := K) (pv 8)) (blkOk_by (by rfl)) (fun _ _ _ _ _ => (pg_name (i := 11) sc__law_rule.nd rfl (by first | exact Or.inl rfl | exact Or.inr rfl))) (fun _ _ _ _ _ => pts_nil) (fun _ _ _ _ _ => (pe_ix (k_ixL (K := K)) (pv 11) (pv 10) (fun _ _ => rfl)))) pa_nil)))) pa_nil)) pa_nil)))))) pss_nil)
      (pss_cons (ps_set (i := 9) sc__law_rule.nd rfl (by first | exact Or.inl rfl | exact Or.inr rfl) (pe_lst pa_nil))
      (pss_cons (ps_for PassesOwn.never rfl (pi_range1 rfl B.range_ (pa_cons (pv 5) pa_nil)) (pg_name (i := 7) sc__law_rule.nd rfl (by first | exact Or.inl rfl | exact Or.inr rfl)) (pss_one (ps_expr (pe_bm PySem.F.plainAttrs_list PySem.F.slot_list_extend PySem.F.type_list_extend mt_extend (pv 9) (pa_cons (pe_c C__law_mixed hr (pa_cons (pv 0) (pa_cons (pe_listRg rfl rfl B.list_ (prg_1 rfl B.range_ (pv 1))) pa_nil))) pa_nil)))))
      (pss_one (ps_ret (pe_tup (pa_cons pe_str (pa_cons (pe_callTy (k_tuple (K := K)) rfl B.tuple_ (by decide +kernel) (pa_cons (pv 9) pa_nil)) pa_nil)))))))))) pss_nil)
      (pss_cons (ps_set (i := 4) sc__law_rule.nd rfl (by first | exact Or.inl rfl | exact Or.inr rfl) (pe_c C__law_draw hr (pa_cons (pv 0) (pa_cons pe_int pa_nil))))
      (pss_cons (ps_if (pt_cmpR op_lt (pv 4) pe_int (nomark _)) (pss_one (ps_ret (pe_tup (pa_cons pe_str (pa_cons (pe_callTy (k_tuple (K := K)) rfl B.tuple_ (by decide +kernel) (pa_cons (pe_lc (own := [("_law_turn", 7)]) rfl sc__law_rule.nd (pi_range1 rfl B.range_ (pa_cons (pe_op op_mul (pv 5) (pv 1)) pa_nil)) (blkOk_by (N := ["_law_feed_here", "_law_k", "_law_others", "_law_sort", "_law_way", "_law_many", "_law_other", "_law_turn", "_law_rows", "_law_cells", "_law_own", "_law_row"]) (sc := defScope s__law_rule) (by decide +kernel)) (fun _ _ _ _ _ => (pg_name (i := 7) sc__law_rule.nd rfl (by first | exact Or.inl rfl | exact Or.inr rfl))) (fun _ _ _ _ _ => pts_nil) (fun _ _ _ _ _ => (pe_c C__law_draw hr (pa_cons (pv 0) (pa_cons (pv 1) pa_nil))))) pa_nil)) pa_nil))))) pss_nil)
      (pss_cons (ps_if (pt_cmpR op_eq (pv 4) pe_int (nomark _)) (pss_one (ps_ret (pe_tup (pa_cons pe_str (pa_cons (pe_callTy (k_tuple (K := K)) rfl B.tuple_ (by decide +kernel) (pa_cons (pe_lc (own := [("_law_own", 10)]) rfl sc__law_rule.nd (pi_range1 rfl B.range_ (pa_cons (pv 1) pa_nil)) (blkOk_by (N := ["_law_feed_here", "_law_k", "_law_others", "_law_sort", "_law_way", "_law_many", "_law_other", "_law_turn", "_law_rows", "_law_cells", "_law_own", "_law_row"]) (sc := defScope s__law_rule) (by decide +kernel)) (fun _ _ _ _ _ => (pg_name (i := 10) sc__law_rule.nd rfl (by first | exact Or.inl rfl | exact Or.inr rfl))) (fun _ _ _ _ _ => pts_nil) (fun _ _ _ _ _ => (pe_callTy (k_tuple (K := K)) rfl B.tuple_ (by decide +kernel) (pa_cons (pe_lc (own := [("_law_turn", 7)]) rfl sc__law_rule.nd (pi_range1 rfl B.range_ (pa_cons (pe_op op_add (pe_op op_mul (pe_callB (k_len (K := K)) rfl B.len_ (by decide +kernel) (pa_cons (pv 2) pa_nil)) (pe_op op_sub (pv 1) pe_int)) pe_int) pa_nil)) (blkOk_by (by rfl)) (fun _ _ _ _ _ => (pg_name (i := 7) sc__law_rule.nd rfl (by first | exact Or.inl rfl | exact Or.inr rfl))) (fun _ _ _ _ _ => pts_nil) (fun _ _ _ _ _ => (pe_c C__law_draw hr (pa_cons (pv 0) (pa_cons (pv 1) pa_nil))))) pa_nil)))) pa_nil)) pa_nil))))) pss_nil)
      (pss_cons (ps_if (PW.pt (pw_and (pt_cmpR op_eq (pv 4) pe_int (nomark _)) (pw_and1 (pt_cmpR (k_neD (K := K) hr.units) (pv 2) (pe_lst pa_nil) (nomark _))))) (pss_one (ps_ret (pe_tup (pa_cons pe_str (pa_cons (pe_c C__law_one hr (pa_cons (pv 0) (pa_cons (pv 2) pa_nil))) pa_nil))))) pss_nil)
      (pss_one (ps_ret (pe_ix (k_ixL (K := K)) (pe_lst (pa_cons (pe_tup (pa_cons pe_str pa_nil)) (pa_cons (pe_tup (pa_cons pe_str pa_nil)) (pa_cons (pe_tup (pa_cons pe_str pa_nil)) (pa_cons (pe_tup (pa_cons pe_str pa_nil)) (pa_cons (pe_tup (pa_cons pe_str (pa_cons (pe_c C__law_draw hr (pa_cons (pv 0) (pa_cons pe_int pa_nil))) pa_nil))) (pa_cons (pe_tup (pa_cons pe_str pa_nil)) pa_nil))))))) (pe_op op_sub (pv 4) pe_int) (fun _ _ => rfl))))))))))))), ?_⟩
    have hk3 : k ≤ 3 := by omega
    have hk2 : 2 ≤ k := by omega
    have tup1 : ∀ (H' : Hp) (t : Addr) (s1 : Str), RuleD k near (.tuple [.str s1]) → Fd H' a (c + 1000) → Ch a H H' → H' t = none → Q (.ref t) (upd H' t (.tup [.str s1])) := fun H' t s1 hR f1 k1 nt =>
      q _ _ _ hR (.tup (xs := [.str s1]) (.inl (.inl upd_same)) (.cons (.str _) .nil)) ((f1.upd (Ne.symm (f1.ne nt))).mono (by omega)) (k1.upd_n nt)
    have tupM : ∀ (H' : Hp) (t : Addr) (m : Int), 0 ≤ m → m ≤ 9 → Fd H' a (c + 1000) → Ch a H H' → H' t = none → Q (.ref t) (upd H' t (.tup [.str "most", .int m])) := fun H' t m m0 m9 f1 k1 nt => by
      obtain ⟨m, rfl⟩ := Int.eq_ofNat_of_zero_le m0
      exact q _ _ _ (.most m (by omega)) (.tup (xs := [.str "most", .int m]) (.inl (.inl upd_same)) (.cons (.str _) (.cons (.int _) .nil))) ((f1.upd (Ne.symm (f1.ne nt))).mono (by omega)) (k1.upd_n nt)
    have tupC : ∀ (H' : Hp) (t : Addr) (z : Str), z ∈ near → Fd H' a (c + 1000) → Ch a H H' → H' t = none → Q (.ref t) (upd H' t (.tup [.str "copy", .str z])) := fun H' t z hz f1 k1 nt =>
      q _ _ _ (.copy z hz) (.tup (xs := [.str "copy", .str z]) (.inl (.inl upd_same)) (.cons (.str _) (.cons (.str _) .nil))) ((f1.upd (Ne.symm (f1.ne nt))).mono (by omega)) (k1.upd_n nt)
    refine i_seq ?_
    refine i_ifS ?_
    repeat' (walk_at "js")
    repeat' (walk_at "jv")
    · -- quiet
      refine ⟨a, 2, c, rfl, hf, by omega, by omega, by omega, fun r1 H1 r10 r11 f1 k1 => ?_⟩
      repeat' (walk_at "jv")
      · refine ⟨a, _, c + 1, rfl, f1, by omega, by rw [List.length_map]; omega, by omega, fun r2 H2 r20 r21 f2 k2 => ?_⟩
        rw [List.length_map] at r21
        repeat' (walk_at "jv")
        intro t nt
        exact tupM H2 t r2 r20 (by omega) (f2.mono (by omega)) (k1.trans k2) nt
      · refine ⟨a, 10, c + 1, rfl, f1, by omega, by omega, by omega, fun r2 H2 r20 r21 f2 k2 => ?_⟩
        repeat' (walk_at "jv")
        intro t nt
        exact tupM H2 t r2 r20 (by omega) (f2.mono (by omega)) (k1.trans k2) nt
    · -- adding
      refine ⟨a, 4, c, rfl, hf, by omega, by omega, by omega, fun r1 H1 r10 r11 f1 k1 => ?_⟩
      have hp1 : H1 p = some (.lst (near.map V.str)) := k1 p _ hpa hp
      repeat' (walk_at "jv")
      · intro t nt
        exact tup1 H1 t _ .keep (f1.mono (by omega)) k1 nt
      · intro e ne
        have e1 : (upd H1 e (.lst [])) p = some (.lst (near.map V.str)) := (upd_ne (ne_of_none hp1 ne)).trans hp1
        repeat' (walk_at "jv")
        refine i_neNil (ns := near) (sq_lst e1) (sq_lst upd_same) hnm ?_
        repeat' (walk_at "jv")
        refine i_iteB (fun hb => ?_) (fun hb => ?_)
        · have h0 : 0 < near.length := by
            cases near with
            | nil => simp at hb
            | cons x y => simp
          repeat' (walk_at "jv")
          refine ⟨a, p, c + 1, near.map V.str, rfl, f1.upd (Ne.symm (f1.ne ne)), SqA.l (sq_lst e1), hpa, by rw [List.length_map]; exact h0, by rw [List.length_map]; omega, by omega, fun v H2 hv f2 k2 => ?_⟩
          obtain ⟨z, hz, rfl⟩ := List.mem_map.mp hv
          repeat' (walk_at "jv")
          intro t nt
          exact tupC H2 t z hz (f2.mono (by omega)) ((k1.upd_n ne).trans k2) nt
        · repeat' (walk_at "jv")
          intro t nt
          exact tup1 _ t _ .odd ((f1.upd (Ne.symm (f1.ne ne))).mono (by omega)) (k1.upd_n ne) nt
      · intro t nt
        exact tup1 H1 t _ .odd (f1.mono (by omega)) k1 nt
    · -- how many
      have fin1 : ∀ (H' : Hp) (t : Addr) (s1 : Str), RuleD k near (.tuple [.str s1]) → SqT K H' t [.str s1] → Fd H' a (c + 1000000) → Ch a H H' → Q (.ref t) H' := fun H' t s1 hR hs f1 k1 =>
        q _ _ _ hR (.tup hs (.cons (.str _) .nil)) (f1.mono (by omega)) k1
      have finT : ∀ (H' : Hp) (T1 : Addr) (t : List Nat), t.length = k ^ (near.length + 1) → (∀ x ∈ t, x < k) → SqT K H' T1 (t.map fun n => V.int ((n : Nat) : Int)) → Fd H' a (c + 9000000) → Ch a H H' → ∀ T2, H' T2 = none → Q (.ref T2) (upd H' T2 (.tup [.str "table", .ref T1])) := fun H' T1 t h1 h2 hs f1 k1 T2 nT =>
        q _ _ _ (.table t h1 h2) (.tup (xs := [.str "table", .ref T1]) (.inl (.inl upd_same)) (.cons (.str _) (.cons (.tup (TK.new nT _ _ hs) (ints_dp t)) .nil))) ((f1.upd (Ne.symm (f1.ne nT))).mono (by omega)) (k1.upd_n nT)
      have finS : ∀ (H' : Hp) (T1 : Addr) (us : List V) (ts : List (List Nat)), ts.length = k → (∀ t ∈ ts, t.length = near.length * (k - 1) + 1 ∧ ∀ x ∈ t, x < k) → SqT K H' T1 us → DpAll K H' us (ts.map intsD) → Fd H' a (c + 9000000) → Ch a H H' → ∀ T2, H' T2 = none → Q (.ref T2) (upd H' T2 (.tup [.str "sum", .ref T1])) := fun H' T1 us ts h1 h2 hs hd f1 k1 T2 nT =>
        q _ _ _ (.sum ts h1 h2) (.tup (xs := [.str "sum", .ref T1]) (.inl (.inl upd_same)) (.cons (.str _) (.cons (.tup (TK.new nT _ _ hs) (DpAll.tk (TK.new nT) _ _ (intss_only ts) hd)) .nil))) ((f1.upd (Ne.symm (f1.ne nT))).mono (by omega)) (k1.upd_n nT)
      repeat' (walk_at "jv")
      refine f_list (near.map V.str) (fun i σ H' => ∃ y6, σ = [some (.ref a), some (.int k), some (.ref p), some (.str sort), none, some (.int ((k ^ i : Nat) : Int)), y6, none, none, none, none, none] ∧ H = H') ⟨none, rfl, rfl⟩ (fun i σ H' _ h => ?_) (fun i x σ H' hx h => ?_) (fun σ H' h => ?_)
      · obtain ⟨_, _, rfl⟩ := h
        exact sq_lst hp
      · obtain ⟨y6, rfl, rfl⟩ := h
        repeat' (walk_at "jv")
        refine ⟨some x, ?_, rfl⟩
        rw [Nat.pow_succ, Int.natCast_mul]
        rfl
      · obtain ⟨y6, rfl, rfl⟩ := h
        rw [List.length_map]
        have hM : k ^ near.length ≤ 2187 := Nat.le_trans (Nat.pow_le_pow_left hk3 near.length) (Nat.pow_le_pow_right (by decide) hn7)
        have hMs : k ^ near.length * k = k ^ (near.length + 1) := rfl
        generalize hMe : k ^ near.length = M at *
        have hk1 : (k : Int) - 1 = ((k - 1 : Nat) : Int) := by omega
        have hw : (near.length : Int) * ((k : Int) - 1) + 1 = ((near.length * (k - 1) + 1 : Nat) : Int) := by
          rw [hk1, Int.natCast_add, Int.natCast_mul]
          rfl
        have hw15 : near.length * (k - 1) + 1 ≤ 15 := by
          have := Nat.mul_le_mul hn7 (show k - 1 ≤ 2 by omega)
          omega
        refine i_seq ?_
        refine i_ifS ?_
        repeat' (walk_at "js")
        refine i_var rfl ?_
        repeat' (walk_at "js")
        refine i_ite (fun hs => ?_) (fun hs => ?_)
        · -- undone
          repeat' (walk_at "jv")
          refine ⟨a, 6, c, rfl, hf, by omega, by omega, by omega, fun r1 H1 r10 r11 f1 k1 => ?_⟩
          have hp1 : H1 p = some (.lst (near.map V.str)) := k1 p _ hpa hp
          repeat' (walk_at "jv")
          · intro t1 n1
            have f2 := f1.upd (q := t1) (o := .tup [.str "odd"]) (Ne.symm (f1.ne n1))
            have k2 := k1.upd_n (o := .tup [.str "odd"]) n1
            have s2 : SqT K (upd H1 t1 (.tup [.str "odd"])) t1 [.str "odd"] := .inl (.inl upd_same)
            have p2 : (upd H1 t1 (.tup [.str "odd"])) p = some (.lst (near.map V.str)) := (upd_ne (ne_of_none hp1 n1)).trans hp1
            generalize upd H1 t1 (.tup [.str "odd"]) = H2 at *
            repeat' (walk_at "jv")
            intro t2 n2
            have f3 := f2.upd (q := t2) (o := .tup [.str "keep"]) (Ne.symm (f2.ne n2))
            have k3 := k2.upd_n (o := .tup [.str "keep"]) n2
            have s3 := TK.new (K := K) (o := .tup [.str "keep"]) n2 _ _ s2
            have u3 : SqT K (upd H2 t2 (.tup [.str "keep"])) t2 [.str "keep"] := .inl (.inl upd_same)
            have p3 : (upd H2 t2 (.tup [.str "keep"])) p = some (.lst (near.map V.str)) := (upd_ne (ne_of_none p2 n2)).trans p2
            generalize upd H2 t2 (.tup [.str "keep"]) = H3 at *
            refine i_cons ?_
            refine i_cut (fun v H' => ∃ t3 s1, v = .ref t3 ∧ RuleD k near (.tuple [.str s1]) ∧ SqT K H' t3 [.str s1] ∧ Fd H' a (c + 1) ∧ Ch a H H' ∧ TK K H3 H') (fun Q1 hQ1 => ?_) ?_
            · refine i_if ?_
              refine i_test ?_
              refine i_op ?_
              repeat' (walk_at "jv")
              intro e ne
              have p4 : (upd H3 e (.lst [])) p = some (.lst (near.map V.str)) := (upd_ne (ne_of_none p3 ne)).trans p3
              refine i_eqNil (ns := near) (sq_lst p4) (sq_lst upd_same) hnm ?_
              refine i_blQ ?_
              refine i_iteB (fun hb => ?_) (fun hb => ?_)
              · repeat' (walk_at "jv")
                intro t3 n3
                have f4 := f3.upd (q := e) (o := .lst []) (Ne.symm (f3.ne ne))
                exact hQ1 _ _ ⟨t3, _, rfl, .least, .inl (.inl upd_same), f4.upd (Ne.symm (f4.ne n3)), (k3.upd_n ne).upd_n n3, (TK.new ne).trans (TK.new n3)⟩
              · repeat' (walk_at "jv")
                intro t3 n3
                have f4 := f3.upd (q := e) (o := .lst []) (Ne.symm (f3.ne ne))
                exact hQ1 _ _ ⟨t3, _, rfl, .odd, .inl (.inl upd_same), f4.upd (Ne.symm (f4.ne n3)), (k3.upd_n ne).upd_n n3, (TK.new ne).trans (TK.new n3)⟩
            rintro v H4 ⟨t3, s1, rfl, hR, u4, f4, k4, tk⟩
            have s4 := tk _ _ s3
            have v4 := tk _ _ u3
            repeat' (walk_at "jv")
            intro l nl
            have f5 := f4.upd (q := l) (o := .lst [.ref t1, .ref t2, .ref t3]) (Ne.symm (f4.ne nl))
            have k5 := k4.upd_n (o := .lst [.ref t1, .ref t2, .ref t3]) nl
            have t5 : TK K H4 (upd H4 l (.lst [.ref t1, .ref t2, .ref t3])) := TK.new nl
            repeat' (walk_at "jv")
            have r3 : r1 = 0 ∨ r1 = 1 ∨ r1 = 2 := by omega
            rcases r3 with rfl | rfl | rfl
            · exact i_ixL (sq_lst upd_same) at0 (fin1 _ t1 _ .odd (t5 _ _ s4) (f5.mono (by omega)) k5)
            · exact i_ixL (sq_lst upd_same) at1 (fin1 _ t2 _ .keep (t5 _ _ v4) (f5.mono (by omega)) k5)
            · exact i_ixL (sq_lst upd_same) at2 (fin1 _ t3 _ hR (t5 _ _ u4) (f5.mono (by omega)) k5)
          · -- sums of mixed rows
            rw [List.length_map, hw]
            refine i_rgK (by omega) ?_
            have ew : (((near.length * (k - 1) + 1 : Nat) : Int)).toNat = near.length * (k - 1) + 1 := rfl
            rw [ew]
            generalize near.length * (k - 1) + 1 = wd at *
            refine c_range (fun D j H' => D ≠ a ∧ H D = none ∧ (∃ as : List Addr, ∃ rl : List (List Nat), H' D = some (.lst (as.map V.ref)) ∧ as.length = j ∧ rl.length = j ∧ (∀ t ∈ rl, t.length = k ∧ ∀ x ∈ t, x < k) ∧ (∀ (i : Nat) b t, as[i]? = some b → rl[i]? = some t → H' b = some (.lst (t.map fun n => V.int ((n : Nat) : Int))) ∧ b ≠ D ∧ b ≠ a)) ∧ Fd H' a (c + 1 + 1000 * j) ∧ Ch a H H')
              (fun D nD => ⟨f1.ne nD, k1.free (f1.ne nD) nD, ⟨[], [], upd_same, rfl, rfl, fun _ z => absurd z List.not_mem_nil, fun i b t z => by simp at z⟩, by simpa using f1.upd (Ne.symm (f1.ne nD)), k1.upd_n nD⟩) (fun D j H2 hj h => ?_) (fun D H2 h => ?_)
            · obtain ⟨g1, g2, ⟨as, rl, g3, g4, g5, g6, g7⟩, g8, g9⟩ := h
              repeat' (walk_at "jv")
              refine i_lrgK (by omega) ?_
              intro L0 n0
              have n0D : D ≠ L0 := ne_of_none g3 n0
              repeat' (walk_at "jv")
              refine ⟨a, L0, c + 1 + 1000 * j, _, rfl, g8.upd (Ne.symm (g8.ne n0)), SqA.l (sq_lst upd_same), g8.ne n0, by rw [List.length_map, List.length_range]; omega, by omega, fun q9 ys H3 pm n9 e9 f9 k9 => ?_⟩
              obtain ⟨t', pt, rfl⟩ := perm_map_inv (f := fun i : Nat => V.int ((i : Nat) : Int)) pm rfl
              have e3 : H3 D = some (.lst (as.map V.ref)) := k9 D _ g1 ((upd_ne n0D).trans g3)
              have ht' : t'.length = k := by rw [pt.length_eq, List.length_range]
              have nq9D : q9 ≠ D := (ne_of_none ((upd_ne n0D).trans g3) n9).symm
              have nq9a : q9 ≠ a := (g8.upd (q := L0) (o := .lst ((List.range k).map fun i => V.int ((i : Nat) : Int))) (Ne.symm (g8.ne n0))).ne n9
              refine i_lcE e3 (by rw [List.length_map, sizeLine_eq]; omega) ?_
              refine ⟨g1, g2, ⟨as ++ [q9], rl ++ [t'], by rw [List.map_append]; exact upd_same, by rw [List.length_append, g4]; rfl, by rw [List.length_append, g5]; rfl, fun t ht => ?_, fun i b t hb ht => ?_⟩, (f9.upd g1.symm).mono (by omega), ((g9.upd_n n0).trans k9).upd_l g2⟩
              · rcases List.mem_append.mp ht with ht | ht
                · exact g6 t ht
                · rcases List.mem_singleton.mp ht with rfl
                  exact ⟨ht', fun x hx => List.mem_range.mp (pt.mem_iff.mp hx)⟩
              · by_cases hi : i < j
                · rw [List.getElem?_append_left (by omega)] at hb ht
                  obtain ⟨w1, w2, w3⟩ := g7 i b t hb ht
                  exact ⟨(upd_ne w2).trans (k9 b _ w3 ((upd_ne (ne_of_none w1 n0)).trans w1)), w2, w3⟩
                · rw [List.getElem?_append_right (by omega)] at hb ht
                  have hi0 : i - as.length = 0 := by
                    cases z : i - as.length with
                    | zero => rfl
                    | succ m => rw [z] at hb; simp at hb
                  rw [hi0] at hb
                  rw [show i - rl.length = 0 by omega] at ht
                  have hb' : q9 = b := by simpa using hb
                  have ht2 : t' = t := by simpa using ht
                  subst hb' ht2
                  exact ⟨(upd_ne nq9D).trans e9, nq9D, nq9a⟩
            · obtain ⟨g1, g2, ⟨as, rl, g3, g4, g5, g6, g7⟩, g8, g9⟩ := h
              let col : Nat → List Nat := fun own => (List.range wd).map fun i => (rl.getD i []).getD own 0
              have colk : ∀ own, own < k → (col own).length = wd ∧ ∀ x ∈ col own, x < k := by
                intro own ho
                refine ⟨by show ((List.range wd).map _).length = wd; rw [List.length_map, List.length_range], fun x hx => ?_⟩
                obtain ⟨i, hi, rfl⟩ := List.mem_map.mp hx
                have hi' : i < rl.length := by rw [g5]; exact List.mem_range.mp hi
                have hm := g6 rl[i] (List.getElem_mem hi')
                have e1 : rl.getD i [] = rl[i] := by simp [List.getD, List.getElem?_eq_getElem hi']
                show (rl.getD i []).getD own 0 < k
                rw [e1]
                have ho' : own < rl[i].length := by rw [hm.1]; exact ho
                have e2 : rl[i].getD own 0 = rl[i][own] := by simp [List.getD, List.getElem?_eq_getElem ho']
                rw [e2]
                exact hm.2 _ (List.getElem_mem ho')
              repeat' (walk_at "jv")
              have e0 : ((k : Int)).toNat = k := rfl
              rw [e0]
              refine c_range (fun E own H' => E ≠ a ∧ H E = none ∧ E ≠ D ∧ (∃ us, H' E = some (.lst us) ∧ DpAll K H' us (((List.range own).map col).map intsD)) ∧ H' D = some (.lst (as.map V.ref)) ∧ (∀ (i : Nat) b t, as[i]? = some b → rl[i]? = some t → H' b = some (.lst (t.map fun n => V.int ((n : Nat) : Int))) ∧ b ≠ E ∧ b ≠ D ∧ b ≠ a) ∧ Fd H' a (c + 1 + 1000 * wd) ∧ Ch a H H')
                (fun E nE => ⟨g8.ne nE, g9.free (g8.ne nE) nE, (ne_of_none g3 nE).symm, ⟨[], upd_same, .nil⟩, (upd_ne (ne_of_none g3 nE)).trans g3, fun i b t hb ht => ?_, g8.upd (Ne.symm (g8.ne nE)), g9.upd_n nE⟩) (fun E own H3 ho h => ?_) (fun E H3 h => ?_)
              · obtain ⟨w1, w2, w3⟩ := g7 i b t hb ht
                have := ne_of_none w1 nE
                exact ⟨(upd_ne this).trans w1, this, w2, w3⟩
              · obtain ⟨b1, b2, b3, ⟨us, b4, b5⟩, b6, b7, b8, b9⟩ := h
                have hul : us.length = own := by rw [DpAll.len b5, List.length_map, List.length_map, List.length_range]
                repeat' (walk_at "jv")
                refine p_list (as.map V.ref) (fun i => V.int (((rl.getD i []).getD own 0 : Nat) : Int)) (sq_lst b6) (by rw [List.length_map]; omega) (fun D2 acc i x N nD2 hx hN => ?_) (fun D2 nD2 => ?_)
                · have hi : i < as.length := by
                    have := (List.getElem?_eq_some_iff.mp hx).1
                    rwa [List.length_map] at this
                  have hir : i < rl.length := by omega
                  rw [List.getElem?_map, List.getElem?_eq_getElem hi] at hx
                  obtain rfl : V.ref as[i] = x := Option.some.inj hx
                  obtain ⟨w1, w2, w3, w4⟩ := b7 i _ _ (List.getElem?_eq_getElem hi) (List.getElem?_eq_getElem hir)
                  have hm := g6 rl[i] (List.getElem_mem hir)
                  have hol : own < rl[i].length := by rw [hm.1]; exact ho
                  refine i_op ?_
                  refine i_var rfl ?_
                  refine i_var rfl ?_
                  rw [show (0 : Int) + (own : Int) = (own : Int) by omega]
                  refine i_ixL (xs := rl[i].map fun n => V.int ((n : Nat) : Int)) (v := V.int ((rl[i][own] : Nat) : Int)) (sq_lst ((upd_ne (ne_of_none w1 nD2)).trans w1)) (atI_nat (by rw [List.getElem?_map, List.getElem?_eq_getElem hol]; rfl)) ?_
                  have e1 : rl.getD i [] = rl[i] := by simp [List.getD, List.getElem?_eq_getElem hir]
                  have e2 : rl[i].getD own 0 = rl[i][own] := by simp [List.getD, List.getElem?_eq_getElem hol]
                  rw [e1, e2] at hN
                  exact hN
                · rw [List.length_map, g4]
                  have ec : (List.range wd).map (fun i => V.int (((rl.getD i []).getD own 0 : Nat) : Int)) = (col own).map fun n => V.int ((n : Nat) : Int) := by
                    show _ = ((List.range wd).map _).map _
                    rw [List.map_map]
                    rfl
                  rw [ec]
                  have m1 : TK K H3 (upd H3 D2 (.lst ((col own).map fun n => V.int ((n : Nat) : Int)))) := TK.new nD2
                  have m2 : (upd H3 D2 (.lst ((col own).map fun n => V.int ((n : Nat) : Int)))) E = some (.lst us) := (upd_ne (ne_of_none b4 nD2)).trans b4
                  have m3 : (upd H3 D2 (.lst ((col own).map fun n => V.int ((n : Nat) : Int)))) D = some (.lst (as.map V.ref)) := (upd_ne (ne_of_none b6 nD2)).trans b6
                  have m4 := b8.upd (q := D2) (o := .lst ((col own).map fun n => V.int ((n : Nat) : Int))) (Ne.symm (b8.ne nD2))
                  have m5 := b9.upd_n (o := .lst ((col own).map fun n => V.int ((n : Nat) : Int))) nD2
                  have m6 : ∀ (i : Nat) b t, as[i]? = some b → rl[i]? = some t → (upd H3 D2 (.lst ((col own).map fun n => V.int ((n : Nat) : Int)))) b = some (.lst (t.map fun n => V.int ((n : Nat) : Int))) ∧ b ≠ E ∧ b ≠ D ∧ b ≠ a := fun i b t hb ht => by
                    obtain ⟨w1, w2⟩ := b7 i b t hb ht
                    exact ⟨(upd_ne (ne_of_none w1 nD2)).trans w1, w2⟩
                  have m7 : SqL K (upd H3 D2 (.lst ((col own).map fun n => V.int ((n : Nat) : Int)))) D2 ((col own).map fun n => V.int ((n : Nat) : Int)) := sq_lst upd_same
                  have m8 := DpAll.tk m1 _ _ (intss_only _) b5
                  generalize upd H3 D2 (.lst ((col own).map fun n => V.int ((n : Nat) : Int))) = H4 at *
                  repeat' (walk_at "jv")
                  intro T nT
                  have e5 : (upd H4 T (.tup ((col own).map fun n => V.int ((n : Nat) : Int)))) E = some (.lst us) := (upd_ne (ne_of_none m2 nT)).trans m2
                  have d5 := DpAll.tk (TK.new (o := .tup ((col own).map fun n => V.int ((n : Nat) : Int))) nT) _ _ (intss_only _) m8
                  have hT : Dp K (upd H4 T (.tup ((col own).map fun n => V.int ((n : Nat) : Int)))) (.ref T) (intsD (col own)) := .tup (.inl (.inl upd_same)) (ints_dp _)
                  refine i_lcE e5 (by rw [sizeLine_eq]; omega) ?_
                  refine ⟨b1, b2, b3, ⟨us ++ [.ref T], upd_same, ?_⟩, ?_, fun i b t hb ht => ?_, (m4.upd (Ne.symm (m4.ne nT))).upd b1.symm, (m5.upd_n nT).upd_l b2⟩
                  · rw [List.range_succ, List.map_append, List.map_append]
                    exact DpAll.tk (TK.lst e5) _ _ (tupOnlyAll_app _ _ (intss_only _) (by have := intss_only [col own]; exact this)) (DpAll.app d5 (.cons hT .nil))
                  · rw [upd_ne b3.symm, upd_ne (ne_of_none m3 nT)]
                    exact m3
                  · obtain ⟨w1, w2, w3⟩ := m6 i b t hb ht
                    exact ⟨(upd_ne w2).trans ((upd_ne (ne_of_none w1 nT)).trans w1), w2, w3⟩
              · obtain ⟨b1, b2, b3, ⟨us, b4, b5⟩, b6, b7, b8, b9⟩ := h
                repeat' (walk_at "jv")
                intro T1 n1
                repeat' (walk_at "jv")
                intro T2 n2
                refine finS _ T1 us ((List.range k).map col) (by rw [List.length_map, List.length_range]) (fun t ht => ?_) (.inl (.inl upd_same)) (DpAll.tk (TK.new n1) _ _ (intss_only _) b5) ((b8.upd (Ne.symm (b8.ne n1))).mono (by omega)) (b9.upd_n n1) T2 n2
                obtain ⟨own, ho, rfl⟩ := List.mem_map.mp ht
                exact colk own (List.mem_range.mp ho)
          · -- cells of mixed rows
            intro Cc nC
            have nCa : Cc ≠ a := f1.ne nC
            have nC0 : H Cc = none := k1.free nCa nC
            repeat' (walk_at "jv")
            have eM : ((M : Int)).toNat = M := rfl
            rw [eM]
            refine f_range (fun i σ H' => ∃ y7, ∃ t : List Nat, σ = [some (.ref a), some (.int k), some (.ref p), some (.str sort), some (.int r1), some (.int M), y6, y7, none, some (.ref Cc), none, none] ∧ H' Cc = some (.lst (t.map fun n => V.int ((n : Nat) : Int))) ∧ t.length = i * k ∧ (∀ x ∈ t, x < k) ∧ Fd H' a (c + 1 + 1000 * i) ∧ Ch a H H')
              ⟨none, [], rfl, upd_same, by simp, fun _ z => absurd z List.not_mem_nil, by simpa using f1.upd (Ne.symm nCa), k1.upd_n nC⟩ (fun i σ H2 hi h => ?_) (fun σ H2 h => ?_)
            · obtain ⟨y7, t, rfl, g1, g2, g3, g4, g5⟩ := h
              have hik : i * k ≤ 6561 := by
                have := Nat.mul_le_mul (show i ≤ 2187 by omega) hk3
                omega
              repeat' (walk_at "jv")
              refine i_lrgK (by omega) ?_
              intro L0 n0
              have n0C : Cc ≠ L0 := ne_of_none g1 n0
              repeat' (walk_at "jv")
              refine ⟨a, L0, c + 1 + 1000 * i, _, rfl, g4.upd (Ne.symm (g4.ne n0)), SqA.l (sq_lst upd_same), g4.ne n0, by rw [List.length_map, List.length_range]; omega, by omega, fun q9 ys H3 pm n9 e9 f9 k9 => ?_⟩
              obtain ⟨t', pt, rfl⟩ := perm_map_inv (f := fun i : Nat => V.int ((i : Nat) : Int)) pm rfl
              have e3 : H3 Cc = some (.lst (t.map fun n => V.int ((n : Nat) : Int))) := k9 Cc _ nCa ((upd_ne n0C).trans g1)
              have ht' : t'.length = k := by rw [pt.length_eq, List.length_range]
              repeat' (walk_at "jv")
              refine i_ext e3 e9 (by rw [List.length_map, List.length_map, sizeLine_eq]; omega) ?_
              repeat' (walk_at "jv")
              refine ⟨_, t ++ t', rfl, by rw [List.map_append]; exact upd_same, by rw [List.length_append, g2, ht', Nat.succ_mul], fun y hy => ?_, (f9.upd (Ne.symm nCa)).mono (by omega), ((g5.upd_n n0).trans k9).upd_l nC0⟩
              rcases List.mem_append.mp hy with hy | hy
              · exact g3 y hy
              · exact List.mem_range.mp (pt.mem_iff.mp hy)
            · obtain ⟨y7, t, rfl, g1, g2, g3, g4, g5⟩ := h
              repeat' (walk_at "jv")
              intro T1 n1
              repeat' (walk_at "jv")
              intro T2 n2
              exact finT _ T1 t (by rw [g2, hMs]) g3 (.inl (.inl upd_same)) ((g4.upd (Ne.symm (g4.ne n1))).mono (by omega)) (g5.upd_n n1) T2 n2
        · -- any
          repeat' (walk_at "js")
          refine i_var rfl ?_
          repeat' (walk_at "js")
          refine ⟨a, 10, c, rfl, hf, by omega, by omega, by omega, fun r1 H1 r10 r11 f1 k1 => ?_⟩
          have hp1 : H1 p = some (.lst (near.map V.str)) := k1 p _ hpa hp
          refine i_gname ?_
          refine i_seq ?_
          refine i_cutS (fun σ H' => σ = [some (.ref a), some (.int k), some (.ref p), some (.str sort), some (.int r1), some (.int M), y6, none, none, none, none, none] ∧ H1 = H' ∧ 3 ≤ r1) (fun N hN => ?_) ?_
          · repeat' (walk_at "jv")
            · -- a table drawn
              have e0 : ((M : Int) * (k : Int)).toNat = M * k := by
                rw [← Int.natCast_mul]
                rfl
              have hMk : M * k ≤ 6561 := by
                have := Nat.mul_le_mul hM hk3
                omega
              refine i_rgK (by rw [← Int.natCast_mul]; omega) ?_
              rw [e0]
              refine c_range (fun D j H' => D ≠ a ∧ H D = none ∧ (∃ t : List Nat, H' D = some (.lst (t.map fun n => V.int ((n : Nat) : Int))) ∧ t.length = j ∧ ∀ x ∈ t, x < k) ∧ Fd H' a (c + 1 + j) ∧ Ch a H H')
                (fun D nD => ⟨f1.ne nD, k1.free (f1.ne nD) nD, ⟨[], upd_same, rfl, fun _ z => absurd z List.not_mem_nil⟩, by simpa using f1.upd (Ne.symm (f1.ne nD)), k1.upd_n nD⟩) (fun D j H2 hj h => ?_) (fun D H2 h => ?_)
              · obtain ⟨g1, g2, ⟨t, g3, g4, g5⟩, g6, g7⟩ := h
                repeat' (walk_at "jv")
                refine ⟨a, k, _, rfl, g6, by omega, by omega, by omega, fun x H3 x0 x1 f3 k3 => ?_⟩
                obtain ⟨x, rfl⟩ := Int.eq_ofNat_of_zero_le x0
                have e3 := k3 D _ g1 g3
                refine i_lcE e3 (by rw [List.length_map, sizeLine_eq]; omega) ?_
                refine ⟨g1, g2, ⟨t ++ [x], by rw [List.map_append]; exact upd_same, by rw [List.length_append, g4]; rfl, fun y hy => ?_⟩, (f3.upd g1.symm).mono (by omega), (g7.trans k3).upd_l g2⟩
                rcases List.mem_append.mp hy with hy | hy
                · exact g5 y hy
                · rcases List.mem_singleton.mp hy with rfl
                  omega
              · obtain ⟨g1, g2, ⟨t, g3, g4, g5⟩, g6, g7⟩ := h
                repeat' (walk_at "jv")
                intro T1 n1
                repeat' (walk_at "jv")
                intro T2 n2
                exact finT _ T1 t (by rw [g4, hMs]) g5 (.inl (.inl upd_same)) ((g6.upd (Ne.symm (g6.ne n1))).mono (by omega)) (g7.upd_n n1) T2 n2
            · exact hN _ _ ⟨rfl, rfl, by omega⟩
          rintro σ H2 ⟨rfl, rfl, r13⟩
          refine i_seq ?_
          refine i_cutS (fun σ H' => σ = [some (.ref a), some (.int k), some (.ref p), some (.str sort), some (.int r1), some (.int M), y6, none, none, none, none, none] ∧ H1 = H' ∧ 4 ≤ r1) (fun N hN => ?_) ?_
          · repeat' (walk_at "jv")
            · -- sums drawn
              have e0 : ((k : Int)).toNat = k := rfl
              rw [e0]
              refine c_range (fun D j H' => D ≠ a ∧ H D = none ∧ H' p = some (.lst (near.map V.str)) ∧ (∃ us, ∃ ts : List (List Nat), H' D = some (.lst us) ∧ DpAll K H' us (ts.map intsD) ∧ ts.length = j ∧ ∀ t ∈ ts, t.length = near.length * (k - 1) + 1 ∧ ∀ x ∈ t, x < k) ∧ Fd H' a (c + 1 + 100 * j) ∧ Ch a H H')
                (fun D nD => ⟨f1.ne nD, k1.free (f1.ne nD) nD, (upd_ne (ne_of_none hp1 nD)).trans hp1, ⟨[], [], upd_same, .nil, rfl, fun _ z => absurd z List.not_mem_nil⟩, by simpa using f1.upd (Ne.symm (f1.ne nD)), k1.upd_n nD⟩) (fun D j H2 hj h => ?_) (fun D H2 h => ?_)
              · obtain ⟨g1, g2, gp, ⟨us, ts, g3, g4, g5, g6⟩, g7, g8⟩ := h
                have hul : us.length = j := by rw [DpAll.len g4, List.length_map, g5]
                repeat' (walk_at "jv")
                rw [List.length_map, hw]
                refine i_rgK (by omega) ?_
                have ew : (((near.length * (k - 1) + 1 : Nat) : Int)).toNat = near.length * (k - 1) + 1 := rfl
                rw [ew]
                refine c_range (fun D2 j2 H' => D2 ≠ a ∧ H D2 = none ∧ D2 ≠ D ∧ H' p = some (.lst (near.map V.str)) ∧ H' D = some (.lst us) ∧ DpAll K H' us (ts.map intsD) ∧ (∃ t : List Nat, H' D2 = some (.lst (t.map fun n => V.int ((n : Nat) : Int))) ∧ t.length = j2 ∧ ∀ x ∈ t, x < k) ∧ Fd H' a (c + 1 + 100 * j + j2) ∧ Ch a H H')
                  (fun D2 nD => ⟨g7.ne nD, g8.free (g7.ne nD) nD, (ne_of_none g3 nD).symm, (upd_ne (ne_of_none gp nD)).trans gp, (upd_ne (ne_of_none g3 nD)).trans g3, DpAll.tk (TK.new nD) _ _ (intss_only ts) g4, ⟨[], upd_same, rfl, fun _ z => absurd z List.not_mem_nil⟩, by simpa using g7.upd (Ne.symm (g7.ne nD)), g8.upd_n nD⟩) (fun D2 j2 H3 hj2 h => ?_) (fun D2 H3 h => ?_)
                · obtain ⟨b1, b2, b3, bp, b4, b5, ⟨t, b6, b7, b8⟩, b9, b10⟩ := h
                  repeat' (walk_at "jv")
                  refine ⟨a, k, _, rfl, b9, by omega, by omega, by omega, fun x H4 x0 x1 f4 k4 => ?_⟩
                  obtain ⟨x, rfl⟩ := Int.eq_ofNat_of_zero_le x0
                  have e4 := k4 D2 _ b1 b6
                  refine i_lcE e4 (by rw [List.length_map, sizeLine_eq]; omega) ?_
                  refine ⟨b1, b2, b3, ?_, ?_, ?_, ⟨t ++ [x], by rw [List.map_append]; exact upd_same, by rw [List.length_append, b7]; rfl, fun y hy => ?_⟩, (f4.upd b1.symm).mono (by omega), (b10.trans k4).upd_l b2⟩
                  · rw [upd_ne (fun z => by rw [← z, hp] at b2; cases b2)]
                    exact k4 p _ hpa bp
                  · rw [upd_ne b3.symm]
                    exact k4 D _ g1 b4
                  · exact DpAll.tk ((TK.ch k4 b9).trans (TK.lst e4)) _ _ (intss_only ts) b5
                  · rcases List.mem_append.mp hy with hy | hy
                    · exact b8 y hy
                    · rcases List.mem_singleton.mp hy with rfl
                      omega
                · obtain ⟨b1, b2, b3, bp, b4, b5, ⟨t, b6, b7, b8⟩, b9, b10⟩ := h
                  repeat' (walk_at "jv")
                  intro T nT
                  have e5 : (upd H3 T (.tup (t.map fun n => V.int ((n : Nat) : Int)))) D = some (.lst us) := (upd_ne (ne_of_none b4 nT)).trans b4
                  have d5 := DpAll.tk (TK.new (o := .tup (t.map fun n => V.int ((n : Nat) : Int))) nT) _ _ (intss_only ts) b5
                  have hT : Dp K (upd H3 T (.tup (t.map fun n => V.int ((n : Nat) : Int)))) (.ref T) (intsD t) := .tup (.inl (.inl upd_same)) (ints_dp t)
                  refine i_lcE e5 (by rw [sizeLine_eq]; omega) ?_
                  refine ⟨g1, g2, ?_, ⟨us ++ [.ref T], ts ++ [t], upd_same, ?_, by rw [List.length_append, g5]; rfl, fun y hy => ?_⟩, ((b9.upd (Ne.symm (b9.ne nT))).upd g1.symm).mono (by omega), (b10.upd_n nT).upd_l g2⟩
                  · rw [upd_ne (fun z => by rw [← z, hp] at g2; cases g2), upd_ne (ne_of_none bp nT)]
                    exact bp
                  · rw [List.map_append]
                    exact DpAll.tk (TK.lst e5) _ _ (tupOnlyAll_app _ _ (intss_only ts) (by have := intss_only [t]; exact this)) (DpAll.app d5 (.cons hT .nil))
                  · rcases List.mem_append.mp hy with hy | hy
                    · exact g6 y hy
                    · rcases List.mem_singleton.mp hy with rfl
                      exact ⟨b7, b8⟩
              · obtain ⟨g1, g2, gp, ⟨us, ts, g3, g4, g5, g6⟩, g7, g8⟩ := h
                repeat' (walk_at "jv")
                intro T1 n1
                repeat' (walk_at "jv")
                intro T2 n2
                exact finS _ T1 us ts g5 g6 (.inl (.inl upd_same)) (DpAll.tk (TK.new n1) _ _ (intss_only ts) g4) ((g7.upd (Ne.symm (g7.ne n1))).mono (by omega)) (g8.upd_n n1) T2 n2
            · exact hN _ _ ⟨rfl, rfl, by omega⟩
          rintro σ H2 ⟨rfl, rfl, r14⟩
          refine i_seq ?_
          refine i_cutS (fun σ H' => σ = [some (.ref a), some (.int k), some (.ref p), some (.str sort), some (.int r1), some (.int M), y6, none, none, none, none, none] ∧ Fd H' a (c + 1) ∧ Ch a H H') (fun N hN => ?_) ?_
          · repeat' (walk_at "jv")
            · intro e ne
              have e1 : (upd H1 e (.lst [])) p = some (.lst (near.map V.str)) := (upd_ne (ne_of_none hp1 ne)).trans hp1
              have f2 := f1.upd (q := e) (o := .lst []) (Ne.symm (f1.ne ne))
              repeat' (walk_at "jv")
              refine i_neNil (ns := near) (sq_lst e1) (sq_lst upd_same) hnm ?_
              repeat' (walk_at "jv")
              refine i_iteB (fun hb => ?_) (fun hb => ?_)
              · have h0 : 0 < near.length := by
                  cases near with
                  | nil => simp at hb
                  | cons x y => simp
                repeat' (walk_at "jv")
                refine ⟨a, p, c + 1, near.map V.str, rfl, f2, SqA.l (sq_lst e1), hpa, by rw [List.length_map]; exact h0, by rw [List.length_map]; omega, by omega, fun v H2 hv f3 k3 => ?_⟩
                obtain ⟨z, hz, rfl⟩ := List.mem_map.mp hv
                repeat' (walk_at "jv")
                intro t nt
                exact tupC H2 t z hz (f3.mono (by omega)) ((k1.upd_n ne).trans k3) nt
              · repeat' (walk_at "jv")
                exact hN _ _ ⟨rfl, f2, k1.upd_n ne⟩
            · exact hN _ _ ⟨rfl, f1, k1⟩
          rintro σ H2 ⟨rfl, f2, k2⟩
          repeat' (walk_at "jv")
          intro t1 n1
          have f3 := f2.upd (q := t1) (o := .tup [.str "keep"]) (Ne.symm (f2.ne n1))
          have k3 := k2.upd_n (o := .tup [.str "keep"]) n1
          have a3 : SqT K (upd H2 t1 (.tup [.str "keep"])) t1 [.str "keep"] := .inl (.inl upd_same)
          generalize upd H2 t1 (.tup [.str "keep"]) = H3 at *
          repeat' (walk_at "jv")
          intro t2 n2
          have f4 := f3.upd (q := t2) (o := .tup [.str "least"]) (Ne.symm (f3.ne n2))
          have k4 := k3.upd_n (o := .tup [.str "least"]) n2
          have a4 := TK.new (K := K) (o := .tup [.str "least"]) n2 _ _ a3
          have b4 : SqT K (upd H3 t2 (.tup [.str "least"])) t2 [.str "least"] := .inl (.inl upd_same)
          generalize upd H3 t2 (.tup [.str "least"]) = H4 at *
          repeat' (walk_at "jv")
          intro t3 n3
          have f5 := f4.upd (q := t3) (o := .tup [.str "greatest"]) (Ne.symm (f4.ne n3))
          have k5 := k4.upd_n (o := .tup [.str "greatest"]) n3
          have a5 := TK.new (K := K) (o := .tup [.str "greatest"]) n3 _ _ a4
          have b5 := TK.new (K := K) (o := .tup [.str "greatest"]) n3 _ _ b4
          have c5 : SqT K (upd H4 t3 (.tup [.str "greatest"])) t3 [.str "greatest"] := .inl (.inl upd_same)
          generalize upd H4 t3 (.tup [.str "greatest"]) = H5 at *
          repeat' (walk_at "jv")
          intro t4 n4
          have f6 := f5.upd (q := t4) (o := .tup [.str "odd"]) (Ne.symm (f5.ne n4))
          have k6 := k5.upd_n (o := .tup [.str "odd"]) n4
          have a6 := TK.new (K := K) (o := .tup [.str "odd"]) n4 _ _ a5
          have b6 := TK.new (K := K) (o := .tup [.str "odd"]) n4 _ _ b5
          have c6 := TK.new (K := K) (o := .tup [.str "odd"]) n4 _ _ c5
          have d6 : SqT K (upd H5 t4 (.tup [.str "odd"])) t4 [.str "odd"] := .inl (.inl upd_same)
          generalize upd H5 t4 (.tup [.str "odd"]) = H6 at *
          repeat' (walk_at "jv")
          refine ⟨a, 10, _, rfl, f6, by omega, by omega, by omega, fun x H7 x0 x1 f7 k7 => ?_⟩
          obtain ⟨x, rfl⟩ := Int.eq_ofNat_of_zero_le x0
          have tk7 : TK K H6 H7 := TK.ch k7 f6
          have k70 := k6.trans k7
          repeat' (walk_at "jv")
          intro t5 n5
          have tk8 : TK K H6 (upd H7 t5 (.tup [.str "most", .int x])) := tk7.trans (TK.new n5)
          have f8 := f7.upd (q := t5) (o := .tup [.str "most", .int x]) (Ne.symm (f7.ne n5))
          have k8 := k70.upd_n (o := .tup [.str "most", .int x]) n5
          have e8 : SqT K (upd H7 t5 (.tup [.str "most", .int x])) t5 [.str "most", .int x] := .inl (.inl upd_same)
          generalize upd H7 t5 (.tup [.str "most", .int x]) = H8 at *
          repeat' (walk_at "jv")
          intro t6 n6
          have tk9 : TK K H8 (upd H8 t6 (.tup [.str "least"])) := TK.new n6
          have f9 := f8.upd (q := t6) (o := .tup [.str "least"]) (Ne.symm (f8.ne n6))
          have k9 := k8.upd_n (o := .tup [.str "least"]) n6
          have g9 : SqT K (upd H8 t6 (.tup [.str "least"])) t6 [.str "least"] := .inl (.inl upd_same)
          generalize upd H8 t6 (.tup [.str "least"]) = H9 at *
          refine i_nil ?_
          refine i_al (by show 6 ≤ sizeLine; decide) ?_
          intro l nl
          have tkA : TK K H9 (upd H9 l (.lst [.ref t1, .ref t2, .ref t3, .ref t4, .ref t5, .ref t6])) := TK.new nl
          have fA := (f9.upd (q := l) (o := .lst [.ref t1, .ref t2, .ref t3, .ref t4, .ref t5, .ref t6]) (Ne.symm (f9.ne nl))).mono (d := c + 1000) (by omega)
          have kA := k9.upd_n (o := .lst [.ref t1, .ref t2, .ref t3, .ref t4, .ref t5, .ref t6]) nl
          have lA : SqL K (upd H9 l (.lst [.ref t1, .ref t2, .ref t3, .ref t4, .ref t5, .ref t6])) l [.ref t1, .ref t2, .ref t3, .ref t4, .ref t5, .ref t6] := sq_lst upd_same
          generalize upd H9 l (.lst [.ref t1, .ref t2, .ref t3, .ref t4, .ref t5, .ref t6]) = HA at *
          have tkk : TK K H6 HA := (tk8.trans tk9).trans tkA
          repeat' (walk_at "jv")
          obtain ⟨w, ew, hw6⟩ : ∃ w : Nat, r1 - 4 = w ∧ w < 6 := ⟨(r1 - 4).toNat, by omega, by omega⟩
          rw [ew]
          have w6 : w = 0 ∨ w = 1 ∨ w = 2 ∨ w = 3 ∨ w = 4 ∨ w = 5 := by omega
          rcases w6 with rfl | rfl | rfl | rfl | rfl | rfl
          · exact i_ixL lA (atI_nat rfl) (fin1 _ t1 _ .keep (tkk _ _ a6) (fA.mono (by omega)) kA)
          · exact i_ixL lA (atI_nat rfl) (fin1 _ t2 _ .least (tkk _ _ b6) (fA.mono (by omega)) kA)
          · exact i_ixL lA (atI_nat rfl) (fin1 _ t3 _ .greatest (tkk _ _ c6) (fA.mono (by omega)) kA)
          · exact i_ixL lA (atI_nat rfl) (fin1 _ t4 _ .odd (tkk _ _ d6) (fA.mono (by omega)) kA)
          · exact i_ixL lA (atI_nat rfl) (q _ _ _ (.most x (by omega)) (.tup (tkA _ _ (tk9 _ _ e8)) (.cons (.str _) (.cons (.int _) .nil))) (fA.mono (by omega)) kA)
          · exact i_ixL lA (atI_nat rfl) (fin1 _ t6 _ .least (tkA _ _ g9) (fA.mono (by omega)) kA)
end
end
section
open L2 PySem PySem.Spec PyProof.Rows
abbrev s__law_hall : Stmt := topS 70
theorem sc__law_hall : FnScope ["_law_feed_here", "_law_way", "_law_sort", "_law_most", "_law_k", "_law_web_here", "_law_place"] ["_law_feed_here", "_law_way", "_law_sort", "_law_most"] (defScope s__law_hall) := ⟨rfl, rfl, rfl, by decide +kernel, rfl, by decide +kernel, by decide +kernel⟩
section
variable {base : Heap} {P : Program} {w : World} {K : PySem.W.Frag} {mg : Str → Option Value}
theorem ok_hall (D : Dn K mg "_law_hall" s__law_hall ["_law_feed_here", "_law_way", "_law_sort", "_law_most"]) (B : Bn mg) (C__law_one : Cl P w K mg base 2 "_law_one" ["_law_feed_here", "_law_things"] (spOne K))
    (C__law_web : Cl P w K mg base 4 "_law_web" ["_law_feed_here", "_law_way", "_law_most"] (spWebF K)) (C__law_neighbours : Cl P w K mg base 1 "_law_neighbours" ["_law_web_here", "_law_place"] (spNear K))
    (C__law_rule : Cl P w K mg base 4 "_law_rule" ["_law_feed_here", "_law_k", "_law_others", "_law_sort"] (spRule K)) :
    Cl P w K mg base 5 "_law_hall" ["_law_feed_here", "_law_way", "_law_sort", "_law_most"] (spHallF K) := by
  refine D.cl sc__law_hall (fun vs H Q E h => ?_) (fun f cdv A outer s H vs Q E hr h => ?_)
  · obtain ⟨a, way, sort, most, c, rfl, _⟩ := h
    rfl
  · obtain ⟨a, way, sort, most, c, rfl, hf, hm1, hm8, hc, q⟩ := h
    refine ⟨_, (pss_cons (ps_set (i := 4) sc__law_hall.nd rfl (by first | exact Or.inl rfl | exact Or.inr rfl) (pe_ifExp (pt_cmpR op_eq (pv 2) pe_str (nomark _)) pe_int (pe_c C__law_one hr (pa_cons (pv 0) (pa_cons (pe_lst (pa_cons pe_int (pa_cons pe_int (pa_cons pe_int (pa_cons pe_int pa_nil))))) pa_nil)))))
      (pss_cons (ps_set (i := 5) sc__law_hall.nd rfl (by first | exact Or.inl rfl | exact Or.inr rfl) (pe_c C__law_web hr (pa_cons (pv 0) (pa_cons (pv 1) (pa_cons (pe_ifExp (pt_cmpR op_eq (pv 4) pe_int (nomark _)) (pe_callB (j_min rfl) rfl B.min_ (by decide +kernel) (pa_cons (pv 3) (pa_cons pe_int pa_nil))) (pv 3)) pa_nil)))))
      (pss_one (ps_ret (pe_tup (pa_cons (pv 4) (pa_cons (pv 5) (pa_cons (pe_callTy (k_tuple (K := K)) rfl B.tuple_ (by decide +kernel) (pa_cons (pe_lc (own := [("_law_place", 6)]) rfl sc__law_hall.nd (kpi_tup (K := K) (pe_ix (k_ixT (K := K)) (pv 5) pe_int (fun _ _ => rfl))) (blkOk_by (N := ["_law_feed_here", "_law_way", "_law_sort", "_law_most", "_law_k", "_law_web_here", "_law_place"]) (sc := defScope s__law_hall) (by decide +kernel)) (fun _ _ _ _ _ => (pg_name (i := 6) sc__law_hall.nd rfl (by first | exact Or.inl rfl | exact Or.inr rfl))) (fun _ _ _ _ _ => pts_nil) (fun _ _ _ _ _ => (pe_c C__law_rule hr (pa_cons (pv 0) (pa_cons (pv 4) (pa_cons (pe_c C__law_neighbours hr (pa_cons (pv 5) (pa_cons (pv 6) pa_nil))) (pa_cons (pv 2) pa_nil))))))) pa_nil)) pa_nil)))))))), ?_⟩
    refine i_seq ?_
    refine i_asg ?_
    refine i_cut (fun v H' => ∃ k : Nat, v = .int k ∧ (k = 2 ∨ k = 3) ∧ Fd H' a (c + 1) ∧ Ch a H H') (fun Q1 hQ1 => ?_) ?_
    · repeat' (walk_at "jv")
      · exact hQ1 _ _ ⟨2, rfl, .inl rfl, hf.mono (by omega), Ch.refl _⟩
      · intro L nL
        repeat' (walk_at "jv")
        refine ⟨a, L, c, [.int 2, .int 2, .int 2, .int 3], rfl, hf.upd (Ne.symm (hf.ne nL)), SqA.l (sq_lst upd_same), hf.ne nL, by show 0 < 4; decide, by show 4 < 1000000; decide, by omega, fun v H1 hv f1 k1 => ?_⟩
        repeat' (walk_at "jv")
        have hv' : v = .int 2 ∨ v = .int 3 := by simpa using hv
        rcases hv' with rfl | rfl
        · exact hQ1 _ _ ⟨2, rfl, .inl rfl, f1, (Ch.upd_new nL).trans k1⟩
        · exact hQ1 _ _ ⟨3, rfl, .inr rfl, f1, (Ch.upd_new nL).trans k1⟩
    rintro v H1 ⟨k, rfl, hk, f1, k1⟩
    refine i_gname ?_
    refine i_seq ?_
    refine i_asg ?_
    refine i_call ?_
    refine i_cons ?_
    refine i_var rfl ?_
    refine i_cons ?_
    refine i_var rfl ?_
    refine i_cons ?_
    refine i_cut (fun v H' => ∃ m : Int, v = .int m ∧ 1 ≤ m ∧ m ≤ 8 ∧ (k = 3 → m ≤ 4) ∧ H1 = H') (fun Q1 hQ1 => ?_) ?_
    · repeat' (walk_at "jv")
      · exact hQ1 _ _ ⟨min most 4, rfl, by omega, by omega, fun _ => by omega, rfl⟩
      · rename_i h3
        exact hQ1 _ _ ⟨most, rfl, hm1, hm8, fun z => absurd (by rw [z]; rfl) h3, rfl⟩
    rintro v H2 ⟨m, rfl, m1, m8, m4, rfl⟩
    repeat' (walk_at "jv")
    refine ⟨a, way, m, c + 1, rfl, f1, m1, m8, by omega, fun v ps rs H2 hW hps dW f2 k2 => ?_⟩
    have k20 : Ch a H H2 := k1.trans k2
    have hfew : k ^ ps.length ≤ 256 := by
      rcases hk with rfl | rfl
      · exact Nat.le_trans (Nat.pow_le_pow_right (by decide) (show ps.length ≤ 8 by omega)) (by decide)
      · exact Nat.le_trans (Nat.pow_le_pow_right (by decide) (show ps.length ≤ 4 by have := m4 rfl; omega)) (by decide)
    have dF := dW
    replace dW := dF.dp
    obtain ⟨t, tp, tr, xs, rfl, s1, s2, s3, d3, dr, dpl⟩ := web_parts dW
    repeat' (walk_at "jv")
    refine c_tup (ps.map V.str) (fun D j H' => D ≠ a ∧ H D = none ∧ (∃ us, ∃ ds : List PyData, H' D = some (.lst us) ∧ DpAll K H' us ds ∧ ds.length = j ∧ RulesTo k ps rs ds) ∧ TK K H2 H' ∧ Fd H' a (c + 10001 + 10000000 * j) ∧ Ch a H H' ∧ WF K H' (.ref t) ps rs)
      (fun D nD => ⟨f2.ne nD, k20.free (f2.ne nD) nD, ⟨[], [], upd_same, .nil, rfl, RulesTo.nil⟩, TK.new nD, (f2.upd (Ne.symm (f2.ne nD))).mono (by omega), k20.upd_n nD, dF.same (Same.upd_new nD)⟩) (fun D j H3 hj h => ?_) (fun D j x H3 hx h => ?_) (fun D H3 h => ?_)
    · obtain ⟨_, _, _, tk, _⟩ := h
      exact tk _ _ s2
    · obtain ⟨g1, g2, ⟨us, ds, g3, g4, g5, g6⟩, tk, g7, g8, g9⟩ := h
      have hul : us.length = j := by rw [DpAll.len g4, g5]
      have hj : j < ps.length := by
        have := (List.getElem?_eq_some_iff.mp hx).1
        rwa [List.length_map] at this
      have hj8 := hW.le8
      rw [List.getElem?_map, List.getElem?_eq_getElem hj] at hx
      obtain rfl : V.str ps[j] = x := Option.some.inj hx
      have hmem : ps[j] ∈ ps := List.getElem_mem hj
      repeat' (walk_at "jv")
      refine ⟨.ref t, ps[j], ps, rs, rfl, Dp.tk tk _ _ (web_only ps rs) dW, hW, hmem, fun p H4 np sm e4 => ?_⟩
      have f4 : Fd H4 a (c + 10001 + 10000000 * j) := by
        obtain ⟨x, y, n, h1, h2⟩ := g7
        exact ⟨x, y, n, sm _ _ h1, h2⟩
      repeat' (walk_at "jv")
      refine ⟨a, p, k, nearL ps rs ps[j], _, _, rfl, f4, hk, e4, g7.ne np, near_len hW hmem, near_names hW, by omega, fun v d H5 hR dv f5 k5 => ?_⟩
      have e5 : H5 D = some (.lst us) := k5 D _ g1 (sm _ _ g3)
      have tk5 : TK K H3 H5 := (TK.same sm).trans (TK.ch k5 f4)
      have d5 := DpAll.tk tk5 _ _ g6.only g4
      repeat' (walk_at "jv")
      have hds : RulesTo k ps rs (ds ++ [d]) := g6.snoc (by rw [g5]; exact List.getElem?_eq_getElem hj) hR
      refine ⟨g1, g2, ⟨us ++ [v], ds ++ [d], upd_same, DpAll.tk (TK.lst e5) _ _ hds.only (DpAll.app d5 (.cons dv .nil)), by rw [List.length_append, g5]; rfl, hds⟩, (tk.trans tk5).trans (TK.lst e5), (f5.upd g1.symm).mono (by omega), ((g8.trans (Ch.of_same sm)).trans k5).upd_l g2, ((g9.same sm).ch k5 f4).lst e5⟩
    · obtain ⟨g1, g2, ⟨us, ds, g3, g4, g5, g6⟩, tk, g7, g8, g9⟩ := h
      rw [List.length_map] at g5 g7
      have hj8 := hW.le8
      repeat' (walk_at "jv")
      intro T nT
      have tkT : TK K H3 (upd H3 T (.tup us)) := TK.new nT
      have fT := g7.upd (q := T) (o := .tup us) (Ne.symm (g7.ne nT))
      have kT := g8.upd_n (o := .tup us) nT
      have sT : SqT K (upd H3 T (.tup us)) T us := .inl (.inl upd_same)
      have g9' := g9.same (Same.upd_new (o := .tup us) nT)
      generalize upd H3 T (.tup us) = H4 at *
      repeat' (walk_at "jv")
      intro T3 n3
      have tk3 : TK K H4 (upd H4 T3 (.tup [.int k, .ref t, .ref T])) := TK.new n3
      exact q _ k ps rs ds _ (g6.hall hk hW hfew g5) ⟨T3, T, .ref t, rfl, .inl (.inl upd_same), g9'.same (Same.upd_new n3), .tup (tk3 _ _ sT) (DpAll.tk (tkT.trans tk3) _ _ g6.only g4), g6.only⟩ ((fT.upd (Ne.symm (fT.ne n3))).mono (by omega)) (kT.upd_n n3)
end
end
section
open L2 PySem PySem.Spec PyProof.Rows
abbrev s_is_integer : Stmt := topS 10
theorem sc_is_integer : FnScope ["thing"] ["thing"] (defScope s_is_integer) := ⟨rfl, rfl, rfl, by decide +kernel, rfl, by decide +kernel, by decide +kernel⟩
abbrev s_power : Stmt := topS 11
theorem sc_power : FnScope ["base", "exponent", "result", "_"] ["base", "exponent"] (defScope s_power) := ⟨rfl, rfl, rfl, by decide +kernel, rfl, by decide +kernel, by decide +kernel⟩
abbrev s_are_states : Stmt := topS 12
theorem sc_are_states : FnScope ["thing", "k", "many", "state"] ["thing", "k", "many"] (defScope s_are_states) := ⟨rfl, rfl, rfl, by decide +kernel, rfl, by decide +kernel, by decide +kernel⟩
abbrev s_table_length : Stmt := topS 13
theorem sc_table_length : FnScope ["k", "near"] ["k", "near"] (defScope s_table_length) := ⟨rfl, rfl, rfl, by decide +kernel, rfl, by decide +kernel, by decide +kernel⟩
abbrev s_sum_length : Stmt := topS 14
theorem sc_sum_length : FnScope ["k", "near"] ["k", "near"] (defScope s_sum_length) := ⟨rfl, rfl, rfl, by decide +kernel, rfl, by decide +kernel, by decide +kernel⟩
section
variable {base : Heap} {P : Program} {w : World} {K : PySem.W.Frag} {mg : Str → Option Value}
theorem ok_power (D : Dn K mg "power" s_power ["base", "exponent"]) (B : Bn mg) : Cl P w K mg base 1 "power" ["base", "exponent"] spPower := by
  refine D.cl sc_power (fun vs H Q E h => ?_) (fun f cdv A outer s H vs Q E hr h => ?_)
  · obtain ⟨b, e, rfl, _⟩ := h
    rfl
  · obtain ⟨b, e, rfl, hb, he, q⟩ := h
    refine ⟨_, (pss_cons (ps_set (i := 2) sc_power.nd rfl (by first | exact Or.inl rfl | exact Or.inr rfl) pe_int)
      (pss_cons (ps_for PassesOwn.never rfl (pi_range1 rfl B.range_ (pa_cons (pv 1) pa_nil)) (pg_name (i := 3) sc_power.nd rfl (by first | exact Or.inl rfl | exact Or.inr rfl)) (pss_one (ps_set (i := 2) sc_power.nd rfl (by first | exact Or.inl rfl | exact Or.inr rfl) (pe_op op_mul (pv 2) (pv 0)))))
      (pss_one (ps_ret (pv 2))))), ?_⟩
    repeat' (walk_at "jv")
    refine f_range (fun i σ H' => ∃ y3, σ = [some (.int b), some (.int e), some (.int ((b ^ i : Nat) : Int)), y3] ∧ H = H') ⟨none, rfl, rfl⟩ (fun i σ H' hi h => ?_) (fun σ H' h => ?_)
    · obtain ⟨y3, rfl, rfl⟩ := h
      repeat' (walk_at "jv")
      refine ⟨some (.int (0 + (i : Int))), ?_, rfl⟩
      rw [Nat.pow_succ, Int.natCast_mul]
      rfl
    · obtain ⟨y3, rfl, rfl⟩ := h
      repeat' (walk_at "jv")
      exact q
theorem ok_is_integer (D : Dn K mg "is_integer" s_is_integer ["thing"]) (B : Bn mg) : Cl P w K mg base 1 "is_integer" ["thing"] spIsInt := by
  refine D.cl sc_is_integer (fun vs H Q E h => ?_) (fun f cdv A outer s H vs Q E hr h => ?_)
  · obtain ⟨i, rfl, _⟩ := h
    rfl
  · obtain ⟨i, rfl, q⟩ := h
    refine ⟨_, (pss_one (ps_ret (pe_and (pe_callB (k_isi (K := K)) rfl B.isinstance_ (by decide +kernel) (pa_cons (pv 0) (pa_cons (pe_ty (T := "int") B.int_ (by decide +kernel)) pa_nil))) (pe_one (pe_not (pe_callB (k_isi (K := K)) rfl B.isinstance_ (by decide +kernel) (pa_cons (pv 0) (pa_cons (pe_ty (T := "bool") B.bool_ (by decide +kernel)) pa_nil)))))))), ?_⟩
    repeat' (walk_at "jv")
    exact q
theorem ok_are_states (D : Dn K mg "are_states" s_are_states ["thing", "k", "many"]) (B : Bn mg) (C_is_integer : Cl P w K mg base 1 "is_integer" ["thing"] spIsInt) : Cl P w K mg base 2 "are_states" ["thing", "k", "many"] (spAreStates K) := by
  refine D.cl sc_are_states (fun vs H Q E h => ?_) (fun f cdv A outer s H vs Q E hr h => ?_)
  · obtain ⟨a, k, t, rfl, _⟩ := h
    rfl
  · obtain ⟨a, k, t, rfl, hs, hl, hk, q⟩ := h
    refine ⟨_, (pss_cons (ps_if (PW.pt (pw_or (pt_not (pt_val (pe_callB (k_isi (K := K)) rfl B.isinstance_ (by decide +kernel) (pa_cons (pv 0) (pa_cons (pe_ty (T := "tuple") B.tuple_ (by decide +kernel)) pa_nil))))) (pw_or1 (pt_cmpR op_ne (pe_callB (k_len (K := K)) rfl B.len_ (by decide +kernel) (pa_cons (pv 0) pa_nil)) (pv 2) (nomark _))))) (pss_one (ps_ret pe_bl)) pss_nil)
      (pss_one (ps_ret (pe_callB (k_all (K := K) rfl) rfl B.all_ (by decide +kernel) (pa_cons (pe_lc (own := [("state", 3)]) rfl sc_are_states.nd (kpi_tup (K := K) (pv 0)) (blkOk_by (N := ["thing", "k", "many", "state"]) (sc := defScope s_are_states) (by decide +kernel)) (fun _ _ _ _ _ => (pg_name (i := 3) sc_are_states.nd rfl (by first | exact Or.inl rfl | exact Or.inr rfl))) (fun _ _ _ _ _ => pts_nil) (fun _ _ _ _ _ => (pe_and (pe_c C_is_integer hr (pa_cons (pv 3) pa_nil)) (pe_one (pe_chain op_le op_lt pe_int (pv 3) (pv 1)))))) pa_nil))))), ?_⟩
    repeat' (walk_at "jv")
    · rename_i hne
      exact absurd (by rw [List.length_map]) hne
    · refine p_tup (t.map fun n => V.int ((n : Nat) : Int)) (fun _ => V.bl true) hs (by rw [List.length_map]; omega) (fun D2 acc i x N nD hx hN => ?_) (fun D2 nD => ?_)
      · rw [List.getElem?_map] at hx
        cases e : t[i]? with
        | none => rw [e] at hx; cases hx
        | some m =>
          rw [e] at hx
          obtain rfl : V.int ((m : Nat) : Int) = x := Option.some.inj hx
          have hm := hk m (List.mem_of_getElem? e)
          repeat' (walk_at "jv")
          refine ⟨(m : Int), rfl, ?_⟩
          repeat' (walk_at "jv")
          · rw [decide_eq_true (show (m : Int) < k by omega)]
            exact hN
          · rename_i h0
            exact absurd (by omega) h0
      · refine i_nil ?_
        exact all_true (sq_lst upd_same) (q _ (Same.upd_new nD))
end
end
section
open L2 PySem PySem.Spec PyProof.Rows
abbrev s__are_sums : Stmt := topS 17
theorem sc__are_sums : FnScope ["worth", "k", "near", "states"] ["worth", "k", "near"] (defScope s__are_sums) := ⟨rfl, rfl, rfl, by decide +kernel, rfl, by decide +kernel, by decide +kernel⟩
section
variable {base : Heap} {P : Program} {w : World} {K : PySem.W.Frag} {mg : Str → Option Value}
theorem ok_table_length (D : Dn K mg "table_length" s_table_length ["k", "near"]) (B : Bn mg) (C_power : Cl P w K mg base 1 "power" ["base", "exponent"] spPower) : Cl P w K mg base 2 "table_length" ["k", "near"] (spTableLen K) := by
  refine D.cl sc_table_length (fun vs H Q E h => ?_) (fun f cdv A outer s H vs Q E hr h => ?_)
  · obtain ⟨p, k, near, rfl, _⟩ := h
    rfl
  · obtain ⟨p, k, near, rfl, hs, hn, hk, q⟩ := h
    refine ⟨_, (pss_one (ps_ret (pe_c C_power hr (pa_cons (pv 0) (pa_cons (pe_op op_add (pe_callB (k_len (K := K)) rfl B.len_ (by decide +kernel) (pa_cons (pv 1) pa_nil)) pe_int) pa_nil))))), ?_⟩
    repeat' (walk_at "jv")
    refine ⟨k, near.length + 1, by rw [List.length_map]; rfl, hk, by omega, ?_⟩
    exact q
theorem ok_sum_length (D : Dn K mg "sum_length" s_sum_length ["k", "near"]) (B : Bn mg) : Cl P w K mg base 1 "sum_length" ["k", "near"] (spSumLen K) := by
  refine D.cl sc_sum_length (fun vs H Q E h => ?_) (fun f cdv A outer s H vs Q E hr h => ?_)
  · obtain ⟨p, k, near, rfl, _⟩ := h
    rfl
  · obtain ⟨p, k, near, rfl, hs, hn, hk2, hk, q⟩ := h
    refine ⟨_, (pss_one (ps_ret (pe_op op_add (pe_op op_mul (pe_callB (k_len (K := K)) rfl B.len_ (by decide +kernel) (pa_cons (pv 1) pa_nil)) (pe_op op_sub (pv 0) pe_int)) pe_int))), ?_⟩
    repeat' (walk_at "jv")
    rw [List.length_map]
    have e : (near.length : Int) * ((k : Int) - 1) + 1 = ((near.length * (k - 1) + 1 : Nat) : Int) := by
      rw [show (k : Int) - 1 = ((k - 1 : Nat) : Int) by omega, Int.natCast_add, Int.natCast_mul]
      rfl
    rw [e]
    exact q
theorem ok_are_sums (D : Dn K mg "_are_sums" s__are_sums ["worth", "k", "near"]) (B : Bn mg) (C_sum_length : Cl P w K mg base 1 "sum_length" ["k", "near"] (spSumLen K)) (C_are_states : Cl P w K mg base 2 "are_states" ["thing", "k", "many"] (spAreStates K)) :
    Cl P w K mg base 3 "_are_sums" ["worth", "k", "near"] (spAreSums K) := by
  refine D.cl sc__are_sums (fun vs H Q E h => ?_) (fun f cdv A outer s H vs Q E hr h => ?_)
  · obtain ⟨a, p, us, ts, k, near, rfl, _⟩ := h
    rfl
  · obtain ⟨a, p, us, ts, k, near, rfl, ha, hd, hp, hn, hk2, hk, hl, ht, q⟩ := h
    have hul : us.length = k := by rw [DpAll.len hd, List.length_map, hl]
    refine ⟨_, (pss_cons (ps_if (PW.pt (pw_or (pt_not (pt_val (pe_callB (k_isi (K := K)) rfl B.isinstance_ (by decide +kernel) (pa_cons (pv 0) (pa_cons (pe_ty (T := "tuple") B.tuple_ (by decide +kernel)) pa_nil))))) (pw_or1 (pt_cmpR op_ne (pe_callB (k_len (K := K)) rfl B.len_ (by decide +kernel) (pa_cons (pv 0) pa_nil)) (pv 1) (nomark _))))) (pss_one (ps_ret pe_bl)) pss_nil)
      (pss_one (ps_ret (pe_callB (k_all (K := K) rfl) rfl B.all_ (by decide +kernel) (pa_cons (pe_lc (own := [("states", 3)]) rfl sc__are_sums.nd (kpi_tup (K := K) (pv 0)) (blkOk_by (N := ["worth", "k", "near", "states"]) (sc := defScope s__are_sums) (by decide +kernel)) (fun _ _ _ _ _ => (pg_name (i := 3) sc__are_sums.nd rfl (by first | exact Or.inl rfl | exact Or.inr rfl))) (fun _ _ _ _ _ => pts_nil) (fun _ _ _ _ _ => (pe_c C_are_states hr (pa_cons (pv 3) (pa_cons (pv 1) (pa_cons (pe_c C_sum_length hr (pa_cons (pv 1) (pa_cons (pv 2) pa_nil))) pa_nil)))))) pa_nil))))), ?_⟩
    repeat' (walk_at "jv")
    · rename_i hne
      exact absurd (by rw [hul]) hne
    · refine c_tup us (fun D2 i H' => H D2 = none ∧ Same H H' ∧ H' D2 = some (.lst ((List.range i).map fun _ => V.bl true))) (fun D2 nD => ⟨nD, Same.upd_new nD, upd_same⟩) (fun D2 i H' _ h => ?_) (fun D2 i x H' hx h => ?_) (fun D2 H' h => ?_)
      · exact TK.same h.2.1 _ _ ha
      · obtain ⟨nD, sm, e⟩ := h
        have hi : i < us.length := (List.getElem?_eq_some_iff.mp hx).1
        have hit : i < ts.length := by omega
        obtain ⟨d, hdd, dx⟩ := DpAll.get (DpAll.tk (TK.same sm) _ _ (intss_only ts) hd) hx
        rw [List.getElem?_map, List.getElem?_eq_getElem hit] at hdd
        obtain rfl : intsD ts[i] = d := Option.some.inj hdd
        obtain ⟨w1, w2⟩ := ht ts[i] (List.getElem_mem hit)
        have hw15 : near.length * (k - 1) + 1 ≤ 15 := by
          have := Nat.mul_le_mul hn (show k - 1 ≤ 2 by omega)
          omega
        unfold intsD at dx
        cases dx with
        | tup hs hall =>
          rename_i bx xs
          have hxs : xs = ts[i].map fun n => V.int ((n : Nat) : Int) := by
            clear w1 w2 hs
            revert xs
            generalize ts[i] = t
            intro xs hall
            induction t generalizing xs with
            | nil => cases hall; rfl
            | cons y r ih =>
              cases hall with
              | cons h1 h2 =>
                cases h1
                rw [ih h2]
                rfl
          subst hxs
          have hp' := TK.same (K := K) sm _ _ hp
          repeat' (walk_at "jv")
          refine ⟨p, k, near, rfl, SqA.t hp', hn, hk2, hk, ?_⟩
          repeat' (walk_at "jv")
          refine ⟨bx, k, ts[i], by rw [w1]; rfl, hs, by omega, w2, fun H2 sm2 => ?_⟩
          have e2 := sm2 _ _ e
          refine i_lcE e2 (by rw [List.length_map, List.length_range, sizeLine_eq]; omega) ?_
          refine ⟨nD, fun b o z => ?_, by rw [upd_same, List.range_succ, List.map_append]; rfl⟩
          rw [upd_ne (fun w => by rw [w, nD] at z; cases z)]
          exact sm2 _ _ (sm _ _ z)
      · obtain ⟨nD, sm, e⟩ := h
        refine i_nil ?_
        exact all_true (sq_lst e) (q _ sm)
end
end
section
open L2 PySem PySem.Spec PyProof.Rows
abbrev s_is_name : Stmt := topS 27
theorem sc_is_name : FnScope ["thing", "sign"] ["thing"] (defScope s_is_name) := ⟨rfl, rfl, rfl, by decide +kernel, rfl, by decide +kernel, by decide +kernel⟩
abbrev s_is_one_of : Stmt := topS 32
theorem sc_is_one_of : FnScope ["thing", "places"] ["thing", "places"] (defScope s_is_one_of) := ⟨rfl, rfl, rfl, by decide +kernel, rfl, by decide +kernel, by decide +kernel⟩
abbrev s__is_road : Stmt := topS 31
theorem sc__is_road : FnScope ["thing", "places", "end"] ["thing", "places"] (defScope s__is_road) := ⟨rfl, rfl, rfl, by decide +kernel, rfl, by decide +kernel, by decide +kernel⟩
abbrev s__are_places : Stmt := topS 29
theorem sc__are_places : FnScope ["thing", "place"] ["thing"] (defScope s__are_places) := ⟨rfl, rfl, rfl, by decide +kernel, rfl, by decide +kernel, by decide +kernel⟩
abbrev s__are_roads : Stmt := topS 30
theorem sc__are_roads : FnScope ["thing", "places", "road"] ["thing", "places"] (defScope s__are_roads) := ⟨rfl, rfl, rfl, by decide +kernel, rfl, by decide +kernel, by decide +kernel⟩
abbrev s_is_web : Stmt := topS 28
theorem sc_is_web : FnScope ["thing", "places", "roads"] ["thing"] (defScope s_is_web) := ⟨rfl, rfl, rfl, by decide +kernel, rfl, by decide +kernel, by decide +kernel⟩
section
variable {X : Cx} {x : Str} {pos : Pos}
theorem gl_int {i : Int} {t : Tok} (hm : X.mg x = some (.int i t)) (hg : Gl X x := by rfl) (hd : (x == ("__debug__" : Str)) = false := by decide) : PE X (.Name x pos) (tC (.int i)) := pe_glob hg hm ⟨t, rfl⟩ hd
theorem gl_str {i : Str} {t : Tok} (hm : X.mg x = some (.str i t)) (hg : Gl X x := by rfl) (hd : (x == ("__debug__" : Str)) = false := by decide) : PE X (.Name x pos) (tC (.str i)) := pe_glob hg hm ⟨t, rfl⟩ hd
end
structure Gn (mg : Str → Option Value) : Prop where
  ln : ∃ t, mg "LONGEST_NAME" = some (.int 8 t)
  mp : ∃ t, mg "MOST_PLACES" = some (.int 8 t)
  mr : ∃ t, mg "MOST_ROADS" = some (.int 14 t)
  le : ∃ t, mg "LETTERS" = some (.str "abcdefghijklmnopqrstuvwxyz" t)
  ns : ∃ t, mg "NAME_SIGNS" = some (.str "abcdefghijklmnopqrstuvwxyz0123456789" t)
section
variable {base : Heap} {P : Program} {w : World} {K : PySem.W.Frag} {mg : Str → Option Value}
theorem ok_is_name (D : Dn K mg "is_name" s_is_name ["thing"]) (B : Bn mg) (Gg : Gn mg) : Cl P w K mg base 1 "is_name" ["thing"] spIsName := by
  obtain ⟨⟨t1, c_LONGEST_NAME⟩, _, _, ⟨t4, c_LETTERS⟩, ⟨t5, c_NAME_SIGNS⟩⟩ := Gg
  refine D.cl sc_is_name (fun vs H Q E h => ?_) (fun f cdv A outer s H vs Q E hr h => ?_)
  · obtain ⟨z, rfl, _⟩ := h
    rfl
  · obtain ⟨z, rfl, hz, q⟩ := h
    refine ⟨_, (pss_cons (ps_if (PW.pt (pw_or (pt_not (pt_val (pe_callB (k_isi (K := K)) rfl B.isinstance_ (by decide +kernel) (pa_cons (pv 0) (pa_cons (pe_ty (T := "str") B.str_ (by decide +kernel)) pa_nil))))) (pw_or1 (pt_not (pt_chain op_le op_le pe_int (pe_callB (call_len_str) rfl B.len_ (by decide +kernel) (pa_cons (pv 0) pa_nil)) (gl_int c_LONGEST_NAME)))))) (pss_one (ps_ret pe_bl)) pss_nil)
      (pss_one (ps_ret (pe_and (pe_cmpR op_in_sign (pe_its (pv 0) pe_int (fun _ _ => rfl)) (gl_str c_LETTERS) (by rfl)) (pe_one (pe_callB (k_all (K := K) rfl) rfl B.all_ (by decide +kernel) (pa_cons (pe_lc (own := [("sign", 1)]) rfl sc_is_name.nd (pi_str (pv 0)) (blkOk_by (N := ["thing", "sign"]) (sc := defScope s_is_name) (by decide +kernel)) (fun _ _ _ _ _ => (pg_name (i := 1) sc_is_name.nd rfl (by first | exact Or.inl rfl | exact Or.inr rfl))) (fun _ _ _ _ _ => pts_nil) (fun _ _ _ _ _ => (pe_cmpR op_in_sign (pv 1) (gl_str c_NAME_SIGNS) (by rfl)))) pa_nil))))))), ?_⟩
    obtain ⟨c, r, ez, hr7, hc, hrs⟩ := nm_parts hz
    have hsz : z.cps.size = r.length + 1 := by
      rw [← Array.length_toList, ez]
      rfl
    have hln : (z.length : Int) = r.length + 1 := by
      show ((z.cps.size : Nat) : Int) = _
      omega
    have hall : ∀ i d, z.cps[i]? = some d → nmSign d = true := fun i d hd => by
      have hm : d ∈ z.cps.toList := by
        rw [← Array.getElem?_toList] at hd
        exact List.mem_of_getElem? hd
      rw [ez] at hm
      rcases List.mem_cons.mp hm with e | hm
      · rw [e]
        exact sl_of hc
      · exact hrs d hm
    repeat' (walk_at "jv")
    refine ⟨z, rfl, by rw [sizeLine_eq]; show z.cps.size ≤ _; omega, ?_⟩
    repeat' (walk_at "jv")
    case _ => omega
    · refine ⟨z, 0, c, rfl, rfl, by omega, by decide, by show (0 : Int) < z.length; omega, ?_, ?_⟩
      · show z.cps[0]? = some c
        rw [← Array.getElem?_toList, ez]
        rfl
      · refine ⟨c, _, rfl, rfl, ?_⟩
        rw [decide_eq_true (by have := letter_in (c - 97) (by omega); rwa [show 97 + (c - 97) = c from by omega] at this)]
        repeat' (walk_at "jv")
        refine i_istr (i_var rfl (i_isK ?_))
        refine p_str z (fun _ => V.bl true) (by omega) (fun D2 acc i d N nD hx hN => ?_) (fun D2 nD => ?_)
        · repeat' (walk_at "jv")
          refine ⟨d, _, rfl, rfl, ?_⟩
          rw [decide_eq_true (sign_in (hall i d hx))]
          exact hN
        · refine i_nil ?_
          exact all_true (sq_lst upd_same) (q _ (Same.upd_new nD))
    all_goals omega
theorem ok_is_one_of (D : Dn K mg "is_one_of" s_is_one_of ["thing", "places"]) (B : Bn mg) : Cl P w K mg base 1 "is_one_of" ["thing", "places"] (spIsOneOf K) := by
  refine D.cl sc_is_one_of (fun vs H Q E h => ?_) (fun f cdv A outer s H vs Q E hr h => ?_)
  · obtain ⟨z, p, ps, rfl, _⟩ := h
    rfl
  · obtain ⟨z, p, ps, rfl, hs, hz, q⟩ := h
    refine ⟨_, (pss_one (ps_ret (pe_and (pe_callB (k_isi (K := K)) rfl B.isinstance_ (by decide +kernel) (pa_cons (pv 0) (pa_cons (pe_ty (T := "str") B.str_ (by decide +kernel)) pa_nil))) (pe_one (pe_cmpR (k_inS (K := K)) (pv 0) (pv 1) (by rfl)))))), ?_⟩
    repeat' (walk_at "jv")
    rw [decide_eq_true hz]
    exact q
theorem ok_is_road (D : Dn K mg "_is_road" s__is_road ["thing", "places"]) (B : Bn mg) (C_is_one_of : Cl P w K mg base 1 "is_one_of" ["thing", "places"] (spIsOneOf K)) : Cl P w K mg base 2 "_is_road" ["thing", "places"] (spIsRoad K) := by
  refine D.cl sc__is_road (fun vs H Q E h => ?_) (fun f cdv A outer s H vs Q E hr h => ?_)
  · obtain ⟨v, r, p, ps, rfl, _⟩ := h
    rfl
  · obtain ⟨v, ⟨x, y⟩, p, ps, rfl, hd, hs, h1, h2, hne, q⟩ := h
    obtain ⟨t, rfl, st⟩ : ∃ t, v = .ref t ∧ SqT K H t [.str x, .str y] := by
      cases hd with
      | tup s1 a1 =>
        cases a1 with
        | cons g1 g2 =>
          cases g1
          cases g2 with
          | cons g3 g4 =>
            cases g3
            cases g4
            exact ⟨_, rfl, s1⟩
    refine ⟨_, (pss_cons (ps_if (PW.pt (pw_or (pt_not (pt_val (pe_callB (k_isi (K := K)) rfl B.isinstance_ (by decide +kernel) (pa_cons (pv 0) (pa_cons (pe_ty (T := "tuple") B.tuple_ (by decide +kernel)) pa_nil))))) (pw_or1 (pt_cmpR op_ne (pe_callB (k_len (K := K)) rfl B.len_ (by decide +kernel) (pa_cons (pv 0) pa_nil)) pe_int (nomark _))))) (pss_one (ps_ret pe_bl)) pss_nil)
      (pss_one (ps_ret (pe_and (pe_callB (k_all (K := K) rfl) rfl B.all_ (by decide +kernel) (pa_cons (pe_lc (own := [("end", 2)]) rfl sc__is_road.nd (kpi_tup (K := K) (pv 0)) (blkOk_by (N := ["thing", "places", "end"]) (sc := defScope s__is_road) (by decide +kernel)) (fun _ _ _ _ _ => (pg_name (i := 2) sc__is_road.nd rfl (by first | exact Or.inl rfl | exact Or.inr rfl))) (fun _ _ _ _ _ => pts_nil) (fun _ _ _ _ _ => (pe_c C_is_one_of hr (pa_cons (pv 2) (pa_cons (pv 1) pa_nil))))) pa_nil)) (pe_one (pe_cmpR op_ne (pe_ix (k_ixT (K := K)) (pv 0) pe_int (fun _ _ => rfl)) (pe_ix (k_ixT (K := K)) (pv 0) pe_int (fun _ _ => rfl)) (nomark _))))))), ?_⟩
    repeat' (walk_at "jv")
    · rename_i hne2
      exact absurd rfl hne2
    · refine p_tup [.str x, .str y] (fun _ => V.bl true) st (by show 2 ≤ 100000; decide) (fun D2 acc i z N nD hx hN => ?_) (fun D2 nD => ?_)
      · have hz : ∃ u, z = .str u ∧ u ∈ ps := by
          have := List.mem_of_getElem? hx
          rcases List.mem_cons.mp this with e | e
          · exact ⟨x, e, h1⟩
          · exact ⟨y, List.mem_singleton.mp e, h2⟩
        obtain ⟨u, rfl, hu⟩ := hz
        repeat' (walk_at "jv")
        exact ⟨u, p, ps, rfl, (TK.new (K := K) nD) _ _ hs, hu, hN⟩
      · refine i_nil ?_
        have sm : Same H (upd H D2 (.lst ((List.range 2).map fun _ => V.bl true))) := Same.upd_new nD
        refine all_true (sq_lst upd_same) ?_
        have st2 := TK.same (K := K) sm _ _ st
        repeat' (walk_at "jv")
        rw [decide_eq_true hne]
        exact q _ sm
theorem ok_are_places (D : Dn K mg "_are_places" s__are_places ["thing"]) (B : Bn mg) (Gg : Gn mg) (C_is_name : Cl P w K mg base 1 "is_name" ["thing"] spIsName) : Cl P w K mg base 2 "_are_places" ["thing"] (spArePlaces K) := by
  obtain ⟨_, ⟨t2, c_MOST_PLACES⟩, _, _, _⟩ := Gg
  refine D.cl sc__are_places (fun vs H Q E h => ?_) (fun f cdv A outer s H vs Q E hr h => ?_)
  · obtain ⟨p, ps, rfl, _⟩ := h
    rfl
  · obtain ⟨p, ps, rfl, hs, hn, h0, h8, q⟩ := h
    refine ⟨_, (pss_cons (ps_if (PW.pt (pw_or (pt_not (pt_val (pe_callB (k_isi (K := K)) rfl B.isinstance_ (by decide +kernel) (pa_cons (pv 0) (pa_cons (pe_ty (T := "tuple") B.tuple_ (by decide +kernel)) pa_nil))))) (pw_or1 (pt_not (pt_chain op_le op_le pe_int (pe_callB (k_len (K := K)) rfl B.len_ (by decide +kernel) (pa_cons (pv 0) pa_nil)) (gl_int c_MOST_PLACES)))))) (pss_one (ps_ret pe_bl)) pss_nil)
      (pss_one (ps_ret (pe_and (pe_callB (k_all (K := K) rfl) rfl B.all_ (by decide +kernel) (pa_cons (pe_lc (own := [("place", 1)]) rfl sc__are_places.nd (kpi_tup (K := K) (pv 0)) (blkOk_by (N := ["thing", "place"]) (sc := defScope s__are_places) (by decide +kernel)) (fun _ _ _ _ _ => (pg_name (i := 1) sc__are_places.nd rfl (by first | exact Or.inl rfl | exact Or.inr rfl))) (fun _ _ _ _ _ => pts_nil) (fun _ _ _ _ _ => (pe_c C_is_name hr (pa_cons (pv 1) pa_nil)))) pa_nil)) (pe_one (pe_cmpR op_eq (pe_callB (cr_lenTexts) rfl B.len_ (by decide +kernel) (pa_cons (pe_callTy (cr_setTexts rfl) rfl B.set_ (by decide +kernel) (pa_cons (pv 0) pa_nil)) pa_nil)) (pe_callB (k_len (K := K)) rfl B.len_ (by decide +kernel) (pa_cons (pv 0) pa_nil)) (nomark _))))))), ?_⟩
    have hl : (ps.map V.str).length = ps.length := List.length_map ..
    repeat' (walk_at "jv")
    · omega
    · refine c_tup (ps.map V.str) (fun D2 i H' => H D2 = none ∧ Same H H' ∧ H' D2 = some (.lst ((List.range i).map fun _ => V.bl true))) (fun D2 nD => ⟨nD, Same.upd_new nD, upd_same⟩) (fun D2 i H' _ h => TK.same h.2.1 _ _ hs) (fun D2 i y H' hy h => ?_) (fun D2 H' h => ?_)
      · obtain ⟨nD, k, e⟩ := h
        have hi : i < ps.length := by
          have := (List.getElem?_eq_some_iff.mp hy).1
          omega
        rw [List.getElem?_map, List.getElem?_eq_getElem hi] at hy
        obtain rfl : V.str ps[i] = y := Option.some.inj hy
        repeat' (walk_at "jv")
        refine ⟨ps[i], rfl, hn.2 _ (List.getElem_mem hi), fun H2 k2 => ?_⟩
        refine i_lcE (k2 _ _ e) (by rw [List.length_map, List.length_range, sizeLine_eq]; omega) ⟨nD, fun b o z => ?_, ?_⟩
        · rw [upd_ne (fun w => by rw [w, nD] at z; cases z)]
          exact k2 _ _ (k _ _ z)
        · rw [upd_same, List.range_succ, List.map_append]
          rfl
      · obtain ⟨nD, k, e⟩ := h
        refine i_nil ?_
        refine all_true (sq_lst e) ?_
        have hs2 := TK.same (K := K) k _ _ hs
        repeat' (walk_at "jv")
        refine ⟨p, ps, rfl, hs2, hn.1, by omega, fun D3 nD3 => ?_⟩
        refine i_nil ?_
        refine ⟨D3, ps, rfl, upd_same, ?_⟩
        have sm3 := Same.upd_new (o := TxsO P w D3 ps) nD3
        have hs3 := TK.same (K := K) sm3 _ _ hs2
        repeat' (walk_at "jv")
        rw [decide_eq_true (by rw [hl])]
        exact q _ (k.trans sm3)
    all_goals omega
theorem two_sorted {x y : Str} {ys : List Str} (pm : ys.Perm [x, y]) : ys = [x, y] ∨ ys = [y, x] := by
  have hl := pm.length_eq
  match ys, hl with
  | [u, v], _ =>
    have hu := pm.mem_iff.mp (show u ∈ [u, v] from .head _)
    rcases List.mem_cons.mp hu with e | e
    · subst e
      have := List.perm_singleton.mp (List.Perm.cons_inv pm)
      rw [List.cons.injEq] at this
      exact .inl (by rw [this.1])
    · have e : u = y := List.mem_singleton.mp e
      subst e
      have p2 : [u, v].Perm [u, x] := pm.trans (List.Perm.swap u x [])
      have := List.perm_singleton.mp (List.Perm.cons_inv p2)
      rw [List.cons.injEq] at this
      exact .inr (by rw [this.1])
theorem ok_are_roads (D : Dn K mg "_are_roads" s__are_roads ["thing", "places"]) (B : Bn mg) (Gg : Gn mg) (C__is_road : Cl P w K mg base 2 "_is_road" ["thing", "places"] (spIsRoad K)) : Cl P w K mg base 3 "_are_roads" ["thing", "places"] (spAreRoads K) := by
  obtain ⟨_, _, ⟨t3, c_MOST_ROADS⟩, _, _⟩ := Gg
  refine D.cl sc__are_roads (fun vs H Q E h => ?_) (fun f cdv A outer s H vs Q E hr h => ?_)
  · obtain ⟨tr, tp, xs, ps, rs, rfl, _⟩ := h
    rfl
  · obtain ⟨tr, tp, xs, ps, rs, rfl, hx, dx, hs, W, q⟩ := h
    refine ⟨_, (pss_cons (ps_if (PW.pt (pw_or (pt_not (pt_val (pe_callB (k_isi (K := K)) rfl B.isinstance_ (by decide +kernel) (pa_cons (pv 0) (pa_cons (pe_ty (T := "tuple") B.tuple_ (by decide +kernel)) pa_nil))))) (pw_or1 (pt_cmpR op_gt (pe_callB (k_len (K := K)) rfl B.len_ (by decide +kernel) (pa_cons (pv 0) pa_nil)) (gl_int c_MOST_ROADS) (nomark _))))) (pss_one (ps_ret pe_bl)) pss_nil)
      (pss_cons (ps_if (pt_not (pt_val (pe_callB (k_all (K := K) rfl) rfl B.all_ (by decide +kernel) (pa_cons (pe_lc (own := [("road", 2)]) rfl sc__are_roads.nd (kpi_tup (K := K) (pv 0)) (blkOk_by (N := ["thing", "places", "road"]) (sc := defScope s__are_roads) (by decide +kernel)) (fun _ _ _ _ _ => (pg_name (i := 2) sc__are_roads.nd rfl (by first | exact Or.inl rfl | exact Or.inr rfl))) (fun _ _ _ _ _ => pts_nil) (fun _ _ _ _ _ => (pe_c C__is_road hr (pa_cons (pv 2) (pa_cons (pv 1) pa_nil))))) pa_nil)))) (pss_one (ps_ret pe_bl)) pss_nil)
      (pss_one (ps_ret (pe_cmpR op_eq (pe_callB (cr_lenTs) rfl B.len_ (by decide +kernel) (pa_cons (pe_sct (own := [("road", 2)]) rfl hr.units sc__are_roads.nd (kpi_tup (K := K) (pv 0)) (blkOk_by (N := ["thing", "places", "road"]) (sc := defScope s__are_roads) (by decide +kernel)) (fun _ _ _ _ _ => (pg_name (i := 2) sc__are_roads.nd rfl (by first | exact Or.inl rfl | exact Or.inr rfl))) (fun _ _ _ _ _ => pts_nil) (fun _ _ _ _ _ => (pe_callTy (k_tuple (K := K)) rfl B.tuple_ (by decide +kernel) (pa_cons (pe_callB (k_sortedTx (K := K)) rfl B.sorted_ (by decide +kernel) (pa_cons (pv 2) pa_nil)) pa_nil)))) pa_nil)) (pe_callB (k_len (K := K)) rfl B.len_ (by decide +kernel) (pa_cons (pv 0) pa_nil)) (nomark _)))))), ?_⟩
    have hl : xs.length = rs.length := by rw [DpAll.len dx, List.length_map]
    have h14 := W.le14
    repeat' (walk_at "jv")
    · omega
    · refine c_tup xs (fun D2 i H' => H D2 = none ∧ Same H H' ∧ H' D2 = some (.lst ((List.range i).map fun _ => V.bl true))) (fun D2 nD => ⟨nD, Same.upd_new nD, upd_same⟩) (fun D2 i H' _ h => TK.same h.2.1 _ _ hx) (fun D2 i y H' hy h => ?_) (fun D2 H' h => ?_)
      · obtain ⟨nD, k, e⟩ := h
        have hi : i < rs.length := by
          have := (List.getElem?_eq_some_iff.mp hy).1
          omega
        obtain ⟨d, hd, dy⟩ := DpAll.get dx hy
        rw [List.getElem?_map, List.getElem?_eq_getElem hi] at hd
        obtain rfl : roadD rs[i] = d := Option.some.inj hd
        have hm : rs[i] ∈ rs := List.getElem_mem hi
        obtain ⟨w1, w2, w3⟩ := W.ends _ hm
        repeat' (walk_at "jv")
        refine ⟨y, rs[i], tp, ps, rfl, Dp.same k _ _ dy, TK.same k _ _ hs, w1, w2, w3, fun H2 k2 => ?_⟩
        refine i_lcE (k2 _ _ e) (by rw [List.length_map, List.length_range, sizeLine_eq]; omega) ⟨nD, fun b o z => ?_, ?_⟩
        · rw [upd_ne (fun w => by rw [w, nD] at z; cases z)]
          exact k2 _ _ (k _ _ z)
        · rw [upd_same, List.range_succ, List.map_append]
          rfl
      · obtain ⟨nD, k, e⟩ := h
        refine i_nil ?_
        refine all_true (sq_lst e) ?_
        have hx2 := TK.same (K := K) k _ _ hx
        repeat' (walk_at "jv")
        refine i_sct ?_
        repeat' (walk_at "jv")
        refine s_tup xs (fun D3 i H3 => H' D3 = none ∧ Same H' H3 ∧ ∃ L : List (Addr × List Str), H3 D3 = some (TsO P w D3 L) ∧ L.length = i ∧ (∀ q ∈ L, SqT K H3 q.1 (q.2.map V.str)) ∧ ∀ q ∈ L, ∃ (j : Nat) (r : Str × Str), j < i ∧ rs[j]? = some r ∧ (q.2 = [r.1, r.2] ∨ q.2 = [r.2, r.1]))
          (fun D3 nD3 => ⟨nD3, Same.upd_new nD3, [], upd_same, rfl, fun q z => absurd z List.not_mem_nil, fun q z => absurd z List.not_mem_nil⟩) (fun D3 i H3 _ h => TK.same h.2.1 _ _ hx2) (fun D3 i y H3 hy h => ?_) (fun D3 H3 h => ?_)
        · obtain ⟨nD3, k3, L, eL, hL, sL, oL⟩ := h
          have hi : i < rs.length := by
            have := (List.getElem?_eq_some_iff.mp hy).1
            omega
          obtain ⟨d, hd, dy⟩ := DpAll.get dx hy
          rw [List.getElem?_map, List.getElem?_eq_getElem hi] at hd
          obtain rfl : roadD rs[i] = d := Option.some.inj hd
          obtain ⟨t, rfl, st⟩ := road_parts (Dp.same (k.trans k3) _ _ dy)
          repeat' (walk_at "jv")
          refine ⟨t, [rs[i].1, rs[i].2], rfl, st, fun ys p1 pm so np1 => ?_⟩
          refine i_nil ?_
          refine i_tupL (sq_lst upd_same) fun T nT => ?_
          have s1 := Same.upd_new (o := .lst (ys.map V.str)) np1
          have s2 := Same.upd_new (o := .tup (ys.map V.str)) nT
          refine ⟨T, ys, L, rfl, .inl (.inl upd_same), s2 _ _ (s1 _ _ eL), fun q hq => TK.same (s1.trans s2) _ _ (sL q hq), fun q hq e => ?_, by omega, fun L' pL => ⟨nD3, fun b o z => ?_, L', upd_same, by rw [pL.length_eq, List.length_cons, hL], fun q hq => ?_, fun q hq => ?_⟩⟩
          · obtain ⟨j, r, hj, hr2, hor⟩ := oL q hq
            have uq := List.pairwise_iff_getElem.mp W.uniq j i (by omega) hi hj
            have er : rs[j] = r := Option.some.inj ((List.getElem?_eq_getElem (by omega)).symm.trans hr2)
            rw [er] at uq
            have h2 := two_sorted pm
            rw [← e] at h2
            rcases hor with h1 | h1 <;> rcases h2 with h2 | h2 <;> rw [h1] at h2 <;> simp only [List.cons.injEq, and_true] at h2
            · exact uq.1 (Prod.ext h2.1 h2.2)
            · exact uq.2 (Prod.ext h2.1 h2.2)
            · exact uq.2 (Prod.ext h2.2 h2.1)
            · exact uq.1 (Prod.ext h2.2 h2.1)
          · rw [upd_ne (fun w => by rw [w, nD3] at z; cases z)]
            exact s2 _ _ (s1 _ _ (k3 _ _ z))
          · have tk : TK K (upd (upd H3 p1 (.lst (ys.map V.str))) T (.tup (ys.map V.str))) (upd (upd (upd H3 p1 (.lst (ys.map V.str))) T (.tup (ys.map V.str))) D3 (TsO P w D3 L')) := by
              have eD := s2 _ _ (s1 _ _ eL)
              refine TK.of_at (fun b zs z => ?_) fun b ob zs z => ?_
              · rw [upd_ne (fun w => by rw [w, eD] at z; cases z)]
                exact z
              · rw [upd_ne (fun w => by rw [w, eD] at z; cases z)]
                exact z
            rcases List.mem_cons.mp (pL.mem_iff.mp hq) with e | hq
            · subst e
              exact tk _ _ (.inl (.inl upd_same))
            · exact tk _ _ (TK.same (s1.trans s2) _ _ (sL q hq))
          · rcases List.mem_cons.mp (pL.mem_iff.mp hq) with e | hq
            · subst e
              exact ⟨i, rs[i], Nat.lt_succ_self i, List.getElem?_eq_getElem hi, two_sorted pm⟩
            · obtain ⟨j, r, h1, h2, h3⟩ := oL q hq
              exact ⟨j, r, Nat.lt_succ_of_lt h1, h2, h3⟩
        · obtain ⟨nD3, k3, L, eL, hL, sL, oL⟩ := h
          refine i_nil ?_
          refine ⟨D3, L, rfl, eL, ?_⟩
          have hx3 := TK.same (K := K) k3 _ _ hx2
          repeat' (walk_at "jv")
          rw [decide_eq_true (by rw [hL])]
          exact q _ (k.trans k3)
theorem ok_is_web (D : Dn K mg "is_web" s_is_web ["thing"]) (B : Bn mg) (C__are_places : Cl P w K mg base 2 "_are_places" ["thing"] (spArePlaces K)) (C__are_roads : Cl P w K mg base 3 "_are_roads" ["thing", "places"] (spAreRoads K)) : Cl P w K mg base 4 "is_web" ["thing"] (spIsWeb K) := by
  refine D.cl sc_is_web (fun vs H Q E h => ?_) (fun f cdv A outer s H vs Q E hr h => ?_)
  · obtain ⟨v, ps, rs, rfl, _⟩ := h
    rfl
  · obtain ⟨v, ps, rs, rfl, hd, W, q⟩ := h
    obtain ⟨t, tp, tr, xs, rfl, s1, s2, s3, d3, dr, dpl⟩ := web_parts hd
    refine ⟨_, (pss_cons (ps_if (PW.pt (pw_or (pt_not (pt_val (pe_callB (k_isi (K := K)) rfl B.isinstance_ (by decide +kernel) (pa_cons (pv 0) (pa_cons (pe_ty (T := "tuple") B.tuple_ (by decide +kernel)) pa_nil))))) (pw_or1 (pt_cmpR op_ne (pe_callB (k_len (K := K)) rfl B.len_ (by decide +kernel) (pa_cons (pv 0) pa_nil)) pe_int (nomark _))))) (pss_one (ps_ret pe_bl)) pss_nil)
      (pss_cons (ps_asg (pv 0) (kpg_tup (K := K) (n := 2) rfl (pgs_cons (pg_name (i := 1) sc_is_web.nd rfl (by first | exact Or.inl rfl | exact Or.inr rfl)) (pgs_cons (pg_name (i := 2) sc_is_web.nd rfl (by first | exact Or.inl rfl | exact Or.inr rfl)) pgs_nil))))
      (pss_one (ps_ret (pe_and (pe_c C__are_places hr (pa_cons (pv 1) pa_nil)) (pe_one (pe_c C__are_roads hr (pa_cons (pv 2) (pa_cons (pv 1) pa_nil))))))))), ?_⟩
    repeat' (walk_at "jv")
    · rename_i hne
      exact absurd rfl hne
    · refine ⟨tp, ps, rfl, s2, W.names, W.pos, W.le8, fun H2 k2 => ?_⟩
      repeat' (walk_at "jv")
      exact ⟨tr, tp, xs, ps, rs, rfl, TK.same k2 _ _ s3, DpAll.same k2 _ _ d3, TK.same k2 _ _ s2, W, fun H3 k3 => q _ (k2.trans k3)⟩
end
end
section
open L2 PySem PySem.Spec PyProof.Rows
abbrev s_are_joined : Stmt := topS 36
theorem sc_are_joined : FnScope ["web", "one", "other"] ["web", "one", "other"] (defScope s_are_joined) := ⟨rfl, rfl, rfl, by decide +kernel, rfl, by decide +kernel, by decide +kernel⟩
abbrev s_near_of : Stmt := topS 37
theorem sc_near_of : FnScope ["web", "place", "other"] ["web", "place"] (defScope s_near_of) := ⟨rfl, rfl, rfl, by decide +kernel, rfl, by decide +kernel, by decide +kernel⟩
abbrev s__is_worth : Stmt := topS 16
theorem sc__is_worth : FnScope ["sort", "worth", "k", "near"] ["sort", "worth", "k", "near"] (defScope s__is_worth) := ⟨rfl, rfl, rfl, by decide +kernel, rfl, by decide +kernel, by decide +kernel⟩
abbrev s_is_rule : Stmt := topS 15
theorem sc_is_rule : FnScope ["thing", "k", "near"] ["thing", "k", "near"] (defScope s_is_rule) := ⟨rfl, rfl, rfl, by decide +kernel, rfl, by decide +kernel, by decide +kernel⟩
abbrev s__are_rules : Stmt := topS 39
theorem sc__are_rules : FnScope ["thing", "k", "web", "place", "rule"] ["thing", "k", "web"] (defScope s__are_rules) := ⟨rfl, rfl, rfl, by decide +kernel, rfl, by decide +kernel, by decide +kernel⟩
def spNearOfF (K : PySem.W.Frag) : Sp := fun vs H Q _ => ∃ (v : V) (x : Str) (ps : List Str) (rs : List (Str × Str)), vs = [v, .str x] ∧ Dp K H v (webD ps rs) ∧ IsWeb ps rs ∧ x ∈ ps ∧
  ∀ (p : Addr) (H' : Hp), Same H H' → FT H' p ((nearL ps rs x).map V.str) → Q (.ref p) H'
section
variable {X : Cx} {x : Str} {pos : Pos}
theorem gl_ref {i : Addr} (hm : X.mg x = some (.ref i)) (hg : Gl X x := by rfl) (hd : (x == ("__debug__" : Str)) = false := by decide) : PE X (.Name x pos) (tC (.ref i)) := pe_glob hg hm rfl hd
end
structure Gr (K : PySem.W.Frag) (mg : Str → Option Value) : Prop where
  bs : ∃ T, mg "BARE_SORTS" = some (.ref T) ∧ ∀ H, SqT K H T ((["keep", "least", "greatest", "odd"] : List Str).map V.str)
  gm : ∃ t, mg "GREATEST_MOST" = some (.int 9 t)
section
variable {base : Heap} {P : Program} {w : World} {K : PySem.W.Frag} {mg : Str → Option Value}
theorem ok_are_joined (D : Dn K mg "are_joined" s_are_joined ["web", "one", "other"]) (B : Bn mg) : Cl P w K mg base 1 "are_joined" ["web", "one", "other"] (spJoined K) := by
  refine D.cl sc_are_joined (fun vs H Q E h => ?_) (fun f cdv A outer s H vs Q E hr h => ?_)
  · obtain ⟨v, x, y, ps, rs, rfl, _⟩ := h
    rfl
  · obtain ⟨v, x, y, ps, rs, rfl, hd, W, hx, hy, q⟩ := h
    obtain ⟨t, tp, tr, xs, rfl, s1, s2, s3, d3, dr, dpl⟩ := web_parts hd
    refine ⟨_, (pss_one (ps_ret (pe_or (pe_cmpR (k_inQ (K := K) hr.units) (pe_tup (pa_cons (pv 1) (pa_cons (pv 2) pa_nil))) (pe_ix (k_ixT (K := K)) (pv 0) pe_int (fun _ _ => rfl)) (by rfl)) (pe_one (pe_cmpR (k_inQ (K := K) hr.units) (pe_tup (pa_cons (pv 2) (pa_cons (pv 1) pa_nil))) (pe_ix (k_ixT (K := K)) (pv 0) pe_int (fun _ _ => rfl)) (by rfl)))))), ?_⟩
    repeat' (walk_at "jv")
    intro p np
    have sp := Same.upd_new (o := .tup [.str x, .str y]) np
    have s1p := TK.same (K := K) sp _ _ s1
    repeat' (walk_at "jv")
    refine ⟨roadD (x, y), rs.map roadD, .tup (xs := [.str x, .str y]) (.inl (.inl upd_same)) (.cons (.str _) (.cons (.str _) .nil)), .inr (Dp.same sp _ _ dr), road_lay (W.names.2 _ hx) (W.names.2 _ hy), roads_lay W, by show 0 + 1 ≤ 60; decide, ?_⟩
    rw [if_neg (by decide), roads_any]
    repeat' (walk_at "jv")
    · rename_i h1
      have e : isRoad rs x y = true := by simp [isRoad, h1]
      rw [← e]
      exact q _ sp
    · rename_i h1
      intro p2 np2
      have sp2 := Same.upd_new (o := .tup [.str y, .str x]) np2
      have s1q := TK.same (K := K) sp2 _ _ s1p
      repeat' (walk_at "jv")
      refine ⟨roadD (y, x), rs.map roadD, .tup (xs := [.str y, .str x]) (.inl (.inl upd_same)) (.cons (.str _) (.cons (.str _) .nil)), .inr (Dp.same sp2 _ _ (Dp.same sp _ _ dr)), road_lay (W.names.2 _ hy) (W.names.2 _ hx), roads_lay W, by show 0 + 1 ≤ 60; decide, ?_⟩
      rw [if_neg (by decide), roads_any]
      have e : isRoad rs x y = decide ((y, x) ∈ rs) := by simp [isRoad, h1]
      rw [← e]
      exact q _ (sp.trans sp2)
theorem ok_near_of (D : Dn K mg "near_of" s_near_of ["web", "place"]) (B : Bn mg) (C_are_joined : Cl P w K mg base 1 "are_joined" ["web", "one", "other"] (spJoined K)) : Cl P w K mg base 2 "near_of" ["web", "place"] (spNearOfF K) := by
  refine D.cl sc_near_of (fun vs H Q E h => ?_) (fun f cdv A outer s H vs Q E hr h => ?_)
  · obtain ⟨v, x, ps, rs, rfl, _⟩ := h
    rfl
  · obtain ⟨v, x, ps, rs, rfl, hd, W, hx, q⟩ := h
    obtain ⟨t, tp, tr, xs, rfl, s1, s2, s3, d3, dr, dpl⟩ := web_parts hd
    refine ⟨_, (pss_one (ps_ret (pe_callTy (k_tupleF (K := K)) rfl B.tuple_ (by decide +kernel) (pa_cons (pe_lc (own := [("other", 2)]) rfl sc_near_of.nd (kpi_tup (K := K) (pe_ix (k_ixT (K := K)) (pv 0) pe_int (fun _ _ => rfl))) (blkOk_by (N := ["web", "place", "other"]) (sc := defScope s_near_of) (by decide +kernel)) (fun _ _ _ _ _ => (pg_name (i := 2) sc_near_of.nd rfl (by first | exact Or.inl rfl | exact Or.inr rfl))) (fun _ _ _ _ _ => pts_one (pt_val (pe_c C_are_joined hr (pa_cons (pv 0) (pa_cons (pv 1) (pa_cons (pv 2) pa_nil)))))) (fun _ _ _ _ _ => (pv 2))) pa_nil)))), ?_⟩
    repeat' (walk_at "jv")
    refine c_tup (ps.map V.str) (fun D2 i H' => H D2 = none ∧ Same H H' ∧ H' D2 = some (.lst (((ps.take i).filter fun y => isRoad rs x y).map V.str))) (fun D2 nD => ⟨nD, Same.upd_new nD, upd_same⟩) (fun D2 i H' _ h => TK.same h.2.1 _ _ s2) (fun D2 i y H' hy h => ?_) (fun D2 H' h => ?_)
    · obtain ⟨nD, k, e⟩ := h
      have hi : i < ps.length := by
        have := (List.getElem?_eq_some_iff.mp hy).1
        rwa [List.length_map] at this
      rw [List.getElem?_map, List.getElem?_eq_getElem hi] at hy
      obtain rfl : V.str ps[i] = y := Option.some.inj hy
      have h8 := W.le8
      have hl : (((ps.take i).filter fun y => isRoad rs x y).map V.str).length < sizeLine := by
        rw [List.length_map, sizeLine_eq]
        have := List.length_filter_le (fun y => isRoad rs x y) (ps.take i)
        rw [List.length_take] at this
        omega
      have et : ((ps.take (i + 1)).filter fun y => isRoad rs x y) = ((ps.take i).filter fun y => isRoad rs x y) ++ (if isRoad rs x ps[i] = true then [ps[i]] else []) := by
        rw [List.take_add_one, List.getElem?_eq_getElem hi, List.filter_append]
        show _ ++ List.filter (fun y => isRoad rs x y) [ps[i]] = _
        by_cases h : isRoad rs x ps[i] = true
        · simp [h]
        · simp [h]
      repeat' (walk_at "jv")
      refine ⟨_, x, ps[i], ps, rs, rfl, Dp.same k _ _ hd, W, hx, List.getElem_mem hi, fun H2 k2 => ?_⟩
      have e2 := k2 _ _ e
      refine ⟨_, rfl, ?_⟩
      cases er : isRoad rs x ps[i] with
      | true =>
        rw [if_pos er] at et
        repeat' (walk_at "jv")
        refine ⟨nD, fun b o z => ?_, ?_⟩
        · rw [upd_ne (fun w => by rw [w, nD] at z; cases z)]
          exact k2 _ _ (k _ _ z)
        · rw [upd_same, et, List.map_append]
          rfl
      | false =>
        rw [if_neg (by rw [er]; decide), List.append_nil] at et
        repeat' (walk_at "jv")
        exact ⟨nD, k.trans k2, by rw [et]; exact e2⟩
    · obtain ⟨nD, k, e⟩ := h
      rw [List.length_map, List.take_length] at e
      refine i_nil ?_
      refine ⟨_, _, rfl, sq_lst e, fun T ob nT okb => ?_⟩
      exact q T _ (k.trans (Same.upd_new nT)) (FT.new okb)
theorem nats_of {K : PySem.W.Frag} {H : Hp} : ∀ (t : List Nat) (xs : List V), DpAll K H xs (t.map fun n => PyData.int ((n : Nat) : Int)) → xs = natsV t
  | [], _, h => by cases h; rfl
  | y :: r, _, h => by
    cases h with
    | cons h1 h2 =>
      cases h1
      rw [nats_of r _ h2]
      rfl
theorem ok_is_worth (D : Dn K mg "_is_worth" s__is_worth ["sort", "worth", "k", "near"]) (B : Bn mg) (G : Gr K mg) (C_table_length : Cl P w K mg base 2 "table_length" ["k", "near"] (spTableLen K)) (C_are_states : Cl P w K mg base 2 "are_states" ["thing", "k", "many"] (spAreStates K))
    (C__are_sums : Cl P w K mg base 3 "_are_sums" ["worth", "k", "near"] (spAreSums K)) (C_is_integer : Cl P w K mg base 1 "is_integer" ["thing"] spIsInt) : Cl P w K mg base 4 "_is_worth" ["sort", "worth", "k", "near"] (spWorth K) := by
  obtain ⟨_, t9, c_GREATEST_MOST⟩ := G
  refine D.cl sc__is_worth (fun vs H Q E h => ?_) (fun f cdv A outer s H vs Q E hr h => ?_)
  · obtain ⟨z, x, d, p, k, near, rfl, _⟩ := h
    rfl
  · obtain ⟨z, x, d, p, k, near, rfl, hd, hR, hp, hn, hk2, hk3, q⟩ := h
    refine ⟨_, (pss_cons (ps_if (pt_cmpR op_eq (pv 0) pe_str (nomark _)) (pss_one (ps_ret (pe_c C_are_states hr (pa_cons (pv 1) (pa_cons (pv 2) (pa_cons (pe_c C_table_length hr (pa_cons (pv 2) (pa_cons (pv 3) pa_nil))) pa_nil)))))) pss_nil)
      (pss_cons (ps_if (pt_cmpR op_eq (pv 0) pe_str (nomark _)) (pss_one (ps_ret (pe_c C__are_sums hr (pa_cons (pv 1) (pa_cons (pv 2) (pa_cons (pv 3) pa_nil)))))) pss_nil)
      (pss_cons (ps_if (pt_cmpR op_eq (pv 0) pe_str (nomark _)) (pss_one (ps_ret (pe_and (pe_c C_is_integer hr (pa_cons (pv 1) pa_nil)) (pe_one (pe_chain op_le op_le pe_int (pv 1) (gl_int c_GREATEST_MOST)))))) pss_nil)
      (pss_one (ps_ret (pe_and (pe_cmpR op_eq (pv 0) pe_str (nomark _)) (pe_and (pe_callB (k_isi (K := K)) rfl B.isinstance_ (by decide +kernel) (pa_cons (pv 1) (pa_cons (pe_ty (T := "str") B.str_ (by decide +kernel)) pa_nil))) (pe_one (pe_cmpR (k_inS (K := K)) (pv 1) (pv 3) (by rfl)))))))))), ?_⟩
    have hp' := SqA.t hp
    cases hR with
    | table t hl hk =>
      obtain ⟨a, us, rfl, sa, da⟩ := tup_parts (ds := t.map fun n => PyData.int ((n : Nat) : Int)) hd
      have := nats_of t us da
      subst this
      have hb : t.length ≤ 10000 := by
        rw [hl]
        have h1 : k ^ (near.length + 1) ≤ 3 ^ (near.length + 1) := Nat.pow_le_pow_left hk3 _
        have h2 : 3 ^ (near.length + 1) ≤ 3 ^ 8 := Nat.pow_le_pow_right (by decide) (by omega)
        have h3 : (3 : Nat) ^ 8 ≤ 10000 := by decide
        omega
      repeat' (walk_at "jv")
      · refine ⟨p, k, near, rfl, hp', hn, hk3, ?_⟩
        repeat' (walk_at "jv")
        exact ⟨a, k, t, by rw [hl]; rfl, sa, hb, hk, q⟩
      all_goals exact absurd (rfl : ("table" : Str) = "table") (by assumption)
    | sum ts hl hk =>
      obtain ⟨a, us, rfl, sa, da⟩ := tup_parts (ds := ts.map intsD) hd
      repeat' (walk_at "jv")
      · rename_i h
        exact absurd h (by decide)
      · exact ⟨a, p, us, ts, k, near, rfl, sa, da, hp, hn, hk2, hk3, hl, hk, q⟩
      all_goals exact absurd (rfl : ("sum" : Str) = "sum") (by assumption)
    | most n hn9 =>
      cases hd
      repeat' (walk_at "jv")
      · rename_i h
        exact absurd h (by decide)
      · rename_i h
        exact absurd h (by decide)
      · refine ⟨_, rfl, ?_⟩
        repeat' (walk_at "jv")
        · rw [decide_eq_true (show (n : Int) ≤ 9 by omega)]
          exact q _ (Same.refl _)
        · rename_i h
          exact absurd (show (0 : Int) ≤ n by omega) h
      all_goals exact absurd (rfl : ("most" : Str) = "most") (by assumption)
    | copy z hz =>
      cases hd
      repeat' (walk_at "jv")
      · rename_i h
        exact absurd h (by decide)
      · rename_i h
        exact absurd h (by decide)
      · rename_i h
        exact absurd h (by decide)
      · rw [decide_eq_true hz]
        exact q _ (Same.refl _)
      all_goals exact absurd (rfl : ("copy" : Str) = "copy") (by assumption)
def bareS : List Str := ["keep", "least", "greatest", "odd"]
theorem rule_form {k : Nat} {near : List Str} {d : PyData} (h : RuleD k near d) : (∃ s, d = .tuple [.str s] ∧ s ∈ bareS) ∨ ∃ s x, d = .tuple [.str s, x] ∧ s ∉ bareS := by
  cases h with
  | keep => exact .inl ⟨_, rfl, by decide⟩
  | least => exact .inl ⟨_, rfl, by decide⟩
  | greatest => exact .inl ⟨_, rfl, by decide⟩
  | odd => exact .inl ⟨_, rfl, by decide⟩
  | table t _ _ => exact .inr ⟨_, _, rfl, by decide⟩
  | sum t _ _ => exact .inr ⟨_, _, rfl, by decide⟩
  | most t _ => exact .inr ⟨_, _, rfl, by decide⟩
  | copy t _ => exact .inr ⟨_, _, rfl, by decide⟩
theorem ok_is_rule (D : Dn K mg "is_rule" s_is_rule ["thing", "k", "near"]) (B : Bn mg) (G : Gr K mg) (C__is_worth : Cl P w K mg base 4 "_is_worth" ["sort", "worth", "k", "near"] (spWorth K)) : Cl P w K mg base 5 "is_rule" ["thing", "k", "near"] (spIsRule K) := by
  obtain ⟨⟨T, c_BARE, hT⟩, _⟩ := G
  refine D.cl sc_is_rule (fun vs H Q E h => ?_) (fun f cdv A outer s H vs Q E hr h => ?_)
  · obtain ⟨v, d, p, k, near, rfl, _⟩ := h
    rfl
  · obtain ⟨v, d, p, k, near, rfl, hd, hR, hp, hn, hz, hk2, hk3, q⟩ := h
    refine ⟨_, (pss_cons (ps_if (PW.pt (pw_or (pt_not (pt_val (pe_callB (k_isi (K := K)) rfl B.isinstance_ (by decide +kernel) (pa_cons (pv 0) (pa_cons (pe_ty (T := "tuple") B.tuple_ (by decide +kernel)) pa_nil))))) (pw_or (pt_cmpR op_eq (pe_callB (k_len (K := K)) rfl B.len_ (by decide +kernel) (pa_cons (pv 0) pa_nil)) pe_int (nomark _)) (pw_or1 (pt_not (pt_val (pe_callB (k_isi (K := K)) rfl B.isinstance_ (by decide +kernel) (pa_cons (pe_ix (k_ixT (K := K)) (pv 0) pe_int (fun _ _ => rfl)) (pa_cons (pe_ty (T := "str") B.str_ (by decide +kernel)) pa_nil))))))))) (pss_one (ps_ret pe_bl)) pss_nil)
      (pss_cons (ps_if (pt_cmpR (k_inS (K := K)) (pe_ix (k_ixT (K := K)) (pv 0) pe_int (fun _ _ => rfl)) (gl_ref c_BARE) (by rfl)) (pss_one (ps_ret (pe_cmpR op_eq (pe_callB (k_len (K := K)) rfl B.len_ (by decide +kernel) (pa_cons (pv 0) pa_nil)) pe_int (nomark _)))) pss_nil)
      (pss_one (ps_ret (pe_and (pe_cmpR op_eq (pe_callB (k_len (K := K)) rfl B.len_ (by decide +kernel) (pa_cons (pv 0) pa_nil)) pe_int (nomark _)) (pe_one (pe_c C__is_worth hr (pa_cons (pe_ix (k_ixT (K := K)) (pv 0) pe_int (fun _ _ => rfl)) (pa_cons (pe_ix (k_ixT (K := K)) (pv 0) pe_int (fun _ _ => rfl)) (pa_cons (pv 1) (pa_cons (pv 2) pa_nil))))))))))), ?_⟩
    rcases rule_form hR with ⟨s1, rfl, hs⟩ | ⟨s1, x1, rfl, hs⟩
    · obtain ⟨a, us, rfl, sa, da⟩ := tup_parts (ds := [.str s1]) hd
      obtain rfl : us = [.str s1] := by
        cases da with
        | cons h1 h2 => cases h1; cases h2; rfl
      have hb : SqA K H T (bareS.map V.str) := SqA.t (hT H)
      repeat' (walk_at "jv")
      · rename_i h
        exact absurd h (by simp)
      · exact q _ (Same.refl _)
      all_goals exact absurd hs (by assumption)
    · obtain ⟨a, us, rfl, sa, da⟩ := tup_parts (ds := [.str s1, x1]) hd
      obtain ⟨y1, rfl, hy⟩ : ∃ y1, us = [.str s1, y1] ∧ Dp K H y1 x1 := by
        cases da with
        | cons h1 h2 =>
          cases h1
          cases h2 with
          | cons h3 h4 => cases h4; exact ⟨_, rfl, h3⟩
      have hb : SqA K H T (bareS.map V.str) := SqA.t (hT H)
      repeat' (walk_at "jv")
      · rename_i h
        exact absurd h (by simp)
      · rename_i h
        exact absurd h hs
      · exact ⟨s1, y1, x1, p, k, near, rfl, hy, hR, hp, hn, hk2, hk3, q⟩
      · rename_i h
        exact absurd rfl h
theorem ok_are_rules (D : Dn K mg "_are_rules" s__are_rules ["thing", "k", "web"]) (B : Bn mg) (C_is_rule : Cl P w K mg base 5 "is_rule" ["thing", "k", "near"] (spIsRule K)) (C_near_of : Cl P w K mg base 2 "near_of" ["web", "place"] (spNearOfF K)) : Cl P w K mg base 6 "_are_rules" ["thing", "k", "web"] (spAreRules K) := by
  refine D.cl sc__are_rules (fun vs H Q E h => ?_) (fun f cdv A outer s H vs Q E hr h => ?_)
  · obtain ⟨t, v, us, k, ps, rs, ds, rfl, _⟩ := h
    rfl
  · obtain ⟨t, v, us, k, ps, rs, ds, rfl, ht, hds, hd, hH, q⟩ := h
    obtain ⟨wt, tp, tr, xs, rfl, s1, s2, s3, d3, dr, dpl⟩ := web_parts hd
    refine ⟨_, (pss_cons (ps_if (PW.pt (pw_or (pt_not (pt_val (pe_callB (k_isi (K := K)) rfl B.isinstance_ (by decide +kernel) (pa_cons (pv 0) (pa_cons (pe_ty (T := "tuple") B.tuple_ (by decide +kernel)) pa_nil))))) (pw_or1 (pt_cmpR op_ne (pe_callB (k_len (K := K)) rfl B.len_ (by decide +kernel) (pa_cons (pv 0) pa_nil)) (pe_callB (k_len (K := K)) rfl B.len_ (by decide +kernel) (pa_cons (pe_ix (k_ixT (K := K)) (pv 2) pe_int (fun _ _ => rfl)) pa_nil)) (nomark _))))) (pss_one (ps_ret pe_bl)) pss_nil)
      (pss_one (ps_ret (pe_callB (k_all (K := K) rfl) rfl B.all_ (by decide +kernel) (pa_cons (pe_lc (own := [("place", 3), ("rule", 4)]) rfl sc__are_rules.nd (kpi_zip (K := K) B.zip_ (pa_cons (pe_ix (k_ixT (K := K)) (pv 2) pe_int (fun _ _ => rfl)) (pa_cons (pv 0) pa_nil))) (blkOk_by (N := ["thing", "k", "web", "place", "rule"]) (sc := defScope s__are_rules) (by decide +kernel)) (fun _ _ _ _ _ => (kpg_tup (K := K) (n := 2) rfl (pgs_cons (pg_name (i := 3) sc__are_rules.nd rfl (by first | exact Or.inl rfl | exact Or.inr rfl)) (pgs_cons (pg_name (i := 4) sc__are_rules.nd rfl (by first | exact Or.inl rfl | exact Or.inr rfl)) pgs_nil)))) (fun _ _ _ _ _ => pts_nil) (fun _ _ _ _ _ => (pe_c C_is_rule hr (pa_cons (pv 4) (pa_cons (pv 1) (pa_cons (pe_c C_near_of hr (pa_cons (pv 2) (pa_cons (pv 3) pa_nil))) pa_nil)))))) pa_nil))))), ?_⟩
    have hl : us.length = ps.length := by rw [DpAll.len hds, hH.len]
    have W := hH.web
    have h8 := W.le8
    have hk2 : 2 ≤ k ∧ k ≤ 3 := by rcases hH.two with e | e <;> omega
    repeat' (walk_at "jv")
    · rename_i hne
      exact absurd (by rw [hl, List.length_map]) hne
    · refine i_zip ?_
      repeat' (walk_at "jv")
      refine i_zipT s2 ht ?_
      refine c_zip (ps.map V.str) us (by rw [List.length_map, hl]) (fun D2 i H' => H D2 = none ∧ Same H H' ∧ H' D2 = some (.lst ((List.range i).map fun _ => V.bl true))) (fun D2 nD => ⟨nD, Same.upd_new nD, upd_same⟩) (fun D2 i H' h => ⟨TK.same h.2.1 _ _ s2, TK.same h.2.1 _ _ ht⟩) (fun D2 i x y H' T hx hy h nT => ?_) (fun D2 H' h => ?_)
      · obtain ⟨nD, sm, e⟩ := h
        have hi : i < ps.length := by
          have := (List.getElem?_eq_some_iff.mp hx).1
          rwa [List.length_map] at this
        rw [List.getElem?_map, List.getElem?_eq_getElem hi] at hx
        obtain rfl : V.str ps[i] = x := Option.some.inj hx
        have sT := Same.upd_new (o := .tup [V.str ps[i], y]) nT
        have smT := sm.trans sT
        obtain ⟨d, hdd, dx⟩ := DpAll.get (DpAll.same smT _ _ hds) hy
        have hRu := hH.rules i ps[i] d (List.getElem?_eq_getElem hi) hdd
        have hnl : (nearL ps rs ps[i]).length ≤ ps.length := List.length_filter_le _ _
        repeat' (walk_at "jv")
        refine ⟨_, ps[i], ps, rs, rfl, Dp.same smT _ _ hd, W, List.getElem_mem hi, fun p2 H2 sm2 hs2 => ?_⟩
        repeat' (walk_at "jv")
        refine ⟨y, d, p2, k, nearL ps rs ps[i], rfl, Dp.same sm2 _ _ dx, hRu, hs2.sq, near_len W (List.getElem_mem hi), near_names W, hk2.1, hk2.2, fun H3 sm3 => ?_⟩
        have sm4 := sT.trans (sm2.trans sm3)
        have e2 := sm4 _ _ e
        refine i_lcE e2 (by rw [List.length_map, List.length_range, sizeLine_eq]; omega) ?_
        refine ⟨nD, fun b o z => ?_, by rw [upd_same, List.range_succ, List.map_append]; rfl⟩
        rw [upd_ne (fun w => by rw [w, nD] at z; cases z)]
        exact sm4 _ _ (sm _ _ z)
      · obtain ⟨nD, sm, e⟩ := h
        refine i_nil ?_
        exact all_true (sq_lst e) (q _ sm)
end
end
section
open L2 PySem PySem.Spec PyProof.Rows
abbrev s__table_index : Stmt := topS 19
theorem sc__table_index : FnScope ["k", "states", "index", "state"] ["k", "states"] (defScope s__table_index) := ⟨rfl, rfl, rfl, by decide +kernel, rfl, by decide +kernel, by decide +kernel⟩
abbrev s_next_state : Stmt := topS 18
theorem sc_next_state : FnScope ["rule", "k", "near", "states", "sort", "own", "others", "state"] ["rule", "k", "near", "states"] (defScope s_next_state) := ⟨rfl, rfl, rfl, by decide +kernel, rfl, by decide +kernel, by decide +kernel⟩
section
variable {base : Heap} {P : Program} {w : World} {K : PySem.W.Frag} {mg : Str → Option Value}
theorem ok_table_index (D : Dn K mg "_table_index" s__table_index ["k", "states"]) (B : Bn mg) : Cl P w K mg base 1 "_table_index" ["k", "states"] (spTabIx K) := by
  refine D.cl sc__table_index (fun vs H Q E h => ?_) (fun f cdv A outer s H vs Q E hr h => ?_)
  · obtain ⟨L, k, ss, rfl, _⟩ := h
    rfl
  · obtain ⟨L, k, ss, rfl, hL, hk3, q⟩ := h
    refine ⟨_, (pss_cons (ps_set (i := 2) sc__table_index.nd rfl (by first | exact Or.inl rfl | exact Or.inr rfl) pe_int)
      (pss_cons (ps_for PassesOwn.never rfl (kpi_list (K := K) (k_revL (K := K) (pv 1))) (pg_name (i := 3) sc__table_index.nd rfl (by first | exact Or.inl rfl | exact Or.inr rfl)) (pss_one (ps_set (i := 2) sc__table_index.nd rfl (by first | exact Or.inl rfl | exact Or.inr rfl) (pe_op op_add (pe_op op_mul (pv 2) (pv 0)) (pv 3)))))
      (pss_one (ps_ret (pv 2))))), ?_⟩
    repeat' (walk_at "jv")
    refine i_revL (i_var rfl ⟨L, _, rfl, hL, fun R nR => ?_⟩)
    have kR := Same.upd_new (o := .lst (natsV ss).reverse) nR
    have eR : (natsV ss).reverse = natsV ss.reverse := by
      unfold natsV
      rw [List.map_reverse]
    rw [eR] at kR ⊢
    have sR : SqL K (upd H R (.lst (natsV ss.reverse))) R (natsV ss.reverse) := sq_lst upd_same
    generalize upd H R (.lst (natsV ss.reverse)) = H1 at *
    repeat' (walk_at "jv")
    refine f_list (natsV ss.reverse) (fun i σ H' => ∃ y3, σ = [some (.int k), some (.ref L), some (.int (numN k (ss.reverse.take i) : Nat)), y3] ∧ H1 = H') ⟨none, rfl, rfl⟩ (fun i σ H' _ h => ?_) (fun i x σ H' hx h => ?_) (fun σ H' h => ?_)
    · obtain ⟨y3, rfl, rfl⟩ := h
      exact sR
    · obtain ⟨y3, rfl, rfl⟩ := h
      generalize ss.reverse = t at *
      have hi : i < t.length := by
        have := (List.getElem?_eq_some_iff.mp hx).1
        unfold natsV at this
        rwa [List.length_map] at this
      unfold natsV at hx
      rw [List.getElem?_map, List.getElem?_eq_getElem hi] at hx
      obtain rfl : V.int ((t[i] : Nat) : Int) = x := Option.some.inj hx
      repeat' (walk_at "jv")
      refine ⟨some (.int ((t[i] : Nat) : Int)), ?_, rfl⟩
      have e : numN k (t.take (i + 1)) = numN k (t.take i) * k + t[i] := by
        rw [List.take_add_one, List.getElem?_eq_getElem hi]
        exact numN_snoc k _ _
      rw [e, Int.natCast_add, Int.natCast_mul]
      rfl
    · obtain ⟨y3, rfl, rfl⟩ := h
      unfold natsV
      rw [List.length_map, List.take_length]
      repeat' (walk_at "jv")
      exact q _ kR
theorem rule_head {k : Nat} {near : List Str} {d : PyData} (h : RuleD k near d) : ∃ s r, d = .tuple (.str s :: r) := by
  cases h <;> exact ⟨_, _, rfl⟩
theorem sum_le {c : Nat} : ∀ {l : List Nat}, (∀ s ∈ l, s ≤ c) → l.sum ≤ l.length * c
  | [], _ => by simp
  | x :: r, h => by
    have h1 := h x List.mem_cons_self
    have h2 := sum_le fun s hs => h s (List.mem_cons_of_mem _ hs)
    rw [List.sum_cons, List.length_cons, Nat.succ_mul]
    omega
theorem cut_one {x : V} (r : List V) : cutV (x :: r) (some 1) none = r := by
  unfold cutV
  rw [show (1 : Int) = ((1 : Nat) : Int) from rfl, HT.sIx_nat, HT.sIx_none, List.length_cons, Nat.min_eq_left (by omega)]
  show List.take (r.length + 1 - 1) r = r
  rw [Nat.add_sub_cancel]
  exact List.take_of_length_le (Nat.le_refl _)
theorem ok_next_state (D : Dn K mg "next_state" s_next_state ["rule", "k", "near", "states"]) (B : Bn mg) (C__table_index : Cl P w K mg base 1 "_table_index" ["k", "states"] (spTabIx K)) : Cl P w K mg base 2 "next_state" ["rule", "k", "near", "states"] (spNext K) := by
  refine D.cl sc_next_state (fun vs H Q E h => ?_) (fun f cdv A outer s H vs Q E hr h => ?_)
  · obtain ⟨v, d, p, L, k, near, ss, rfl, _⟩ := h
    rfl
  · obtain ⟨v, d, p, L, k, near, ss, rfl, hd, hR, hp, nd, hL, hl, hs, hk2, hk3, h7, q⟩ := h
    refine ⟨_, (pss_cons (ps_par3 (i := 4) (j := 5) (l := 6) rfl sc_next_state.nd rfl rfl rfl (by decide) (by decide) (by decide) rfl rfl rfl (pa_cons (pe_ix (k_ixT (K := K)) (pv 0) pe_int (fun _ _ => rfl)) (pa_cons (pe_ix (k_ixL (K := K)) (pv 3) pe_int (fun _ _ => rfl)) (pa_cons (pe_slice (k_slL (K := K)) (pv 3) (po_some pe_int) po_none) pa_nil))) (by rfl))
      (pss_cons (ps_if (pt_cmpR op_eq (pv 4) pe_str (nomark _)) (pss_one (ps_ret (pe_ix (k_ixT (K := K)) (pe_ix (k_ixT (K := K)) (pv 0) pe_int (fun _ _ => rfl)) (pe_c C__table_index hr (pa_cons (pv 1) (pa_cons (pv 3) pa_nil))) (fun _ _ => rfl)))) pss_nil)
      (pss_cons (ps_if (pt_cmpR op_eq (pv 4) pe_str (nomark _)) (pss_one (ps_ret (pe_ix (k_ixT (K := K)) (pe_ix (k_ixT (K := K)) (pe_ix (k_ixT (K := K)) (pv 0) pe_int (fun _ _ => rfl)) (pv 5) (fun _ _ => rfl)) (pe_callB ((k_sumL (K := K) rfl)) rfl B.sum_ (by decide +kernel) (pa_cons (pv 6) pa_nil)) (fun _ _ => rfl)))) pss_nil)
      (pss_cons (ps_if (pt_cmpR op_eq (pv 4) pe_str (nomark _)) (pss_one (ps_ret (pv 5))) pss_nil)
      (pss_cons (ps_if (pt_cmpR op_eq (pv 4) pe_str (nomark _)) (pss_one (ps_ret (pe_callB ((k_minL (K := K) rfl)) rfl B.min_ (by decide +kernel) (pa_cons (pv 3) pa_nil)))) pss_nil)
      (pss_cons (ps_if (pt_cmpR op_eq (pv 4) pe_str (nomark _)) (pss_one (ps_ret (pe_callB ((k_maxL (K := K) rfl)) rfl B.max_ (by decide +kernel) (pa_cons (pv 3) pa_nil)))) pss_nil)
      (pss_cons (ps_if (pt_cmpR op_eq (pv 4) pe_str (nomark _)) (pss_one (ps_ret (pe_op op_mod (pe_callB ((k_sumL (K := K) rfl)) rfl B.sum_ (by decide +kernel) (pa_cons (pv 3) pa_nil)) (pv 1)))) pss_nil)
      (pss_cons (ps_if (pt_cmpR op_eq (pv 4) pe_str (nomark _)) (pss_one (ps_ret (pe_ifExp (pt_cmpR op_ge (pe_callB (k_len (K := K)) rfl B.len_ (by decide +kernel) (pa_cons (pe_lc (own := [("state", 7)]) rfl sc_next_state.nd (kpi_list (K := K) (pv 6)) (blkOk_by (N := ["rule", "k", "near", "states", "sort", "own", "others", "state"]) (sc := defScope s_next_state) (by decide +kernel)) (fun _ _ _ _ _ => (pg_name (i := 7) sc_next_state.nd rfl (by first | exact Or.inl rfl | exact Or.inr rfl))) (fun _ _ _ _ _ => pts_one (pt_cmpR op_ne (pv 7) pe_int (nomark _))) (fun _ _ _ _ _ => (pv 7))) pa_nil)) (pe_ix (k_ixT (K := K)) (pv 0) pe_int (fun _ _ => rfl)) (nomark _)) pe_int pe_int))) pss_nil)
      (pss_one (ps_ret (pe_ix (k_ixL (K := K)) (pv 6) (pe_bmF PySem.F.plainAttrs_tuple PySem.F.slot_tuple_index PySem.F.type_tuple_index (k_tindex (K := K)) (pv 2) (pa_cons (pe_ix (k_ixT (K := K)) (pv 0) pe_int (fun _ _ => rfl)) pa_nil)) (fun _ _ => rfl)))))))))))), ?_⟩
    obtain ⟨own, oth, rfl⟩ : ∃ own oth, ss = own :: oth := by
      cases ss with
      | nil => simp at hl
      | cons x r => exact ⟨x, r, rfl⟩
    obtain ⟨s0, rest, rfl⟩ := rule_head hR
    obtain ⟨a, us, rfl, sa, da⟩ := tup_parts hd
    obtain ⟨vr, rfl, dr⟩ : ∃ vr, us = .str s0 :: vr ∧ DpAll K H vr rest := by
      cases da with
      | cons h1 h2 => cases h1; exact ⟨_, rfl, h2⟩
    refine i_seq ?_
    refine i_cutS (fun σ H' => ∃ l, σ = [some (.ref a), some (.int k), some (.ref p), some (.ref L), some (.str s0), some (.int own), some (.ref l), none] ∧ Same H H' ∧ SqL K H' l (natsV oth)) (fun N hN => ?_) ?_
    · repeat' (walk_at "jv")
      intro l nl
      have ec : cutV (natsV (own :: oth)) (some 1) none = natsV oth := cut_one (x := V.int (own : Int)) (natsV oth)
      rw [ec]
      refine i_nil ?_
      refine ⟨_, _, _, rfl, ?_⟩
      exact hN _ _ ⟨l, rfl, Same.upd_new nl, sq_lst upd_same⟩
    rintro σ H1 ⟨l, rfl, k1, sl⟩
    have sa1 := TK.same (K := K) k1 _ _ sa
    have dr1 := DpAll.same k1 _ _ dr
    have hL1 := k1.seq hL
    have hp1 := hp.same k1
    cases hR with
    | keep =>
      repeat' (walk_at "jv")
      all_goals first
        | (rename_i h; exact absurd h (by decide))
        | exact absurd (rfl : ("keep" : Str) = "keep") (by assumption)
        | (rw [nextV_keep] at q; exact q _ k1)
    | least =>
      repeat' (walk_at "jv")
      all_goals first
        | (rename_i h; exact absurd h (by decide))
        | exact absurd (rfl : ("least" : Str) = "least") (by assumption)
        | (rw [nextV_least] at q; exact i_minL hL1 (by simp) (q _ k1))
    | greatest =>
      repeat' (walk_at "jv")
      all_goals first
        | (rename_i h; exact absurd h (by decide))
        | exact absurd (rfl : ("greatest" : Str) = "greatest") (by assumption)
        | (rw [nextV_greatest] at q; exact i_maxL hL1 (by simp) (q _ k1))
    | odd =>
      repeat' (walk_at "jv")
      all_goals first
        | (rename_i h; exact absurd h (by decide))
        | exact absurd (rfl : ("odd" : Str) = "odd") (by assumption)
        | skip
      refine i_sumN hL1 ?_
      repeat' (walk_at "jv")
      have e : (((own :: oth).sum : Nat) : Int) % (k : Int) = (((own :: oth).sum % k : Nat) : Int) := (Int.natCast_emod _ _).symm
      rw [e]
      rw [nextV_odd] at q
      exact q _ k1
    | table t ht hk =>
      obtain ⟨y, rfl, dy⟩ : ∃ y, vr = [y] ∧ Dp K H1 y (intsD t) := by
        cases dr1 with
        | cons h1 h2 => cases h2; exact ⟨_, rfl, h1⟩
      obtain ⟨b, us2, rfl, sb, db⟩ := tup_parts (ds := t.map fun n => PyData.int ((n : Nat) : Int)) dy
      have := nats_of t us2 db
      subst this
      have hlt := tabIx_lt hs
      rw [hl, ← ht] at hlt
      repeat' (walk_at "jv")
      · refine ⟨L, k, own :: oth, rfl, hL1, hk3, fun H2 k2 => ?_⟩
        refine i_ixT (TK.same k2 _ _ sb) (atI_nat (v := V.int ((t[tabIx k (own :: oth)] : Nat) : Int)) ?_) ?_
        · unfold natsV
          rw [List.getElem?_map, List.getElem?_eq_getElem hlt]
          rfl
        · rw [nextV_table, List.getD_eq_getElem?_getD, List.getElem?_eq_getElem hlt] at q
          exact q _ (k1.trans k2)
      all_goals first
        | (rename_i h; exact absurd h (by decide))
        | exact absurd (rfl : ("table" : Str) = "table") (by assumption)
    | sum ts ht hk =>
      obtain ⟨y, rfl, dy⟩ : ∃ y, vr = [y] ∧ Dp K H1 y (.tuple (ts.map intsD)) := by
        cases dr1 with
        | cons h1 h2 => cases h2; exact ⟨_, rfl, h1⟩
      obtain ⟨b, us2, rfl, sb, db⟩ := tup_parts (ds := ts.map intsD) dy
      have ho : own < ts.length := by
        rw [ht]
        exact hs own List.mem_cons_self
      obtain ⟨w1, w2⟩ := hk ts[own] (List.getElem_mem ho)
      have hu : us2.length = ts.length := by rw [DpAll.len db, List.length_map]
      have hx : us2[own]? = some us2[own] := List.getElem?_eq_getElem (by omega)
      obtain ⟨d, hdd, dx⟩ := DpAll.get db hx
      rw [List.getElem?_map, List.getElem?_eq_getElem ho] at hdd
      obtain rfl : intsD ts[own] = d := Option.some.inj hdd
      obtain ⟨b2, us3, ex, sb2, db2⟩ := tup_parts (ds := ts[own].map fun n => PyData.int ((n : Nat) : Int)) dx
      have := nats_of _ us3 db2
      subst this
      rw [ex] at hx
      have hz : atI us2 (own : Int) = some (V.ref b2) := atI_nat hx
      have hsum : oth.sum ≤ oth.length * (k - 1) := sum_le fun s h => by
        have := hs s (List.mem_cons_of_mem _ h)
        omega
      have hol : oth.length = near.length := by
        rw [List.length_cons] at hl
        omega
      rw [hol] at hsum
      have hlt : oth.sum < ts[own].length := by omega
      repeat' (walk_at "jv")
      all_goals first
        | (rename_i h; exact absurd h (by decide))
        | exact absurd (rfl : ("sum" : Str) = "sum") (by assumption)
        | skip
      refine i_sumN sl ?_
      refine i_ixT sb2 (atI_nat (v := V.int ((ts[own][oth.sum] : Nat) : Int)) ?_) ?_
      · unfold natsV
        rw [List.getElem?_map, List.getElem?_eq_getElem hlt]
        rfl
      · rw [nextV_sum, List.getD_eq_getElem?_getD (l := ts), List.getElem?_eq_getElem ho, Option.getD_some, List.getD_eq_getElem?_getD, List.getElem?_eq_getElem hlt] at q
        exact q _ k1
    | most n hn9 =>
      obtain rfl : vr = [.int n] := by
        cases dr1 with
        | cons h1 h2 => cases h1; cases h2; rfl
      repeat' (walk_at "jv")
      all_goals first
        | (rename_i h; exact absurd h (by decide))
        | exact absurd (rfl : ("most" : Str) = "most") (by assumption)
        | skip
      refine c_list (natsV oth) (fun D i H' => H1 D = none ∧ Same H1 H' ∧ H' D = some (.lst (natsV ((oth.take i).filter fun s => decide (s ≠ 0))))) (fun D nD => ⟨nD, Same.upd_new nD, upd_same⟩) (fun D i H' _ h => h.2.1.seq sl) (fun D i x H' hx h => ?_) (fun D H' h => ?_)
      · obtain ⟨nD, kD, eD⟩ := h
        have hi : i < oth.length := by
          have := (List.getElem?_eq_some_iff.mp hx).1
          unfold natsV at this
          rwa [List.length_map] at this
        unfold natsV at hx
        rw [List.getElem?_map, List.getElem?_eq_getElem hi] at hx
        obtain rfl : V.int ((oth[i] : Nat) : Int) = x := Option.some.inj hx
        have hf : ((oth.take i).filter fun s => decide (s ≠ 0)).length ≤ i := Nat.le_trans (List.length_filter_le _ _) (by rw [List.length_take]; omega)
        have h8 : oth.length = near.length := by
          rw [List.length_cons] at hl
          omega
        have et : ((oth.take (i + 1)).filter fun s => decide (s ≠ 0)) = ((oth.take i).filter fun s => decide (s ≠ 0)) ++ (if oth[i] ≠ 0 then [oth[i]] else []) := by
          rw [List.take_add_one, List.getElem?_eq_getElem hi, List.filter_append]
          congr 1
          by_cases z : oth[i] = 0
          · simp [z]
          · simp [z]
        repeat' (walk_at "jv")
        · rename_i hz
          have hz' : oth[i] ≠ 0 := fun e => hz (by rw [e]; rfl)
          refine i_lcE eD (by unfold natsV; rw [List.length_map, sizeLine_eq]; omega) ⟨nD, fun b o z => ?_, ?_⟩
          · rw [upd_ne (fun w => by rw [w, nD] at z; cases z)]
            exact kD _ _ z
          · rw [upd_same, et, if_pos hz']
            unfold natsV
            rw [List.map_append]
            rfl
        · rename_i hz
          have hz' : ¬ oth[i] ≠ 0 := fun e => hz (fun w => e (by omega))
          rw [if_neg hz', List.append_nil] at et
          exact ⟨nD, kD, by rw [et]; exact eD⟩
      · obtain ⟨nD, kD, eD⟩ := h
        unfold natsV at eD
        rw [List.length_map, List.take_length] at eD
        have sa2 := TK.same (K := K) kD _ _ sa1
        have eq : nextV k near (.tuple [.str "most", .int n]) (own :: oth) = if (n : Int) ≤ ((oth.filter fun s => decide (s ≠ 0)).length : Int) then 1 else 0 := rfl
        refine i_nil ?_
        refine i_lenL (sq_lst eD) ?_
        rw [List.length_map]
        repeat' (walk_at "jv")
        · rename_i hc
          rw [eq, if_pos hc] at q
          exact q _ (k1.trans kD)
        · rename_i hc
          rw [eq, if_neg hc] at q
          exact q _ (k1.trans kD)
    | copy z hz =>
      obtain rfl : vr = [.str z] := by
        cases dr1 with
        | cons h1 h2 => cases h1; cases h2; rfl
      have hol : oth.length = near.length := by
        rw [List.length_cons] at hl
        omega
      have hix : near.idxOf z < oth.length := by
        rw [hol]
        exact List.idxOf_lt_length_iff.mpr hz
      repeat' (walk_at "jv")
      all_goals first
        | (rename_i h; exact absurd h (by decide))
        | skip
      refine i_bmF (i_var rfl (i_tyF hp1 ?_))
      repeat' (walk_at "jv")
      refine i_tix hp1.sq hz ?_
      refine i_ixL sl (atI_nat (v := V.int ((oth[near.idxOf z] : Nat) : Int)) ?_) ?_
      · unfold natsV
        rw [List.getElem?_map, List.getElem?_eq_getElem hix]
        rfl
      · have eq : nextV k near (.tuple [.str "copy", .str z]) (own :: oth) = oth.getD (near.idxOf z) 0 := rfl
        rw [eq, List.getD_eq_getElem?_getD, List.getElem?_eq_getElem hix] at q
        exact q _ k1
end
end
section
open L2 PySem PySem.Spec PyProof.Rows
abbrev s__looks_at : Stmt := topS 50
theorem sc__looks_at : FnScope ["web", "number", "near", "place"] ["web", "number"] (defScope s__looks_at) := ⟨rfl, rfl, rfl, by decide +kernel, rfl, by decide +kernel, by decide +kernel⟩
section
variable {base : Heap} {P : Program} {w : World} {K : PySem.W.Frag} {mg : Str → Option Value}
theorem ok_looks_at (D : Dn K mg "_looks_at" s__looks_at ["web", "number"]) (B : Bn mg) (C_near_of : Cl P w K mg base 2 "near_of" ["web", "place"] (spNearOfF K)) : Cl P w K mg base 3 "_looks_at" ["web", "number"] (spLooks K) := by
  refine D.cl sc__looks_at (fun vs H Q E h => ?_) (fun f cdv A outer s H vs Q E hr h => ?_)
  · obtain ⟨v, z, ps, rs, rfl, _⟩ := h
    rfl
  · obtain ⟨v, z, ps, rs, rfl, hw, W, hz, q⟩ := h
    unfold seenL at q
    have hd := hw.dp
    obtain ⟨t, tp, tr, rfl, s1, fp, dr⟩ := hw
    have sp := fp.sq (K := K)
    have h8 := W.le8
    refine ⟨_, (pss_cons (ps_set (i := 2) sc__looks_at.nd rfl (by first | exact Or.inl rfl | exact Or.inr rfl) (pe_c C_near_of hr (pa_cons (pv 0) (pa_cons (pe_ix (k_ixT (K := K)) (pe_ix (k_ixT (K := K)) (pv 0) pe_int (fun _ _ => rfl)) (pv 1) (fun _ _ => rfl)) pa_nil))))
      (pss_one (ps_ret (pe_tup (pa_cons (pv 2) (pa_cons (pe_op op_cat (pe_lst (pa_cons (pv 1) pa_nil)) (pe_lc (own := [("place", 3)]) rfl sc__looks_at.nd (kpi_tup (K := K) (pv 2)) (blkOk_by (N := ["web", "number", "near", "place"]) (sc := defScope s__looks_at) (by decide +kernel)) (fun _ _ _ _ _ => (pg_name (i := 3) sc__looks_at.nd rfl (by first | exact Or.inl rfl | exact Or.inr rfl))) (fun _ _ _ _ _ => pts_nil) (fun _ _ _ _ _ => (pe_bmF PySem.F.plainAttrs_tuple PySem.F.slot_tuple_index PySem.F.type_tuple_index (k_tindex (K := K)) (pe_ix (k_ixT (K := K)) (pv 0) pe_int (fun _ _ => rfl)) (pa_cons (pv 3) pa_nil))))) pa_nil)))))), ?_⟩
    have hix : atI (ps.map V.str) ((ps.idxOf z : Nat) : Int) = some (V.str z) := at_str (idx_first hz).1
    repeat' (walk_at "jv")
    refine ⟨.ref t, z, ps, rs, rfl, hd, W, hz, fun p H1 k1 f1 => ?_⟩
    have s11 := TK.same (K := K) k1 _ _ s1
    have fp1 := fp.same k1
    repeat' (walk_at "jv")
    intro L1 nL1
    have kL := Same.upd_new (o := .lst [V.int ((ps.idxOf z : Nat) : Int)]) nL1
    have e1 : (upd H1 L1 (.lst [V.int ((ps.idxOf z : Nat) : Int)])) L1 = some (.lst [V.int ((ps.idxOf z : Nat) : Int)]) := upd_same
    have s12 := TK.same (K := K) kL _ _ s11
    have fp2 := fp1.same kL
    have f2 := f1.same kL
    have k2 := k1.trans kL
    generalize upd H1 L1 (.lst [V.int ((ps.idxOf z : Nat) : Int)]) = H2 at *
    have nl := near_len W hz
    have nm : ∀ y ∈ nearL ps rs z, y ∈ ps := fun y hy => (List.mem_filter.mp hy).1
    generalize nearL ps rs z = near at *
    have f2s := f2.sq (K := K)
    repeat' (walk_at "jv")
    refine c_tup (near.map V.str) (fun D i H' => H2 D = none ∧ Same H2 H' ∧ H' D = some (.lst (natsV ((near.take i).map fun y => ps.idxOf y)))) (fun D nD => ⟨nD, Same.upd_new nD, upd_same⟩) (fun D i H' _ h => TK.same h.2.1 _ _ f2s) (fun D i x H' hx h => ?_) (fun D H' h => ?_)
    · obtain ⟨nD, kD, eD⟩ := h
      have hi : i < near.length := by
        have := (List.getElem?_eq_some_iff.mp hx).1
        rwa [List.length_map] at this
      rw [List.getElem?_map, List.getElem?_eq_getElem hi] at hx
      obtain rfl : V.str near[i] = x := Option.some.inj hx
      have s13 := TK.same (K := K) kD _ _ s12
      repeat' (walk_at "jv")
      refine i_bmF ?_
      repeat' (walk_at "jv")
      refine i_tyF (fp2.same kD) ?_
      repeat' (walk_at "jv")
      refine i_tix (fp2.same kD).sq (nm _ (List.getElem_mem hi)) ?_
      refine i_lcE eD (by unfold natsV; rw [List.length_map, List.length_map, List.length_take, sizeLine_eq]; omega) ⟨nD, fun b o z => ?_, ?_⟩
      · rw [upd_ne (fun w => by rw [w, nD] at z; cases z)]
        exact kD _ _ z
      · rw [upd_same, List.take_add_one, List.getElem?_eq_getElem hi]
        unfold natsV
        rw [List.map_append, List.map_append]
        rfl
    · obtain ⟨nD, kD, eD⟩ := h
      rw [List.length_map, List.take_length] at eD
      refine ⟨L1, D, _, _, rfl, rfl, kD _ _ e1, eD, by unfold natsV; rw [List.length_map, List.length_map, sizeLine_eq]; show 1 + _ ≤ _; omega, fun p3 np3 => ?_⟩
      have k3 := Same.upd_new (o := .lst ([V.int ((ps.idxOf z : Nat) : Int)] ++ natsV (near.map fun y => ps.idxOf y))) np3
      repeat' (walk_at "jv")
      intro p4 np4
      have k4 := Same.upd_new (o := .tup [.ref p, .ref p3]) np4
      exact q p4 p p3 _ (k2.trans (kD.trans (k3.trans k4))) (sq_tup upd_same) (f2.same (kD.trans (k3.trans k4))) (k4.seq (sq_lst upd_same))
end
end
section
open L2 PySem PySem.Spec PyProof.Rows
abbrev s_is_hall : Stmt := topS 38
theorem sc_is_hall : FnScope ["thing", "k", "web", "rules"] ["thing"] (defScope s_is_hall) := ⟨rfl, rfl, rfl, by decide +kernel, rfl, by decide +kernel, by decide +kernel⟩
abbrev s_need_hall : Stmt := topS 40
theorem sc_need_hall : FnScope ["hall"] ["hall"] (defScope s_need_hall) := ⟨rfl, rfl, rfl, by decide +kernel, rfl, by decide +kernel, by decide +kernel⟩
abbrev s_is_state : Stmt := topS 42
theorem sc_is_state : FnScope ["hall", "thing"] ["hall", "thing"] (defScope s_is_state) := ⟨rfl, rfl, rfl, by decide +kernel, rfl, by decide +kernel, by decide +kernel⟩
abbrev s_need_state : Stmt := topS 41
theorem sc_need_state : FnScope ["hall", "state"] ["hall", "state"] (defScope s_need_state) := ⟨rfl, rfl, rfl, by decide +kernel, rfl, by decide +kernel, by decide +kernel⟩
abbrev s_is_order : Stmt := topS 35
theorem sc_is_order : FnScope ["web", "thing", "place"] ["web", "thing"] (defScope s_is_order) := ⟨rfl, rfl, rfl, by decide +kernel, rfl, by decide +kernel, by decide +kernel⟩
abbrev s_need_order : Stmt := topS 34
theorem sc_need_order : FnScope ["web", "order"] ["web", "order"] (defScope s_need_order) := ⟨rfl, rfl, rfl, by decide +kernel, rfl, by decide +kernel, by decide +kernel⟩
abbrev s_need_place : Stmt := topS 33
theorem sc_need_place : FnScope ["web", "place"] ["web", "place"] (defScope s_need_place) := ⟨rfl, rfl, rfl, by decide +kernel, rfl, by decide +kernel, by decide +kernel⟩
abbrev s_need_day : Stmt := topS 48
theorem sc_need_day : FnScope ["hall", "order"] ["hall", "order"] (defScope s_need_day) := ⟨rfl, rfl, rfl, by decide +kernel, rfl, by decide +kernel, by decide +kernel⟩
abbrev s_need_start : Stmt := topS 49
theorem sc_need_start : FnScope ["hall", "order", "state"] ["hall", "order", "state"] (defScope s_need_start) := ⟨rfl, rfl, rfl, by decide +kernel, rfl, by decide +kernel, by decide +kernel⟩
def spNeedPlace (K : PySem.W.Frag) : Sp := fun vs H Q _ => ∃ (v : V) (z : Str) (ps : List Str) (rs : List (Str × Str)), vs = [v, .str z] ∧ Dp K H v (webD ps rs) ∧ z ∈ ps ∧ Q .non H
def spNeedDay (K : PySem.W.Frag) : Sp := fun vs H Q _ => ∃ (v : V) (o : Addr) (qs : List Str) (k : Nat) (ps : List Str) (rs : List (Str × Str)) (ds : List PyData), vs = [v, .ref o] ∧ Dp K H v (hallD k ps rs ds) ∧ IsHall k ps rs ds ∧ SqT K H o (qs.map V.str) ∧ qs.Perm ps ∧ ∀ H', Same H H' → Q .non H'
def spNeedStart (K : PySem.W.Frag) : Sp := fun vs H Q _ => ∃ (v : V) (o s : Addr) (qs : List Str) (k : Nat) (ps : List Str) (rs : List (Str × Str)) (ds : List PyData) (t : List Nat), vs = [v, .ref o, .ref s] ∧ Dp K H v (hallD k ps rs ds) ∧ IsHall k ps rs ds ∧ SqT K H o (qs.map V.str) ∧ qs.Perm ps ∧ SqT K H s (natsV t) ∧ t.length = ps.length ∧ (∀ n ∈ t, n < k) ∧ ∀ H', Same H H' → Q .non H'
section
variable {base : Heap} {P : Program} {w : World} {K : PySem.W.Frag} {mg : Str → Option Value}
theorem ok_is_hall (D : Dn K mg "is_hall" s_is_hall ["thing"]) (B : Bn mg) (hm : ∃ t, mg "MOST_STATES" = some (.int 256 t)) (C_is_integer : Cl P w K mg base 1 "is_integer" ["thing"] spIsInt) (C_is_web : Cl P w K mg base 4 "is_web" ["thing"] (spIsWeb K))
    (C_power : Cl P w K mg base 1 "power" ["base", "exponent"] spPower) (C__are_rules : Cl P w K mg base 6 "_are_rules" ["thing", "k", "web"] (spAreRules K)) : Cl P w K mg base 7 "is_hall" ["thing"] (spIsHall K (.bl true)) := by
  obtain ⟨t0, c_MOST_STATES⟩ := hm
  refine D.cl sc_is_hall (fun vs H Q E h => ?_) (fun f cdv A outer s H vs Q E hr h => ?_)
  · obtain ⟨v, k, ps, rs, ds, rfl, _⟩ := h
    rfl
  · obtain ⟨v, k, ps, rs, ds, rfl, hd, hH, q⟩ := h
    obtain ⟨t, wv, tr, us, rfl, sh, hw, sr, dr⟩ := hall_parts hd
    obtain ⟨wt, tp, trr, xs, rfl, s1, s2, s3, d3, drr, dpl⟩ := web_parts hw
    have hk2 : 2 ≤ k ∧ k ≤ 3 := by rcases hH.two with e | e <;> omega
    have h8 := hH.web.le8
    refine ⟨_, (pss_cons (ps_if (PW.pt (pw_or (pt_not (pt_val (pe_callB (k_isi (K := K)) rfl B.isinstance_ (by decide +kernel) (pa_cons (pv 0) (pa_cons (pe_ty (T := "tuple") B.tuple_ (by decide +kernel)) pa_nil))))) (pw_or1 (pt_cmpR op_ne (pe_callB (k_len (K := K)) rfl B.len_ (by decide +kernel) (pa_cons (pv 0) pa_nil)) pe_int (nomark _))))) (pss_one (ps_ret pe_bl)) pss_nil)
      (pss_cons (ps_asg (pv 0) (kpg_tup (K := K) (n := 3) rfl (pgs_cons (pg_name (i := 1) sc_is_hall.nd rfl (by first | exact Or.inl rfl | exact Or.inr rfl)) (pgs_cons (pg_name (i := 2) sc_is_hall.nd rfl (by first | exact Or.inl rfl | exact Or.inr rfl)) (pgs_cons (pg_name (i := 3) sc_is_hall.nd rfl (by first | exact Or.inl rfl | exact Or.inr rfl)) pgs_nil)))))
      (pss_cons (ps_if (PW.pt (pw_or (pt_not (pt_val (pe_c C_is_integer hr (pa_cons (pv 1) pa_nil)))) (pw_or (pt_not (pt_chain op_le op_le pe_int (pv 1) pe_int)) (pw_or1 (pt_not (pt_val (pe_c C_is_web hr (pa_cons (pv 2) pa_nil)))))))) (pss_one (ps_ret pe_bl)) pss_nil)
      (pss_one (ps_ret (pe_and (pe_cmpR op_le (pe_c C_power hr (pa_cons (pv 1) (pa_cons (pe_callB (k_len (K := K)) rfl B.len_ (by decide +kernel) (pa_cons (pe_ix (k_ixT (K := K)) (pv 2) pe_int (fun _ _ => rfl)) pa_nil)) pa_nil))) (gl_int c_MOST_STATES) (nomark _)) (pe_one (pe_c C__are_rules hr (pa_cons (pv 3) (pa_cons (pv 1) (pa_cons (pv 2) pa_nil))))))))))), ?_⟩
    repeat' (walk_at "jv")
    · rename_i hne
      exact absurd rfl hne
    · refine ⟨_, rfl, ?_⟩
      repeat' (walk_at "jv")
      · rename_i h
        exact absurd (show (k : Int) ≤ 3 by omega) h
      · refine ⟨_, ps, rs, rfl, hw, hH.web, fun H2 k2 => ?_⟩
        have s1' := TK.same (K := K) k2 _ _ s1
        have s2' := TK.same (K := K) k2 _ _ s2
        repeat' (walk_at "jv")
        refine ⟨k, ps.length, by rw [List.length_map]; rfl, hk2.2, h8, ?_⟩
        have hf : ((k ^ ps.length : Nat) : Int) ≤ 256 := by
          have := hH.few
          omega
        repeat' (walk_at "jv")
        · exact ⟨tr, .ref wt, us, k, ps, rs, ds, rfl, TK.same k2 _ _ sr, DpAll.same k2 _ _ dr, Dp.same k2 _ _ hw, hH, fun H3 k3 => q _ (k2.trans k3)⟩
        · rename_i h
          exact absurd hf h
      · rename_i h
        exact absurd (show (2 : Int) ≤ k by omega) h
theorem ok_need_hall (D : Dn K mg "need_hall" s_need_hall ["hall"]) (B : Bn mg) (C_is_hall : Cl P w K mg base 7 "is_hall" ["thing"] (spIsHall K (.bl true))) : Cl P w K mg base 8 "need_hall" ["hall"] (spIsHall K .non) := by
  refine D.cl sc_need_hall (fun vs H Q E h => ?_) (fun f cdv A outer s H vs Q E hr h => ?_)
  · obtain ⟨v, k, ps, rs, ds, rfl, _⟩ := h
    rfl
  · obtain ⟨v, k, ps, rs, ds, rfl, hd, hH, q⟩ := h
    refine ⟨_, (pss_one (ps_if (pt_not (pt_val (pe_c C_is_hall hr (pa_cons (pv 0) pa_nil)))) (pss_one ps_dead) pss_nil)), ?_⟩
    repeat' (walk_at "jv")
    refine ⟨v, k, ps, rs, ds, rfl, hd, hH, fun H2 k2 => ?_⟩
    repeat' (walk_at "jv")
    exact q _ k2
theorem ok_is_state (D : Dn K mg "is_state" s_is_state ["hall", "thing"]) (B : Bn mg) (C_are_states : Cl P w K mg base 2 "are_states" ["thing", "k", "many"] (spAreStates K)) : Cl P w K mg base 3 "is_state" ["hall", "thing"] (spIsState K) := by
  refine D.cl sc_is_state (fun vs H Q E h => ?_) (fun f cdv A outer s H vs Q E hr h => ?_)
  · obtain ⟨v, s1, k, ps, rs, ds, t, rfl, _⟩ := h
    rfl
  · obtain ⟨v, st, k, ps, rs, ds, t, rfl, hd, hH, hs, hl, hk, q⟩ := h
    obtain ⟨ta, wv, tr, us, rfl, sh, hw, sr, dr⟩ := hall_parts hd
    obtain ⟨wt, tp, trr, xs, rfl, s1, s2, s3, d3, drr, dpl⟩ := web_parts hw
    have h8 := hH.web.le8
    refine ⟨_, (pss_one (ps_ret (pe_c C_are_states hr (pa_cons (pv 1) (pa_cons (pe_ix (k_ixT (K := K)) (pv 0) pe_int (fun _ _ => rfl)) (pa_cons (pe_callB (k_len (K := K)) rfl B.len_ (by decide +kernel) (pa_cons (pe_ix (k_ixT (K := K)) (pe_ix (k_ixT (K := K)) (pv 0) pe_int (fun _ _ => rfl)) pe_int (fun _ _ => rfl)) pa_nil)) pa_nil)))))), ?_⟩
    repeat' (walk_at "jv")
    exact ⟨st, k, t, by rw [hl, List.length_map]; rfl, hs, by omega, hk, q⟩
theorem ok_need_state (D : Dn K mg "need_state" s_need_state ["hall", "state"]) (B : Bn mg) (C_is_state : Cl P w K mg base 3 "is_state" ["hall", "thing"] (spIsState K)) : Cl P w K mg base 4 "need_state" ["hall", "state"] (spNeedState K) := by
  refine D.cl sc_need_state (fun vs H Q E h => ?_) (fun f cdv A outer s H vs Q E hr h => ?_)
  · obtain ⟨v, s1, k, ps, rs, ds, t, rfl, _⟩ := h
    rfl
  · obtain ⟨v, st, k, ps, rs, ds, t, rfl, hd, hH, hs, hl, hk, q⟩ := h
    refine ⟨_, (pss_one (ps_if (pt_not (pt_val (pe_c C_is_state hr (pa_cons (pv 0) (pa_cons (pv 1) pa_nil))))) (pss_one ps_dead) pss_nil)), ?_⟩
    repeat' (walk_at "jv")
    refine ⟨v, st, k, ps, rs, ds, t, rfl, hd, hH, hs, hl, hk, fun H2 k2 => ?_⟩
    repeat' (walk_at "jv")
    exact q _ k2
theorem ok_is_order (D : Dn K mg "is_order" s_is_order ["web", "thing"]) (B : Bn mg) (C_is_one_of : Cl P w K mg base 1 "is_one_of" ["thing", "places"] (spIsOneOf K)) : Cl P w K mg base 2 "is_order" ["web", "thing"] (spIsOrder K) := by
  refine D.cl sc_is_order (fun vs H Q E h => ?_) (fun f cdv A outer s H vs Q E hr h => ?_)
  · obtain ⟨v, o, qs, ps, rs, rfl, _⟩ := h
    rfl
  · obtain ⟨v, o, qs, ps, rs, rfl, hd, W, ho, pm, q⟩ := h
    obtain ⟨t, tp, tr, xs, rfl, s1, s2, s3, d3, dr, dpl⟩ := web_parts hd
    have nd := W.names.1
    have h8 := W.le8
    have hs := s2
    refine ⟨_, (pss_cons (ps_if (PW.pt (pw_or (pt_not (pt_val (pe_callB (k_isi (K := K)) rfl B.isinstance_ (by decide +kernel) (pa_cons (pv 1) (pa_cons (pe_ty (T := "tuple") B.tuple_ (by decide +kernel)) pa_nil))))) (pw_or1 (pt_cmpR op_ne (pe_callB (k_len (K := K)) rfl B.len_ (by decide +kernel) (pa_cons (pv 1) pa_nil)) (pe_callB (k_len (K := K)) rfl B.len_ (by decide +kernel) (pa_cons (pe_ix (k_ixT (K := K)) (pv 0) pe_int (fun _ _ => rfl)) pa_nil)) (nomark _))))) (pss_one (ps_ret pe_bl)) pss_nil)
      (pss_one (ps_ret (pe_and (pe_callB (k_all (K := K) rfl) rfl B.all_ (by decide +kernel) (pa_cons (pe_lc (own := [("place", 2)]) rfl sc_is_order.nd (kpi_tup (K := K) (pv 1)) (blkOk_by (N := ["web", "thing", "place"]) (sc := defScope s_is_order) (by decide +kernel)) (fun _ _ _ _ _ => (pg_name (i := 2) sc_is_order.nd rfl (by first | exact Or.inl rfl | exact Or.inr rfl))) (fun _ _ _ _ _ => pts_nil) (fun _ _ _ _ _ => (pe_c C_is_one_of hr (pa_cons (pv 2) (pa_cons (pe_ix (k_ixT (K := K)) (pv 0) pe_int (fun _ _ => rfl)) pa_nil))))) pa_nil)) (pe_one (pe_cmpR op_eq (pe_callB (cr_lenTexts) rfl B.len_ (by decide +kernel) (pa_cons (pe_callTy (cr_setTexts rfl) rfl B.set_ (by decide +kernel) (pa_cons (pv 1) pa_nil)) pa_nil)) (pe_callB (k_len (K := K)) rfl B.len_ (by decide +kernel) (pa_cons (pv 1) pa_nil)) (nomark _))))))), ?_⟩
    have hl : (qs.map V.str).length = qs.length := List.length_map ..
    have hl2 : (ps.map V.str).length = ps.length := List.length_map ..
    have hpl := pm.length_eq
    repeat' (walk_at "jv")
    · omega
    · refine c_tup (qs.map V.str) (fun D2 i H' => H D2 = none ∧ Same H H' ∧ H' D2 = some (.lst ((List.range i).map fun _ => V.bl true))) (fun D2 nD => ⟨nD, Same.upd_new nD, upd_same⟩) (fun D2 i H' _ h => TK.same h.2.1 _ _ ho) (fun D2 i y H' hy h => ?_) (fun D2 H' h => ?_)
      · obtain ⟨nD, k, e⟩ := h
        have hi : i < qs.length := by
          have := (List.getElem?_eq_some_iff.mp hy).1
          omega
        rw [List.getElem?_map, List.getElem?_eq_getElem hi] at hy
        obtain rfl : V.str qs[i] = y := Option.some.inj hy
        have s1' := TK.same (K := K) k _ _ s1
        repeat' (walk_at "jv")
        refine ⟨qs[i], tp, ps, rfl, TK.same k _ _ hs, pm.mem_iff.mp (List.getElem_mem hi), ?_⟩
        refine i_lcE e (by rw [List.length_map, List.length_range, sizeLine_eq]; omega) ⟨nD, fun b o z => ?_, ?_⟩
        · rw [upd_ne (fun w => by rw [w, nD] at z; cases z)]
          exact k _ _ z
        · rw [upd_same, List.range_succ, List.map_append]
          rfl
      · obtain ⟨nD, k, e⟩ := h
        refine i_nil ?_
        refine all_true (sq_lst e) ?_
        have ho2 := TK.same (K := K) k _ _ ho
        repeat' (walk_at "jv")
        refine ⟨o, qs, rfl, ho2, pm.nodup_iff.mpr nd, by omega, fun D3 nD3 => ?_⟩
        refine i_nil ?_
        refine ⟨D3, qs, rfl, upd_same, ?_⟩
        have sm3 := Same.upd_new (o := TxsO P w D3 qs) nD3
        have hs3 := TK.same (K := K) sm3 _ _ ho2
        repeat' (walk_at "jv")
        rw [decide_eq_true (by rw [hl])]
        exact q _ (k.trans sm3)
theorem ok_need_order (D : Dn K mg "need_order" s_need_order ["web", "order"]) (B : Bn mg) (C_is_order : Cl P w K mg base 2 "is_order" ["web", "thing"] (spIsOrder K)) : Cl P w K mg base 3 "need_order" ["web", "order"] (spNeedOrder K) := by
  refine D.cl sc_need_order (fun vs H Q E h => ?_) (fun f cdv A outer s H vs Q E hr h => ?_)
  · obtain ⟨v, o, qs, ps, rs, rfl, _⟩ := h
    rfl
  · obtain ⟨v, o, qs, ps, rs, rfl, hd, W, ho, pm, q⟩ := h
    refine ⟨_, (pss_one (ps_if (pt_not (pt_val (pe_c C_is_order hr (pa_cons (pv 0) (pa_cons (pv 1) pa_nil))))) (pss_one ps_dead) pss_nil)), ?_⟩
    repeat' (walk_at "jv")
    refine ⟨v, o, qs, ps, rs, rfl, hd, W, ho, pm, fun H2 k2 => ?_⟩
    repeat' (walk_at "jv")
    exact q _ k2
theorem ok_need_place (D : Dn K mg "need_place" s_need_place ["web", "place"]) (B : Bn mg) (C_is_one_of : Cl P w K mg base 1 "is_one_of" ["thing", "places"] (spIsOneOf K)) : Cl P w K mg base 2 "need_place" ["web", "place"] (spNeedPlace K) := by
  refine D.cl sc_need_place (fun vs H Q E h => ?_) (fun f cdv A outer s H vs Q E hr h => ?_)
  · obtain ⟨v, z, ps, rs, rfl, _⟩ := h
    rfl
  · obtain ⟨v, z, ps, rs, rfl, hd, hz, q⟩ := h
    obtain ⟨t, tp, tr, xs, rfl, s1, s2, s3, d3, dr, dpl⟩ := web_parts hd
    refine ⟨_, (pss_one (ps_if (pt_not (pt_val (pe_c C_is_one_of hr (pa_cons (pv 1) (pa_cons (pe_ix (k_ixT (K := K)) (pv 0) pe_int (fun _ _ => rfl)) pa_nil))))) (pss_one ps_dead) pss_nil)), ?_⟩
    repeat' (walk_at "jv")
    refine ⟨z, tp, ps, rfl, s2, hz, ?_⟩
    repeat' (walk_at "jv")
    exact q
theorem ok_need_day (D : Dn K mg "need_day" s_need_day ["hall", "order"]) (B : Bn mg) (C_need_hall : Cl P w K mg base 8 "need_hall" ["hall"] (spIsHall K .non)) (C_need_order : Cl P w K mg base 3 "need_order" ["web", "order"] (spNeedOrder K)) : Cl P w K mg base 9 "need_day" ["hall", "order"] (spNeedDay K) := by
  refine D.cl sc_need_day (fun vs H Q E h => ?_) (fun f cdv A outer s H vs Q E hr h => ?_)
  · obtain ⟨v, o, qs, k, ps, rs, ds, rfl, _⟩ := h
    rfl
  · obtain ⟨v, o, qs, k, ps, rs, ds, rfl, hd, hH, ho, pm, q⟩ := h
    refine ⟨_, (pss_cons (ps_expr (pe_c C_need_hall hr (pa_cons (pv 0) pa_nil)))
      (pss_one (ps_expr (pe_c C_need_order hr (pa_cons (pe_ix (k_ixT (K := K)) (pv 0) pe_int (fun _ _ => rfl)) (pa_cons (pv 1) pa_nil)))))), ?_⟩
    repeat' (walk_at "jv")
    refine ⟨v, k, ps, rs, ds, rfl, hd, hH, fun H2 k2 => ?_⟩
    obtain ⟨t, wv, tr, us, rfl, sh, hw, sr, dr⟩ := hall_parts (Dp.same k2 _ _ hd)
    repeat' (walk_at "jv")
    refine ⟨wv, o, qs, ps, rs, rfl, hw, hH.web, TK.same k2 _ _ ho, pm, fun H3 k3 => ?_⟩
    repeat' (walk_at "jv")
    exact q _ (k2.trans k3)
theorem ok_need_start (D : Dn K mg "need_start" s_need_start ["hall", "order", "state"]) (B : Bn mg) (C_need_day : Cl P w K mg base 9 "need_day" ["hall", "order"] (spNeedDay K)) (C_need_state : Cl P w K mg base 4 "need_state" ["hall", "state"] (spNeedState K)) : Cl P w K mg base 10 "need_start" ["hall", "order", "state"] (spNeedStart K) := by
  refine D.cl sc_need_start (fun vs H Q E h => ?_) (fun f cdv A outer s H vs Q E hr h => ?_)
  · obtain ⟨v, o, s, qs, k, ps, rs, ds, t, rfl, _⟩ := h
    rfl
  · obtain ⟨v, o, st, qs, k, ps, rs, ds, t, rfl, hd, hH, ho, pm, hs, hl, hk, q⟩ := h
    refine ⟨_, (pss_cons (ps_expr (pe_c C_need_day hr (pa_cons (pv 0) (pa_cons (pv 1) pa_nil))))
      (pss_one (ps_expr (pe_c C_need_state hr (pa_cons (pv 0) (pa_cons (pv 2) pa_nil)))))), ?_⟩
    repeat' (walk_at "jv")
    refine ⟨v, o, qs, k, ps, rs, ds, rfl, hd, hH, ho, pm, fun H2 k2 => ?_⟩
    repeat' (walk_at "jv")
    refine ⟨v, st, k, ps, rs, ds, t, rfl, Dp.same k2 _ _ hd, hH, TK.same k2 _ _ hs, hl, hk, fun H3 k3 => ?_⟩
    repeat' (walk_at "jv")
    exact q _ (k2.trans k3)
end
end
section
open L2 PySem PySem.Spec PyProof.Rows
abbrev s__law_next : Stmt := topS 73
theorem sc__law_next : FnScope ["_law_hall_here", "_law_state_here", "_law_place", "_law_k", "_law_web_here", "_law_rules", "_law_at", "_law_others", "_law_rule_here", "_law_both", "_law_word", "_law_index", "_law_one_here", "_law_other"] ["_law_hall_here", "_law_state_here", "_law_place"] (defScope s__law_next) := ⟨rfl, rfl, rfl, by decide +kernel, rfl, by decide +kernel, by decide +kernel⟩
theorem atI_getD {t : List Nat} {i : Nat} (h : i < t.length) : atI (natsV t) (i : Int) = some (V.int ((t.getD i 0 : Nat) : Int)) := by
  refine atI_nat ?_
  unfold natsV
  rw [List.getElem?_map, List.getD_eq_getElem?_getD, List.getElem?_eq_getElem h]
  rfl
section
variable {base : Heap} {P : Program} {w : World} {K : PySem.W.Frag} {mg : Str → Option Value}
theorem ok_lnext (D : Dn K mg "_law_next" s__law_next ["_law_hall_here", "_law_state_here", "_law_place"]) (B : Bn mg) (C__law_neighbours : Cl P w K mg base 1 "_law_neighbours" ["_law_web_here", "_law_place"] (spNear K)) : Cl P w K mg base 2 "_law_next" ["_law_hall_here", "_law_state_here", "_law_place"] (spLNext K) := by
  refine D.cl sc__law_next (fun vs H Q E h => ?_) (fun f cdv A outer s H vs Q E hr h => ?_)
  · obtain ⟨v, s, z, k, ps, rs, ds, t, rfl, _⟩ := h
    rfl
  · obtain ⟨v, st, z, k, ps, rs, ds, t, rfl, hh, hH, hs, hl, hk, hz, q⟩ := h
    obtain ⟨ta, T, wv, rfl, sh, hw, dT, uT⟩ := hh
    obtain ⟨wt, tp, tr, ew, sw, fp, drr⟩ := id hw
    have W := hH.web
    have h8 := W.le8
    refine ⟨_, (pss_cons (ps_asg (pv 0) (kpg_tup (K := K) (n := 3) rfl (pgs_cons (pg_name (i := 3) sc__law_next.nd rfl (by first | exact Or.inl rfl | exact Or.inr rfl)) (pgs_cons (pg_name (i := 4) sc__law_next.nd rfl (by first | exact Or.inl rfl | exact Or.inr rfl)) (pgs_cons (pg_name (i := 5) sc__law_next.nd rfl (by first | exact Or.inl rfl | exact Or.inr rfl)) pgs_nil)))))
      (pss_cons (ps_set (i := 6) sc__law_next.nd rfl (by first | exact Or.inl rfl | exact Or.inr rfl) (pe_bmF PySem.F.plainAttrs_tuple PySem.F.slot_tuple_index PySem.F.type_tuple_index (k_tindex (K := K)) (pe_ix (k_ixT (K := K)) (pv 4) pe_int (fun _ _ => rfl)) (pa_cons (pv 2) pa_nil)))
      (pss_cons (ps_setLc (i := 7) (own := [("_law_other", 13)]) rfl sc__law_next.nd rfl rfl (sw_true rfl rfl rfl (by decide +kernel)) (kpi_list (K := K) (pe_c C__law_neighbours hr (pa_cons (pv 4) (pa_cons (pv 2) pa_nil)))) (blkOk_by (N := ["_law_hall_here", "_law_state_here", "_law_place", "_law_k", "_law_web_here", "_law_rules", "_law_at", "_law_others", "_law_rule_here", "_law_both", "_law_word", "_law_index", "_law_one_here", "_law_other"]) (sc := defScope s__law_next) (by decide +kernel)) (fun _ _ _ _ _ => (pg_name (i := 13) sc__law_next.nd rfl (by first | exact Or.inl rfl | exact Or.inr rfl))) (fun _ _ _ _ _ => pts_nil) (fun _ _ _ _ _ => (pe_ix (k_ixT (K := K)) (pv 1) (pe_bmF PySem.F.plainAttrs_tuple PySem.F.slot_tuple_index PySem.F.type_tuple_index (k_tindex (K := K)) (pe_ix (k_ixT (K := K)) (pv 4) pe_int (fun _ _ => rfl)) (pa_cons (pv 13) pa_nil)) (fun _ _ => rfl))))
      (pss_cons (ps_par (i := 8) (j := 9) rfl sc__law_next.nd rfl rfl (by decide) rfl rfl (pa_cons (pe_ix (k_ixT (K := K)) (pv 5) (pv 6) (fun _ _ => rfl)) (pa_cons (pe_op op_cat (pe_lst (pa_cons (pe_ix (k_ixT (K := K)) (pv 1) (pv 6) (fun _ _ => rfl)) pa_nil)) (pv 7)) pa_nil)) (by rfl))
      (pss_cons (ps_set (i := 10) sc__law_next.nd rfl (by first | exact Or.inl rfl | exact Or.inr rfl) (pe_ix (k_ixT (K := K)) (pv 8) pe_int (fun _ _ => rfl)))
      (pss_cons (ps_if (pt_cmpR op_eq (pv 10) pe_str (nomark _)) (pss_cons (ps_set (i := 11) sc__law_next.nd rfl (by first | exact Or.inl rfl | exact Or.inr rfl) pe_int)
      (pss_cons (ps_for PassesOwn.never rfl (kpi_list (K := K) (k_revL (K := K) (pv 9))) (pg_name (i := 12) sc__law_next.nd rfl (by first | exact Or.inl rfl | exact Or.inr rfl)) (pss_one (ps_set (i := 11) sc__law_next.nd rfl (by first | exact Or.inl rfl | exact Or.inr rfl) (pe_op op_add (pe_op op_mul (pv 11) (pv 3)) (pv 12)))))
      (pss_one (ps_ret (pe_ix (k_ixT (K := K)) (pe_ix (k_ixT (K := K)) (pv 8) pe_int (fun _ _ => rfl)) (pv 11) (fun _ _ => rfl)))))) pss_nil)
      (pss_cons (ps_if (pt_cmpR op_eq (pv 10) pe_str (nomark _)) (pss_one (ps_ret (pe_ix (k_ixT (K := K)) (pe_ix (k_ixT (K := K)) (pe_ix (k_ixT (K := K)) (pv 8) pe_int (fun _ _ => rfl)) (pe_ix (k_ixT (K := K)) (pv 1) (pv 6) (fun _ _ => rfl)) (fun _ _ => rfl)) (pe_callB ((k_sumL (K := K) rfl)) rfl B.sum_ (by decide +kernel) (pa_cons (pv 7) pa_nil)) (fun _ _ => rfl)))) pss_nil)
      (pss_cons (ps_if (pt_cmpR op_eq (pv 10) pe_str (nomark _)) (pss_one (ps_ret (pe_ix (k_ixT (K := K)) (pv 1) (pv 6) (fun _ _ => rfl)))) pss_nil)
      (pss_cons (ps_if (pt_cmpR (k_inS (K := K)) (pv 10) (pe_tup (pa_cons pe_str (pa_cons pe_str pa_nil))) (by rfl)) (pss_one (ps_ret (pe_ifExp (pt_cmpR op_eq (pv 10) pe_str (nomark _)) (pe_callB ((k_minL (K := K) rfl)) rfl B.min_ (by decide +kernel) (pa_cons (pv 9) pa_nil)) (pe_callB ((k_maxL (K := K) rfl)) rfl B.max_ (by decide +kernel) (pa_cons (pv 9) pa_nil))))) pss_nil)
      (pss_cons (ps_if (pt_cmpR op_eq (pv 10) pe_str (nomark _)) (pss_one (ps_ret (pe_op op_mod (pe_callTy (j_int) rfl B.int_ (by decide +kernel) (pa_cons (pe_callB ((k_sumL (K := K) rfl)) rfl B.sum_ (by decide +kernel) (pa_cons (pv 9) pa_nil)) pa_nil)) (pv 3)))) pss_nil)
      (pss_cons (ps_if (pt_cmpR op_eq (pv 10) pe_str (nomark _)) (pss_one (ps_ret (pe_callTy (j_int) rfl B.int_ (by decide +kernel) (pa_cons (pe_cmpR op_ge (pe_callB (k_len (K := K)) rfl B.len_ (by decide +kernel) (pa_cons (pe_lc (own := [("_law_one_here", 12)]) rfl sc__law_next.nd (kpi_list (K := K) (pv 7)) (blkOk_by (N := ["_law_hall_here", "_law_state_here", "_law_place", "_law_k", "_law_web_here", "_law_rules", "_law_at", "_law_others", "_law_rule_here", "_law_both", "_law_word", "_law_index", "_law_one_here", "_law_other"]) (sc := defScope s__law_next) (by decide +kernel)) (fun _ _ _ _ _ => (pg_name (i := 12) sc__law_next.nd rfl (by first | exact Or.inl rfl | exact Or.inr rfl))) (fun _ _ _ _ _ => pts_one (pt_cmpR op_gt (pv 12) pe_int (nomark _))) (fun _ _ _ _ _ => (pv 12))) pa_nil)) (pe_ix (k_ixT (K := K)) (pv 8) pe_int (fun _ _ => rfl)) (nomark _)) pa_nil)))) pss_nil)
      (pss_one (ps_ret (pe_ix (k_ixT (K := K)) (pv 1) (pe_bmF PySem.F.plainAttrs_tuple PySem.F.slot_tuple_index PySem.F.type_tuple_index (k_tindex (K := K)) (pe_ix (k_ixT (K := K)) (pv 4) pe_int (fun _ _ => rfl)) (pa_cons (pe_ix (k_ixT (K := K)) (pv 8) pe_int (fun _ _ => rfl)) pa_nil)) (fun _ _ => rfl))))))))))))))), ?_⟩
    subst ew
    repeat' (walk_at "jv")
    refine i_bmF ?_
    repeat' (walk_at "jv")
    refine i_tyF fp ?_
    repeat' (walk_at "jv")
    refine i_tix fp.sq hz ?_
    repeat' (walk_at "jv")
    refine ⟨_, z, ps, rs, rfl, hw.dp, W, hz, fun pn H1 npn k1 en => ?_⟩
    have lt := List.idxOf_lt_length_iff.mpr hz
    have nl := near_len W hz
    have nm : ∀ y ∈ nearL ps rs z, y ∈ ps := fun y hy => (List.mem_filter.mp hy).1
    have hk2 : 2 ≤ k ∧ k ≤ 3 := by rcases hH.two with e | e <;> omega
    obtain ⟨T', us, eT, sT, dU⟩ := tup_parts dT
    obtain rfl : T = T' := by injection eT
    have hul : us.length = ps.length := by rw [DpAll.len dU, hH.len]
    have hx : us[ps.idxOf z]? = some us[ps.idxOf z] := List.getElem?_eq_getElem (by omega)
    obtain ⟨d, hd, dx⟩ := DpAll.get dU hx
    have hR := hH.rules (ps.idxOf z) z d (idx_first hz).1 hd
    have hxx : atI us ((ps.idxOf z : Nat) : Int) = some us[ps.idxOf z] := atI_nat hx
    have hown : ownV k ps rs ds t z = nextV k (nearL ps rs z) d (t.getD (ps.idxOf z) 0 :: (nearL ps rs z).map fun y => t.getD (ps.idxOf y) 0) := by
      unfold ownV seenL
      rw [List.getD_eq_getElem?_getD (l := ds), hd, List.map_cons, List.map_map]
      rfl
    have hti : atI (natsV t) ((ps.idxOf z : Nat) : Int) = some (V.int ((t.getD (ps.idxOf z) 0 : Nat) : Int)) := atI_getD (by omega)
    generalize us[ps.idxOf z] = vx at *
    have sw1 := TK.same (K := K) k1 _ _ sw
    have fp1 := fp.same k1
    have st1 := TK.same (K := K) k1 _ _ hs
    repeat' (walk_at "jv")
    refine c_list ((nearL ps rs z).map V.str) (fun D i H' => H1 D = none ∧ Same H1 H' ∧ H' D = some (.lst (natsV (((nearL ps rs z).take i).map fun y => t.getD (ps.idxOf y) 0)))) (fun D nD => ⟨nD, Same.upd_new nD, upd_same⟩) (fun D i H' _ h => sq_lst (h.2.1 _ _ en)) (fun D i x H' hx h => ?_) (fun D H2 h => ?_)
    · obtain ⟨nD, kD, eD⟩ := h
      have hi : i < (nearL ps rs z).length := by
        have := (List.getElem?_eq_some_iff.mp hx).1
        rwa [List.length_map] at this
      rw [List.getElem?_map, List.getElem?_eq_getElem hi] at hx
      obtain rfl : V.str (nearL ps rs z)[i] = x := Option.some.inj hx
      have hm := nm _ (List.getElem_mem hi)
      have s2 := TK.same (K := K) kD _ _ sw1
      have st2 := TK.same (K := K) kD _ _ st1
      repeat' (walk_at "jv")
      refine i_bmF ?_
      repeat' (walk_at "jv")
      refine i_tyF (fp1.same kD) ?_
      repeat' (walk_at "jv")
      refine i_tix (fp1.same kD).sq hm ?_
      refine i_ixT st2 (atI_getD (by rw [hl]; exact List.idxOf_lt_length_iff.mpr hm)) ?_
      refine i_lcE eD (by unfold natsV; rw [List.length_map, List.length_map, List.length_take, sizeLine_eq]; omega) ⟨nD, fun b o z => ?_, ?_⟩
      · rw [upd_ne (fun w => by rw [w, nD] at z; cases z)]
        exact kD _ _ z
      · rw [upd_same, List.take_add_one, List.getElem?_eq_getElem hi]
        unfold natsV
        rw [List.map_append, List.map_append]
        rfl
    obtain ⟨nD, kD, eD⟩ := h
    rw [List.length_map, List.take_length] at eD
    have bnd : ∀ s ∈ t.getD (ps.idxOf z) 0 :: (nearL ps rs z).map fun y => t.getD (ps.idxOf y) 0, s < k := by
      intro s hs
      rcases List.mem_cons.mp hs with rfl | hs
      · exact getD_lt (by omega) hk _
      · obtain ⟨y, _, rfl⟩ := List.mem_map.mp hs
        exact getD_lt (by omega) hk _
    have hlo : ((nearL ps rs z).map fun y => t.getD (ps.idxOf y) 0).length = (nearL ps rs z).length := List.length_map ..
    have k12 := k1.trans kD
    rw [hown] at q
    have hcp : ∀ y ∈ nearL ps rs z, ((nearL ps rs z).map fun y => t.getD (ps.idxOf y) 0).getD ((nearL ps rs z).idxOf y) 0 = t.getD (ps.idxOf y) 0 := by
      intro y hy
      rw [List.getD_eq_getElem?_getD, List.getElem?_map, (idx_first hy).1]
      rfl
    generalize hoth : ((nearL ps rs z).map fun y => t.getD (ps.idxOf y) 0) = oth at *
    generalize hownn : t.getD (ps.idxOf z) 0 = own at *
    have sT2 := TK.same (K := K) k12 _ _ sT
    have st2 := TK.same (K := K) k12 _ _ hs
    have dx2 := Dp.same (K := K) k12 _ _ dx
    have fp2 := fp.same k12
    have sw2 := TK.same (K := K) k12 _ _ sw
    repeat' (walk_at "jv")
    intro p np
    have kp := Same.upd_new (o := .lst [V.int (own : Int)]) np
    have h9 : oth.length ≤ 7 := by omega
    refine i_var rfl ?_
    refine ⟨p, D, _, _, rfl, rfl, upd_same, kp _ _ eD, by unfold natsV; rw [List.length_map, sizeLine_eq]; show 1 + _ ≤ _; omega, fun L nL => ?_⟩
    have kL := Same.upd_new (o := .lst ([V.int (own : Int)] ++ natsV oth)) nL
    have sL : SqL K (upd (upd H2 p (.lst [V.int (own : Int)])) L (.lst ([V.int (own : Int)] ++ natsV oth))) L (natsV (own :: oth)) := sq_lst upd_same
    have kpL := kp.trans kL
    have sD := sq_lst (K := K) (kpL _ _ eD)
    have k5 := k12.trans kpL
    generalize upd (upd H2 p (.lst [V.int (own : Int)])) L (.lst ([V.int (own : Int)] ++ natsV oth)) = H5 at *
    have dx5 := Dp.same (K := K) kpL _ _ dx2
    have st5 := TK.same (K := K) kpL _ _ st2
    have fp5 := fp2.same kpL
    have sw5 := TK.same (K := K) kpL _ _ sw2
    clear sT2 st2 dx2 fp2 sw2 kp kL np nL sT sw1 fp1 st1 en npn dx
    refine i_nil ?_
    refine ⟨_, _, rfl, ?_⟩
    obtain ⟨s0, rest, rfl⟩ := rule_head hR
    obtain ⟨a, us9, rfl, sa, da⟩ := tup_parts dx5
    obtain ⟨vr, rfl, dr⟩ : ∃ vr, us9 = .str s0 :: vr ∧ DpAll K H5 vr rest := by
      cases da with
      | cons h1 h2 => cases h1; exact ⟨_, rfl, h2⟩
    cases hR with
    | keep =>
      repeat' (walk_at "jv")
      all_goals first
        | (rename_i h; exact absurd h (by decide))
        | exact absurd (rfl : ("keep" : Str) = "keep") (by assumption)
        | (rw [nextV_keep] at q; exact q _ k5)
    | least =>
      repeat' (walk_at "jv")
      all_goals first
        | (rename_i h; exact absurd h (by decide))
        | exact absurd (rfl : ("least" : Str) = "least") (by assumption)
        | skip
      intro pw npw
      have k6 := Same.upd_new (o := .tup [V.str "least", V.str "greatest"]) npw
      have sw6 : SqT K (upd H5 pw (.tup [V.str "least", V.str "greatest"])) pw ((["least", "greatest"] : List Str).map V.str) := sq_tup upd_same
      have k56 := k5.trans k6
      have sa6 := TK.same (K := K) k6 _ _ sa
      have st6 := TK.same (K := K) k6 _ _ st5
      have sL6 := k6.seq sL
      have sD6 := k6.seq sD
      have fp6 := fp5.same k6
      have sx6 := TK.same (K := K) k6 _ _ sw5
      have dr6 := DpAll.same k6 _ _ dr
      clear sa st5 sL sD fp5 sw5 dr da dx5 k5
      generalize upd H5 pw (.tup [V.str "least", V.str "greatest"]) = H6 at *
      refine i_inS (SqA.t sw6) ?_
      rw [decide_eq_true (by decide)]
      repeat' (walk_at "jv")
      all_goals first
        | (rename_i h; exact absurd h (by decide))
        | exact absurd (rfl : ("least" : Str) = "least") (by assumption)
        | skip
      rw [nextV_least] at q
      exact i_minL sL6 (by simp) (q _ k56)
    | greatest =>
      repeat' (walk_at "jv")
      all_goals first
        | (rename_i h; exact absurd h (by decide))
        | exact absurd (rfl : ("greatest" : Str) = "greatest") (by assumption)
        | skip
      intro pw npw
      have k6 := Same.upd_new (o := .tup [V.str "least", V.str "greatest"]) npw
      have sw6 : SqT K (upd H5 pw (.tup [V.str "least", V.str "greatest"])) pw ((["least", "greatest"] : List Str).map V.str) := sq_tup upd_same
      have k56 := k5.trans k6
      have sa6 := TK.same (K := K) k6 _ _ sa
      have st6 := TK.same (K := K) k6 _ _ st5
      have sL6 := k6.seq sL
      have sD6 := k6.seq sD
      have fp6 := fp5.same k6
      have sx6 := TK.same (K := K) k6 _ _ sw5
      have dr6 := DpAll.same k6 _ _ dr
      clear sa st5 sL sD fp5 sw5 dr da dx5 k5
      generalize upd H5 pw (.tup [V.str "least", V.str "greatest"]) = H6 at *
      refine i_inS (SqA.t sw6) ?_
      rw [decide_eq_true (by decide)]
      repeat' (walk_at "jv")
      all_goals first
        | (rename_i h; exact absurd h (by decide))
        | exact absurd (rfl : ("greatest" : Str) = "greatest") (by assumption)
        | skip
      rw [nextV_greatest] at q
      exact i_maxL sL6 (by simp) (q _ k56)
    | odd =>
      repeat' (walk_at "jv")
      all_goals first
        | (rename_i h; exact absurd h (by decide))
        | exact absurd (rfl : ("odd" : Str) = "odd") (by assumption)
        | skip
      intro pw npw
      have k6 := Same.upd_new (o := .tup [V.str "least", V.str "greatest"]) npw
      have sw6 : SqT K (upd H5 pw (.tup [V.str "least", V.str "greatest"])) pw ((["least", "greatest"] : List Str).map V.str) := sq_tup upd_same
      have k56 := k5.trans k6
      have sa6 := TK.same (K := K) k6 _ _ sa
      have st6 := TK.same (K := K) k6 _ _ st5
      have sL6 := k6.seq sL
      have sD6 := k6.seq sD
      have fp6 := fp5.same k6
      have sx6 := TK.same (K := K) k6 _ _ sw5
      have dr6 := DpAll.same k6 _ _ dr
      clear sa st5 sL sD fp5 sw5 dr da dx5 k5
      generalize upd H5 pw (.tup [V.str "least", V.str "greatest"]) = H6 at *
      refine i_inS (SqA.t sw6) ?_
      rw [decide_eq_false (by decide)]
      repeat' (walk_at "jv")
      all_goals first
        | (rename_i h; exact absurd h (by decide))
        | exact absurd (rfl : ("odd" : Str) = "odd") (by assumption)
        | skip
      refine i_sumN sL6 ?_
      repeat' (walk_at "jv")
      have e : (((own :: oth).sum : Nat) : Int) % (k : Int) = (((own :: oth).sum % k : Nat) : Int) := (Int.natCast_emod _ _).symm
      rw [e]
      rw [nextV_odd] at q
      exact q _ k56
    | most n hn9 =>
      obtain rfl : vr = [.int n] := by
        cases dr with
        | cons h1 h2 => cases h1; cases h2; rfl
      repeat' (walk_at "jv")
      all_goals first
        | (rename_i h; exact absurd h (by decide))
        | exact absurd (rfl : ("most" : Str) = "most") (by assumption)
        | skip
      intro pw npw
      have k6 := Same.upd_new (o := .tup [V.str "least", V.str "greatest"]) npw
      have sw6 : SqT K (upd H5 pw (.tup [V.str "least", V.str "greatest"])) pw ((["least", "greatest"] : List Str).map V.str) := sq_tup upd_same
      have k56 := k5.trans k6
      have sa6 := TK.same (K := K) k6 _ _ sa
      have st6 := TK.same (K := K) k6 _ _ st5
      have sL6 := k6.seq sL
      have sD6 := k6.seq sD
      have fp6 := fp5.same k6
      have sx6 := TK.same (K := K) k6 _ _ sw5
      have dr6 := DpAll.same k6 _ _ dr
      clear sa st5 sL sD fp5 sw5 dr da dx5 k5
      generalize upd H5 pw (.tup [V.str "least", V.str "greatest"]) = H6 at *
      refine i_inS (SqA.t sw6) ?_
      rw [decide_eq_false (by decide)]
      repeat' (walk_at "jv")
      all_goals first
        | (rename_i h; exact absurd h (by decide))
        | exact absurd (rfl : ("most" : Str) = "most") (by assumption)
        | skip
      refine c_list (natsV oth) (fun D i H' => H6 D = none ∧ Same H6 H' ∧ H' D = some (.lst (natsV ((oth.take i).filter fun s => decide (s ≠ 0))))) (fun D nD => ⟨nD, Same.upd_new nD, upd_same⟩) (fun D i H' _ h => h.2.1.seq sD6) (fun D i x H' hx h => ?_) (fun D H' h => ?_)
      · obtain ⟨nD, kD, eD⟩ := h
        have hi : i < oth.length := by
          have := (List.getElem?_eq_some_iff.mp hx).1
          unfold natsV at this
          rwa [List.length_map] at this
        unfold natsV at hx
        rw [List.getElem?_map, List.getElem?_eq_getElem hi] at hx
        obtain rfl : V.int ((oth[i] : Nat) : Int) = x := Option.some.inj hx
        have hf : ((oth.take i).filter fun s => decide (s ≠ 0)).length ≤ i := Nat.le_trans (List.length_filter_le _ _) (by rw [List.length_take]; omega)
        have et : ((oth.take (i + 1)).filter fun s => decide (s ≠ 0)) = ((oth.take i).filter fun s => decide (s ≠ 0)) ++ (if oth[i] ≠ 0 then [oth[i]] else []) := by
          rw [List.take_add_one, List.getElem?_eq_getElem hi, List.filter_append]
          congr 1
          by_cases z : oth[i] = 0
          · simp [z]
          · simp [z]
        repeat' (walk_at "jv")
        · rename_i hz
          have hz' : oth[i] ≠ 0 := by omega
          refine i_lcE eD (by unfold natsV; rw [List.length_map, sizeLine_eq]; omega) ⟨nD, fun b o z => ?_, ?_⟩
          · rw [upd_ne (fun w => by rw [w, nD] at z; cases z)]
            exact kD _ _ z
          · rw [upd_same, et, if_pos hz']
            unfold natsV
            rw [List.map_append]
            rfl
        · rename_i hz
          have hz' : ¬ oth[i] ≠ 0 := fun e => hz (by omega)
          rw [if_neg hz', List.append_nil] at et
          exact ⟨nD, kD, by rw [et]; exact eD⟩
      · obtain ⟨nD, kD, eD⟩ := h
        unfold natsV at eD
        rw [List.length_map, List.take_length] at eD
        have sa7 := TK.same (K := K) kD _ _ sa6
        have eq : nextV k (nearL ps rs z) (.tuple [.str "most", .int n]) (own :: oth) = if (n : Int) ≤ ((oth.filter fun s => decide (s ≠ 0)).length : Int) then 1 else 0 := rfl
        refine i_nil ?_
        refine i_lenL (sq_lst eD) ?_
        rw [List.length_map]
        repeat' (walk_at "jv")
        rw [eq] at q
        by_cases hc : (n : Int) ≤ ((oth.filter fun s => decide (s ≠ 0)).length : Int)
        · rw [if_pos hc] at q
          simp only [hc, decide_true, if_true]
          exact q _ (k56.trans kD)
        · rw [if_neg hc] at q
          simp only [hc, decide_false]
          exact q _ (k56.trans kD)
    | copy z2 hz2 =>
      obtain rfl : vr = [.str z2] := by
        cases dr with
        | cons h1 h2 => cases h1; cases h2; rfl
      repeat' (walk_at "jv")
      all_goals first
        | (rename_i h; exact absurd h (by decide))
        | exact absurd (rfl : ("copy" : Str) = "copy") (by assumption)
        | skip
      intro pw npw
      have k6 := Same.upd_new (o := .tup [V.str "least", V.str "greatest"]) npw
      have sw6 : SqT K (upd H5 pw (.tup [V.str "least", V.str "greatest"])) pw ((["least", "greatest"] : List Str).map V.str) := sq_tup upd_same
      have k56 := k5.trans k6
      have sa6 := TK.same (K := K) k6 _ _ sa
      have st6 := TK.same (K := K) k6 _ _ st5
      have sL6 := k6.seq sL
      have sD6 := k6.seq sD
      have fp6 := fp5.same k6
      have sx6 := TK.same (K := K) k6 _ _ sw5
      have dr6 := DpAll.same k6 _ _ dr
      clear sa st5 sL sD fp5 sw5 dr da dx5 k5
      generalize upd H5 pw (.tup [V.str "least", V.str "greatest"]) = H6 at *
      refine i_inS (SqA.t sw6) ?_
      rw [decide_eq_false (by decide)]
      repeat' (walk_at "jv")
      all_goals first
        | (rename_i h; exact absurd h (by decide))
        | exact absurd (rfl : ("copy" : Str) = "copy") (by assumption)
        | skip
      have hz3 := nm _ hz2
      refine i_bmF ?_
      repeat' (walk_at "jv")
      refine i_tyF fp6 ?_
      repeat' (walk_at "jv")
      refine i_tix fp6.sq hz3 ?_
      refine i_ixT st6 (atI_getD (by rw [hl]; exact List.idxOf_lt_length_iff.mpr hz3)) ?_
      have eq : nextV k (nearL ps rs z) (.tuple [.str "copy", .str z2]) (own :: oth) = oth.getD ((nearL ps rs z).idxOf z2) 0 := rfl
      rw [eq, hcp z2 hz2] at q
      exact q _ k56
    | table t9 ht hk9 =>
      obtain ⟨y, rfl, dy⟩ : ∃ y, vr = [y] ∧ Dp K H5 y (intsD t9) := by
        cases dr with
        | cons h1 h2 => cases h2; exact ⟨_, rfl, h1⟩
      obtain ⟨b, us2, rfl, sb, db⟩ := tup_parts (ds := t9.map fun n => PyData.int ((n : Nat) : Int)) dy
      have := nats_of t9 us2 db
      subst this
      have hlt := tabIx_lt bnd
      rw [List.length_cons, hlo, ← ht] at hlt
      repeat' (walk_at "jv")
      all_goals first
        | (rename_i h; exact absurd h (by decide))
        | exact absurd (rfl : ("table" : Str) = "table") (by assumption)
        | skip
      refine i_revL (i_var rfl ⟨L, _, rfl, sL, fun R nR => ?_⟩)
      have kR := Same.upd_new (o := .lst (natsV (own :: oth)).reverse) nR
      have eR : (natsV (own :: oth)).reverse = natsV (own :: oth).reverse := by
        unfold natsV
        rw [List.map_reverse]
      rw [eR] at kR ⊢
      have sR : SqL K (upd H5 R (.lst (natsV (own :: oth).reverse))) R (natsV (own :: oth).reverse) := sq_lst upd_same
      generalize upd H5 R (.lst (natsV (own :: oth).reverse)) = H6 at *
      have sa6 := TK.same (K := K) kR _ _ sa
      have sb6 := TK.same (K := K) kR _ _ sb
      repeat' (walk_at "jv")
      refine f_list (natsV (own :: oth).reverse) (fun i σ H' => ∃ y12, σ = [some (.ref ta), some (.ref st), some (.str z), some (.int k), some (.ref wt), some (.ref T), some (.int ((ps.idxOf z : Nat) : Int)), some (.ref D), some (.ref a), some (.ref L), some (.str "table"), some (.int (numN k ((own :: oth).reverse.take i) : Nat)), y12, none] ∧ H6 = H') ⟨none, rfl, rfl⟩ (fun i σ H' _ h => ?_) (fun i x σ H' hx h => ?_) (fun σ H' h => ?_)
      · obtain ⟨y3, rfl, rfl⟩ := h
        exact sR
      · obtain ⟨y3, rfl, rfl⟩ := h
        generalize (own :: oth).reverse = tt at *
        have hi : i < tt.length := by
          have := (List.getElem?_eq_some_iff.mp hx).1
          unfold natsV at this
          rwa [List.length_map] at this
        unfold natsV at hx
        rw [List.getElem?_map, List.getElem?_eq_getElem hi] at hx
        obtain rfl : V.int ((tt[i] : Nat) : Int) = x := Option.some.inj hx
        have hk3 := hk2.2
        repeat' (walk_at "jv")
        refine ⟨some (.int ((tt[i] : Nat) : Int)), ?_, rfl⟩
        have e : numN k (tt.take (i + 1)) = numN k (tt.take i) * k + tt[i] := by
          rw [List.take_add_one, List.getElem?_eq_getElem hi]
          exact numN_snoc k _ _
        rw [e, Int.natCast_add, Int.natCast_mul]
        rfl
      · obtain ⟨y3, rfl, rfl⟩ := h
        unfold natsV
        rw [List.length_map, List.take_length]
        have ei : numN k (own :: oth).reverse = tabIx k (own :: oth) := rfl
        rw [ei]
        repeat' (walk_at "jv")
        refine i_ixT sb6 (atI_nat (v := V.int ((t9[tabIx k (own :: oth)] : Nat) : Int)) ?_) ?_
        · unfold natsV
          rw [List.getElem?_map, List.getElem?_eq_getElem hlt]
          rfl
        · rw [nextV_table, List.getD_eq_getElem?_getD, List.getElem?_eq_getElem hlt] at q
          exact q _ (k5.trans kR)
    | sum ts ht hk9 =>
      obtain ⟨y, rfl, dy⟩ : ∃ y, vr = [y] ∧ Dp K H5 y (.tuple (ts.map intsD)) := by
        cases dr with
        | cons h1 h2 => cases h2; exact ⟨_, rfl, h1⟩
      obtain ⟨b, us2, rfl, sb, db⟩ := tup_parts (ds := ts.map intsD) dy
      have ho : own < ts.length := by
        rw [ht]
        exact bnd own List.mem_cons_self
      obtain ⟨w1, w2⟩ := hk9 ts[own] (List.getElem_mem ho)
      have hu : us2.length = ts.length := by rw [DpAll.len db, List.length_map]
      have hx2 : us2[own]? = some us2[own] := List.getElem?_eq_getElem (by omega)
      obtain ⟨d, hdd, dx⟩ := DpAll.get db hx2
      rw [List.getElem?_map, List.getElem?_eq_getElem ho] at hdd
      obtain rfl : intsD ts[own] = d := Option.some.inj hdd
      obtain ⟨b2, us3, ex, sb2, db2⟩ := tup_parts (ds := ts[own].map fun n => PyData.int ((n : Nat) : Int)) dx
      have := nats_of _ us3 db2
      subst this
      rw [ex] at hx2
      have hz9 : atI us2 (own : Int) = some (V.ref b2) := atI_nat hx2
      have hsum : oth.sum ≤ oth.length * (k - 1) := sum_le fun s h => by
        have := bnd s (List.mem_cons_of_mem _ h)
        omega
      rw [hlo] at hsum
      have hlt : oth.sum < ts[own].length := by omega
      repeat' (walk_at "jv")
      all_goals first
        | (rename_i h; exact absurd h (by decide))
        | exact absurd (rfl : ("sum" : Str) = "sum") (by assumption)
        | skip
      refine i_sumN sD ?_
      refine i_ixT sb2 (atI_nat (v := V.int ((ts[own][oth.sum] : Nat) : Int)) ?_) ?_
      · unfold natsV
        rw [List.getElem?_map, List.getElem?_eq_getElem hlt]
        rfl
      · rw [nextV_sum, List.getD_eq_getElem?_getD (l := ts), List.getElem?_eq_getElem ho, Option.getD_some, List.getD_eq_getElem?_getD, List.getElem?_eq_getElem hlt] at q
        exact q _ k5
end
end
section
open L2 PySem PySem.Spec PyProof.Rows
abbrev s__law_step : Stmt := topS 74
theorem sc__law_step : FnScope ["_law_hall_here", "_law_state_here", "_law_place", "_law_at"] ["_law_hall_here", "_law_state_here", "_law_place"] (defScope s__law_step) := ⟨rfl, rfl, rfl, by decide +kernel, rfl, by decide +kernel, by decide +kernel⟩
abbrev s__law_day : Stmt := topS 75
theorem sc__law_day : FnScope ["_law_hall_here", "_law_order_here", "_law_state_here", "_law_place"] ["_law_hall_here", "_law_order_here", "_law_state_here"] (defScope s__law_day) := ⟨rfl, rfl, rfl, by decide +kernel, rfl, by decide +kernel, by decide +kernel⟩
section
variable {base : Heap} {P : Program} {w : World} {K : PySem.W.Frag} {mg : Str → Option Value}
theorem ok_lstep (D : Dn K mg "_law_step" s__law_step ["_law_hall_here", "_law_state_here", "_law_place"]) (B : Bn mg) (C__law_next : Cl P w K mg base 2 "_law_next" ["_law_hall_here", "_law_state_here", "_law_place"] (spLNext K)) : Cl P w K mg base 3 "_law_step" ["_law_hall_here", "_law_state_here", "_law_place"] (spStepped K) := by
  refine D.cl sc__law_step (fun vs H Q E h => ?_) (fun f cdv A outer s H vs Q E hr h => ?_)
  · obtain ⟨v, s, z, k, ps, rs, ds, t, rfl, _⟩ := h
    rfl
  · obtain ⟨v, st, z, k, ps, rs, ds, t, rfl, hh, hH, hs, hl, hk, hz, q⟩ := h
    obtain ⟨ta, T, wv, ea, sh, hw, dT, uT⟩ := id hh
    obtain ⟨wt, tp, tr, ew, sw, fp, drr⟩ := id hw
    have W := hH.web
    have h8 := W.le8
    refine ⟨_, (pss_cons (ps_set (i := 3) sc__law_step.nd rfl (by first | exact Or.inl rfl | exact Or.inr rfl) (pe_bmF PySem.F.plainAttrs_tuple PySem.F.slot_tuple_index PySem.F.type_tuple_index (k_tindex (K := K)) (pe_ix (k_ixT (K := K)) (pe_ix (k_ixT (K := K)) (pv 0) pe_int (fun _ _ => rfl)) pe_int (fun _ _ => rfl)) (pa_cons (pv 2) pa_nil)))
      (pss_one (ps_ret (pe_op (k_catA (K := K)) (pe_op (k_catA (K := K)) (pe_slice (ksl_tup (K := K)) (pv 1) po_none (po_some (pv 3))) (pe_tup (pa_cons (pe_c C__law_next hr (pa_cons (pv 0) (pa_cons (pv 1) (pa_cons (pv 2) pa_nil)))) pa_nil))) (pe_slice (ksl_tup (K := K)) (pv 1) (po_some (pe_op op_add (pv 3) pe_int)) po_none))))), ?_⟩
    subst ea ew
    repeat' (walk_at "jv")
    refine i_bmF ?_
    repeat' (walk_at "jv")
    refine i_tyF fp ?_
    repeat' (walk_at "jv")
    refine i_tix fp.sq hz ?_
    have lt := List.idxOf_lt_length_iff.mpr hz
    have h9 : (natsV t).length ≤ 8 := by
      unfold natsV
      rw [List.length_map, hl]
      exact h8
    repeat' (walk_at "jv")
    refine i_slG hs fun p5 H5 k5 s5 => ?_
    repeat' (walk_at "jv")
    refine ⟨_, st, z, k, ps, rs, ds, t, rfl, hh.same k5, hH, TK.same k5 _ _ hs, hl, hk, hz, fun H6 k6 => ?_⟩
    repeat' (walk_at "jv")
    intro p7 np7
    have k7 := Same.upd_new (o := .tup [V.int ((ownV k ps rs ds t z : Nat) : Int)]) np7
    have c1 : cutV (natsV t) none (some ((ps.idxOf z : Nat) : Int)) = (natsV t).take (ps.idxOf z) := cut_take
    rw [c1] at s5
    refine i_catA (TK.same (k6.trans k7) _ _ s5) (sq_tup upd_same) (by simp) (by rw [List.length_take, List.length_singleton, sizeLine_eq]; omega) fun p8 H8 k8 s8 => ?_
    have st8 := TK.same (K := K) (k5.trans (k6.trans (k7.trans k8))) _ _ hs
    repeat' (walk_at "jv")
    have c2 : ((ps.idxOf z : Nat) : Int) + 1 = ((ps.idxOf z + 1 : Nat) : Int) := by omega
    rw [c2]
    refine i_slG st8 fun p9 H9 k9 s9 => ?_
    rw [cut_from] at s9
    refine i_catB (TK.same k9 _ _ s8) s9 (by simp) (by rw [List.length_append, List.length_take, List.length_drop, List.length_singleton, sizeLine_eq]; omega) fun pA HA kA sA => ?_
    rw [nats_set (by rw [hl]; exact lt)] at sA
    exact q pA _ (k5.trans (k6.trans (k7.trans (k8.trans (k9.trans kA))))) sA
theorem ok_lday (D : Dn K mg "_law_day" s__law_day ["_law_hall_here", "_law_order_here", "_law_state_here"]) (B : Bn mg) (C__law_step : Cl P w K mg base 3 "_law_step" ["_law_hall_here", "_law_state_here", "_law_place"] (spStepped K)) : Cl P w K mg base 4 "_law_day" ["_law_hall_here", "_law_order_here", "_law_state_here"] (spPassed K) := by
  refine D.cl sc__law_day (fun vs H Q E h => ?_) (fun f cdv A outer s H vs Q E hr h => ?_)
  · obtain ⟨v, o, s, qs, k, ps, rs, ds, t, rfl, _⟩ := h
    rfl
  · obtain ⟨v, o, st, qs, k, ps, rs, ds, t, rfl, hh, hH, ho, pm, hs, hl, hk, q⟩ := h
    refine ⟨_, (pss_cons (ps_for PassesOwn.never rfl (kpi_tup (K := K) (pv 1)) (pg_name (i := 3) sc__law_day.nd rfl (by first | exact Or.inl rfl | exact Or.inr rfl)) (pss_one (ps_set (i := 2) sc__law_day.nd rfl (by first | exact Or.inl rfl | exact Or.inr rfl) (pe_c C__law_step hr (pa_cons (pv 0) (pa_cons (pv 2) (pa_cons (pv 3) pa_nil)))))))
      (pss_one (ps_ret (pv 2)))), ?_⟩
    repeat' (walk_at "jv")
    refine f_tup (qs.map V.str) (fun i σ H' => ∃ p y3, σ = [some v, some (.ref o), some (.ref p), y3] ∧ Same H H' ∧ SqT K H' p (natsV (dayN k ps rs ds t (qs.take i))) ∧ (dayN k ps rs ds t (qs.take i)).length = ps.length ∧ ∀ x ∈ dayN k ps rs ds t (qs.take i), x < k)
      ⟨st, none, rfl, Same.refl _, hs, hl, hk⟩ (fun i σ H' _ h => ?_) (fun i x σ H' hx h => ?_) (fun σ H' h => ?_)
    · obtain ⟨p, y3, rfl, k1, _⟩ := h
      exact TK.same k1 _ _ ho
    · obtain ⟨p, y3, rfl, k1, sp, l1, b1⟩ := h
      have hi : i < qs.length := by
        have := (List.getElem?_eq_some_iff.mp hx).1
        rwa [List.length_map] at this
      rw [List.getElem?_map, List.getElem?_eq_getElem hi] at hx
      obtain rfl : V.str qs[i] = x := Option.some.inj hx
      have hm : qs[i] ∈ ps := pm.mem_iff.mp (List.getElem_mem hi)
      have e : dayN k ps rs ds t (qs.take (i + 1)) = stepN k ps rs ds (dayN k ps rs ds t (qs.take i)) qs[i] := by
        rw [List.take_add_one, List.getElem?_eq_getElem hi]
        unfold dayN
        rw [List.foldl_append]
        rfl
      repeat' (walk_at "jv")
      refine ⟨v, p, qs[i], k, ps, rs, ds, _, rfl, hh.same k1, hH, sp, l1, b1, hm, fun p2 H2 k2 s2 => ?_⟩
      repeat' (walk_at "jv")
      exact ⟨p2, _, rfl, k1.trans k2, by rw [e]; exact s2, by rw [e, step_len]; exact l1, by rw [e]; exact step_lt hH hm b1⟩
    · obtain ⟨p, y3, rfl, k1, sp, l1, b1⟩ := h
      rw [List.length_map, List.take_length] at sp
      repeat' (walk_at "jv")
      exact q p _ k1 sp
end
end
section
open L2 PySem PySem.Spec PyProof.Rows
abbrev s__law_order : Stmt := topS 71
theorem sc__law_order : FnScope ["_law_feed_here", "_law_web_here"] ["_law_feed_here", "_law_web_here"] (defScope s__law_order) := ⟨rfl, rfl, rfl, by decide +kernel, rfl, by decide +kernel, by decide +kernel⟩
abbrev s__law_state : Stmt := topS 72
theorem sc__law_state : FnScope ["_law_feed_here", "_law_hall_here", "_law_place"] ["_law_feed_here", "_law_hall_here"] (defScope s__law_state) := ⟨rfl, rfl, rfl, by decide +kernel, rfl, by decide +kernel, by decide +kernel⟩
def spMixedT (K : PySem.W.Frag) : Sp := fun vs H Q _ => ∃ (a p : Addr) (c : Int) (xs : List V), vs = [.ref a, .ref p] ∧ Fd H a c ∧ SqT K H p xs ∧ xs.length ≤ 1000 ∧ c < 10 ^ 14 ∧
  ∀ (q : Addr) (ys : List V) (H' : Hp), ys.Perm xs → H q = none → H' q = some (.lst ys) → Fd H' a (c + 1000) → Ch a H H' → Q (.ref q) H'
def spOrderF (K : PySem.W.Frag) : Sp := fun vs H Q _ => ∃ (a : Addr) (v : V) (ps : List Str) (rs : List (Str × Str)) (c : Int), vs = [.ref a, v] ∧ Fd H a c ∧ Dp K H v (webD ps rs) ∧ ps.length ≤ 8 ∧ c < 10 ^ 13 ∧
  ∀ (T : Addr) (qs : List Str) (H' : Hp), qs.Perm ps → FT H' T (qs.map V.str) → Fd H' a (c + 1000) → Ch a H H' → Q (.ref T) H'
def spLState (K : PySem.W.Frag) : Sp := fun vs H Q _ => ∃ (a : Addr) (v : V) (c : Int) (k : Nat) (ps : List Str) (rs : List (Str × Str)) (ds : List PyData), vs = [.ref a, v] ∧ Fd H a c ∧ c < 10 ^ 14 ∧ Dp K H v (hallD k ps rs ds) ∧ tupOnlyAll ds = true ∧ IsHall k ps rs ds ∧
  ∀ (p : Addr) (t : List Nat) (H' : Hp), t.length = ps.length → (∀ x ∈ t, x < k) → SqT K H' p (natsV t) → Fd H' a (c + 8) → Ch a H H' → Q (.ref p) H'
section
variable {base : Heap} {P : Program} {w : World} {K : PySem.W.Frag} {mg : Str → Option Value}
theorem ok_mixedT (D : Dn K mg "_law_mixed" s__law_mixed ["_law_feed_here", "_law_things"]) (B : Bn mg) (C__law_draw : Cl P w K mg base 1 "_law_draw" ["_law_feed_here", "_law_many"] spDraw) : Cl P w K mg base 2 "_law_mixed" ["_law_feed_here", "_law_things"] (spMixedT K) := by
  refine D.cl sc__law_mixed (fun vs H Q E h => ?_) (fun f cdv A outer s H vs Q E hr h => ?_)
  · obtain ⟨a, p, c, xs, rfl, _⟩ := h
    rfl
  · obtain ⟨a, p, c, xs, rfl, hf, hp, hz, hc, q⟩ := h
    refine ⟨_, (pss_cons (ps_par (i := 2) (j := 3) rfl sc__law_mixed.nd rfl rfl (by decide) rfl rfl (pa_cons (pe_callTy (k_list (K := K)) rfl B.list_ (by decide +kernel) (pa_cons (pv 1) pa_nil)) (pa_cons (pe_lst pa_nil) pa_nil)) (by rfl))
      (pss_cons (ps_for PassesOwn.never rfl (pi_range1 rfl B.range_ (pa_cons (pe_callB (k_len (K := K)) rfl B.len_ (by decide +kernel) (pa_cons (pv 1) pa_nil)) pa_nil)) (pg_name (i := 4) sc__law_mixed.nd rfl (by first | exact Or.inl rfl | exact Or.inr rfl)) (pss_one (ps_expr (pe_bm PySem.F.plainAttrs_list PySem.F.slot_list_append PySem.F.type_list_append mt_append (pv 3) (pa_cons (pe_bm PySem.F.plainAttrs_list PySem.F.slot_list_pop PySem.F.type_list_pop mt_popAt (pv 2) (pa_cons (pe_c C__law_draw hr (pa_cons (pv 0) (pa_cons (pe_callB (k_len (K := K)) rfl B.len_ (by decide +kernel) (pa_cons (pv 2) pa_nil)) pa_nil))) pa_nil)) pa_nil)))))
      (pss_one (ps_ret (pv 3))))), ?_⟩
    repeat' (walk_at "jv")
    intro L nL
    have nLa := hf.ne nL
    repeat' (walk_at "jv")
    intro G nG
    have nGL : G ≠ L := by walk_at "jn"
    have nG0 : H G = none := Ch.free (a := a) (by walk_at "jh") (by walk_at "jn") nG
    have nGa := hf.ne nG0
    have hp2 : SqT K (upd (upd H L (.lst xs)) G (.lst [])) p xs := (TK.new (K := K) nG) _ _ ((TK.new (K := K) nL) _ _ hp)
    repeat' (walk_at "jv")
    refine f_range (fun i σ H' => ∃ y4 pool gs, σ = [some (.ref a), some (.ref p), some (.ref L), some (.ref G), y4] ∧ H' L = some (.lst pool) ∧ H' G = some (.lst gs) ∧ (gs ++ pool).Perm xs ∧ gs.length = i ∧ Fd H' a (c + i) ∧ Ch a H H') ⟨none, xs, [], rfl, ?_, ?_, List.Perm.refl _, rfl, ?_, ?_⟩ (fun i σ H' hi h => ?_) (fun σ H' h => ?_)
    · walk_at "jl"
    · walk_at "jl"
    · exact Fd.mono (c := c) (by walk_at "jf") (by omega)
    · walk_at "jh"
    · obtain ⟨y4, pool, gs, rfl, h1, h2, h3, h4, h5, h6⟩ := h
      have hl := h3.length_eq
      rw [List.length_append] at hl
      repeat' (walk_at "jv")
      refine ⟨a, pool.length, c + i, rfl, h5, by omega, by omega, by omega, fun r H1 r0 r1 f1 k1 => ?_⟩
      obtain ⟨k, rfl⟩ := Int.eq_ofNat_of_zero_le r0
      have hk : k < pool.length := by omega
      repeat' (walk_at "jv")
      refine i_popAt (xs := pool) (by walk_at "jl") (by omega) (List.getElem?_eq_getElem hk) ?_
      repeat' (walk_at "jv")
      refine ⟨_, _, _, rfl, by walk_at "jl", by walk_at "jl", ?_, ?_, ?_, by walk_at "jh"⟩
      · rw [List.append_assoc]
        exact (List.Perm.append_left gs (perm_erase pool k hk)).trans h3
      · rw [List.length_append, h4]
        rfl
      · exact Fd.mono (c := c + i + 1) (by walk_at "jf") (by omega)
    · obtain ⟨y4, pool, gs, rfl, h1, h2, h3, h4, h5, h6⟩ := h
      repeat' (walk_at "jv")
      have hl := h3.length_eq
      rw [List.length_append] at hl
      have e0 : pool = [] := List.eq_nil_of_length_eq_zero (by omega)
      rw [e0, List.append_nil] at h3
      exact q G gs H' h3 nG0 h2 (h5.mono (by omega)) h6
theorem ok_orderF (D : Dn K mg "_law_order" s__law_order ["_law_feed_here", "_law_web_here"]) (B : Bn mg) (C__law_mixed : Cl P w K mg base 2 "_law_mixed" ["_law_feed_here", "_law_things"] (spMixedT K)) :
    Cl P w K mg base 3 "_law_order" ["_law_feed_here", "_law_web_here"] (spOrderF K) := by
  refine D.cl sc__law_order (fun vs H Q E h => ?_) (fun f cdv A outer s H vs Q E hr h => ?_)
  · obtain ⟨a, v, ps, rs, c, rfl, _⟩ := h
    rfl
  · obtain ⟨a, v, ps, rs, c, rfl, hf, hd, hl, hc, q⟩ := h
    obtain ⟨t, tp, tr, xs, rfl, s1, s2, s3, d3, dr, dpl⟩ := web_parts hd
    refine ⟨_, (pss_one (ps_ret (pe_callTy (k_tupleF (K := K)) rfl B.tuple_ (by decide +kernel) (pa_cons (pe_c C__law_mixed hr (pa_cons (pv 0) (pa_cons (pe_ix (k_ixT (K := K)) (pv 1) pe_int (fun _ _ => rfl)) pa_nil))) pa_nil)))), ?_⟩
    repeat' (walk_at "jv")
    refine ⟨a, tp, c, ps.map V.str, rfl, hf, s2, by rw [List.length_map]; omega, by omega, fun G ys H1 pm nG eG f1 k1 => ?_⟩
    obtain ⟨es, pe2, dz⟩ := DpAll.perm pm (DpAll.strs (K := K) (H := H1) ps)
    obtain ⟨qs, pq, rfl⟩ := perm_map_inv pe2 rfl
    have ez := DpAll.strs_inv dz
    subst ez
    refine i_nil ?_
    refine ⟨G, _, rfl, sq_lst eG, fun T ob nT ok => ?_⟩
    exact q T qs _ pq (FT.new ok) (f1.upd (Ne.symm (f1.ne nT))) (k1.trans (Ch.upd_new nT))
theorem ok_lstate (D : Dn K mg "_law_state" s__law_state ["_law_feed_here", "_law_hall_here"]) (B : Bn mg) (C__law_draw : Cl P w K mg base 1 "_law_draw" ["_law_feed_here", "_law_many"] spDraw) : Cl P w K mg base 2 "_law_state" ["_law_feed_here", "_law_hall_here"] (spLState K) := by
  refine D.cl sc__law_state (fun vs H Q E h => ?_) (fun f cdv A outer s H vs Q E hr h => ?_)
  · obtain ⟨a, v, c, k, ps, rs, ds, rfl, _⟩ := h
    rfl
  · obtain ⟨a, v, c, k, ps, rs, ds, rfl, hf, hc, hd, hto, hH, q⟩ := h
    obtain ⟨ta, wv, tr, us, rfl, sh, hw, sr, dr⟩ := hall_parts hd
    obtain ⟨wt, tp, trr, xs, rfl, s1, s2, s3, d3, drr, dpl⟩ := web_parts hw
    have h8 := hH.web.le8
    have hk2 : 2 ≤ k ∧ k ≤ 3 := by rcases hH.two with e | e <;> omega
    refine ⟨_, (pss_one (ps_ret (pe_callTy (k_tuple (K := K)) rfl B.tuple_ (by decide +kernel) (pa_cons (pe_lc (own := [("_law_place", 2)]) rfl sc__law_state.nd (kpi_tup (K := K) (pe_ix (k_ixT (K := K)) (pe_ix (k_ixT (K := K)) (pv 1) pe_int (fun _ _ => rfl)) pe_int (fun _ _ => rfl))) (blkOk_by (N := ["_law_feed_here", "_law_hall_here", "_law_place"]) (sc := defScope s__law_state) (by decide +kernel)) (fun _ _ _ _ _ => (pg_name (i := 2) sc__law_state.nd rfl (by first | exact Or.inl rfl | exact Or.inr rfl))) (fun _ _ _ _ _ => pts_nil) (fun _ _ _ _ _ => (pe_c C__law_draw hr (pa_cons (pv 0) (pa_cons (pe_ix (k_ixT (K := K)) (pv 1) pe_int (fun _ _ => rfl)) pa_nil))))) pa_nil)))), ?_⟩
    repeat' (walk_at "jv")
    refine c_tup (ps.map V.str) (fun D j H' => D ≠ a ∧ H D = none ∧ (∃ t : List Nat, H' D = some (.lst (natsV t)) ∧ t.length = j ∧ ∀ x ∈ t, x < k) ∧ Fd H' a (c + j) ∧ Ch a H H')
      (fun D nD => ⟨hf.ne nD, nD, ⟨[], upd_same, rfl, fun _ z => absurd z List.not_mem_nil⟩, by simpa using hf.upd (Ne.symm (hf.ne nD)), Ch.upd_new nD⟩) (fun D j H2 _ h => ?_) (fun D j x H2 hx h => ?_) (fun D H2 h => ?_)
    · obtain ⟨b1, b2, _, b9, b10⟩ := h
      exact TK.ch b10 hf _ _ s2
    · obtain ⟨b1, b2, ⟨t, b6, b7, b8⟩, b9, b10⟩ := h
      have hj : j < ps.length := by
        have := (List.getElem?_eq_some_iff.mp hx).1
        rwa [List.length_map] at this
      have sh' := TK.ch (K := K) b10 hf _ _ sh
      repeat' (walk_at "jv")
      refine ⟨a, k, _, rfl, b9, by omega, by omega, by omega, fun x H4 x0 x1 f4 k4 => ?_⟩
      obtain ⟨x, rfl⟩ := Int.eq_ofNat_of_zero_le x0
      have e4 := k4 D _ b1 b6
      refine i_lcE e4 (by unfold natsV; rw [List.length_map, sizeLine_eq]; omega) ?_
      refine ⟨b1, b2, ⟨t ++ [x], by unfold natsV; rw [List.map_append]; exact upd_same, by rw [List.length_append, b7]; rfl, fun y hy => ?_⟩, (f4.upd b1.symm).mono (by omega), (b10.trans k4).upd_l b2⟩
      rcases List.mem_append.mp hy with hy | hy
      · exact b8 y hy
      · rcases List.mem_singleton.mp hy with rfl
        omega
    · obtain ⟨b1, b2, ⟨t, b6, b7, b8⟩, b9, b10⟩ := h
      rw [List.length_map] at b7 b9
      repeat' (walk_at "jv")
      intro T nT
      exact q T t _ b7 b8 (sq_tup upd_same) ((b9.upd (Ne.symm (b9.ne nT))).mono (by omega)) (b10.upd_n nT)
end
end
section
open L2 PySem PySem.Spec PyProof.Rows
abbrev s__law_great_hall : Stmt := topS 77
theorem sc__law_great_hall : FnScope ["_law_feed_here", "_law_sort", "_law_k", "_law_many", "_law_pairs", "_law_turn", "_law_one_here", "_law_other", "_law_names_here", "_law_web_here", "_law_place"] ["_law_feed_here", "_law_sort"] (defScope s__law_great_hall) := ⟨rfl, rfl, rfl, by decide +kernel, rfl, by decide +kernel, by decide +kernel⟩
section
variable {base : Heap} {P : Program} {w : World} {K : PySem.W.Frag} {mg : Str → Option Value}
theorem ok_great_hallP (D : Dn K mg "_law_great_hall" s__law_great_hall ["_law_feed_here", "_law_sort"]) (B : Bn mg) (C__law_draw : Cl P w K mg base 1 "_law_draw" ["_law_feed_here", "_law_many"] spDraw) (C__law_one : Cl P w K mg base 2 "_law_one" ["_law_feed_here", "_law_things"] (spOne K))
    (C__law_names : Cl P w K mg base 3 "_law_names" ["_law_feed_here", "_law_many"] spNames) (C__law_neighbours : Cl P w K mg base 1 "_law_neighbours" ["_law_web_here", "_law_place"] (spNear K))
    (C__law_rule : Cl P w K mg base 4 "_law_rule" ["_law_feed_here", "_law_k", "_law_others", "_law_sort"] (spRule K)) : Cl P w K mg base 5 "_law_great_hall" ["_law_feed_here", "_law_sort"] (spGreatF K) := by
  refine D.cl sc__law_great_hall (fun vs H Q E h => ?_) (fun f cdv A outer s H vs Q E hr h => ?_)
  · obtain ⟨a, sort, c, rfl, _⟩ := h
    rfl
  · obtain ⟨a, sort, c, rfl, hf, hc, q⟩ := h
    refine ⟨_, (pss_cons (ps_set (i := 2) sc__law_great_hall.nd rfl (by first | exact Or.inl rfl | exact Or.inr rfl) (pe_ifExp (pt_cmpR op_eq (pv 1) pe_str (nomark _)) pe_int (pe_c C__law_one hr (pa_cons (pv 0) (pa_cons (pe_lst (pa_cons pe_int (pa_cons pe_int (pa_cons pe_int pa_nil)))) pa_nil)))))
      (pss_cons (ps_set (i := 3) sc__law_great_hall.nd rfl (by first | exact Or.inl rfl | exact Or.inr rfl) (pe_ifExp (pt_cmpR op_eq (pv 2) pe_int (nomark _)) pe_int (pe_op op_add pe_int (pe_c C__law_draw hr (pa_cons (pv 0) (pa_cons pe_int pa_nil))))))
      (pss_cons (ps_set (i := 4) sc__law_great_hall.nd rfl (by first | exact Or.inl rfl | exact Or.inr rfl) (pe_lst pa_nil))
      (pss_cons (ps_for PassesOwn.never rfl (pi_range1 rfl B.range_ (pa_cons (pe_c C__law_draw hr (pa_cons (pv 0) (pa_cons pe_int pa_nil))) pa_nil)) (pg_name (i := 5) sc__law_great_hall.nd rfl (by first | exact Or.inl rfl | exact Or.inr rfl)) (pss_cons (ps_set (i := 6) sc__law_great_hall.nd rfl (by first | exact Or.inl rfl | exact Or.inr rfl) (pe_c C__law_draw hr (pa_cons (pv 0) (pa_cons (pv 3) pa_nil))))
      (pss_cons (ps_set (i := 7) sc__law_great_hall.nd rfl (by first | exact Or.inl rfl | exact Or.inr rfl) (pe_op op_mod (pe_callTy (j_int) rfl B.int_ (by decide +kernel) (pa_cons (pe_op op_add (pe_op op_add (pv 6) pe_int) (pe_c C__law_draw hr (pa_cons (pv 0) (pa_cons (pe_op op_sub (pv 3) pe_int) pa_nil)))) pa_nil)) (pv 3)))
      (pss_one (ps_if (pt_cmpR (o_notInQ hr.units) (pe_tup (pa_cons (pe_callB (j_min rfl) rfl B.min_ (by decide +kernel) (pa_cons (pv 6) (pa_cons (pv 7) pa_nil))) (pa_cons (pe_callB (j_max rfl) rfl B.max_ (by decide +kernel) (pa_cons (pv 6) (pa_cons (pv 7) pa_nil))) pa_nil))) (pv 4) (by rfl)) (pss_one (ps_expr (pe_bm PySem.F.plainAttrs_list PySem.F.slot_list_append PySem.F.type_list_append mt_append (pv 4) (pa_cons (pe_tup (pa_cons (pe_callB (j_min rfl) rfl B.min_ (by decide +kernel) (pa_cons (pv 6) (pa_cons (pv 7) pa_nil))) (pa_cons (pe_callB (j_max rfl) rfl B.max_ (by decide +kernel) (pa_cons (pv 6) (pa_cons (pv 7) pa_nil))) pa_nil))) pa_nil)))) pss_nil)))))
      (pss_cons (ps_set (i := 8) sc__law_great_hall.nd rfl (by first | exact Or.inl rfl | exact Or.inr rfl) (pe_c C__law_names hr (pa_cons (pv 0) (pa_cons (pv 3) pa_nil))))
      (pss_cons (ps_set (i := 9) sc__law_great_hall.nd rfl (by first | exact Or.inl rfl | exact Or.inr rfl) (pe_tup (pa_cons (pe_callTy (k_tupleF (K := K)) rfl B.tuple_ (by decide +kernel) (pa_cons (pv 8) pa_nil)) (pa_cons (pe_callTy (k_tuple (K := K)) rfl B.tuple_ (by decide +kernel) (pa_cons (pe_lc (own := [("_law_one_here", 6), ("_law_other", 7)]) rfl sc__law_great_hall.nd (kpi_list (K := K) (pv 4)) (blkOk_by (N := ["_law_feed_here", "_law_sort", "_law_k", "_law_many", "_law_pairs", "_law_turn", "_law_one_here", "_law_other", "_law_names_here", "_law_web_here", "_law_place"]) (sc := defScope s__law_great_hall) (by decide +kernel)) (fun _ _ _ _ _ => (kpg_tup (K := K) (n := 2) rfl (pgs_cons (pg_name (i := 6) sc__law_great_hall.nd rfl (by first | exact Or.inl rfl | exact Or.inr rfl)) (pgs_cons (pg_name (i := 7) sc__law_great_hall.nd rfl (by first | exact Or.inl rfl | exact Or.inr rfl)) pgs_nil)))) (fun _ _ _ _ _ => pts_nil) (fun _ _ _ _ _ => (pe_ifExp (pt_cmpR op_eq (pe_c C__law_draw hr (pa_cons (pv 0) (pa_cons pe_int pa_nil))) pe_int (nomark _)) (pe_tup (pa_cons (pe_ix (k_ixL (K := K)) (pv 8) (pv 6) (fun _ _ => rfl)) (pa_cons (pe_ix (k_ixL (K := K)) (pv 8) (pv 7) (fun _ _ => rfl)) pa_nil))) (pe_tup (pa_cons (pe_ix (k_ixL (K := K)) (pv 8) (pv 7) (fun _ _ => rfl)) (pa_cons (pe_ix (k_ixL (K := K)) (pv 8) (pv 6) (fun _ _ => rfl)) pa_nil)))))) pa_nil)) pa_nil))))
      (pss_one (ps_ret (pe_tup (pa_cons (pv 2) (pa_cons (pv 9) (pa_cons (pe_callTy (k_tuple (K := K)) rfl B.tuple_ (by decide +kernel) (pa_cons (pe_lc (own := [("_law_place", 10)]) rfl sc__law_great_hall.nd (kpi_tup (K := K) (pe_ix (k_ixT (K := K)) (pv 9) pe_int (fun _ _ => rfl))) (blkOk_by (N := ["_law_feed_here", "_law_sort", "_law_k", "_law_many", "_law_pairs", "_law_turn", "_law_one_here", "_law_other", "_law_names_here", "_law_web_here", "_law_place"]) (sc := defScope s__law_great_hall) (by decide +kernel)) (fun _ _ _ _ _ => (pg_name (i := 10) sc__law_great_hall.nd rfl (by first | exact Or.inl rfl | exact Or.inr rfl))) (fun _ _ _ _ _ => pts_nil) (fun _ _ _ _ _ => (pe_c C__law_rule hr (pa_cons (pv 0) (pa_cons (pv 2) (pa_cons (pe_c C__law_neighbours hr (pa_cons (pv 9) (pa_cons (pv 10) pa_nil))) (pa_cons (pv 1) pa_nil))))))) pa_nil)) pa_nil)))))))))))), ?_⟩
    refine i_seq ?_
    refine i_asg ?_
    refine i_cut (fun v H' => ∃ k : Nat, v = .int k ∧ (k = 2 ∨ k = 3) ∧ Fd H' a (c + 1) ∧ Ch a H H') (fun Q1 hQ1 => ?_) ?_
    · repeat' (walk_at "jv")
      · exact hQ1 _ _ ⟨2, rfl, .inl rfl, hf.mono (by omega), Ch.refl _⟩
      · intro L nL
        repeat' (walk_at "jv")
        refine ⟨a, L, c, [.int 2, .int 2, .int 3], rfl, hf.upd (Ne.symm (hf.ne nL)), SqA.l (sq_lst upd_same), hf.ne nL, by show 0 < 3; decide, by show 3 < 1000000; decide, by omega, fun v H1 hv f1 k1 => ?_⟩
        repeat' (walk_at "jv")
        have hv' : v = .int 2 ∨ v = .int 3 := by simpa using hv
        rcases hv' with rfl | rfl
        · exact hQ1 _ _ ⟨2, rfl, .inl rfl, f1, (Ch.upd_new nL).trans k1⟩
        · exact hQ1 _ _ ⟨3, rfl, .inr rfl, f1, (Ch.upd_new nL).trans k1⟩
    rintro v H1 ⟨k, rfl, hk, f1, k1⟩
    refine i_gname ?_
    refine i_seq ?_
    refine i_asg ?_
    refine i_cut (fun v H' => ∃ n : Nat, v = .int n ∧ 5 ≤ n ∧ n ≤ 8 ∧ (k = 3 → n = 5) ∧ Fd H' a (c + 2) ∧ Ch a H H') (fun Q1 hQ1 => ?_) ?_
    · repeat' (walk_at "jv")
      · exact hQ1 _ _ ⟨5, rfl, by omega, by omega, fun _ => rfl, f1.mono (by omega), k1⟩
      · rename_i h3
        refine ⟨a, 2, c + 1, rfl, f1, by omega, by omega, by omega, fun r H2 r0 r1 f2 k2 => ?_⟩
        repeat' (walk_at "jv")
        obtain ⟨r, rfl⟩ := Int.eq_ofNat_of_zero_le r0
        exact hQ1 _ _ ⟨7 + r, congrArg V.int (by omega), by omega, by omega, fun z => absurd (by rw [z]; rfl) h3, f2.mono (by omega), k1.trans k2⟩
    rintro v H2 ⟨n, rfl, n5, n8, n3, f2, k2⟩
    clear f1 k1 H1
    repeat' (walk_at "jv")
    intro P nP
    have nPa := f2.ne nP
    have nP0 : H P = none := k2.free nPa nP
    have f4 : Fd (upd H2 P (.lst [])) a (c + 2) := f2.upd (Ne.symm nPa)
    have k4 : Ch a H (upd H2 P (.lst [])) := k2.upd_l nP0
    have eP4 : (upd H2 P (.lst [])) P = some (.lst []) := upd_same
    generalize upd H2 P (.lst []) = H4 at *
    clear f2 k2 nP H2
    repeat' (walk_at "jv")
    refine ⟨a, 15, c + 2, rfl, f4, by omega, by omega, by omega, fun m H5 m0 m1 f5 k5 => ?_⟩
    obtain ⟨m, rfl⟩ := Int.eq_ofNat_of_zero_le m0
    have k50 := k4.trans k5
    have l5 : LsD K H5 P (([] : List (Nat × Nat)).map pairD) := LsD.nil (k5 _ _ nPa eP4)
    clear f4 k4 eP4 k5 H4
    repeat' (walk_at "jv")
    rw [Int.toNat_natCast]
    refine f_range (fun i σ H' => ∃ y5 y6 y7 pl, σ = [some (.ref a), some (.str sort), some (.int k), some (.int n), some (.ref P), y5, y6, y7, none, none, none] ∧ LsD K H' P (pl.map pairD) ∧ pl.Nodup ∧ (∀ p ∈ pl, p.1 < p.2 ∧ p.2 < n) ∧ pl.length ≤ i ∧ Fd H' a (c + 3 + 2 * i) ∧ Ch a H H')
      ⟨none, none, none, [], rfl, l5, List.nodup_nil, fun _ z => absurd z List.not_mem_nil, Nat.le_refl _, f5.mono (by omega), k50⟩ (fun i σ H6 hi h => ?_) (fun σ H6 h => ?_)
    · obtain ⟨y5, y6, y7, pl, rfl, l6, hp1, hp2, hp3, f6, k6⟩ := h
      repeat' (walk_at "jv")
      refine ⟨a, n, _, rfl, f6, by omega, by omega, by omega, fun x H7 s0 s1 f7 k7 => ?_⟩
      repeat' (walk_at "jv")
      refine ⟨a, (n : Int) - 1, _, rfl, f7, by omega, by omega, by omega, fun y H8 u0 u1 f8 k8 => ?_⟩
      obtain ⟨x, rfl⟩ := Int.eq_ofNat_of_zero_le s0
      obtain ⟨y, rfl⟩ := Int.eq_ofNat_of_zero_le u0
      repeat' (walk_at "jv")
      have eo : ∃ o : Nat, ((x : Int) + 1 + y) % n = o ∧ o < n ∧ o ≠ x := by
        by_cases hz : x + 1 + y < n
        · exact ⟨x + 1 + y, by rw [Int.emod_eq_of_lt (by omega) (by omega)]; omega, hz, by omega⟩
        · refine ⟨x + 1 + y - n, ?_, by omega, by omega⟩
          rw [← Int.sub_emod_right, Int.emod_eq_of_lt (by omega) (by omega)]
          omega
      obtain ⟨o, eo, o1, o2⟩ := eo
      rw [eo]
      repeat' (walk_at "jv")
      intro p np
      have em : (min (x : Int) o) = ((min x o : Nat) : Int) := by omega
      have eM : (max (x : Int) o) = ((max x o : Nat) : Int) := by omega
      have hlt : min x o < max x o := by omega
      have hmx : max x o < n := by omega
      rw [em, eM]
      obtain ⟨vs, e8, d8, t8⟩ := ((l6.ch k7 f6 nPa).ch k8 f7 nPa).new (o := .tup [.int ((min x o : Nat) : Int), .int ((max x o : Nat) : Int)]) np
      have hlen : vs.length = pl.length := by rw [DpAll.len d8, List.length_map]
      have dp : Dp K (upd H8 p (.tup [.int ((min x o : Nat) : Int), .int ((max x o : Nat) : Int)])) (.ref p) (pairD (min x o, max x o)) := .tup (xs := [.int ((min x o : Nat) : Int), .int ((max x o : Nat) : Int)]) (.inl (.inl upd_same)) (.cons (.int _) (.cons (.int _) .nil))
      have f9 : Fd (upd H8 p (.tup [.int ((min x o : Nat) : Int), .int ((max x o : Nat) : Int)])) a (c + 3 + 2 * i + 1 + 1) := f8.upd (Ne.symm (f8.ne np))
      have k9 : Ch a H (upd H8 p (.tup [.int ((min x o : Nat) : Int), .int ((max x o : Nat) : Int)])) := (k6.trans (k7.trans k8)).upd_n np
      generalize upd H8 p (.tup [.int ((min x o : Nat) : Int), .int ((max x o : Nat) : Int)]) = H9 at *
      repeat' (walk_at "jv")
      refine ⟨pairD (min x o, max x o), pl.map pairD, dp, .inl (.lst (sq_lst e8) d8), rfl, pairs_lay pl, by show 0 + 1 ≤ 60; decide, ?_⟩
      rw [if_pos rfl, pairs_any]
      repeat' (walk_at "jv")
      · rename_i hin
        intro p2 np2
        rw [em, eM]
        have e9 : (upd H9 p2 (.tup [.int ((min x o : Nat) : Int), .int ((max x o : Nat) : Int)])) P = some (.lst vs) := (upd_ne (ne_of_none e8 np2)).trans e8
        repeat' (walk_at "jv")
        refine ⟨_, _, _, pl ++ [(min x o, max x o)], rfl, by rw [List.map_append]; exact LsD.push2 e8 d8 t8 np2 (.int ((min x o : Nat) : Int)) (.int ((max x o : Nat) : Int)) rfl rfl, ?_, fun q' hq' => ?_, by rw [List.length_append]; show pl.length + 1 ≤ _; omega, ((f9.upd (Ne.symm (f9.ne np2))).upd (Ne.symm nPa)).mono (by omega), (k9.upd_n np2).upd_l nP0⟩
        · refine List.nodup_append.mpr ⟨hp1, by simp, fun z hz w hw => ?_⟩
          rcases List.mem_singleton.mp hw with rfl
          intro e
          rw [e] at hz
          exact hin hz
        · rcases List.mem_append.mp hq' with hq' | hq'
          · exact hp2 q' hq'
          · rcases List.mem_singleton.mp hq' with rfl
            exact ⟨hlt, hmx⟩
      · exact ⟨_, _, _, pl, rfl, ⟨vs, e8, d8, t8⟩, hp1, hp2, by omega, f9.mono (by omega), k9⟩
    obtain ⟨y5, y6, y7, pl, rfl, l6, hp1, hp2, hp3, f6, k6⟩ := h
    obtain ⟨zs, eU8, dU8, tU8⟩ := l6
    have hplt : pl.length ≤ 14 := by omega
    have hul : zs.length = pl.length := by rw [DpAll.len dU8, List.length_map]
    repeat' (walk_at "jv")
    refine ⟨a, n, _, rfl, f6, by omega, by omega, by omega, fun G ns H9 hns hl nG eG9 f9' k9 => ?_⟩
    have hl' : ns.length = n := by omega
    have nGa := f6.ne nG
    have dU9 := DpAll.tk (TK.ch k9 f6) _ _ (pairs_only pl) dU8
    have eU9 := k9 _ _ nPa eU8
    have k90 : Ch a H H9 := k6.trans k9
    have f9 : Fd H9 a (c + 2000) := f9'.mono (by omega)
    have nPG : P ≠ G := ne_of_none eU8 nG
    clear f6 k6 k9 f9' nG dU8 eU8 k50 l5 f5 H5 H6
    repeat' (walk_at "jv")
    refine ⟨G, ns.map V.str, rfl, sq_lst eG9, fun T1 ob nT1 okb => ?_⟩
    have cT1 : TK K H9 (upd H9 T1 (.frz ob (.tup (ns.map V.str)))) := TK.new nT1
    have fT1 : FT (upd H9 T1 (.frz ob (.tup (ns.map V.str)))) T1 (ns.map V.str) := FT.new okb
    have eGA : (upd H9 T1 (.frz ob (.tup (ns.map V.str)))) G = some (.lst (ns.map V.str)) := (upd_ne (ne_of_none eG9 nT1)).trans eG9
    have eUA : (upd H9 T1 (.frz ob (.tup (ns.map V.str)))) P = some (.lst zs) := (upd_ne (ne_of_none eU9 nT1)).trans eU9
    have dUA := DpAll.tk cT1 _ _ (pairs_only pl) dU9
    have fA := f9.upd (q := T1) (o := .frz ob (.tup (ns.map V.str))) (Ne.symm (f9.ne nT1))
    have kA := k90.upd_n (q := T1) (o := .frz ob (.tup (ns.map V.str))) nT1
    generalize upd H9 T1 (.frz ob (.tup (ns.map V.str))) = HA at *
    clear cT1 eG9 eU9 dU9 f9 k90 nT1
    repeat' (walk_at "jv")
    refine c_list zs (fun D i H' => D ≠ a ∧ H D = none ∧ P ≠ D ∧ G ≠ D ∧ (∃ rs : List (Str × Str), LsD K H' D (rs.map roadD) ∧ rs.length = i ∧ ∀ (k : Nat) p x, pl[k]? = some p → rs[k]? = some x → RoadOf ns p x) ∧ H' P = some (.lst zs) ∧ DpAll K H' zs (pl.map pairD) ∧ H' G = some (.lst (ns.map V.str)) ∧ FT H' T1 (ns.map V.str) ∧ Fd H' a (c + 2000 + i) ∧ Ch a H H')
      (fun D nD => ?_) (fun D i H' _ h => sq_lst h.2.2.2.2.2.1) (fun D i x H' hx h => ?_) (fun R H' h => ?_)
    · have nDa := fA.ne nD
      exact ⟨nDa, kA.free nDa nD, ne_of_none eUA nD, ne_of_none eGA nD, ⟨[], LsD.nil upd_same, rfl, fun k p x _ z => by simp at z⟩, (upd_ne (ne_of_none eUA nD)).trans eUA, DpAll.tk (TK.new nD) _ _ (pairs_only _) dUA, (upd_ne (ne_of_none eGA nD)).trans eGA, fT1.same (Same.upd_new nD), by simpa using fA.upd (Ne.symm nDa), kA.upd_n nD⟩
    · obtain ⟨b1, b2, nPD, nGD, ⟨rs, hR, hrl, hro⟩, b4, b5, b6, bT, b7, b8⟩ := h
      obtain ⟨d, hd, dx⟩ := DpAll.get b5 hx
      have hi : i < zs.length := (List.getElem?_eq_some_iff.mp hx).1
      have hip : i < pl.length := by omega
      rw [List.getElem?_map, List.getElem?_eq_getElem hip] at hd
      obtain rfl : pairD pl[i] = d := Option.some.inj hd
      obtain ⟨p1, p2⟩ := hp2 pl[i] (List.getElem_mem hip)
      obtain ⟨tb, ts, rfl, sb, db⟩ := tup_parts (ds := [.int (pl[i].1 : Nat), .int (pl[i].2 : Nat)]) dx
      obtain ⟨z1, a1⟩ := at_nat (l := ns) (k := pl[i].1) (by omega)
      obtain ⟨z2, a2⟩ := at_nat (l := ns) (k := pl[i].2) (by omega)
      have g1 := at_str a1
      have g2 := at_str a2
      obtain ⟨us, eu, du, tu⟩ := hR
      have hus : us.length = rs.length := by rw [DpAll.len du, List.length_map]
      cases db with
      | cons q1 q2 =>
      cases q1
      cases q2 with
      | cons q3 q4 =>
      cases q3
      cases q4
      have push : ∀ (H5 : Hp) (p : Addr) (x : Str × Str), RoadOf ns pl[i] x → H5 p = none → Ch a H' H5 → Fd H5 a (c + 2000 + i + 1) →
          lcE D (fun H' => D ≠ a ∧ H D = none ∧ P ≠ D ∧ G ≠ D ∧ (∃ rs : List (Str × Str), LsD K H' D (rs.map roadD) ∧ rs.length = i + 1 ∧ ∀ (k : Nat) p x, pl[k]? = some p → rs[k]? = some x → RoadOf ns p x) ∧ H' P = some (.lst zs) ∧ DpAll K H' zs (pl.map pairD) ∧ H' G = some (.lst (ns.map V.str)) ∧ FT H' T1 (ns.map V.str) ∧ Fd H' a (c + 2000 + (i + 1 : Nat)) ∧ Ch a H H') (.ref p) (upd H5 p (.tup [.str x.1, .str x.2])) := by
        intro H5 p x rx np k5 f5
        have e5 : H5 D = some (.lst us) := k5 _ _ b1 eu
        have nUa' : P ≠ a := nPa
        have e5U : H5 P = some (.lst zs) := k5 _ _ nUa' b4
        have e5G : H5 G = some (.lst (ns.map V.str)) := k5 _ _ nGa b6
        have t5 : TK K H' H5 := TK.ch k5 b7
        have nDp : D ≠ p := ne_of_none e5 np
        have e6 : (upd H5 p (.tup [.str x.1, .str x.2])) D = some (.lst us) := (upd_ne nDp).trans e5
        refine i_lcE e6 (by rw [sizeLine_eq]; omega) ?_
        have t6 : TK K H' (upd (upd H5 p (.tup [.str x.1, .str x.2])) D (.lst (us ++ [.ref p]))) := (t5.trans (TK.new np)).trans (TK.lst e6)
        refine ⟨b1, b2, nPD, nGD, ⟨rs ++ [x], ?_, by rw [List.length_append, hrl]; rfl, ?_⟩, ?_, DpAll.tk t6 _ _ (pairs_only pl) b5, ?_, ?_, ?_, ?_⟩
        · rw [List.map_append]
          exact LsD.push2 e5 (DpAll.tk t5 _ _ tu du) tu np (.str x.1) (.str x.2) rfl rfl
        · intro k p' x' hp' hx'
          by_cases hk : k < rs.length
          · rw [List.getElem?_append_left hk] at hx'
            exact hro k p' x' hp' hx'
          · rw [List.getElem?_append_right (by omega)] at hx'
            have hk0 : k - rs.length = 0 := by
              cases z : k - rs.length with
              | zero => rfl
              | succ m => rw [z] at hx'; simp at hx'
            rw [hk0] at hx'
            have hxx : x = x' := by simpa using hx'
            subst hxx
            have hki : k = i := by omega
            subst hki
            rw [List.getElem?_eq_getElem hip] at hp'
            have := Option.some.inj hp'
            subst this
            exact rx
        · rw [upd_ne nPD, upd_ne (ne_of_none e5U np)]
          exact e5U
        · rw [upd_ne nGD, upd_ne (ne_of_none e5G np)]
          exact e5G
        · obtain ⟨ob2, g2', o2'⟩ := (bT.ch k5 b7).same (Same.upd_new (o := .tup [.str x.1, .str x.2]) np)
          exact ⟨ob2, by rw [upd_ne (fun z => by rw [z, e6] at g2'; cases g2')]; exact g2', o2'⟩
        · exact ((f5.upd (Ne.symm (f5.ne np))).upd b1.symm).mono (by omega)
        · exact ((b8.trans k5).upd_n np).upd_l b2
      repeat' (walk_at "jv")
      refine ⟨a, 2, _, rfl, b7, by omega, by omega, by omega, fun rr H5 s0 s1 f5 k5 => ?_⟩
      have e5G : H5 G = some (.lst (ns.map V.str)) := k5 _ _ nGa b6
      repeat' (walk_at "jv")
      · intro p np
        exact push H5 p (z1, z2) (.inl ⟨a1, a2⟩) np k5 f5
      · intro p np
        exact push H5 p (z2, z1) (.inr ⟨a1, a2⟩) np k5 f5
    obtain ⟨nRa, nR0, nUR, nGR, ⟨rs, hR, hrl, hro⟩, b4, b5, b6, bT, b7, b8⟩ := h
    obtain ⟨ws, ew, dw, tw⟩ := hR
    have hwl : ws.length = rs.length := by rw [DpAll.len dw, List.length_map]
    repeat' (walk_at "jv")
    intro T2 nT2
    refine i_nil ?_
    refine i_al (by show 2 ≤ sizeLine; decide) ?_
    intro T3 nT3
    have s23 : Same H' (upd (upd H' T2 (.tup ws)) T3 (.tup [.ref T1, .ref T2])) := (Same.upd_new nT2).trans (Same.upd_new nT3)
    have dF : WF K (upd (upd H' T2 (.tup ws)) T3 (.tup [.ref T1, .ref T2])) (.ref T3) ns rs :=
      ⟨T3, T1, T2, rfl, .inl (.inl upd_same), bT.same s23, .tup (xs := ws) (.inl (.inl ((Same.upd_new nT3) _ _ upd_same))) (DpAll.same s23 _ _ dw)⟩
    have f2 : Fd (upd (upd H' T2 (.tup ws)) T3 (.tup [.ref T1, .ref T2])) a (c + 10000) := (b7.same s23).mono (by omega)
    have k2 : Ch a H (upd (upd H' T2 (.tup ws)) T3 (.tup [.ref T1, .ref T2])) := (b8.upd_n nT2).upd_n nT3
    generalize upd (upd H' T2 (.tup ws)) T3 (.tup [.ref T1, .ref T2]) = H2 at *
    have hW : IsWeb ns rs := web_of hns (List.Perm.refl _) (by omega) (by omega) hp1 (fun p hp' => (hp2 p hp').1) (by omega) (by omega) hro
    have hfew : k ^ ns.length ≤ 256 := by
      rw [hl']
      rcases hk with rfl | rfl
      · exact Nat.le_trans (Nat.pow_le_pow_right (by decide) n8) (by decide)
      · rw [n3 rfl]
        decide
    clear ew dw tw b4 b5 b6 bT b7 b8 nUR nGR s23 nT2 nT3 fA kA dUA eUA eGA fT1 H' HA
    have dW := dF.dp
    obtain ⟨t, tp, tr, xs, ht, s1, s2, s3, d3, dr, dpl⟩ := web_parts dW
    cases ht
    repeat' (walk_at "jv")
    refine c_tup (ns.map V.str) (fun D j H' => D ≠ a ∧ H D = none ∧ (∃ us, ∃ ds : List PyData, H' D = some (.lst us) ∧ DpAll K H' us ds ∧ ds.length = j ∧ RulesTo k ns rs ds) ∧ TK K H2 H' ∧ Fd H' a (c + 10001 + 10000000 * j) ∧ Ch a H H' ∧ WF K H' (.ref T3) ns rs)
      (fun D nD => ⟨f2.ne nD, k2.free (f2.ne nD) nD, ⟨[], [], upd_same, .nil, rfl, RulesTo.nil⟩, TK.new nD, (f2.upd (Ne.symm (f2.ne nD))).mono (by omega), k2.upd_n nD, dF.same (Same.upd_new nD)⟩) (fun D j H3 hj h => ?_) (fun D j x H3 hx h => ?_) (fun D H3 h => ?_)
    · obtain ⟨_, _, _, tk, _⟩ := h
      exact tk _ _ s2
    · obtain ⟨g1, g2, ⟨us, ds, g3, g4, g5, g6⟩, tk, g7, g8, g9⟩ := h
      have hul : us.length = j := by rw [DpAll.len g4, g5]
      have hj : j < ns.length := by
        have := (List.getElem?_eq_some_iff.mp hx).1
        rwa [List.length_map] at this
      have hj8 := hW.le8
      rw [List.getElem?_map, List.getElem?_eq_getElem hj] at hx
      obtain rfl : V.str ns[j] = x := Option.some.inj hx
      have hmem : ns[j] ∈ ns := List.getElem_mem hj
      repeat' (walk_at "jv")
      refine ⟨.ref T3, ns[j], ns, rs, rfl, Dp.tk tk _ _ (web_only ns rs) dW, hW, hmem, fun p H4 np sm e4 => ?_⟩
      have f4 : Fd H4 a (c + 10001 + 10000000 * j) := g7.same sm
      repeat' (walk_at "jv")
      refine ⟨a, p, k, nearL ns rs ns[j], _, _, rfl, f4, hk, e4, g7.ne np, near_len hW hmem, near_names hW, by omega, fun v d H5 hR dv f5 k5 => ?_⟩
      have e5 : H5 D = some (.lst us) := k5 D _ g1 (sm _ _ g3)
      have tk5 : TK K H3 H5 := (TK.same sm).trans (TK.ch k5 f4)
      have d5 := DpAll.tk tk5 _ _ g6.only g4
      repeat' (walk_at "jv")
      have hds : RulesTo k ns rs (ds ++ [d]) := g6.snoc (by rw [g5]; exact List.getElem?_eq_getElem hj) hR
      refine ⟨g1, g2, ⟨us ++ [v], ds ++ [d], upd_same, DpAll.tk (TK.lst e5) _ _ hds.only (DpAll.app d5 (.cons dv .nil)), by rw [List.length_append, g5]; rfl, hds⟩, (tk.trans tk5).trans (TK.lst e5), (f5.upd g1.symm).mono (by omega), ((g8.trans (Ch.of_same sm)).trans k5).upd_l g2, ((g9.same sm).ch k5 f4).lst e5⟩
    · obtain ⟨g1, g2, ⟨us, ds, g3, g4, g5, g6⟩, tk, g7, g8, g9⟩ := h
      rw [List.length_map] at g5 g7
      have hj8 := hW.le8
      repeat' (walk_at "jv")
      intro T nT
      have tkT : TK K H3 (upd H3 T (.tup us)) := TK.new nT
      have fT := g7.upd (q := T) (o := .tup us) (Ne.symm (g7.ne nT))
      have kT := g8.upd_n (o := .tup us) nT
      have sT : SqT K (upd H3 T (.tup us)) T us := .inl (.inl upd_same)
      have g9' := g9.same (Same.upd_new (o := .tup us) nT)
      generalize upd H3 T (.tup us) = H4 at *
      repeat' (walk_at "jv")
      intro T9 n9
      have tk3 : TK K H4 (upd H4 T9 (.tup [.int k, .ref T3, .ref T])) := TK.new n9
      exact q _ k ns rs ds _ (g6.hall hk hW hfew g5) ⟨T9, T, .ref T3, rfl, .inl (.inl upd_same), g9'.same (Same.upd_new n9), .tup (tk3 _ _ sT) (DpAll.tk (tkT.trans tk3) _ _ g6.only g4), g6.only⟩ ((fT.upd (Ne.symm (fT.ne n9))).mono (by omega)) (kT.upd_n n9)
end
end
section
open L2 PySem PySem.Spec PyProof.Rows
section
variable {base : Heap} {P : Program} {w : World} {K : PySem.W.Frag} {mg : Str → Option Value}
theorem ok_feed (D : Dn K mg "_law_feed" s__law_feed ["_law_script", "_law_k"]) (B : Bn mg) : Cl P w K mg base 1 "_law_feed" ["_law_script", "_law_k"] (spFeed K) := by
  refine D.cl sc__law_feed (fun vs H Q E h => ?_) (fun f cdv A outer s H vs Q E hr h => ?_)
  · obtain ⟨a, ns, k, rfl, _⟩ := h
    rfl
  · obtain ⟨a, ns, k, rfl, hs, hl, hk0, hk1, q⟩ := h
    refine ⟨_, (pss_cons (ps_set (i := 2) sc__law_feed.nd rfl (by first | exact Or.inl rfl | exact Or.inr rfl) (pe_op op_add (pe_op op_mul pe_int (pv 1)) (pe_callB (cr_sum rfl) rfl B.sum_ (by decide +kernel) (pa_cons (pe_slice (k_slL (K := K)) (pv 0) po_none (po_some pe_int)) pa_nil))))
      (pss_cons (ps_if (pt_cmpR op_lt (pv 1) (pe_callB (k_len (K := K)) rfl B.len_ (by decide +kernel) (pa_cons (pv 0) pa_nil)) (nomark _)) (pss_one (ps_set (i := 2) sc__law_feed.nd rfl (by first | exact Or.inl rfl | exact Or.inr rfl) (pe_ix (k_ixL (K := K)) (pv 0) (pv 1) (fun _ _ => rfl)))) pss_nil)
      (pss_one (ps_ret (pe_lst (pa_cons (pe_callB (j_max rfl) rfl B.max_ (by decide +kernel) (pa_cons pe_int (pa_cons (pe_op op_sub (pv 2) (pe_op op_pow pe_int pe_int)) pa_nil))) (pa_cons (pe_op op_mod (pe_callTy (j_int) rfl B.int_ (by decide +kernel) (pa_cons (pe_op op_add (pe_op op_mul (pv 2) pe_int) (pe_op op_mul pe_int (pv 1))) pa_nil)) (pe_op op_add (pe_op op_pow pe_int pe_int) pe_int)) (pa_cons pe_int pa_nil)))))))), ?_⟩
    repeat' (walk_at "jv")
    intro L nL
    have sL := Same.upd_new (o := .lst (cutV (ns.map V.int) none (some 1))) nL
    have e1 : cutV (ns.map V.int) none (some ((1 : Nat) : Int)) = (ns.take 1).map V.int := by
      unfold cutV
      rw [HT.sIx_none, HT.sIx_nat, List.drop_zero, Nat.sub_zero, List.length_map, List.map_take]
      cases ns <;> simp
    refine i_nil ?_
    refine i_sum (ns := ns.take 1) (sq_lst (by rw [← e1]; exact upd_same)) ?_
    have hs1 := sL.seq hs
    have fin : ∀ x : Int, ∀ p : Addr, upd H L (.lst (cutV (ns.map V.int) none (some 1))) p = none →
        Q (.ref p) (upd (upd H L (.lst (cutV (ns.map V.int) none (some 1)))) p (.lst [.int (max 0 (x - 10 ^ Int.toNat 18)), .int ((x * 19 + 7 * k) % (10 ^ Int.toNat 39 + 23)), .int 0])) := fun x p np => by
      refine q p _ ?_ ⟨_, _, _, upd_same, by omega, Int.emod_nonneg _ (by decide), Int.emod_lt_of_pos _ (by decide), by omega, by omega⟩ (sL.trans (Same.upd_new np))
      cases z : H p with
      | none => rfl
      | some o =>
        have := sL p o z
        rw [np] at this
        cases this
    repeat' (walk_at "jv")
    · rename_i lt
      obtain ⟨j, rfl⟩ := Int.eq_ofNat_of_zero_le hk0
      have hj : j < ns.length := by rw [List.length_map] at lt; omega
      refine i_ixL hs1 (atI_nat (by rw [List.getElem?_map, List.getElem?_eq_getElem hj]; rfl)) ?_
      repeat' (walk_at "jv")
      exact fin _
    · exact fin _
end
end
section
open L2 PySem PySem.Spec PyProof.Rows
abbrev s__law_called : Stmt := topS 78
theorem sc__law_called : FnScope ["_law_feed_here", "_law_hall_here", "_law_k", "_law_web_here", "_law_rules", "_law_size", "_law_spot", "_law_base", "_law_pool", "_law_news", "_law_made", "_law_rule_here", "_law_sign", "_law_place", "_law_one_here", "_law_other"] ["_law_feed_here", "_law_hall_here"] (defScope s__law_called) := ⟨rfl, rfl, rfl, by decide +kernel, rfl, by decide +kernel, by decide +kernel⟩
theorem FT.lst {H : Hp} {p D : Addr} {o : HO} {xs us : List V} (h : FT H p xs) (e : H D = some (.lst us)) : FT (upd H D o) p xs := by
  obtain ⟨ob, e2, k⟩ := h
  refine ⟨ob, ?_, k⟩
  rw [upd_ne fun z => by rw [z, e] at e2; cases e2]
  exact e2
section
variable {base : Heap} {P : Program} {w : World} {K : PySem.W.Frag} {mg : Str → Option Value}
theorem ok_called (D : Dn K mg "_law_called" s__law_called ["_law_feed_here", "_law_hall_here"]) (B : Bn mg) (Bd : mg "dict" = none) (C__law_draw : Cl P w K mg base 1 "_law_draw" ["_law_feed_here", "_law_many"] spDraw) (C__law_mixed : Cl P w K mg base 2 "_law_mixed" ["_law_feed_here", "_law_things"] (spMixed K)) :
    Cl P w K mg base 3 "_law_called" ["_law_feed_here", "_law_hall_here"] (spCalled K) := by
  refine D.cl sc__law_called (fun vs H Q E h => ?_) (fun f cdv A outer s H vs Q E hr h => ?_)
  · obtain ⟨a, v, k, ps, rs, ds, c, rfl, _⟩ := h
    rfl
  · obtain ⟨a, v, k, ps, rs, ds, c, rfl, hf, hF, hH, hc, q⟩ := h
    refine ⟨_, (pss_cons (ps_asg (pv 1) (kpg_tup (K := K) (n := 3) rfl (pgs_cons (pg_name (i := 2) sc__law_called.nd rfl (by first | exact Or.inl rfl | exact Or.inr rfl)) (pgs_cons (pg_name (i := 3) sc__law_called.nd rfl (by first | exact Or.inl rfl | exact Or.inr rfl)) (pgs_cons (pg_name (i := 4) sc__law_called.nd rfl (by first | exact Or.inl rfl | exact Or.inr rfl)) pgs_nil)))))
      (pss_cons (ps_set (i := 5) sc__law_called.nd rfl (by first | exact Or.inl rfl | exact Or.inr rfl) (pe_op op_add pe_int (pe_c C__law_draw hr (pa_cons (pv 0) (pa_cons pe_int pa_nil)))))
      (pss_cons (ps_asg (pe_tup (pa_cons (pe_c C__law_draw hr (pa_cons (pv 0) (pa_cons (pv 5) pa_nil))) (pa_cons (pe_slice sl_str pe_str po_none (po_some (pv 5))) (pa_cons (pe_lst (pa_cons pe_str (pa_cons pe_str (pa_cons pe_str (pa_cons pe_str (pa_cons pe_str (pa_cons pe_str (pa_cons pe_str (pa_cons pe_str pa_nil))))))))) pa_nil)))) (kpg_tup (K := K) (n := 3) rfl (pgs_cons (pg_name (i := 6) sc__law_called.nd rfl (by first | exact Or.inl rfl | exact Or.inr rfl)) (pgs_cons (pg_name (i := 7) sc__law_called.nd rfl (by first | exact Or.inl rfl | exact Or.inr rfl)) (pgs_cons (pg_name (i := 8) sc__law_called.nd rfl (by first | exact Or.inl rfl | exact Or.inr rfl)) pgs_nil)))))
      (pss_cons (ps_if (pt_cmpR op_gt (pe_c C__law_draw hr (pa_cons (pv 0) (pa_cons pe_int pa_nil))) pe_int (nomark _)) (pss_one (ps_setLc (i := 8) (own := [("_law_sign", 12)]) rfl sc__law_called.nd rfl rfl (sw_true rfl rfl rfl (by decide +kernel)) (pi_str pe_str) (blkOk_by (N := ["_law_feed_here", "_law_hall_here", "_law_k", "_law_web_here", "_law_rules", "_law_size", "_law_spot", "_law_base", "_law_pool", "_law_news", "_law_made", "_law_rule_here", "_law_sign", "_law_place", "_law_one_here", "_law_other"]) (sc := defScope s__law_called) (by decide +kernel)) (fun _ _ _ _ _ => (pg_name (i := 12) sc__law_called.nd rfl (by first | exact Or.inl rfl | exact Or.inr rfl))) (fun _ _ _ _ _ => pts_nil) (fun _ _ _ _ _ => (pe_op o_addS (pe_op o_addS (pe_slice sl_str (pv 7) po_none (po_some (pv 6))) (pv 12)) (pe_slice sl_str (pv 7) (po_some (pe_op op_add (pv 6) pe_int)) po_none))))) pss_nil)
      (pss_cons (ps_set (i := 9) sc__law_called.nd rfl (by first | exact Or.inl rfl | exact Or.inr rfl) (pe_callTy (k_dictP (K := K)) rfl Bd (by decide +kernel) (pa_cons (k_listZip (K := K) B.zip_ B.list_ (pa_cons (pe_ix (k_ixT (K := K)) (pv 3) pe_int (fun _ _ => rfl)) (pa_cons (pe_c C__law_mixed hr (pa_cons (pv 0) (pa_cons (pv 8) pa_nil))) pa_nil))) pa_nil)))
      (pss_cons (ps_setLc (i := 10) (own := [("_law_rule_here", 11)]) rfl sc__law_called.nd rfl rfl (sw_true rfl rfl rfl (by decide +kernel)) (kpi_tup (K := K) (pv 4)) (blkOk_by (N := ["_law_feed_here", "_law_hall_here", "_law_k", "_law_web_here", "_law_rules", "_law_size", "_law_spot", "_law_base", "_law_pool", "_law_news", "_law_made", "_law_rule_here", "_law_sign", "_law_place", "_law_one_here", "_law_other"]) (sc := defScope s__law_called) (by decide +kernel)) (fun _ _ _ _ _ => (pg_name (i := 11) sc__law_called.nd rfl (by first | exact Or.inl rfl | exact Or.inr rfl))) (fun _ _ _ _ _ => pts_nil) (fun _ _ _ _ _ => (pe_ifExp (pt_cmpR op_eq (pe_ix (k_ixT (K := K)) (pv 11) pe_int (fun _ _ => rfl)) pe_str (nomark _)) (pe_tup (pa_cons pe_str (pa_cons (pe_dget (hu1 hr) (pv 9) (pe_ix (k_ixT (K := K)) (pv 11) pe_int (fun _ _ => rfl)) (fun _ _ => rfl)) pa_nil))) (pv 11))))
      (pss_one (ps_ret (pe_tup (pa_cons (pv 2) (pa_cons (pe_tup (pa_cons (pe_callTy (k_tupleF (K := K)) rfl B.tuple_ (by decide +kernel) (pa_cons (pe_lc (own := [("_law_place", 13)]) rfl sc__law_called.nd (kpi_tup (K := K) (pe_ix (k_ixT (K := K)) (pv 3) pe_int (fun _ _ => rfl))) (blkOk_by (N := ["_law_feed_here", "_law_hall_here", "_law_k", "_law_web_here", "_law_rules", "_law_size", "_law_spot", "_law_base", "_law_pool", "_law_news", "_law_made", "_law_rule_here", "_law_sign", "_law_place", "_law_one_here", "_law_other"]) (sc := defScope s__law_called) (by decide +kernel)) (fun _ _ _ _ _ => (pg_name (i := 13) sc__law_called.nd rfl (by first | exact Or.inl rfl | exact Or.inr rfl))) (fun _ _ _ _ _ => pts_nil) (fun _ _ _ _ _ => (pe_dget (hu1 hr) (pv 9) (pv 13) (fun _ _ => rfl)))) pa_nil)) (pa_cons (pe_callTy (k_tuple (K := K)) rfl B.tuple_ (by decide +kernel) (pa_cons (pe_lc (own := [("_law_one_here", 14), ("_law_other", 15)]) rfl sc__law_called.nd (kpi_tup (K := K) (pe_ix (k_ixT (K := K)) (pv 3) pe_int (fun _ _ => rfl))) (blkOk_by (N := ["_law_feed_here", "_law_hall_here", "_law_k", "_law_web_here", "_law_rules", "_law_size", "_law_spot", "_law_base", "_law_pool", "_law_news", "_law_made", "_law_rule_here", "_law_sign", "_law_place", "_law_one_here", "_law_other"]) (sc := defScope s__law_called) (by decide +kernel)) (fun _ _ _ _ _ => (kpg_tup (K := K) (n := 2) rfl (pgs_cons (pg_name (i := 14) sc__law_called.nd rfl (by first | exact Or.inl rfl | exact Or.inr rfl)) (pgs_cons (pg_name (i := 15) sc__law_called.nd rfl (by first | exact Or.inl rfl | exact Or.inr rfl)) pgs_nil)))) (fun _ _ _ _ _ => pts_nil) (fun _ _ _ _ _ => (pe_tup (pa_cons (pe_dget (hu1 hr) (pv 9) (pv 14) (fun _ _ => rfl)) (pa_cons (pe_dget (hu1 hr) (pv 9) (pv 15) (fun _ _ => rfl)) pa_nil))))) pa_nil)) pa_nil))) (pa_cons (pe_callTy (k_tuple (K := K)) rfl B.tuple_ (by decide +kernel) (pa_cons (pv 10) pa_nil)) pa_nil)))))))))))), ?_⟩
    obtain ⟨th, tR, wv, rfl, sH, wF, dR, uo⟩ := id hF
    obtain ⟨tw, tp, tr, rfl, sW, fP, dD⟩ := id wF
    repeat' (walk_at "jv")
    refine ⟨a, 8, c, rfl, hf, by omega, by omega, by omega, fun n H1 n0 n1 f1 k1 => ?_⟩
    obtain ⟨n, rfl⟩ := Int.eq_ofNat_of_zero_le n0
    have e1 : (1 : Int) + (n : Int) = ((n + 1 : Nat) : Int) := by omega
    repeat' (walk_at "jv")
    rw [e1]
    refine ⟨a, ((n + 1 : Nat) : Int), c + 1, rfl, f1, by omega, by omega, by omega, fun i H2 i0 i1 f2 k2 => ?_⟩
    obtain ⟨i, rfl⟩ := Int.eq_ofNat_of_zero_le i0
    repeat' (walk_at "jv")
    refine i_slS (by decide +kernel) ?_
    repeat' (walk_at "jv")
    intro L nL
    refine i_nil ?_
    refine i_al (by show 3 ≤ sizeLine; decide) ?_
    intro T nT
    have s3 : Same H2 (upd (upd H2 L (.lst [.str "keep", .str "least", .str "greatest", .str "odd", .str "most", .str "copy", .str "sum", .str "table"])) T (.tup [.int i, .str (cutS "roomroom" none (some ((n + 1 : Nat) : Int))), .ref L])) := (Same.upd_new nL).trans (Same.upd_new nT)
    have eL := (Same.upd_new (o := .tup [.int i, .str (cutS "roomroom" none (some ((n + 1 : Nat) : Int))), .ref L]) nT) _ _ (upd_same (H := H2) (a := L) (o := .lst [.str "keep", .str "least", .str "greatest", .str "odd", .str "most", .str "copy", .str "sum", .str "table"]))
    have eT := upd_same (H := (upd H2 L (.lst [.str "keep", .str "least", .str "greatest", .str "odd", .str "most", .str "copy", .str "sum", .str "table"]))) (a := T) (o := .tup [.int i, .str (cutS "roomroom" none (some ((n + 1 : Nat) : Int))), .ref L])
    have nLa := f2.ne nL
    have k3 := (k1.trans k2).trans (Ch.of_same (a := a) s3)
    have f3 := f2.same s3
    replace eL : _ = some (HO.lst (wordsP.map V.str)) := eL
    generalize upd (upd H2 L (.lst [.str "keep", .str "least", .str "greatest", .str "odd", .str "most", .str "copy", .str "sum", .str "table"])) T (.tup [.int i, .str (cutS "roomroom" none (some ((n + 1 : Nat) : Int))), .ref L]) = H3 at *
    clear f1 k1 f2 k2 nL nT s3 H2 H1
    refine i_gtup (sq_tup eT) rfl ?_
    refine i_gcons ?_
    refine i_gname ?_
    refine i_gcons ?_
    refine i_gname ?_
    refine i_gcons ?_
    refine i_gname ?_
    refine i_gnil ?_
    clear eT T
    refine i_seq ?_
    refine i_cutS (fun σ' H' => ∃ (L' : Addr) (ns : List Str), σ' = [some (.ref a), some (.ref th), some (.int k), some (.ref tw), some (.ref tR), some (.int (n + 1 : Nat)), some (.int i), some (.str (cutS "roomroom" none (some ((n + 1 : Nat) : Int)))), some (.ref L'), none, none, none, none, none, none, none] ∧ IsNames ns ∧ ns.length = 8 ∧ H' L' = some (.lst (ns.map V.str)) ∧ L' ≠ a ∧ Fd H' a (c + 3) ∧ Ch a H H') (fun N hN => ?_) ?_
    · repeat' (walk_at "jv")
      refine ⟨a, 3, c + 2, rfl, f3.mono (by omega), by omega, by omega, by omega, fun r H4 r0 r1 f4 k4 => ?_⟩
      repeat' (walk_at "jv")
      · rw [show (c : Int) + 2 + 1 = c + 3 by omega] at f4
        refine i_istr ?_
        refine i_c ?_
        refine i_isK ?_
        refine p_str "abcdefgh" (fun j => .str (nmAt (n + 1) i (sgns.getD j ""))) (by decide +kernel) (fun D acc j ch N2 nD hj hN2 => ?_) (fun D nD => ?_)
        · repeat' (walk_at "jv")
          have b8 : (cutS "roomroom" none (some ((n + 1 : Nat) : Int))).length ≤ 8 := cut_len _ _ _
          have c8 := cut_len (cutS "roomroom" none (some ((n + 1 : Nat) : Int))) none (some (i : Int))
          have d8 := cut_len (cutS "roomroom" none (some ((n + 1 : Nat) : Int))) (some ((i : Int) + 1)) none
          have e8 : (⟨#[ch]⟩ : Str).length = 1 := rfl
          refine i_slS (by rw [sizeLine_eq]; omega) ?_
          repeat' (walk_at "jv")
          refine i_addS (by rw [sizeLine_eq]; omega) ?_
          repeat' (walk_at "jv")
          refine i_slS (by rw [sizeLine_eq]; omega) ?_
          repeat' (walk_at "jv")
          refine i_addS (by rw [sizeLine_eq, app_len]; omega) ?_
          have ez : (⟨#[ch]⟩ : Str) = sgns.getD j "" := sgn_at hj
          rw [ez]
          exact hN2
        · repeat' (walk_at "jv")
          refine hN _ _ ⟨D, sgns.map (nmAt (n + 1) i), rfl, names_at (by omega) (by omega), by rfl, upd_same, f4.ne nD, f4.upd (Ne.symm (f4.ne nD)), (k3.trans k4).upd_n nD⟩
      · refine hN _ _ ⟨L, wordsP, rfl, words_ok, rfl, k4 _ _ nLa eL, nLa, f4.mono (by omega), k3.trans k4⟩
    rintro σ' H4 ⟨L', ns, rfl, hns, hn8, eL', nLa', f4, k4⟩
    clear f3 k3 eL nLa H3
    have tk4 : TK K H H4 := TK.ch k4 hf
    have sW4 := tk4 _ _ sW
    have fP4 := fP.ch k4 hf
    have hF4 := hF.ch k4 hf
    have hl8 := hH.web.le8
    refine i_seq ?_
    refine i_asg ?_
    refine i_cb ?_
    refine i_cons ?_
    refine i_lz ?_
    repeat' (walk_at "jv")
    refine ⟨a, L', c + 3, ns.map V.str, rfl, f4, SqA.l (sq_lst eL'), nLa', by rw [List.length_map, hn8]; decide, by omega, fun G ys H5 pm nG eG f5 k5 => ?_⟩
    obtain ⟨zs, rfl, pz⟩ := perm_strs pm
    have hz : IsNames zs := hns.perm pz
    have lz : ps.length ≤ zs.length := by rw [pz.length_eq, hn8]; exact hl8
    repeat' (walk_at "jv")
    refine ⟨tp, G, ps.map V.str, zs.map V.str, rfl, (fP4.ch k5 f4).sq, sq_lst eG, by rw [List.length_map]; exact hH.web.pos, by rw [List.length_map, List.length_map]; exact lz, by rw [List.length_map]; omega, fun q0 as H6 z => ?_⟩
    have f6 := f5.same z.same
    have k6 := (k4.trans k5).trans (Ch.of_same (a := a) z.same)
    repeat' (walk_at "jv")
    refine zip_dict z lz fun d nd => ?_
    have nda := f6.ne nd
    have f7 := f6.upd (q := d) (o := .dK (mergeK [] (kvOf ps zs))) (Ne.symm (f6.ne nd))
    have k7 := k6.upd_n (o := .dK (mergeK [] (kvOf ps zs))) nd
    have ed : (upd H6 d (.dK (mergeK [] (kvOf ps zs)))) d = some (.dK (mergeK [] (kvOf ps zs))) := upd_same
    generalize upd H6 d (.dK (mergeK [] (kvOf ps zs))) = H7 at *
    have tk7 : TK K H H7 := TK.ch k7 hf
    have dR7 := Dp.tk tk7 (.tuple ds) _ uo dR
    have sW7 := tk7 _ _ sW
    have sP7 := tk7 _ _ fP.sq
    have dD7 := Dp.tk tk7 (.tuple (rs.map roadD)) _ (roads_only rs) dD
    have hR := ren_of hz lz
    have hv : ∀ y ∈ ps, valV (mergeK [] (kvOf ps zs)) (.inr y) = some (.str (newOf ps zs y)) := fun y hy => val_kv y ps zs [] hH.web.names.1 lz hy
    have en : ∀ r ∈ rs, r.1 ∈ ps ∧ r.2 ∈ ps := fun r hr => ⟨(hH.web.ends r hr).1, (hH.web.ends r hr).2.1⟩
    generalize mergeK [] (kvOf ps zs) = kvs at *
    generalize newOf ps zs = F at *
    obtain ⟨tR', us, e, sR7, dA7⟩ := tup_parts dR7
    cases e
    obtain ⟨tr', xs, e, sD7, dX7⟩ := tup_parts dD7
    cases e
    have hlu : us.length = ps.length := by rw [DpAll.len dA7, hH.len]
    have hlx : xs.length = rs.length := by rw [DpAll.len dX7, List.length_map]
    have h14 := hH.web.le14
    repeat' (walk_at "jv")
    refine c_tup us (fun D i H' => D ≠ a ∧ H D = none ∧ d ≠ D ∧ (∃ ws ds', H' D = some (.lst ws) ∧ DpAll K H' ws ds' ∧ ds'.length = i ∧ RulesTo k (ps.map F) (rs.map (rn F)) ds') ∧ TK K H7 H' ∧ Fd H' a (c + 2000) ∧ Ch a H H' ∧ H' d = some (.dK kvs))
      (fun D nD => ⟨f7.ne nD, k7.free (f7.ne nD) nD, ne_of_none ed nD, ⟨[], [], upd_same, .nil, rfl, RulesTo.nil⟩, TK.new nD, (f7.upd (Ne.symm (f7.ne nD))).mono (by omega), k7.upd_n nD, (upd_ne (ne_of_none ed nD)).trans ed⟩) (fun D j H3 hj h => ?_) (fun D j x H3 hx h => ?_) (fun D H3 h => ?_)
    · obtain ⟨_, _, _, _, tk, _⟩ := h
      exact tk _ _ sR7
    · obtain ⟨g1, g2, gd, ⟨ws, ds', g3, g4, g5, g6⟩, tk, g7, g8, g9⟩ := h
      have hwl : ws.length = j := by rw [DpAll.len g4, g5]
      obtain ⟨dd, hd, dx⟩ := DpAll.get dA7 hx
      have hjl : j < ps.length := by rw [← hlu]; exact (List.getElem?_eq_some_iff.mp hx).1
      have hzj : ps[j]? = some ps[j] := List.getElem?_eq_getElem hjl
      have hmem : ps[j] ∈ ps := List.getElem_mem hjl
      have hrule := hH.rules j _ dd hzj hd
      obtain ⟨wd, rr, rfl⟩ := rule_word hrule
      obtain ⟨tb, vs, rfl, sb, db⟩ := tup_parts dx
      cases db with
      | cons q1 q2 =>
      cases q1
      rename_i vr
      have sb3 := tk _ _ sb
      have hnear : nearL (ps.map F) (rs.map (rn F)) (F ps[j]) = (nearL ps rs ps[j]).map F := hR.near hmem en
      have hF3 : (ps.map F)[ds'.length]? = some (F ps[j]) := by rw [g5, List.getElem?_map, hzj]; rfl
      repeat' (walk_at "jv")
      · rename_i hcp
        subst hcp
        obtain ⟨y, rfl, hy⟩ := rule_copy hrule
        have hyp : y ∈ ps := (List.mem_filter.mp hy).1
        cases q2 with
        | cons q3 q4 =>
        cases q3
        cases q4
        repeat' (walk_at "jv")
        refine i_dg ?_
        repeat' (walk_at "jv")
        refine i_dget g9 (hv y hyp) ?_
        repeat' (walk_at "jv")
        intro p np
        have e6 : (upd H3 p (.tup [.str "copy", .str (F y)])) D = some (.lst ws) := (upd_ne (ne_of_none g3 np)).trans g3
        refine i_lcE e6 (by rw [sizeLine_eq]; omega) ?_
        have t6 : TK K H3 (upd (upd H3 p (.tup [.str "copy", .str (F y)])) D (.lst (ws ++ [.ref p]))) := (TK.new np).trans (TK.lst e6)
        have dp : Dp K (upd H3 p (.tup [.str "copy", .str (F y)])) (.ref p) (.tuple [.str "copy", .str (F y)]) := .tup (xs := [.str "copy", .str (F y)]) (.inl (.inl upd_same)) (.cons (.str _) (.cons (.str _) .nil))
        have hn : RulesTo k (ps.map F) (rs.map (rn F)) (ds' ++ [.tuple [.str "copy", .str (F y)]]) := g6.snoc hF3 (.copy _ (by rw [hnear]; exact List.mem_map_of_mem hy))
        exact ⟨g1, g2, gd, ⟨_, _, upd_same, DpAll.tk (TK.lst e6) _ _ hn.only (DpAll.app (DpAll.tk (TK.new np) _ _ g6.only g4) (.cons dp .nil)), by rw [List.length_append, g5]; rfl, hn⟩, tk.trans t6, ((g7.upd (Ne.symm (g7.ne np))).upd (Ne.symm g1)), (g8.upd_n np).upd_l g2, by rw [upd_ne gd, upd_ne (ne_of_none g9 np)]; exact g9⟩
      · rename_i hcp
        have hn : RulesTo k (ps.map F) (rs.map (rn F)) (ds' ++ [.tuple (.str wd :: rr)]) := g6.snoc hF3 (rule_many hrule (by rw [hnear, List.length_map]) fun r e => by cases e; exact hcp rfl)
        exact ⟨g1, g2, gd, ⟨_, _, upd_same, DpAll.tk (TK.lst g3) _ _ hn.only (DpAll.app g4 (.cons (Dp.tk tk _ _ (by have := hn.only; exact rule_only hrule) dx) .nil)), by rw [List.length_append, g5]; rfl, hn⟩, tk.trans (TK.lst g3), g7.upd (Ne.symm g1), g8.upd_l g2, (upd_ne gd).trans g9⟩
    obtain ⟨gD, g2, gd, ⟨ws, ds', g3, g4, g5, g6⟩, tk3, f3, k3, g9⟩ := h
    have hwl : ws.length = ps.length := by rw [DpAll.len g4, g5, hlu]
    have sW3 := tk3 _ _ sW7
    have sP3 := tk3 _ _ sP7
    have sD3 := tk3 _ _ sD7
    have dX3 := DpAll.tk tk3 _ _ (roads_only rs) dX7
    clear tk3 f7 k7 ed sW7 sP7 sD7 dX7 dD7 dA7 sR7 dR7 tk7 H7
    repeat' (walk_at "jv")
    refine p_tup (ps.map V.str) (fun j => .str (F (ps.getD j ""))) sP3 (by rw [List.length_map]; omega) (fun D2 acc j x N nD2 hx hN => ?_) (fun D2 nD2 => ?_)
    · obtain ⟨y, hy, rfl⟩ : ∃ y, ps[j]? = some y ∧ x = .str y := by
        rw [List.getElem?_map] at hx
        cases e : ps[j]? with
        | none => rw [e] at hx; cases hx
        | some y => rw [e] at hx; cases hx; exact ⟨y, rfl, rfl⟩
      refine i_dg ?_
      repeat' (walk_at "jv")
      refine i_dget ((upd_ne (ne_of_none g9 nD2)).trans g9) (hv y (List.mem_of_getElem? hy)) ?_
      rw [List.getD_eq_getElem?_getD, hy] at hN
      exact hN
    have eq2 : (List.range (ps.map V.str).length).map (fun j => V.str (F (ps.getD j ""))) = (ps.map F).map V.str := by
      refine List.ext_getElem? fun j => ?_
      rw [List.getElem?_map, List.getElem?_map, List.getElem?_map, List.length_map]
      by_cases hj : j < ps.length
      · rw [List.getElem?_range hj, List.getElem?_eq_getElem hj]
        show some (V.str (F (ps.getD j ""))) = some (V.str (F ps[j]))
        rw [List.getD_eq_getElem?_getD, List.getElem?_eq_getElem hj]
        rfl
      · rw [List.getElem?_eq_none (by rw [List.length_range]; omega), List.getElem?_eq_none (by omega)]
        rfl
    rw [eq2]
    have s4 : Same H3 (upd H3 D2 (.lst ((ps.map F).map V.str))) := Same.upd_new nD2
    have e4 : (upd H3 D2 (.lst ((ps.map F).map V.str))) D2 = some (.lst ((ps.map F).map V.str)) := upd_same
    have nDD : D ≠ D2 := ne_of_none g3 nD2
    generalize upd H3 D2 (.lst ((ps.map F).map V.str)) = H4 at *
    have f4 := f3.same s4
    have k4 := k3.trans (Ch.of_same (a := a) s4)
    have tk4 : TK K H3 H4 := TK.same s4
    have sW4 := tk4 _ _ sW3
    have sD4 := tk4 _ _ sD3
    have dX4 := DpAll.tk tk4 _ _ (roads_only rs) dX3
    have gA4 := DpAll.tk tk4 _ _ g6.only g4
    have g34 := s4 _ _ g3
    have g94 := s4 _ _ g9
    clear tk4 s4 f3 k3 sW3 sP3 sD3 dX3 g3 g9 g4 nD2 H3
    repeat' (walk_at "jv")
    refine ⟨D2, (ps.map F).map V.str, rfl, sq_lst e4, fun T1 ob nT1 okb => ?_⟩
    have s5 : Same H4 (upd H4 T1 (.frz ob (.tup ((ps.map F).map V.str)))) := Same.upd_new nT1
    have fT5 : FT (upd H4 T1 (.frz ob (.tup ((ps.map F).map V.str)))) T1 ((ps.map F).map V.str) := FT.new okb
    generalize upd H4 T1 (.frz ob (.tup ((ps.map F).map V.str))) = H5 at *
    have f5 := f4.same s5
    have k5 := k4.trans (Ch.of_same (a := a) s5)
    have tk5 : TK K H4 H5 := TK.same s5
    have sW5 := tk5 _ _ sW4
    have sD5 := tk5 _ _ sD4
    have dX5 := DpAll.tk tk5 _ _ (roads_only rs) dX4
    have gA5 := DpAll.tk tk5 _ _ g6.only gA4
    have g35 := s5 _ _ g34
    have g95 := s5 _ _ g94
    clear tk5 s5 f4 k4 sW4 sD4 dX4 g34 g94 gA4 nT1 e4 H4
    repeat' (walk_at "jv")
    refine c_tup xs (fun D3 i H' => D3 ≠ a ∧ H D3 = none ∧ d ≠ D3 ∧ D ≠ D3 ∧ LsD K H' D3 (((rs.map (rn F)).take i).map roadD) ∧ TK K H5 H' ∧ Fd H' a (c + 2000) ∧ Ch a H H' ∧ H' d = some (.dK kvs) ∧ FT H' T1 ((ps.map F).map V.str) ∧ H' D = some (.lst ws))
      (fun D3 nD3 => ⟨f5.ne nD3, k5.free (f5.ne nD3) nD3, ne_of_none g95 nD3, ne_of_none g35 nD3, LsD.nil upd_same, TK.new nD3, f5.upd (Ne.symm (f5.ne nD3)), k5.upd_n nD3, (upd_ne (ne_of_none g95 nD3)).trans g95, fT5.same (Same.upd_new nD3), (upd_ne (ne_of_none g35 nD3)).trans g35⟩)
      (fun D3 j H6 hj h => ?_) (fun D3 j x H6 hx h => ?_) (fun D3 H6 h => ?_)
    · obtain ⟨_, _, _, _, _, tk, _⟩ := h
      exact tk _ _ sD5
    · obtain ⟨m1, m2, m3, m4, m5, tk6, f6, k6, e6, fT6, g36⟩ := h
      obtain ⟨dd, hd, dx⟩ := DpAll.get dX5 hx
      have hjl : j < rs.length := by rw [← hlx]; exact (List.getElem?_eq_some_iff.mp hx).1
      rw [List.getElem?_map, List.getElem?_eq_getElem hjl] at hd
      obtain rfl : roadD rs[j] = dd := Option.some.inj hd
      obtain ⟨tb, rfl, sb⟩ := road_parts dx
      have sb6 := tk6 _ _ sb
      obtain ⟨en1, en2⟩ := en rs[j] (List.getElem_mem hjl)
      obtain ⟨qs, eq, dq, oq⟩ := m5
      have hql : qs.length = j := by rw [DpAll.len dq, List.length_map, List.length_take, List.length_map]; omega
      repeat' (walk_at "jv")
      refine i_dg ?_
      repeat' (walk_at "jv")
      refine i_dget e6 (hv _ en1) ?_
      repeat' (walk_at "jv")
      refine i_dg ?_
      repeat' (walk_at "jv")
      refine i_dget e6 (hv _ en2) ?_
      repeat' (walk_at "jv")
      intro p np
      have eq7 : (upd H6 p (.tup [.str (F rs[j].1), .str (F rs[j].2)])) D3 = some (.lst qs) := (upd_ne (ne_of_none eq np)).trans eq
      refine i_lcE eq7 (by rw [sizeLine_eq]; omega) ?_
      have eT : ((rs.map (rn F)).take (j + 1)).map roadD = ((rs.map (rn F)).take j).map roadD ++ [roadD (rn F rs[j])] := by
        rw [List.take_succ, List.getElem?_map, List.getElem?_eq_getElem hjl, List.map_append]
        rfl
      refine ⟨m1, m2, m3, m4, ?_, tk6.trans ((TK.new np).trans (TK.lst eq7)), (f6.upd (Ne.symm (f6.ne np))).upd (Ne.symm m1), (k6.upd_n np).upd_l m2, by rw [upd_ne m3, upd_ne (ne_of_none e6 np)]; exact e6, (fT6.same (Same.upd_new np)).lst eq7, by rw [upd_ne m4, upd_ne (ne_of_none g36 np)]; exact g36⟩
      rw [eT]
      exact LsD.push2 eq dq oq np (.str _) (.str _) rfl rfl
    obtain ⟨m1, m2, m3, m4, ⟨qs, eq, dq, oq⟩, tk6, f6, k6, e6, fT6, g36⟩ := h
    rw [List.take_of_length_le (by rw [List.length_map]; omega)] at dq
    have gA6 := DpAll.tk tk6 _ _ g6.only gA5
    have hql : qs.length = rs.length := by rw [DpAll.len dq, List.length_map, List.length_map]
    repeat' (walk_at "jv")
    intro T2 nT2
    refine i_nil ?_
    refine i_al (by show 2 ≤ sizeLine; decide) ?_
    intro T3 nT3
    have s8 : Same H6 (upd (upd H6 T2 (.tup qs)) T3 (.tup [.ref T1, .ref T2])) := (Same.upd_new nT2).trans (Same.upd_new nT3)
    have wF8 : WF K (upd (upd H6 T2 (.tup qs)) T3 (.tup [.ref T1, .ref T2])) (.ref T3) (ps.map F) (rs.map (rn F)) :=
      ⟨T3, T1, T2, rfl, .inl (.inl upd_same), fT6.same s8, .tup (xs := qs) (.inl (.inl ((Same.upd_new nT3) _ _ upd_same))) (DpAll.same s8 _ _ dq)⟩
    generalize upd (upd H6 T2 (.tup qs)) T3 (.tup [.ref T1, .ref T2]) = H8 at *
    have f8 := f6.same s8
    have k8 := k6.trans (Ch.of_same (a := a) s8)
    have gA8 := DpAll.same s8 _ _ gA6
    have g38 := s8 _ _ g36
    clear s8 f6 k6 nT2 nT3 fT6 g36 gA6 dq eq e6 tk6 gA5 g35 g95 f5 k5 sW5 sD5 dX5 fT5 H6 H5
    repeat' (walk_at "jv")
    intro T4 nT4
    refine i_nil ?_
    refine i_al (by show 3 ≤ sizeLine; decide) ?_
    intro T5 nT5
    have s9 : Same H8 (upd (upd H8 T4 (.tup ws)) T5 (.tup [.int k, .ref T3, .ref T4])) := (Same.upd_new nT4).trans (Same.upd_new nT5)
    refine q _ (ps.map F) (rs.map (rn F)) ds' _ (g6.hall hH.two (hR.web hH.web) (by rw [List.length_map]; exact hH.few) (by rw [List.length_map, g5, hlu])) ⟨T5, T4, .ref T3, rfl, .inl (.inl upd_same), wF8.same s9, .tup (xs := ws) (.inl (.inl ((Same.upd_new nT5) _ _ upd_same))) (DpAll.same s9 _ _ gA8), g6.only⟩ (f8.same s9) (k8.trans (Ch.of_same s9))
end
end
section
open L2 PySem PySem.Spec PyProof.Rows
abbrev s__law_any_hall : Stmt := topS 79
theorem sc__law_any_hall : FnScope ["_law_feed_here", "_law_sort", "_law_hall_here"] ["_law_feed_here"] (defScope s__law_any_hall) := ⟨rfl, rfl, rfl, by decide +kernel, rfl, by decide +kernel, by decide +kernel⟩
def spAnyHF (K : PySem.W.Frag) : Sp := fun vs H Q _ => ∃ (a : Addr) (c : Int), vs = [.ref a] ∧ Fd H a c ∧ c < 10 ^ 9 ∧
  ∀ (v : V) (k : Nat) (ps : List Str) (rs : List (Str × Str)) (ds : List PyData) (H' : Hp), IsHall k ps rs ds → HF K H' v k ps rs ds → Fd H' a (c + 3000000000) → Ch a H H' → Q v H'
section
variable {base : Heap} {P : Program} {w : World} {K : PySem.W.Frag} {mg : Str → Option Value}
theorem ok_any_hall (D : Dn K mg "_law_any_hall" s__law_any_hall ["_law_feed_here"]) (B : Bn mg) (C__law_draw : Cl P w K mg base 1 "_law_draw" ["_law_feed_here", "_law_many"] spDraw) (C__law_one : Cl P w K mg base 2 "_law_one" ["_law_feed_here", "_law_things"] (spOne K))
    (C__law_great_hall : Cl P w K mg base 5 "_law_great_hall" ["_law_feed_here", "_law_sort"] (spGreatF K)) (C__law_hall : Cl P w K mg base 5 "_law_hall" ["_law_feed_here", "_law_way", "_law_sort", "_law_most"] (spHallF K)) (C__law_called : Cl P w K mg base 3 "_law_called" ["_law_feed_here", "_law_hall_here"] (spCalled K)) : Cl P w K mg base 6 "_law_any_hall" ["_law_feed_here"] (spAnyHF K) := by
  refine D.cl sc__law_any_hall (fun vs H Q E h => ?_) (fun f cdv A outer s H vs Q E hr h => ?_)
  · obtain ⟨a, c, rfl, _⟩ := h
    rfl
  · obtain ⟨a, c, rfl, hf, hc, q⟩ := h
    refine ⟨_, (pss_cons (ps_set (i := 1) sc__law_any_hall.nd rfl (by first | exact Or.inl rfl | exact Or.inr rfl) (pe_c C__law_one hr (pa_cons (pv 0) (pa_cons (pe_lst (pa_cons pe_str (pa_cons pe_str (pa_cons pe_str (pa_cons pe_str (pa_cons pe_str pa_nil)))))) pa_nil))))
      (pss_cons (ps_if (pt_cmpR op_eq (pe_c C__law_draw hr (pa_cons (pv 0) (pa_cons pe_int pa_nil))) pe_int (nomark _)) (pss_one (ps_ret (pe_c C__law_called hr (pa_cons (pv 0) (pa_cons (pe_c C__law_great_hall hr (pa_cons (pv 0) (pa_cons (pv 1) pa_nil))) pa_nil))))) pss_nil)
      (pss_cons (ps_set (i := 2) sc__law_any_hall.nd rfl (by first | exact Or.inl rfl | exact Or.inr rfl) (pe_c C__law_hall hr (pa_cons (pv 0) (pa_cons (pe_c C__law_one hr (pa_cons (pv 0) (pa_cons (pe_lst (pa_cons pe_str (pa_cons pe_str (pa_cons pe_str (pa_cons pe_str pa_nil))))) pa_nil))) (pa_cons (pv 1) (pa_cons pe_int pa_nil))))))
      (pss_one (ps_ret (pe_ifExp (pt_cmpR op_eq (pe_c C__law_draw hr (pa_cons (pv 0) (pa_cons pe_int pa_nil))) pe_int (nomark _)) (pe_c C__law_called hr (pa_cons (pv 0) (pa_cons (pv 2) pa_nil))) (pv 2))))))), ?_⟩
    repeat' (walk_at "jv")
    intro L nL
    have nLa := hf.ne nL
    refine ⟨a, L, c, [.str "any", .str "any", .str "quiet", .str "adding", .str "undone"], rfl, hf.upd (Ne.symm nLa), SqA.l (sq_lst upd_same), nLa, by show 0 < 5; decide, by show 5 < 1000000; decide, by omega, fun v H1 hv f1 k1 => ?_⟩
    obtain ⟨sort, rfl⟩ : ∃ sort : Str, v = .str sort := by
      simp only [List.mem_cons, List.not_mem_nil, or_false] at hv
      rcases hv with rfl | rfl | rfl | rfl | rfl <;> exact ⟨_, rfl⟩
    have k01 : Ch a H H1 := (Ch.upd_new nL).trans k1
    clear nL nLa
    repeat' (walk_at "jv")
    refine ⟨a, 6, c + 1, rfl, f1, by omega, by omega, by omega, fun r H2 r0 r1 f2 k2 => ?_⟩
    repeat' (walk_at "jv")
    · refine ⟨a, sort, c + 2, rfl, f2.mono (by omega), by omega, fun v k ps rs ds H3 hH hh f3 k3 => ?_⟩
      repeat' (walk_at "jv")
      exact ⟨a, v, k, ps, rs, ds, _, rfl, f3, hh, hH, by omega, fun v' ps' rs' ds' H4 hH' hh' f4 k4 => q v' k ps' rs' ds' H4 hH' hh' (f4.mono (by omega)) (k01.trans (k2.trans (k3.trans k4)))⟩
    · intro L2 nL2
      have nL2a := f2.ne nL2
      refine ⟨a, L2, c + 2, [.str "tree", .str "ring", .str "whole", .str "any"], rfl, (f2.upd (Ne.symm nL2a)).mono (by omega), SqA.l (sq_lst upd_same), nL2a, by show 0 < 4; decide, by show 4 < 1000000; decide, by omega, fun v H3 hv f3 k3 => ?_⟩
      obtain ⟨way, rfl⟩ : ∃ way : Str, v = .str way := by
        simp only [List.mem_cons, List.not_mem_nil, or_false] at hv
        rcases hv with rfl | rfl | rfl | rfl <;> exact ⟨_, rfl⟩
      have k03 : Ch a H H3 := k01.trans (k2.trans ((Ch.upd_new nL2).trans k3))
      repeat' (walk_at "jv")
      refine ⟨a, way, sort, 6, c + 3, rfl, f3.mono (by omega), by omega, by omega, by omega, fun v k ps rs ds H5 hH hh f5 k5 => ?_⟩
      repeat' (walk_at "jv")
      refine ⟨a, 3, _, rfl, f5, by omega, by omega, by omega, fun r2 H6 u0 u1 f6 k6 => ?_⟩
      have hh6 := hh.ch k6 f5
      have k06 : Ch a H H6 := k03.trans (k5.trans k6)
      repeat' (walk_at "jv")
      · exact ⟨a, v, k, ps, rs, ds, _, rfl, f6, hh6, hH, by omega, fun v' ps' rs' ds' H4 hH' hh' f4 k4 => q v' k ps' rs' ds' H4 hH' hh' (f4.mono (by omega)) (k06.trans k4)⟩
      · exact q v k ps rs ds H6 hH hh6 (f6.mono (by omega)) k06
end
end
section
open L2 PySem PySem.Spec PyProof.Rows
abbrev s_every_state : Stmt := topS 43
theorem sc_every_state : FnScope ["hall", "states", "_", "state", "own"] ["hall"] (defScope s_every_state) := ⟨rfl, rfl, rfl, by decide +kernel, rfl, by decide +kernel, by decide +kernel⟩
def spEvery (K : PySem.W.Frag) : Sp := fun vs H Q _ => ∃ (v : V) (k : Nat) (ps : List Str) (rs : List (Str × Str)) (ds : List PyData), vs = [v] ∧ Dp K H v (hallD k ps rs ds) ∧ IsHall k ps rs ds ∧
  ∀ D H', Same H H' → H D = none → LsD K H' D ((statesL k ps.length).map intsD) → Q (.ref D) H'
def spStateNum (K : PySem.W.Frag) : Sp := fun vs H Q _ => ∃ (v : V) (s : Addr) (k : Nat) (ps : List Str) (rs : List (Str × Str)) (ds : List PyData) (t : List Nat), vs = [v, .ref s] ∧ Dp K H v (hallD k ps rs ds) ∧ SqT K H s (natsV t) ∧ k ≤ 3 ∧ Q (.int (numN k t)) H
section
variable {base : Heap} {P : Program} {w : World} {K : PySem.W.Frag} {mg : Str → Option Value}
theorem dp_nats {H : Hp} : ∀ t : List Nat, DpAll K H (natsV t) (t.map fun n => PyData.int ((n : Nat) : Int))
  | [] => .nil
  | x :: r => .cons (.int _) (dp_nats r)
theorem nats_dp {H : Hp} {p : Addr} {t : List Nat} (h : SqT K H p (natsV t)) : Dp K H (.ref p) (intsD t) := .tup h (dp_nats t)
theorem ok_every_state (D : Dn K mg "every_state" s_every_state ["hall"]) (B : Bn mg) : Cl P w K mg base 1 "every_state" ["hall"] (spEvery K) := by
  refine D.cl sc_every_state (fun vs H Q E h => ?_) (fun f cdv A outer s H vs Q E hr h => ?_)
  · obtain ⟨v, k, ps, rs, ds, rfl, _⟩ := h
    rfl
  · obtain ⟨v, k, ps, rs, ds, rfl, hd, hH, q⟩ := h
    obtain ⟨ta, wv, tr, us, rfl, sh, hw, sr, dr⟩ := hall_parts hd
    obtain ⟨wt, tp, trr, xs, rfl, s1, s2, s3, d3, drr, dpl⟩ := web_parts hw
    have h8 := hH.web.le8
    refine ⟨_, (pss_cons (ps_set (i := 1) sc_every_state.nd rfl (by first | exact Or.inl rfl | exact Or.inr rfl) (pe_lst (pa_cons (pe_tup pa_nil) pa_nil)))
      (pss_cons (ps_for PassesOwn.never rfl (kpi_tup (K := K) (pe_ix (k_ixT (K := K)) (pe_ix (k_ixT (K := K)) (pv 0) pe_int (fun _ _ => rfl)) pe_int (fun _ _ => rfl))) (pg_name (i := 2) sc_every_state.nd rfl (by first | exact Or.inl rfl | exact Or.inr rfl)) (pss_one (ps_setLc2 (i := 1) (own := [("state", 3), ("own", 4)]) (vs1 := [4]) rfl sc_every_state.nd rfl rfl (sw_true rfl rfl rfl (by decide +kernel)) (kpi_list (K := K) (pv 1)) (blkOk_by (N := ["hall", "states", "_", "state", "own"]) (sc := defScope s_every_state) (by decide +kernel)) (by decide) (fun _ _ _ _ _ => (pg_name (i := 3) sc_every_state.nd rfl (by first | exact Or.inl rfl | exact Or.inr rfl))) (fun _ _ _ _ _ => pts_nil) (fun _ _ _ _ _ => (pi_range1 rfl B.range_ (pa_cons (pe_ix (k_ixT (K := K)) (pv 0) pe_int (fun _ _ => rfl)) pa_nil))) (fun _ _ _ _ _ => (pg_name (i := 4) sc_every_state.nd rfl (by first | exact Or.inl rfl | exact Or.inr rfl))) (fun _ _ _ _ _ => pts_nil) (fun _ _ _ _ _ => (pe_op (k_catA (K := K)) (pv 3) (pe_tup (pa_cons (pv 4) pa_nil)))))))
      (pss_one (ps_ret (pv 1))))), ?_⟩
    have hk2 : 2 ≤ k ∧ k ≤ 3 := by rcases hH.two with e | e <;> omega
    repeat' (walk_at "jv")
    intro p np
    refine ⟨by show 1 ≤ sizeLine; rw [sizeLine_eq]; omega, fun p1 np1 => ?_⟩
    have spA := Same.upd_new (o := .tup []) np
    have spB := Same.upd_new (o := .lst [V.ref p]) np1
    have nP1 : H p1 = none := by
      have e1 : p1 ≠ p := fun e => by rw [e, upd_same] at np1; cases np1
      rwa [upd_ne e1] at np1
    have dN : Dp K (upd (upd H p (.tup [])) p1 (.lst [V.ref p])) (.ref p) (intsD []) := .tup (xs := []) (sq_tup (spB _ _ upd_same)) .nil
    have s1' := TK.same (K := K) (spA.trans spB) _ _ s1
    have sh' := TK.same (K := K) (spA.trans spB) _ _ sh
    have s2' := TK.same (K := K) (spA.trans spB) _ _ s2
    repeat' (walk_at "jv")
    refine f_tup (ps.map V.str) (fun i σ H' => ∃ D y2, σ = [some (.ref ta), some (.ref D), y2, none, none] ∧ H D = none ∧ Same H H' ∧ LsD K H' D ((statesL k i).map intsD)) ?_ (fun i σ H' _ h => ?_) (fun i x σ H' hx h => ?_) (fun σ H' h => ?_)
    · exact ⟨p1, none, rfl, nP1, spA.trans spB, [.ref p], upd_same, .cons dN .nil, rfl⟩
    · obtain ⟨D1, y2, rfl, nD, k1, h⟩ := h
      exact TK.same k1 _ _ s2
    · obtain ⟨D1, y2, rfl, nD, k1, vs, ev, dv, tv⟩ := h
      have hi : i < ps.length := by
        have := (List.getElem?_eq_some_iff.mp hx).1
        rwa [List.length_map] at this
      have hlen : vs.length = (statesL k i).length := by rw [DpAll.len dv, List.length_map]
      have hsz : (statesL k i).length * k ≤ 256 := by
        rw [states_len, ← Nat.pow_succ]
        exact Nat.le_trans (Nat.pow_le_pow_right (by omega) hi) hH.few
      have n1 : ∀ {H2 : Hp}, Same H' H2 → SqT K H2 ta [.int k, .ref wt, .ref tr] := fun k2 => TK.same k2 _ _ (TK.same k1 _ _ sh)
      repeat' (walk_at "jv")
      refine i_lc2 ?_
      repeat' (walk_at "jv")
      refine c2_lr (by show 3 < 5; decide) (by decide) vs k (fun D2 i2 j H2 => H D2 = none ∧ H' D2 = none ∧ Same H' H2 ∧ LsD K H2 D2 ((rowsL (statesL k i) k i2 j).map intsD)) (fun D2 nD2 => ?_) (fun D2 i2 H2 h => ?_) (fun D2 i2 x H2 R hi2 h hR => ?_) (fun D2 i2 j x H2 hx hj h => ?_) (fun D2 i2 H2 hi2 h => ?_) (fun D2 H2 h => ?_)
      · exact ⟨by cases z : H D2 with
          | none => rfl
          | some o => exact absurd (k1 _ _ z) (by rw [nD2]; simp), nD2, Same.upd_new nD2, LsD.nil upd_same⟩
      · obtain ⟨_, n2, k2, h⟩ := h
        exact sq_lst (k2 _ _ ev)
      · obtain ⟨_, n2, k2, h⟩ := h
        have sh2 := n1 k2
        repeat' (walk_at "jv")
        rw [Int.toNat_natCast]
        exact hR
      · obtain ⟨n0, n2, k2, us2, eu, du, tu⟩ := h
        have hi2 : i2 < (statesL k i).length := by
          have := (List.getElem?_eq_some_iff.mp hx).1
          omega
        obtain ⟨d, hdd, dx⟩ := DpAll.get (DpAll.same k2 _ _ dv) hx
        rw [List.getElem?_map, List.getElem?_eq_getElem hi2] at hdd
        obtain rfl : intsD (statesL k i)[i2] = d := Option.some.inj hdd
        obtain ⟨a, us3, rfl, sa, da⟩ := tup_parts (ds := ((statesL k i)[i2]).map fun n => PyData.int ((n : Nat) : Int)) dx
        have := nats_of _ us3 da
        subst this
        have h9 : (natsV (statesL k i)[i2]).length ≤ 8 := by
          unfold natsV
          rw [List.length_map, (states_ok k i _ (List.getElem_mem hi2)).1]
          omega
        repeat' (walk_at "jv")
        intro p3 np3
        have sp3 := Same.upd_new (o := .tup [V.int (0 + (j : Int))]) np3
        refine i_catA (TK.same sp3 _ _ sa) (sq_tup upd_same) (by simp) (by rw [sizeLine_eq, List.length_singleton]; omega) fun p4 H4 k4 s4 => ?_
        have e4 := k4 _ _ (sp3 _ _ eu)
        have hul : us2.length ≤ 256 := by
          rw [DpAll.len du, List.length_map, rows_len _ (by omega)]
          have := Nat.mul_le_mul_right k (show i2 + 1 ≤ (statesL k i).length by omega)
          rw [Nat.succ_mul] at this
          omega
        refine i_lcE e4 (by rw [sizeLine_eq]; omega) ⟨n0, n2, fun b o z => ?_, ?_⟩
        · rw [upd_ne (fun w => by rw [w, n2] at z; cases z)]
          exact k4 _ _ (sp3 _ _ (k2 _ _ z))
        · rw [rows_push, List.map_append, List.getD_eq_getElem?_getD, List.getElem?_eq_getElem hi2]
          refine LsD.push e4 (DpAll.same (sp3.trans k4) _ _ du) tu ?_ (ints_only _)
          rw [Int.zero_add] at s4
          have : natsV (statesL k i)[i2] ++ [V.int (j : Int)] = natsV ((statesL k i)[i2] ++ [j]) := by
            unfold natsV
            rw [List.map_append]
            rfl
          rw [this] at s4
          exact nats_dp s4
      · obtain ⟨n0, n2, k2, h⟩ := h
        rw [rows_next (by omega)] at h
        exact ⟨n0, n2, k2, h⟩
      · obtain ⟨n0, n2, k2, h⟩ := h
        rw [hlen, rows_all] at h
        exact ⟨D2, some x, rfl, n0, k1.trans k2, h⟩
    · obtain ⟨D1, y2, rfl, nD, k1, h⟩ := h
      repeat' (walk_at "jv")
      rw [List.length_map] at h
      exact q _ _ k1 nD h
end
end
section
open L2 PySem PySem.Spec PyProof.Rows
abbrev s__step_list : Stmt := topS 52
theorem sc__step_list : FnScope ["hall", "states", "number", "k", "web", "rules", "near", "seen", "worth", "owns", "state", "at", "own"] ["hall", "states", "number"] (defScope s__step_list) := ⟨rfl, rfl, rfl, by decide +kernel, rfl, by decide +kernel, by decide +kernel⟩
abbrev s_step_lists : Stmt := topS 51
theorem sc_step_lists : FnScope ["hall", "states", "number"] ["hall"] (defScope s_step_lists) := ⟨rfl, rfl, rfl, by decide +kernel, rfl, by decide +kernel, by decide +kernel⟩
section
variable {base : Heap} {P : Program} {w : World} {K : PySem.W.Frag} {mg : Str → Option Value}
theorem ok_step_list (D : Dn K mg "_step_list" s__step_list ["hall", "states", "number"]) (B : Bn mg) (C__looks_at : Cl P w K mg base 3 "_looks_at" ["web", "number"] (spLooks K)) (C_next_state : Cl P w K mg base 2 "next_state" ["rule", "k", "near", "states"] (spNext K)) (C_power : Cl P w K mg base 1 "power" ["base", "exponent"] spPower) :
    Cl P w K mg base 4 "_step_list" ["hall", "states", "number"] (spStepList K) := by
  refine D.cl sc__step_list (fun vs H Q E h => ?_) (fun f cdv A outer s H vs Q E hr h => ?_)
  · obtain ⟨v, D, j, k, ps, rs, ds, rfl, _⟩ := h
    rfl
  · obtain ⟨v, DS, j, k, ps, rs, ds, rfl, hh, hH, hD, hj, q⟩ := h
    obtain ⟨ta, T, wv, rfl, sh, hw, dT, uT⟩ := hh
    obtain ⟨wt, tp, tr, ew, sw, fp, drr⟩ := id hw
    have W := hH.web
    have h8 := W.le8
    have hz : ps[j] ∈ ps := List.getElem_mem hj
    have hix : ps.idxOf ps[j] = j := idx_is W.names.1 (List.getElem?_eq_getElem hj)
    have hk2 : 2 ≤ k ∧ k ≤ 3 := by rcases hH.two with e | e <;> omega
    obtain ⟨vs, eS, dS, tS⟩ := hD
    have hvl : vs.length = k ^ ps.length := by rw [DpAll.len dS, List.length_map, states_len]
    have hfew := hH.few
    refine ⟨_, (pss_cons (ps_asg (pv 0) (kpg_tup (K := K) (n := 3) rfl (pgs_cons (pg_name (i := 3) sc__step_list.nd rfl (by first | exact Or.inl rfl | exact Or.inr rfl)) (pgs_cons (pg_name (i := 4) sc__step_list.nd rfl (by first | exact Or.inl rfl | exact Or.inr rfl)) (pgs_cons (pg_name (i := 5) sc__step_list.nd rfl (by first | exact Or.inl rfl | exact Or.inr rfl)) pgs_nil)))))
      (pss_cons (ps_asg (pe_c C__looks_at hr (pa_cons (pv 4) (pa_cons (pv 2) pa_nil))) (kpg_tup (K := K) (n := 2) rfl (pgs_cons (pg_name (i := 6) sc__step_list.nd rfl (by first | exact Or.inl rfl | exact Or.inr rfl)) (pgs_cons (pg_name (i := 7) sc__step_list.nd rfl (by first | exact Or.inl rfl | exact Or.inr rfl)) pgs_nil))))
      (pss_cons (ps_set (i := 8) sc__step_list.nd rfl (by first | exact Or.inl rfl | exact Or.inr rfl) (pe_c C_power hr (pa_cons (pv 3) (pa_cons (pe_op op_sub (pe_op op_sub (pe_callB (k_len (K := K)) rfl B.len_ (by decide +kernel) (pa_cons (pe_ix (k_ixT (K := K)) (pv 4) pe_int (fun _ _ => rfl)) pa_nil)) pe_int) (pv 2)) pa_nil))))
      (pss_cons (ps_setLc (i := 9) (own := [("state", 10)]) rfl sc__step_list.nd rfl rfl (sw_true rfl rfl rfl (by decide +kernel)) (kpi_list (K := K) (pv 1)) (blkOk_by (N := ["hall", "states", "number", "k", "web", "rules", "near", "seen", "worth", "owns", "state", "at", "own"]) (sc := defScope s__step_list) (by decide +kernel)) (fun _ _ _ _ _ => (pg_name (i := 10) sc__step_list.nd rfl (by first | exact Or.inl rfl | exact Or.inr rfl))) (fun _ _ _ _ _ => pts_nil) (fun _ _ _ _ _ => (pe_c C_next_state hr (pa_cons (pe_ix (k_ixT (K := K)) (pv 5) (pv 2) (fun _ _ => rfl)) (pa_cons (pv 3) (pa_cons (pv 6) (pa_cons (pe_lc (own := [("at", 11)]) rfl sc__step_list.nd (kpi_list (K := K) (pv 7)) (blkOk_by (by rfl)) (fun _ _ _ _ _ => (pg_name (i := 11) sc__step_list.nd rfl (by first | exact Or.inl rfl | exact Or.inr rfl))) (fun _ _ _ _ _ => pts_nil) (fun _ _ _ _ _ => (pe_ix (k_ixT (K := K)) (pv 10) (pv 11) (fun _ _ => rfl)))) pa_nil)))))))
      (pss_one (ps_ret (pe_lc (own := [("at", 11), ("own", 12)]) rfl sc__step_list.nd (kpi_enum (K := K) B.enumerate_ (pa_cons (pv 9) pa_nil)) (blkOk_by (N := ["hall", "states", "number", "k", "web", "rules", "near", "seen", "worth", "owns", "state", "at", "own"]) (sc := defScope s__step_list) (by decide +kernel)) (fun _ _ _ _ _ => (kpg_tup (K := K) (n := 2) rfl (pgs_cons (pg_name (i := 11) sc__step_list.nd rfl (by first | exact Or.inl rfl | exact Or.inr rfl)) (pgs_cons (pg_name (i := 12) sc__step_list.nd rfl (by first | exact Or.inl rfl | exact Or.inr rfl)) pgs_nil)))) (fun _ _ _ _ _ => pts_nil) (fun _ _ _ _ _ => (pe_op op_add (pv 11) (pe_op op_mul (pe_op op_sub (pv 12) (pe_ix (k_ixT (K := K)) (pe_ix (k_ixL (K := K)) (pv 1) (pv 11) (fun _ _ => rfl)) (pv 2) (fun _ _ => rfl))) (pv 8))))))))))), ?_⟩
    subst ew
    repeat' (walk_at "jv")
    refine ⟨.ref wt, ps[j], ps, rs, by rw [hix]; rfl, hw, W, hz, fun T1 p L H1 k1 sT1 fp1 sL => ?_⟩
    obtain ⟨T', us, eT, sT, dU⟩ := tup_parts dT
    obtain rfl : T = T' := by injection eT
    have hul : us.length = ps.length := by rw [DpAll.len dU, hH.len]
    have hx : us[j]? = some us[j] := List.getElem?_eq_getElem (by omega)
    obtain ⟨d, hd, dx⟩ := DpAll.get (DpAll.same k1 _ _ dU) hx
    have hR := hH.rules j ps[j] d (List.getElem?_eq_getElem hj) hd
    have hdD : ds.getD (ps.idxOf ps[j]) .none = d := by rw [hix, List.getD_eq_getElem?_getD, hd]; rfl
    have sT' := TK.same (K := K) k1 _ _ sT
    have hxx : atI us (j : Int) = some us[j] := atI_nat hx
    have nl := near_len W hz
    have ndn : (nearL ps rs ps[j]).Nodup := W.names.1.filter _
    have hsl : (seenL ps rs ps[j]).length = (nearL ps rs ps[j]).length + 1 := by
      unfold seenL
      rw [List.length_cons, List.length_map]
    have hseen : ∀ i ∈ seenL ps rs ps[j], i < ps.length := by
      intro i hi
      unfold seenL at hi
      rcases List.mem_cons.mp hi with rfl | hi
      · rw [hix]
        exact hj
      · obtain ⟨y, hy, rfl⟩ := List.mem_map.mp hi
        exact List.idxOf_lt_length_iff.mpr (List.mem_filter.mp hy).1
    have hown : ∀ t : List Nat, ownV k ps rs ds t ps[j] = nextV k (nearL ps rs ps[j]) d ((seenL ps rs ps[j]).map fun i => t.getD i 0) := by
      intro t
      unfold ownV
      rw [hdD]
    have sw1 := TK.same (K := K) k1 _ _ sw
    have sp1 := (fp.same k1).sq (K := K)
    have eS1 := k1 _ _ eS
    have dS1 := DpAll.same k1 _ _ dS
    have hlm : (ps.map V.str).length = ps.length := List.length_map ..
    clear dT uT drr sT dU
    generalize us[j] = vx at *
    repeat' (walk_at "jv")
    have ew9 : (ps.length : Int) - 1 - (j : Int) = ((ps.length - 1 - j : Nat) : Int) := by omega
    rw [hlm, ew9]
    refine ⟨k, ps.length - 1 - j, rfl, hk2.2, by omega, ?_⟩
    repeat' (walk_at "jv")
    refine c_list vs (fun D i H' => H1 D = none ∧ Same H1 H' ∧ H' D = some (.lst (natsV (((statesL k ps.length).take i).map fun t => ownV k ps rs ds t ps[j])))) (fun D nD => ⟨nD, Same.upd_new nD, upd_same⟩) (fun D i H' _ h => sq_lst (h.2.1 _ _ eS1)) (fun D i x H' hx h => ?_) (fun D H2 h => ?_)
    · obtain ⟨nD, kD, eD⟩ := h
      have hi : i < (statesL k ps.length).length := by
        have := (List.getElem?_eq_some_iff.mp hx).1
        rw [states_len]
        omega
      obtain ⟨d2, hd2, dx2⟩ := DpAll.get (DpAll.same kD _ _ dS1) hx
      rw [List.getElem?_map, List.getElem?_eq_getElem hi] at hd2
      obtain rfl : intsD (statesL k ps.length)[i] = d2 := Option.some.inj hd2
      obtain ⟨b, us3, rfl, sb, db⟩ := tup_parts (ds := ((statesL k ps.length)[i]).map fun n => PyData.int ((n : Nat) : Int)) dx2
      have := nats_of _ us3 db
      subst this
      have hst := states_ok k ps.length _ (List.getElem_mem hi)
      have et : (statesL k ps.length).take (i + 1) = (statesL k ps.length).take i ++ [(statesL k ps.length)[i]] := by
        rw [List.take_add_one, List.getElem?_eq_getElem hi]
        rfl
      generalize (statesL k ps.length)[i] = t at *
      have sL' := kD.seq sL
      have sT2 := TK.same (K := K) kD _ _ sT'
      repeat' (walk_at "jv")
      refine c_list (natsV (seenL ps rs ps[j])) (fun D3 i2 H3 => H' D3 = none ∧ Same H' H3 ∧ H3 D3 = some (.lst (natsV (((seenL ps rs ps[j]).take i2).map fun i => t.getD i 0)))) (fun D3 nD3 => ⟨nD3, Same.upd_new nD3, upd_same⟩) (fun D3 i2 H3 _ h => h.2.1.seq sL') (fun D3 i2 x2 H3 hx2 h => ?_) (fun D3 H3 h => ?_)
      · obtain ⟨nD3, kD3, eD3⟩ := h
        have hi2 : i2 < (seenL ps rs ps[j]).length := by
          have := (List.getElem?_eq_some_iff.mp hx2).1
          unfold natsV at this
          rwa [List.length_map] at this
        unfold natsV at hx2
        rw [List.getElem?_map, List.getElem?_eq_getElem hi2] at hx2
        obtain rfl : V.int (((seenL ps rs ps[j])[i2] : Nat) : Int) = x2 := Option.some.inj hx2
        have hit : (seenL ps rs ps[j])[i2] < t.length := by rw [hst.1]; exact hseen _ (List.getElem_mem hi2)
        have st2 := TK.same (K := K) kD3 _ _ sb
        repeat' (walk_at "jv")
        refine i_ixT st2 (atI_nat (v := V.int ((t[(seenL ps rs ps[j])[i2]] : Nat) : Int)) ?_) ?_
        · unfold natsV
          rw [List.getElem?_map, List.getElem?_eq_getElem hit]
          rfl
        refine i_lcE eD3 (by unfold natsV; rw [List.length_map, List.length_map, List.length_take, sizeLine_eq]; omega) ⟨nD3, fun b o z => ?_, ?_⟩
        · rw [upd_ne (fun w => by rw [w, nD3] at z; cases z)]
          exact kD3 _ _ z
        · rw [upd_same, List.take_add_one, List.getElem?_eq_getElem hi2]
          unfold natsV
          rw [List.map_append, List.map_append]
          show some (HO.lst (_ ++ [V.int _])) = some (HO.lst (_ ++ [V.int ((t.getD (seenL ps rs ps[j])[i2] 0 : Nat) : Int)]))
          rw [List.getD_eq_getElem?_getD, List.getElem?_eq_getElem hit]
          rfl
      · obtain ⟨nD3, kD3, eD3⟩ := h
        unfold natsV at eD3
        rw [List.length_map, List.take_length] at eD3
        refine i_nil ?_
        refine ⟨vx, d, p, D3, k, nearL ps rs ps[j], (seenL ps rs ps[j]).map fun i => t.getD i 0, rfl, Dp.same (kD.trans kD3) _ _ dx, hR, fp1.same (kD.trans kD3), ndn, sq_lst eD3, by rw [List.length_map, hsl], fun s hs => ?_, hk2.1, hk2.2, nl, fun H4 k4 => ?_⟩
        · obtain ⟨i, _, rfl⟩ := List.mem_map.mp hs
          exact getD_lt (by omega) hst.2 i
        rw [← hown]
        have eD4 := k4 _ _ (kD3 _ _ eD)
        have hle : (natsV (((statesL k ps.length).take i).map fun t => ownV k ps rs ds t ps[j])).length ≤ 256 := by
          unfold natsV
          rw [List.length_map, List.length_map, List.length_take]
          have := states_len k ps.length
          omega
        refine i_lcE eD4 (by rw [sizeLine_eq]; omega) ⟨nD, fun b o z => ?_, ?_⟩
        · rw [upd_ne (fun w => by rw [w, nD] at z; cases z)]
          exact k4 _ _ (kD3 _ _ (kD _ _ z))
        · rw [upd_same, et, List.map_append]
          unfold natsV
          rw [List.map_append]
          rfl
    · obtain ⟨nD, kD, eD⟩ := h
      rw [hvl, ← states_len k ps.length, List.take_length] at eD
      have eS2 := kD _ _ eS1
      have dS2 := DpAll.same kD _ _ dS1
      have hlo : ((statesL k ps.length).map fun t => ownV k ps rs ds t ps[j]).length = k ^ ps.length := by rw [List.length_map, states_len]
      have nD0 : H D = none := by
        cases z : H D with
        | none => rfl
        | some o => exact absurd (k1 _ _ z) (by rw [nD]; simp)
      have k02 := k1.trans kD
      clear nD kD dS1 eS1 sL fp1 sp1 sw1 sT' dx
      repeat' (walk_at "jv")
      refine i_enum ?_
      repeat' (walk_at "jv")
      refine i_enumK (sq_lst eD) ?_
      refine c_enum (natsV ((statesL k ps.length).map fun t => ownV k ps rs ds t ps[j])) (fun D4 i H4 => H2 D4 = none ∧ Same H2 H4 ∧ H4 D4 = some (.lst (natsV ((List.range i).map (stepIx k ps rs ds j))))) (fun D4 nD4 => ⟨nD4, Same.upd_new nD4, upd_same⟩) (fun D4 i H4 h => sq_lst (h.2.1 _ _ eD)) (fun D4 i x H4 T4 hx h nT4 => ?_) (fun D4 H4 h => ?_)
      · obtain ⟨nD4, k4, e4⟩ := h
        have hi : i < (statesL k ps.length).length := by
          have := (List.getElem?_eq_some_iff.mp hx).1
          unfold natsV at this
          rwa [List.length_map, List.length_map] at this
        unfold natsV at hx
        rw [List.getElem?_map, List.getElem?_map, List.getElem?_eq_getElem hi] at hx
        obtain rfl : V.int ((ownV k ps rs ds (statesL k ps.length)[i] ps[j] : Nat) : Int) = x := Option.some.inj hx
        have hst := states_ok k ps.length _ (List.getElem_mem hi)
        have kT := Same.upd_new (o := .tup [.int (i : Nat), V.int ((ownV k ps rs ds (statesL k ps.length)[i] ps[j] : Nat) : Int)]) nT4
        have hiv : i < vs.length := by rw [hvl, ← states_len k ps.length]; exact hi
        obtain ⟨d2, hd2, dx2⟩ := DpAll.get (DpAll.same (k4.trans kT) _ _ dS2) (List.getElem?_eq_getElem hiv)
        rw [List.getElem?_map, List.getElem?_eq_getElem hi] at hd2
        obtain rfl : intsD (statesL k ps.length)[i] = d2 := Option.some.inj hd2
        obtain ⟨b, us3, eb, sb, db⟩ := tup_parts (ds := ((statesL k ps.length)[i]).map fun n => PyData.int ((n : Nat) : Int)) dx2
        have := nats_of _ us3 db
        subst this
        have hvi : atI vs (i : Int) = some (.ref b) := atI_nat (by rw [List.getElem?_eq_getElem hiv, eb])
        have eS4 := kT _ _ (k4 _ _ eS2)
        have e4' := kT _ _ e4
        have key := step_ix (ds := ds) W hj (List.getElem?_eq_getElem hi)
        have hjt : j < ((statesL k ps.length)[i]).length := by rw [hst.1]; exact hj
        have hgt : ((statesL k ps.length)[i]).getD j 0 = ((statesL k ps.length)[i])[j] := by rw [List.getD_eq_getElem?_getD, List.getElem?_eq_getElem hjt]; rfl
        have hst2 : atI (natsV (statesL k ps.length)[i]) (j : Int) = some (.int (((statesL k ps.length)[i])[j] : Nat)) := atI_nat (by unfold natsV; rw [List.getElem?_map, List.getElem?_eq_getElem hjt]; rfl)
        rw [hgt] at key
        repeat' (walk_at "jv")
        have hpw : k ^ (ps.length - 1 - j) ≤ 256 := Nat.le_trans (Nat.pow_le_pow_right (by omega) (by omega)) hfew
        refine ⟨_, _, rfl, rfl, .inr ⟨by omega, by omega⟩, ?_⟩
        refine i_rI0 ?_
        rw [← key]
        have hle : (natsV ((List.range i).map (stepIx k ps rs ds j))).length ≤ 256 := by
          unfold natsV
          rw [List.length_map, List.length_map, List.length_range]
          have := states_len k ps.length
          omega
        refine i_lcE e4' (by rw [sizeLine_eq]; omega) ⟨nD4, fun b o z => ?_, ?_⟩
        · rw [upd_ne (fun w => by rw [w, nD4] at z; cases z)]
          exact kT _ _ (k4 _ _ z)
        · rw [upd_same, List.range_succ, List.map_append]
          unfold natsV
          rw [List.map_append]
          rfl
      · obtain ⟨nD4, k4, e4⟩ := h
        have hln : (natsV ((statesL k ps.length).map fun t => ownV k ps rs ds t ps[j])).length = k ^ ps.length := by
          unfold natsV
          rw [List.length_map, hlo]
        rw [hln] at e4
        refine q D4 H4 ?_ (k02.trans k4) e4
        cases z : H D4 with
        | none => rfl
        | some o => exact absurd (k02 _ _ z) (by rw [nD4]; simp)
theorem ok_step_lists (D : Dn K mg "step_lists" s_step_lists ["hall"]) (B : Bn mg) (C_every_state : Cl P w K mg base 1 "every_state" ["hall"] (spEvery K)) (C__step_list : Cl P w K mg base 4 "_step_list" ["hall", "states", "number"] (spStepList K)) : Cl P w K mg base 5 "step_lists" ["hall"] (spStepLists K) := by
  refine D.cl sc_step_lists (fun vs H Q E h => ?_) (fun f cdv A outer s H vs Q E hr h => ?_)
  · obtain ⟨v, k, ps, rs, ds, rfl, _⟩ := h
    rfl
  · obtain ⟨v, k, ps, rs, ds, rfl, hh, hH, q⟩ := h
    have W := hH.web
    have h8 := W.le8
    refine ⟨_, (pss_cons (ps_set (i := 1) sc_step_lists.nd rfl (by first | exact Or.inl rfl | exact Or.inr rfl) (pe_c C_every_state hr (pa_cons (pv 0) pa_nil)))
      (pss_one (ps_ret (pe_lc (own := [("number", 2)]) rfl sc_step_lists.nd (pi_range1 rfl B.range_ (pa_cons (pe_callB (k_len (K := K)) rfl B.len_ (by decide +kernel) (pa_cons (pe_ix (k_ixT (K := K)) (pv 0) pe_int (fun _ _ => rfl)) pa_nil)) pa_nil)) (blkOk_by (N := ["hall", "states", "number"]) (sc := defScope s_step_lists) (by decide +kernel)) (fun _ _ _ _ _ => (pg_name (i := 2) sc_step_lists.nd rfl (by first | exact Or.inl rfl | exact Or.inr rfl))) (fun _ _ _ _ _ => pts_nil) (fun _ _ _ _ _ => (pe_c C__step_list hr (pa_cons (pv 0) (pa_cons (pv 1) (pa_cons (pv 2) pa_nil))))))))), ?_⟩
    repeat' (walk_at "jv")
    refine ⟨v, k, ps, rs, ds, rfl, hh.dp, hH, fun DS H1 k1 nDS lS => ?_⟩
    have hh1 := hh.same k1
    obtain ⟨ta, T, wv, rfl, sh, hw, dT, uT⟩ := id hh1
    obtain ⟨T', us, eT, sT, dU⟩ := tup_parts dT
    cases eT
    have hul : us.length = ps.length := by rw [DpAll.len dU, hH.len]
    repeat' (walk_at "jv")
    rw [hul]
    repeat' (walk_at "jv")
    rw [Int.toNat_natCast]
    refine c_range (fun D i H' => H1 D = none ∧ Same H1 H' ∧ ∃ Ls : List Addr, H' D = some (.lst (Ls.map V.ref)) ∧ Ls.length = i ∧ ∀ (j : Nat) L, Ls[j]? = some L → L ≠ D ∧ H' L = some (.lst (natsV (stepRow k ps rs ds j)))) (fun D nD => ⟨nD, Same.upd_new nD, [], upd_same, rfl, fun j L z => by simp at z⟩) (fun D i H' hi h => ?_) (fun D H' h => ?_)
    · obtain ⟨nD, kD, Ls, eD, hl, hL⟩ := h
      have e0 : (0 : Int) + (i : Int) = (i : Int) := by omega
      rw [e0]
      repeat' (walk_at "jv")
      refine ⟨_, DS, i, k, ps, rs, ds, rfl, hh1.same kD, hH, lS.same kD, hi, fun L H2 nL k2 eL => ?_⟩
      have nLD : L ≠ D := fun e => by rw [e, eD] at nL; cases nL
      have e2 := k2 _ _ eD
      refine i_lcE e2 (by rw [List.length_map, sizeLine_eq]; omega) ⟨nD, fun b o z => ?_, Ls ++ [L], ?_, by rw [List.length_append, hl]; rfl, fun j L' hj => ?_⟩
      · rw [upd_ne (fun w => by rw [w, nD] at z; cases z)]
        exact k2 _ _ (kD _ _ z)
      · rw [upd_same, List.map_append]
        rfl
      · by_cases hjl : j < Ls.length
        · rw [List.getElem?_append_left hjl] at hj
          obtain ⟨a1, a2⟩ := hL j L' hj
          exact ⟨a1, by rw [upd_ne a1]; exact k2 _ _ a2⟩
        · rw [List.getElem?_append_right (by omega)] at hj
          have hk0 : j - Ls.length = 0 := by
            cases z : j - Ls.length with
            | zero => rfl
            | succ m => rw [z] at hj; simp at hj
          rw [hk0] at hj
          have hxx : L = L' := by simpa using hj
          subst hxx
          have hji : j = i := by omega
          subst hji
          exact ⟨nLD, by rw [upd_ne nLD]; exact eL⟩
    · obtain ⟨nD, kD, Ls, eD, hl, hL⟩ := h
      exact q D H' (k1.trans kD) ⟨Ls, eD, hl, fun j L h => (hL j L h).2⟩
end
end
section
open L2 PySem PySem.Spec PyProof.Rows
abbrev s__law_states : Stmt := topS 76
theorem sc__law_states : FnScope ["_law_hall_here", "_law_got", "_law_place", "_law_more", "_law_state_here", "_law_one_here"] ["_law_hall_here"] (defScope s__law_states) := ⟨rfl, rfl, rfl, by decide +kernel, rfl, by decide +kernel, by decide +kernel⟩
section
variable {base : Heap} {P : Program} {w : World} {K : PySem.W.Frag} {mg : Str → Option Value}
theorem ok_lstates (D : Dn K mg "_law_states" s__law_states ["_law_hall_here"]) (B : Bn mg) : Cl P w K mg base 1 "_law_states" ["_law_hall_here"] (spEvery K) := by
  refine D.cl sc__law_states (fun vs H Q E h => ?_) (fun f cdv A outer s H vs Q E hr h => ?_)
  · obtain ⟨v, k, ps, rs, ds, rfl, _⟩ := h
    rfl
  · obtain ⟨v, k, ps, rs, ds, rfl, hd, hH, q⟩ := h
    obtain ⟨ta, wv, tr, us, rfl, sh, hw, sr, dr⟩ := hall_parts hd
    obtain ⟨wt, tp, trr, xs, rfl, s1, s2, s3, d3, drr, dpl⟩ := web_parts hw
    have h8 := hH.web.le8
    refine ⟨_, (pss_cons (ps_set (i := 1) sc__law_states.nd rfl (by first | exact Or.inl rfl | exact Or.inr rfl) (pe_lst (pa_cons (pe_tup pa_nil) pa_nil)))
      (pss_cons (ps_for PassesOwn.never rfl (kpi_tup (K := K) (pe_ix (k_ixT (K := K)) (pe_ix (k_ixT (K := K)) (pv 0) pe_int (fun _ _ => rfl)) pe_int (fun _ _ => rfl))) (pg_name (i := 2) sc__law_states.nd rfl (by first | exact Or.inl rfl | exact Or.inr rfl)) (pss_cons (ps_set (i := 3) sc__law_states.nd rfl (by first | exact Or.inl rfl | exact Or.inr rfl) (pe_lst pa_nil))
      (pss_cons (ps_for PassesOwn.never rfl (kpi_list (K := K) (pv 1)) (pg_name (i := 4) sc__law_states.nd rfl (by first | exact Or.inl rfl | exact Or.inr rfl)) (pss_one (ps_expr (pe_bm PySem.F.plainAttrs_list PySem.F.slot_list_extend PySem.F.type_list_extend mt_extend (pv 3) (pa_cons (pe_lc (own := [("_law_one_here", 5)]) rfl sc__law_states.nd (pi_range1 rfl B.range_ (pa_cons (pe_ix (k_ixT (K := K)) (pv 0) pe_int (fun _ _ => rfl)) pa_nil)) (blkOk_by (N := ["_law_hall_here", "_law_got", "_law_place", "_law_more", "_law_state_here", "_law_one_here"]) (sc := defScope s__law_states) (by decide +kernel)) (fun _ _ _ _ _ => (pg_name (i := 5) sc__law_states.nd rfl (by first | exact Or.inl rfl | exact Or.inr rfl))) (fun _ _ _ _ _ => pts_nil) (fun _ _ _ _ _ => (pe_op (k_catA (K := K)) (pv 4) (pe_tup (pa_cons (pv 5) pa_nil))))) pa_nil)))))
      (pss_one (ps_set (i := 1) sc__law_states.nd rfl (by first | exact Or.inl rfl | exact Or.inr rfl) (pv 3))))))
      (pss_one (ps_ret (pv 1))))), ?_⟩
    have hk2 : 2 ≤ k ∧ k ≤ 3 := by rcases hH.two with e | e <;> omega
    repeat' (walk_at "jv")
    intro p np
    refine ⟨by show 1 ≤ sizeLine; rw [sizeLine_eq]; omega, fun p1 np1 => ?_⟩
    have spA := Same.upd_new (o := .tup []) np
    have spB := Same.upd_new (o := .lst [V.ref p]) np1
    have nP1 : H p1 = none := by
      have e1 : p1 ≠ p := fun e => by rw [e, upd_same] at np1; cases np1
      rwa [upd_ne e1] at np1
    have dN : Dp K (upd (upd H p (.tup [])) p1 (.lst [V.ref p])) (.ref p) (intsD []) := .tup (xs := []) (sq_tup (spB _ _ upd_same)) .nil
    have s1' := TK.same (K := K) (spA.trans spB) _ _ s1
    have sh' := TK.same (K := K) (spA.trans spB) _ _ sh
    have s2' := TK.same (K := K) (spA.trans spB) _ _ s2
    repeat' (walk_at "jv")
    refine f_tup (ps.map V.str) (fun i σ H' => ∃ D y2 y3 y4, σ = [some (.ref ta), some (.ref D), y2, y3, y4, none] ∧ H D = none ∧ Same H H' ∧ LsD K H' D ((statesL k i).map intsD)) ?_ (fun i σ H' _ h => ?_) (fun i x σ H' hx h => ?_) (fun σ H' h => ?_)
    · exact ⟨p1, none, none, none, rfl, nP1, spA.trans spB, [.ref p], upd_same, .cons dN .nil, rfl⟩
    · obtain ⟨D1, y2, y3, y4, rfl, nD, k1, h⟩ := h
      exact TK.same k1 _ _ s2
    · obtain ⟨D1, y2, y3, y4, rfl, nD, k1, vs, ev, dv, tv⟩ := h
      have hi : i < ps.length := by
        have := (List.getElem?_eq_some_iff.mp hx).1
        rwa [List.length_map] at this
      have hlen : vs.length = (statesL k i).length := by rw [DpAll.len dv, List.length_map]
      have hsz : (statesL k i).length * k ≤ 256 := by
        rw [states_len, ← Nat.pow_succ]
        exact Nat.le_trans (Nat.pow_le_pow_right (by omega) hi) hH.few
      have n1 : ∀ {H2 : Hp}, Same H' H2 → SqT K H2 ta [.int k, .ref wt, .ref tr] := fun k2 => TK.same k2 _ _ (TK.same k1 _ _ sh)
      repeat' (walk_at "jv")
      intro M nM
      have nM0 : H M = none := by
        cases z : H M with
        | none => rfl
        | some o => exact absurd (k1 _ _ z) (by rw [nM]; simp)
      have kM := Same.upd_new (o := .lst []) nM
      have ev1 := kM _ _ ev
      repeat' (walk_at "jv")
      refine f_list vs (fun i2 σ H2 => ∃ y4, σ = [some (.ref ta), some (.ref D1), some x, some (.ref M), y4, none] ∧ Same H' H2 ∧ LsD K H2 M ((rowsL (statesL k i) k i2 0).map intsD)) ?_ (fun i2 σ H2 _ h => ?_) (fun i2 x2 σ H2 hx2 h => ?_) (fun σ H2 h => ?_)
      · exact ⟨y4, rfl, kM, LsD.nil upd_same⟩
      · obtain ⟨y4, rfl, k2, h⟩ := h
        exact sq_lst (k2 _ _ ev)
      · obtain ⟨y4, rfl, k2, us2, eu, du, tu⟩ := h
        have hi2 : i2 < (statesL k i).length := by
          have := (List.getElem?_eq_some_iff.mp hx2).1
          omega
        have hul : us2.length = i2 * k := by
          rw [DpAll.len du, List.length_map, rows_len _ (by omega)]
          rfl
        have hmul := Nat.mul_le_mul_right k (show i2 + 1 ≤ (statesL k i).length by omega)
        rw [Nat.succ_mul] at hmul
        obtain ⟨d, hdd, dx⟩ := DpAll.get (DpAll.same k2 _ _ dv) hx2
        rw [List.getElem?_map, List.getElem?_eq_getElem hi2] at hdd
        obtain rfl : intsD (statesL k i)[i2] = d := Option.some.inj hdd
        obtain ⟨a, us3, rfl, sa, da⟩ := tup_parts (ds := ((statesL k i)[i2]).map fun n => PyData.int ((n : Nat) : Int)) dx
        have := nats_of _ us3 da
        subst this
        have h9 : (natsV (statesL k i)[i2]).length ≤ 8 := by
          unfold natsV
          rw [List.length_map, (states_ok k i _ (List.getElem_mem hi2)).1]
          omega
        have sh2 := n1 k2
        repeat' (walk_at "jv")
        rw [Int.toNat_natCast]
        refine c_range (fun C j H3 => H2 C = none ∧ Same H2 H3 ∧ LsD K H3 C (((List.range j).map fun o => (statesL k i)[i2] ++ [o]).map intsD)) (fun C nC => ⟨nC, Same.upd_new nC, LsD.nil upd_same⟩) (fun C j H3 hj h => ?_) (fun C H3 h => ?_)
        · obtain ⟨nC, k3, us4, e4, d4, t4⟩ := h
          have sa3 := TK.same (K := K) k3 _ _ sa
          repeat' (walk_at "jv")
          intro p3 np3
          have sp3 := Same.upd_new (o := .tup [V.int (0 + (j : Int))]) np3
          refine i_catA (TK.same sp3 _ _ sa3) (sq_tup upd_same) (by simp) (by rw [sizeLine_eq, List.length_singleton]; omega) fun p4 H4 k4 s4 => ?_
          have e5 := k4 _ _ (sp3 _ _ e4)
          have hul4 : us4.length = j := by
            rw [DpAll.len d4, List.length_map, List.length_map, List.length_range]
          refine i_lcE e5 (by rw [sizeLine_eq]; omega) ⟨nC, fun b o z => ?_, ?_⟩
          · rw [upd_ne (fun w => by rw [w, nC] at z; cases z)]
            exact k4 _ _ (sp3 _ _ (k3 _ _ z))
          · rw [List.range_succ, List.map_append, List.map_append]
            refine LsD.push e5 (DpAll.same (sp3.trans k4) _ _ d4) t4 ?_ (ints_only _)
            rw [Int.zero_add] at s4
            have : natsV (statesL k i)[i2] ++ [V.int (j : Int)] = natsV ((statesL k i)[i2] ++ [j]) := by
              unfold natsV
              rw [List.map_append]
              rfl
            rw [this] at s4
            exact nats_dp s4
        · obtain ⟨nC, k3, us4, e4, d4, t4⟩ := h
          have hul4 : us4.length = k := by
            rw [DpAll.len d4, List.length_map, List.length_map, List.length_range]
          refine i_nil ?_
          have eu3 := k3 _ _ eu
          refine i_ext eu3 e4 (by rw [sizeLine_eq]; omega) ?_
          repeat' (walk_at "jv")
          refine ⟨_, rfl, fun b o z => ?_, ?_⟩
          · rw [upd_ne (fun w => by rw [w, nM] at z; cases z)]
            exact k3 _ _ (k2 _ _ z)
          · have er : rowsL (statesL k i) k (i2 + 1) 0 = rowsL (statesL k i) k i2 0 ++ (List.range k).map fun o => (statesL k i)[i2] ++ [o] := by
              rw [← rows_next hi2]
              unfold rowsL
              rw [List.getD_eq_getElem?_getD, List.getElem?_eq_getElem hi2]
              simp
            rw [er, List.map_append]
            exact LsD.ext eu3 (DpAll.same k3 _ _ du) tu d4 t4
      · obtain ⟨y4, rfl, k2, h⟩ := h
        rw [hlen, rows_all] at h
        repeat' (walk_at "jv")
        exact ⟨M, _, _, _, rfl, nM0, k1.trans k2, h⟩
    · obtain ⟨D1, y2, y3, y4, rfl, nD, k1, h⟩ := h
      repeat' (walk_at "jv")
      rw [List.length_map] at h
      exact q _ _ k1 nD h
end
end
section
open L2 PySem PySem.Spec PyProof.Rows
abbrev s_numbers_behind : Stmt := topS 54
theorem sc_numbers_behind : FnScope ["web", "steps", "order", "numbers", "place", "made", "number"] ["web", "steps", "order", "numbers"] (defScope s_numbers_behind) := ⟨rfl, rfl, rfl, by decide +kernel, rfl, by decide +kernel, by decide +kernel⟩
abbrev s_day_numbers : Stmt := topS 53
theorem sc_day_numbers : FnScope ["web", "steps", "order"] ["web", "steps", "order"] (defScope s_day_numbers) := ⟨rfl, rfl, rfl, by decide +kernel, rfl, by decide +kernel, by decide +kernel⟩
section
variable {base : Heap} {P : Program} {w : World} {K : PySem.W.Frag} {mg : Str → Option Value}
theorem ok_numbers_behind (D : Dn K mg "numbers_behind" s_numbers_behind ["web", "steps", "order", "numbers"]) (B : Bn mg) : Cl P w K mg base 1 "numbers_behind" ["web", "steps", "order", "numbers"] (spNumsN K) := by
  refine D.cl sc_numbers_behind (fun vs H Q E h => ?_) (fun f cdv A outer s H vs Q E hr h => ?_)
  · obtain ⟨v, D, o, M, k, ps, rs, ds, ord, nums, rfl, _⟩ := h
    rfl
  · obtain ⟨v, DS, o, M, k, ps, rs, ds, ord, nums, rfl, hw, hH, hS, so, ho, eM, hn, hl, q⟩ := h
    obtain ⟨wt, tp, tr, rfl, sw, fp, drr⟩ := id hw
    obtain ⟨Ls, eL, hLl, hL⟩ := hS
    refine ⟨_, (pss_cons (ps_for PassesOwn.never rfl (kpi_tup (K := K) (pv 2)) (pg_name (i := 4) sc_numbers_behind.nd rfl (by first | exact Or.inl rfl | exact Or.inr rfl)) (pss_cons (ps_set (i := 5) sc_numbers_behind.nd rfl (by first | exact Or.inl rfl | exact Or.inr rfl) (pe_ix (k_ixL (K := K)) (pv 1) (pe_bmF PySem.F.plainAttrs_tuple PySem.F.slot_tuple_index PySem.F.type_tuple_index (k_tindex (K := K)) (pe_ix (k_ixT (K := K)) (pv 0) pe_int (fun _ _ => rfl)) (pa_cons (pv 4) pa_nil)) (fun _ _ => rfl)))
      (pss_one (ps_setLc (i := 3) (own := [("number", 6)]) rfl sc_numbers_behind.nd rfl rfl (sw_true rfl rfl rfl (by decide +kernel)) (kpi_list (K := K) (pv 3)) (blkOk_by (N := ["web", "steps", "order", "numbers", "place", "made", "number"]) (sc := defScope s_numbers_behind) (by decide +kernel)) (fun _ _ _ _ _ => (pg_name (i := 6) sc_numbers_behind.nd rfl (by first | exact Or.inl rfl | exact Or.inr rfl))) (fun _ _ _ _ _ => pts_nil) (fun _ _ _ _ _ => (pe_ix (k_ixL (K := K)) (pv 5) (pv 6) (fun _ _ => rfl)))))))
      (pss_one (ps_ret (pv 3)))), ?_⟩
    repeat' (walk_at "jv")
    refine f_tup (ord.map V.str) (fun i σ H' => ∃ M' y4 y5, σ = [some (.ref wt), some (.ref DS), some (.ref o), some (.ref M'), y4, y5, none] ∧ (M' = M ∨ H M' = none) ∧ Same H H' ∧ H' M' = some (.lst (natsV (nums.map (dayIx k ps rs ds (ord.take i)))))) ?_ (fun i σ H' _ h => ?_) (fun i x σ H' hx h => ?_) (fun σ H' h => ?_)
    · refine ⟨M, none, none, rfl, .inl rfl, Same.refl _, ?_⟩
      rw [eM]
      show _ = some (HO.lst (natsV (nums.map fun i => i)))
      rw [List.map_id']
    · obtain ⟨M', y4, y5, rfl, nM, k1, e1⟩ := h
      exact TK.same k1 _ _ so
    · obtain ⟨M', y4, y5, rfl, nM, k1, e1⟩ := h
      have hi : i < ord.length := by
        have := (List.getElem?_eq_some_iff.mp hx).1
        rwa [List.length_map] at this
      rw [List.getElem?_map, List.getElem?_eq_getElem hi] at hx
      obtain rfl : V.str ord[i] = x := Option.some.inj hx
      have hz := ho _ (List.getElem_mem hi)
      have hj := List.idxOf_lt_length_iff.mpr hz
      have sw1 := TK.same (K := K) k1 _ _ sw
      have eL1 := k1 _ _ eL
      have e9 := k1 _ _ (hL (ps.idxOf ord[i]) _ (List.getElem?_eq_getElem (by omega)))
      have hat : atI (Ls.map V.ref) ((ps.idxOf ord[i] : Nat) : Int) = some (.ref (Ls[ps.idxOf ord[i]]'(by omega))) := atI_nat (by rw [List.getElem?_map, List.getElem?_eq_getElem (by omega)]; rfl)
      have et : ord.take (i + 1) = ord.take i ++ [ord[i]] := by rw [List.take_add_one, List.getElem?_eq_getElem hi]; rfl
      have hin : ∀ z ∈ ord.take i, z ∈ ps := fun z hz => ho z (List.mem_of_mem_take hz)
      generalize Ls[ps.idxOf ord[i]]'(by omega) = L at *
      repeat' (walk_at "jv")
      refine i_bmF ?_
      repeat' (walk_at "jv")
      refine i_tyF (fp.same k1) ?_
      repeat' (walk_at "jv")
      refine i_tix (fp.same k1).sq hz ?_
      repeat' (walk_at "jv")
      have hsl : ∀ m ∈ nums.map (dayIx k ps rs ds (ord.take i)), m < k ^ ps.length := fun m hm => by
        obtain ⟨m0, h0, rfl⟩ := List.mem_map.mp hm
        exact dayIx_lt hH _ _ hin (hn _ h0)
      have hnl : (nums.map (dayIx k ps rs ds (ord.take i))).length = nums.length := List.length_map ..
      have e2 : nums.map (dayIx k ps rs ds (ord.take (i + 1))) = (nums.map (dayIx k ps rs ds (ord.take i))).map (stepIx k ps rs ds (ps.idxOf ord[i])) := by
        rw [List.map_map]
        refine List.map_congr_left fun m _ => ?_
        rw [et, dayIx_snoc]
        rfl
      rw [e2]
      generalize nums.map (dayIx k ps rs ds (ord.take i)) = ms at *
      generalize ps.idxOf ord[i] = j at *
      refine c_list (natsV ms) (fun D i2 H3 => H' D = none ∧ Same H' H3 ∧ H3 D = some (.lst (natsV ((ms.take i2).map (stepIx k ps rs ds j))))) (fun D nD => ⟨nD, Same.upd_new nD, upd_same⟩) (fun D i2 H3 _ h => sq_lst (h.2.1 _ _ e1)) (fun D i2 x2 H3 hx2 h => ?_) (fun D H3 h => ?_)
      · obtain ⟨nD, kD, eD⟩ := h
        have hi2 : i2 < ms.length := by
          have := (List.getElem?_eq_some_iff.mp hx2).1
          unfold natsV at this
          rwa [List.length_map] at this
        unfold natsV at hx2
        rw [List.getElem?_map, List.getElem?_eq_getElem hi2] at hx2
        obtain rfl : V.int ((ms[i2] : Nat) : Int) = x2 := Option.some.inj hx2
        have hlt := hsl _ (List.getElem_mem hi2)
        have eR := kD _ _ e9
        have hat2 : atI (natsV (stepRow k ps rs ds j)) ((ms[i2] : Nat) : Int) = some (.int (stepIx k ps rs ds j ms[i2] : Nat)) := row_at hlt
        have hz : (natsV ((ms.take i2).map (stepIx k ps rs ds j))).length < sizeLine := by
          unfold natsV
          rw [List.length_map, List.length_map, List.length_take, sizeLine_eq]
          omega
        repeat' (walk_at "jv")
        refine ⟨nD, fun b o z => ?_, ?_⟩
        · rw [upd_ne (fun w => by rw [w, nD] at z; cases z)]
          exact kD _ _ z
        · rw [upd_same, List.take_add_one, List.getElem?_eq_getElem hi2]
          unfold natsV
          rw [List.map_append, List.map_append]
          rfl
      · obtain ⟨nD, kD, eD⟩ := h
        unfold natsV at eD
        rw [List.length_map, List.take_length] at eD
        repeat' (walk_at "jv")
        exact ⟨D, _, _, rfl, .inr (free_same k1 nD), k1.trans kD, eD⟩
    · obtain ⟨M', y4, y5, rfl, nM, k1, e1⟩ := h
      repeat' (walk_at "jv")
      rw [List.length_map, List.take_length] at e1
      exact q _ _ nM k1 e1
theorem ok_day_numbers (D : Dn K mg "day_numbers" s_day_numbers ["web", "steps", "order"]) (B : Bn mg) (C_numbers_behind : Cl P w K mg base 1 "numbers_behind" ["web", "steps", "order", "numbers"] (spNumsN K)) : Cl P w K mg base 2 "day_numbers" ["web", "steps", "order"] (spDayNumsN K) := by
  refine D.cl sc_day_numbers (fun vs H Q E h => ?_) (fun f cdv A outer s H vs Q E hr h => ?_)
  · obtain ⟨v, D, o, k, ps, rs, ds, ord, rfl, _⟩ := h
    rfl
  · obtain ⟨v, DS, o, k, ps, rs, ds, ord, rfl, hw, hH, hS, so, ho, q⟩ := h
    have hS' := hS
    obtain ⟨Ls, eL, hLl, hL⟩ := hS
    have hp := hH.web.pos
    refine ⟨_, (pss_one (ps_ret (pe_c C_numbers_behind hr (pa_cons (pv 0) (pa_cons (pv 1) (pa_cons (pv 2) (pa_cons (pe_listRg rfl rfl B.list_ (prg_1 rfl B.range_ (pe_callB (k_len (K := K)) rfl B.len_ (by decide +kernel) (pa_cons (pe_ix (k_ixL (K := K)) (pv 1) pe_int (fun _ _ => rfl)) pa_nil)))) pa_nil))))))), ?_⟩
    have h0 : Ls[0]? = some (Ls[0]'(by omega)) := List.getElem?_eq_getElem (by omega)
    have e0 := hL 0 _ h0
    have hat0 : atI (Ls.map V.ref) 0 = some (.ref (Ls[0]'(by omega))) := atI_nat (j := 0) (by rw [List.getElem?_map, h0]; rfl)
    generalize Ls[0]'(by omega) = L0 at *
    have hrl : (natsV (stepRow k ps rs ds 0)).length = k ^ ps.length := by
      unfold natsV stepRow
      rw [List.length_map, List.length_map, List.length_range]
    repeat' (walk_at "jv")
    rw [hrl]
    refine i_lrgK (Nat.le_trans hH.few (by decide)) fun M nM => ?_
    have kM := Same.upd_new (o := .lst ((List.range (k ^ ps.length)).map fun i => V.int ((i : Nat) : Int))) nM
    repeat' (walk_at "jv")
    exact ⟨v, DS, o, M, k, ps, rs, ds, ord, List.range (k ^ ps.length), rfl, hw.same kM, hH, hS'.same kM, TK.same kM _ _ so, ho, upd_same, fun m hm => List.mem_range.mp hm, by rw [List.length_range]; exact hH.few, fun M' H' nM' k2 e2 => q M' H' (by
      rcases nM' with rfl | n
      · exact nM
      · exact free_same kM n) (kM.trans k2) e2⟩
end
end
section
open L2 PySem PySem.Spec PyProof.Rows
abbrev s_state_number : Stmt := topS 44
theorem sc_state_number : FnScope ["hall", "state", "number", "own"] ["hall", "state"] (defScope s_state_number) := ⟨rfl, rfl, rfl, by decide +kernel, rfl, by decide +kernel, by decide +kernel⟩
abbrev s_need_count : Stmt := topS 47
theorem sc_need_count : FnScope ["count", "most"] ["count", "most"] (defScope s_need_count) := ⟨rfl, rfl, rfl, by decide +kernel, rfl, by decide +kernel, by decide +kernel⟩
abbrev s_day_list : Stmt := topS 55
theorem sc_day_list : FnScope ["hall", "order"] ["hall", "order"] (defScope s_day_list) := ⟨rfl, rfl, rfl, by decide +kernel, rfl, by decide +kernel, by decide +kernel⟩
abbrev s__told : Stmt := topS 58
theorem sc__told : FnScope ["hall", "order", "state", "count", "numbers", "states", "number", "told", "_"] ["hall", "order", "state", "count"] (defScope s__told) := ⟨rfl, rfl, rfl, by decide +kernel, rfl, by decide +kernel, by decide +kernel⟩
abbrev s_story : Stmt := topS 57
theorem sc_story : FnScope ["hall", "order", "state", "count"] ["hall", "order", "state", "count"] (defScope s_story) := ⟨rfl, rfl, rfl, by decide +kernel, rfl, by decide +kernel, by decide +kernel⟩
section
variable {base : Heap} {P : Program} {w : World} {K : PySem.W.Frag} {mg : Str → Option Value}
theorem ok_state_number (D : Dn K mg "state_number" s_state_number ["hall", "state"]) (B : Bn mg) : Cl P w K mg base 1 "state_number" ["hall", "state"] (spStateNum K) := by
  refine D.cl sc_state_number (fun vs H Q E h => ?_) (fun f cdv A outer s H vs Q E hr h => ?_)
  · obtain ⟨v, s1, k, ps, rs, ds, t, rfl, _⟩ := h
    rfl
  · obtain ⟨v, st, k, ps, rs, ds, t, rfl, hd, hs, hk3, q⟩ := h
    obtain ⟨ta, wv, tr, us, rfl, sh, hw, sr, dr⟩ := hall_parts hd
    refine ⟨_, (pss_cons (ps_set (i := 2) sc_state_number.nd rfl (by first | exact Or.inl rfl | exact Or.inr rfl) pe_int)
      (pss_cons (ps_for PassesOwn.never rfl (kpi_tup (K := K) (pv 1)) (pg_name (i := 3) sc_state_number.nd rfl (by first | exact Or.inl rfl | exact Or.inr rfl)) (pss_one (ps_set (i := 2) sc_state_number.nd rfl (by first | exact Or.inl rfl | exact Or.inr rfl) (pe_op op_add (pe_op op_mul (pv 2) (pe_ix (k_ixT (K := K)) (pv 0) pe_int (fun _ _ => rfl))) (pv 3)))))
      (pss_one (ps_ret (pv 2))))), ?_⟩
    repeat' (walk_at "jv")
    refine f_tup (natsV t) (fun i σ H' => ∃ y3, σ = [some (.ref ta), some (.ref st), some (.int (numN k (t.take i))), y3] ∧ H = H') ⟨none, rfl, rfl⟩ (fun i σ H' _ h => ?_) (fun i x σ H' hx h => ?_) (fun σ H' h => ?_)
    · obtain ⟨y3, rfl, rfl⟩ := h
      exact hs
    · obtain ⟨y3, rfl, rfl⟩ := h
      have hi : i < t.length := by
        have := (List.getElem?_eq_some_iff.mp hx).1
        unfold natsV at this
        rwa [List.length_map] at this
      unfold natsV at hx
      rw [List.getElem?_map, List.getElem?_eq_getElem hi] at hx
      obtain rfl : V.int ((t[i] : Nat) : Int) = x := Option.some.inj hx
      repeat' (walk_at "jv")
      refine ⟨some (.int ((t[i] : Nat) : Int)), ?_, rfl⟩
      have e : numN k (t.take (i + 1)) = numN k (t.take i) * k + t[i] := by
        rw [List.take_add_one, List.getElem?_eq_getElem hi]
        exact numN_snoc k _ _
      rw [e, Int.natCast_add, Int.natCast_mul]
      rfl
    · obtain ⟨y3, rfl, rfl⟩ := h
      unfold natsV
      rw [List.length_map, List.take_length]
      repeat' (walk_at "jv")
      exact q
theorem ok_need_count (D : Dn K mg "need_count" s_need_count ["count", "most"]) (B : Bn mg) (C_is_integer : Cl P w K mg base 1 "is_integer" ["thing"] spIsInt) : Cl P w K mg base 2 "need_count" ["count", "most"] spNeedCount := by
  refine D.cl sc_need_count (fun vs H Q E h => ?_) (fun f cdv A outer s H vs Q E hr h => ?_)
  · obtain ⟨n, m, rfl, _⟩ := h
    rfl
  · obtain ⟨n, m, rfl, h0, h1, q⟩ := h
    refine ⟨_, (pss_one (ps_if (PW.pt (pw_or (pt_not (pt_val (pe_c C_is_integer hr (pa_cons (pv 0) pa_nil)))) (pw_or1 (pt_not (pt_chain op_le op_le pe_int (pv 0) (pv 1)))))) (pss_one ps_dead) pss_nil)), ?_⟩
    repeat' (walk_at "jv")
    refine ⟨n, rfl, ?_⟩
    repeat' (walk_at "jv")
    all_goals first
      | exact q H (Same.refl _)
      | omega
      | (exfalso; omega)
      | skip
theorem ok_day_list (D : Dn K mg "day_list" s_day_list ["hall", "order"]) (B : Bn mg) (C_day_numbers : Cl P w K mg base 2 "day_numbers" ["web", "steps", "order"] (spDayNumsN K)) (C_step_lists : Cl P w K mg base 5 "step_lists" ["hall"] (spStepLists K)) : Cl P w K mg base 6 "day_list" ["hall", "order"] (spDayListN K) := by
  refine D.cl sc_day_list (fun vs H Q E h => ?_) (fun f cdv A outer s H vs Q E hr h => ?_)
  · obtain ⟨v, o, k, ps, rs, ds, ord, rfl, _⟩ := h
    rfl
  · obtain ⟨v, o, k, ps, rs, ds, ord, rfl, hh, hH, so, ho, q⟩ := h
    obtain ⟨ta, T0, wv, rfl, sh, hw, dT, uT⟩ := id hh
    refine ⟨_, (pss_one (ps_ret (pe_c C_day_numbers hr (pa_cons (pe_ix (k_ixT (K := K)) (pv 0) pe_int (fun _ _ => rfl)) (pa_cons (pe_c C_step_lists hr (pa_cons (pv 0) pa_nil)) (pa_cons (pv 1) pa_nil)))))), ?_⟩
    repeat' (walk_at "jv")
    refine ⟨.ref ta, k, ps, rs, ds, rfl, hh, hH, fun D H1 k1 sA => ?_⟩
    have so1 := TK.same (K := K) k1 _ _ so
    have hw1 := hw.same k1
    repeat' (walk_at "jv")
    exact ⟨wv, D, o, k, ps, rs, ds, ord, rfl, hw1, hH, sA, so1, ho, fun M H2 nM k2 e2 => q M H2 (free_same k1 nM) (k1.trans k2) e2⟩
theorem ok_told (D : Dn K mg "_told" s__told ["hall", "order", "state", "count"]) (B : Bn mg) (C_day_list : Cl P w K mg base 6 "day_list" ["hall", "order"] (spDayListN K)) (C_every_state : Cl P w K mg base 1 "every_state" ["hall"] (spEvery K)) (C_state_number : Cl P w K mg base 1 "state_number" ["hall", "state"] (spStateNum K)) : Cl P w K mg base 7 "_told" ["hall", "order", "state", "count"] (spTold K) := by
  refine D.cl sc__told (fun vs H Q E h => ?_) (fun f cdv A outer s H vs Q E hr h => ?_)
  · obtain ⟨v, o, s1, n, k, ps, rs, ds, ord, t, rfl, _⟩ := h
    rfl
  · obtain ⟨v, o, st, n, k, ps, rs, ds, ord, t, rfl, hh, hH, so, pm, hs, hl, hk, hn, q⟩ := h
    have ho : ∀ z ∈ ord, z ∈ ps := fun z hz => pm.mem_iff.mp hz
    have hk3 : k ≤ 3 := by rcases hH.two with e | e <;> omega
    refine ⟨_, (pss_cons (ps_set (i := 4) sc__told.nd rfl (by first | exact Or.inl rfl | exact Or.inr rfl) (pe_c C_day_list hr (pa_cons (pv 0) (pa_cons (pv 1) pa_nil))))
      (pss_cons (ps_set (i := 5) sc__told.nd rfl (by first | exact Or.inl rfl | exact Or.inr rfl) (pe_c C_every_state hr (pa_cons (pv 0) pa_nil)))
      (pss_cons (ps_set (i := 6) sc__told.nd rfl (by first | exact Or.inl rfl | exact Or.inr rfl) (pe_c C_state_number hr (pa_cons (pv 0) (pa_cons (pv 2) pa_nil))))
      (pss_cons (ps_set (i := 7) sc__told.nd rfl (by first | exact Or.inl rfl | exact Or.inr rfl) (pe_lst (pa_cons (pv 2) pa_nil)))
      (pss_cons (ps_for PassesOwn.never rfl (pi_range1 rfl B.range_ (pa_cons (pv 3) pa_nil)) (pg_name (i := 8) sc__told.nd rfl (by first | exact Or.inl rfl | exact Or.inr rfl)) (pss_cons (ps_set (i := 6) sc__told.nd rfl (by first | exact Or.inl rfl | exact Or.inr rfl) (pe_ix (k_ixL (K := K)) (pv 4) (pv 6) (fun _ _ => rfl)))
      (pss_one (ps_expr (pe_bm PySem.F.plainAttrs_list PySem.F.slot_list_append PySem.F.type_list_append mt_append (pv 7) (pa_cons (pe_ix (k_ixL (K := K)) (pv 5) (pv 6) (fun _ _ => rfl)) pa_nil))))))
      (pss_one (ps_ret (pv 7)))))))), ?_⟩
    repeat' (walk_at "jv")
    refine ⟨v, o, k, ps, rs, ds, ord, rfl, hh, hH, so, ho, fun M H1 _ k1 eM => ?_⟩
    have hh1 := hh.same k1
    have hs1 := TK.same (K := K) k1 _ _ hs
    repeat' (walk_at "jv")
    refine ⟨v, k, ps, rs, ds, rfl, hh1.dp, hH, fun S H2 k2 nS lS => ?_⟩
    have hh2 := hh1.same k2
    have hs2 := TK.same (K := K) k2 _ _ hs1
    have eM2 := k2 _ _ eM
    have k02 := k1.trans k2
    clear hh1 hs1 eM k1 k2 nS H1
    repeat' (walk_at "jv")
    refine ⟨v, st, k, ps, rs, ds, t, rfl, hh2.dp, hs2, hk3, ?_⟩
    repeat' (walk_at "jv")
    intro D nD
    have hk3' : k ≤ 3 := hk3
    have hpow := hH.few
    have hh3 := hh2.same (Same.upd_new (o := .lst [.ref st]) nD)
    have lD0 : LsD K (upd H2 D (.lst [.ref st])) D ((storyL k ps rs ds ord t 0).map intsD) := ⟨[.ref st], upd_same, .cons (st_dp (TK.new nD _ _ hs2)) .nil, intss_only _⟩
    obtain ⟨vs, eS, dS, tS⟩ := lS
    have hvl : vs.length = k ^ ps.length := by rw [DpAll.len dS, List.length_map, states_len]
    repeat' (walk_at "jv")
    refine f_range (fun i σ H' => ∃ y8, σ = [some v, some (.ref o), some (.ref st), some (.int n), some (.ref M), some (.ref S), some (.int (numN k (dIt k ps rs ds ord t i) : Nat)), some (.ref D), y8] ∧ Same H2 H' ∧ LsD K H' D ((storyL k ps rs ds ord t i).map intsD)) ⟨none, rfl, Same.upd_new nD, lD0⟩ (fun i σ H' hi h => ?_) (fun σ H' h => ?_)
    · obtain ⟨y8, rfl, kk, us, eD, dD, tD⟩ := h
      have hi5 : i < 500 := by omega
      have l1 : (dIt k ps rs ds ord t i).length = ps.length := (dIt_len i).trans hl
      have l2 := dIt_lt (rs := rs) (ds := ds) (ord := ord) hH ho hk i
      have m1 : numN k (dIt k ps rs ds ord t i) < k ^ ps.length := by
        have := num_lt l2
        rwa [l1] at this
      have z1 : dayIx k ps rs ds ord (numN k (dIt k ps rs ds ord t i)) = numN k (dIt k ps rs ds ord t (i + 1)) := dayIx_num hH ord _ ho l1 l2
      have eMi := kk _ _ eM2
      have at1' : atI (natsV ((List.range (k ^ ps.length)).map (dayIx k ps rs ds ord))) ((numN k (dIt k ps rs ds ord t i) : Nat) : Int) = some (.int (numN k (dIt k ps rs ds ord t (i + 1)) : Nat)) := atI_nat (by
        unfold natsV
        rw [List.getElem?_map, List.getElem?_map, List.getElem?_range m1]
        show some (V.int (dayIx k ps rs ds ord (numN k (dIt k ps rs ds ord t i)) : Nat)) = _
        rw [z1])
      have l3 : (dIt k ps rs ds ord t (i + 1)).length = ps.length := (dIt_len (i + 1)).trans hl
      have l4 := dIt_lt (rs := rs) (ds := ds) (ord := ord) hH ho hk (i + 1)
      have hst := st_num (n := ps.length) l3 l4
      have eSi := kk _ _ eS
      obtain ⟨x, hx, dx⟩ := DpAll.get' (DpAll.same kk _ _ dS) (i := numN k (dIt k ps rs ds ord t (i + 1))) (d := intsD (dIt k ps rs ds ord t (i + 1))) (by rw [List.getElem?_map, hst]; rfl)
      have at2' : atI vs ((numN k (dIt k ps rs ds ord t (i + 1)) : Nat) : Int) = some x := atI_nat hx
      have hul : us.length = i + 1 := by rw [DpAll.len dD, List.length_map, story_len]
      repeat' (walk_at "jv")
      refine ⟨_, rfl, fun b ob z => ?_, ?_⟩
      · rw [upd_ne (ne_of_none z nD)]
        exact kk b ob z
      · rw [story_succ, List.map_append]
        exact LsD.push eD dD tD dx (ints_only _)
    · obtain ⟨y8, rfl, kk, lD⟩ := h
      repeat' (walk_at "jv")
      exact q D H' (free_same k02 nD) (k02.trans kk) lD
theorem ok_story (D : Dn K mg "story" s_story ["hall", "order", "state", "count"]) (B : Bn mg) (hto : ∃ t, mg "MOST_TOLD" = some (.int 500 t)) (C_need_start : Cl P w K mg base 10 "need_start" ["hall", "order", "state"] (spNeedStart K)) (C_need_count : Cl P w K mg base 2 "need_count" ["count", "most"] spNeedCount) (C__told : Cl P w K mg base 7 "_told" ["hall", "order", "state", "count"] (spTold K)) : Cl P w K mg base 11 "story" ["hall", "order", "state", "count"] (spTold K) := by
  obtain ⟨t0, c_MOST_TOLD⟩ := hto
  refine D.cl sc_story (fun vs H Q E h => ?_) (fun f cdv A outer s H vs Q E hr h => ?_)
  · obtain ⟨v, o, s1, n, k, ps, rs, ds, ord, t, rfl, _⟩ := h
    rfl
  · obtain ⟨v, o, st, n, k, ps, rs, ds, ord, t, rfl, hh, hH, so, pm, hs, hl, hk, hn, q⟩ := h
    refine ⟨_, (pss_cons (ps_expr (pe_c C_need_start hr (pa_cons (pv 0) (pa_cons (pv 1) (pa_cons (pv 2) pa_nil)))))
      (pss_cons (ps_expr (pe_c C_need_count hr (pa_cons (pv 3) (pa_cons (gl_int c_MOST_TOLD) pa_nil))))
      (pss_one (ps_ret (pe_c C__told hr (pa_cons (pv 0) (pa_cons (pv 1) (pa_cons (pv 2) (pa_cons (pv 3) pa_nil))))))))), ?_⟩
    repeat' (walk_at "jv")
    refine ⟨v, o, st, ord, k, ps, rs, ds, t, rfl, hh.dp, hH, so, pm, hs, hl, hk, fun H1 k1 => ?_⟩
    repeat' (walk_at "jv")
    refine ⟨n, 500, rfl, by omega, by omega, fun H2 k2 => ?_⟩
    have k02 := k1.trans k2
    repeat' (walk_at "jv")
    exact ⟨v, o, st, n, k, ps, rs, ds, ord, t, rfl, hh.same k02, hH, TK.same k02 _ _ so, pm, TK.same k02 _ _ hs, hl, hk, hn, fun D H3 nD k3 lD => q D H3 (free_same k02 nD) (k02.trans k3) lD⟩
theorem ok_storyK (D : Dk K mg "story" s_story ["hall", "order", "state", "count"] ["count", "state", "order", "hall"]) (B : Bn mg) (hto : ∃ t, mg "MOST_TOLD" = some (.int 500 t)) (C_need_start : Cl P w K mg base 10 "need_start" ["hall", "order", "state"] (spNeedStart K)) (C_need_count : Cl P w K mg base 2 "need_count" ["count", "most"] spNeedCount) (C__told : Cl P w K mg base 7 "_told" ["hall", "order", "state", "count"] (spTold K)) : ClK P w K mg base 11 "story" ["hall", "order", "state", "count"] ["count", "state", "order", "hall"] (spTold K) := by
  obtain ⟨t0, c_MOST_TOLD⟩ := hto
  refine D.cl sc_story (fun vs H Q E h => ?_) (fun f cdv A outer s H vs Q E hr h => ?_)
  · obtain ⟨v, o, s1, n, k, ps, rs, ds, ord, t, rfl, _⟩ := h
    rfl
  · obtain ⟨v, o, st, n, k, ps, rs, ds, ord, t, rfl, hh, hH, so, pm, hs, hl, hk, hn, q⟩ := h
    refine ⟨_, (pss_cons (ps_expr (pe_c C_need_start hr (pa_cons (pv 0) (pa_cons (pv 1) (pa_cons (pv 2) pa_nil)))))
      (pss_cons (ps_expr (pe_c C_need_count hr (pa_cons (pv 3) (pa_cons (gl_int c_MOST_TOLD) pa_nil))))
      (pss_one (ps_ret (pe_c C__told hr (pa_cons (pv 0) (pa_cons (pv 1) (pa_cons (pv 2) (pa_cons (pv 3) pa_nil))))))))), ?_⟩
    repeat' (walk_at "jv")
    refine ⟨v, o, st, ord, k, ps, rs, ds, t, rfl, hh.dp, hH, so, pm, hs, hl, hk, fun H1 k1 => ?_⟩
    repeat' (walk_at "jv")
    refine ⟨n, 500, rfl, by omega, by omega, fun H2 k2 => ?_⟩
    have k02 := k1.trans k2
    repeat' (walk_at "jv")
    exact ⟨v, o, st, n, k, ps, rs, ds, ord, t, rfl, hh.same k02, hH, TK.same k02 _ _ so, pm, TK.same k02 _ _ hs, hl, hk, hn, fun D H3 nD k3 lD => q D H3 (free_same k02 nD) (k02.trans k3) lD⟩
end
end
section
open L2 PySem PySem.Spec PyProof.Rows
abbrev s__law_days : Stmt := topS 80
theorem sc__law_days : FnScope ["_law_hall_here", "_law_order_here", "_law_state_here"] ["_law_hall_here", "_law_order_here"] (defScope s__law_days) := ⟨rfl, rfl, rfl, by decide +kernel, rfl, by decide +kernel, by decide +kernel⟩
abbrev s_first_unlike_day : Stmt := topS 60
theorem sc_first_unlike_day : FnScope ["hall", "order", "other", "state", "numbers", "others", "number", "count"] ["hall", "order", "other", "state"] (defScope s_first_unlike_day) := ⟨rfl, rfl, rfl, by decide +kernel, rfl, by decide +kernel, by decide +kernel⟩
abbrev s_watched : Stmt := topS 59
theorem sc_watched : FnScope ["hall", "order", "state", "place", "count", "number", "told"] ["hall", "order", "state", "place", "count"] (defScope s_watched) := ⟨rfl, rfl, rfl, by decide +kernel, rfl, by decide +kernel, by decide +kernel⟩
abbrev s__law_near_order : Stmt := topS 81
theorem sc__law_near_order : FnScope ["_law_feed_here", "_law_order_here", "_law_at", "_law_way"] ["_law_feed_here", "_law_order_here"] (defScope s__law_near_order) := ⟨rfl, rfl, rfl, by decide +kernel, rfl, by decide +kernel, by decide +kernel⟩
abbrev s__law_first : Stmt := topS 82
theorem sc__law_first : FnScope ["_law_one_here", "_law_other", "_law_state_here", "_law_most", "_law_here", "_law_day_here"] ["_law_one_here", "_law_other", "_law_state_here", "_law_most"] (defScope s__law_first) := ⟨rfl, rfl, rfl, by decide +kernel, rfl, by decide +kernel, by decide +kernel⟩
def spDaysT3 (K : PySem.W.Frag) (P : Program) (w : World) : Sp := fun vs H Q _ => ∃ (v : V) (o : Addr) (k : Nat) (ps : List Str) (rs : List (Str × Str)) (ds : List PyData) (ord : List Str), vs = [v, .ref o] ∧ HF K H v k ps rs ds ∧ IsHall k ps rs ds ∧ SqT K H o (ord.map V.str) ∧ ord.Perm ps ∧
  ∀ D L H', Same H H' → H D = none → H' D = some (DtO P w D L) → (D == sysModules) = false → L.map (·.1) = statesL k ps.length → KeysT K H' L → DayV K H' k ps rs ds ord L → Q (.ref D) H'
def spFirstG (K : PySem.W.Frag) : Sp := fun vs H Q _ => ∃ (v : V) (o o2 s : Addr) (k : Nat) (ps : List Str) (rs : List (Str × Str)) (ds : List PyData) (qs os : List Str) (t : List Nat), vs = [v, .ref o, .ref o2, .ref s] ∧ HF K H v k ps rs ds ∧ IsHall k ps rs ds ∧ SqT K H o (qs.map V.str) ∧ qs.Perm ps ∧ SqT K H o2 (os.map V.str) ∧ os.Perm ps ∧ SqT K H s (natsV t) ∧ t.length = ps.length ∧ (∀ x ∈ t, x < k) ∧
  ∀ r H', IsUn k ps rs ds qs os t (k ^ ps.length) r → Same H H' → Q (optV r) H'
def spWatched (K : PySem.W.Frag) : Sp := fun vs H Q _ => ∃ (v : V) (o s : Addr) (z : Str) (n k : Nat) (ps : List Str) (rs : List (Str × Str)) (ds : List PyData) (ord : List Str) (t : List Nat), vs = [v, .ref o, .ref s, .str z, .int n] ∧ HF K H v k ps rs ds ∧ IsHall k ps rs ds ∧ SqT K H o (ord.map V.str) ∧ ord.Perm ps ∧ SqT K H s (natsV t) ∧ t.length = ps.length ∧ (∀ x ∈ t, x < k) ∧ z ∈ ps ∧ n ≤ 500 ∧
  ∀ T H', Same H H' → SqT K H' T (natsV ((storyL k ps rs ds ord t n).map fun u => u.getD (ps.idxOf z) 0)) → Q (.ref T) H'
def spNearO (K : PySem.W.Frag) : Sp := fun vs H Q _ => ∃ (a o : Addr) (qs : List Str) (c : Int), vs = [.ref a, .ref o] ∧ Fd H a c ∧ c < 10 ^ 12 ∧ SqT K H o (qs.map V.str) ∧ 1 ≤ qs.length ∧ qs.length ≤ 8 ∧ ∀ (T : Addr) (os : List Str) (H' : Hp), os.Perm qs → SqT K H' T (os.map V.str) → Fd H' a (c + 2000) → Ch a H H' → Q (.ref T) H'
def spLFirst (K : PySem.W.Frag) (P : Program) (w : World) : Sp := fun vs H Q _ => ∃ (D1 D2 s : Addr) (L1 L2 : StL) (m k : Nat) (ps : List Str) (rs : List (Str × Str)) (ds : List PyData) (qs os : List Str) (t : List Nat), vs = [.ref D1, .ref D2, .ref s, .int m] ∧ m ≤ 256 ∧ H D1 = some (DtO P w D1 L1) ∧ KeysT K H L1 ∧ DayV K H k ps rs ds qs L1 ∧ H D2 = some (DtO P w D2 L2) ∧ KeysT K H L2 ∧ DayV K H k ps rs ds os L2 ∧ IsHall k ps rs ds ∧ (∀ z ∈ qs, z ∈ ps) ∧ (∀ z ∈ os, z ∈ ps) ∧ SqT K H s (natsV t) ∧ t.length = ps.length ∧ (∀ x ∈ t, x < k) ∧
  ∀ r, IsUn k ps rs ds qs os t m r → Q (optV r) H
theorem nats_snocW (l : List Nat) (m : Nat) : natsV (l ++ [m]) = natsV l ++ [.int (m : Nat)] := List.map_append ..
theorem num_one {k n : Nat} {t u : List Nat} (ht : t.length = n) (hu : u.length = n) (kt : ∀ x ∈ t, x < k) (ku : ∀ x ∈ u, x < k) (e : numN k t = numN k u) : t = u := by
  rw [← st_of ht kt, ← st_of hu ku, e]
section
variable {base : Heap} {P : Program} {w : World} {K : PySem.W.Frag} {mg : Str → Option Value}
theorem ok_law_days3 (D : Dn K mg "_law_days" s__law_days ["_law_hall_here", "_law_order_here"]) (B : Bn mg) (Bd : mg "dict" = none) (C__law_states : Cl P w K mg base 1 "_law_states" ["_law_hall_here"] (spEvery K)) (C__law_day : Cl P w K mg base 4 "_law_day" ["_law_hall_here", "_law_order_here", "_law_state_here"] (spPassed K)) : Cl P w K mg base 5 "_law_days" ["_law_hall_here", "_law_order_here"] (spDaysT3 K P w) := by
  refine D.cl sc__law_days (fun vs H Q E h => ?_) (fun f cdv A outer s H vs Q E hr h => ?_)
  · obtain ⟨v, o, k, ps, rs, ds, ord, rfl, _⟩ := h
    rfl
  · obtain ⟨v, o, k, ps, rs, ds, ord, rfl, hh, hH, so, pm, q⟩ := h
    have hslen := states_len k ps.length
    have hfew := hH.few
    refine ⟨_, (pss_one (ps_ret (pe_callTy (k_dictT2 (K := K) (P := P) (w := w) hr.units) rfl Bd (by decide +kernel) (pa_cons (pe_lc (own := [("_law_state_here", 2)]) rfl sc__law_days.nd (kpi_list (K := K) (pe_c C__law_states hr (pa_cons (pv 0) pa_nil))) (blkOk_by (N := ["_law_hall_here", "_law_order_here", "_law_state_here"]) (sc := defScope s__law_days) (by decide +kernel)) (fun _ _ _ _ _ => (pg_name (i := 2) sc__law_days.nd rfl (by first | exact Or.inl rfl | exact Or.inr rfl))) (fun _ _ _ _ _ => pts_nil) (fun _ _ _ _ _ => (pe_tup (pa_cons (pv 2) (pa_cons (pe_c C__law_day hr (pa_cons (pv 0) (pa_cons (pv 1) (pa_cons (pv 2) pa_nil)))) pa_nil))))) pa_nil)))), ?_⟩
    repeat' (walk_at "jv")
    refine ⟨v, k, ps, rs, ds, rfl, hh.dp, hH, fun S H1 k1 nS lS => ?_⟩
    obtain ⟨vs, eS, dS, tS⟩ := lS
    have hvl : vs.length = k ^ ps.length := by rw [DpAll.len dS, List.length_map, states_len]
    have hh1 := hh.same k1
    have so1 := TK.same (K := K) k1 _ _ so
    repeat' (walk_at "jv")
    refine c_list vs (fun D i H' => H1 D = none ∧ Same H1 H' ∧ ∃ (Ts : List Addr) (L : StL), H' D = some (.lst (Ts.map V.ref)) ∧ PairsT K H' Ts L ∧ L.map (·.1) = (statesL k ps.length).take i ∧ ∀ l ∈ L, ∃ b, l.2.2 = .ref b ∧ SqT K H' b (natsV (dayN k ps rs ds l.1 ord)))
      (fun D nD => ⟨nD, Same.upd_new nD, [], [], upd_same, .nil, rfl, fun l hl => nomatch hl⟩) (fun D i H' _ h => sq_lst (h.2.1 _ _ eS)) (fun D i x H' hx h => ?_) (fun D H2 h => ?_)
    · obtain ⟨nD, kD, Ts, L, eD, pL, eK, vL⟩ := h
      have hi2 : i < (statesL k ps.length).length := by
        have := (List.getElem?_eq_some_iff.mp hx).1
        omega
      obtain ⟨d2, hd2, dx2⟩ := DpAll.get (DpAll.same kD _ _ dS) hx
      rw [List.getElem?_map, List.getElem?_eq_getElem hi2] at hd2
      obtain rfl : intsD (statesL k ps.length)[i] = d2 := Option.some.inj hd2
      have et : (statesL k ps.length).take (i + 1) = (statesL k ps.length).take i ++ [(statesL k ps.length)[i]] := by
        rw [List.take_add_one, List.getElem?_eq_getElem hi2]
        rfl
      have hok := states_ok k _ _ (List.getElem_mem hi2)
      generalize (statesL k ps.length)[i] = t at *
      obtain ⟨b, us3, rfl, sb, db⟩ := tup_parts (ds := t.map fun n => PyData.int ((n : Nat) : Int)) dx2
      have := nats_of _ us3 db
      subst this
      have hTl : Ts.length = L.length := pL.length
      have hLl : L.length ≤ 256 := by
        have := congrArg List.length eK
        rw [List.length_map, List.length_take] at this
        omega
      repeat' (walk_at "jv")
      refine ⟨v, o, b, ord, k, ps, rs, ds, t, rfl, hh1.same kD, hH, TK.same kD _ _ so1, pm, sb, hok.1, hok.2, fun pD H3 k3 sD => ?_⟩
      have eD3 := k3 _ _ eD
      have sb3 := TK.same (K := K) k3 _ _ sb
      repeat' (walk_at "jv")
      intro T nT
      have eD4 : (upd H3 T (.tup [.ref b, .ref pD])) D = some (.lst (Ts.map V.ref)) := (upd_ne (ne_of_none eD3 nT)).trans eD3
      have tkA : TK K H' (upd H3 T (.tup [.ref b, .ref pD])) := (TK.same k3).trans (TK.new nT)
      refine i_lcE eD4 (by rw [List.length_map, sizeLine_eq]; omega) ?_
      have tkB := tkA.trans (TK.lst (o := .lst (Ts.map V.ref ++ [.ref T])) eD4)
      refine ⟨nD, fun c oc z => ?_, Ts ++ [T], L ++ [(t, b, .ref pD)], ?_, ?_, by rw [List.map_append, eK, et]; rfl, fun l hl => ?_⟩
      · have z' := (kD.trans k3) _ _ z
        rw [upd_ne (ne_of_none z nD), upd_ne (ne_of_none z' nT)]
        exact z'
      · rw [List.map_append]
        exact upd_same
      · refine Paired.snoc (pL.tk tkB) ⟨?_, ?_⟩
        · exact (TK.lst eD4) _ _ (sq_tup upd_same)
        · exact tkB _ _ sb
      · rcases List.mem_append.mp hl with hl | hl
        · obtain ⟨c, e1, s1⟩ := vL l hl
          exact ⟨c, e1, tkB _ _ s1⟩
        · rcases List.mem_singleton.mp hl with rfl
          exact ⟨pD, rfl, (TK.lst eD4) _ _ (TK.new nT _ _ sD)⟩
    · obtain ⟨nD, kD, Ts, L, eD, pL, eK, vL⟩ := h
      rw [List.take_of_length_le (by omega)] at eK
      repeat' (walk_at "jv")
      refine ⟨D, Ts, L, rfl, sq_lst eD, pL, by rw [eK]; exact states_nodup k _, ?_, fun DD ys nDD => ?_⟩
      · have := congrArg List.length eK
        rw [List.length_map] at this
        omega
      have k2 := Same.upd_new (o := DtO P w DD L) nDD
      refine q DD L _ ((k1.trans kD).trans k2) (free_same (k1.trans kD) nDD) upd_same ys eK (pL.keys.tk (TK.same k2)) fun t h1 h2 => ?_
      have hm : t ∈ L.map (·.1) := by
        rw [eK]
        exact List.mem_of_getElem? (st_num h1 h2)
      obtain ⟨l, hl, e1, e2⟩ := look_mem hm
      obtain ⟨b, e3, s3⟩ := vL l hl
      subst e1
      exact ⟨b, by rw [e2, e3], TK.same k2 _ _ s3⟩
theorem ok_firstG (D : Dn K mg "first_unlike_day" s_first_unlike_day ["hall", "order", "other", "state"]) (B : Bn mg) (C_need_day : Cl P w K mg base 9 "need_day" ["hall", "order"] (spNeedDay K)) (C_need_order : Cl P w K mg base 3 "need_order" ["web", "order"] (spNeedOrder K)) (C_need_state : Cl P w K mg base 4 "need_state" ["hall", "state"] (spNeedState K)) (C_day_list : Cl P w K mg base 6 "day_list" ["hall", "order"] (spDayListN K)) (C_state_number : Cl P w K mg base 1 "state_number" ["hall", "state"] (spStateNum K)) : Cl P w K mg base 10 "first_unlike_day" ["hall", "order", "other", "state"] (spFirstG K) := by
  refine D.cl sc_first_unlike_day (fun vs H Q E h => ?_) (fun f cdv A outer s H vs Q E hr h => ?_)
  · obtain ⟨v, o, o2, st, k, ps, rs, ds, qs, os, t, rfl, _⟩ := h
    rfl
  · obtain ⟨v, o, o2, st, k, ps, rs, ds, qs, os, t, rfl, hh, hH, so, pm, so2, pm2, sb, tl, tk, q⟩ := h
    have hfew := hH.few
    have mq : ∀ z ∈ qs, z ∈ ps := fun z hz => pm.mem_iff.mp hz
    have mo : ∀ z ∈ os, z ∈ ps := fun z hz => pm2.mem_iff.mp hz
    obtain ⟨ta, T0, wv, rfl, sh, hw, dT, uT⟩ := id hh
    clear dT uT
    refine ⟨_, (pss_cons (ps_expr (pe_c C_need_day hr (pa_cons (pv 0) (pa_cons (pv 1) pa_nil))))
      (pss_cons (ps_expr (pe_c C_need_order hr (pa_cons (pe_ix (k_ixT (K := K)) (pv 0) pe_int (fun _ _ => rfl)) (pa_cons (pv 2) pa_nil))))
      (pss_cons (ps_expr (pe_c C_need_state hr (pa_cons (pv 0) (pa_cons (pv 3) pa_nil))))
      (pss_cons (ps_par (i := 4) (j := 5) rfl sc_first_unlike_day.nd rfl rfl (by decide) rfl rfl (pa_cons (pe_c C_day_list hr (pa_cons (pv 0) (pa_cons (pv 1) pa_nil))) (pa_cons (pe_c C_day_list hr (pa_cons (pv 0) (pa_cons (pv 2) pa_nil))) pa_nil)) (by rfl))
      (pss_cons (ps_set (i := 6) sc_first_unlike_day.nd rfl (by first | exact Or.inl rfl | exact Or.inr rfl) (pe_c C_state_number hr (pa_cons (pv 0) (pa_cons (pv 3) pa_nil))))
      (pss_cons (ps_for PassesOwn.never rfl (pi_range2 rfl B.range_ (pa_cons pe_int (pa_cons (pe_op op_add (pe_callB (k_len (K := K)) rfl B.len_ (by decide +kernel) (pa_cons (pv 4) pa_nil)) pe_int) pa_nil))) (pg_name (i := 7) sc_first_unlike_day.nd rfl (by first | exact Or.inl rfl | exact Or.inr rfl)) (pss_cons (ps_if (pt_cmpR op_ne (pe_ix (k_ixL (K := K)) (pv 4) (pv 6) (fun _ _ => rfl)) (pe_ix (k_ixL (K := K)) (pv 5) (pv 6) (fun _ _ => rfl)) (nomark _)) (pss_one (ps_ret (pv 7))) pss_nil)
      (pss_one (ps_set (i := 6) sc_first_unlike_day.nd rfl (by first | exact Or.inl rfl | exact Or.inr rfl) (pe_ix (k_ixL (K := K)) (pv 4) (pv 6) (fun _ _ => rfl))))))
      (pss_one (ps_ret pe_non)))))))), ?_⟩
    repeat' (walk_at "jv")
    refine ⟨.ref ta, o, qs, k, ps, rs, ds, rfl, hh.dp, hH, so, pm, fun H1 k1 => ?_⟩
    first | replace hh := HF.same hh k1 | replace hh := WF.same hh k1 | replace hh := FT.same hh k1 | replace hh := Fd.same hh k1 | replace hh := LsD.same hh k1 | replace hh := TK.same k1 _ _ hh | replace hh := KeysT.tk hh (TK.same k1) | replace hh := KeysU.tk hh (TK.same k1) | replace hh := KeysN.tk hh (TK.same k1) | replace hh := DayV.tk hh (TK.same k1) | replace hh := Dp.same k1 _ _ hh | replace hh := DpAll.same k1 _ _ hh | replace hh := k1 _ _ hh | replace hh := Ch.trans hh (Ch.of_same k1) | replace hh := Same.trans hh k1 | replace hh := stepsAt.same hh k1 | replace hh := DpT.same hh k1 | replace hh := LOr.same hh k1 | replace hh := Ob.same hh k1 | replace hh := Gds.same hh k1 | replace hh := Gd2.same hh k1 | replace hh := Ob2.same hh k1 | replace hh := NE.same hh k1 | replace hh := NT.same hh k1 | replace hh := NEs.same hh k1 | replace hh := NX.same hh k1 | replace hh := EMs.same hh k1 | replace hh := EOs.same hh k1 | replace hh := EO.same hh k1 | replace hh := GT.same hh k1 | replace hh := GTs.same hh k1 | replace hh := RB.same hh k1 | replace hh := RBs.same hh k1 | replace hh := RB2s.same hh k1 | replace hh := GR.same hh k1 | replace hh := GRs.same hh k1 | replace hh := NO.same hh k1 | replace hh := NOs.same hh k1 | replace hh := NZ.same hh k1 | replace hh := NB.same hh k1 | replace hh := NBs.same hh k1 | replace hh := NQ.same hh k1 | replace hh := NQs.same hh k1 | replace hh := NX'.same hh k1
    first | replace so := HF.same so k1 | replace so := WF.same so k1 | replace so := FT.same so k1 | replace so := Fd.same so k1 | replace so := LsD.same so k1 | replace so := TK.same k1 _ _ so | replace so := KeysT.tk so (TK.same k1) | replace so := KeysU.tk so (TK.same k1) | replace so := KeysN.tk so (TK.same k1) | replace so := DayV.tk so (TK.same k1) | replace so := Dp.same k1 _ _ so | replace so := DpAll.same k1 _ _ so | replace so := k1 _ _ so | replace so := Ch.trans so (Ch.of_same k1) | replace so := Same.trans so k1 | replace so := stepsAt.same so k1 | replace so := DpT.same so k1 | replace so := LOr.same so k1 | replace so := Ob.same so k1 | replace so := Gds.same so k1 | replace so := Gd2.same so k1 | replace so := Ob2.same so k1 | replace so := NE.same so k1 | replace so := NT.same so k1 | replace so := NEs.same so k1 | replace so := NX.same so k1 | replace so := EMs.same so k1 | replace so := EOs.same so k1 | replace so := EO.same so k1 | replace so := GT.same so k1 | replace so := GTs.same so k1 | replace so := RB.same so k1 | replace so := RBs.same so k1 | replace so := RB2s.same so k1 | replace so := GR.same so k1 | replace so := GRs.same so k1 | replace so := NO.same so k1 | replace so := NOs.same so k1 | replace so := NZ.same so k1 | replace so := NB.same so k1 | replace so := NBs.same so k1 | replace so := NQ.same so k1 | replace so := NQs.same so k1 | replace so := NX'.same so k1
    first | replace so2 := HF.same so2 k1 | replace so2 := WF.same so2 k1 | replace so2 := FT.same so2 k1 | replace so2 := Fd.same so2 k1 | replace so2 := LsD.same so2 k1 | replace so2 := TK.same k1 _ _ so2 | replace so2 := KeysT.tk so2 (TK.same k1) | replace so2 := KeysU.tk so2 (TK.same k1) | replace so2 := KeysN.tk so2 (TK.same k1) | replace so2 := DayV.tk so2 (TK.same k1) | replace so2 := Dp.same k1 _ _ so2 | replace so2 := DpAll.same k1 _ _ so2 | replace so2 := k1 _ _ so2 | replace so2 := Ch.trans so2 (Ch.of_same k1) | replace so2 := Same.trans so2 k1 | replace so2 := stepsAt.same so2 k1 | replace so2 := DpT.same so2 k1 | replace so2 := LOr.same so2 k1 | replace so2 := Ob.same so2 k1 | replace so2 := Gds.same so2 k1 | replace so2 := Gd2.same so2 k1 | replace so2 := Ob2.same so2 k1 | replace so2 := NE.same so2 k1 | replace so2 := NT.same so2 k1 | replace so2 := NEs.same so2 k1 | replace so2 := NX.same so2 k1 | replace so2 := EMs.same so2 k1 | replace so2 := EOs.same so2 k1 | replace so2 := EO.same so2 k1 | replace so2 := GT.same so2 k1 | replace so2 := GTs.same so2 k1 | replace so2 := RB.same so2 k1 | replace so2 := RBs.same so2 k1 | replace so2 := RB2s.same so2 k1 | replace so2 := GR.same so2 k1 | replace so2 := GRs.same so2 k1 | replace so2 := NO.same so2 k1 | replace so2 := NOs.same so2 k1 | replace so2 := NZ.same so2 k1 | replace so2 := NB.same so2 k1 | replace so2 := NBs.same so2 k1 | replace so2 := NQ.same so2 k1 | replace so2 := NQs.same so2 k1 | replace so2 := NX'.same so2 k1
    first | replace sb := HF.same sb k1 | replace sb := WF.same sb k1 | replace sb := FT.same sb k1 | replace sb := Fd.same sb k1 | replace sb := LsD.same sb k1 | replace sb := TK.same k1 _ _ sb | replace sb := KeysT.tk sb (TK.same k1) | replace sb := KeysU.tk sb (TK.same k1) | replace sb := KeysN.tk sb (TK.same k1) | replace sb := DayV.tk sb (TK.same k1) | replace sb := Dp.same k1 _ _ sb | replace sb := DpAll.same k1 _ _ sb | replace sb := k1 _ _ sb | replace sb := Ch.trans sb (Ch.of_same k1) | replace sb := Same.trans sb k1 | replace sb := stepsAt.same sb k1 | replace sb := DpT.same sb k1 | replace sb := LOr.same sb k1 | replace sb := Ob.same sb k1 | replace sb := Gds.same sb k1 | replace sb := Gd2.same sb k1 | replace sb := Ob2.same sb k1 | replace sb := NE.same sb k1 | replace sb := NT.same sb k1 | replace sb := NEs.same sb k1 | replace sb := NX.same sb k1 | replace sb := EMs.same sb k1 | replace sb := EOs.same sb k1 | replace sb := EO.same sb k1 | replace sb := GT.same sb k1 | replace sb := GTs.same sb k1 | replace sb := RB.same sb k1 | replace sb := RBs.same sb k1 | replace sb := RB2s.same sb k1 | replace sb := GR.same sb k1 | replace sb := GRs.same sb k1 | replace sb := NO.same sb k1 | replace sb := NOs.same sb k1 | replace sb := NZ.same sb k1 | replace sb := NB.same sb k1 | replace sb := NBs.same sb k1 | replace sb := NQ.same sb k1 | replace sb := NQs.same sb k1 | replace sb := NX'.same sb k1
    first | replace sh := HF.same sh k1 | replace sh := WF.same sh k1 | replace sh := FT.same sh k1 | replace sh := Fd.same sh k1 | replace sh := LsD.same sh k1 | replace sh := TK.same k1 _ _ sh | replace sh := KeysT.tk sh (TK.same k1) | replace sh := KeysU.tk sh (TK.same k1) | replace sh := KeysN.tk sh (TK.same k1) | replace sh := DayV.tk sh (TK.same k1) | replace sh := Dp.same k1 _ _ sh | replace sh := DpAll.same k1 _ _ sh | replace sh := k1 _ _ sh | replace sh := Ch.trans sh (Ch.of_same k1) | replace sh := Same.trans sh k1 | replace sh := stepsAt.same sh k1 | replace sh := DpT.same sh k1 | replace sh := LOr.same sh k1 | replace sh := Ob.same sh k1 | replace sh := Gds.same sh k1 | replace sh := Gd2.same sh k1 | replace sh := Ob2.same sh k1 | replace sh := NE.same sh k1 | replace sh := NT.same sh k1 | replace sh := NEs.same sh k1 | replace sh := NX.same sh k1 | replace sh := EMs.same sh k1 | replace sh := EOs.same sh k1 | replace sh := EO.same sh k1 | replace sh := GT.same sh k1 | replace sh := GTs.same sh k1 | replace sh := RB.same sh k1 | replace sh := RBs.same sh k1 | replace sh := RB2s.same sh k1 | replace sh := GR.same sh k1 | replace sh := GRs.same sh k1 | replace sh := NO.same sh k1 | replace sh := NOs.same sh k1 | replace sh := NZ.same sh k1 | replace sh := NB.same sh k1 | replace sh := NBs.same sh k1 | replace sh := NQ.same sh k1 | replace sh := NQs.same sh k1 | replace sh := NX'.same sh k1
    first | replace hw := HF.same hw k1 | replace hw := WF.same hw k1 | replace hw := FT.same hw k1 | replace hw := Fd.same hw k1 | replace hw := LsD.same hw k1 | replace hw := TK.same k1 _ _ hw | replace hw := KeysT.tk hw (TK.same k1) | replace hw := KeysU.tk hw (TK.same k1) | replace hw := KeysN.tk hw (TK.same k1) | replace hw := DayV.tk hw (TK.same k1) | replace hw := Dp.same k1 _ _ hw | replace hw := DpAll.same k1 _ _ hw | replace hw := k1 _ _ hw | replace hw := Ch.trans hw (Ch.of_same k1) | replace hw := Same.trans hw k1 | replace hw := stepsAt.same hw k1 | replace hw := DpT.same hw k1 | replace hw := LOr.same hw k1 | replace hw := Ob.same hw k1 | replace hw := Gds.same hw k1 | replace hw := Gd2.same hw k1 | replace hw := Ob2.same hw k1 | replace hw := NE.same hw k1 | replace hw := NT.same hw k1 | replace hw := NEs.same hw k1 | replace hw := NX.same hw k1 | replace hw := EMs.same hw k1 | replace hw := EOs.same hw k1 | replace hw := EO.same hw k1 | replace hw := GT.same hw k1 | replace hw := GTs.same hw k1 | replace hw := RB.same hw k1 | replace hw := RBs.same hw k1 | replace hw := RB2s.same hw k1 | replace hw := GR.same hw k1 | replace hw := GRs.same hw k1 | replace hw := NO.same hw k1 | replace hw := NOs.same hw k1 | replace hw := NZ.same hw k1 | replace hw := NB.same hw k1 | replace hw := NBs.same hw k1 | replace hw := NQ.same hw k1 | replace hw := NQs.same hw k1 | replace hw := NX'.same hw k1
    repeat' (walk_at "jv")
    refine ⟨wv, o2, os, ps, rs, rfl, hw.dp, hH.web, so2, pm2, fun H2 k2 => ?_⟩
    first | replace hh := HF.same hh k2 | replace hh := WF.same hh k2 | replace hh := FT.same hh k2 | replace hh := Fd.same hh k2 | replace hh := LsD.same hh k2 | replace hh := TK.same k2 _ _ hh | replace hh := KeysT.tk hh (TK.same k2) | replace hh := KeysU.tk hh (TK.same k2) | replace hh := KeysN.tk hh (TK.same k2) | replace hh := DayV.tk hh (TK.same k2) | replace hh := Dp.same k2 _ _ hh | replace hh := DpAll.same k2 _ _ hh | replace hh := k2 _ _ hh | replace hh := Ch.trans hh (Ch.of_same k2) | replace hh := Same.trans hh k2 | replace hh := stepsAt.same hh k2 | replace hh := DpT.same hh k2 | replace hh := LOr.same hh k2 | replace hh := Ob.same hh k2 | replace hh := Gds.same hh k2 | replace hh := Gd2.same hh k2 | replace hh := Ob2.same hh k2 | replace hh := NE.same hh k2 | replace hh := NT.same hh k2 | replace hh := NEs.same hh k2 | replace hh := NX.same hh k2 | replace hh := EMs.same hh k2 | replace hh := EOs.same hh k2 | replace hh := EO.same hh k2 | replace hh := GT.same hh k2 | replace hh := GTs.same hh k2 | replace hh := RB.same hh k2 | replace hh := RBs.same hh k2 | replace hh := RB2s.same hh k2 | replace hh := GR.same hh k2 | replace hh := GRs.same hh k2 | replace hh := NO.same hh k2 | replace hh := NOs.same hh k2 | replace hh := NZ.same hh k2 | replace hh := NB.same hh k2 | replace hh := NBs.same hh k2 | replace hh := NQ.same hh k2 | replace hh := NQs.same hh k2 | replace hh := NX'.same hh k2
    first | replace so := HF.same so k2 | replace so := WF.same so k2 | replace so := FT.same so k2 | replace so := Fd.same so k2 | replace so := LsD.same so k2 | replace so := TK.same k2 _ _ so | replace so := KeysT.tk so (TK.same k2) | replace so := KeysU.tk so (TK.same k2) | replace so := KeysN.tk so (TK.same k2) | replace so := DayV.tk so (TK.same k2) | replace so := Dp.same k2 _ _ so | replace so := DpAll.same k2 _ _ so | replace so := k2 _ _ so | replace so := Ch.trans so (Ch.of_same k2) | replace so := Same.trans so k2 | replace so := stepsAt.same so k2 | replace so := DpT.same so k2 | replace so := LOr.same so k2 | replace so := Ob.same so k2 | replace so := Gds.same so k2 | replace so := Gd2.same so k2 | replace so := Ob2.same so k2 | replace so := NE.same so k2 | replace so := NT.same so k2 | replace so := NEs.same so k2 | replace so := NX.same so k2 | replace so := EMs.same so k2 | replace so := EOs.same so k2 | replace so := EO.same so k2 | replace so := GT.same so k2 | replace so := GTs.same so k2 | replace so := RB.same so k2 | replace so := RBs.same so k2 | replace so := RB2s.same so k2 | replace so := GR.same so k2 | replace so := GRs.same so k2 | replace so := NO.same so k2 | replace so := NOs.same so k2 | replace so := NZ.same so k2 | replace so := NB.same so k2 | replace so := NBs.same so k2 | replace so := NQ.same so k2 | replace so := NQs.same so k2 | replace so := NX'.same so k2
    first | replace so2 := HF.same so2 k2 | replace so2 := WF.same so2 k2 | replace so2 := FT.same so2 k2 | replace so2 := Fd.same so2 k2 | replace so2 := LsD.same so2 k2 | replace so2 := TK.same k2 _ _ so2 | replace so2 := KeysT.tk so2 (TK.same k2) | replace so2 := KeysU.tk so2 (TK.same k2) | replace so2 := KeysN.tk so2 (TK.same k2) | replace so2 := DayV.tk so2 (TK.same k2) | replace so2 := Dp.same k2 _ _ so2 | replace so2 := DpAll.same k2 _ _ so2 | replace so2 := k2 _ _ so2 | replace so2 := Ch.trans so2 (Ch.of_same k2) | replace so2 := Same.trans so2 k2 | replace so2 := stepsAt.same so2 k2 | replace so2 := DpT.same so2 k2 | replace so2 := LOr.same so2 k2 | replace so2 := Ob.same so2 k2 | replace so2 := Gds.same so2 k2 | replace so2 := Gd2.same so2 k2 | replace so2 := Ob2.same so2 k2 | replace so2 := NE.same so2 k2 | replace so2 := NT.same so2 k2 | replace so2 := NEs.same so2 k2 | replace so2 := NX.same so2 k2 | replace so2 := EMs.same so2 k2 | replace so2 := EOs.same so2 k2 | replace so2 := EO.same so2 k2 | replace so2 := GT.same so2 k2 | replace so2 := GTs.same so2 k2 | replace so2 := RB.same so2 k2 | replace so2 := RBs.same so2 k2 | replace so2 := RB2s.same so2 k2 | replace so2 := GR.same so2 k2 | replace so2 := GRs.same so2 k2 | replace so2 := NO.same so2 k2 | replace so2 := NOs.same so2 k2 | replace so2 := NZ.same so2 k2 | replace so2 := NB.same so2 k2 | replace so2 := NBs.same so2 k2 | replace so2 := NQ.same so2 k2 | replace so2 := NQs.same so2 k2 | replace so2 := NX'.same so2 k2
    first | replace sb := HF.same sb k2 | replace sb := WF.same sb k2 | replace sb := FT.same sb k2 | replace sb := Fd.same sb k2 | replace sb := LsD.same sb k2 | replace sb := TK.same k2 _ _ sb | replace sb := KeysT.tk sb (TK.same k2) | replace sb := KeysU.tk sb (TK.same k2) | replace sb := KeysN.tk sb (TK.same k2) | replace sb := DayV.tk sb (TK.same k2) | replace sb := Dp.same k2 _ _ sb | replace sb := DpAll.same k2 _ _ sb | replace sb := k2 _ _ sb | replace sb := Ch.trans sb (Ch.of_same k2) | replace sb := Same.trans sb k2 | replace sb := stepsAt.same sb k2 | replace sb := DpT.same sb k2 | replace sb := LOr.same sb k2 | replace sb := Ob.same sb k2 | replace sb := Gds.same sb k2 | replace sb := Gd2.same sb k2 | replace sb := Ob2.same sb k2 | replace sb := NE.same sb k2 | replace sb := NT.same sb k2 | replace sb := NEs.same sb k2 | replace sb := NX.same sb k2 | replace sb := EMs.same sb k2 | replace sb := EOs.same sb k2 | replace sb := EO.same sb k2 | replace sb := GT.same sb k2 | replace sb := GTs.same sb k2 | replace sb := RB.same sb k2 | replace sb := RBs.same sb k2 | replace sb := RB2s.same sb k2 | replace sb := GR.same sb k2 | replace sb := GRs.same sb k2 | replace sb := NO.same sb k2 | replace sb := NOs.same sb k2 | replace sb := NZ.same sb k2 | replace sb := NB.same sb k2 | replace sb := NBs.same sb k2 | replace sb := NQ.same sb k2 | replace sb := NQs.same sb k2 | replace sb := NX'.same sb k2
    first | replace k1 := HF.same k1 k2 | replace k1 := WF.same k1 k2 | replace k1 := FT.same k1 k2 | replace k1 := Fd.same k1 k2 | replace k1 := LsD.same k1 k2 | replace k1 := TK.same k2 _ _ k1 | replace k1 := KeysT.tk k1 (TK.same k2) | replace k1 := KeysU.tk k1 (TK.same k2) | replace k1 := KeysN.tk k1 (TK.same k2) | replace k1 := DayV.tk k1 (TK.same k2) | replace k1 := Dp.same k2 _ _ k1 | replace k1 := DpAll.same k2 _ _ k1 | replace k1 := k2 _ _ k1 | replace k1 := Ch.trans k1 (Ch.of_same k2) | replace k1 := Same.trans k1 k2 | replace k1 := stepsAt.same k1 k2 | replace k1 := DpT.same k1 k2 | replace k1 := LOr.same k1 k2 | replace k1 := Ob.same k1 k2 | replace k1 := Gds.same k1 k2 | replace k1 := Gd2.same k1 k2 | replace k1 := Ob2.same k1 k2 | replace k1 := NE.same k1 k2 | replace k1 := NT.same k1 k2 | replace k1 := NEs.same k1 k2 | replace k1 := NX.same k1 k2 | replace k1 := EMs.same k1 k2 | replace k1 := EOs.same k1 k2 | replace k1 := EO.same k1 k2 | replace k1 := GT.same k1 k2 | replace k1 := GTs.same k1 k2 | replace k1 := RB.same k1 k2 | replace k1 := RBs.same k1 k2 | replace k1 := RB2s.same k1 k2 | replace k1 := GR.same k1 k2 | replace k1 := GRs.same k1 k2 | replace k1 := NO.same k1 k2 | replace k1 := NOs.same k1 k2 | replace k1 := NZ.same k1 k2 | replace k1 := NB.same k1 k2 | replace k1 := NBs.same k1 k2 | replace k1 := NQ.same k1 k2 | replace k1 := NQs.same k1 k2 | replace k1 := NX'.same k1 k2
    repeat' (walk_at "jv")
    refine ⟨.ref ta, st, k, ps, rs, ds, t, rfl, hh.dp, hH, sb, tl, tk, fun H3 k3 => ?_⟩
    first | replace hh := HF.same hh k3 | replace hh := WF.same hh k3 | replace hh := FT.same hh k3 | replace hh := Fd.same hh k3 | replace hh := LsD.same hh k3 | replace hh := TK.same k3 _ _ hh | replace hh := KeysT.tk hh (TK.same k3) | replace hh := KeysU.tk hh (TK.same k3) | replace hh := KeysN.tk hh (TK.same k3) | replace hh := DayV.tk hh (TK.same k3) | replace hh := Dp.same k3 _ _ hh | replace hh := DpAll.same k3 _ _ hh | replace hh := k3 _ _ hh | replace hh := Ch.trans hh (Ch.of_same k3) | replace hh := Same.trans hh k3 | replace hh := stepsAt.same hh k3 | replace hh := DpT.same hh k3 | replace hh := LOr.same hh k3 | replace hh := Ob.same hh k3 | replace hh := Gds.same hh k3 | replace hh := Gd2.same hh k3 | replace hh := Ob2.same hh k3 | replace hh := NE.same hh k3 | replace hh := NT.same hh k3 | replace hh := NEs.same hh k3 | replace hh := NX.same hh k3 | replace hh := EMs.same hh k3 | replace hh := EOs.same hh k3 | replace hh := EO.same hh k3 | replace hh := GT.same hh k3 | replace hh := GTs.same hh k3 | replace hh := RB.same hh k3 | replace hh := RBs.same hh k3 | replace hh := RB2s.same hh k3 | replace hh := GR.same hh k3 | replace hh := GRs.same hh k3 | replace hh := NO.same hh k3 | replace hh := NOs.same hh k3 | replace hh := NZ.same hh k3 | replace hh := NB.same hh k3 | replace hh := NBs.same hh k3 | replace hh := NQ.same hh k3 | replace hh := NQs.same hh k3 | replace hh := NX'.same hh k3
    first | replace so := HF.same so k3 | replace so := WF.same so k3 | replace so := FT.same so k3 | replace so := Fd.same so k3 | replace so := LsD.same so k3 | replace so := TK.same k3 _ _ so | replace so := KeysT.tk so (TK.same k3) | replace so := KeysU.tk so (TK.same k3) | replace so := KeysN.tk so (TK.same k3) | replace so := DayV.tk so (TK.same k3) | replace so := Dp.same k3 _ _ so | replace so := DpAll.same k3 _ _ so | replace so := k3 _ _ so | replace so := Ch.trans so (Ch.of_same k3) | replace so := Same.trans so k3 | replace so := stepsAt.same so k3 | replace so := DpT.same so k3 | replace so := LOr.same so k3 | replace so := Ob.same so k3 | replace so := Gds.same so k3 | replace so := Gd2.same so k3 | replace so := Ob2.same so k3 | replace so := NE.same so k3 | replace so := NT.same so k3 | replace so := NEs.same so k3 | replace so := NX.same so k3 | replace so := EMs.same so k3 | replace so := EOs.same so k3 | replace so := EO.same so k3 | replace so := GT.same so k3 | replace so := GTs.same so k3 | replace so := RB.same so k3 | replace so := RBs.same so k3 | replace so := RB2s.same so k3 | replace so := GR.same so k3 | replace so := GRs.same so k3 | replace so := NO.same so k3 | replace so := NOs.same so k3 | replace so := NZ.same so k3 | replace so := NB.same so k3 | replace so := NBs.same so k3 | replace so := NQ.same so k3 | replace so := NQs.same so k3 | replace so := NX'.same so k3
    first | replace so2 := HF.same so2 k3 | replace so2 := WF.same so2 k3 | replace so2 := FT.same so2 k3 | replace so2 := Fd.same so2 k3 | replace so2 := LsD.same so2 k3 | replace so2 := TK.same k3 _ _ so2 | replace so2 := KeysT.tk so2 (TK.same k3) | replace so2 := KeysU.tk so2 (TK.same k3) | replace so2 := KeysN.tk so2 (TK.same k3) | replace so2 := DayV.tk so2 (TK.same k3) | replace so2 := Dp.same k3 _ _ so2 | replace so2 := DpAll.same k3 _ _ so2 | replace so2 := k3 _ _ so2 | replace so2 := Ch.trans so2 (Ch.of_same k3) | replace so2 := Same.trans so2 k3 | replace so2 := stepsAt.same so2 k3 | replace so2 := DpT.same so2 k3 | replace so2 := LOr.same so2 k3 | replace so2 := Ob.same so2 k3 | replace so2 := Gds.same so2 k3 | replace so2 := Gd2.same so2 k3 | replace so2 := Ob2.same so2 k3 | replace so2 := NE.same so2 k3 | replace so2 := NT.same so2 k3 | replace so2 := NEs.same so2 k3 | replace so2 := NX.same so2 k3 | replace so2 := EMs.same so2 k3 | replace so2 := EOs.same so2 k3 | replace so2 := EO.same so2 k3 | replace so2 := GT.same so2 k3 | replace so2 := GTs.same so2 k3 | replace so2 := RB.same so2 k3 | replace so2 := RBs.same so2 k3 | replace so2 := RB2s.same so2 k3 | replace so2 := GR.same so2 k3 | replace so2 := GRs.same so2 k3 | replace so2 := NO.same so2 k3 | replace so2 := NOs.same so2 k3 | replace so2 := NZ.same so2 k3 | replace so2 := NB.same so2 k3 | replace so2 := NBs.same so2 k3 | replace so2 := NQ.same so2 k3 | replace so2 := NQs.same so2 k3 | replace so2 := NX'.same so2 k3
    first | replace sb := HF.same sb k3 | replace sb := WF.same sb k3 | replace sb := FT.same sb k3 | replace sb := Fd.same sb k3 | replace sb := LsD.same sb k3 | replace sb := TK.same k3 _ _ sb | replace sb := KeysT.tk sb (TK.same k3) | replace sb := KeysU.tk sb (TK.same k3) | replace sb := KeysN.tk sb (TK.same k3) | replace sb := DayV.tk sb (TK.same k3) | replace sb := Dp.same k3 _ _ sb | replace sb := DpAll.same k3 _ _ sb | replace sb := k3 _ _ sb | replace sb := Ch.trans sb (Ch.of_same k3) | replace sb := Same.trans sb k3 | replace sb := stepsAt.same sb k3 | replace sb := DpT.same sb k3 | replace sb := LOr.same sb k3 | replace sb := Ob.same sb k3 | replace sb := Gds.same sb k3 | replace sb := Gd2.same sb k3 | replace sb := Ob2.same sb k3 | replace sb := NE.same sb k3 | replace sb := NT.same sb k3 | replace sb := NEs.same sb k3 | replace sb := NX.same sb k3 | replace sb := EMs.same sb k3 | replace sb := EOs.same sb k3 | replace sb := EO.same sb k3 | replace sb := GT.same sb k3 | replace sb := GTs.same sb k3 | replace sb := RB.same sb k3 | replace sb := RBs.same sb k3 | replace sb := RB2s.same sb k3 | replace sb := GR.same sb k3 | replace sb := GRs.same sb k3 | replace sb := NO.same sb k3 | replace sb := NOs.same sb k3 | replace sb := NZ.same sb k3 | replace sb := NB.same sb k3 | replace sb := NBs.same sb k3 | replace sb := NQ.same sb k3 | replace sb := NQs.same sb k3 | replace sb := NX'.same sb k3
    first | replace k1 := HF.same k1 k3 | replace k1 := WF.same k1 k3 | replace k1 := FT.same k1 k3 | replace k1 := Fd.same k1 k3 | replace k1 := LsD.same k1 k3 | replace k1 := TK.same k3 _ _ k1 | replace k1 := KeysT.tk k1 (TK.same k3) | replace k1 := KeysU.tk k1 (TK.same k3) | replace k1 := KeysN.tk k1 (TK.same k3) | replace k1 := DayV.tk k1 (TK.same k3) | replace k1 := Dp.same k3 _ _ k1 | replace k1 := DpAll.same k3 _ _ k1 | replace k1 := k3 _ _ k1 | replace k1 := Ch.trans k1 (Ch.of_same k3) | replace k1 := Same.trans k1 k3 | replace k1 := stepsAt.same k1 k3 | replace k1 := DpT.same k1 k3 | replace k1 := LOr.same k1 k3 | replace k1 := Ob.same k1 k3 | replace k1 := Gds.same k1 k3 | replace k1 := Gd2.same k1 k3 | replace k1 := Ob2.same k1 k3 | replace k1 := NE.same k1 k3 | replace k1 := NT.same k1 k3 | replace k1 := NEs.same k1 k3 | replace k1 := NX.same k1 k3 | replace k1 := EMs.same k1 k3 | replace k1 := EOs.same k1 k3 | replace k1 := EO.same k1 k3 | replace k1 := GT.same k1 k3 | replace k1 := GTs.same k1 k3 | replace k1 := RB.same k1 k3 | replace k1 := RBs.same k1 k3 | replace k1 := RB2s.same k1 k3 | replace k1 := GR.same k1 k3 | replace k1 := GRs.same k1 k3 | replace k1 := NO.same k1 k3 | replace k1 := NOs.same k1 k3 | replace k1 := NZ.same k1 k3 | replace k1 := NB.same k1 k3 | replace k1 := NBs.same k1 k3 | replace k1 := NQ.same k1 k3 | replace k1 := NQs.same k1 k3 | replace k1 := NX'.same k1 k3
    repeat' (walk_at "jv")
    refine ⟨.ref ta, o, k, ps, rs, ds, qs, rfl, hh, hH, so, mq, fun M1 H4 n4 k4 e4 => ?_⟩
    first | replace hh := HF.same hh k4 | replace hh := WF.same hh k4 | replace hh := FT.same hh k4 | replace hh := Fd.same hh k4 | replace hh := LsD.same hh k4 | replace hh := TK.same k4 _ _ hh | replace hh := KeysT.tk hh (TK.same k4) | replace hh := KeysU.tk hh (TK.same k4) | replace hh := KeysN.tk hh (TK.same k4) | replace hh := DayV.tk hh (TK.same k4) | replace hh := Dp.same k4 _ _ hh | replace hh := DpAll.same k4 _ _ hh | replace hh := k4 _ _ hh | replace hh := Ch.trans hh (Ch.of_same k4) | replace hh := Same.trans hh k4 | replace hh := stepsAt.same hh k4 | replace hh := DpT.same hh k4 | replace hh := LOr.same hh k4 | replace hh := Ob.same hh k4 | replace hh := Gds.same hh k4 | replace hh := Gd2.same hh k4 | replace hh := Ob2.same hh k4 | replace hh := NE.same hh k4 | replace hh := NT.same hh k4 | replace hh := NEs.same hh k4 | replace hh := NX.same hh k4 | replace hh := EMs.same hh k4 | replace hh := EOs.same hh k4 | replace hh := EO.same hh k4 | replace hh := GT.same hh k4 | replace hh := GTs.same hh k4 | replace hh := RB.same hh k4 | replace hh := RBs.same hh k4 | replace hh := RB2s.same hh k4 | replace hh := GR.same hh k4 | replace hh := GRs.same hh k4 | replace hh := NO.same hh k4 | replace hh := NOs.same hh k4 | replace hh := NZ.same hh k4 | replace hh := NB.same hh k4 | replace hh := NBs.same hh k4 | replace hh := NQ.same hh k4 | replace hh := NQs.same hh k4 | replace hh := NX'.same hh k4
    first | replace so2 := HF.same so2 k4 | replace so2 := WF.same so2 k4 | replace so2 := FT.same so2 k4 | replace so2 := Fd.same so2 k4 | replace so2 := LsD.same so2 k4 | replace so2 := TK.same k4 _ _ so2 | replace so2 := KeysT.tk so2 (TK.same k4) | replace so2 := KeysU.tk so2 (TK.same k4) | replace so2 := KeysN.tk so2 (TK.same k4) | replace so2 := DayV.tk so2 (TK.same k4) | replace so2 := Dp.same k4 _ _ so2 | replace so2 := DpAll.same k4 _ _ so2 | replace so2 := k4 _ _ so2 | replace so2 := Ch.trans so2 (Ch.of_same k4) | replace so2 := Same.trans so2 k4 | replace so2 := stepsAt.same so2 k4 | replace so2 := DpT.same so2 k4 | replace so2 := LOr.same so2 k4 | replace so2 := Ob.same so2 k4 | replace so2 := Gds.same so2 k4 | replace so2 := Gd2.same so2 k4 | replace so2 := Ob2.same so2 k4 | replace so2 := NE.same so2 k4 | replace so2 := NT.same so2 k4 | replace so2 := NEs.same so2 k4 | replace so2 := NX.same so2 k4 | replace so2 := EMs.same so2 k4 | replace so2 := EOs.same so2 k4 | replace so2 := EO.same so2 k4 | replace so2 := GT.same so2 k4 | replace so2 := GTs.same so2 k4 | replace so2 := RB.same so2 k4 | replace so2 := RBs.same so2 k4 | replace so2 := RB2s.same so2 k4 | replace so2 := GR.same so2 k4 | replace so2 := GRs.same so2 k4 | replace so2 := NO.same so2 k4 | replace so2 := NOs.same so2 k4 | replace so2 := NZ.same so2 k4 | replace so2 := NB.same so2 k4 | replace so2 := NBs.same so2 k4 | replace so2 := NQ.same so2 k4 | replace so2 := NQs.same so2 k4 | replace so2 := NX'.same so2 k4
    first | replace sb := HF.same sb k4 | replace sb := WF.same sb k4 | replace sb := FT.same sb k4 | replace sb := Fd.same sb k4 | replace sb := LsD.same sb k4 | replace sb := TK.same k4 _ _ sb | replace sb := KeysT.tk sb (TK.same k4) | replace sb := KeysU.tk sb (TK.same k4) | replace sb := KeysN.tk sb (TK.same k4) | replace sb := DayV.tk sb (TK.same k4) | replace sb := Dp.same k4 _ _ sb | replace sb := DpAll.same k4 _ _ sb | replace sb := k4 _ _ sb | replace sb := Ch.trans sb (Ch.of_same k4) | replace sb := Same.trans sb k4 | replace sb := stepsAt.same sb k4 | replace sb := DpT.same sb k4 | replace sb := LOr.same sb k4 | replace sb := Ob.same sb k4 | replace sb := Gds.same sb k4 | replace sb := Gd2.same sb k4 | replace sb := Ob2.same sb k4 | replace sb := NE.same sb k4 | replace sb := NT.same sb k4 | replace sb := NEs.same sb k4 | replace sb := NX.same sb k4 | replace sb := EMs.same sb k4 | replace sb := EOs.same sb k4 | replace sb := EO.same sb k4 | replace sb := GT.same sb k4 | replace sb := GTs.same sb k4 | replace sb := RB.same sb k4 | replace sb := RBs.same sb k4 | replace sb := RB2s.same sb k4 | replace sb := GR.same sb k4 | replace sb := GRs.same sb k4 | replace sb := NO.same sb k4 | replace sb := NOs.same sb k4 | replace sb := NZ.same sb k4 | replace sb := NB.same sb k4 | replace sb := NBs.same sb k4 | replace sb := NQ.same sb k4 | replace sb := NQs.same sb k4 | replace sb := NX'.same sb k4
    first | replace k1 := HF.same k1 k4 | replace k1 := WF.same k1 k4 | replace k1 := FT.same k1 k4 | replace k1 := Fd.same k1 k4 | replace k1 := LsD.same k1 k4 | replace k1 := TK.same k4 _ _ k1 | replace k1 := KeysT.tk k1 (TK.same k4) | replace k1 := KeysU.tk k1 (TK.same k4) | replace k1 := KeysN.tk k1 (TK.same k4) | replace k1 := DayV.tk k1 (TK.same k4) | replace k1 := Dp.same k4 _ _ k1 | replace k1 := DpAll.same k4 _ _ k1 | replace k1 := k4 _ _ k1 | replace k1 := Ch.trans k1 (Ch.of_same k4) | replace k1 := Same.trans k1 k4 | replace k1 := stepsAt.same k1 k4 | replace k1 := DpT.same k1 k4 | replace k1 := LOr.same k1 k4 | replace k1 := Ob.same k1 k4 | replace k1 := Gds.same k1 k4 | replace k1 := Gd2.same k1 k4 | replace k1 := Ob2.same k1 k4 | replace k1 := NE.same k1 k4 | replace k1 := NT.same k1 k4 | replace k1 := NEs.same k1 k4 | replace k1 := NX.same k1 k4 | replace k1 := EMs.same k1 k4 | replace k1 := EOs.same k1 k4 | replace k1 := EO.same k1 k4 | replace k1 := GT.same k1 k4 | replace k1 := GTs.same k1 k4 | replace k1 := RB.same k1 k4 | replace k1 := RBs.same k1 k4 | replace k1 := RB2s.same k1 k4 | replace k1 := GR.same k1 k4 | replace k1 := GRs.same k1 k4 | replace k1 := NO.same k1 k4 | replace k1 := NOs.same k1 k4 | replace k1 := NZ.same k1 k4 | replace k1 := NB.same k1 k4 | replace k1 := NBs.same k1 k4 | replace k1 := NQ.same k1 k4 | replace k1 := NQs.same k1 k4 | replace k1 := NX'.same k1 k4
    replace e4 : H4 M1 = some (.lst (natsV (dayL k ps rs ds qs))) := e4
    repeat' (walk_at "jv")
    refine ⟨.ref ta, o2, k, ps, rs, ds, os, rfl, hh, hH, so2, mo, fun M2 H5 n5 k5 e5 => ?_⟩
    first | replace hh := HF.same hh k5 | replace hh := WF.same hh k5 | replace hh := FT.same hh k5 | replace hh := Fd.same hh k5 | replace hh := LsD.same hh k5 | replace hh := TK.same k5 _ _ hh | replace hh := KeysT.tk hh (TK.same k5) | replace hh := KeysU.tk hh (TK.same k5) | replace hh := KeysN.tk hh (TK.same k5) | replace hh := DayV.tk hh (TK.same k5) | replace hh := Dp.same k5 _ _ hh | replace hh := DpAll.same k5 _ _ hh | replace hh := k5 _ _ hh | replace hh := Ch.trans hh (Ch.of_same k5) | replace hh := Same.trans hh k5 | replace hh := stepsAt.same hh k5 | replace hh := DpT.same hh k5 | replace hh := LOr.same hh k5 | replace hh := Ob.same hh k5 | replace hh := Gds.same hh k5 | replace hh := Gd2.same hh k5 | replace hh := Ob2.same hh k5 | replace hh := NE.same hh k5 | replace hh := NT.same hh k5 | replace hh := NEs.same hh k5 | replace hh := NX.same hh k5 | replace hh := EMs.same hh k5 | replace hh := EOs.same hh k5 | replace hh := EO.same hh k5 | replace hh := GT.same hh k5 | replace hh := GTs.same hh k5 | replace hh := RB.same hh k5 | replace hh := RBs.same hh k5 | replace hh := RB2s.same hh k5 | replace hh := GR.same hh k5 | replace hh := GRs.same hh k5 | replace hh := NO.same hh k5 | replace hh := NOs.same hh k5 | replace hh := NZ.same hh k5 | replace hh := NB.same hh k5 | replace hh := NBs.same hh k5 | replace hh := NQ.same hh k5 | replace hh := NQs.same hh k5 | replace hh := NX'.same hh k5
    first | replace sb := HF.same sb k5 | replace sb := WF.same sb k5 | replace sb := FT.same sb k5 | replace sb := Fd.same sb k5 | replace sb := LsD.same sb k5 | replace sb := TK.same k5 _ _ sb | replace sb := KeysT.tk sb (TK.same k5) | replace sb := KeysU.tk sb (TK.same k5) | replace sb := KeysN.tk sb (TK.same k5) | replace sb := DayV.tk sb (TK.same k5) | replace sb := Dp.same k5 _ _ sb | replace sb := DpAll.same k5 _ _ sb | replace sb := k5 _ _ sb | replace sb := Ch.trans sb (Ch.of_same k5) | replace sb := Same.trans sb k5 | replace sb := stepsAt.same sb k5 | replace sb := DpT.same sb k5 | replace sb := LOr.same sb k5 | replace sb := Ob.same sb k5 | replace sb := Gds.same sb k5 | replace sb := Gd2.same sb k5 | replace sb := Ob2.same sb k5 | replace sb := NE.same sb k5 | replace sb := NT.same sb k5 | replace sb := NEs.same sb k5 | replace sb := NX.same sb k5 | replace sb := EMs.same sb k5 | replace sb := EOs.same sb k5 | replace sb := EO.same sb k5 | replace sb := GT.same sb k5 | replace sb := GTs.same sb k5 | replace sb := RB.same sb k5 | replace sb := RBs.same sb k5 | replace sb := RB2s.same sb k5 | replace sb := GR.same sb k5 | replace sb := GRs.same sb k5 | replace sb := NO.same sb k5 | replace sb := NOs.same sb k5 | replace sb := NZ.same sb k5 | replace sb := NB.same sb k5 | replace sb := NBs.same sb k5 | replace sb := NQ.same sb k5 | replace sb := NQs.same sb k5 | replace sb := NX'.same sb k5
    first | replace k1 := HF.same k1 k5 | replace k1 := WF.same k1 k5 | replace k1 := FT.same k1 k5 | replace k1 := Fd.same k1 k5 | replace k1 := LsD.same k1 k5 | replace k1 := TK.same k5 _ _ k1 | replace k1 := KeysT.tk k1 (TK.same k5) | replace k1 := KeysU.tk k1 (TK.same k5) | replace k1 := KeysN.tk k1 (TK.same k5) | replace k1 := DayV.tk k1 (TK.same k5) | replace k1 := Dp.same k5 _ _ k1 | replace k1 := DpAll.same k5 _ _ k1 | replace k1 := k5 _ _ k1 | replace k1 := Ch.trans k1 (Ch.of_same k5) | replace k1 := Same.trans k1 k5 | replace k1 := stepsAt.same k1 k5 | replace k1 := DpT.same k1 k5 | replace k1 := LOr.same k1 k5 | replace k1 := Ob.same k1 k5 | replace k1 := Gds.same k1 k5 | replace k1 := Gd2.same k1 k5 | replace k1 := Ob2.same k1 k5 | replace k1 := NE.same k1 k5 | replace k1 := NT.same k1 k5 | replace k1 := NEs.same k1 k5 | replace k1 := NX.same k1 k5 | replace k1 := EMs.same k1 k5 | replace k1 := EOs.same k1 k5 | replace k1 := EO.same k1 k5 | replace k1 := GT.same k1 k5 | replace k1 := GTs.same k1 k5 | replace k1 := RB.same k1 k5 | replace k1 := RBs.same k1 k5 | replace k1 := RB2s.same k1 k5 | replace k1 := GR.same k1 k5 | replace k1 := GRs.same k1 k5 | replace k1 := NO.same k1 k5 | replace k1 := NOs.same k1 k5 | replace k1 := NZ.same k1 k5 | replace k1 := NB.same k1 k5 | replace k1 := NBs.same k1 k5 | replace k1 := NQ.same k1 k5 | replace k1 := NQs.same k1 k5 | replace k1 := NX'.same k1 k5
    first | replace e4 := HF.same e4 k5 | replace e4 := WF.same e4 k5 | replace e4 := FT.same e4 k5 | replace e4 := Fd.same e4 k5 | replace e4 := LsD.same e4 k5 | replace e4 := TK.same k5 _ _ e4 | replace e4 := KeysT.tk e4 (TK.same k5) | replace e4 := KeysU.tk e4 (TK.same k5) | replace e4 := KeysN.tk e4 (TK.same k5) | replace e4 := DayV.tk e4 (TK.same k5) | replace e4 := Dp.same k5 _ _ e4 | replace e4 := DpAll.same k5 _ _ e4 | replace e4 := k5 _ _ e4 | replace e4 := Ch.trans e4 (Ch.of_same k5) | replace e4 := Same.trans e4 k5 | replace e4 := stepsAt.same e4 k5 | replace e4 := DpT.same e4 k5 | replace e4 := LOr.same e4 k5 | replace e4 := Ob.same e4 k5 | replace e4 := Gds.same e4 k5 | replace e4 := Gd2.same e4 k5 | replace e4 := Ob2.same e4 k5 | replace e4 := NE.same e4 k5 | replace e4 := NT.same e4 k5 | replace e4 := NEs.same e4 k5 | replace e4 := NX.same e4 k5 | replace e4 := EMs.same e4 k5 | replace e4 := EOs.same e4 k5 | replace e4 := EO.same e4 k5 | replace e4 := GT.same e4 k5 | replace e4 := GTs.same e4 k5 | replace e4 := RB.same e4 k5 | replace e4 := RBs.same e4 k5 | replace e4 := RB2s.same e4 k5 | replace e4 := GR.same e4 k5 | replace e4 := GRs.same e4 k5 | replace e4 := NO.same e4 k5 | replace e4 := NOs.same e4 k5 | replace e4 := NZ.same e4 k5 | replace e4 := NB.same e4 k5 | replace e4 := NBs.same e4 k5 | replace e4 := NQ.same e4 k5 | replace e4 := NQs.same e4 k5 | replace e4 := NX'.same e4 k5
    replace e5 : H5 M2 = some (.lst (natsV (dayL k ps rs ds os))) := e5
    repeat' (walk_at "jv")
    refine ⟨.ref ta, st, k, ps, rs, ds, t, rfl, hh.dp, sb, by rcases hH.two with e | e <;> omega, ?_⟩
    have n1 : (natsV (dayL k ps rs ds qs)).length = k ^ ps.length := by rw [nats_len, dayL_len]
    have hat : ∀ (ord : List Str), (∀ z ∈ ord, z ∈ ps) → ∀ u : List Nat, u.length = ps.length → (∀ x ∈ u, x < k) → atI (natsV (dayL k ps rs ds ord)) ((numN k u : Nat) : Int) = some (.int ((numN k (dayN k ps rs ds u ord) : Nat) : Int)) := fun ord mz u hl hk => atI_nat (by
      unfold natsV
      rw [List.getElem?_map, dayL_num (rs := rs) (ds := ds) hH mz hl hk]
      rfl)
    repeat' (walk_at "jv")
    have hm : (((natsV (dayL k ps rs ds qs)).length : Int) + 1 - 1).toNat = k ^ ps.length := by rw [n1]; omega
    rw [hm]
    refine f_range (fun i σ H' => ∃ (y : Option V), σ = [some (.ref ta), some (.ref o), some (.ref o2), some (.ref st), some (.ref M1), some (.ref M2), some (.int (numN k (dIt k ps rs ds qs t i) : Nat)), y] ∧ (∀ j, j < i → SameAt k ps rs ds qs os t j) ∧ Same H5 H') ⟨none, rfl, fun j hj => absurd hj (Nat.not_lt_zero _), Same.refl _⟩ (fun i σ H' hi h => ?_) (fun σ H' h => ?_)
    · obtain ⟨y, rfl, hs, kk⟩ := h
      have ul : (dIt k ps rs ds qs t i).length = ps.length := by rw [dIt_len, tl]
      have uk := dIt_lt (rs := rs) (ds := ds) hH mq tk i
      have a1 := hat qs mq _ ul uk
      have a2 := hat os mo _ ul uk
      have e41 := kk _ _ e4
      have e51 := kk _ _ e5
      have v1 := day_lt (rs := rs) (ds := ds) hH _ _ mq uk
      have v2 := day_lt (rs := rs) (ds := ds) hH _ _ mo uk
      repeat' (walk_at "jv")
      · rename_i hne
        have hd : ¬ SameAt k ps rs ds qs os t i := fun e => hne (by unfold SameAt at e; rw [e])
        have := q (some (i + 1)) H' (.day i hi hd hs) (k1.trans kk)
        rw [show (1 : Int) + (i : Int) = ((i + 1 : Nat) : Int) from by omega]
        exact this
      · rename_i hne
        have he : numN k (dayN k ps rs ds (dIt k ps rs ds qs t i) qs) = numN k (dayN k ps rs ds (dIt k ps rs ds qs t i) os) := Classical.byContradiction fun n => hne (fun e => n (Int.ofNat_inj.mp e))
        have hd : SameAt k ps rs ds qs os t i := num_one (by rw [day_len, ul]) (by rw [day_len, ul]) v1 v2 he
        refine ⟨_, rfl, fun j hj => ?_, kk⟩
        rcases Nat.lt_or_eq_of_le (Nat.le_of_lt_succ hj) with c | c
        · exact hs j c
        · rw [c]
          exact hd
    · obtain ⟨y, rfl, hs, kk⟩ := h
      repeat' (walk_at "jv")
      exact q none H' (.never hs) (k1.trans kk)
theorem ok_firstGK (D : Dk K mg "first_unlike_day" s_first_unlike_day ["hall", "order", "other", "state"] ["state", "other", "order", "hall"]) (B : Bn mg) (C_need_day : Cl P w K mg base 9 "need_day" ["hall", "order"] (spNeedDay K)) (C_need_order : Cl P w K mg base 3 "need_order" ["web", "order"] (spNeedOrder K)) (C_need_state : Cl P w K mg base 4 "need_state" ["hall", "state"] (spNeedState K)) (C_day_list : Cl P w K mg base 6 "day_list" ["hall", "order"] (spDayListN K)) (C_state_number : Cl P w K mg base 1 "state_number" ["hall", "state"] (spStateNum K)) : ClK P w K mg base 10 "first_unlike_day" ["hall", "order", "other", "state"] ["state", "other", "order", "hall"] (spFirstG K) := by
  refine D.cl sc_first_unlike_day (fun vs H Q E h => ?_) (fun f cdv A outer s H vs Q E hr h => ?_)
  · obtain ⟨v, o, o2, st, k, ps, rs, ds, qs, os, t, rfl, _⟩ := h
    rfl
  · obtain ⟨v, o, o2, st, k, ps, rs, ds, qs, os, t, rfl, hh, hH, so, pm, so2, pm2, sb, tl, tk, q⟩ := h
    have hfew := hH.few
    have mq : ∀ z ∈ qs, z ∈ ps := fun z hz => pm.mem_iff.mp hz
    have mo : ∀ z ∈ os, z ∈ ps := fun z hz => pm2.mem_iff.mp hz
    obtain ⟨ta, T0, wv, rfl, sh, hw, dT, uT⟩ := id hh
    clear dT uT
    refine ⟨_, (pss_cons (ps_expr (pe_c C_need_day hr (pa_cons (pv 0) (pa_cons (pv 1) pa_nil))))
      (pss_cons (ps_expr (pe_c C_need_order hr (pa_cons (pe_ix (k_ixT (K := K)) (pv 0) pe_int (fun _ _ => rfl)) (pa_cons (pv 2) pa_nil))))
      (pss_cons (ps_expr (pe_c C_need_state hr (pa_cons (pv 0) (pa_cons (pv 3) pa_nil))))
      (pss_cons (ps_par (i := 4) (j := 5) rfl sc_first_unlike_day.nd rfl rfl (by decide) rfl rfl (pa_cons (pe_c C_day_list hr (pa_cons (pv 0) (pa_cons (pv 1) pa_nil))) (pa_cons (pe_c C_day_list hr (pa_cons (pv 0) (pa_cons (pv 2) pa_nil))) pa_nil)) (by rfl))
      (pss_cons (ps_set (i := 6) sc_first_unlike_day.nd rfl (by first | exact Or.inl rfl | exact Or.inr rfl) (pe_c C_state_number hr (pa_cons (pv 0) (pa_cons (pv 3) pa_nil))))
      (pss_cons (ps_for PassesOwn.never rfl (pi_range2 rfl B.range_ (pa_cons pe_int (pa_cons (pe_op op_add (pe_callB (k_len (K := K)) rfl B.len_ (by decide +kernel) (pa_cons (pv 4) pa_nil)) pe_int) pa_nil))) (pg_name (i := 7) sc_first_unlike_day.nd rfl (by first | exact Or.inl rfl | exact Or.inr rfl)) (pss_cons (ps_if (pt_cmpR op_ne (pe_ix (k_ixL (K := K)) (pv 4) (pv 6) (fun _ _ => rfl)) (pe_ix (k_ixL (K := K)) (pv 5) (pv 6) (fun _ _ => rfl)) (nomark _)) (pss_one (ps_ret (pv 7))) pss_nil)
      (pss_one (ps_set (i := 6) sc_first_unlike_day.nd rfl (by first | exact Or.inl rfl | exact Or.inr rfl) (pe_ix (k_ixL (K := K)) (pv 4) (pv 6) (fun _ _ => rfl))))))
      (pss_one (ps_ret pe_non)))))))), ?_⟩
    repeat' (walk_at "jv")
    refine ⟨.ref ta, o, qs, k, ps, rs, ds, rfl, hh.dp, hH, so, pm, fun H1 k1 => ?_⟩
    first | replace hh := HF.same hh k1 | replace hh := WF.same hh k1 | replace hh := FT.same hh k1 | replace hh := Fd.same hh k1 | replace hh := LsD.same hh k1 | replace hh := TK.same k1 _ _ hh | replace hh := KeysT.tk hh (TK.same k1) | replace hh := KeysU.tk hh (TK.same k1) | replace hh := KeysN.tk hh (TK.same k1) | replace hh := DayV.tk hh (TK.same k1) | replace hh := Dp.same k1 _ _ hh | replace hh := DpAll.same k1 _ _ hh | replace hh := k1 _ _ hh | replace hh := Ch.trans hh (Ch.of_same k1) | replace hh := Same.trans hh k1 | replace hh := stepsAt.same hh k1 | replace hh := DpT.same hh k1 | replace hh := LOr.same hh k1 | replace hh := Ob.same hh k1 | replace hh := Gds.same hh k1 | replace hh := Gd2.same hh k1 | replace hh := Ob2.same hh k1 | replace hh := NE.same hh k1 | replace hh := NT.same hh k1 | replace hh := NEs.same hh k1 | replace hh := NX.same hh k1 | replace hh := EMs.same hh k1 | replace hh := EOs.same hh k1 | replace hh := EO.same hh k1 | replace hh := GT.same hh k1 | replace hh := GTs.same hh k1 | replace hh := RB.same hh k1 | replace hh := RBs.same hh k1 | replace hh := RB2s.same hh k1 | replace hh := GR.same hh k1 | replace hh := GRs.same hh k1 | replace hh := NO.same hh k1 | replace hh := NOs.same hh k1 | replace hh := NZ.same hh k1 | replace hh := NB.same hh k1 | replace hh := NBs.same hh k1 | replace hh := NQ.same hh k1 | replace hh := NQs.same hh k1 | replace hh := NX'.same hh k1
    first | replace so := HF.same so k1 | replace so := WF.same so k1 | replace so := FT.same so k1 | replace so := Fd.same so k1 | replace so := LsD.same so k1 | replace so := TK.same k1 _ _ so | replace so := KeysT.tk so (TK.same k1) | replace so := KeysU.tk so (TK.same k1) | replace so := KeysN.tk so (TK.same k1) | replace so := DayV.tk so (TK.same k1) | replace so := Dp.same k1 _ _ so | replace so := DpAll.same k1 _ _ so | replace so := k1 _ _ so | replace so := Ch.trans so (Ch.of_same k1) | replace so := Same.trans so k1 | replace so := stepsAt.same so k1 | replace so := DpT.same so k1 | replace so := LOr.same so k1 | replace so := Ob.same so k1 | replace so := Gds.same so k1 | replace so := Gd2.same so k1 | replace so := Ob2.same so k1 | replace so := NE.same so k1 | replace so := NT.same so k1 | replace so := NEs.same so k1 | replace so := NX.same so k1 | replace so := EMs.same so k1 | replace so := EOs.same so k1 | replace so := EO.same so k1 | replace so := GT.same so k1 | replace so := GTs.same so k1 | replace so := RB.same so k1 | replace so := RBs.same so k1 | replace so := RB2s.same so k1 | replace so := GR.same so k1 | replace so := GRs.same so k1 | replace so := NO.same so k1 | replace so := NOs.same so k1 | replace so := NZ.same so k1 | replace so := NB.same so k1 | replace so := NBs.same so k1 | replace so := NQ.same so k1 | replace so := NQs.same so k1 | replace so := NX'.same so k1
    first | replace so2 := HF.same so2 k1 | replace so2 := WF.same so2 k1 | replace so2 := FT.same so2 k1 | replace so2 := Fd.same so2 k1 | replace so2 := LsD.same so2 k1 | replace so2 := TK.same k1 _ _ so2 | replace so2 := KeysT.tk so2 (TK.same k1) | replace so2 := KeysU.tk so2 (TK.same k1) | replace so2 := KeysN.tk so2 (TK.same k1) | replace so2 := DayV.tk so2 (TK.same k1) | replace so2 := Dp.same k1 _ _ so2 | replace so2 := DpAll.same k1 _ _ so2 | replace so2 := k1 _ _ so2 | replace so2 := Ch.trans so2 (Ch.of_same k1) | replace so2 := Same.trans so2 k1 | replace so2 := stepsAt.same so2 k1 | replace so2 := DpT.same so2 k1 | replace so2 := LOr.same so2 k1 | replace so2 := Ob.same so2 k1 | replace so2 := Gds.same so2 k1 | replace so2 := Gd2.same so2 k1 | replace so2 := Ob2.same so2 k1 | replace so2 := NE.same so2 k1 | replace so2 := NT.same so2 k1 | replace so2 := NEs.same so2 k1 | replace so2 := NX.same so2 k1 | replace so2 := EMs.same so2 k1 | replace so2 := EOs.same so2 k1 | replace so2 := EO.same so2 k1 | replace so2 := GT.same so2 k1 | replace so2 := GTs.same so2 k1 | replace so2 := RB.same so2 k1 | replace so2 := RBs.same so2 k1 | replace so2 := RB2s.same so2 k1 | replace so2 := GR.same so2 k1 | replace so2 := GRs.same so2 k1 | replace so2 := NO.same so2 k1 | replace so2 := NOs.same so2 k1 | replace so2 := NZ.same so2 k1 | replace so2 := NB.same so2 k1 | replace so2 := NBs.same so2 k1 | replace so2 := NQ.same so2 k1 | replace so2 := NQs.same so2 k1 | replace so2 := NX'.same so2 k1
    first | replace sb := HF.same sb k1 | replace sb := WF.same sb k1 | replace sb := FT.same sb k1 | replace sb := Fd.same sb k1 | replace sb := LsD.same sb k1 | replace sb := TK.same k1 _ _ sb | replace sb := KeysT.tk sb (TK.same k1) | replace sb := KeysU.tk sb (TK.same k1) | replace sb := KeysN.tk sb (TK.same k1) | replace sb := DayV.tk sb (TK.same k1) | replace sb := Dp.same k1 _ _ sb | replace sb := DpAll.same k1 _ _ sb | replace sb := k1 _ _ sb | replace sb := Ch.trans sb (Ch.of_same k1) | replace sb := Same.trans sb k1 | replace sb := stepsAt.same sb k1 | replace sb := DpT.same sb k1 | replace sb := LOr.same sb k1 | replace sb := Ob.same sb k1 | replace sb := Gds.same sb k1 | replace sb := Gd2.same sb k1 | replace sb := Ob2.same sb k1 | replace sb := NE.same sb k1 | replace sb := NT.same sb k1 | replace sb := NEs.same sb k1 | replace sb := NX.same sb k1 | replace sb := EMs.same sb k1 | replace sb := EOs.same sb k1 | replace sb := EO.same sb k1 | replace sb := GT.same sb k1 | replace sb := GTs.same sb k1 | replace sb := RB.same sb k1 | replace sb := RBs.same sb k1 | replace sb := RB2s.same sb k1 | replace sb := GR.same sb k1 | replace sb := GRs.same sb k1 | replace sb := NO.same sb k1 | replace sb := NOs.same sb k1 | replace sb := NZ.same sb k1 | replace sb := NB.same sb k1 | replace sb := NBs.same sb k1 | replace sb := NQ.same sb k1 | replace sb := NQs.same sb k1 | replace sb := NX'.same sb k1
    first | replace sh := HF.same sh k1 | replace sh := WF.same sh k1 | replace sh := FT.same sh k1 | replace sh := Fd.same sh k1 | replace sh := LsD.same sh k1 | replace sh := TK.same k1 _ _ sh | replace sh := KeysT.tk sh (TK.same k1) | replace sh := KeysU.tk sh (TK.same k1) | replace sh := KeysN.tk sh (TK.same k1) | replace sh := DayV.tk sh (TK.same k1) | replace sh := Dp.same k1 _ _ sh | replace sh := DpAll.same k1 _ _ sh | replace sh := k1 _ _ sh | replace sh := Ch.trans sh (Ch.of_same k1) | replace sh := Same.trans sh k1 | replace sh := stepsAt.same sh k1 | replace sh := DpT.same sh k1 | replace sh := LOr.same sh k1 | replace sh := Ob.same sh k1 | replace sh := Gds.same sh k1 | replace sh := Gd2.same sh k1 | replace sh := Ob2.same sh k1 | replace sh := NE.same sh k1 | replace sh := NT.same sh k1 | replace sh := NEs.same sh k1 | replace sh := NX.same sh k1 | replace sh := EMs.same sh k1 | replace sh := EOs.same sh k1 | replace sh := EO.same sh k1 | replace sh := GT.same sh k1 | replace sh := GTs.same sh k1 | replace sh := RB.same sh k1 | replace sh := RBs.same sh k1 | replace sh := RB2s.same sh k1 | replace sh := GR.same sh k1 | replace sh := GRs.same sh k1 | replace sh := NO.same sh k1 | replace sh := NOs.same sh k1 | replace sh := NZ.same sh k1 | replace sh := NB.same sh k1 | replace sh := NBs.same sh k1 | replace sh := NQ.same sh k1 | replace sh := NQs.same sh k1 | replace sh := NX'.same sh k1
    first | replace hw := HF.same hw k1 | replace hw := WF.same hw k1 | replace hw := FT.same hw k1 | replace hw := Fd.same hw k1 | replace hw := LsD.same hw k1 | replace hw := TK.same k1 _ _ hw | replace hw := KeysT.tk hw (TK.same k1) | replace hw := KeysU.tk hw (TK.same k1) | replace hw := KeysN.tk hw (TK.same k1) | replace hw := DayV.tk hw (TK.same k1) | replace hw := Dp.same k1 _ _ hw | replace hw := DpAll.same k1 _ _ hw | replace hw := k1 _ _ hw | replace hw := Ch.trans hw (Ch.of_same k1) | replace hw := Same.trans hw k1 | replace hw := stepsAt.same hw k1 | replace hw := DpT.same hw k1 | replace hw := LOr.same hw k1 | replace hw := Ob.same hw k1 | replace hw := Gds.same hw k1 | replace hw := Gd2.same hw k1 | replace hw := Ob2.same hw k1 | replace hw := NE.same hw k1 | replace hw := NT.same hw k1 | replace hw := NEs.same hw k1 | replace hw := NX.same hw k1 | replace hw := EMs.same hw k1 | replace hw := EOs.same hw k1 | replace hw := EO.same hw k1 | replace hw := GT.same hw k1 | replace hw := GTs.same hw k1 | replace hw := RB.same hw k1 | replace hw := RBs.same hw k1 | replace hw := RB2s.same hw k1 | replace hw := GR.same hw k1 | replace hw := GRs.same hw k1 | replace hw := NO.same hw k1 | replace hw := NOs.same hw k1 | replace hw := NZ.same hw k1 | replace hw := NB.same hw k1 | replace hw := NBs.same hw k1 | replace hw := NQ.same hw k1 | replace hw := NQs.same hw k1 | replace hw := NX'.same hw k1
    repeat' (walk_at "jv")
    refine ⟨wv, o2, os, ps, rs, rfl, hw.dp, hH.web, so2, pm2, fun H2 k2 => ?_⟩
    first | replace hh := HF.same hh k2 | replace hh := WF.same hh k2 | replace hh := FT.same hh k2 | replace hh := Fd.same hh k2 | replace hh := LsD.same hh k2 | replace hh := TK.same k2 _ _ hh | replace hh := KeysT.tk hh (TK.same k2) | replace hh := KeysU.tk hh (TK.same k2) | replace hh := KeysN.tk hh (TK.same k2) | replace hh := DayV.tk hh (TK.same k2) | replace hh := Dp.same k2 _ _ hh | replace hh := DpAll.same k2 _ _ hh | replace hh := k2 _ _ hh | replace hh := Ch.trans hh (Ch.of_same k2) | replace hh := Same.trans hh k2 | replace hh := stepsAt.same hh k2 | replace hh := DpT.same hh k2 | replace hh := LOr.same hh k2 | replace hh := Ob.same hh k2 | replace hh := Gds.same hh k2 | replace hh := Gd2.same hh k2 | replace hh := Ob2.same hh k2 | replace hh := NE.same hh k2 | replace hh := NT.same hh k2 | replace hh := NEs.same hh k2 | replace hh := NX.same hh k2 | replace hh := EMs.same hh k2 | replace hh := EOs.same hh k2 | replace hh := EO.same hh k2 | replace hh := GT.same hh k2 | replace hh := GTs.same hh k2 | replace hh := RB.same hh k2 | replace hh := RBs.same hh k2 | replace hh := RB2s.same hh k2 | replace hh := GR.same hh k2 | replace hh := GRs.same hh k2 | replace hh := NO.same hh k2 | replace hh := NOs.same hh k2 | replace hh := NZ.same hh k2 | replace hh := NB.same hh k2 | replace hh := NBs.same hh k2 | replace hh := NQ.same hh k2 | replace hh := NQs.same hh k2 | replace hh := NX'.same hh k2
    first | replace so := HF.same so k2 | replace so := WF.same so k2 | replace so := FT.same so k2 | replace so := Fd.same so k2 | replace so := LsD.same so k2 | replace so := TK.same k2 _ _ so | replace so := KeysT.tk so (TK.same k2) | replace so := KeysU.tk so (TK.same k2) | replace so := KeysN.tk so (TK.same k2) | replace so := DayV.tk so (TK.same k2) | replace so := Dp.same k2 _ _ so | replace so := DpAll.same k2 _ _ so | replace so := k2 _ _ so | replace so := Ch.trans so (Ch.of_same k2) | replace so := Same.trans so k2 | replace so := stepsAt.same so k2 | replace so := DpT.same so k2 | replace so := LOr.same so k2 | replace so := Ob.same so k2 | replace so := Gds.same so k2 | replace so := Gd2.same so k2 | replace so := Ob2.same so k2 | replace so := NE.same so k2 | replace so := NT.same so k2 | replace so := NEs.same so k2 | replace so := NX.same so k2 | replace so := EMs.same so k2 | replace so := EOs.same so k2 | replace so := EO.same so k2 | replace so := GT.same so k2 | replace so := GTs.same so k2 | replace so := RB.same so k2 | replace so := RBs.same so k2 | replace so := RB2s.same so k2 | replace so := GR.same so k2 | replace so := GRs.same so k2 | replace so := NO.same so k2 | replace so := NOs.same so k2 | replace so := NZ.same so k2 | replace so := NB.same so k2 | replace so := NBs.same so k2 | replace so := NQ.same so k2 | replace so := NQs.same so k2 | replace so := NX'.same so k2
    first | replace so2 := HF.same so2 k2 | replace so2 := WF.same so2 k2 | replace so2 := FT.same so2 k2 | replace so2 := Fd.same so2 k2 | replace so2 := LsD.same so2 k2 | replace so2 := TK.same k2 _ _ so2 | replace so2 := KeysT.tk so2 (TK.same k2) | replace so2 := KeysU.tk so2 (TK.same k2) | replace so2 := KeysN.tk so2 (TK.same k2) | replace so2 := DayV.tk so2 (TK.same k2) | replace so2 := Dp.same k2 _ _ so2 | replace so2 := DpAll.same k2 _ _ so2 | replace so2 := k2 _ _ so2 | replace so2 := Ch.trans so2 (Ch.of_same k2) | replace so2 := Same.trans so2 k2 | replace so2 := stepsAt.same so2 k2 | replace so2 := DpT.same so2 k2 | replace so2 := LOr.same so2 k2 | replace so2 := Ob.same so2 k2 | replace so2 := Gds.same so2 k2 | replace so2 := Gd2.same so2 k2 | replace so2 := Ob2.same so2 k2 | replace so2 := NE.same so2 k2 | replace so2 := NT.same so2 k2 | replace so2 := NEs.same so2 k2 | replace so2 := NX.same so2 k2 | replace so2 := EMs.same so2 k2 | replace so2 := EOs.same so2 k2 | replace so2 := EO.same so2 k2 | replace so2 := GT.same so2 k2 | replace so2 := GTs.same so2 k2 | replace so2 := RB.same so2 k2 | replace so2 := RBs.same so2 k2 | replace so2 := RB2s.same so2 k2 | replace so2 := GR.same so2 k2 | replace so2 := GRs.same so2 k2 | replace so2 := NO.same so2 k2 | replace so2 := NOs.same so2 k2 | replace so2 := NZ.same so2 k2 | replace so2 := NB.same so2 k2 | replace so2 := NBs.same so2 k2 | replace so2 := NQ.same so2 k2 | replace so2 := NQs.same so2 k2 | replace so2 := NX'.same so2 k2
    first | replace sb := HF.same sb k2 | replace sb := WF.same sb k2 | replace sb := FT.same sb k2 | replace sb := Fd.same sb k2 | replace sb := LsD.same sb k2 | replace sb := TK.same k2 _ _ sb | replace sb := KeysT.tk sb (TK.same k2) | replace sb := KeysU.tk sb (TK.same k2) | replace sb := KeysN.tk sb (TK.same k2) | replace sb := DayV.tk sb (TK.same k2) | replace sb := Dp.same k2 _ _ sb | replace sb := DpAll.same k2 _ _ sb | replace sb := k2 _ _ sb | replace sb := Ch.trans sb (Ch.of_same k2) | replace sb := Same.trans sb k2 | replace sb := stepsAt.same sb k2 | replace sb := DpT.same sb k2 | replace sb := LOr.same sb k2 | replace sb := Ob.same sb k2 | replace sb := Gds.same sb k2 | replace sb := Gd2.same sb k2 | replace sb := Ob2.same sb k2 | replace sb := NE.same sb k2 | replace sb := NT.same sb k2 | replace sb := NEs.same sb k2 | replace sb := NX.same sb k2 | replace sb := EMs.same sb k2 | replace sb := EOs.same sb k2 | replace sb := EO.same sb k2 | replace sb := GT.same sb k2 | replace sb := GTs.same sb k2 | replace sb := RB.same sb k2 | replace sb := RBs.same sb k2 | replace sb := RB2s.same sb k2 | replace sb := GR.same sb k2 | replace sb := GRs.same sb k2 | replace sb := NO.same sb k2 | replace sb := NOs.same sb k2 | replace sb := NZ.same sb k2 | replace sb := NB.same sb k2 | replace sb := NBs.same sb k2 | replace sb := NQ.same sb k2 | replace sb := NQs.same sb k2 | replace sb := NX'.same sb k2
    first | replace k1 := HF.same k1 k2 | replace k1 := WF.same k1 k2 | replace k1 := FT.same k1 k2 | replace k1 := Fd.same k1 k2 | replace k1 := LsD.same k1 k2 | replace k1 := TK.same k2 _ _ k1 | replace k1 := KeysT.tk k1 (TK.same k2) | replace k1 := KeysU.tk k1 (TK.same k2) | replace k1 := KeysN.tk k1 (TK.same k2) | replace k1 := DayV.tk k1 (TK.same k2) | replace k1 := Dp.same k2 _ _ k1 | replace k1 := DpAll.same k2 _ _ k1 | replace k1 := k2 _ _ k1 | replace k1 := Ch.trans k1 (Ch.of_same k2) | replace k1 := Same.trans k1 k2 | replace k1 := stepsAt.same k1 k2 | replace k1 := DpT.same k1 k2 | replace k1 := LOr.same k1 k2 | replace k1 := Ob.same k1 k2 | replace k1 := Gds.same k1 k2 | replace k1 := Gd2.same k1 k2 | replace k1 := Ob2.same k1 k2 | replace k1 := NE.same k1 k2 | replace k1 := NT.same k1 k2 | replace k1 := NEs.same k1 k2 | replace k1 := NX.same k1 k2 | replace k1 := EMs.same k1 k2 | replace k1 := EOs.same k1 k2 | replace k1 := EO.same k1 k2 | replace k1 := GT.same k1 k2 | replace k1 := GTs.same k1 k2 | replace k1 := RB.same k1 k2 | replace k1 := RBs.same k1 k2 | replace k1 := RB2s.same k1 k2 | replace k1 := GR.same k1 k2 | replace k1 := GRs.same k1 k2 | replace k1 := NO.same k1 k2 | replace k1 := NOs.same k1 k2 | replace k1 := NZ.same k1 k2 | replace k1 := NB.same k1 k2 | replace k1 := NBs.same k1 k2 | replace k1 := NQ.same k1 k2 | replace k1 := NQs.same k1 k2 | replace k1 := NX'.same k1 k2
    repeat' (walk_at "jv")
    refine ⟨.ref ta, st, k, ps, rs, ds, t, rfl, hh.dp, hH, sb, tl, tk, fun H3 k3 => ?_⟩
    first | replace hh := HF.same hh k3 | replace hh := WF.same hh k3 | replace hh := FT.same hh k3 | replace hh := Fd.same hh k3 | replace hh := LsD.same hh k3 | replace hh := TK.same k3 _ _ hh | replace hh := KeysT.tk hh (TK.same k3) | replace hh := KeysU.tk hh (TK.same k3) | replace hh := KeysN.tk hh (TK.same k3) | replace hh := DayV.tk hh (TK.same k3) | replace hh := Dp.same k3 _ _ hh | replace hh := DpAll.same k3 _ _ hh | replace hh := k3 _ _ hh | replace hh := Ch.trans hh (Ch.of_same k3) | replace hh := Same.trans hh k3 | replace hh := stepsAt.same hh k3 | replace hh := DpT.same hh k3 | replace hh := LOr.same hh k3 | replace hh := Ob.same hh k3 | replace hh := Gds.same hh k3 | replace hh := Gd2.same hh k3 | replace hh := Ob2.same hh k3 | replace hh := NE.same hh k3 | replace hh := NT.same hh k3 | replace hh := NEs.same hh k3 | replace hh := NX.same hh k3 | replace hh := EMs.same hh k3 | replace hh := EOs.same hh k3 | replace hh := EO.same hh k3 | replace hh := GT.same hh k3 | replace hh := GTs.same hh k3 | replace hh := RB.same hh k3 | replace hh := RBs.same hh k3 | replace hh := RB2s.same hh k3 | replace hh := GR.same hh k3 | replace hh := GRs.same hh k3 | replace hh := NO.same hh k3 | replace hh := NOs.same hh k3 | replace hh := NZ.same hh k3 | replace hh := NB.same hh k3 | replace hh := NBs.same hh k3 | replace hh := NQ.same hh k3 | replace hh := NQs.same hh k3 | replace hh := NX'.same hh k3
    first | replace so := HF.same so k3 | replace so := WF.same so k3 | replace so := FT.same so k3 | replace so := Fd.same so k3 | replace so := LsD.same so k3 | replace so := TK.same k3 _ _ so | replace so := KeysT.tk so (TK.same k3) | replace so := KeysU.tk so (TK.same k3) | replace so := KeysN.tk so (TK.same k3) | replace so := DayV.tk so (TK.same k3) | replace so := Dp.same k3 _ _ so | replace so := DpAll.same k3 _ _ so | replace so := k3 _ _ so | replace so := Ch.trans so (Ch.of_same k3) | replace so := Same.trans so k3 | replace so := stepsAt.same so k3 | replace so := DpT.same so k3 | replace so := LOr.same so k3 | replace so := Ob.same so k3 | replace so := Gds.same so k3 | replace so := Gd2.same so k3 | replace so := Ob2.same so k3 | replace so := NE.same so k3 | replace so := NT.same so k3 | replace so := NEs.same so k3 | replace so := NX.same so k3 | replace so := EMs.same so k3 | replace so := EOs.same so k3 | replace so := EO.same so k3 | replace so := GT.same so k3 | replace so := GTs.same so k3 | replace so := RB.same so k3 | replace so := RBs.same so k3 | replace so := RB2s.same so k3 | replace so := GR.same so k3 | replace so := GRs.same so k3 | replace so := NO.same so k3 | replace so := NOs.same so k3 | replace so := NZ.same so k3 | replace so := NB.same so k3 | replace so := NBs.same so k3 | replace so := NQ.same so k3 | replace so := NQs.same so k3 | replace so := NX'.same so k3
    first | replace so2 := HF.same so2 k3 | replace so2 := WF.same so2 k3 | replace so2 := FT.same so2 k3 | replace so2 := Fd.same so2 k3 | replace so2 := LsD.same so2 k3 | replace so2 := TK.same k3 _ _ so2 | replace so2 := KeysT.tk so2 (TK.same k3) | replace so2 := KeysU.tk so2 (TK.same k3) | replace so2 := KeysN.tk so2 (TK.same k3) | replace so2 := DayV.tk so2 (TK.same k3) | replace so2 := Dp.same k3 _ _ so2 | replace so2 := DpAll.same k3 _ _ so2 | replace so2 := k3 _ _ so2 | replace so2 := Ch.trans so2 (Ch.of_same k3) | replace so2 := Same.trans so2 k3 | replace so2 := stepsAt.same so2 k3 | replace so2 := DpT.same so2 k3 | replace so2 := LOr.same so2 k3 | replace so2 := Ob.same so2 k3 | replace so2 := Gds.same so2 k3 | replace so2 := Gd2.same so2 k3 | replace so2 := Ob2.same so2 k3 | replace so2 := NE.same so2 k3 | replace so2 := NT.same so2 k3 | replace so2 := NEs.same so2 k3 | replace so2 := NX.same so2 k3 | replace so2 := EMs.same so2 k3 | replace so2 := EOs.same so2 k3 | replace so2 := EO.same so2 k3 | replace so2 := GT.same so2 k3 | replace so2 := GTs.same so2 k3 | replace so2 := RB.same so2 k3 | replace so2 := RBs.same so2 k3 | replace so2 := RB2s.same so2 k3 | replace so2 := GR.same so2 k3 | replace so2 := GRs.same so2 k3 | replace so2 := NO.same so2 k3 | replace so2 := NOs.same so2 k3 | replace so2 := NZ.same so2 k3 | replace so2 := NB.same so2 k3 | replace so2 := NBs.same so2 k3 | replace so2 := NQ.same so2 k3 | replace so2 := NQs.same so2 k3 | replace so2 := NX'.same so2 k3
    first | replace sb := HF.same sb k3 | replace sb := WF.same sb k3 | replace sb := FT.same sb k3 | replace sb := Fd.same sb k3 | replace sb := LsD.same sb k3 | replace sb := TK.same k3 _ _ sb | replace sb := KeysT.tk sb (TK.same k3) | replace sb := KeysU.tk sb (TK.same k3) | replace sb := KeysN.tk sb (TK.same k3) | replace sb := DayV.tk sb (TK.same k3) | replace sb := Dp.same k3 _ _ sb | replace sb := DpAll.same k3 _ _ sb | replace sb := k3 _ _ sb | replace sb := Ch.trans sb (Ch.of_same k3) | replace sb := Same.trans sb k3 | replace sb := stepsAt.same sb k3 | replace sb := DpT.same sb k3 | replace sb := LOr.same sb k3 | replace sb := Ob.same sb k3 | replace sb := Gds.same sb k3 | replace sb := Gd2.same sb k3 | replace sb := Ob2.same sb k3 | replace sb := NE.same sb k3 | replace sb := NT.same sb k3 | replace sb := NEs.same sb k3 | replace sb := NX.same sb k3 | replace sb := EMs.same sb k3 | replace sb := EOs.same sb k3 | replace sb := EO.same sb k3 | replace sb := GT.same sb k3 | replace sb := GTs.same sb k3 | replace sb := RB.same sb k3 | replace sb := RBs.same sb k3 | replace sb := RB2s.same sb k3 | replace sb := GR.same sb k3 | replace sb := GRs.same sb k3 | replace sb := NO.same sb k3 | replace sb := NOs.same sb k3 | replace sb := NZ.same sb k3 | replace sb := NB.same sb k3 | replace sb := NBs.same sb k3 | replace sb := NQ.same sb k3 | replace sb := NQs.same sb k3 | replace sb := NX'.same sb k3
    first | replace k1 := HF.same k1 k3 | replace k1 := WF.same k1 k3 | replace k1 := FT.same k1 k3 | replace k1 := Fd.same k1 k3 | replace k1 := LsD.same k1 k3 | replace k1 := TK.same k3 _ _ k1 | replace k1 := KeysT.tk k1 (TK.same k3) | replace k1 := KeysU.tk k1 (TK.same k3) | replace k1 := KeysN.tk k1 (TK.same k3) | replace k1 := DayV.tk k1 (TK.same k3) | replace k1 := Dp.same k3 _ _ k1 | replace k1 := DpAll.same k3 _ _ k1 | replace k1 := k3 _ _ k1 | replace k1 := Ch.trans k1 (Ch.of_same k3) | replace k1 := Same.trans k1 k3 | replace k1 := stepsAt.same k1 k3 | replace k1 := DpT.same k1 k3 | replace k1 := LOr.same k1 k3 | replace k1 := Ob.same k1 k3 | replace k1 := Gds.same k1 k3 | replace k1 := Gd2.same k1 k3 | replace k1 := Ob2.same k1 k3 | replace k1 := NE.same k1 k3 | replace k1 := NT.same k1 k3 | replace k1 := NEs.same k1 k3 | replace k1 := NX.same k1 k3 | replace k1 := EMs.same k1 k3 | replace k1 := EOs.same k1 k3 | replace k1 := EO.same k1 k3 | replace k1 := GT.same k1 k3 | replace k1 := GTs.same k1 k3 | replace k1 := RB.same k1 k3 | replace k1 := RBs.same k1 k3 | replace k1 := RB2s.same k1 k3 | replace k1 := GR.same k1 k3 | replace k1 := GRs.same k1 k3 | replace k1 := NO.same k1 k3 | replace k1 := NOs.same k1 k3 | replace k1 := NZ.same k1 k3 | replace k1 := NB.same k1 k3 | replace k1 := NBs.same k1 k3 | replace k1 := NQ.same k1 k3 | replace k1 := NQs.same k1 k3 | replace k1 := NX'.same k1 k3
    repeat' (walk_at "jv")
    refine ⟨.ref ta, o, k, ps, rs, ds, qs, rfl, hh, hH, so, mq, fun M1 H4 n4 k4 e4 => ?_⟩
    first | replace hh := HF.same hh k4 | replace hh := WF.same hh k4 | replace hh := FT.same hh k4 | replace hh := Fd.same hh k4 | replace hh := LsD.same hh k4 | replace hh := TK.same k4 _ _ hh | replace hh := KeysT.tk hh (TK.same k4) | replace hh := KeysU.tk hh (TK.same k4) | replace hh := KeysN.tk hh (TK.same k4) | replace hh := DayV.tk hh (TK.same k4) | replace hh := Dp.same k4 _ _ hh | replace hh := DpAll.same k4 _ _ hh | replace hh := k4 _ _ hh | replace hh := Ch.trans hh (Ch.of_same k4) | replace hh := Same.trans hh k4 | replace hh := stepsAt.same hh k4 | replace hh := DpT.same hh k4 | replace hh := LOr.same hh k4 | replace hh := Ob.same hh k4 | replace hh := Gds.same hh k4 | replace hh := Gd2.same hh k4 | replace hh := Ob2.same hh k4 | replace hh := NE.same hh k4 | replace hh := NT.same hh k4 | replace hh := NEs.same hh k4 | replace hh := NX.same hh k4 | replace hh := EMs.same hh k4 | replace hh := EOs.same hh k4 | replace hh := EO.same hh k4 | replace hh := GT.same hh k4 | replace hh := GTs.same hh k4 | replace hh := RB.same hh k4 | replace hh := RBs.same hh k4 | replace hh := RB2s.same hh k4 | replace hh := GR.same hh k4 | replace hh := GRs.same hh k4 | replace hh := NO.same hh k4 | replace hh := NOs.same hh k4 | replace hh := NZ.same hh k4 | replace hh := NB.same hh k4 | replace hh := NBs.same hh k4 | replace hh := NQ.same hh k4 | replace hh := NQs.same hh k4 | replace hh := NX'.same hh k4
    first | replace so2 := HF.same so2 k4 | replace so2 := WF.same so2 k4 | replace so2 := FT.same so2 k4 | replace so2 := Fd.same so2 k4 | replace so2 := LsD.same so2 k4 | replace so2 := TK.same k4 _ _ so2 | replace so2 := KeysT.tk so2 (TK.same k4) | replace so2 := KeysU.tk so2 (TK.same k4) | replace so2 := KeysN.tk so2 (TK.same k4) | replace so2 := DayV.tk so2 (TK.same k4) | replace so2 := Dp.same k4 _ _ so2 | replace so2 := DpAll.same k4 _ _ so2 | replace so2 := k4 _ _ so2 | replace so2 := Ch.trans so2 (Ch.of_same k4) | replace so2 := Same.trans so2 k4 | replace so2 := stepsAt.same so2 k4 | replace so2 := DpT.same so2 k4 | replace so2 := LOr.same so2 k4 | replace so2 := Ob.same so2 k4 | replace so2 := Gds.same so2 k4 | replace so2 := Gd2.same so2 k4 | replace so2 := Ob2.same so2 k4 | replace so2 := NE.same so2 k4 | replace so2 := NT.same so2 k4 | replace so2 := NEs.same so2 k4 | replace so2 := NX.same so2 k4 | replace so2 := EMs.same so2 k4 | replace so2 := EOs.same so2 k4 | replace so2 := EO.same so2 k4 | replace so2 := GT.same so2 k4 | replace so2 := GTs.same so2 k4 | replace so2 := RB.same so2 k4 | replace so2 := RBs.same so2 k4 | replace so2 := RB2s.same so2 k4 | replace so2 := GR.same so2 k4 | replace so2 := GRs.same so2 k4 | replace so2 := NO.same so2 k4 | replace so2 := NOs.same so2 k4 | replace so2 := NZ.same so2 k4 | replace so2 := NB.same so2 k4 | replace so2 := NBs.same so2 k4 | replace so2 := NQ.same so2 k4 | replace so2 := NQs.same so2 k4 | replace so2 := NX'.same so2 k4
    first | replace sb := HF.same sb k4 | replace sb := WF.same sb k4 | replace sb := FT.same sb k4 | replace sb := Fd.same sb k4 | replace sb := LsD.same sb k4 | replace sb := TK.same k4 _ _ sb | replace sb := KeysT.tk sb (TK.same k4) | replace sb := KeysU.tk sb (TK.same k4) | replace sb := KeysN.tk sb (TK.same k4) | replace sb := DayV.tk sb (TK.same k4) | replace sb := Dp.same k4 _ _ sb | replace sb := DpAll.same k4 _ _ sb | replace sb := k4 _ _ sb | replace sb := Ch.trans sb (Ch.of_same k4) | replace sb := Same.trans sb k4 | replace sb := stepsAt.same sb k4 | replace sb := DpT.same sb k4 | replace sb := LOr.same sb k4 | replace sb := Ob.same sb k4 | replace sb := Gds.same sb k4 | replace sb := Gd2.same sb k4 | replace sb := Ob2.same sb k4 | replace sb := NE.same sb k4 | replace sb := NT.same sb k4 | replace sb := NEs.same sb k4 | replace sb := NX.same sb k4 | replace sb := EMs.same sb k4 | replace sb := EOs.same sb k4 | replace sb := EO.same sb k4 | replace sb := GT.same sb k4 | replace sb := GTs.same sb k4 | replace sb := RB.same sb k4 | replace sb := RBs.same sb k4 | replace sb := RB2s.same sb k4 | replace sb := GR.same sb k4 | replace sb := GRs.same sb k4 | replace sb := NO.same sb k4 | replace sb := NOs.same sb k4 | replace sb := NZ.same sb k4 | replace sb := NB.same sb k4 | replace sb := NBs.same sb k4 | replace sb := NQ.same sb k4 | replace sb := NQs.same sb k4 | replace sb := NX'.same sb k4
    first | replace k1 := HF.same k1 k4 | replace k1 := WF.same k1 k4 | replace k1 := FT.same k1 k4 | replace k1 := Fd.same k1 k4 | replace k1 := LsD.same k1 k4 | replace k1 := TK.same k4 _ _ k1 | replace k1 := KeysT.tk k1 (TK.same k4) | replace k1 := KeysU.tk k1 (TK.same k4) | replace k1 := KeysN.tk k1 (TK.same k4) | replace k1 := DayV.tk k1 (TK.same k4) | replace k1 := Dp.same k4 _ _ k1 | replace k1 := DpAll.same k4 _ _ k1 | replace k1 := k4 _ _ k1 | replace k1 := Ch.trans k1 (Ch.of_same k4) | replace k1 := Same.trans k1 k4 | replace k1 := stepsAt.same k1 k4 | replace k1 := DpT.same k1 k4 | replace k1 := LOr.same k1 k4 | replace k1 := Ob.same k1 k4 | replace k1 := Gds.same k1 k4 | replace k1 := Gd2.same k1 k4 | replace k1 := Ob2.same k1 k4 | replace k1 := NE.same k1 k4 | replace k1 := NT.same k1 k4 | replace k1 := NEs.same k1 k4 | replace k1 := NX.same k1 k4 | replace k1 := EMs.same k1 k4 | replace k1 := EOs.same k1 k4 | replace k1 := EO.same k1 k4 | replace k1 := GT.same k1 k4 | replace k1 := GTs.same k1 k4 | replace k1 := RB.same k1 k4 | replace k1 := RBs.same k1 k4 | replace k1 := RB2s.same k1 k4 | replace k1 := GR.same k1 k4 | replace k1 := GRs.same k1 k4 | replace k1 := NO.same k1 k4 | replace k1 := NOs.same k1 k4 | replace k1 := NZ.same k1 k4 | replace k1 := NB.same k1 k4 | replace k1 := NBs.same k1 k4 | replace k1 := NQ.same k1 k4 | replace k1 := NQs.same k1 k4 | replace k1 := NX'.same k1 k4
    replace e4 : H4 M1 = some (.lst (natsV (dayL k ps rs ds qs))) := e4
    repeat' (walk_at "jv")
    refine ⟨.ref ta, o2, k, ps, rs, ds, os, rfl, hh, hH, so2, mo, fun M2 H5 n5 k5 e5 => ?_⟩
    first | replace hh := HF.same hh k5 | replace hh := WF.same hh k5 | replace hh := FT.same hh k5 | replace hh := Fd.same hh k5 | replace hh := LsD.same hh k5 | replace hh := TK.same k5 _ _ hh | replace hh := KeysT.tk hh (TK.same k5) | replace hh := KeysU.tk hh (TK.same k5) | replace hh := KeysN.tk hh (TK.same k5) | replace hh := DayV.tk hh (TK.same k5) | replace hh := Dp.same k5 _ _ hh | replace hh := DpAll.same k5 _ _ hh | replace hh := k5 _ _ hh | replace hh := Ch.trans hh (Ch.of_same k5) | replace hh := Same.trans hh k5 | replace hh := stepsAt.same hh k5 | replace hh := DpT.same hh k5 | replace hh := LOr.same hh k5 | replace hh := Ob.same hh k5 | replace hh := Gds.same hh k5 | replace hh := Gd2.same hh k5 | replace hh := Ob2.same hh k5 | replace hh := NE.same hh k5 | replace hh := NT.same hh k5 | replace hh := NEs.same hh k5 | replace hh := NX.same hh k5 | replace hh := EMs.same hh k5 | replace hh := EOs.same hh k5 | replace hh := EO.same hh k5 | replace hh := GT.same hh k5 | replace hh := GTs.same hh k5 | replace hh := RB.same hh k5 | replace hh := RBs.same hh k5 | replace hh := RB2s.same hh k5 | replace hh := GR.same hh k5 | replace hh := GRs.same hh k5 | replace hh := NO.same hh k5 | replace hh := NOs.same hh k5 | replace hh := NZ.same hh k5 | replace hh := NB.same hh k5 | replace hh := NBs.same hh k5 | replace hh := NQ.same hh k5 | replace hh := NQs.same hh k5 | replace hh := NX'.same hh k5
    first | replace sb := HF.same sb k5 | replace sb := WF.same sb k5 | replace sb := FT.same sb k5 | replace sb := Fd.same sb k5 | replace sb := LsD.same sb k5 | replace sb := TK.same k5 _ _ sb | replace sb := KeysT.tk sb (TK.same k5) | replace sb := KeysU.tk sb (TK.same k5) | replace sb := KeysN.tk sb (TK.same k5) | replace sb := DayV.tk sb (TK.same k5) | replace sb := Dp.same k5 _ _ sb | replace sb := DpAll.same k5 _ _ sb | replace sb := k5 _ _ sb | replace sb := Ch.trans sb (Ch.of_same k5) | replace sb := Same.trans sb k5 | replace sb := stepsAt.same sb k5 | replace sb := DpT.same sb k5 | replace sb := LOr.same sb k5 | replace sb := Ob.same sb k5 | replace sb := Gds.same sb k5 | replace sb := Gd2.same sb k5 | replace sb := Ob2.same sb k5 | replace sb := NE.same sb k5 | replace sb := NT.same sb k5 | replace sb := NEs.same sb k5 | replace sb := NX.same sb k5 | replace sb := EMs.same sb k5 | replace sb := EOs.same sb k5 | replace sb := EO.same sb k5 | replace sb := GT.same sb k5 | replace sb := GTs.same sb k5 | replace sb := RB.same sb k5 | replace sb := RBs.same sb k5 | replace sb := RB2s.same sb k5 | replace sb := GR.same sb k5 | replace sb := GRs.same sb k5 | replace sb := NO.same sb k5 | replace sb := NOs.same sb k5 | replace sb := NZ.same sb k5 | replace sb := NB.same sb k5 | replace sb := NBs.same sb k5 | replace sb := NQ.same sb k5 | replace sb := NQs.same sb k5 | replace sb := NX'.same sb k5
    first | replace k1 := HF.same k1 k5 | replace k1 := WF.same k1 k5 | replace k1 := FT.same k1 k5 | replace k1 := Fd.same k1 k5 | replace k1 := LsD.same k1 k5 | replace k1 := TK.same k5 _ _ k1 | replace k1 := KeysT.tk k1 (TK.same k5) | replace k1 := KeysU.tk k1 (TK.same k5) | replace k1 := KeysN.tk k1 (TK.same k5) | replace k1 := DayV.tk k1 (TK.same k5) | replace k1 := Dp.same k5 _ _ k1 | replace k1 := DpAll.same k5 _ _ k1 | replace k1 := k5 _ _ k1 | replace k1 := Ch.trans k1 (Ch.of_same k5) | replace k1 := Same.trans k1 k5 | replace k1 := stepsAt.same k1 k5 | replace k1 := DpT.same k1 k5 | replace k1 := LOr.same k1 k5 | replace k1 := Ob.same k1 k5 | replace k1 := Gds.same k1 k5 | replace k1 := Gd2.same k1 k5 | replace k1 := Ob2.same k1 k5 | replace k1 := NE.same k1 k5 | replace k1 := NT.same k1 k5 | replace k1 := NEs.same k1 k5 | replace k1 := NX.same k1 k5 | replace k1 := EMs.same k1 k5 | replace k1 := EOs.same k1 k5 | replace k1 := EO.same k1 k5 | replace k1 := GT.same k1 k5 | replace k1 := GTs.same k1 k5 | replace k1 := RB.same k1 k5 | replace k1 := RBs.same k1 k5 | replace k1 := RB2s.same k1 k5 | replace k1 := GR.same k1 k5 | replace k1 := GRs.same k1 k5 | replace k1 := NO.same k1 k5 | replace k1 := NOs.same k1 k5 | replace k1 := NZ.same k1 k5 | replace k1 := NB.same k1 k5 | replace k1 := NBs.same k1 k5 | replace k1 := NQ.same k1 k5 | replace k1 := NQs.same k1 k5 | replace k1 := NX'.same k1 k5
    first | replace e4 := HF.same e4 k5 | replace e4 := WF.same e4 k5 | replace e4 := FT.same e4 k5 | replace e4 := Fd.same e4 k5 | replace e4 := LsD.same e4 k5 | replace e4 := TK.same k5 _ _ e4 | replace e4 := KeysT.tk e4 (TK.same k5) | replace e4 := KeysU.tk e4 (TK.same k5) | replace e4 := KeysN.tk e4 (TK.same k5) | replace e4 := DayV.tk e4 (TK.same k5) | replace e4 := Dp.same k5 _ _ e4 | replace e4 := DpAll.same k5 _ _ e4 | replace e4 := k5 _ _ e4 | replace e4 := Ch.trans e4 (Ch.of_same k5) | replace e4 := Same.trans e4 k5 | replace e4 := stepsAt.same e4 k5 | replace e4 := DpT.same e4 k5 | replace e4 := LOr.same e4 k5 | replace e4 := Ob.same e4 k5 | replace e4 := Gds.same e4 k5 | replace e4 := Gd2.same e4 k5 | replace e4 := Ob2.same e4 k5 | replace e4 := NE.same e4 k5 | replace e4 := NT.same e4 k5 | replace e4 := NEs.same e4 k5 | replace e4 := NX.same e4 k5 | replace e4 := EMs.same e4 k5 | replace e4 := EOs.same e4 k5 | replace e4 := EO.same e4 k5 | replace e4 := GT.same e4 k5 | replace e4 := GTs.same e4 k5 | replace e4 := RB.same e4 k5 | replace e4 := RBs.same e4 k5 | replace e4 := RB2s.same e4 k5 | replace e4 := GR.same e4 k5 | replace e4 := GRs.same e4 k5 | replace e4 := NO.same e4 k5 | replace e4 := NOs.same e4 k5 | replace e4 := NZ.same e4 k5 | replace e4 := NB.same e4 k5 | replace e4 := NBs.same e4 k5 | replace e4 := NQ.same e4 k5 | replace e4 := NQs.same e4 k5 | replace e4 := NX'.same e4 k5
    replace e5 : H5 M2 = some (.lst (natsV (dayL k ps rs ds os))) := e5
    repeat' (walk_at "jv")
    refine ⟨.ref ta, st, k, ps, rs, ds, t, rfl, hh.dp, sb, by rcases hH.two with e | e <;> omega, ?_⟩
    have n1 : (natsV (dayL k ps rs ds qs)).length = k ^ ps.length := by rw [nats_len, dayL_len]
    have hat : ∀ (ord : List Str), (∀ z ∈ ord, z ∈ ps) → ∀ u : List Nat, u.length = ps.length → (∀ x ∈ u, x < k) → atI (natsV (dayL k ps rs ds ord)) ((numN k u : Nat) : Int) = some (.int ((numN k (dayN k ps rs ds u ord) : Nat) : Int)) := fun ord mz u hl hk => atI_nat (by
      unfold natsV
      rw [List.getElem?_map, dayL_num (rs := rs) (ds := ds) hH mz hl hk]
      rfl)
    repeat' (walk_at "jv")
    have hm : (((natsV (dayL k ps rs ds qs)).length : Int) + 1 - 1).toNat = k ^ ps.length := by rw [n1]; omega
    rw [hm]
    refine f_range (fun i σ H' => ∃ (y : Option V), σ = [some (.ref ta), some (.ref o), some (.ref o2), some (.ref st), some (.ref M1), some (.ref M2), some (.int (numN k (dIt k ps rs ds qs t i) : Nat)), y] ∧ (∀ j, j < i → SameAt k ps rs ds qs os t j) ∧ Same H5 H') ⟨none, rfl, fun j hj => absurd hj (Nat.not_lt_zero _), Same.refl _⟩ (fun i σ H' hi h => ?_) (fun σ H' h => ?_)
    · obtain ⟨y, rfl, hs, kk⟩ := h
      have ul : (dIt k ps rs ds qs t i).length = ps.length := by rw [dIt_len, tl]
      have uk := dIt_lt (rs := rs) (ds := ds) hH mq tk i
      have a1 := hat qs mq _ ul uk
      have a2 := hat os mo _ ul uk
      have e41 := kk _ _ e4
      have e51 := kk _ _ e5
      have v1 := day_lt (rs := rs) (ds := ds) hH _ _ mq uk
      have v2 := day_lt (rs := rs) (ds := ds) hH _ _ mo uk
      repeat' (walk_at "jv")
      · rename_i hne
        have hd : ¬ SameAt k ps rs ds qs os t i := fun e => hne (by unfold SameAt at e; rw [e])
        have := q (some (i + 1)) H' (.day i hi hd hs) (k1.trans kk)
        rw [show (1 : Int) + (i : Int) = ((i + 1 : Nat) : Int) from by omega]
        exact this
      · rename_i hne
        have he : numN k (dayN k ps rs ds (dIt k ps rs ds qs t i) qs) = numN k (dayN k ps rs ds (dIt k ps rs ds qs t i) os) := Classical.byContradiction fun n => hne (fun e => n (Int.ofNat_inj.mp e))
        have hd : SameAt k ps rs ds qs os t i := num_one (by rw [day_len, ul]) (by rw [day_len, ul]) v1 v2 he
        refine ⟨_, rfl, fun j hj => ?_, kk⟩
        rcases Nat.lt_or_eq_of_le (Nat.le_of_lt_succ hj) with c | c
        · exact hs j c
        · rw [c]
          exact hd
    · obtain ⟨y, rfl, hs, kk⟩ := h
      repeat' (walk_at "jv")
      exact q none H' (.never hs) (k1.trans kk)
theorem ok_watched (D : Dn K mg "watched" s_watched ["hall", "order", "state", "place", "count"]) (B : Bn mg) (hto : ∃ t, mg "MOST_TOLD" = some (.int 500 t)) (C_need_start : Cl P w K mg base 10 "need_start" ["hall", "order", "state"] (spNeedStart K)) (C_need_place : Cl P w K mg base 2 "need_place" ["web", "place"] (spNeedPlace K)) (C_need_count : Cl P w K mg base 2 "need_count" ["count", "most"] spNeedCount) (C__told : Cl P w K mg base 7 "_told" ["hall", "order", "state", "count"] (spTold K)) : Cl P w K mg base 11 "watched" ["hall", "order", "state", "place", "count"] (spWatched K) := by
  obtain ⟨t0, c_MOST_TOLD⟩ := hto
  refine D.cl sc_watched (fun vs H Q E h => ?_) (fun f cdv A outer s H vs Q E hr h => ?_)
  · obtain ⟨v, o, st, z, n, k, ps, rs, ds, ord, t, rfl, _⟩ := h
    rfl
  · obtain ⟨v, o, st, z, n, k, ps, rs, ds, ord, t, rfl, hh, hH, so, pm, sb, tl, tk, mz, hn, q⟩ := h
    obtain ⟨ta, T0, wv, rfl, sh, hw, dT, uT⟩ := id hh
    clear dT uT
    refine ⟨_, (pss_cons (ps_expr (pe_c C_need_start hr (pa_cons (pv 0) (pa_cons (pv 1) (pa_cons (pv 2) pa_nil)))))
      (pss_cons (ps_expr (pe_c C_need_place hr (pa_cons (pe_ix (k_ixT (K := K)) (pv 0) pe_int (fun _ _ => rfl)) (pa_cons (pv 3) pa_nil))))
      (pss_cons (ps_expr (pe_c C_need_count hr (pa_cons (pv 4) (pa_cons (gl_int c_MOST_TOLD) pa_nil))))
      (pss_cons (ps_set (i := 5) sc_watched.nd rfl (by first | exact Or.inl rfl | exact Or.inr rfl) (pe_bmF PySem.F.plainAttrs_tuple PySem.F.slot_tuple_index PySem.F.type_tuple_index (k_tindex (K := K)) (pe_ix (k_ixT (K := K)) (pe_ix (k_ixT (K := K)) (pv 0) pe_int (fun _ _ => rfl)) pe_int (fun _ _ => rfl)) (pa_cons (pv 3) pa_nil)))
      (pss_one (ps_ret (pe_callTy (k_tuple (K := K)) rfl B.tuple_ (by decide +kernel) (pa_cons (pe_lc (own := [("told", 6)]) rfl sc_watched.nd (kpi_list (K := K) (pe_c C__told hr (pa_cons (pv 0) (pa_cons (pv 1) (pa_cons (pv 2) (pa_cons (pv 4) pa_nil)))))) (blkOk_by (N := ["hall", "order", "state", "place", "count", "number", "told"]) (sc := defScope s_watched) (by decide +kernel)) (fun _ _ _ _ _ => (pg_name (i := 6) sc_watched.nd rfl (by first | exact Or.inl rfl | exact Or.inr rfl))) (fun _ _ _ _ _ => pts_nil) (fun _ _ _ _ _ => (pe_ix (k_ixT (K := K)) (pv 6) (pv 5) (fun _ _ => rfl)))) pa_nil)))))))), ?_⟩
    repeat' (walk_at "jv")
    refine ⟨.ref ta, o, st, ord, k, ps, rs, ds, t, rfl, hh.dp, hH, so, pm, sb, tl, tk, fun H1 k1 => ?_⟩
    first | replace hh := HF.same hh k1 | replace hh := WF.same hh k1 | replace hh := FT.same hh k1 | replace hh := Fd.same hh k1 | replace hh := LsD.same hh k1 | replace hh := TK.same k1 _ _ hh | replace hh := KeysT.tk hh (TK.same k1) | replace hh := KeysU.tk hh (TK.same k1) | replace hh := KeysN.tk hh (TK.same k1) | replace hh := DayV.tk hh (TK.same k1) | replace hh := Dp.same k1 _ _ hh | replace hh := DpAll.same k1 _ _ hh | replace hh := k1 _ _ hh | replace hh := Ch.trans hh (Ch.of_same k1) | replace hh := Same.trans hh k1 | replace hh := stepsAt.same hh k1 | replace hh := DpT.same hh k1 | replace hh := LOr.same hh k1 | replace hh := Ob.same hh k1 | replace hh := Gds.same hh k1 | replace hh := Gd2.same hh k1 | replace hh := Ob2.same hh k1 | replace hh := NE.same hh k1 | replace hh := NT.same hh k1 | replace hh := NEs.same hh k1 | replace hh := NX.same hh k1 | replace hh := EMs.same hh k1 | replace hh := EOs.same hh k1 | replace hh := EO.same hh k1 | replace hh := GT.same hh k1 | replace hh := GTs.same hh k1 | replace hh := RB.same hh k1 | replace hh := RBs.same hh k1 | replace hh := RB2s.same hh k1 | replace hh := GR.same hh k1 | replace hh := GRs.same hh k1 | replace hh := NO.same hh k1 | replace hh := NOs.same hh k1 | replace hh := NZ.same hh k1 | replace hh := NB.same hh k1 | replace hh := NBs.same hh k1 | replace hh := NQ.same hh k1 | replace hh := NQs.same hh k1 | replace hh := NX'.same hh k1
    first | replace so := HF.same so k1 | replace so := WF.same so k1 | replace so := FT.same so k1 | replace so := Fd.same so k1 | replace so := LsD.same so k1 | replace so := TK.same k1 _ _ so | replace so := KeysT.tk so (TK.same k1) | replace so := KeysU.tk so (TK.same k1) | replace so := KeysN.tk so (TK.same k1) | replace so := DayV.tk so (TK.same k1) | replace so := Dp.same k1 _ _ so | replace so := DpAll.same k1 _ _ so | replace so := k1 _ _ so | replace so := Ch.trans so (Ch.of_same k1) | replace so := Same.trans so k1 | replace so := stepsAt.same so k1 | replace so := DpT.same so k1 | replace so := LOr.same so k1 | replace so := Ob.same so k1 | replace so := Gds.same so k1 | replace so := Gd2.same so k1 | replace so := Ob2.same so k1 | replace so := NE.same so k1 | replace so := NT.same so k1 | replace so := NEs.same so k1 | replace so := NX.same so k1 | replace so := EMs.same so k1 | replace so := EOs.same so k1 | replace so := EO.same so k1 | replace so := GT.same so k1 | replace so := GTs.same so k1 | replace so := RB.same so k1 | replace so := RBs.same so k1 | replace so := RB2s.same so k1 | replace so := GR.same so k1 | replace so := GRs.same so k1 | replace so := NO.same so k1 | replace so := NOs.same so k1 | replace so := NZ.same so k1 | replace so := NB.same so k1 | replace so := NBs.same so k1 | replace so := NQ.same so k1 | replace so := NQs.same so k1 | replace so := NX'.same so k1
    first | replace sb := HF.same sb k1 | replace sb := WF.same sb k1 | replace sb := FT.same sb k1 | replace sb := Fd.same sb k1 | replace sb := LsD.same sb k1 | replace sb := TK.same k1 _ _ sb | replace sb := KeysT.tk sb (TK.same k1) | replace sb := KeysU.tk sb (TK.same k1) | replace sb := KeysN.tk sb (TK.same k1) | replace sb := DayV.tk sb (TK.same k1) | replace sb := Dp.same k1 _ _ sb | replace sb := DpAll.same k1 _ _ sb | replace sb := k1 _ _ sb | replace sb := Ch.trans sb (Ch.of_same k1) | replace sb := Same.trans sb k1 | replace sb := stepsAt.same sb k1 | replace sb := DpT.same sb k1 | replace sb := LOr.same sb k1 | replace sb := Ob.same sb k1 | replace sb := Gds.same sb k1 | replace sb := Gd2.same sb k1 | replace sb := Ob2.same sb k1 | replace sb := NE.same sb k1 | replace sb := NT.same sb k1 | replace sb := NEs.same sb k1 | replace sb := NX.same sb k1 | replace sb := EMs.same sb k1 | replace sb := EOs.same sb k1 | replace sb := EO.same sb k1 | replace sb := GT.same sb k1 | replace sb := GTs.same sb k1 | replace sb := RB.same sb k1 | replace sb := RBs.same sb k1 | replace sb := RB2s.same sb k1 | replace sb := GR.same sb k1 | replace sb := GRs.same sb k1 | replace sb := NO.same sb k1 | replace sb := NOs.same sb k1 | replace sb := NZ.same sb k1 | replace sb := NB.same sb k1 | replace sb := NBs.same sb k1 | replace sb := NQ.same sb k1 | replace sb := NQs.same sb k1 | replace sb := NX'.same sb k1
    first | replace sh := HF.same sh k1 | replace sh := WF.same sh k1 | replace sh := FT.same sh k1 | replace sh := Fd.same sh k1 | replace sh := LsD.same sh k1 | replace sh := TK.same k1 _ _ sh | replace sh := KeysT.tk sh (TK.same k1) | replace sh := KeysU.tk sh (TK.same k1) | replace sh := KeysN.tk sh (TK.same k1) | replace sh := DayV.tk sh (TK.same k1) | replace sh := Dp.same k1 _ _ sh | replace sh := DpAll.same k1 _ _ sh | replace sh := k1 _ _ sh | replace sh := Ch.trans sh (Ch.of_same k1) | replace sh := Same.trans sh k1 | replace sh := stepsAt.same sh k1 | replace sh := DpT.same sh k1 | replace sh := LOr.same sh k1 | replace sh := Ob.same sh k1 | replace sh := Gds.same sh k1 | replace sh := Gd2.same sh k1 | replace sh := Ob2.same sh k1 | replace sh := NE.same sh k1 | replace sh := NT.same sh k1 | replace sh := NEs.same sh k1 | replace sh := NX.same sh k1 | replace sh := EMs.same sh k1 | replace sh := EOs.same sh k1 | replace sh := EO.same sh k1 | replace sh := GT.same sh k1 | replace sh := GTs.same sh k1 | replace sh := RB.same sh k1 | replace sh := RBs.same sh k1 | replace sh := RB2s.same sh k1 | replace sh := GR.same sh k1 | replace sh := GRs.same sh k1 | replace sh := NO.same sh k1 | replace sh := NOs.same sh k1 | replace sh := NZ.same sh k1 | replace sh := NB.same sh k1 | replace sh := NBs.same sh k1 | replace sh := NQ.same sh k1 | replace sh := NQs.same sh k1 | replace sh := NX'.same sh k1
    first | replace hw := HF.same hw k1 | replace hw := WF.same hw k1 | replace hw := FT.same hw k1 | replace hw := Fd.same hw k1 | replace hw := LsD.same hw k1 | replace hw := TK.same k1 _ _ hw | replace hw := KeysT.tk hw (TK.same k1) | replace hw := KeysU.tk hw (TK.same k1) | replace hw := KeysN.tk hw (TK.same k1) | replace hw := DayV.tk hw (TK.same k1) | replace hw := Dp.same k1 _ _ hw | replace hw := DpAll.same k1 _ _ hw | replace hw := k1 _ _ hw | replace hw := Ch.trans hw (Ch.of_same k1) | replace hw := Same.trans hw k1 | replace hw := stepsAt.same hw k1 | replace hw := DpT.same hw k1 | replace hw := LOr.same hw k1 | replace hw := Ob.same hw k1 | replace hw := Gds.same hw k1 | replace hw := Gd2.same hw k1 | replace hw := Ob2.same hw k1 | replace hw := NE.same hw k1 | replace hw := NT.same hw k1 | replace hw := NEs.same hw k1 | replace hw := NX.same hw k1 | replace hw := EMs.same hw k1 | replace hw := EOs.same hw k1 | replace hw := EO.same hw k1 | replace hw := GT.same hw k1 | replace hw := GTs.same hw k1 | replace hw := RB.same hw k1 | replace hw := RBs.same hw k1 | replace hw := RB2s.same hw k1 | replace hw := GR.same hw k1 | replace hw := GRs.same hw k1 | replace hw := NO.same hw k1 | replace hw := NOs.same hw k1 | replace hw := NZ.same hw k1 | replace hw := NB.same hw k1 | replace hw := NBs.same hw k1 | replace hw := NQ.same hw k1 | replace hw := NQs.same hw k1 | replace hw := NX'.same hw k1
    repeat' (walk_at "jv")
    refine ⟨wv, z, ps, rs, rfl, hw.dp, mz, ?_⟩
    repeat' (walk_at "jv")
    refine ⟨n, 500, rfl, by omega, by omega, fun H2 k2 => ?_⟩
    first | replace hh := HF.same hh k2 | replace hh := WF.same hh k2 | replace hh := FT.same hh k2 | replace hh := Fd.same hh k2 | replace hh := LsD.same hh k2 | replace hh := TK.same k2 _ _ hh | replace hh := KeysT.tk hh (TK.same k2) | replace hh := KeysU.tk hh (TK.same k2) | replace hh := KeysN.tk hh (TK.same k2) | replace hh := DayV.tk hh (TK.same k2) | replace hh := Dp.same k2 _ _ hh | replace hh := DpAll.same k2 _ _ hh | replace hh := k2 _ _ hh | replace hh := Ch.trans hh (Ch.of_same k2) | replace hh := Same.trans hh k2 | replace hh := stepsAt.same hh k2 | replace hh := DpT.same hh k2 | replace hh := LOr.same hh k2 | replace hh := Ob.same hh k2 | replace hh := Gds.same hh k2 | replace hh := Gd2.same hh k2 | replace hh := Ob2.same hh k2 | replace hh := NE.same hh k2 | replace hh := NT.same hh k2 | replace hh := NEs.same hh k2 | replace hh := NX.same hh k2 | replace hh := EMs.same hh k2 | replace hh := EOs.same hh k2 | replace hh := EO.same hh k2 | replace hh := GT.same hh k2 | replace hh := GTs.same hh k2 | replace hh := RB.same hh k2 | replace hh := RBs.same hh k2 | replace hh := RB2s.same hh k2 | replace hh := GR.same hh k2 | replace hh := GRs.same hh k2 | replace hh := NO.same hh k2 | replace hh := NOs.same hh k2 | replace hh := NZ.same hh k2 | replace hh := NB.same hh k2 | replace hh := NBs.same hh k2 | replace hh := NQ.same hh k2 | replace hh := NQs.same hh k2 | replace hh := NX'.same hh k2
    first | replace so := HF.same so k2 | replace so := WF.same so k2 | replace so := FT.same so k2 | replace so := Fd.same so k2 | replace so := LsD.same so k2 | replace so := TK.same k2 _ _ so | replace so := KeysT.tk so (TK.same k2) | replace so := KeysU.tk so (TK.same k2) | replace so := KeysN.tk so (TK.same k2) | replace so := DayV.tk so (TK.same k2) | replace so := Dp.same k2 _ _ so | replace so := DpAll.same k2 _ _ so | replace so := k2 _ _ so | replace so := Ch.trans so (Ch.of_same k2) | replace so := Same.trans so k2 | replace so := stepsAt.same so k2 | replace so := DpT.same so k2 | replace so := LOr.same so k2 | replace so := Ob.same so k2 | replace so := Gds.same so k2 | replace so := Gd2.same so k2 | replace so := Ob2.same so k2 | replace so := NE.same so k2 | replace so := NT.same so k2 | replace so := NEs.same so k2 | replace so := NX.same so k2 | replace so := EMs.same so k2 | replace so := EOs.same so k2 | replace so := EO.same so k2 | replace so := GT.same so k2 | replace so := GTs.same so k2 | replace so := RB.same so k2 | replace so := RBs.same so k2 | replace so := RB2s.same so k2 | replace so := GR.same so k2 | replace so := GRs.same so k2 | replace so := NO.same so k2 | replace so := NOs.same so k2 | replace so := NZ.same so k2 | replace so := NB.same so k2 | replace so := NBs.same so k2 | replace so := NQ.same so k2 | replace so := NQs.same so k2 | replace so := NX'.same so k2
    first | replace sb := HF.same sb k2 | replace sb := WF.same sb k2 | replace sb := FT.same sb k2 | replace sb := Fd.same sb k2 | replace sb := LsD.same sb k2 | replace sb := TK.same k2 _ _ sb | replace sb := KeysT.tk sb (TK.same k2) | replace sb := KeysU.tk sb (TK.same k2) | replace sb := KeysN.tk sb (TK.same k2) | replace sb := DayV.tk sb (TK.same k2) | replace sb := Dp.same k2 _ _ sb | replace sb := DpAll.same k2 _ _ sb | replace sb := k2 _ _ sb | replace sb := Ch.trans sb (Ch.of_same k2) | replace sb := Same.trans sb k2 | replace sb := stepsAt.same sb k2 | replace sb := DpT.same sb k2 | replace sb := LOr.same sb k2 | replace sb := Ob.same sb k2 | replace sb := Gds.same sb k2 | replace sb := Gd2.same sb k2 | replace sb := Ob2.same sb k2 | replace sb := NE.same sb k2 | replace sb := NT.same sb k2 | replace sb := NEs.same sb k2 | replace sb := NX.same sb k2 | replace sb := EMs.same sb k2 | replace sb := EOs.same sb k2 | replace sb := EO.same sb k2 | replace sb := GT.same sb k2 | replace sb := GTs.same sb k2 | replace sb := RB.same sb k2 | replace sb := RBs.same sb k2 | replace sb := RB2s.same sb k2 | replace sb := GR.same sb k2 | replace sb := GRs.same sb k2 | replace sb := NO.same sb k2 | replace sb := NOs.same sb k2 | replace sb := NZ.same sb k2 | replace sb := NB.same sb k2 | replace sb := NBs.same sb k2 | replace sb := NQ.same sb k2 | replace sb := NQs.same sb k2 | replace sb := NX'.same sb k2
    first | replace sh := HF.same sh k2 | replace sh := WF.same sh k2 | replace sh := FT.same sh k2 | replace sh := Fd.same sh k2 | replace sh := LsD.same sh k2 | replace sh := TK.same k2 _ _ sh | replace sh := KeysT.tk sh (TK.same k2) | replace sh := KeysU.tk sh (TK.same k2) | replace sh := KeysN.tk sh (TK.same k2) | replace sh := DayV.tk sh (TK.same k2) | replace sh := Dp.same k2 _ _ sh | replace sh := DpAll.same k2 _ _ sh | replace sh := k2 _ _ sh | replace sh := Ch.trans sh (Ch.of_same k2) | replace sh := Same.trans sh k2 | replace sh := stepsAt.same sh k2 | replace sh := DpT.same sh k2 | replace sh := LOr.same sh k2 | replace sh := Ob.same sh k2 | replace sh := Gds.same sh k2 | replace sh := Gd2.same sh k2 | replace sh := Ob2.same sh k2 | replace sh := NE.same sh k2 | replace sh := NT.same sh k2 | replace sh := NEs.same sh k2 | replace sh := NX.same sh k2 | replace sh := EMs.same sh k2 | replace sh := EOs.same sh k2 | replace sh := EO.same sh k2 | replace sh := GT.same sh k2 | replace sh := GTs.same sh k2 | replace sh := RB.same sh k2 | replace sh := RBs.same sh k2 | replace sh := RB2s.same sh k2 | replace sh := GR.same sh k2 | replace sh := GRs.same sh k2 | replace sh := NO.same sh k2 | replace sh := NOs.same sh k2 | replace sh := NZ.same sh k2 | replace sh := NB.same sh k2 | replace sh := NBs.same sh k2 | replace sh := NQ.same sh k2 | replace sh := NQs.same sh k2 | replace sh := NX'.same sh k2
    first | replace hw := HF.same hw k2 | replace hw := WF.same hw k2 | replace hw := FT.same hw k2 | replace hw := Fd.same hw k2 | replace hw := LsD.same hw k2 | replace hw := TK.same k2 _ _ hw | replace hw := KeysT.tk hw (TK.same k2) | replace hw := KeysU.tk hw (TK.same k2) | replace hw := KeysN.tk hw (TK.same k2) | replace hw := DayV.tk hw (TK.same k2) | replace hw := Dp.same k2 _ _ hw | replace hw := DpAll.same k2 _ _ hw | replace hw := k2 _ _ hw | replace hw := Ch.trans hw (Ch.of_same k2) | replace hw := Same.trans hw k2 | replace hw := stepsAt.same hw k2 | replace hw := DpT.same hw k2 | replace hw := LOr.same hw k2 | replace hw := Ob.same hw k2 | replace hw := Gds.same hw k2 | replace hw := Gd2.same hw k2 | replace hw := Ob2.same hw k2 | replace hw := NE.same hw k2 | replace hw := NT.same hw k2 | replace hw := NEs.same hw k2 | replace hw := NX.same hw k2 | replace hw := EMs.same hw k2 | replace hw := EOs.same hw k2 | replace hw := EO.same hw k2 | replace hw := GT.same hw k2 | replace hw := GTs.same hw k2 | replace hw := RB.same hw k2 | replace hw := RBs.same hw k2 | replace hw := RB2s.same hw k2 | replace hw := GR.same hw k2 | replace hw := GRs.same hw k2 | replace hw := NO.same hw k2 | replace hw := NOs.same hw k2 | replace hw := NZ.same hw k2 | replace hw := NB.same hw k2 | replace hw := NBs.same hw k2 | replace hw := NQ.same hw k2 | replace hw := NQs.same hw k2 | replace hw := NX'.same hw k2
    first | replace k1 := HF.same k1 k2 | replace k1 := WF.same k1 k2 | replace k1 := FT.same k1 k2 | replace k1 := Fd.same k1 k2 | replace k1 := LsD.same k1 k2 | replace k1 := TK.same k2 _ _ k1 | replace k1 := KeysT.tk k1 (TK.same k2) | replace k1 := KeysU.tk k1 (TK.same k2) | replace k1 := KeysN.tk k1 (TK.same k2) | replace k1 := DayV.tk k1 (TK.same k2) | replace k1 := Dp.same k2 _ _ k1 | replace k1 := DpAll.same k2 _ _ k1 | replace k1 := k2 _ _ k1 | replace k1 := Ch.trans k1 (Ch.of_same k2) | replace k1 := Same.trans k1 k2 | replace k1 := stepsAt.same k1 k2 | replace k1 := DpT.same k1 k2 | replace k1 := LOr.same k1 k2 | replace k1 := Ob.same k1 k2 | replace k1 := Gds.same k1 k2 | replace k1 := Gd2.same k1 k2 | replace k1 := Ob2.same k1 k2 | replace k1 := NE.same k1 k2 | replace k1 := NT.same k1 k2 | replace k1 := NEs.same k1 k2 | replace k1 := NX.same k1 k2 | replace k1 := EMs.same k1 k2 | replace k1 := EOs.same k1 k2 | replace k1 := EO.same k1 k2 | replace k1 := GT.same k1 k2 | replace k1 := GTs.same k1 k2 | replace k1 := RB.same k1 k2 | replace k1 := RBs.same k1 k2 | replace k1 := RB2s.same k1 k2 | replace k1 := GR.same k1 k2 | replace k1 := GRs.same k1 k2 | replace k1 := NO.same k1 k2 | replace k1 := NOs.same k1 k2 | replace k1 := NZ.same k1 k2 | replace k1 := NB.same k1 k2 | replace k1 := NBs.same k1 k2 | replace k1 := NQ.same k1 k2 | replace k1 := NQs.same k1 k2 | replace k1 := NX'.same k1 k2
    obtain ⟨tw, tp, tr, rfl, w1, w2, w3⟩ := hw
    repeat' (walk_at "jv")
    refine i_bmF ?_
    repeat' (walk_at "jv")
    have w2q := w2.sq (K := K)
    repeat' (walk_at "jv")
    refine ⟨⟨tp, _, rfl, w2⟩, ?_⟩
    repeat' (walk_at "jv")
    refine i_tix w2.sq mz ?_
    repeat' (walk_at "jv")
    refine ⟨.ref ta, o, st, n, k, ps, rs, ds, ord, t, rfl, hh, hH, so, pm, sb, tl, tk, hn, fun D H3 nD k3 lD => ?_⟩
    obtain ⟨us, eD, dD, tD⟩ := lD
    have hsl : (storyL k ps rs ds ord t n).length = n + 1 := by
      unfold storyL
      rw [List.length_map, List.length_range]
    have hul : us.length = n + 1 := by rw [DpAll.len dD, List.length_map, hsl]
    have hix := List.idxOf_lt_length_of_mem mz
    have mq : ∀ z ∈ ord, z ∈ ps := fun z hz => pm.mem_iff.mp hz
    repeat' (walk_at "jv")
    refine c_list us (fun C i H' => H3 C = none ∧ Same H3 H' ∧ H' C = some (.lst (natsV (((storyL k ps rs ds ord t n).take i).map fun u => u.getD (ps.idxOf z) 0)))) (fun C nC => ⟨nC, Same.upd_new nC, upd_same⟩) (fun C i H' _ h => sq_lst (h.2.1 _ _ eD)) (fun C i x H' hx h => ?_) (fun C H4 h => ?_)
    · obtain ⟨nC, kC, eC⟩ := h
      obtain ⟨d, hd, dx⟩ := DpAll.get (DpAll.same kC _ _ dD) hx
      rw [List.getElem?_map] at hd
      obtain ⟨u, hu, rfl⟩ := Option.map_eq_some_iff.mp hd
      have hi : i < (storyL k ps rs ds ord t n).length := (List.getElem?_eq_some_iff.mp hu).1
      have e1 : (storyL k ps rs ds ord t n).take (i + 1) = (storyL k ps rs ds ord t n).take i ++ [u] := take_push hu
      obtain ⟨b, rfl, sb2⟩ := st_ref dx
      have ul : u.length = ps.length := by
        obtain ⟨j, _, rfl⟩ := List.mem_map.mp (List.mem_of_getElem? hu)
        rw [dIt_len, tl]
      have hat : atI (natsV u) ((ps.idxOf z : Nat) : Int) = some (.int ((u.getD (ps.idxOf z) 0 : Nat) : Int)) := atI_nat (by
        unfold natsV
        rw [List.getElem?_map, List.getElem?_eq_getElem (by omega), List.getD_eq_getElem?_getD, List.getElem?_eq_getElem (by omega)]
        rfl)
      repeat' (walk_at "jv")
      refine i_lcE eC (by rw [nats_len, List.length_map, List.length_take, sizeLine_eq]; omega) ⟨nC, fun c oc y => (upd_ne (ne_of_none y nC)).trans (kC _ _ y), ?_⟩
      rw [e1, List.map_append]
      show (upd H' C _) C = some (.lst (natsV (_ ++ [u.getD (ps.idxOf z) 0])))
      rw [nats_snocW]
      exact upd_same
    · obtain ⟨nC, kC, eC⟩ := h
      rw [hul, ← hsl, List.take_length] at eC
      repeat' (walk_at "jv")
      intro T nT
      exact q T _ (k1.trans (k3.trans (kC.trans (Same.upd_new nT)))) (sq_tup upd_same)
theorem ok_watchedK (D : Dk5 K mg "watched" s_watched ["hall", "order", "state", "place", "count"] ["count", "place", "state", "order", "hall"]) (B : Bn mg) (hto : ∃ t, mg "MOST_TOLD" = some (.int 500 t)) (C_need_start : Cl P w K mg base 10 "need_start" ["hall", "order", "state"] (spNeedStart K)) (C_need_place : Cl P w K mg base 2 "need_place" ["web", "place"] (spNeedPlace K)) (C_need_count : Cl P w K mg base 2 "need_count" ["count", "most"] spNeedCount) (C__told : Cl P w K mg base 7 "_told" ["hall", "order", "state", "count"] (spTold K)) : ClK5 P w K mg base 11 "watched" ["hall", "order", "state", "place", "count"] ["count", "place", "state", "order", "hall"] (spWatched K) := by
  obtain ⟨t0, c_MOST_TOLD⟩ := hto
  refine D.cl sc_watched (fun vs H Q E h => ?_) (fun f cdv A outer s H vs Q E hr h => ?_)
  · obtain ⟨v, o, st, z, n, k, ps, rs, ds, ord, t, rfl, _⟩ := h
    rfl
  · obtain ⟨v, o, st, z, n, k, ps, rs, ds, ord, t, rfl, hh, hH, so, pm, sb, tl, tk, mz, hn, q⟩ := h
    obtain ⟨ta, T0, wv, rfl, sh, hw, dT, uT⟩ := id hh
    clear dT uT
    refine ⟨_, (pss_cons (ps_expr (pe_c C_need_start hr (pa_cons (pv 0) (pa_cons (pv 1) (pa_cons (pv 2) pa_nil)))))
      (pss_cons (ps_expr (pe_c C_need_place hr (pa_cons (pe_ix (k_ixT (K := K)) (pv 0) pe_int (fun _ _ => rfl)) (pa_cons (pv 3) pa_nil))))
      (pss_cons (ps_expr (pe_c C_need_count hr (pa_cons (pv 4) (pa_cons (gl_int c_MOST_TOLD) pa_nil))))
      (pss_cons (ps_set (i := 5) sc_watched.nd rfl (by first | exact Or.inl rfl | exact Or.inr rfl) (pe_bmF PySem.F.plainAttrs_tuple PySem.F.slot_tuple_index PySem.F.type_tuple_index (k_tindex (K := K)) (pe_ix (k_ixT (K := K)) (pe_ix (k_ixT (K := K)) (pv 0) pe_int (fun _ _ => rfl)) pe_int (fun _ _ => rfl)) (pa_cons (pv 3) pa_nil)))
      (pss_one (ps_ret (pe_callTy (k_tuple (K := K)) rfl B.tuple_ (by decide +kernel) (pa_cons (pe_lc (own := [("told", 6)]) rfl sc_watched.nd (kpi_list (K := K) (pe_c C__told hr (pa_cons (pv 0) (pa_cons (pv 1) (pa_cons (pv 2) (pa_cons (pv 4) pa_nil)))))) (blkOk_by (N := ["hall", "order", "state", "place", "count", "number", "told"]) (sc := defScope s_watched) (by decide +kernel)) (fun _ _ _ _ _ => (pg_name (i := 6) sc_watched.nd rfl (by first | exact Or.inl rfl | exact Or.inr rfl))) (fun _ _ _ _ _ => pts_nil) (fun _ _ _ _ _ => (pe_ix (k_ixT (K := K)) (pv 6) (pv 5) (fun _ _ => rfl)))) pa_nil)))))))), ?_⟩
    repeat' (walk_at "jv")
    refine ⟨.ref ta, o, st, ord, k, ps, rs, ds, t, rfl, hh.dp, hH, so, pm, sb, tl, tk, fun H1 k1 => ?_⟩
    first | replace hh := HF.same hh k1 | replace hh := WF.same hh k1 | replace hh := FT.same hh k1 | replace hh := Fd.same hh k1 | replace hh := LsD.same hh k1 | replace hh := TK.same k1 _ _ hh | replace hh := KeysT.tk hh (TK.same k1) | replace hh := KeysU.tk hh (TK.same k1) | replace hh := KeysN.tk hh (TK.same k1) | replace hh := DayV.tk hh (TK.same k1) | replace hh := Dp.same k1 _ _ hh | replace hh := DpAll.same k1 _ _ hh | replace hh := k1 _ _ hh | replace hh := Ch.trans hh (Ch.of_same k1) | replace hh := Same.trans hh k1 | replace hh := stepsAt.same hh k1 | replace hh := DpT.same hh k1 | replace hh := LOr.same hh k1 | replace hh := Ob.same hh k1 | replace hh := Gds.same hh k1 | replace hh := Gd2.same hh k1 | replace hh := Ob2.same hh k1 | replace hh := NE.same hh k1 | replace hh := NT.same hh k1 | replace hh := NEs.same hh k1 | replace hh := NX.same hh k1 | replace hh := EMs.same hh k1 | replace hh := EOs.same hh k1 | replace hh := EO.same hh k1 | replace hh := GT.same hh k1 | replace hh := GTs.same hh k1 | replace hh := RB.same hh k1 | replace hh := RBs.same hh k1 | replace hh := RB2s.same hh k1 | replace hh := GR.same hh k1 | replace hh := GRs.same hh k1 | replace hh := NO.same hh k1 | replace hh := NOs.same hh k1 | replace hh := NZ.same hh k1 | replace hh := NB.same hh k1 | replace hh := NBs.same hh k1 | replace hh := NQ.same hh k1 | replace hh := NQs.same hh k1 | replace hh := NX'.same hh k1
    first | replace so := HF.same so k1 | replace so := WF.same so k1 | replace so := FT.same so k1 | replace so := Fd.same so k1 | replace so := LsD.same so k1 | replace so := TK.same k1 _ _ so | replace so := KeysT.tk so (TK.same k1) | replace so := KeysU.tk so (TK.same k1) | replace so := KeysN.tk so (TK.same k1) | replace so := DayV.tk so (TK.same k1) | replace so := Dp.same k1 _ _ so | replace so := DpAll.same k1 _ _ so | replace so := k1 _ _ so | replace so := Ch.trans so (Ch.of_same k1) | replace so := Same.trans so k1 | replace so := stepsAt.same so k1 | replace so := DpT.same so k1 | replace so := LOr.same so k1 | replace so := Ob.same so k1 | replace so := Gds.same so k1 | replace so := Gd2.same so k1 | replace so := Ob2.same so k1 | replace so := NE.same so k1 | replace so := NT.same so k1 | replace so := NEs.same so k1 | replace so := NX.same so k1 | replace so := EMs.same so k1 | replace so := EOs.same so k1 | replace so := EO.same so k1 | replace so := GT.same so k1 | replace so := GTs.same so k1 | replace so := RB.same so k1 | replace so := RBs.same so k1 | replace so := RB2s.same so k1 | replace so := GR.same so k1 | replace so := GRs.same so k1 | replace so := NO.same so k1 | replace so := NOs.same so k1 | replace so := NZ.same so k1 | replace so := NB.same so k1 | replace so := NBs.same so k1 | replace so := NQ.same so k1 | replace so := NQs.same so k1 | replace so := NX'.same so k1
    first | replace sb := HF.same sb k1 | replace sb := WF.same sb k1 | replace sb := FT.same sb k1 | replace sb := Fd.same sb k1 | replace sb := LsD.same sb k1 | replace sb := TK.same k1 _ _ sb | replace sb := KeysT.tk sb (TK.same k1) | replace sb := KeysU.tk sb (TK.same k1) | replace sb := KeysN.tk sb (TK.same k1) | replace sb := DayV.tk sb (TK.same k1) | replace sb := Dp.same k1 _ _ sb | replace sb := DpAll.same k1 _ _ sb | replace sb := k1 _ _ sb | replace sb := Ch.trans sb (Ch.of_same k1) | replace sb := Same.trans sb k1 | replace sb := stepsAt.same sb k1 | replace sb := DpT.same sb k1 | replace sb := LOr.same sb k1 | replace sb := Ob.same sb k1 | replace sb := Gds.same sb k1 | replace sb := Gd2.same sb k1 | replace sb := Ob2.same sb k1 | replace sb := NE.same sb k1 | replace sb := NT.same sb k1 | replace sb := NEs.same sb k1 | replace sb := NX.same sb k1 | replace sb := EMs.same sb k1 | replace sb := EOs.same sb k1 | replace sb := EO.same sb k1 | replace sb := GT.same sb k1 | replace sb := GTs.same sb k1 | replace sb := RB.same sb k1 | replace sb := RBs.same sb k1 | replace sb := RB2s.same sb k1 | replace sb := GR.same sb k1 | replace sb := GRs.same sb k1 | replace sb := NO.same sb k1 | replace sb := NOs.same sb k1 | replace sb := NZ.same sb k1 | replace sb := NB.same sb k1 | replace sb := NBs.same sb k1 | replace sb := NQ.same sb k1 | replace sb := NQs.same sb k1 | replace sb := NX'.same sb k1
    first | replace sh := HF.same sh k1 | replace sh := WF.same sh k1 | replace sh := FT.same sh k1 | replace sh := Fd.same sh k1 | replace sh := LsD.same sh k1 | replace sh := TK.same k1 _ _ sh | replace sh := KeysT.tk sh (TK.same k1) | replace sh := KeysU.tk sh (TK.same k1) | replace sh := KeysN.tk sh (TK.same k1) | replace sh := DayV.tk sh (TK.same k1) | replace sh := Dp.same k1 _ _ sh | replace sh := DpAll.same k1 _ _ sh | replace sh := k1 _ _ sh | replace sh := Ch.trans sh (Ch.of_same k1) | replace sh := Same.trans sh k1 | replace sh := stepsAt.same sh k1 | replace sh := DpT.same sh k1 | replace sh := LOr.same sh k1 | replace sh := Ob.same sh k1 | replace sh := Gds.same sh k1 | replace sh := Gd2.same sh k1 | replace sh := Ob2.same sh k1 | replace sh := NE.same sh k1 | replace sh := NT.same sh k1 | replace sh := NEs.same sh k1 | replace sh := NX.same sh k1 | replace sh := EMs.same sh k1 | replace sh := EOs.same sh k1 | replace sh := EO.same sh k1 | replace sh := GT.same sh k1 | replace sh := GTs.same sh k1 | replace sh := RB.same sh k1 | replace sh := RBs.same sh k1 | replace sh := RB2s.same sh k1 | replace sh := GR.same sh k1 | replace sh := GRs.same sh k1 | replace sh := NO.same sh k1 | replace sh := NOs.same sh k1 | replace sh := NZ.same sh k1 | replace sh := NB.same sh k1 | replace sh := NBs.same sh k1 | replace sh := NQ.same sh k1 | replace sh := NQs.same sh k1 | replace sh := NX'.same sh k1
    first | replace hw := HF.same hw k1 | replace hw := WF.same hw k1 | replace hw := FT.same hw k1 | replace hw := Fd.same hw k1 | replace hw := LsD.same hw k1 | replace hw := TK.same k1 _ _ hw | replace hw := KeysT.tk hw (TK.same k1) | replace hw := KeysU.tk hw (TK.same k1) | replace hw := KeysN.tk hw (TK.same k1) | replace hw := DayV.tk hw (TK.same k1) | replace hw := Dp.same k1 _ _ hw | replace hw := DpAll.same k1 _ _ hw | replace hw := k1 _ _ hw | replace hw := Ch.trans hw (Ch.of_same k1) | replace hw := Same.trans hw k1 | replace hw := stepsAt.same hw k1 | replace hw := DpT.same hw k1 | replace hw := LOr.same hw k1 | replace hw := Ob.same hw k1 | replace hw := Gds.same hw k1 | replace hw := Gd2.same hw k1 | replace hw := Ob2.same hw k1 | replace hw := NE.same hw k1 | replace hw := NT.same hw k1 | replace hw := NEs.same hw k1 | replace hw := NX.same hw k1 | replace hw := EMs.same hw k1 | replace hw := EOs.same hw k1 | replace hw := EO.same hw k1 | replace hw := GT.same hw k1 | replace hw := GTs.same hw k1 | replace hw := RB.same hw k1 | replace hw := RBs.same hw k1 | replace hw := RB2s.same hw k1 | replace hw := GR.same hw k1 | replace hw := GRs.same hw k1 | replace hw := NO.same hw k1 | replace hw := NOs.same hw k1 | replace hw := NZ.same hw k1 | replace hw := NB.same hw k1 | replace hw := NBs.same hw k1 | replace hw := NQ.same hw k1 | replace hw := NQs.same hw k1 | replace hw := NX'.same hw k1
    repeat' (walk_at "jv")
    refine ⟨wv, z, ps, rs, rfl, hw.dp, mz, ?_⟩
    repeat' (walk_at "jv")
    refine ⟨n, 500, rfl, by omega, by omega, fun H2 k2 => ?_⟩
    first | replace hh := HF.same hh k2 | replace hh := WF.same hh k2 | replace hh := FT.same hh k2 | replace hh := Fd.same hh k2 | replace hh := LsD.same hh k2 | replace hh := TK.same k2 _ _ hh | replace hh := KeysT.tk hh (TK.same k2) | replace hh := KeysU.tk hh (TK.same k2) | replace hh := KeysN.tk hh (TK.same k2) | replace hh := DayV.tk hh (TK.same k2) | replace hh := Dp.same k2 _ _ hh | replace hh := DpAll.same k2 _ _ hh | replace hh := k2 _ _ hh | replace hh := Ch.trans hh (Ch.of_same k2) | replace hh := Same.trans hh k2 | replace hh := stepsAt.same hh k2 | replace hh := DpT.same hh k2 | replace hh := LOr.same hh k2 | replace hh := Ob.same hh k2 | replace hh := Gds.same hh k2 | replace hh := Gd2.same hh k2 | replace hh := Ob2.same hh k2 | replace hh := NE.same hh k2 | replace hh := NT.same hh k2 | replace hh := NEs.same hh k2 | replace hh := NX.same hh k2 | replace hh := EMs.same hh k2 | replace hh := EOs.same hh k2 | replace hh := EO.same hh k2 | replace hh := GT.same hh k2 | replace hh := GTs.same hh k2 | replace hh := RB.same hh k2 | replace hh := RBs.same hh k2 | replace hh := RB2s.same hh k2 | replace hh := GR.same hh k2 | replace hh := GRs.same hh k2 | replace hh := NO.same hh k2 | replace hh := NOs.same hh k2 | replace hh := NZ.same hh k2 | replace hh := NB.same hh k2 | replace hh := NBs.same hh k2 | replace hh := NQ.same hh k2 | replace hh := NQs.same hh k2 | replace hh := NX'.same hh k2
    first | replace so := HF.same so k2 | replace so := WF.same so k2 | replace so := FT.same so k2 | replace so := Fd.same so k2 | replace so := LsD.same so k2 | replace so := TK.same k2 _ _ so | replace so := KeysT.tk so (TK.same k2) | replace so := KeysU.tk so (TK.same k2) | replace so := KeysN.tk so (TK.same k2) | replace so := DayV.tk so (TK.same k2) | replace so := Dp.same k2 _ _ so | replace so := DpAll.same k2 _ _ so | replace so := k2 _ _ so | replace so := Ch.trans so (Ch.of_same k2) | replace so := Same.trans so k2 | replace so := stepsAt.same so k2 | replace so := DpT.same so k2 | replace so := LOr.same so k2 | replace so := Ob.same so k2 | replace so := Gds.same so k2 | replace so := Gd2.same so k2 | replace so := Ob2.same so k2 | replace so := NE.same so k2 | replace so := NT.same so k2 | replace so := NEs.same so k2 | replace so := NX.same so k2 | replace so := EMs.same so k2 | replace so := EOs.same so k2 | replace so := EO.same so k2 | replace so := GT.same so k2 | replace so := GTs.same so k2 | replace so := RB.same so k2 | replace so := RBs.same so k2 | replace so := RB2s.same so k2 | replace so := GR.same so k2 | replace so := GRs.same so k2 | replace so := NO.same so k2 | replace so := NOs.same so k2 | replace so := NZ.same so k2 | replace so := NB.same so k2 | replace so := NBs.same so k2 | replace so := NQ.same so k2 | replace so := NQs.same so k2 | replace so := NX'.same so k2
    first | replace sb := HF.same sb k2 | replace sb := WF.same sb k2 | replace sb := FT.same sb k2 | replace sb := Fd.same sb k2 | replace sb := LsD.same sb k2 | replace sb := TK.same k2 _ _ sb | replace sb := KeysT.tk sb (TK.same k2) | replace sb := KeysU.tk sb (TK.same k2) | replace sb := KeysN.tk sb (TK.same k2) | replace sb := DayV.tk sb (TK.same k2) | replace sb := Dp.same k2 _ _ sb | replace sb := DpAll.same k2 _ _ sb | replace sb := k2 _ _ sb | replace sb := Ch.trans sb (Ch.of_same k2) | replace sb := Same.trans sb k2 | replace sb := stepsAt.same sb k2 | replace sb := DpT.same sb k2 | replace sb := LOr.same sb k2 | replace sb := Ob.same sb k2 | replace sb := Gds.same sb k2 | replace sb := Gd2.same sb k2 | replace sb := Ob2.same sb k2 | replace sb := NE.same sb k2 | replace sb := NT.same sb k2 | replace sb := NEs.same sb k2 | replace sb := NX.same sb k2 | replace sb := EMs.same sb k2 | replace sb := EOs.same sb k2 | replace sb := EO.same sb k2 | replace sb := GT.same sb k2 | replace sb := GTs.same sb k2 | replace sb := RB.same sb k2 | replace sb := RBs.same sb k2 | replace sb := RB2s.same sb k2 | replace sb := GR.same sb k2 | replace sb := GRs.same sb k2 | replace sb := NO.same sb k2 | replace sb := NOs.same sb k2 | replace sb := NZ.same sb k2 | replace sb := NB.same sb k2 | replace sb := NBs.same sb k2 | replace sb := NQ.same sb k2 | replace sb := NQs.same sb k2 | replace sb := NX'.same sb k2
    first | replace sh := HF.same sh k2 | replace sh := WF.same sh k2 | replace sh := FT.same sh k2 | replace sh := Fd.same sh k2 | replace sh := LsD.same sh k2 | replace sh := TK.same k2 _ _ sh | replace sh := KeysT.tk sh (TK.same k2) | replace sh := KeysU.tk sh (TK.same k2) | replace sh := KeysN.tk sh (TK.same k2) | replace sh := DayV.tk sh (TK.same k2) | replace sh := Dp.same k2 _ _ sh | replace sh := DpAll.same k2 _ _ sh | replace sh := k2 _ _ sh | replace sh := Ch.trans sh (Ch.of_same k2) | replace sh := Same.trans sh k2 | replace sh := stepsAt.same sh k2 | replace sh := DpT.same sh k2 | replace sh := LOr.same sh k2 | replace sh := Ob.same sh k2 | replace sh := Gds.same sh k2 | replace sh := Gd2.same sh k2 | replace sh := Ob2.same sh k2 | replace sh := NE.same sh k2 | replace sh := NT.same sh k2 | replace sh := NEs.same sh k2 | replace sh := NX.same sh k2 | replace sh := EMs.same sh k2 | replace sh := EOs.same sh k2 | replace sh := EO.same sh k2 | replace sh := GT.same sh k2 | replace sh := GTs.same sh k2 | replace sh := RB.same sh k2 | replace sh := RBs.same sh k2 | replace sh := RB2s.same sh k2 | replace sh := GR.same sh k2 | replace sh := GRs.same sh k2 | replace sh := NO.same sh k2 | replace sh := NOs.same sh k2 | replace sh := NZ.same sh k2 | replace sh := NB.same sh k2 | replace sh := NBs.same sh k2 | replace sh := NQ.same sh k2 | replace sh := NQs.same sh k2 | replace sh := NX'.same sh k2
    first | replace hw := HF.same hw k2 | replace hw := WF.same hw k2 | replace hw := FT.same hw k2 | replace hw := Fd.same hw k2 | replace hw := LsD.same hw k2 | replace hw := TK.same k2 _ _ hw | replace hw := KeysT.tk hw (TK.same k2) | replace hw := KeysU.tk hw (TK.same k2) | replace hw := KeysN.tk hw (TK.same k2) | replace hw := DayV.tk hw (TK.same k2) | replace hw := Dp.same k2 _ _ hw | replace hw := DpAll.same k2 _ _ hw | replace hw := k2 _ _ hw | replace hw := Ch.trans hw (Ch.of_same k2) | replace hw := Same.trans hw k2 | replace hw := stepsAt.same hw k2 | replace hw := DpT.same hw k2 | replace hw := LOr.same hw k2 | replace hw := Ob.same hw k2 | replace hw := Gds.same hw k2 | replace hw := Gd2.same hw k2 | replace hw := Ob2.same hw k2 | replace hw := NE.same hw k2 | replace hw := NT.same hw k2 | replace hw := NEs.same hw k2 | replace hw := NX.same hw k2 | replace hw := EMs.same hw k2 | replace hw := EOs.same hw k2 | replace hw := EO.same hw k2 | replace hw := GT.same hw k2 | replace hw := GTs.same hw k2 | replace hw := RB.same hw k2 | replace hw := RBs.same hw k2 | replace hw := RB2s.same hw k2 | replace hw := GR.same hw k2 | replace hw := GRs.same hw k2 | replace hw := NO.same hw k2 | replace hw := NOs.same hw k2 | replace hw := NZ.same hw k2 | replace hw := NB.same hw k2 | replace hw := NBs.same hw k2 | replace hw := NQ.same hw k2 | replace hw := NQs.same hw k2 | replace hw := NX'.same hw k2
    first | replace k1 := HF.same k1 k2 | replace k1 := WF.same k1 k2 | replace k1 := FT.same k1 k2 | replace k1 := Fd.same k1 k2 | replace k1 := LsD.same k1 k2 | replace k1 := TK.same k2 _ _ k1 | replace k1 := KeysT.tk k1 (TK.same k2) | replace k1 := KeysU.tk k1 (TK.same k2) | replace k1 := KeysN.tk k1 (TK.same k2) | replace k1 := DayV.tk k1 (TK.same k2) | replace k1 := Dp.same k2 _ _ k1 | replace k1 := DpAll.same k2 _ _ k1 | replace k1 := k2 _ _ k1 | replace k1 := Ch.trans k1 (Ch.of_same k2) | replace k1 := Same.trans k1 k2 | replace k1 := stepsAt.same k1 k2 | replace k1 := DpT.same k1 k2 | replace k1 := LOr.same k1 k2 | replace k1 := Ob.same k1 k2 | replace k1 := Gds.same k1 k2 | replace k1 := Gd2.same k1 k2 | replace k1 := Ob2.same k1 k2 | replace k1 := NE.same k1 k2 | replace k1 := NT.same k1 k2 | replace k1 := NEs.same k1 k2 | replace k1 := NX.same k1 k2 | replace k1 := EMs.same k1 k2 | replace k1 := EOs.same k1 k2 | replace k1 := EO.same k1 k2 | replace k1 := GT.same k1 k2 | replace k1 := GTs.same k1 k2 | replace k1 := RB.same k1 k2 | replace k1 := RBs.same k1 k2 | replace k1 := RB2s.same k1 k2 | replace k1 := GR.same k1 k2 | replace k1 := GRs.same k1 k2 | replace k1 := NO.same k1 k2 | replace k1 := NOs.same k1 k2 | replace k1 := NZ.same k1 k2 | replace k1 := NB.same k1 k2 | replace k1 := NBs.same k1 k2 | replace k1 := NQ.same k1 k2 | replace k1 := NQs.same k1 k2 | replace k1 := NX'.same k1 k2
    obtain ⟨tw, tp, tr, rfl, w1, w2, w3⟩ := hw
    repeat' (walk_at "jv")
    refine i_bmF ?_
    repeat' (walk_at "jv")
    have w2q := w2.sq (K := K)
    repeat' (walk_at "jv")
    refine ⟨⟨tp, _, rfl, w2⟩, ?_⟩
    repeat' (walk_at "jv")
    refine i_tix w2.sq mz ?_
    repeat' (walk_at "jv")
    refine ⟨.ref ta, o, st, n, k, ps, rs, ds, ord, t, rfl, hh, hH, so, pm, sb, tl, tk, hn, fun D H3 nD k3 lD => ?_⟩
    obtain ⟨us, eD, dD, tD⟩ := lD
    have hsl : (storyL k ps rs ds ord t n).length = n + 1 := by
      unfold storyL
      rw [List.length_map, List.length_range]
    have hul : us.length = n + 1 := by rw [DpAll.len dD, List.length_map, hsl]
    have hix := List.idxOf_lt_length_of_mem mz
    have mq : ∀ z ∈ ord, z ∈ ps := fun z hz => pm.mem_iff.mp hz
    repeat' (walk_at "jv")
    refine c_list us (fun C i H' => H3 C = none ∧ Same H3 H' ∧ H' C = some (.lst (natsV (((storyL k ps rs ds ord t n).take i).map fun u => u.getD (ps.idxOf z) 0)))) (fun C nC => ⟨nC, Same.upd_new nC, upd_same⟩) (fun C i H' _ h => sq_lst (h.2.1 _ _ eD)) (fun C i x H' hx h => ?_) (fun C H4 h => ?_)
    · obtain ⟨nC, kC, eC⟩ := h
      obtain ⟨d, hd, dx⟩ := DpAll.get (DpAll.same kC _ _ dD) hx
      rw [List.getElem?_map] at hd
      obtain ⟨u, hu, rfl⟩ := Option.map_eq_some_iff.mp hd
      have hi : i < (storyL k ps rs ds ord t n).length := (List.getElem?_eq_some_iff.mp hu).1
      have e1 : (storyL k ps rs ds ord t n).take (i + 1) = (storyL k ps rs ds ord t n).take i ++ [u] := take_push hu
      obtain ⟨b, rfl, sb2⟩ := st_ref dx
      have ul : u.length = ps.length := by
        obtain ⟨j, _, rfl⟩ := List.mem_map.mp (List.mem_of_getElem? hu)
        rw [dIt_len, tl]
      have hat : atI (natsV u) ((ps.idxOf z : Nat) : Int) = some (.int ((u.getD (ps.idxOf z) 0 : Nat) : Int)) := atI_nat (by
        unfold natsV
        rw [List.getElem?_map, List.getElem?_eq_getElem (by omega), List.getD_eq_getElem?_getD, List.getElem?_eq_getElem (by omega)]
        rfl)
      repeat' (walk_at "jv")
      refine i_lcE eC (by rw [nats_len, List.length_map, List.length_take, sizeLine_eq]; omega) ⟨nC, fun c oc y => (upd_ne (ne_of_none y nC)).trans (kC _ _ y), ?_⟩
      rw [e1, List.map_append]
      show (upd H' C _) C = some (.lst (natsV (_ ++ [u.getD (ps.idxOf z) 0])))
      rw [nats_snocW]
      exact upd_same
    · obtain ⟨nC, kC, eC⟩ := h
      rw [hul, ← hsl, List.take_length] at eC
      repeat' (walk_at "jv")
      intro T nT
      exact q T _ (k1.trans (k3.trans (kC.trans (Same.upd_new nT)))) (sq_tup upd_same)
theorem ok_near_order (D : Dn K mg "_law_near_order" s__law_near_order ["_law_feed_here", "_law_order_here"]) (B : Bn mg) (C__law_draw : Cl P w K mg base 1 "_law_draw" ["_law_feed_here", "_law_many"] spDraw) (C__law_mixed : Cl P w K mg base 2 "_law_mixed" ["_law_feed_here", "_law_things"] (spMixedT K)) : Cl P w K mg base 3 "_law_near_order" ["_law_feed_here", "_law_order_here"] (spNearO K) := by
  refine D.cl sc__law_near_order (fun vs H Q E h => ?_) (fun f cdv A outer s H vs Q E hr h => ?_)
  · obtain ⟨a, o, qs, c, rfl, _⟩ := h
    rfl
  · obtain ⟨a, o, qs, c, rfl, hf, hc, so, h1, h8, q⟩ := h
    have hql : (qs.map V.str).length = qs.length := List.length_map ..
    refine ⟨_, (pss_cons (ps_par (i := 2) (j := 3) rfl sc__law_near_order.nd rfl rfl (by decide) rfl rfl (pa_cons (pe_c C__law_draw hr (pa_cons (pv 0) (pa_cons (pe_callB (k_len (K := K)) rfl B.len_ (by decide +kernel) (pa_cons (pv 1) pa_nil)) pa_nil))) (pa_cons (pe_c C__law_draw hr (pa_cons (pv 0) (pa_cons pe_int pa_nil))) pa_nil)) (by rfl))
      (pss_cons (ps_if (PW.pt (pw_or (pt_cmpR op_eq (pv 3) pe_int (nomark _)) (pw_or1 (pt_cmpR op_eq (pv 2) pe_int (nomark _))))) (pss_one (ps_ret (pe_ifExp (pt_cmpR op_lt (pv 3) pe_int (nomark _)) (pe_callTy (k_tuple (K := K)) rfl B.tuple_ (by decide +kernel) (pa_cons (pe_c C__law_mixed hr (pa_cons (pv 0) (pa_cons (pv 1) pa_nil))) pa_nil)) (pv 1)))) pss_nil)
      (pss_one (ps_ret (pe_op (k_catA (K := K)) (pe_op (k_catA (K := K)) (pe_slice (ksl_tup (K := K)) (pv 1) po_none (po_some (pe_op op_sub (pv 2) pe_int))) (pe_tup (pa_cons (pe_ix (k_ixT (K := K)) (pv 1) (pv 2) (fun _ _ => rfl)) (pa_cons (pe_ix (k_ixT (K := K)) (pv 1) (pe_op op_sub (pv 2) pe_int) (fun _ _ => rfl)) pa_nil)))) (pe_slice (ksl_tup (K := K)) (pv 1) (po_some (pe_op op_add (pv 2) pe_int)) po_none)))))), ?_⟩
    repeat' (walk_at "jv")
    refine ⟨a, _, c, rfl, hf, by omega, by omega, by omega, fun at_ H1 a0 a1 f1 k1 => ?_⟩
    first | replace so := HF.ch so k1 hf | replace so := WF.ch so k1 hf | replace so := FT.ch so k1 hf | replace so := TK.ch k1 hf _ _ so | replace so := KeysT.tk so (TK.ch k1 hf) | replace so := DayV.tk so (TK.ch k1 hf) | replace so := KeysU.tk so (TK.ch k1 hf) | replace so := KeysN.tk so (TK.ch k1 hf) | replace so := Ch.trans so k1 | replace so := LsD.ch so k1 hf (by assumption) | replace so := DpT.ch so k1 hf | replace so := Dp.tk (TK.ch k1 hf) _ _ (web_only _ _) so | replace so := Dp.tk (TK.ch k1 hf) _ _ (roads_only _) so | replace so := LOr.ch so k1 hf (by assumption) | replace so := Ob.ch so k1 hf | replace so := Gds.ch so k1 hf | replace so := Gd2.ch so k1 hf | replace so := Ob2.ch so k1 hf | replace so := NE.ch so k1 hf | replace so := NT.ch so k1 hf | replace so := NEs.ch so k1 hf | replace so := EMs.ch so k1 hf | replace so := EOs.ch so k1 hf | replace so := EO.ch so k1 hf | replace so := GT.ch so k1 hf | replace so := GTs.ch so k1 hf | replace so := RB.ch so k1 hf | replace so := RBs.ch so k1 hf | replace so := RB2s.ch so k1 hf | replace so := GR.ch so k1 hf | replace so := GRs.ch so k1 hf | replace so := NO.ch so k1 hf | replace so := NOs.ch so k1 hf | replace so := NZ.ch so k1 hf | replace so := NB.ch so k1 hf | replace so := NBs.ch so k1 hf | replace so := NQ.ch so k1 hf | replace so := NQs.ch so k1 hf | replace so := NX'.ch so k1 hf | replace so := DpAll.tk (TK.ch k1 hf) _ _ (roads_only _) so | replace so := k1 _ _ (by assumption) so
    rw [hql] at a1
    clear hf
    obtain ⟨i, rfl⟩ := Int.eq_ofNat_of_zero_le a0
    repeat' (walk_at "jv")
    refine ⟨a, 4, _, rfl, f1, by decide, by decide, by omega, fun way H2 w0 w1 f2 k2 => ?_⟩
    first | replace so := HF.ch so k2 f1 | replace so := WF.ch so k2 f1 | replace so := FT.ch so k2 f1 | replace so := TK.ch k2 f1 _ _ so | replace so := KeysT.tk so (TK.ch k2 f1) | replace so := DayV.tk so (TK.ch k2 f1) | replace so := KeysU.tk so (TK.ch k2 f1) | replace so := KeysN.tk so (TK.ch k2 f1) | replace so := Ch.trans so k2 | replace so := LsD.ch so k2 f1 (by assumption) | replace so := DpT.ch so k2 f1 | replace so := Dp.tk (TK.ch k2 f1) _ _ (web_only _ _) so | replace so := Dp.tk (TK.ch k2 f1) _ _ (roads_only _) so | replace so := LOr.ch so k2 f1 (by assumption) | replace so := Ob.ch so k2 f1 | replace so := Gds.ch so k2 f1 | replace so := Gd2.ch so k2 f1 | replace so := Ob2.ch so k2 f1 | replace so := NE.ch so k2 f1 | replace so := NT.ch so k2 f1 | replace so := NEs.ch so k2 f1 | replace so := EMs.ch so k2 f1 | replace so := EOs.ch so k2 f1 | replace so := EO.ch so k2 f1 | replace so := GT.ch so k2 f1 | replace so := GTs.ch so k2 f1 | replace so := RB.ch so k2 f1 | replace so := RBs.ch so k2 f1 | replace so := RB2s.ch so k2 f1 | replace so := GR.ch so k2 f1 | replace so := GRs.ch so k2 f1 | replace so := NO.ch so k2 f1 | replace so := NOs.ch so k2 f1 | replace so := NZ.ch so k2 f1 | replace so := NB.ch so k2 f1 | replace so := NBs.ch so k2 f1 | replace so := NQ.ch so k2 f1 | replace so := NQs.ch so k2 f1 | replace so := NX'.ch so k2 f1 | replace so := DpAll.tk (TK.ch k2 f1) _ _ (roads_only _) so | replace so := k2 _ _ (by assumption) so
    first | replace k1 := HF.ch k1 k2 f1 | replace k1 := WF.ch k1 k2 f1 | replace k1 := FT.ch k1 k2 f1 | replace k1 := TK.ch k2 f1 _ _ k1 | replace k1 := KeysT.tk k1 (TK.ch k2 f1) | replace k1 := DayV.tk k1 (TK.ch k2 f1) | replace k1 := KeysU.tk k1 (TK.ch k2 f1) | replace k1 := KeysN.tk k1 (TK.ch k2 f1) | replace k1 := Ch.trans k1 k2 | replace k1 := LsD.ch k1 k2 f1 (by assumption) | replace k1 := DpT.ch k1 k2 f1 | replace k1 := Dp.tk (TK.ch k2 f1) _ _ (web_only _ _) k1 | replace k1 := Dp.tk (TK.ch k2 f1) _ _ (roads_only _) k1 | replace k1 := LOr.ch k1 k2 f1 (by assumption) | replace k1 := Ob.ch k1 k2 f1 | replace k1 := Gds.ch k1 k2 f1 | replace k1 := Gd2.ch k1 k2 f1 | replace k1 := Ob2.ch k1 k2 f1 | replace k1 := NE.ch k1 k2 f1 | replace k1 := NT.ch k1 k2 f1 | replace k1 := NEs.ch k1 k2 f1 | replace k1 := EMs.ch k1 k2 f1 | replace k1 := EOs.ch k1 k2 f1 | replace k1 := EO.ch k1 k2 f1 | replace k1 := GT.ch k1 k2 f1 | replace k1 := GTs.ch k1 k2 f1 | replace k1 := RB.ch k1 k2 f1 | replace k1 := RBs.ch k1 k2 f1 | replace k1 := RB2s.ch k1 k2 f1 | replace k1 := GR.ch k1 k2 f1 | replace k1 := GRs.ch k1 k2 f1 | replace k1 := NO.ch k1 k2 f1 | replace k1 := NOs.ch k1 k2 f1 | replace k1 := NZ.ch k1 k2 f1 | replace k1 := NB.ch k1 k2 f1 | replace k1 := NBs.ch k1 k2 f1 | replace k1 := NQ.ch k1 k2 f1 | replace k1 := NQs.ch k1 k2 f1 | replace k1 := NX'.ch k1 k2 f1 | replace k1 := DpAll.tk (TK.ch k2 f1) _ _ (roads_only _) k1 | replace k1 := k2 _ _ (by assumption) k1
    clear f1 k2 H1
    have hi : i < qs.length := by omega
    have gi : atI (qs.map V.str) ((i : Nat) : Int) = some (.str qs[i]) := atI_nat (by rw [List.getElem?_map, List.getElem?_eq_getElem hi]; rfl)
    repeat' (walk_at "jv")
    · refine ⟨a, o, _, _, rfl, f2, so, by omega, by omega, fun T ys H3 pm nT eT f3 k3 => ?_⟩
      replace k1 := k1.trans k3
      obtain ⟨os, rfl, pmo⟩ := perm_strs pm
      repeat' (walk_at "jv")
      intro U nU
      have dU := f3.ne nU
      exact q U os _ pmo (sq_tup upd_same) ((f3.upd (q := U) (Ne.symm dU)).mono (by omega)) (k1.trans (Ch.upd_new nU))
    · exact q o qs _ (List.Perm.refl _) so (f2.mono (by omega)) k1
    · refine ⟨a, o, _, _, rfl, f2, so, by omega, by omega, fun T ys H3 pm nT eT f3 k3 => ?_⟩
      replace k1 := k1.trans k3
      obtain ⟨os, rfl, pmo⟩ := perm_strs pm
      repeat' (walk_at "jv")
      intro U nU
      have dU := f3.ne nU
      exact q U os _ pmo (sq_tup upd_same) ((f3.upd (q := U) (Ne.symm dU)).mono (by omega)) (k1.trans (Ch.upd_new nU))
    · exact q o qs _ (List.Perm.refl _) so (f2.mono (by omega)) k1
    · rename_i hw hn
      obtain ⟨n, rfl⟩ : ∃ n, i = n + 1 := ⟨i - 1, by omega⟩
      have hn1 : n < qs.length := by omega
      have gn : atI (qs.map V.str) ((n : Nat) : Int) = some (.str qs[n]) := atI_nat (by rw [List.getElem?_map, List.getElem?_eq_getElem hn1]; rfl)
      have em : (((n + 1 : Nat) : Nat) : Int) - 1 = ((n : Nat) : Int) := by omega
      have ep : (((n + 1 : Nat) : Nat) : Int) + 1 = ((n + 2 : Nat) : Int) := by omega
      have e0 : qs.take n ++ ([qs[n], qs[n + 1]] ++ qs.drop (n + 2)) = qs := by
        rw [show [qs[n], qs[n + 1]] ++ qs.drop (n + 2) = qs.drop n from by
          rw [List.drop_eq_getElem_cons hn1, List.drop_eq_getElem_cons hi]
          rfl]
        exact List.take_append_drop n qs
      generalize qs[n] = x0 at *
      generalize qs[n + 1] = x1 at *
      rw [em]
      refine i_slG so fun A1 H3 k3 s1 => ?_
      rw [cut_take] at s1
      first | replace so := HF.same so k3 | replace so := WF.same so k3 | replace so := FT.same so k3 | replace so := Fd.same so k3 | replace so := LsD.same so k3 | replace so := TK.same k3 _ _ so | replace so := KeysT.tk so (TK.same k3) | replace so := KeysU.tk so (TK.same k3) | replace so := KeysN.tk so (TK.same k3) | replace so := DayV.tk so (TK.same k3) | replace so := Dp.same k3 _ _ so | replace so := DpAll.same k3 _ _ so | replace so := k3 _ _ so | replace so := Ch.trans so (Ch.of_same k3) | replace so := Same.trans so k3 | replace so := stepsAt.same so k3 | replace so := DpT.same so k3 | replace so := LOr.same so k3 | replace so := Ob.same so k3 | replace so := Gds.same so k3 | replace so := Gd2.same so k3 | replace so := Ob2.same so k3 | replace so := NE.same so k3 | replace so := NT.same so k3 | replace so := NEs.same so k3 | replace so := NX.same so k3 | replace so := EMs.same so k3 | replace so := EOs.same so k3 | replace so := EO.same so k3 | replace so := GT.same so k3 | replace so := GTs.same so k3 | replace so := RB.same so k3 | replace so := RBs.same so k3 | replace so := RB2s.same so k3 | replace so := GR.same so k3 | replace so := GRs.same so k3 | replace so := NO.same so k3 | replace so := NOs.same so k3 | replace so := NZ.same so k3 | replace so := NB.same so k3 | replace so := NBs.same so k3 | replace so := NQ.same so k3 | replace so := NQs.same so k3 | replace so := NX'.same so k3
      first | replace f2 := HF.same f2 k3 | replace f2 := WF.same f2 k3 | replace f2 := FT.same f2 k3 | replace f2 := Fd.same f2 k3 | replace f2 := LsD.same f2 k3 | replace f2 := TK.same k3 _ _ f2 | replace f2 := KeysT.tk f2 (TK.same k3) | replace f2 := KeysU.tk f2 (TK.same k3) | replace f2 := KeysN.tk f2 (TK.same k3) | replace f2 := DayV.tk f2 (TK.same k3) | replace f2 := Dp.same k3 _ _ f2 | replace f2 := DpAll.same k3 _ _ f2 | replace f2 := k3 _ _ f2 | replace f2 := Ch.trans f2 (Ch.of_same k3) | replace f2 := Same.trans f2 k3 | replace f2 := stepsAt.same f2 k3 | replace f2 := DpT.same f2 k3 | replace f2 := LOr.same f2 k3 | replace f2 := Ob.same f2 k3 | replace f2 := Gds.same f2 k3 | replace f2 := Gd2.same f2 k3 | replace f2 := Ob2.same f2 k3 | replace f2 := NE.same f2 k3 | replace f2 := NT.same f2 k3 | replace f2 := NEs.same f2 k3 | replace f2 := NX.same f2 k3 | replace f2 := EMs.same f2 k3 | replace f2 := EOs.same f2 k3 | replace f2 := EO.same f2 k3 | replace f2 := GT.same f2 k3 | replace f2 := GTs.same f2 k3 | replace f2 := RB.same f2 k3 | replace f2 := RBs.same f2 k3 | replace f2 := RB2s.same f2 k3 | replace f2 := GR.same f2 k3 | replace f2 := GRs.same f2 k3 | replace f2 := NO.same f2 k3 | replace f2 := NOs.same f2 k3 | replace f2 := NZ.same f2 k3 | replace f2 := NB.same f2 k3 | replace f2 := NBs.same f2 k3 | replace f2 := NQ.same f2 k3 | replace f2 := NQs.same f2 k3 | replace f2 := NX'.same f2 k3
      replace k1 := k1.trans (Ch.of_same k3)
      repeat' (walk_at "jv")
      rw [em]
      repeat' (walk_at "jv")
      intro A2 n2
      have kS := Same.upd_new (o := .tup [.str x1, .str x0]) n2
      have s2 : SqT K (upd H3 A2 (.tup [.str x1, .str x0])) A2 [.str x1, .str x0] := sq_tup upd_same
      generalize upd H3 A2 (.tup [.str x1, .str x0]) = H4 at *
      first | replace so := HF.same so kS | replace so := WF.same so kS | replace so := FT.same so kS | replace so := Fd.same so kS | replace so := LsD.same so kS | replace so := TK.same kS _ _ so | replace so := KeysT.tk so (TK.same kS) | replace so := KeysU.tk so (TK.same kS) | replace so := KeysN.tk so (TK.same kS) | replace so := DayV.tk so (TK.same kS) | replace so := Dp.same kS _ _ so | replace so := DpAll.same kS _ _ so | replace so := kS _ _ so | replace so := Ch.trans so (Ch.of_same kS) | replace so := Same.trans so kS | replace so := stepsAt.same so kS | replace so := DpT.same so kS | replace so := LOr.same so kS | replace so := Ob.same so kS | replace so := Gds.same so kS | replace so := Gd2.same so kS | replace so := Ob2.same so kS | replace so := NE.same so kS | replace so := NT.same so kS | replace so := NEs.same so kS | replace so := NX.same so kS | replace so := EMs.same so kS | replace so := EOs.same so kS | replace so := EO.same so kS | replace so := GT.same so kS | replace so := GTs.same so kS | replace so := RB.same so kS | replace so := RBs.same so kS | replace so := RB2s.same so kS | replace so := GR.same so kS | replace so := GRs.same so kS | replace so := NO.same so kS | replace so := NOs.same so kS | replace so := NZ.same so kS | replace so := NB.same so kS | replace so := NBs.same so kS | replace so := NQ.same so kS | replace so := NQs.same so kS | replace so := NX'.same so kS
      first | replace f2 := HF.same f2 kS | replace f2 := WF.same f2 kS | replace f2 := FT.same f2 kS | replace f2 := Fd.same f2 kS | replace f2 := LsD.same f2 kS | replace f2 := TK.same kS _ _ f2 | replace f2 := KeysT.tk f2 (TK.same kS) | replace f2 := KeysU.tk f2 (TK.same kS) | replace f2 := KeysN.tk f2 (TK.same kS) | replace f2 := DayV.tk f2 (TK.same kS) | replace f2 := Dp.same kS _ _ f2 | replace f2 := DpAll.same kS _ _ f2 | replace f2 := kS _ _ f2 | replace f2 := Ch.trans f2 (Ch.of_same kS) | replace f2 := Same.trans f2 kS | replace f2 := stepsAt.same f2 kS | replace f2 := DpT.same f2 kS | replace f2 := LOr.same f2 kS | replace f2 := Ob.same f2 kS | replace f2 := Gds.same f2 kS | replace f2 := Gd2.same f2 kS | replace f2 := Ob2.same f2 kS | replace f2 := NE.same f2 kS | replace f2 := NT.same f2 kS | replace f2 := NEs.same f2 kS | replace f2 := NX.same f2 kS | replace f2 := EMs.same f2 kS | replace f2 := EOs.same f2 kS | replace f2 := EO.same f2 kS | replace f2 := GT.same f2 kS | replace f2 := GTs.same f2 kS | replace f2 := RB.same f2 kS | replace f2 := RBs.same f2 kS | replace f2 := RB2s.same f2 kS | replace f2 := GR.same f2 kS | replace f2 := GRs.same f2 kS | replace f2 := NO.same f2 kS | replace f2 := NOs.same f2 kS | replace f2 := NZ.same f2 kS | replace f2 := NB.same f2 kS | replace f2 := NBs.same f2 kS | replace f2 := NQ.same f2 kS | replace f2 := NQs.same f2 kS | replace f2 := NX'.same f2 kS
      first | replace s1 := HF.same s1 kS | replace s1 := WF.same s1 kS | replace s1 := FT.same s1 kS | replace s1 := Fd.same s1 kS | replace s1 := LsD.same s1 kS | replace s1 := TK.same kS _ _ s1 | replace s1 := KeysT.tk s1 (TK.same kS) | replace s1 := KeysU.tk s1 (TK.same kS) | replace s1 := KeysN.tk s1 (TK.same kS) | replace s1 := DayV.tk s1 (TK.same kS) | replace s1 := Dp.same kS _ _ s1 | replace s1 := DpAll.same kS _ _ s1 | replace s1 := kS _ _ s1 | replace s1 := Ch.trans s1 (Ch.of_same kS) | replace s1 := Same.trans s1 kS | replace s1 := stepsAt.same s1 kS | replace s1 := DpT.same s1 kS | replace s1 := LOr.same s1 kS | replace s1 := Ob.same s1 kS | replace s1 := Gds.same s1 kS | replace s1 := Gd2.same s1 kS | replace s1 := Ob2.same s1 kS | replace s1 := NE.same s1 kS | replace s1 := NT.same s1 kS | replace s1 := NEs.same s1 kS | replace s1 := NX.same s1 kS | replace s1 := EMs.same s1 kS | replace s1 := EOs.same s1 kS | replace s1 := EO.same s1 kS | replace s1 := GT.same s1 kS | replace s1 := GTs.same s1 kS | replace s1 := RB.same s1 kS | replace s1 := RBs.same s1 kS | replace s1 := RB2s.same s1 kS | replace s1 := GR.same s1 kS | replace s1 := GRs.same s1 kS | replace s1 := NO.same s1 kS | replace s1 := NOs.same s1 kS | replace s1 := NZ.same s1 kS | replace s1 := NB.same s1 kS | replace s1 := NBs.same s1 kS | replace s1 := NQ.same s1 kS | replace s1 := NQs.same s1 kS | replace s1 := NX'.same s1 kS
      replace k1 := k1.trans (Ch.of_same kS)
      refine i_catG s1 s2 (by rw [List.length_take, List.length_map, sizeLine_eq]; show _ + 2 ≤ _; omega) fun A3 H5 k5 s3 => ?_
      first | replace so := HF.same so k5 | replace so := WF.same so k5 | replace so := FT.same so k5 | replace so := Fd.same so k5 | replace so := LsD.same so k5 | replace so := TK.same k5 _ _ so | replace so := KeysT.tk so (TK.same k5) | replace so := KeysU.tk so (TK.same k5) | replace so := KeysN.tk so (TK.same k5) | replace so := DayV.tk so (TK.same k5) | replace so := Dp.same k5 _ _ so | replace so := DpAll.same k5 _ _ so | replace so := k5 _ _ so | replace so := Ch.trans so (Ch.of_same k5) | replace so := Same.trans so k5 | replace so := stepsAt.same so k5 | replace so := DpT.same so k5 | replace so := LOr.same so k5 | replace so := Ob.same so k5 | replace so := Gds.same so k5 | replace so := Gd2.same so k5 | replace so := Ob2.same so k5 | replace so := NE.same so k5 | replace so := NT.same so k5 | replace so := NEs.same so k5 | replace so := NX.same so k5 | replace so := EMs.same so k5 | replace so := EOs.same so k5 | replace so := EO.same so k5 | replace so := GT.same so k5 | replace so := GTs.same so k5 | replace so := RB.same so k5 | replace so := RBs.same so k5 | replace so := RB2s.same so k5 | replace so := GR.same so k5 | replace so := GRs.same so k5 | replace so := NO.same so k5 | replace so := NOs.same so k5 | replace so := NZ.same so k5 | replace so := NB.same so k5 | replace so := NBs.same so k5 | replace so := NQ.same so k5 | replace so := NQs.same so k5 | replace so := NX'.same so k5
      first | replace f2 := HF.same f2 k5 | replace f2 := WF.same f2 k5 | replace f2 := FT.same f2 k5 | replace f2 := Fd.same f2 k5 | replace f2 := LsD.same f2 k5 | replace f2 := TK.same k5 _ _ f2 | replace f2 := KeysT.tk f2 (TK.same k5) | replace f2 := KeysU.tk f2 (TK.same k5) | replace f2 := KeysN.tk f2 (TK.same k5) | replace f2 := DayV.tk f2 (TK.same k5) | replace f2 := Dp.same k5 _ _ f2 | replace f2 := DpAll.same k5 _ _ f2 | replace f2 := k5 _ _ f2 | replace f2 := Ch.trans f2 (Ch.of_same k5) | replace f2 := Same.trans f2 k5 | replace f2 := stepsAt.same f2 k5 | replace f2 := DpT.same f2 k5 | replace f2 := LOr.same f2 k5 | replace f2 := Ob.same f2 k5 | replace f2 := Gds.same f2 k5 | replace f2 := Gd2.same f2 k5 | replace f2 := Ob2.same f2 k5 | replace f2 := NE.same f2 k5 | replace f2 := NT.same f2 k5 | replace f2 := NEs.same f2 k5 | replace f2 := NX.same f2 k5 | replace f2 := EMs.same f2 k5 | replace f2 := EOs.same f2 k5 | replace f2 := EO.same f2 k5 | replace f2 := GT.same f2 k5 | replace f2 := GTs.same f2 k5 | replace f2 := RB.same f2 k5 | replace f2 := RBs.same f2 k5 | replace f2 := RB2s.same f2 k5 | replace f2 := GR.same f2 k5 | replace f2 := GRs.same f2 k5 | replace f2 := NO.same f2 k5 | replace f2 := NOs.same f2 k5 | replace f2 := NZ.same f2 k5 | replace f2 := NB.same f2 k5 | replace f2 := NBs.same f2 k5 | replace f2 := NQ.same f2 k5 | replace f2 := NQs.same f2 k5 | replace f2 := NX'.same f2 k5
      replace k1 := k1.trans (Ch.of_same k5)
      repeat' (walk_at "jv")
      rw [ep]
      refine i_slG so fun A4 H6 k6 s4 => ?_
      rw [cut_from] at s4
      first | replace f2 := HF.same f2 k6 | replace f2 := WF.same f2 k6 | replace f2 := FT.same f2 k6 | replace f2 := Fd.same f2 k6 | replace f2 := LsD.same f2 k6 | replace f2 := TK.same k6 _ _ f2 | replace f2 := KeysT.tk f2 (TK.same k6) | replace f2 := KeysU.tk f2 (TK.same k6) | replace f2 := KeysN.tk f2 (TK.same k6) | replace f2 := DayV.tk f2 (TK.same k6) | replace f2 := Dp.same k6 _ _ f2 | replace f2 := DpAll.same k6 _ _ f2 | replace f2 := k6 _ _ f2 | replace f2 := Ch.trans f2 (Ch.of_same k6) | replace f2 := Same.trans f2 k6 | replace f2 := stepsAt.same f2 k6 | replace f2 := DpT.same f2 k6 | replace f2 := LOr.same f2 k6 | replace f2 := Ob.same f2 k6 | replace f2 := Gds.same f2 k6 | replace f2 := Gd2.same f2 k6 | replace f2 := Ob2.same f2 k6 | replace f2 := NE.same f2 k6 | replace f2 := NT.same f2 k6 | replace f2 := NEs.same f2 k6 | replace f2 := NX.same f2 k6 | replace f2 := EMs.same f2 k6 | replace f2 := EOs.same f2 k6 | replace f2 := EO.same f2 k6 | replace f2 := GT.same f2 k6 | replace f2 := GTs.same f2 k6 | replace f2 := RB.same f2 k6 | replace f2 := RBs.same f2 k6 | replace f2 := RB2s.same f2 k6 | replace f2 := GR.same f2 k6 | replace f2 := GRs.same f2 k6 | replace f2 := NO.same f2 k6 | replace f2 := NOs.same f2 k6 | replace f2 := NZ.same f2 k6 | replace f2 := NB.same f2 k6 | replace f2 := NBs.same f2 k6 | replace f2 := NQ.same f2 k6 | replace f2 := NQs.same f2 k6 | replace f2 := NX'.same f2 k6
      first | replace s3 := HF.same s3 k6 | replace s3 := WF.same s3 k6 | replace s3 := FT.same s3 k6 | replace s3 := Fd.same s3 k6 | replace s3 := LsD.same s3 k6 | replace s3 := TK.same k6 _ _ s3 | replace s3 := KeysT.tk s3 (TK.same k6) | replace s3 := KeysU.tk s3 (TK.same k6) | replace s3 := KeysN.tk s3 (TK.same k6) | replace s3 := DayV.tk s3 (TK.same k6) | replace s3 := Dp.same k6 _ _ s3 | replace s3 := DpAll.same k6 _ _ s3 | replace s3 := k6 _ _ s3 | replace s3 := Ch.trans s3 (Ch.of_same k6) | replace s3 := Same.trans s3 k6 | replace s3 := stepsAt.same s3 k6 | replace s3 := DpT.same s3 k6 | replace s3 := LOr.same s3 k6 | replace s3 := Ob.same s3 k6 | replace s3 := Gds.same s3 k6 | replace s3 := Gd2.same s3 k6 | replace s3 := Ob2.same s3 k6 | replace s3 := NE.same s3 k6 | replace s3 := NT.same s3 k6 | replace s3 := NEs.same s3 k6 | replace s3 := NX.same s3 k6 | replace s3 := EMs.same s3 k6 | replace s3 := EOs.same s3 k6 | replace s3 := EO.same s3 k6 | replace s3 := GT.same s3 k6 | replace s3 := GTs.same s3 k6 | replace s3 := RB.same s3 k6 | replace s3 := RBs.same s3 k6 | replace s3 := RB2s.same s3 k6 | replace s3 := GR.same s3 k6 | replace s3 := GRs.same s3 k6 | replace s3 := NO.same s3 k6 | replace s3 := NOs.same s3 k6 | replace s3 := NZ.same s3 k6 | replace s3 := NB.same s3 k6 | replace s3 := NBs.same s3 k6 | replace s3 := NQ.same s3 k6 | replace s3 := NQs.same s3 k6 | replace s3 := NX'.same s3 k6
      replace k1 := k1.trans (Ch.of_same k6)
      refine i_catG s3 s4 (by rw [List.length_append, List.length_take, List.length_drop, List.length_map, sizeLine_eq]; show _ + 2 + _ ≤ _; omega) fun A5 H7 k7 s5 => ?_
      have ee : (qs.map V.str).take n ++ [.str x1, .str x0] ++ (qs.map V.str).drop (n + 2) = (qs.take n ++ ([x1, x0] ++ qs.drop (n + 2))).map V.str := by
        rw [List.map_append, List.map_append, List.map_take, List.map_drop, List.append_assoc]
        rfl
      rw [ee] at s5
      have pm1 : (qs.take n ++ ([x1, x0] ++ qs.drop (n + 2))).Perm (qs.take n ++ ([x0, x1] ++ qs.drop (n + 2))) := (List.Perm.swap x0 x1 []).append_right _ |>.append_left _
      rw [e0] at pm1
      exact q A5 _ H7 pm1 s5 ((f2.same k7).mono (by omega)) (k1.trans (Ch.of_same k7))
theorem ok_law_first (D : Dn K mg "_law_first" s__law_first ["_law_one_here", "_law_other", "_law_state_here", "_law_most"]) (B : Bn mg) : Cl P w K mg base 1 "_law_first" ["_law_one_here", "_law_other", "_law_state_here", "_law_most"] (spLFirst K P w) := by
  refine D.cl sc__law_first (fun vs H Q E h => ?_) (fun f cdv A outer s H vs Q E hr h => ?_)
  · obtain ⟨D1, D2, s1, L1, L2, m, k, ps, rs, ds, qs, os, t, rfl, _⟩ := h
    rfl
  · obtain ⟨D1, D2, s1, L1, L2, m, k, ps, rs, ds, qs, os, t, rfl, hm, e1, ks1, dv1, e2, ks2, dv2, hH, mq, mo, sb, tl, tk, q⟩ := h
    have lt3 : ∀ {u : List Nat}, (∀ x ∈ u, x < k) → ∀ x ∈ u, x < 300 := fun h x hx => by have := h x hx; rcases hH.two with e | e <;> omega
    refine ⟨_, (pss_cons (ps_set (i := 4) sc__law_first.nd rfl (by first | exact Or.inl rfl | exact Or.inr rfl) (pv 2))
      (pss_cons (ps_for PassesOwn.never rfl (pi_range2 rfl B.range_ (pa_cons pe_int (pa_cons (pe_op op_add (pv 3) pe_int) pa_nil))) (pg_name (i := 5) sc__law_first.nd rfl (by first | exact Or.inl rfl | exact Or.inr rfl)) (pss_cons (ps_if (pt_cmpR (k_neD (K := K) hr.units) (k_dgT (K := K) (P := P) (w := w) (hu1 hr) (pv 0) (pv 4) (fun _ _ => rfl)) (k_dgT (K := K) (P := P) (w := w) (hu1 hr) (pv 1) (pv 4) (fun _ _ => rfl)) (nomark _)) (pss_one (ps_ret (pv 5))) pss_nil)
      (pss_one (ps_set (i := 4) sc__law_first.nd rfl (by first | exact Or.inl rfl | exact Or.inr rfl) (k_dgT (K := K) (P := P) (w := w) (hu1 hr) (pv 0) (pv 4) (fun _ _ => rfl))))))
      (pss_one (ps_ret pe_non)))), ?_⟩
    repeat' (walk_at "jv")
    have hmm : ((m : Int) + 1 - 1).toNat = m := by omega
    rw [hmm]
    refine f_range (fun i σ H' => ∃ (b : Addr) (y : Option V), σ = [some (.ref D1), some (.ref D2), some (.ref s1), some (.int m), some (.ref b), y] ∧ H' = H ∧ SqT K H b (natsV (dIt k ps rs ds qs t i)) ∧ (∀ j, j < i → SameAt k ps rs ds qs os t j)) ⟨s1, none, rfl, rfl, sb, fun j hj => absurd hj (Nat.not_lt_zero _)⟩ (fun i σ H' hi h => ?_) (fun σ H' h => ?_)
    · obtain ⟨b, y, rfl, rfl, sb, hs⟩ := h
      have ul : (dIt k ps rs ds qs t i).length = ps.length := by rw [dIt_len, tl]
      have uk := dIt_lt (rs := rs) (ds := ds) hH mq tk i
      obtain ⟨b1, l1, sb1⟩ := dv1 _ ul uk
      obtain ⟨b2, l2, sb2⟩ := dv2 _ ul uk
      have v1 := day_lt (rs := rs) (ds := ds) hH _ _ mq uk
      have v2 := day_lt (rs := rs) (ds := ds) hH _ _ mo uk
      repeat' (walk_at "jv")
      refine i_dgT ?_
      repeat' (walk_at "jv")
      refine i_dgAt e1 ks1 sb l1 ?_
      repeat' (walk_at "jv")
      refine i_dgT ?_
      repeat' (walk_at "jv")
      refine i_dgAt e2 ks2 sb l2 ?_
      repeat' (walk_at "jv")
      refine i_neSt (lt3 v1) (lt3 v2) (st_dp sb1) (st_dp sb2) ?_
      repeat' (walk_at "jv")
      · rename_i hne
        have hd : ¬ SameAt k ps rs ds qs os t i := hne
        have := q (some (i + 1)) (.day i hi hd hs)
        rw [show (1 : Int) + (i : Int) = ((i + 1 : Nat) : Int) from by omega]
        exact this
      · rename_i hne
        refine i_dgT ?_
        repeat' (walk_at "jv")
        refine i_dgAt e1 ks1 sb l1 ?_
        repeat' (walk_at "jv")
        refine ⟨b1, _, rfl, rfl, sb1, fun j hj => ?_⟩
        rcases Nat.lt_or_eq_of_le (Nat.le_of_lt_succ hj) with c | c
        · exact hs j c
        · rw [c]
          exact hne
    · obtain ⟨b, y, rfl, rfl, sb, hs⟩ := h
      repeat' (walk_at "jv")
      exact q none (.never hs)
end
end
section
open L2 PySem PySem.Spec PyProof.Rows
abbrev s__law_right : Stmt := topS 83
theorem sc__law_right : FnScope ["_law_feed_here", "_law_hall_here", "_law_order_here", "_law_other", "_law_one_here", "_law_two", "_law_turn", "_law_state_here", "_law_at", "_law_place", "_law_count", "_law_due", "_law_here", "_law_day_here", "_law_first_here"] ["_law_feed_here"] (defScope s__law_right) := ⟨rfl, rfl, rfl, by decide +kernel, rfl, by decide +kernel, by decide +kernel⟩
abbrev s_law : Stmt := topS 84
theorem sc_law : FnScope ["_law_script", "_law_k"] ["_law_script"] (defScope s_law) := ⟨rfl, rfl, rfl, by decide +kernel, rfl, by decide +kernel, by decide +kernel⟩
def spRight (K : PySem.W.Frag) : Sp := fun vs H Q _ => ∃ (a : Addr) (c : Int), vs = [.ref a] ∧ Fd H a c ∧ c < 10 ^ 8 ∧ ∀ H', Ch a H H' → Q (.bl true) H'
def spLaw (K : PySem.W.Frag) : Sp := fun vs H Q _ => ∃ (a : Addr) (ns : List Int), vs = [.ref a] ∧ SqL K H a (ns.map V.int) ∧ ns.length ≤ 63 ∧ ∀ H', Q (.bl true) H'
theorem sh_opt {r : Option Nat} (h : ∀ b, r = some b → b ≤ 256) : ∃ d, (∀ (K : PySem.W.Frag) (H : Hp) (a : Addr), Ob K H a (optV r) d) ∧ ShO d := by
  cases r with
  | none => exact ⟨_, fun _ _ _ => .non, sh_none⟩
  | some b =>
    have := h b rfl
    exact ⟨_, fun _ _ _ => .int _, (nw_int (i := ((b : Nat) : Int)) (by omega) (by omega)).sh (by decide) (by decide)⟩
theorem in_shownW {t : List Nat} (h : ∀ n ∈ t, n < 300) (hl : t.length ≤ 600) : (intsD t).showable = true ∧ (intsD t).hasDict = false ∧ (intsD t).depth ≤ 40 ∧ (intsD t).shown.length ≤ sizeLine := (Gd.ints h).shown (by omega) (by omega)
theorem story_lenW {k : Nat} {ps : List Str} {rs : List (Str × Str)} {ds : List PyData} {ord : List Str} {t : List Nat} {n : Nat} : (storyL k ps rs ds ord t n).length = n + 1 := by
  unfold storyL
  rw [List.length_map, List.length_range]
theorem story_up {k : Nat} {ps : List Str} {rs : List (Str × Str)} {ds : List PyData} {ord : List Str} {t : List Nat} {n : Nat} : storyL k ps rs ds ord t (n + 1) = storyL k ps rs ds ord t n ++ [dIt k ps rs ds ord t (n + 1)] := by
  unfold storyL
  rw [List.range_succ, List.map_append]
  rfl
theorem story_agree {k : Nat} {ps : List Str} {rs : List (Str × Str)} {ds : List PyData} {qs os : List Str} {t : List Nat} {n : Nat} (h : ∀ j, j < n → dIt k ps rs ds os t j = dIt k ps rs ds qs t j) : (storyL k ps rs ds os t n).take n = (storyL k ps rs ds qs t n).take n := by
  unfold storyL
  rw [← List.map_take, ← List.map_take, List.take_range]
  refine List.map_congr_left fun j hj => h j ?_
  have := List.mem_range.mp hj
  omega
theorem ne_dt {P : Program} {w : World} {H : Hp} {D U : Addr} {L : StL} {xs : List V} (e : H D = some (DtO P w D L)) (e2 : H U = some (.lst xs)) : D ≠ U := fun z => by
  subst z
  rw [e] at e2
  exact nomatch Option.some.inj e2
theorem HF.lst {K : PySem.W.Frag} {H : Hp} {v : V} {k : Nat} {ps : List Str} {rs : List (Str × Str)} {ds : List PyData} {D : Addr} {o : HO} {xs : List V} (h : HF K H v k ps rs ds) (e : H D = some (.lst xs)) : HF K (upd H D o) v k ps rs ds := by
  obtain ⟨t, T, wv, rfl, s, hw, dT, u⟩ := h
  exact ⟨t, T, wv, rfl, TK.lst e _ _ s, hw.lst e, Dp.tk (TK.lst e) _ _ (by show tupOnlyAll ds = true; exact u) dT, u⟩
section
variable {base : Heap} {P : Program} {w : World} {K : PySem.W.Frag} {mg : Str → Option Value}
theorem ok_right (D : Dn K mg "_law_right" s__law_right ["_law_feed_here"]) (B : Bn mg) (C__law_any_hall : Cl P w K mg base 6 "_law_any_hall" ["_law_feed_here"] (spAnyHF K)) (C__law_order : Cl P w K mg base 3 "_law_order" ["_law_feed_here", "_law_web_here"] (spOrderF K)) (C__law_near_order : Cl P w K mg base 3 "_law_near_order" ["_law_feed_here", "_law_order_here"] (spNearO K)) (C__law_days : Cl P w K mg base 5 "_law_days" ["_law_hall_here", "_law_order_here"] (spDaysT3 K P w)) (C__law_state : Cl P w K mg base 2 "_law_state" ["_law_feed_here", "_law_hall_here"] (spLState K)) (C__law_draw : Cl P w K mg base 1 "_law_draw" ["_law_feed_here", "_law_many"] spDraw) (C__law_one : Cl P w K mg base 2 "_law_one" ["_law_feed_here", "_law_things"] (spOne K)) (C_watched : Cl P w K mg base 11 "watched" ["hall", "order", "state", "place", "count"] (spWatched K)) (K_watched : ClK5 P w K mg base 11 "watched" ["hall", "order", "state", "place", "count"] ["count", "place", "state", "order", "hall"] (spWatched K)) (C__law_first : Cl P w K mg base 1 "_law_first" ["_law_one_here", "_law_other", "_law_state_here", "_law_most"] (spLFirst K P w)) (C_first_unlike_day : Cl P w K mg base 10 "first_unlike_day" ["hall", "order", "other", "state"] (spFirstG K)) (K_first_unlike_day : ClK P w K mg base 10 "first_unlike_day" ["hall", "order", "other", "state"] ["state", "other", "order", "hall"] (spFirstG K)) (C_story : Cl P w K mg base 11 "story" ["hall", "order", "state", "count"] (spTold K)) : ClG P w K mg base 12 "_law_right" ["_law_feed_here"] (spRight K) := by
  refine D.clG sc__law_right (fun vs H Q E h => ?_) (fun f cdv A outer s H vs Q E hgd hr h => ?_)
  · obtain ⟨a, c, rfl, _⟩ := h
    rfl
  · obtain ⟨a, c, rfl, hf, hc, q⟩ := h
    refine ⟨_, (pss_cons (ps_set (i := 1) sc__law_right.nd rfl (by first | exact Or.inl rfl | exact Or.inr rfl) (pe_c C__law_any_hall hr (pa_cons (pv 0) pa_nil)))
      (pss_cons (ps_set (i := 2) sc__law_right.nd rfl (by first | exact Or.inl rfl | exact Or.inr rfl) (pe_c C__law_order hr (pa_cons (pv 0) (pa_cons (pe_ix (k_ixT (K := K)) (pv 1) pe_int (fun _ _ => rfl)) pa_nil))))
      (pss_cons (ps_set (i := 3) sc__law_right.nd rfl (by first | exact Or.inl rfl | exact Or.inr rfl) (pe_c C__law_near_order hr (pa_cons (pv 0) (pa_cons (pv 2) pa_nil))))
      (pss_cons (ps_par (i := 4) (j := 5) rfl sc__law_right.nd rfl rfl (by decide) rfl rfl (pa_cons (pe_c C__law_days hr (pa_cons (pv 1) (pa_cons (pv 2) pa_nil))) (pa_cons (pe_c C__law_days hr (pa_cons (pv 1) (pa_cons (pv 3) pa_nil))) pa_nil)) (by rfl))
      (pss_cons (ps_for PassesOwn.never rfl (pi_range1 rfl B.range_ (pa_cons pe_int pa_nil)) (pg_name (i := 6) sc__law_right.nd rfl (by first | exact Or.inl rfl | exact Or.inr rfl)) (pss_cons (ps_par (i := 7) (j := 8) rfl sc__law_right.nd rfl rfl (by decide) rfl rfl (pa_cons (pe_c C__law_state hr (pa_cons (pv 0) (pa_cons (pv 1) pa_nil))) (pa_cons (pe_c C__law_draw hr (pa_cons (pv 0) (pa_cons (pe_callB (k_len (K := K)) rfl B.len_ (by decide +kernel) (pa_cons (pv 2) pa_nil)) pa_nil))) pa_nil)) (by rfl))
      (pss_cons (ps_par (i := 9) (j := 10) rfl sc__law_right.nd rfl rfl (by decide) rfl rfl (pa_cons (pe_ix (k_ixT (K := K)) (pe_ix (k_ixT (K := K)) (pe_ix (k_ixT (K := K)) (pv 1) pe_int (fun _ _ => rfl)) pe_int (fun _ _ => rfl)) (pv 8) (fun _ _ => rfl)) (pa_cons (pe_c C__law_one hr (pa_cons (pv 0) (pa_cons (pe_lst (pa_cons pe_int (pa_cons pe_int (pa_cons pe_int (pa_cons pe_int (pa_cons pe_int (pa_cons (pe_c C__law_draw hr (pa_cons (pv 0) (pa_cons pe_int pa_nil))) pa_nil))))))) pa_nil))) pa_nil)) (by rfl))
      (pss_cons (ps_par (i := 11) (j := 12) rfl sc__law_right.nd rfl rfl (by decide) rfl rfl (pa_cons (pe_lst (pa_cons (pe_ix (k_ixT (K := K)) (pv 7) (pv 8) (fun _ _ => rfl)) pa_nil)) (pa_cons (pv 7) pa_nil)) (by rfl))
      (pss_cons (ps_for PassesOwn.never rfl (pi_range1 rfl B.range_ (pa_cons (pv 10) pa_nil)) (pg_name (i := 13) sc__law_right.nd rfl (by first | exact Or.inl rfl | exact Or.inr rfl)) (pss_cons (ps_set (i := 12) sc__law_right.nd rfl (by first | exact Or.inl rfl | exact Or.inr rfl) (k_dgT (K := K) (P := P) (w := w) (hu1 hr) (pv 4) (pv 12) (fun _ _ => rfl)))
      (pss_one (ps_expr (pe_bm PySem.F.plainAttrs_list PySem.F.slot_list_append PySem.F.type_list_append mt_append (pv 11) (pa_cons (pe_ix (k_ixT (K := K)) (pv 12) (pv 8) (fun _ _ => rfl)) pa_nil))))))
      (pss_cons (ps_if (pt_cmpR op_ne (pe_callB (k_show (K := K) hgd hr.units) rfl B.repr_ (by decide +kernel) (pa_cons (pe_c C_watched hr (pa_cons (pv 1) (pa_cons (pv 2) (pa_cons (pv 7) (pa_cons (pv 9) (pa_cons (pv 10) pa_nil)))))) pa_nil)) (pe_callB (k_show (K := K) hgd hr.units) rfl B.repr_ (by decide +kernel) (pa_cons (pe_callTy (k_tuple (K := K)) rfl B.tuple_ (by decide +kernel) (pa_cons (pv 11) pa_nil)) pa_nil)) (nomark _)) (pss_one (ps_ret pe_bl)) pss_nil)
      (pss_cons (ps_if (pt_cmpR op_ne (pe_callB (k_show (K := K) hgd hr.units) rfl B.repr_ (by decide +kernel) (pa_cons (pe_ck5 K_watched hr (pk_cons (pv 10) (pk_cons (pv 9) (pk_cons (pv 7) (pk_cons (pv 2) (pk_cons (pv 1) pk_nil)))))) pa_nil)) (pe_callB (k_show (K := K) hgd hr.units) rfl B.repr_ (by decide +kernel) (pa_cons (pe_callTy (k_tuple (K := K)) rfl B.tuple_ (by decide +kernel) (pa_cons (pv 11) pa_nil)) pa_nil)) (nomark _)) (pss_one (ps_ret pe_bl)) pss_nil)
      (pss_cons (ps_set (i := 14) sc__law_right.nd rfl (by first | exact Or.inl rfl | exact Or.inr rfl) (pe_c C__law_first hr (pa_cons (pv 4) (pa_cons (pv 5) (pa_cons (pv 7) (pa_cons (pe_callB (k_lenD (K := K) (P := P) (w := w)) rfl B.len_ (by decide +kernel) (pa_cons (pv 4) pa_nil)) pa_nil))))))
      (pss_cons (ps_if (pt_cmpR op_ne (pe_callB (k_showO (K := K) hgd hr.units) rfl B.repr_ (by decide +kernel) (pa_cons (pe_c C_first_unlike_day hr (pa_cons (pv 1) (pa_cons (pv 2) (pa_cons (pv 3) (pa_cons (pv 7) pa_nil))))) pa_nil)) (pe_callB (k_showO (K := K) hgd hr.units) rfl B.repr_ (by decide +kernel) (pa_cons (pv 14) pa_nil)) (nomark _)) (pss_one (ps_ret pe_bl)) pss_nil)
      (pss_cons (ps_if (pt_cmpR op_ne (pe_callB (k_showO (K := K) hgd hr.units) rfl B.repr_ (by decide +kernel) (pa_cons (pe_ck K_first_unlike_day hr (pk_cons (pv 7) (pk_cons (pv 2) (pk_cons (pv 3) (pk_cons (pv 1) pk_nil))))) pa_nil)) (pe_callB (k_showO (K := K) hgd hr.units) rfl B.repr_ (by decide +kernel) (pa_cons (pv 14) pa_nil)) (nomark _)) (pss_one (ps_ret pe_bl)) pss_nil)
      (pss_cons (ps_if (PW.pt (pw_and (pt_cmpR op_notN (pv 14) pe_non (nomark _)) (pw_and1 (pt_cmpR (k_neD (K := K) hr.units) (pe_slice (k_slL (K := K)) (pe_c C_story hr (pa_cons (pv 1) (pa_cons (pv 2) (pa_cons (pv 7) (pa_cons (pv 14) pa_nil))))) po_none (po_some (pe_un un_neg pe_int))) (pe_slice (k_slL (K := K)) (pe_c C_story hr (pa_cons (pv 1) (pa_cons (pv 3) (pa_cons (pv 7) (pa_cons (pv 14) pa_nil))))) po_none (po_some (pe_un un_neg pe_int))) (nomark _))))) (pss_one (ps_ret pe_bl)) pss_nil)
      (pss_one (ps_if (pt_cmpR op_notN (pe_c C_first_unlike_day hr (pa_cons (pv 1) (pa_cons (pv 2) (pa_cons (pv 2) (pa_cons (pv 7) pa_nil))))) pe_non (nomark _)) (pss_one (ps_ret pe_bl)) pss_nil)))))))))))))
      (pss_one (ps_ret pe_bl))))))), ?_⟩
    repeat' (walk_at "jv")
    refine ⟨a, c, rfl, hf, by omega, fun v k ps rs ds H1 hH hh f1 k1 => ?_⟩
    have W := hH.web
    have h8 := W.le8
    have h0 := W.pos
    have hfew := hH.few
    have hk2 : 2 ≤ k ∧ k ≤ 3 := by rcases hH.two with e | e <;> omega
    obtain ⟨ta, T0, wv, rfl, sh, hw, dT, uT⟩ := id hh
    clear dT hf
    repeat' (walk_at "jv")
    refine ⟨a, wv, ps, rs, _, rfl, f1, hw.dp, h8, by omega, fun o qs H2 pm fo f2 k2 => ?_⟩
    replace hh := HF.ch hh k2 f1
    replace k1 := Ch.trans k1 k2
    clear sh hw f1 k2 H1
    have so := fo.sq (K := K)
    clear fo
    have hqp := pm.length_eq
    repeat' (walk_at "jv")
    refine ⟨a, o, qs, _, rfl, f2, by omega, so, by omega, by omega, fun o2 os H3 pm2 so2 f3 k3 => ?_⟩
    replace hh := HF.ch hh k3 f2
    replace so := TK.ch k3 f2 _ _ so
    replace k1 := Ch.trans k1 k3
    clear f2 k3 H2
    replace pm2 := pm2.trans pm
    have mq : ∀ z ∈ qs, z ∈ ps := fun z hz => pm.mem_iff.mp hz
    have mo : ∀ z ∈ os, z ∈ ps := fun z hz => pm2.mem_iff.mp hz
    have hslen := states_len k ps.length
    repeat' (walk_at "jv")
    refine ⟨.ref ta, o, k, ps, rs, ds, qs, rfl, hh, hH, so, pm, fun D1 L1 H4 k4 n1 e1 y1 g1 ks1 dv1 => ?_⟩
    have d1 := f3.ne n1
    replace hh := HF.same hh k4
    replace so := TK.same k4 _ _ so
    replace so2 := TK.same k4 _ _ so2
    replace f3 := Fd.same f3 k4
    replace k1 := Ch.trans k1 (Ch.of_same k4)
    clear k4 n1 H3
    repeat' (walk_at "jv")
    refine ⟨.ref ta, o2, k, ps, rs, ds, os, rfl, hh, hH, so2, pm2, fun D2 L2 H5 k5 n2 e2 y2 g2 ks2 dv2 => ?_⟩
    have d2 := f3.ne n2
    replace hh := HF.same hh k5
    replace so := TK.same k5 _ _ so
    replace so2 := TK.same k5 _ _ so2
    replace f3 := Fd.same f3 k5
    replace k1 := Ch.trans k1 (Ch.of_same k5)
    replace e1 := k5 _ _ e1
    replace ks1 := KeysT.tk ks1 (TK.same k5)
    replace dv1 := DayV.tk dv1 (TK.same k5)
    clear k5 n2 H4
    have lL1 : L1.length = k ^ ps.length := by rw [← hslen, ← g1, List.length_map]
    repeat' (walk_at "jv")
    refine f_range (fun i σ H' => ∃ x0 x1 x2 x3 x4 x5 x6 x7 x8, σ = [some (.ref a), some (.ref ta), some (.ref o), some (.ref o2), some (.ref D1), some (.ref D2), x0, x1, x2, x3, x4, x5, x6, x7, x8] ∧ HF K H' (.ref ta) k ps rs ds ∧ SqT K H' o (qs.map V.str) ∧ SqT K H' o2 (os.map V.str) ∧ H' D1 = some (DtO P w D1 L1) ∧ KeysT K H' L1 ∧ DayV K H' k ps rs ds qs L1 ∧ H' D2 = some (DtO P w D2 L2) ∧ KeysT K H' L2 ∧ DayV K H' k ps rs ds os L2 ∧ Fd H' a (c + 4000000000 + 100 * i) ∧ Ch a H H') ⟨_, _, _, _, _, _, _, _, _, rfl, hh, so, so2, e1, ks1, dv1, e2, ks2, dv2, f3.mono (by omega), k1⟩ (fun i σ H6 hi h => ?_) (fun σ H6 h => ?_)
    · clear hh so so2 e1 ks1 dv1 e2 ks2 dv2 f3 k1
      obtain ⟨x0, x1, x2, x3, x4, x5, x6, x7, x8, rfl, hh, so, so2, e1, ks1, dv1, e2, ks2, dv2, f6, k1⟩ := h
      have hi5 : i < 5 := hi
      rw [show (0 : Int) + (i : Int) = (i : Int) from by omega]
      repeat' (walk_at "jv")
      refine ⟨a, .ref ta, _, k, ps, rs, ds, rfl, f6, by omega, hh.dp, uT, hH, fun b t H7 tl tk sb f7 k7 => ?_⟩
      replace hh := HF.ch hh k7 f6
      replace so := TK.ch k7 f6 _ _ so
      replace so2 := TK.ch k7 f6 _ _ so2
      replace e1 := k7 _ _ (by assumption) e1
      replace ks1 := KeysT.tk ks1 (TK.ch k7 f6)
      replace dv1 := DayV.tk dv1 (TK.ch k7 f6)
      replace e2 := k7 _ _ (by assumption) e2
      replace ks2 := KeysT.tk ks2 (TK.ch k7 f6)
      replace dv2 := DayV.tk dv2 (TK.ch k7 f6)
      replace k1 := Ch.trans k1 k7
      clear f6 k7 H6
      repeat' (walk_at "jv")
      have hql : (qs.map V.str).length = ps.length := by rw [List.length_map, hqp]
      rw [hql]
      refine ⟨a, _, _, rfl, f7, by omega, by omega, by omega, fun at0 H8 a0 a1 f8 k8 => ?_⟩
      replace hh := HF.ch hh k8 f7
      replace so := TK.ch k8 f7 _ _ so
      replace so2 := TK.ch k8 f7 _ _ so2
      replace e1 := k8 _ _ (by assumption) e1
      replace ks1 := KeysT.tk ks1 (TK.ch k8 f7)
      replace dv1 := DayV.tk dv1 (TK.ch k8 f7)
      replace e2 := k8 _ _ (by assumption) e2
      replace ks2 := KeysT.tk ks2 (TK.ch k8 f7)
      replace dv2 := DayV.tk dv2 (TK.ch k8 f7)
      replace k1 := Ch.trans k1 k8
      replace sb := TK.ch k8 f7 _ _ sb
      clear f7 k8 H7
      obtain ⟨at1, rfl⟩ := Int.eq_ofNat_of_zero_le a0
      have hat : at1 < ps.length := by omega
      have ga : atI (ps.map V.str) ((at1 : Nat) : Int) = some (.str ps[at1]) := atI_nat (by rw [List.getElem?_map, List.getElem?_eq_getElem hat]; rfl)
      have mz : ps[at1] ∈ ps := List.getElem_mem hat
      have hix : ps.idxOf ps[at1] = at1 := W.names.1.idxOf_getElem _ hat
      generalize ps[at1] = z at *
      obtain ⟨ta9, T9, wv9, e9, sh, hw, dT, _⟩ := id hh
      cases e9
      obtain ⟨tw, tp, tr, rfl, w1, w2, w3⟩ := hw
      have w2q := w2.sq (K := K)
      repeat' (walk_at "jv")
      refine ⟨a, 501, _, rfl, f8, by omega, by omega, by omega, fun r H9 r0 r1 f9 k9 => ?_⟩
      replace hh := HF.ch hh k9 f8
      replace so := TK.ch k9 f8 _ _ so
      replace so2 := TK.ch k9 f8 _ _ so2
      replace e1 := k9 _ _ (by assumption) e1
      replace ks1 := KeysT.tk ks1 (TK.ch k9 f8)
      replace dv1 := DayV.tk dv1 (TK.ch k9 f8)
      replace e2 := k9 _ _ (by assumption) e2
      replace ks2 := KeysT.tk ks2 (TK.ch k9 f8)
      replace dv2 := DayV.tk dv2 (TK.ch k9 f8)
      replace k1 := Ch.trans k1 k9
      replace sb := TK.ch k9 f8 _ _ sb
      clear f8 k9 sh w1 w2 w3 w2q dT ga H8
      repeat' (walk_at "jv")
      intro N1 nN1
      have dN1 := f9.ne nN1
      have kN1 := Same.upd_new (o := .lst [.int 0, .int 1, .int 7, .int 40, .int 500, .int r]) nN1
      have eN1 : (upd H9 N1 (.lst [.int 0, .int 1, .int 7, .int 40, .int 500, .int r])) N1 = some (.lst [.int 0, .int 1, .int 7, .int 40, .int 500, .int r]) := upd_same
      generalize upd H9 N1 (.lst [.int 0, .int 1, .int 7, .int 40, .int 500, .int r]) = H9a at *
      replace hh := HF.same hh kN1
      replace so := TK.same kN1 _ _ so
      replace so2 := TK.same kN1 _ _ so2
      replace e1 := kN1 _ _ e1
      replace ks1 := KeysT.tk ks1 (TK.same kN1)
      replace dv1 := DayV.tk dv1 (TK.same kN1)
      replace e2 := kN1 _ _ e2
      replace ks2 := KeysT.tk ks2 (TK.same kN1)
      replace dv2 := DayV.tk dv2 (TK.same kN1)
      replace k1 := Ch.trans k1 (Ch.of_same kN1)
      replace sb := TK.same kN1 _ _ sb
      replace f9 := Fd.same f9 kN1
      clear kN1 nN1 H9
      refine ⟨a, N1, _, [.int 0, .int 1, .int 7, .int 40, .int 500, .int r], rfl, f9, SqA.l (sq_lst eN1), dN1, by show 0 < 6; decide, by show 6 < 1000000; decide, by omega, fun v2 HA hv fA kA => ?_⟩
      obtain ⟨m, rfl, hm⟩ : ∃ m : Nat, v2 = .int (m : Int) ∧ m ≤ 500 := by
        simp only [List.mem_cons, List.not_mem_nil, or_false] at hv
        rcases hv with rfl | rfl | rfl | rfl | rfl | rfl
        · exact ⟨0, rfl, by omega⟩
        · exact ⟨1, rfl, by omega⟩
        · exact ⟨7, rfl, by omega⟩
        · exact ⟨40, rfl, by omega⟩
        · exact ⟨500, rfl, by omega⟩
        · exact ⟨r.toNat, congrArg V.int (by omega), by omega⟩
      replace hh := HF.ch hh kA f9
      replace so := TK.ch kA f9 _ _ so
      replace so2 := TK.ch kA f9 _ _ so2
      replace e1 := kA _ _ (by assumption) e1
      replace ks1 := KeysT.tk ks1 (TK.ch kA f9)
      replace dv1 := DayV.tk dv1 (TK.ch kA f9)
      replace e2 := kA _ _ (by assumption) e2
      replace ks2 := KeysT.tk ks2 (TK.ch kA f9)
      replace dv2 := DayV.tk dv2 (TK.ch kA f9)
      replace k1 := Ch.trans k1 kA
      replace sb := TK.ch kA f9 _ _ sb
      clear f9 kA eN1 dN1 hv H9a
      have cl : ∀ j, (dIt k ps rs ds qs t j).length = ps.length := fun j => (dIt_len j).trans tl
      have ck : ∀ j, ∀ x ∈ dIt k ps rs ds qs t j, x < k := fun j => dIt_lt (rs := rs) (ds := ds) hH mq tk j
      have gat : ∀ u : List Nat, u.length = ps.length → atI (natsV u) ((at1 : Nat) : Int) = some (.int ((u.getD at1 0 : Nat) : Int)) := fun u hu => atI_nat (by
        unfold natsV
        rw [List.getElem?_map, List.getElem?_eq_getElem (by omega), List.getD_eq_getElem?_getD, List.getElem?_eq_getElem (by omega)]
        rfl)
      have g0 := gat t tl
      repeat' (walk_at "jv")
      intro U nU
      have dU := fA.ne nU
      have kU := Same.upd_new (o := .lst [.int ((t.getD at1 0 : Nat) : Int)]) nU
      have eU : (upd HA U (.lst [.int ((t.getD at1 0 : Nat) : Int)])) U = some (.lst (natsV ((storyL k ps rs ds qs t 0).map fun u => u.getD at1 0))) := upd_same
      generalize upd HA U (.lst [.int ((t.getD at1 0 : Nat) : Int)]) = HB at *
      have nUH : H U = none := k1.free dU nU
      replace hh := HF.same hh kU
      replace so := TK.same kU _ _ so
      replace so2 := TK.same kU _ _ so2
      replace e1 := kU _ _ e1
      replace ks1 := KeysT.tk ks1 (TK.same kU)
      replace dv1 := DayV.tk dv1 (TK.same kU)
      replace e2 := kU _ _ e2
      replace ks2 := KeysT.tk ks2 (TK.same kU)
      replace dv2 := DayV.tk dv2 (TK.same kU)
      replace k1 := Ch.trans k1 (Ch.of_same kU)
      replace sb := TK.same kU _ _ sb
      replace fA := Fd.same fA kU
      clear kU nU HA
      repeat' (walk_at "jv")
      rw [Int.toNat_natCast]
      refine f_range (fun j σ H' => ∃ bH y7, σ = [some (.ref a), some (.ref ta), some (.ref o), some (.ref o2), some (.ref D1), some (.ref D2), some (.int (i : Int)), some (.ref b), some (.int (at1 : Int)), some (.str z), some (.int (m : Int)), some (.ref U), some (.ref bH), y7, x8] ∧ SqT K H' bH (natsV (dIt k ps rs ds qs t j)) ∧ H' U = some (.lst (natsV ((storyL k ps rs ds qs t j).map fun u => u.getD at1 0))) ∧ SqT K H' b (natsV t) ∧ HF K H' (.ref ta) k ps rs ds ∧ SqT K H' o (qs.map V.str) ∧ SqT K H' o2 (os.map V.str) ∧ H' D1 = some (DtO P w D1 L1) ∧ KeysT K H' L1 ∧ DayV K H' k ps rs ds qs L1 ∧ H' D2 = some (DtO P w D2 L2) ∧ KeysT K H' L2 ∧ DayV K H' k ps rs ds os L2 ∧ Fd H' a (c + 4000000000 + 100 * i + 8 + 1 + 1 + 1) ∧ Ch a H H') ⟨b, _, rfl, sb, eU, sb, hh, so, so2, e1, ks1, dv1, e2, ks2, dv2, fA, k1⟩ (fun j σ HC hj h => ?_) (fun σ HC h => ?_)
      · clear sb eU hh so so2 e1 ks1 dv1 e2 ks2 dv2 fA k1
        obtain ⟨bH, y7, rfl, sH, eU, sb, hh, so, so2, e1, ks1, dv1, e2, ks2, dv2, fA, k1⟩ := h
        obtain ⟨bn, lk, sn⟩ := dv1 _ (cl j) (ck j)
        have gj := gat _ (cl (j + 1))
        replace sn : SqT K HC bn (natsV (dIt k ps rs ds qs t (j + 1))) := sn
        repeat' (walk_at "jv")
        refine i_dgT ?_
        repeat' (walk_at "jv")
        refine i_dgAt e1 ks1 sH lk ?_
        repeat' (walk_at "jv")
        have hul : (natsV ((storyL k ps rs ds qs t j).map fun u => u.getD at1 0)).length = j + 1 := by rw [nats_len, List.length_map, story_lenW]
        have tkU := TK.lst (K := K) (o := .lst (natsV ((storyL k ps rs ds qs t j).map fun u => u.getD at1 0) ++ [.int (((dIt k ps rs ds qs t (j + 1)).getD at1 0 : Nat) : Int)])) eU
        have hhU := hh.lst (o := .lst (natsV ((storyL k ps rs ds qs t j).map fun u => u.getD at1 0) ++ [.int (((dIt k ps rs ds qs t (j + 1)).getD at1 0 : Nat) : Int)])) eU
        have fU := fA.upd (q := U) (o := .lst (natsV ((storyL k ps rs ds qs t j).map fun u => u.getD at1 0) ++ [.int (((dIt k ps rs ds qs t (j + 1)).getD at1 0 : Nat) : Int)])) (Ne.symm dU)
        refine i_app eU (by rw [hul, sizeLine_eq]; omega) ?_
        refine ⟨bn, _, by rw [show (0 : Int) + (j : Int) = (j : Int) from by omega]; rfl, tkU _ _ sn, ?_, tkU _ _ sb, hhU, tkU _ _ so, tkU _ _ so2, ?_, ks1.tk tkU, dv1.tk tkU, ?_, ks2.tk tkU, dv2.tk tkU, fU, k1.upd_l nUH⟩
        · rw [story_up, List.map_append]
          show (upd HC U _) U = some (.lst (natsV (_ ++ [(dIt k ps rs ds qs t (j + 1)).getD at1 0])))
          rw [nats_snocW]
          exact upd_same
        · exact (upd_ne (ne_dt e1 eU)).trans e1
        · exact (upd_ne (ne_dt e2 eU)).trans e2
      · clear sb eU hh so so2 e1 ks1 dv1 e2 ks2 dv2 fA k1
        obtain ⟨bH, y7, rfl, sH, eU, sb, hh, so, so2, e1, ks1, dv1, e2, ks2, dv2, fA, k1⟩ := h
        clear sH
        have hcol : ∀ x ∈ (storyL k ps rs ds qs t m).map fun u => u.getD at1 0, x < 300 := fun x hx => by
          obtain ⟨u, hu, rfl⟩ := List.mem_map.mp hx
          obtain ⟨j, _, rfl⟩ := List.mem_map.mp hu
          have hl := cl j
          rw [List.getD_eq_getElem?_getD, List.getElem?_eq_getElem (by omega)]
          have := ck j _ (List.getElem_mem (by omega : at1 < (dIt k ps rs ds qs t j).length))
          show (dIt k ps rs ds qs t j)[at1] < 300
          omega
        have hcl : ((storyL k ps rs ds qs t m).map fun u => u.getD at1 0).length = m + 1 := by rw [List.length_map, story_lenW]
        obtain ⟨r1, r2, r3, r4⟩ := in_shownW hcol (by omega)
        repeat' (walk_at "jv")
        refine ⟨.ref ta, o, b, z, m, k, ps, rs, ds, qs, t, rfl, hh, hH, so, pm, sb, tl, tk, mz, hm, fun T1 HD kD sT1 => ?_⟩
        rw [hix] at sT1
        replace hh := HF.same hh kD
        replace so := TK.same kD _ _ so
        replace so2 := TK.same kD _ _ so2
        replace e1 := kD _ _ e1
        replace ks1 := KeysT.tk ks1 (TK.same kD)
        replace dv1 := DayV.tk dv1 (TK.same kD)
        replace e2 := kD _ _ e2
        replace ks2 := KeysT.tk ks2 (TK.same kD)
        replace dv2 := DayV.tk dv2 (TK.same kD)
        replace k1 := Ch.trans k1 (Ch.of_same kD)
        replace sb := TK.same kD _ _ sb
        replace fA := Fd.same fA kD
        replace eU := kD _ _ eU
        clear kD HC
        repeat' (walk_at "jv")
        refine ⟨.ref T1, _, rfl, st_dp sT1, r1, r2, r3, r4, ⟨_, rfl⟩, ?_⟩
        repeat' (walk_at "jv")
        intro T2 nT2
        have kT2 := Same.upd_new (o := .tup (natsV ((storyL k ps rs ds qs t m).map fun u => u.getD at1 0))) nT2
        have sT2 : SqT K (upd HD T2 (.tup (natsV ((storyL k ps rs ds qs t m).map fun u => u.getD at1 0)))) T2 (natsV ((storyL k ps rs ds qs t m).map fun u => u.getD at1 0)) := sq_tup upd_same
        generalize upd HD T2 (.tup (natsV ((storyL k ps rs ds qs t m).map fun u => u.getD at1 0))) = HE at *
        replace hh := HF.same hh kT2
        replace so := TK.same kT2 _ _ so
        replace so2 := TK.same kT2 _ _ so2
        replace e1 := kT2 _ _ e1
        replace ks1 := KeysT.tk ks1 (TK.same kT2)
        replace dv1 := DayV.tk dv1 (TK.same kT2)
        replace e2 := kT2 _ _ e2
        replace ks2 := KeysT.tk ks2 (TK.same kT2)
        replace dv2 := DayV.tk dv2 (TK.same kT2)
        replace k1 := Ch.trans k1 (Ch.of_same kT2)
        replace sb := TK.same kT2 _ _ sb
        replace fA := Fd.same fA kT2
        replace eU := kT2 _ _ eU
        clear kT2 nT2 sT1 HD
        repeat' (walk_at "jv")
        refine ⟨.ref T2, _, rfl, st_dp sT2, r1, r2, r3, r4, ⟨_, rfl⟩, ?_⟩
        repeat' (walk_at "jv")
        · rename_i hne
          exact absurd rfl hne
        refine i_ck5 ?_
        repeat' (walk_at "jv")
        refine ⟨.ref ta, o, b, z, m, k, ps, rs, ds, qs, t, rfl, hh, hH, so, pm, sb, tl, tk, mz, hm, fun T3 HF1 kF sT3 => ?_⟩
        rw [hix] at sT3
        replace hh := HF.same hh kF
        replace so := TK.same kF _ _ so
        replace so2 := TK.same kF _ _ so2
        replace e1 := kF _ _ e1
        replace ks1 := KeysT.tk ks1 (TK.same kF)
        replace dv1 := DayV.tk dv1 (TK.same kF)
        replace e2 := kF _ _ e2
        replace ks2 := KeysT.tk ks2 (TK.same kF)
        replace dv2 := DayV.tk dv2 (TK.same kF)
        replace k1 := Ch.trans k1 (Ch.of_same kF)
        replace sb := TK.same kF _ _ sb
        replace fA := Fd.same fA kF
        replace eU := kF _ _ eU
        clear kF sT2 HE
        repeat' (walk_at "jv")
        refine ⟨.ref T3, _, rfl, st_dp sT3, r1, r2, r3, r4, ⟨_, rfl⟩, ?_⟩
        repeat' (walk_at "jv")
        intro T4 nT4
        have kT4 := Same.upd_new (o := .tup (natsV ((storyL k ps rs ds qs t m).map fun u => u.getD at1 0))) nT4
        have sT4 : SqT K (upd HF1 T4 (.tup (natsV ((storyL k ps rs ds qs t m).map fun u => u.getD at1 0)))) T4 (natsV ((storyL k ps rs ds qs t m).map fun u => u.getD at1 0)) := sq_tup upd_same
        generalize upd HF1 T4 (.tup (natsV ((storyL k ps rs ds qs t m).map fun u => u.getD at1 0))) = HG at *
        replace hh := HF.same hh kT4
        replace so := TK.same kT4 _ _ so
        replace so2 := TK.same kT4 _ _ so2
        replace e1 := kT4 _ _ e1
        replace ks1 := KeysT.tk ks1 (TK.same kT4)
        replace dv1 := DayV.tk dv1 (TK.same kT4)
        replace e2 := kT4 _ _ e2
        replace ks2 := KeysT.tk ks2 (TK.same kT4)
        replace dv2 := DayV.tk dv2 (TK.same kT4)
        replace k1 := Ch.trans k1 (Ch.of_same kT4)
        replace sb := TK.same kT4 _ _ sb
        replace fA := Fd.same fA kT4
        clear kT4 nT4 sT3 eU HF1
        repeat' (walk_at "jv")
        refine ⟨.ref T4, _, rfl, st_dp sT4, r1, r2, r3, r4, ⟨_, rfl⟩, ?_⟩
        repeat' (walk_at "jv")
        · rename_i hne
          exact absurd rfl hne
        clear sT4 r1 r2 r3 r4 hcol hcl g0 gat
        refine ⟨D1, L1, rfl, y1, by omega, e1, ks1, ?_⟩
        repeat' (walk_at "jv")
        rw [lL1]
        refine ⟨D1, D2, b, L1, L2, k ^ ps.length, k, ps, rs, ds, qs, os, t, rfl, by omega, e1, ks1, dv1, e2, ks2, dv2, hH, mq, mo, sb, tl, tk, fun r un => ?_⟩
        obtain ⟨sd, od, shd⟩ := sh_opt (r := r) (fun b e => by subst e; have := un.le; omega)
        repeat' (walk_at "jv")
        refine ⟨.ref ta, o, o2, b, k, ps, rs, ds, qs, os, t, rfl, hh, hH, so, pm, so2, pm2, sb, tl, tk, fun ra HH ura kH => ?_⟩
        obtain rfl : r = ra := un.one ura
        replace hh := HF.same hh kH
        replace so := TK.same kH _ _ so
        replace so2 := TK.same kH _ _ so2
        replace e1 := kH _ _ e1
        replace ks1 := KeysT.tk ks1 (TK.same kH)
        replace dv1 := DayV.tk dv1 (TK.same kH)
        replace e2 := kH _ _ e2
        replace ks2 := KeysT.tk ks2 (TK.same kH)
        replace dv2 := DayV.tk dv2 (TK.same kH)
        replace k1 := Ch.trans k1 (Ch.of_same kH)
        replace sb := TK.same kH _ _ sb
        replace fA := Fd.same fA kH
        clear kH HG
        repeat' (walk_at "jv")
        refine ⟨_, sd, a, rfl, od _ _ _, shd, ?_⟩
        repeat' (walk_at "jv")
        refine ⟨_, sd, a, rfl, od _ _ _, shd, ?_⟩
        repeat' (walk_at "jv")
        · rename_i hne
          exact absurd rfl hne
        refine i_ck ?_
        repeat' (walk_at "jv")
        refine ⟨.ref ta, o2, o, b, k, ps, rs, ds, os, qs, t, rfl, hh, hH, so2, pm2, so, pm, sb, tl, tk, fun rb HI urb kI => ?_⟩
        obtain rfl : r = rb := un.one urb.flip
        replace hh := HF.same hh kI
        replace so := TK.same kI _ _ so
        replace so2 := TK.same kI _ _ so2
        replace e1 := kI _ _ e1
        replace ks1 := KeysT.tk ks1 (TK.same kI)
        replace dv1 := DayV.tk dv1 (TK.same kI)
        replace e2 := kI _ _ e2
        replace ks2 := KeysT.tk ks2 (TK.same kI)
        replace dv2 := DayV.tk dv2 (TK.same kI)
        replace k1 := Ch.trans k1 (Ch.of_same kI)
        replace sb := TK.same kI _ _ sb
        replace fA := Fd.same fA kI
        clear kI HH
        repeat' (walk_at "jv")
        refine ⟨_, sd, a, rfl, od _ _ _, shd, ?_⟩
        repeat' (walk_at "jv")
        refine ⟨_, sd, a, rfl, od _ _ _, shd, ?_⟩
        repeat' (walk_at "jv")
        · rename_i hne
          exact absurd rfl hne
        cases r with
        | none =>
          refine ⟨rfl, false, by simp [optV], ?_⟩
          repeat' (walk_at "jv")
          refine ⟨.ref ta, o, o, b, k, ps, rs, ds, qs, qs, t, rfl, hh, hH, so, pm, so, pm, sb, tl, tk, fun rc HJ urc kJ => ?_⟩
          obtain rfl : none = rc := IsUn.self.one urc
          replace hh := HF.same hh kJ
          replace so := TK.same kJ _ _ so
          replace so2 := TK.same kJ _ _ so2
          replace e1 := kJ _ _ e1
          replace ks1 := KeysT.tk ks1 (TK.same kJ)
          replace dv1 := DayV.tk dv1 (TK.same kJ)
          replace e2 := kJ _ _ e2
          replace ks2 := KeysT.tk ks2 (TK.same kJ)
          replace dv2 := DayV.tk dv2 (TK.same kJ)
          replace k1 := Ch.trans k1 (Ch.of_same kJ)
          replace sb := TK.same kJ _ _ sb
          replace fA := Fd.same fA kJ
          repeat' (walk_at "jv")
          refine ⟨rfl, false, by simp [optV], ?_⟩
          repeat' (walk_at "jv")
          exact ⟨_, _, _, _, _, _, _, _, _, rfl, hh, so, so2, e1, ks1, dv1, e2, ks2, dv2, fA.mono (by omega), k1⟩
        | some n =>
          have unl := un.le
          have hn500 : n ≤ 500 := by omega
          have hun := un.le.2.2
          clear unl
          refine ⟨rfl, true, by simp [optV], ?_⟩
          repeat' (walk_at "jv")
          refine ⟨.ref ta, o, b, n, k, ps, rs, ds, qs, t, rfl, hh, hH, so, pm, sb, tl, tk, hn500, fun T5 HK nT5 kT5 lT5 => ?_⟩
          replace hh := HF.same hh kT5
          replace so := TK.same kT5 _ _ so
          replace so2 := TK.same kT5 _ _ so2
          replace e1 := kT5 _ _ e1
          replace ks1 := KeysT.tk ks1 (TK.same kT5)
          replace dv1 := DayV.tk dv1 (TK.same kT5)
          replace e2 := kT5 _ _ e2
          replace ks2 := KeysT.tk ks2 (TK.same kT5)
          replace dv2 := DayV.tk dv2 (TK.same kT5)
          replace k1 := Ch.trans k1 (Ch.of_same kT5)
          replace sb := TK.same kT5 _ _ sb
          replace fA := Fd.same fA kT5
          clear kT5 nT5 HI
          obtain ⟨usT5, eT5, ddT5, tT5⟩ := lT5
          have hulT5 : usT5.length = n + 1 := by rw [DpAll.len ddT5, List.length_map, story_lenW]
          repeat' (walk_at "jv")
          intro S5 nS5
          rw [cut_most, hulT5, Nat.add_sub_cancel]
          have kS5 := Same.upd_new (o := .lst (usT5.take n)) nS5
          have lS5 : LsD K (upd HK S5 (.lst (usT5.take n))) S5 (((storyL k ps rs ds qs t n).take n).map intsD) := ⟨_, upd_same, by
            rw [List.map_take]
            exact dp_take _ (DpAll.same kS5 _ _ ddT5), intss_only _⟩
          generalize upd HK S5 (.lst (usT5.take n)) = HL at *
          replace hh := HF.same hh kS5
          replace so := TK.same kS5 _ _ so
          replace so2 := TK.same kS5 _ _ so2
          replace e1 := kS5 _ _ e1
          replace ks1 := KeysT.tk ks1 (TK.same kS5)
          replace dv1 := DayV.tk dv1 (TK.same kS5)
          replace e2 := kS5 _ _ e2
          replace ks2 := KeysT.tk ks2 (TK.same kS5)
          replace dv2 := DayV.tk dv2 (TK.same kS5)
          replace k1 := Ch.trans k1 (Ch.of_same kS5)
          replace sb := TK.same kS5 _ _ sb
          replace fA := Fd.same fA kS5
          clear kS5 nS5 eT5 ddT5 tT5 hulT5 HK
          repeat' (walk_at "jv")
          refine ⟨.ref ta, o2, b, n, k, ps, rs, ds, os, t, rfl, hh, hH, so2, pm2, sb, tl, tk, hn500, fun T6 HM nT6 kT6 lT6 => ?_⟩
          replace hh := HF.same hh kT6
          replace so := TK.same kT6 _ _ so
          replace so2 := TK.same kT6 _ _ so2
          replace e1 := kT6 _ _ e1
          replace ks1 := KeysT.tk ks1 (TK.same kT6)
          replace dv1 := DayV.tk dv1 (TK.same kT6)
          replace e2 := kT6 _ _ e2
          replace ks2 := KeysT.tk ks2 (TK.same kT6)
          replace dv2 := DayV.tk dv2 (TK.same kT6)
          replace k1 := Ch.trans k1 (Ch.of_same kT6)
          replace sb := TK.same kT6 _ _ sb
          replace fA := Fd.same fA kT6
          replace lS5 := LsD.same lS5 kT6
          clear kT6 nT6 HL
          obtain ⟨usT6, eT6, ddT6, tT6⟩ := lT6
          have hulT6 : usT6.length = n + 1 := by rw [DpAll.len ddT6, List.length_map, story_lenW]
          repeat' (walk_at "jv")
          intro S6 nS6
          rw [cut_most, hulT6, Nat.add_sub_cancel]
          have kS6 := Same.upd_new (o := .lst (usT6.take n)) nS6
          have lS6 : LsD K (upd HM S6 (.lst (usT6.take n))) S6 (((storyL k ps rs ds os t n).take n).map intsD) := ⟨_, upd_same, by
            rw [List.map_take]
            exact dp_take _ (DpAll.same kS6 _ _ ddT6), intss_only _⟩
          generalize upd HM S6 (.lst (usT6.take n)) = HN at *
          replace hh := HF.same hh kS6
          replace so := TK.same kS6 _ _ so
          replace so2 := TK.same kS6 _ _ so2
          replace e1 := kS6 _ _ e1
          replace ks1 := KeysT.tk ks1 (TK.same kS6)
          replace dv1 := DayV.tk dv1 (TK.same kS6)
          replace e2 := kS6 _ _ e2
          replace ks2 := KeysT.tk ks2 (TK.same kS6)
          replace dv2 := DayV.tk dv2 (TK.same kS6)
          replace k1 := Ch.trans k1 (Ch.of_same kS6)
          replace sb := TK.same kS6 _ _ sb
          replace fA := Fd.same fA kS6
          replace lS5 := LsD.same lS5 kS6
          clear kS6 nS6 eT6 ddT6 tT6 hulT6 HM
          repeat' (walk_at "jv")
          rw [story_agree hun] at lS6
          refine i_neSts (l := (storyL k ps rs ds qs t n).take n) lS5.dp lS6.dp (fun s hs => ?_) ?_
          · obtain ⟨j, _, rfl⟩ := List.mem_map.mp (List.mem_of_mem_take hs)
            exact ⟨by rw [cl j]; exact h8, fun x hx => by have := ck j x hx; omega⟩
          clear lS5 lS6
          repeat' (walk_at "jv")
          refine ⟨.ref ta, o, o, b, k, ps, rs, ds, qs, qs, t, rfl, hh, hH, so, pm, so, pm, sb, tl, tk, fun rc HJ urc kJ => ?_⟩
          obtain rfl : none = rc := IsUn.self.one urc
          replace hh := HF.same hh kJ
          replace so := TK.same kJ _ _ so
          replace so2 := TK.same kJ _ _ so2
          replace e1 := kJ _ _ e1
          replace ks1 := KeysT.tk ks1 (TK.same kJ)
          replace dv1 := DayV.tk dv1 (TK.same kJ)
          replace e2 := kJ _ _ e2
          replace ks2 := KeysT.tk ks2 (TK.same kJ)
          replace dv2 := DayV.tk dv2 (TK.same kJ)
          replace k1 := Ch.trans k1 (Ch.of_same kJ)
          replace sb := TK.same kJ _ _ sb
          replace fA := Fd.same fA kJ
          repeat' (walk_at "jv")
          refine ⟨rfl, false, by simp [optV], ?_⟩
          repeat' (walk_at "jv")
          exact ⟨_, _, _, _, _, _, _, _, _, rfl, hh, so, so2, e1, ks1, dv1, e2, ks2, dv2, fA.mono (by omega), k1⟩
    · clear hh so so2 e1 ks1 dv1 e2 ks2 dv2 f3 k1
      obtain ⟨x0, x1, x2, x3, x4, x5, x6, x7, x8, rfl, hh, so, so2, e1, ks1, dv1, e2, ks2, dv2, f6, k1⟩ := h
      repeat' (walk_at "jv")
      exact q _ k1
theorem ok_law {fL : Addr} {fdL : FuncData} (F : Fun K "law" "law" s_law fL fdL) (B : Bn mg) (C__law_feed : Cl P w K mg base 1 "_law_feed" ["_law_script", "_law_k"] (spFeed K)) (C__law_right : ClG P w K mg base 12 "_law_right" ["_law_feed_here"] (spRight K)) : FnG P w K mg base 13 fL fdL ["_law_script"] (spLaw K) := by
  refine okG F sc_law (fun vs H Q E h => ?_) (fun cdv A outer s H vs Q E hgd hr h => ?_)
  · obtain ⟨a, ns, rfl, _⟩ := h
    rfl
  · obtain ⟨a, ns, rfl, ha, hl, q⟩ := h
    refine ⟨_, (pss_cons (ps_for PassesOwn.never rfl (pi_range1 rfl B.range_ (pa_cons (pe_callB (j_max rfl) rfl B.max_ (by decide +kernel) (pa_cons pe_int (pa_cons (pe_callB (j_min rfl) rfl B.min_ (by decide +kernel) (pa_cons (pe_callB (k_len (K := K)) rfl B.len_ (by decide +kernel) (pa_cons (pv 0) pa_nil)) (pa_cons pe_int pa_nil))) pa_nil))) pa_nil)) (pg_name (i := 1) sc_law.nd rfl (by first | exact Or.inl rfl | exact Or.inr rfl)) (pss_one (ps_if (pt_not (pt_val (pe_cG C__law_right hgd hr (pa_cons (pe_c C__law_feed hr (pa_cons (pv 0) (pa_cons (pv 1) pa_nil))) pa_nil)))) (pss_one (ps_ret pe_bl)) pss_nil)))
      (pss_one (ps_ret pe_bl))), ?_⟩
    repeat' (walk_at "jv")
    have hm : (max (1 : Int) (min (((ns.map V.int).length : Nat) : Int) 3)).toNat ≤ 3 := by omega
    generalize (max (1 : Int) (min (((ns.map V.int).length : Nat) : Int) 3)).toNat = m at hm ⊢
    refine f_range (fun i σ H' => ∃ y1, σ = [some (.ref a), y1] ∧ SqL K H' a (ns.map V.int)) ⟨none, rfl, ha⟩ (fun i σ H0 hi h => ?_) (fun σ H0 h => ?_)
    · obtain ⟨y1, rfl, ha0⟩ := h
      have e0 : (0 : Int) + (i : Int) = (i : Int) := by omega
      rw [e0]
      repeat' (walk_at "jv")
      refine ⟨a, ns, (i : Int), rfl, ha0, hl, by omega, by omega, fun q1 H1 nq f1 s1 => ?_⟩
      repeat' (walk_at "jv")
      refine ⟨q1, 0, rfl, f1, by omega, fun H3 k3 => ?_⟩
      repeat' (walk_at "jv")
      exact ⟨_, rfl, sqL_ch ha0 nq ((Ch.of_same s1).trans k3)⟩
    · obtain ⟨y1, rfl, ha0⟩ := h
      repeat' (walk_at "jv")
      exact q _
end
end
section
open L2 PySem PySem.Spec PyProof.Rows
def frees : List Str := ["int", "str", "tuple", "list", "bool", "len", "isinstance", "all", "any", "max", "min", "sum", "sorted", "repr", "range", "enumerate", "zip", "set", "dict"]
def freeB (K : PySem.W.Frag) : Bool := frees.all fun x => decide (PySem.W.nsIn K mainGlobals x = some none)
theorem bn_of {K : PySem.W.Frag} {mg : Str → Option Value} {h : Heap} (X : K.In h) (G : h.Ns mainGlobals mg) (b : freeB K = true) : Bn mg := by
  have z : ∀ x ∈ frees, mg x = none := fun x hx => PySem.W.mg_none_of X G (of_decide_eq_true (List.all_eq_true.mp b x hx))
  exact ⟨z _ (by simp [frees]), z _ (by simp [frees]), z _ (by simp [frees]), z _ (by simp [frees]), z _ (by simp [frees]), z _ (by simp [frees]), z _ (by simp [frees]), z _ (by simp [frees]), z _ (by simp [frees]), z _ (by simp [frees]), z _ (by simp [frees]), z _ (by simp [frees]), z _ (by simp [frees]), z _ (by simp [frees]), z _ (by simp [frees]), z _ (by simp [frees]), z _ (by simp [frees]), z _ (by simp [frees])⟩
theorem bd_of {K : PySem.W.Frag} {mg : Str → Option Value} {h : Heap} (X : K.In h) (G : h.Ns mainGlobals mg) (b : freeB K = true) : mg "dict" = none :=
  PySem.W.mg_none_of X G (of_decide_eq_true (List.all_eq_true.mp b "dict" (by simp [frees])))
theorem bare_sq {K : PySem.W.Frag} {T : Addr} {oc : Value} {od : Option Addr} {nB : Nat} {sl : Array (Option Value)} {t0 t1 t2 t3 : Tok} (h : K.lookup T = some ⟨.type "tuple", od, .seq #[.str "keep" t0, .str "least" t1, .str "greatest" t2, .str "odd" t3] nB, sl⟩) (H : Hp) :
    SqT K H T ((["keep", "least", "greatest", "odd"] : List Str).map V.str) :=
  .inr ⟨_, _, _, h, rfl, rfl, by rw [sizeLine_eq]; show 4 ≤ _; omega, .cons ⟨_, rfl⟩ (.cons ⟨_, rfl⟩ (.cons ⟨_, rfl⟩ (.cons ⟨_, rfl⟩ .nil)))⟩
theorem all_mk {P : Program} {w : World} {K : PySem.W.Frag} {h : Heap} {mg : Str → Option Value} {fa : Addr} (X : K.In h) (G : h.Ns mainGlobals mg) (hfa : mg "law" = some (.ref fa)) (b : freeB K = true)
    {f0 f1 f2 f3 f4 f5 f6 f7 f8 f9 f10 f11 f12 f13 f14 f15 f16 f17 f18 f19 f20 f21 f22 f23 f24 f25 f26 f27 f28 f29 f30 f31 f32 f33 f34 f35 f36 f37 f38 f39 f40 f41 f42 f43 f44 f45 f46 f47 f48 f49 f50 f51 f52 f53 f54 f55 f56 f57 f58 f59 f60 f61 f62 f63 fB : Addr} {od0 an0 od1 an1 od2 an2 od3 an3 od4 an4 od5 an5 od6 an6 od7 an7 od8 an8 od9 an9 od10 an10 od11 an11 od12 an12 od13 an13 od14 an14 od15 an15 od16 an16 od17 an17 od18 an18 od19 an19 od20 an20 od21 an21 od22 an22 od23 an23 od24 an24 od25 an25 od26 an26 od27 an27 od28 an28 od29 an29 od30 an30 od31 an31 od32 an32 od33 an33 od34 an34 od35 an35 od36 an36 od37 an37 od38 an38 od39 an39 od40 an40 od41 an41 od42 an42 od43 an43 od44 an44 od45 an45 od46 an46 od47 an47 od48 an48 od49 an49 od50 an50 od51 an51 od52 an52 od53 an53 od54 an54 od55 an55 od56 an56 od57 an57 od58 an58 od59 an59 od60 an60 od61 an61 od62 an62 od63 an63 odB : Option Addr} {sl0 sl1 sl2 sl3 sl4 sl5 sl6 sl7 sl8 sl9 sl10 sl11 sl12 sl13 sl14 sl15 sl16 sl17 sl18 sl19 sl20 sl21 sl22 sl23 sl24 sl25 sl26 sl27 sl28 sl29 sl30 sl31 sl32 sl33 sl34 sl35 sl36 sl37 sl38 sl39 sl40 sl41 sl42 sl43 sl44 sl45 sl46 sl47 sl48 sl49 sl50 sl51 sl52 sl53 sl54 sl55 sl56 sl57 sl58 sl59 sl60 sl61 sl62 sl63 slB : Array (Option Value)} {oc0 kV0 dc0 pm0 cd0 ct0 oc1 kV1 dc1 pm1 cd1 ct1 oc2 kV2 dc2 pm2 cd2 ct2 oc3 kV3 dc3 pm3 cd3 ct3 oc4 kV4 dc4 pm4 cd4 ct4 oc5 kV5 dc5 pm5 cd5 ct5 oc6 kV6 dc6 pm6 cd6 ct6 oc7 kV7 dc7 pm7 cd7 ct7 oc8 kV8 dc8 pm8 cd8 ct8 oc9 kV9 dc9 pm9 cd9 ct9 oc10 kV10 dc10 pm10 cd10 ct10 oc11 kV11 dc11 pm11 cd11 ct11 oc12 kV12 dc12 pm12 cd12 ct12 oc13 kV13 dc13 pm13 cd13 ct13 oc14 kV14 dc14 pm14 cd14 ct14 oc15 kV15 dc15 pm15 cd15 ct15 oc16 kV16 dc16 pm16 cd16 ct16 oc17 kV17 dc17 pm17 cd17 ct17 oc18 kV18 dc18 pm18 cd18 ct18 oc19 kV19 dc19 pm19 cd19 ct19 oc20 kV20 dc20 pm20 cd20 ct20 oc21 kV21 dc21 pm21 cd21 ct21 oc22 kV22 dc22 pm22 cd22 ct22 oc23 kV23 dc23 pm23 cd23 ct23 oc24 kV24 dc24 pm24 cd24 ct24 oc25 kV25 dc25 pm25 cd25 ct25 oc26 kV26 dc26 pm26 cd26 ct26 oc27 kV27 dc27 pm27 cd27 ct27 oc28 kV28 dc28 pm28 cd28 ct28 oc29 kV29 dc29 pm29 cd29 ct29 oc30 kV30 dc30 pm30 cd30 ct30 oc31 kV31 dc31 pm31 cd31 ct31 oc32 kV32 dc32 pm32 cd32 ct32 oc33 kV33 dc33 pm33 cd33 ct33 oc34 kV34 dc34 pm34 cd34 ct34 oc35 kV35 dc35 pm35 cd35 ct35 oc36 kV36 dc36 pm36 cd36 ct36 oc37 kV37 dc37 pm37 cd37 ct37 oc38 kV38 dc38 pm38 cd38 ct38 oc39 kV39 dc39 pm39 cd39 ct39 oc40 kV40 dc40 pm40 cd40 ct40 oc41 kV41 dc41 pm41 cd41 ct41 oc42 kV42 dc42 pm42 cd42 ct42 oc43 kV43 dc43 pm43 cd43 ct43 oc44 kV44 dc44 pm44 cd44 ct44 oc45 kV45 dc45 pm45 cd45 ct45 oc46 kV46 dc46 pm46 cd46 ct46 oc47 kV47 dc47 pm47 cd47 ct47 oc48 kV48 dc48 pm48 cd48 ct48 oc49 kV49 dc49 pm49 cd49 ct49 oc50 kV50 dc50 pm50 cd50 ct50 oc51 kV51 dc51 pm51 cd51 ct51 oc52 kV52 dc52 pm52 cd52 ct52 oc53 kV53 dc53 pm53 cd53 ct53 oc54 kV54 dc54 pm54 cd54 ct54 oc55 kV55 dc55 pm55 cd55 ct55 oc56 kV56 dc56 pm56 cd56 ct56 oc57 kV57 dc57 pm57 cd57 ct57 oc58 kV58 dc58 pm58 cd58 ct58 oc59 kV59 dc59 pm59 cd59 ct59 oc60 kV60 dc60 pm60 cd60 ct60 oc61 kV61 dc61 pm61 cd61 ct61 oc62 kV62 dc62 pm62 cd62 ct62 oc63 kV63 dc63 pm63 cd63 ct63 : Value} {t0 t1 t2 t3 t4 t5 t6 t7 tB0 tB1 tB2 tB3 : Tok} {nB : Nat}
    (g0 : PySem.W.nsIn K mainGlobals "LONGEST_NAME" = some (some (.int 8 t0)))
    (g1 : PySem.W.nsIn K mainGlobals "MOST_PLACES" = some (some (.int 8 t1)))
    (g2 : PySem.W.nsIn K mainGlobals "MOST_ROADS" = some (some (.int 14 t2)))
    (g3 : PySem.W.nsIn K mainGlobals "LETTERS" = some (some (.str "abcdefghijklmnopqrstuvwxyz" t3)))
    (g4 : PySem.W.nsIn K mainGlobals "NAME_SIGNS" = some (some (.str "abcdefghijklmnopqrstuvwxyz0123456789" t4)))
    (g5 : PySem.W.nsIn K mainGlobals "MOST_STATES" = some (some (.int 256 t5)))
    (g6 : PySem.W.nsIn K mainGlobals "GREATEST_MOST" = some (some (.int 9 t6)))
    (g7 : PySem.W.nsIn K mainGlobals "MOST_TOLD" = some (some (.int 500 t7)))
    (aB : PySem.W.nsIn K mainGlobals "BARE_SORTS" = some (some (.ref fB))) (lB : K.lookup fB = some ⟨.type "tuple", odB, .seq #[.str "keep" tB0, .str "least" tB1, .str "greatest" tB2, .str "odd" tB3] nB, slB⟩)
    (a0 : PySem.W.nsIn K mainGlobals "is_integer" = some (some (.ref f0))) (l0 : K.lookup f0 = some ⟨oc0, od0, .func (PySem.W.fnOf "is_integer" "is_integer" (defArgs s_is_integer) (defBody s_is_integer) (defScope s_is_integer) .none kV0 dc0 pm0 an0 cd0 ct0), sl0⟩) (c0 : PySem.W.codeIn K cd0 "is_integer" = true) (k0 : PySem.W.keepIn K (.ref f0) = true)
    (a1 : PySem.W.nsIn K mainGlobals "power" = some (some (.ref f1))) (l1 : K.lookup f1 = some ⟨oc1, od1, .func (PySem.W.fnOf "power" "power" (defArgs s_power) (defBody s_power) (defScope s_power) .none kV1 dc1 pm1 an1 cd1 ct1), sl1⟩) (c1 : PySem.W.codeIn K cd1 "power" = true) (k1 : PySem.W.keepIn K (.ref f1) = true)
    (a2 : PySem.W.nsIn K mainGlobals "are_states" = some (some (.ref f2))) (l2 : K.lookup f2 = some ⟨oc2, od2, .func (PySem.W.fnOf "are_states" "are_states" (defArgs s_are_states) (defBody s_are_states) (defScope s_are_states) .none kV2 dc2 pm2 an2 cd2 ct2), sl2⟩) (c2 : PySem.W.codeIn K cd2 "are_states" = true) (k2 : PySem.W.keepIn K (.ref f2) = true)
    (a3 : PySem.W.nsIn K mainGlobals "table_length" = some (some (.ref f3))) (l3 : K.lookup f3 = some ⟨oc3, od3, .func (PySem.W.fnOf "table_length" "table_length" (defArgs s_table_length) (defBody s_table_length) (defScope s_table_length) .none kV3 dc3 pm3 an3 cd3 ct3), sl3⟩) (c3 : PySem.W.codeIn K cd3 "table_length" = true) (k3 : PySem.W.keepIn K (.ref f3) = true)
    (a4 : PySem.W.nsIn K mainGlobals "sum_length" = some (some (.ref f4))) (l4 : K.lookup f4 = some ⟨oc4, od4, .func (PySem.W.fnOf "sum_length" "sum_length" (defArgs s_sum_length) (defBody s_sum_length) (defScope s_sum_length) .none kV4 dc4 pm4 an4 cd4 ct4), sl4⟩) (c4 : PySem.W.codeIn K cd4 "sum_length" = true) (k4 : PySem.W.keepIn K (.ref f4) = true)
    (a5 : PySem.W.nsIn K mainGlobals "is_rule" = some (some (.ref f5))) (l5 : K.lookup f5 = some ⟨oc5, od5, .func (PySem.W.fnOf "is_rule" "is_rule" (defArgs s_is_rule) (defBody s_is_rule) (defScope s_is_rule) .none kV5 dc5 pm5 an5 cd5 ct5), sl5⟩) (c5 : PySem.W.codeIn K cd5 "is_rule" = true) (k5 : PySem.W.keepIn K (.ref f5) = true)
    (a6 : PySem.W.nsIn K mainGlobals "_is_worth" = some (some (.ref f6))) (l6 : K.lookup f6 = some ⟨oc6, od6, .func (PySem.W.fnOf "_is_worth" "_is_worth" (defArgs s__is_worth) (defBody s__is_worth) (defScope s__is_worth) .none kV6 dc6 pm6 an6 cd6 ct6), sl6⟩) (c6 : PySem.W.codeIn K cd6 "_is_worth" = true) (k6 : PySem.W.keepIn K (.ref f6) = true)
    (a7 : PySem.W.nsIn K mainGlobals "_are_sums" = some (some (.ref f7))) (l7 : K.lookup f7 = some ⟨oc7, od7, .func (PySem.W.fnOf "_are_sums" "_are_sums" (defArgs s__are_sums) (defBody s__are_sums) (defScope s__are_sums) .none kV7 dc7 pm7 an7 cd7 ct7), sl7⟩) (c7 : PySem.W.codeIn K cd7 "_are_sums" = true) (k7 : PySem.W.keepIn K (.ref f7) = true)
    (a8 : PySem.W.nsIn K mainGlobals "next_state" = some (some (.ref f8))) (l8 : K.lookup f8 = some ⟨oc8, od8, .func (PySem.W.fnOf "next_state" "next_state" (defArgs s_next_state) (defBody s_next_state) (defScope s_next_state) .none kV8 dc8 pm8 an8 cd8 ct8), sl8⟩) (c8 : PySem.W.codeIn K cd8 "next_state" = true) (k8 : PySem.W.keepIn K (.ref f8) = true)
    (a9 : PySem.W.nsIn K mainGlobals "_table_index" = some (some (.ref f9))) (l9 : K.lookup f9 = some ⟨oc9, od9, .func (PySem.W.fnOf "_table_index" "_table_index" (defArgs s__table_index) (defBody s__table_index) (defScope s__table_index) .none kV9 dc9 pm9 an9 cd9 ct9), sl9⟩) (c9 : PySem.W.codeIn K cd9 "_table_index" = true) (k9 : PySem.W.keepIn K (.ref f9) = true)
    (a10 : PySem.W.nsIn K mainGlobals "is_name" = some (some (.ref f10))) (l10 : K.lookup f10 = some ⟨oc10, od10, .func (PySem.W.fnOf "is_name" "is_name" (defArgs s_is_name) (defBody s_is_name) (defScope s_is_name) .none kV10 dc10 pm10 an10 cd10 ct10), sl10⟩) (c10 : PySem.W.codeIn K cd10 "is_name" = true) (k10 : PySem.W.keepIn K (.ref f10) = true)
    (a11 : PySem.W.nsIn K mainGlobals "is_web" = some (some (.ref f11))) (l11 : K.lookup f11 = some ⟨oc11, od11, .func (PySem.W.fnOf "is_web" "is_web" (defArgs s_is_web) (defBody s_is_web) (defScope s_is_web) .none kV11 dc11 pm11 an11 cd11 ct11), sl11⟩) (c11 : PySem.W.codeIn K cd11 "is_web" = true) (k11 : PySem.W.keepIn K (.ref f11) = true)
    (a12 : PySem.W.nsIn K mainGlobals "_are_places" = some (some (.ref f12))) (l12 : K.lookup f12 = some ⟨oc12, od12, .func (PySem.W.fnOf "_are_places" "_are_places" (defArgs s__are_places) (defBody s__are_places) (defScope s__are_places) .none kV12 dc12 pm12 an12 cd12 ct12), sl12⟩) (c12 : PySem.W.codeIn K cd12 "_are_places" = true) (k12 : PySem.W.keepIn K (.ref f12) = true)
    (a13 : PySem.W.nsIn K mainGlobals "_are_roads" = some (some (.ref f13))) (l13 : K.lookup f13 = some ⟨oc13, od13, .func (PySem.W.fnOf "_are_roads" "_are_roads" (defArgs s__are_roads) (defBody s__are_roads) (defScope s__are_roads) .none kV13 dc13 pm13 an13 cd13 ct13), sl13⟩) (c13 : PySem.W.codeIn K cd13 "_are_roads" = true) (k13 : PySem.W.keepIn K (.ref f13) = true)
    (a14 : PySem.W.nsIn K mainGlobals "_is_road" = some (some (.ref f14))) (l14 : K.lookup f14 = some ⟨oc14, od14, .func (PySem.W.fnOf "_is_road" "_is_road" (defArgs s__is_road) (defBody s__is_road) (defScope s__is_road) .none kV14 dc14 pm14 an14 cd14 ct14), sl14⟩) (c14 : PySem.W.codeIn K cd14 "_is_road" = true) (k14 : PySem.W.keepIn K (.ref f14) = true)
    (a15 : PySem.W.nsIn K mainGlobals "is_one_of" = some (some (.ref f15))) (l15 : K.lookup f15 = some ⟨oc15, od15, .func (PySem.W.fnOf "is_one_of" "is_one_of" (defArgs s_is_one_of) (defBody s_is_one_of) (defScope s_is_one_of) .none kV15 dc15 pm15 an15 cd15 ct15), sl15⟩) (c15 : PySem.W.codeIn K cd15 "is_one_of" = true) (k15 : PySem.W.keepIn K (.ref f15) = true)
    (a16 : PySem.W.nsIn K mainGlobals "need_place" = some (some (.ref f16))) (l16 : K.lookup f16 = some ⟨oc16, od16, .func (PySem.W.fnOf "need_place" "need_place" (defArgs s_need_place) (defBody s_need_place) (defScope s_need_place) .none kV16 dc16 pm16 an16 cd16 ct16), sl16⟩) (c16 : PySem.W.codeIn K cd16 "need_place" = true) (k16 : PySem.W.keepIn K (.ref f16) = true)
    (a17 : PySem.W.nsIn K mainGlobals "need_order" = some (some (.ref f17))) (l17 : K.lookup f17 = some ⟨oc17, od17, .func (PySem.W.fnOf "need_order" "need_order" (defArgs s_need_order) (defBody s_need_order) (defScope s_need_order) .none kV17 dc17 pm17 an17 cd17 ct17), sl17⟩) (c17 : PySem.W.codeIn K cd17 "need_order" = true) (k17 : PySem.W.keepIn K (.ref f17) = true)
    (a18 : PySem.W.nsIn K mainGlobals "is_order" = some (some (.ref f18))) (l18 : K.lookup f18 = some ⟨oc18, od18, .func (PySem.W.fnOf "is_order" "is_order" (defArgs s_is_order) (defBody s_is_order) (defScope s_is_order) .none kV18 dc18 pm18 an18 cd18 ct18), sl18⟩) (c18 : PySem.W.codeIn K cd18 "is_order" = true) (k18 : PySem.W.keepIn K (.ref f18) = true)
    (a19 : PySem.W.nsIn K mainGlobals "are_joined" = some (some (.ref f19))) (l19 : K.lookup f19 = some ⟨oc19, od19, .func (PySem.W.fnOf "are_joined" "are_joined" (defArgs s_are_joined) (defBody s_are_joined) (defScope s_are_joined) .none kV19 dc19 pm19 an19 cd19 ct19), sl19⟩) (c19 : PySem.W.codeIn K cd19 "are_joined" = true) (k19 : PySem.W.keepIn K (.ref f19) = true)
    (a20 : PySem.W.nsIn K mainGlobals "near_of" = some (some (.ref f20))) (l20 : K.lookup f20 = some ⟨oc20, od20, .func (PySem.W.fnOf "near_of" "near_of" (defArgs s_near_of) (defBody s_near_of) (defScope s_near_of) .none kV20 dc20 pm20 an20 cd20 ct20), sl20⟩) (c20 : PySem.W.codeIn K cd20 "near_of" = true) (k20 : PySem.W.keepIn K (.ref f20) = true)
    (a21 : PySem.W.nsIn K mainGlobals "is_hall" = some (some (.ref f21))) (l21 : K.lookup f21 = some ⟨oc21, od21, .func (PySem.W.fnOf "is_hall" "is_hall" (defArgs s_is_hall) (defBody s_is_hall) (defScope s_is_hall) .none kV21 dc21 pm21 an21 cd21 ct21), sl21⟩) (c21 : PySem.W.codeIn K cd21 "is_hall" = true) (k21 : PySem.W.keepIn K (.ref f21) = true)
    (a22 : PySem.W.nsIn K mainGlobals "_are_rules" = some (some (.ref f22))) (l22 : K.lookup f22 = some ⟨oc22, od22, .func (PySem.W.fnOf "_are_rules" "_are_rules" (defArgs s__are_rules) (defBody s__are_rules) (defScope s__are_rules) .none kV22 dc22 pm22 an22 cd22 ct22), sl22⟩) (c22 : PySem.W.codeIn K cd22 "_are_rules" = true) (k22 : PySem.W.keepIn K (.ref f22) = true)
    (a23 : PySem.W.nsIn K mainGlobals "need_hall" = some (some (.ref f23))) (l23 : K.lookup f23 = some ⟨oc23, od23, .func (PySem.W.fnOf "need_hall" "need_hall" (defArgs s_need_hall) (defBody s_need_hall) (defScope s_need_hall) .none kV23 dc23 pm23 an23 cd23 ct23), sl23⟩) (c23 : PySem.W.codeIn K cd23 "need_hall" = true) (k23 : PySem.W.keepIn K (.ref f23) = true)
    (a24 : PySem.W.nsIn K mainGlobals "need_state" = some (some (.ref f24))) (l24 : K.lookup f24 = some ⟨oc24, od24, .func (PySem.W.fnOf "need_state" "need_state" (defArgs s_need_state) (defBody s_need_state) (defScope s_need_state) .none kV24 dc24 pm24 an24 cd24 ct24), sl24⟩) (c24 : PySem.W.codeIn K cd24 "need_state" = true) (k24 : PySem.W.keepIn K (.ref f24) = true)
    (a25 : PySem.W.nsIn K mainGlobals "is_state" = some (some (.ref f25))) (l25 : K.lookup f25 = some ⟨oc25, od25, .func (PySem.W.fnOf "is_state" "is_state" (defArgs s_is_state) (defBody s_is_state) (defScope s_is_state) .none kV25 dc25 pm25 an25 cd25 ct25), sl25⟩) (c25 : PySem.W.codeIn K cd25 "is_state" = true) (k25 : PySem.W.keepIn K (.ref f25) = true)
    (a26 : PySem.W.nsIn K mainGlobals "every_state" = some (some (.ref f26))) (l26 : K.lookup f26 = some ⟨oc26, od26, .func (PySem.W.fnOf "every_state" "every_state" (defArgs s_every_state) (defBody s_every_state) (defScope s_every_state) .none kV26 dc26 pm26 an26 cd26 ct26), sl26⟩) (c26 : PySem.W.codeIn K cd26 "every_state" = true) (k26 : PySem.W.keepIn K (.ref f26) = true)
    (a27 : PySem.W.nsIn K mainGlobals "state_number" = some (some (.ref f27))) (l27 : K.lookup f27 = some ⟨oc27, od27, .func (PySem.W.fnOf "state_number" "state_number" (defArgs s_state_number) (defBody s_state_number) (defScope s_state_number) .none kV27 dc27 pm27 an27 cd27 ct27), sl27⟩) (c27 : PySem.W.codeIn K cd27 "state_number" = true) (k27 : PySem.W.keepIn K (.ref f27) = true)
    (a28 : PySem.W.nsIn K mainGlobals "need_count" = some (some (.ref f28))) (l28 : K.lookup f28 = some ⟨oc28, od28, .func (PySem.W.fnOf "need_count" "need_count" (defArgs s_need_count) (defBody s_need_count) (defScope s_need_count) .none kV28 dc28 pm28 an28 cd28 ct28), sl28⟩) (c28 : PySem.W.codeIn K cd28 "need_count" = true) (k28 : PySem.W.keepIn K (.ref f28) = true)
    (a29 : PySem.W.nsIn K mainGlobals "need_day" = some (some (.ref f29))) (l29 : K.lookup f29 = some ⟨oc29, od29, .func (PySem.W.fnOf "need_day" "need_day" (defArgs s_need_day) (defBody s_need_day) (defScope s_need_day) .none kV29 dc29 pm29 an29 cd29 ct29), sl29⟩) (c29 : PySem.W.codeIn K cd29 "need_day" = true) (k29 : PySem.W.keepIn K (.ref f29) = true)
    (a30 : PySem.W.nsIn K mainGlobals "need_start" = some (some (.ref f30))) (l30 : K.lookup f30 = some ⟨oc30, od30, .func (PySem.W.fnOf "need_start" "need_start" (defArgs s_need_start) (defBody s_need_start) (defScope s_need_start) .none kV30 dc30 pm30 an30 cd30 ct30), sl30⟩) (c30 : PySem.W.codeIn K cd30 "need_start" = true) (k30 : PySem.W.keepIn K (.ref f30) = true)
    (a31 : PySem.W.nsIn K mainGlobals "_looks_at" = some (some (.ref f31))) (l31 : K.lookup f31 = some ⟨oc31, od31, .func (PySem.W.fnOf "_looks_at" "_looks_at" (defArgs s__looks_at) (defBody s__looks_at) (defScope s__looks_at) .none kV31 dc31 pm31 an31 cd31 ct31), sl31⟩) (c31 : PySem.W.codeIn K cd31 "_looks_at" = true) (k31 : PySem.W.keepIn K (.ref f31) = true)
    (a32 : PySem.W.nsIn K mainGlobals "step_lists" = some (some (.ref f32))) (l32 : K.lookup f32 = some ⟨oc32, od32, .func (PySem.W.fnOf "step_lists" "step_lists" (defArgs s_step_lists) (defBody s_step_lists) (defScope s_step_lists) .none kV32 dc32 pm32 an32 cd32 ct32), sl32⟩) (c32 : PySem.W.codeIn K cd32 "step_lists" = true) (k32 : PySem.W.keepIn K (.ref f32) = true)
    (a33 : PySem.W.nsIn K mainGlobals "_step_list" = some (some (.ref f33))) (l33 : K.lookup f33 = some ⟨oc33, od33, .func (PySem.W.fnOf "_step_list" "_step_list" (defArgs s__step_list) (defBody s__step_list) (defScope s__step_list) .none kV33 dc33 pm33 an33 cd33 ct33), sl33⟩) (c33 : PySem.W.codeIn K cd33 "_step_list" = true) (k33 : PySem.W.keepIn K (.ref f33) = true)
    (a34 : PySem.W.nsIn K mainGlobals "day_numbers" = some (some (.ref f34))) (l34 : K.lookup f34 = some ⟨oc34, od34, .func (PySem.W.fnOf "day_numbers" "day_numbers" (defArgs s_day_numbers) (defBody s_day_numbers) (defScope s_day_numbers) .none kV34 dc34 pm34 an34 cd34 ct34), sl34⟩) (c34 : PySem.W.codeIn K cd34 "day_numbers" = true) (k34 : PySem.W.keepIn K (.ref f34) = true)
    (a35 : PySem.W.nsIn K mainGlobals "numbers_behind" = some (some (.ref f35))) (l35 : K.lookup f35 = some ⟨oc35, od35, .func (PySem.W.fnOf "numbers_behind" "numbers_behind" (defArgs s_numbers_behind) (defBody s_numbers_behind) (defScope s_numbers_behind) .none kV35 dc35 pm35 an35 cd35 ct35), sl35⟩) (c35 : PySem.W.codeIn K cd35 "numbers_behind" = true) (k35 : PySem.W.keepIn K (.ref f35) = true)
    (a36 : PySem.W.nsIn K mainGlobals "day_list" = some (some (.ref f36))) (l36 : K.lookup f36 = some ⟨oc36, od36, .func (PySem.W.fnOf "day_list" "day_list" (defArgs s_day_list) (defBody s_day_list) (defScope s_day_list) .none kV36 dc36 pm36 an36 cd36 ct36), sl36⟩) (c36 : PySem.W.codeIn K cd36 "day_list" = true) (k36 : PySem.W.keepIn K (.ref f36) = true)
    (a37 : PySem.W.nsIn K mainGlobals "story" = some (some (.ref f37))) (l37 : K.lookup f37 = some ⟨oc37, od37, .func (PySem.W.fnOf "story" "story" (defArgs s_story) (defBody s_story) (defScope s_story) .none kV37 dc37 pm37 an37 cd37 ct37), sl37⟩) (c37 : PySem.W.codeIn K cd37 "story" = true) (k37 : PySem.W.keepIn K (.ref f37) = true)
    (a38 : PySem.W.nsIn K mainGlobals "_told" = some (some (.ref f38))) (l38 : K.lookup f38 = some ⟨oc38, od38, .func (PySem.W.fnOf "_told" "_told" (defArgs s__told) (defBody s__told) (defScope s__told) .none kV38 dc38 pm38 an38 cd38 ct38), sl38⟩) (c38 : PySem.W.codeIn K cd38 "_told" = true) (k38 : PySem.W.keepIn K (.ref f38) = true)
    (a39 : PySem.W.nsIn K mainGlobals "watched" = some (some (.ref f39))) (l39 : K.lookup f39 = some ⟨oc39, od39, .func (PySem.W.fnOf "watched" "watched" (defArgs s_watched) (defBody s_watched) (defScope s_watched) .none kV39 dc39 pm39 an39 cd39 ct39), sl39⟩) (c39 : PySem.W.codeIn K cd39 "watched" = true) (k39 : PySem.W.keepIn K (.ref f39) = true)
    (a40 : PySem.W.nsIn K mainGlobals "first_unlike_day" = some (some (.ref f40))) (l40 : K.lookup f40 = some ⟨oc40, od40, .func (PySem.W.fnOf "first_unlike_day" "first_unlike_day" (defArgs s_first_unlike_day) (defBody s_first_unlike_day) (defScope s_first_unlike_day) .none kV40 dc40 pm40 an40 cd40 ct40), sl40⟩) (c40 : PySem.W.codeIn K cd40 "first_unlike_day" = true) (k40 : PySem.W.keepIn K (.ref f40) = true)
    (a41 : PySem.W.nsIn K mainGlobals "_law_feed" = some (some (.ref f41))) (l41 : K.lookup f41 = some ⟨oc41, od41, .func (PySem.W.fnOf "_law_feed" "_law_feed" (defArgs s__law_feed) (defBody s__law_feed) (defScope s__law_feed) .none kV41 dc41 pm41 an41 cd41 ct41), sl41⟩) (c41 : PySem.W.codeIn K cd41 "_law_feed" = true) (k41 : PySem.W.keepIn K (.ref f41) = true)
    (a42 : PySem.W.nsIn K mainGlobals "_law_draw" = some (some (.ref f42))) (l42 : K.lookup f42 = some ⟨oc42, od42, .func (PySem.W.fnOf "_law_draw" "_law_draw" (defArgs s__law_draw) (defBody s__law_draw) (defScope s__law_draw) .none kV42 dc42 pm42 an42 cd42 ct42), sl42⟩) (c42 : PySem.W.codeIn K cd42 "_law_draw" = true) (k42 : PySem.W.keepIn K (.ref f42) = true)
    (a43 : PySem.W.nsIn K mainGlobals "_law_one" = some (some (.ref f43))) (l43 : K.lookup f43 = some ⟨oc43, od43, .func (PySem.W.fnOf "_law_one" "_law_one" (defArgs s__law_one) (defBody s__law_one) (defScope s__law_one) .none kV43 dc43 pm43 an43 cd43 ct43), sl43⟩) (c43 : PySem.W.codeIn K cd43 "_law_one" = true) (k43 : PySem.W.keepIn K (.ref f43) = true)
    (a44 : PySem.W.nsIn K mainGlobals "_law_mixed" = some (some (.ref f44))) (l44 : K.lookup f44 = some ⟨oc44, od44, .func (PySem.W.fnOf "_law_mixed" "_law_mixed" (defArgs s__law_mixed) (defBody s__law_mixed) (defScope s__law_mixed) .none kV44 dc44 pm44 an44 cd44 ct44), sl44⟩) (c44 : PySem.W.codeIn K cd44 "_law_mixed" = true) (k44 : PySem.W.keepIn K (.ref f44) = true)
    (a45 : PySem.W.nsIn K mainGlobals "_law_names" = some (some (.ref f45))) (l45 : K.lookup f45 = some ⟨oc45, od45, .func (PySem.W.fnOf "_law_names" "_law_names" (defArgs s__law_names) (defBody s__law_names) (defScope s__law_names) .none kV45 dc45 pm45 an45 cd45 ct45), sl45⟩) (c45 : PySem.W.codeIn K cd45 "_law_names" = true) (k45 : PySem.W.keepIn K (.ref f45) = true)
    (a46 : PySem.W.nsIn K mainGlobals "_law_web" = some (some (.ref f46))) (l46 : K.lookup f46 = some ⟨oc46, od46, .func (PySem.W.fnOf "_law_web" "_law_web" (defArgs s__law_web) (defBody s__law_web) (defScope s__law_web) .none kV46 dc46 pm46 an46 cd46 ct46), sl46⟩) (c46 : PySem.W.codeIn K cd46 "_law_web" = true) (k46 : PySem.W.keepIn K (.ref f46) = true)
    (a47 : PySem.W.nsIn K mainGlobals "_law_neighbours" = some (some (.ref f47))) (l47 : K.lookup f47 = some ⟨oc47, od47, .func (PySem.W.fnOf "_law_neighbours" "_law_neighbours" (defArgs s__law_neighbours) (defBody s__law_neighbours) (defScope s__law_neighbours) .none kV47 dc47 pm47 an47 cd47 ct47), sl47⟩) (c47 : PySem.W.codeIn K cd47 "_law_neighbours" = true) (k47 : PySem.W.keepIn K (.ref f47) = true)
    (a48 : PySem.W.nsIn K mainGlobals "_law_rule" = some (some (.ref f48))) (l48 : K.lookup f48 = some ⟨oc48, od48, .func (PySem.W.fnOf "_law_rule" "_law_rule" (defArgs s__law_rule) (defBody s__law_rule) (defScope s__law_rule) .none kV48 dc48 pm48 an48 cd48 ct48), sl48⟩) (c48 : PySem.W.codeIn K cd48 "_law_rule" = true) (k48 : PySem.W.keepIn K (.ref f48) = true)
    (a49 : PySem.W.nsIn K mainGlobals "_law_hall" = some (some (.ref f49))) (l49 : K.lookup f49 = some ⟨oc49, od49, .func (PySem.W.fnOf "_law_hall" "_law_hall" (defArgs s__law_hall) (defBody s__law_hall) (defScope s__law_hall) .none kV49 dc49 pm49 an49 cd49 ct49), sl49⟩) (c49 : PySem.W.codeIn K cd49 "_law_hall" = true) (k49 : PySem.W.keepIn K (.ref f49) = true)
    (a50 : PySem.W.nsIn K mainGlobals "_law_order" = some (some (.ref f50))) (l50 : K.lookup f50 = some ⟨oc50, od50, .func (PySem.W.fnOf "_law_order" "_law_order" (defArgs s__law_order) (defBody s__law_order) (defScope s__law_order) .none kV50 dc50 pm50 an50 cd50 ct50), sl50⟩) (c50 : PySem.W.codeIn K cd50 "_law_order" = true) (k50 : PySem.W.keepIn K (.ref f50) = true)
    (a51 : PySem.W.nsIn K mainGlobals "_law_state" = some (some (.ref f51))) (l51 : K.lookup f51 = some ⟨oc51, od51, .func (PySem.W.fnOf "_law_state" "_law_state" (defArgs s__law_state) (defBody s__law_state) (defScope s__law_state) .none kV51 dc51 pm51 an51 cd51 ct51), sl51⟩) (c51 : PySem.W.codeIn K cd51 "_law_state" = true) (k51 : PySem.W.keepIn K (.ref f51) = true)
    (a52 : PySem.W.nsIn K mainGlobals "_law_next" = some (some (.ref f52))) (l52 : K.lookup f52 = some ⟨oc52, od52, .func (PySem.W.fnOf "_law_next" "_law_next" (defArgs s__law_next) (defBody s__law_next) (defScope s__law_next) .none kV52 dc52 pm52 an52 cd52 ct52), sl52⟩) (c52 : PySem.W.codeIn K cd52 "_law_next" = true) (k52 : PySem.W.keepIn K (.ref f52) = true)
    (a53 : PySem.W.nsIn K mainGlobals "_law_step" = some (some (.ref f53))) (l53 : K.lookup f53 = some ⟨oc53, od53, .func (PySem.W.fnOf "_law_step" "_law_step" (defArgs s__law_step) (defBody s__law_step) (defScope s__law_step) .none kV53 dc53 pm53 an53 cd53 ct53), sl53⟩) (c53 : PySem.W.codeIn K cd53 "_law_step" = true) (k53 : PySem.W.keepIn K (.ref f53) = true)
    (a54 : PySem.W.nsIn K mainGlobals "_law_day" = some (some (.ref f54))) (l54 : K.lookup f54 = some ⟨oc54, od54, .func (PySem.W.fnOf "_law_day" "_law_day" (defArgs s__law_day) (defBody s__law_day) (defScope s__law_day) .none kV54 dc54 pm54 an54 cd54 ct54), sl54⟩) (c54 : PySem.W.codeIn K cd54 "_law_day" = true) (k54 : PySem.W.keepIn K (.ref f54) = true)
    (a55 : PySem.W.nsIn K mainGlobals "_law_states" = some (some (.ref f55))) (l55 : K.lookup f55 = some ⟨oc55, od55, .func (PySem.W.fnOf "_law_states" "_law_states" (defArgs s__law_states) (defBody s__law_states) (defScope s__law_states) .none kV55 dc55 pm55 an55 cd55 ct55), sl55⟩) (c55 : PySem.W.codeIn K cd55 "_law_states" = true) (k55 : PySem.W.keepIn K (.ref f55) = true)
    (a56 : PySem.W.nsIn K mainGlobals "_law_great_hall" = some (some (.ref f56))) (l56 : K.lookup f56 = some ⟨oc56, od56, .func (PySem.W.fnOf "_law_great_hall" "_law_great_hall" (defArgs s__law_great_hall) (defBody s__law_great_hall) (defScope s__law_great_hall) .none kV56 dc56 pm56 an56 cd56 ct56), sl56⟩) (c56 : PySem.W.codeIn K cd56 "_law_great_hall" = true) (k56 : PySem.W.keepIn K (.ref f56) = true)
    (a57 : PySem.W.nsIn K mainGlobals "_law_called" = some (some (.ref f57))) (l57 : K.lookup f57 = some ⟨oc57, od57, .func (PySem.W.fnOf "_law_called" "_law_called" (defArgs s__law_called) (defBody s__law_called) (defScope s__law_called) .none kV57 dc57 pm57 an57 cd57 ct57), sl57⟩) (c57 : PySem.W.codeIn K cd57 "_law_called" = true) (k57 : PySem.W.keepIn K (.ref f57) = true)
    (a58 : PySem.W.nsIn K mainGlobals "_law_any_hall" = some (some (.ref f58))) (l58 : K.lookup f58 = some ⟨oc58, od58, .func (PySem.W.fnOf "_law_any_hall" "_law_any_hall" (defArgs s__law_any_hall) (defBody s__law_any_hall) (defScope s__law_any_hall) .none kV58 dc58 pm58 an58 cd58 ct58), sl58⟩) (c58 : PySem.W.codeIn K cd58 "_law_any_hall" = true) (k58 : PySem.W.keepIn K (.ref f58) = true)
    (a59 : PySem.W.nsIn K mainGlobals "_law_days" = some (some (.ref f59))) (l59 : K.lookup f59 = some ⟨oc59, od59, .func (PySem.W.fnOf "_law_days" "_law_days" (defArgs s__law_days) (defBody s__law_days) (defScope s__law_days) .none kV59 dc59 pm59 an59 cd59 ct59), sl59⟩) (c59 : PySem.W.codeIn K cd59 "_law_days" = true) (k59 : PySem.W.keepIn K (.ref f59) = true)
    (a60 : PySem.W.nsIn K mainGlobals "_law_near_order" = some (some (.ref f60))) (l60 : K.lookup f60 = some ⟨oc60, od60, .func (PySem.W.fnOf "_law_near_order" "_law_near_order" (defArgs s__law_near_order) (defBody s__law_near_order) (defScope s__law_near_order) .none kV60 dc60 pm60 an60 cd60 ct60), sl60⟩) (c60 : PySem.W.codeIn K cd60 "_law_near_order" = true) (k60 : PySem.W.keepIn K (.ref f60) = true)
    (a61 : PySem.W.nsIn K mainGlobals "_law_first" = some (some (.ref f61))) (l61 : K.lookup f61 = some ⟨oc61, od61, .func (PySem.W.fnOf "_law_first" "_law_first" (defArgs s__law_first) (defBody s__law_first) (defScope s__law_first) .none kV61 dc61 pm61 an61 cd61 ct61), sl61⟩) (c61 : PySem.W.codeIn K cd61 "_law_first" = true) (k61 : PySem.W.keepIn K (.ref f61) = true)
    (a62 : PySem.W.nsIn K mainGlobals "_law_right" = some (some (.ref f62))) (l62 : K.lookup f62 = some ⟨oc62, od62, .func (PySem.W.fnOf "_law_right" "_law_right" (defArgs s__law_right) (defBody s__law_right) (defScope s__law_right) .none kV62 dc62 pm62 an62 cd62 ct62), sl62⟩) (c62 : PySem.W.codeIn K cd62 "_law_right" = true) (k62 : PySem.W.keepIn K (.ref f62) = true)
    (a63 : PySem.W.nsIn K mainGlobals "law" = some (some (.ref f63))) (l63 : K.lookup f63 = some ⟨oc63, od63, .func (PySem.W.fnOf "law" "law" (defArgs s_law) (defBody s_law) (defScope s_law) .none kV63 dc63 pm63 an63 cd63 ct63), sl63⟩) (c63 : PySem.W.codeIn K cd63 "law" = true) (k63 : PySem.W.keepIn K (.ref f63) = true)
    : ∃ fd : FuncData, (∀ (s : Shared) (u : Value), BindsTo s fd ⟨[u], []⟩ [("_law_script", u)]) ∧ ∀ bs : Heap, K.In bs → bs.Ns mainGlobals mg → FnG P w K mg bs 13 fa fd ["_law_script"] (spLaw K) := by
  have B := bn_of X G b
  have Bd := bd_of X G b
  have Gg : Gn mg := ⟨⟨_, PySem.W.mg_of X G g0⟩, ⟨_, PySem.W.mg_of X G g1⟩, ⟨_, PySem.W.mg_of X G g2⟩, ⟨_, PySem.W.mg_of X G g3⟩, ⟨_, PySem.W.mg_of X G g4⟩⟩
  have hm : ∃ t, mg "MOST_STATES" = some (.int 256 t) := ⟨_, PySem.W.mg_of X G g5⟩
  have hto : ∃ t, mg "MOST_TOLD" = some (.int 500 t) := ⟨_, PySem.W.mg_of X G g7⟩
  have Gr0 : Gr K mg := ⟨⟨_, PySem.W.mg_of X G aB, bare_sq lB (oc := .none)⟩, ⟨_, PySem.W.mg_of X G g6⟩⟩
  have F0 := fun_mk (st := s_is_integer) l0 c0 k0
  have h0 := PySem.W.mg_of X G a0
  have D0 : Dn K mg "is_integer" s_is_integer ["thing"] := ⟨_, _, F0, h0, F0.binds fun _ _ _ _ _ _ us hl => match us, hl with | [_], _ => rfl⟩
  have F1 := fun_mk (st := s_power) l1 c1 k1
  have h1 := PySem.W.mg_of X G a1
  have D1 : Dn K mg "power" s_power ["base", "exponent"] := ⟨_, _, F1, h1, F1.binds fun _ _ _ _ _ _ us hl => match us, hl with | [_, _], _ => rfl⟩
  have F2 := fun_mk (st := s_are_states) l2 c2 k2
  have h2 := PySem.W.mg_of X G a2
  have D2 : Dn K mg "are_states" s_are_states ["thing", "k", "many"] := ⟨_, _, F2, h2, F2.binds fun _ _ _ _ _ _ us hl => match us, hl with | [_, _, _], _ => rfl⟩
  have F3 := fun_mk (st := s_table_length) l3 c3 k3
  have h3 := PySem.W.mg_of X G a3
  have D3 : Dn K mg "table_length" s_table_length ["k", "near"] := ⟨_, _, F3, h3, F3.binds fun _ _ _ _ _ _ us hl => match us, hl with | [_, _], _ => rfl⟩
  have F4 := fun_mk (st := s_sum_length) l4 c4 k4
  have h4 := PySem.W.mg_of X G a4
  have D4 : Dn K mg "sum_length" s_sum_length ["k", "near"] := ⟨_, _, F4, h4, F4.binds fun _ _ _ _ _ _ us hl => match us, hl with | [_, _], _ => rfl⟩
  have F5 := fun_mk (st := s_is_rule) l5 c5 k5
  have h5 := PySem.W.mg_of X G a5
  have D5 : Dn K mg "is_rule" s_is_rule ["thing", "k", "near"] := ⟨_, _, F5, h5, F5.binds fun _ _ _ _ _ _ us hl => match us, hl with | [_, _, _], _ => rfl⟩
  have F6 := fun_mk (st := s__is_worth) l6 c6 k6
  have h6 := PySem.W.mg_of X G a6
  have D6 : Dn K mg "_is_worth" s__is_worth ["sort", "worth", "k", "near"] := ⟨_, _, F6, h6, F6.binds fun _ _ _ _ _ _ us hl => match us, hl with | [_, _, _, _], _ => rfl⟩
  have F7 := fun_mk (st := s__are_sums) l7 c7 k7
  have h7 := PySem.W.mg_of X G a7
  have D7 : Dn K mg "_are_sums" s__are_sums ["worth", "k", "near"] := ⟨_, _, F7, h7, F7.binds fun _ _ _ _ _ _ us hl => match us, hl with | [_, _, _], _ => rfl⟩
  have F8 := fun_mk (st := s_next_state) l8 c8 k8
  have h8 := PySem.W.mg_of X G a8
  have D8 : Dn K mg "next_state" s_next_state ["rule", "k", "near", "states"] := ⟨_, _, F8, h8, F8.binds fun _ _ _ _ _ _ us hl => match us, hl with | [_, _, _, _], _ => rfl⟩
  have F9 := fun_mk (st := s__table_index) l9 c9 k9
  have h9 := PySem.W.mg_of X G a9
  have D9 : Dn K mg "_table_index" s__table_index ["k", "states"] := ⟨_, _, F9, h9, F9.binds fun _ _ _ _ _ _ us hl => match us, hl with | [_, _], _ => rfl⟩
  have F10 := fun_mk (st := s_is_name) l10 c10 k10
  have h10 := PySem.W.mg_of X G a10
  have D10 : Dn K mg "is_name" s_is_name ["thing"] := ⟨_, _, F10, h10, F10.binds fun _ _ _ _ _ _ us hl => match us, hl with | [_], _ => rfl⟩
  have F11 := fun_mk (st := s_is_web) l11 c11 k11
  have h11 := PySem.W.mg_of X G a11
  have D11 : Dn K mg "is_web" s_is_web ["thing"] := ⟨_, _, F11, h11, F11.binds fun _ _ _ _ _ _ us hl => match us, hl with | [_], _ => rfl⟩
  have F12 := fun_mk (st := s__are_places) l12 c12 k12
  have h12 := PySem.W.mg_of X G a12
  have D12 : Dn K mg "_are_places" s__are_places ["thing"] := ⟨_, _, F12, h12, F12.binds fun _ _ _ _ _ _ us hl => match us, hl with | [_], _ => rfl⟩
  have F13 := fun_mk (st := s__are_roads) l13 c13 k13
  have h13 := PySem.W.mg_of X G a13
  have D13 : Dn K mg "_are_roads" s__are_roads ["thing", "places"] := ⟨_, _, F13, h13, F13.binds fun _ _ _ _ _ _ us hl => match us, hl with | [_, _], _ => rfl⟩
  have F14 := fun_mk (st := s__is_road) l14 c14 k14
  have h14 := PySem.W.mg_of X G a14
  have D14 : Dn K mg "_is_road" s__is_road ["thing", "places"] := ⟨_, _, F14, h14, F14.binds fun _ _ _ _ _ _ us hl => match us, hl with | [_, _], _ => rfl⟩
  have F15 := fun_mk (st := s_is_one_of) l15 c15 k15
  have h15 := PySem.W.mg_of X G a15
  have D15 : Dn K mg "is_one_of" s_is_one_of ["thing", "places"] := ⟨_, _, F15, h15, F15.binds fun _ _ _ _ _ _ us hl => match us, hl with | [_, _], _ => rfl⟩
  have F16 := fun_mk (st := s_need_place) l16 c16 k16
  have h16 := PySem.W.mg_of X G a16
  have D16 : Dn K mg "need_place" s_need_place ["web", "place"] := ⟨_, _, F16, h16, F16.binds fun _ _ _ _ _ _ us hl => match us, hl with | [_, _], _ => rfl⟩
  have F17 := fun_mk (st := s_need_order) l17 c17 k17
  have h17 := PySem.W.mg_of X G a17
  have D17 : Dn K mg "need_order" s_need_order ["web", "order"] := ⟨_, _, F17, h17, F17.binds fun _ _ _ _ _ _ us hl => match us, hl with | [_, _], _ => rfl⟩
  have F18 := fun_mk (st := s_is_order) l18 c18 k18
  have h18 := PySem.W.mg_of X G a18
  have D18 : Dn K mg "is_order" s_is_order ["web", "thing"] := ⟨_, _, F18, h18, F18.binds fun _ _ _ _ _ _ us hl => match us, hl with | [_, _], _ => rfl⟩
  have F19 := fun_mk (st := s_are_joined) l19 c19 k19
  have h19 := PySem.W.mg_of X G a19
  have D19 : Dn K mg "are_joined" s_are_joined ["web", "one", "other"] := ⟨_, _, F19, h19, F19.binds fun _ _ _ _ _ _ us hl => match us, hl with | [_, _, _], _ => rfl⟩
  have F20 := fun_mk (st := s_near_of) l20 c20 k20
  have h20 := PySem.W.mg_of X G a20
  have D20 : Dn K mg "near_of" s_near_of ["web", "place"] := ⟨_, _, F20, h20, F20.binds fun _ _ _ _ _ _ us hl => match us, hl with | [_, _], _ => rfl⟩
  have F21 := fun_mk (st := s_is_hall) l21 c21 k21
  have h21 := PySem.W.mg_of X G a21
  have D21 : Dn K mg "is_hall" s_is_hall ["thing"] := ⟨_, _, F21, h21, F21.binds fun _ _ _ _ _ _ us hl => match us, hl with | [_], _ => rfl⟩
  have F22 := fun_mk (st := s__are_rules) l22 c22 k22
  have h22 := PySem.W.mg_of X G a22
  have D22 : Dn K mg "_are_rules" s__are_rules ["thing", "k", "web"] := ⟨_, _, F22, h22, F22.binds fun _ _ _ _ _ _ us hl => match us, hl with | [_, _, _], _ => rfl⟩
  have F23 := fun_mk (st := s_need_hall) l23 c23 k23
  have h23 := PySem.W.mg_of X G a23
  have D23 : Dn K mg "need_hall" s_need_hall ["hall"] := ⟨_, _, F23, h23, F23.binds fun _ _ _ _ _ _ us hl => match us, hl with | [_], _ => rfl⟩
  have F24 := fun_mk (st := s_need_state) l24 c24 k24
  have h24 := PySem.W.mg_of X G a24
  have D24 : Dn K mg "need_state" s_need_state ["hall", "state"] := ⟨_, _, F24, h24, F24.binds fun _ _ _ _ _ _ us hl => match us, hl with | [_, _], _ => rfl⟩
  have F25 := fun_mk (st := s_is_state) l25 c25 k25
  have h25 := PySem.W.mg_of X G a25
  have D25 : Dn K mg "is_state" s_is_state ["hall", "thing"] := ⟨_, _, F25, h25, F25.binds fun _ _ _ _ _ _ us hl => match us, hl with | [_, _], _ => rfl⟩
  have F26 := fun_mk (st := s_every_state) l26 c26 k26
  have h26 := PySem.W.mg_of X G a26
  have D26 : Dn K mg "every_state" s_every_state ["hall"] := ⟨_, _, F26, h26, F26.binds fun _ _ _ _ _ _ us hl => match us, hl with | [_], _ => rfl⟩
  have F27 := fun_mk (st := s_state_number) l27 c27 k27
  have h27 := PySem.W.mg_of X G a27
  have D27 : Dn K mg "state_number" s_state_number ["hall", "state"] := ⟨_, _, F27, h27, F27.binds fun _ _ _ _ _ _ us hl => match us, hl with | [_, _], _ => rfl⟩
  have F28 := fun_mk (st := s_need_count) l28 c28 k28
  have h28 := PySem.W.mg_of X G a28
  have D28 : Dn K mg "need_count" s_need_count ["count", "most"] := ⟨_, _, F28, h28, F28.binds fun _ _ _ _ _ _ us hl => match us, hl with | [_, _], _ => rfl⟩
  have F29 := fun_mk (st := s_need_day) l29 c29 k29
  have h29 := PySem.W.mg_of X G a29
  have D29 : Dn K mg "need_day" s_need_day ["hall", "order"] := ⟨_, _, F29, h29, F29.binds fun _ _ _ _ _ _ us hl => match us, hl with | [_, _], _ => rfl⟩
  have F30 := fun_mk (st := s_need_start) l30 c30 k30
  have h30 := PySem.W.mg_of X G a30
  have D30 : Dn K mg "need_start" s_need_start ["hall", "order", "state"] := ⟨_, _, F30, h30, F30.binds fun _ _ _ _ _ _ us hl => match us, hl with | [_, _, _], _ => rfl⟩
  have F31 := fun_mk (st := s__looks_at) l31 c31 k31
  have h31 := PySem.W.mg_of X G a31
  have D31 : Dn K mg "_looks_at" s__looks_at ["web", "number"] := ⟨_, _, F31, h31, F31.binds fun _ _ _ _ _ _ us hl => match us, hl with | [_, _], _ => rfl⟩
  have F32 := fun_mk (st := s_step_lists) l32 c32 k32
  have h32 := PySem.W.mg_of X G a32
  have D32 : Dn K mg "step_lists" s_step_lists ["hall"] := ⟨_, _, F32, h32, F32.binds fun _ _ _ _ _ _ us hl => match us, hl with | [_], _ => rfl⟩
  have F33 := fun_mk (st := s__step_list) l33 c33 k33
  have h33 := PySem.W.mg_of X G a33
  have D33 : Dn K mg "_step_list" s__step_list ["hall", "states", "number"] := ⟨_, _, F33, h33, F33.binds fun _ _ _ _ _ _ us hl => match us, hl with | [_, _, _], _ => rfl⟩
  have F34 := fun_mk (st := s_day_numbers) l34 c34 k34
  have h34 := PySem.W.mg_of X G a34
  have D34 : Dn K mg "day_numbers" s_day_numbers ["web", "steps", "order"] := ⟨_, _, F34, h34, F34.binds fun _ _ _ _ _ _ us hl => match us, hl with | [_, _, _], _ => rfl⟩
  have F35 := fun_mk (st := s_numbers_behind) l35 c35 k35
  have h35 := PySem.W.mg_of X G a35
  have D35 : Dn K mg "numbers_behind" s_numbers_behind ["web", "steps", "order", "numbers"] := ⟨_, _, F35, h35, F35.binds fun _ _ _ _ _ _ us hl => match us, hl with | [_, _, _, _], _ => rfl⟩
  have F36 := fun_mk (st := s_day_list) l36 c36 k36
  have h36 := PySem.W.mg_of X G a36
  have D36 : Dn K mg "day_list" s_day_list ["hall", "order"] := ⟨_, _, F36, h36, F36.binds fun _ _ _ _ _ _ us hl => match us, hl with | [_, _], _ => rfl⟩
  have F37 := fun_mk (st := s_story) l37 c37 k37
  have h37 := PySem.W.mg_of X G a37
  have D37 : Dn K mg "story" s_story ["hall", "order", "state", "count"] := ⟨_, _, F37, h37, F37.binds fun _ _ _ _ _ _ us hl => match us, hl with | [_, _, _, _], _ => rfl⟩
  have F38 := fun_mk (st := s__told) l38 c38 k38
  have h38 := PySem.W.mg_of X G a38
  have D38 : Dn K mg "_told" s__told ["hall", "order", "state", "count"] := ⟨_, _, F38, h38, F38.binds fun _ _ _ _ _ _ us hl => match us, hl with | [_, _, _, _], _ => rfl⟩
  have F39 := fun_mk (st := s_watched) l39 c39 k39
  have h39 := PySem.W.mg_of X G a39
  have D39 : Dn K mg "watched" s_watched ["hall", "order", "state", "place", "count"] := ⟨_, _, F39, h39, F39.binds fun _ _ _ _ _ _ us hl => match us, hl with | [_, _, _, _, _], _ => rfl⟩
  have F40 := fun_mk (st := s_first_unlike_day) l40 c40 k40
  have h40 := PySem.W.mg_of X G a40
  have D40 : Dn K mg "first_unlike_day" s_first_unlike_day ["hall", "order", "other", "state"] := ⟨_, _, F40, h40, F40.binds fun _ _ _ _ _ _ us hl => match us, hl with | [_, _, _, _], _ => rfl⟩
  have F41 := fun_mk (st := s__law_feed) l41 c41 k41
  have h41 := PySem.W.mg_of X G a41
  have D41 : Dn K mg "_law_feed" s__law_feed ["_law_script", "_law_k"] := ⟨_, _, F41, h41, F41.binds fun _ _ _ _ _ _ us hl => match us, hl with | [_, _], _ => rfl⟩
  have F42 := fun_mk (st := s__law_draw) l42 c42 k42
  have h42 := PySem.W.mg_of X G a42
  have D42 : Dn K mg "_law_draw" s__law_draw ["_law_feed_here", "_law_many"] := ⟨_, _, F42, h42, F42.binds fun _ _ _ _ _ _ us hl => match us, hl with | [_, _], _ => rfl⟩
  have F43 := fun_mk (st := s__law_one) l43 c43 k43
  have h43 := PySem.W.mg_of X G a43
  have D43 : Dn K mg "_law_one" s__law_one ["_law_feed_here", "_law_things"] := ⟨_, _, F43, h43, F43.binds fun _ _ _ _ _ _ us hl => match us, hl with | [_, _], _ => rfl⟩
  have F44 := fun_mk (st := s__law_mixed) l44 c44 k44
  have h44 := PySem.W.mg_of X G a44
  have D44 : Dn K mg "_law_mixed" s__law_mixed ["_law_feed_here", "_law_things"] := ⟨_, _, F44, h44, F44.binds fun _ _ _ _ _ _ us hl => match us, hl with | [_, _], _ => rfl⟩
  have F45 := fun_mk (st := s__law_names) l45 c45 k45
  have h45 := PySem.W.mg_of X G a45
  have D45 : Dn K mg "_law_names" s__law_names ["_law_feed_here", "_law_many"] := ⟨_, _, F45, h45, F45.binds fun _ _ _ _ _ _ us hl => match us, hl with | [_, _], _ => rfl⟩
  have F46 := fun_mk (st := s__law_web) l46 c46 k46
  have h46 := PySem.W.mg_of X G a46
  have D46 : Dn K mg "_law_web" s__law_web ["_law_feed_here", "_law_way", "_law_most"] := ⟨_, _, F46, h46, F46.binds fun _ _ _ _ _ _ us hl => match us, hl with | [_, _, _], _ => rfl⟩
  have F47 := fun_mk (st := s__law_neighbours) l47 c47 k47
  have h47 := PySem.W.mg_of X G a47
  have D47 : Dn K mg "_law_neighbours" s__law_neighbours ["_law_web_here", "_law_place"] := ⟨_, _, F47, h47, F47.binds fun _ _ _ _ _ _ us hl => match us, hl with | [_, _], _ => rfl⟩
  have F48 := fun_mk (st := s__law_rule) l48 c48 k48
  have h48 := PySem.W.mg_of X G a48
  have D48 : Dn K mg "_law_rule" s__law_rule ["_law_feed_here", "_law_k", "_law_others", "_law_sort"] := ⟨_, _, F48, h48, F48.binds fun _ _ _ _ _ _ us hl => match us, hl with | [_, _, _, _], _ => rfl⟩
  have F49 := fun_mk (st := s__law_hall) l49 c49 k49
  have h49 := PySem.W.mg_of X G a49
  have D49 : Dn K mg "_law_hall" s__law_hall ["_law_feed_here", "_law_way", "_law_sort", "_law_most"] := ⟨_, _, F49, h49, F49.binds fun _ _ _ _ _ _ us hl => match us, hl with | [_, _, _, _], _ => rfl⟩
  have F50 := fun_mk (st := s__law_order) l50 c50 k50
  have h50 := PySem.W.mg_of X G a50
  have D50 : Dn K mg "_law_order" s__law_order ["_law_feed_here", "_law_web_here"] := ⟨_, _, F50, h50, F50.binds fun _ _ _ _ _ _ us hl => match us, hl with | [_, _], _ => rfl⟩
  have F51 := fun_mk (st := s__law_state) l51 c51 k51
  have h51 := PySem.W.mg_of X G a51
  have D51 : Dn K mg "_law_state" s__law_state ["_law_feed_here", "_law_hall_here"] := ⟨_, _, F51, h51, F51.binds fun _ _ _ _ _ _ us hl => match us, hl with | [_, _], _ => rfl⟩
  have F52 := fun_mk (st := s__law_next) l52 c52 k52
  have h52 := PySem.W.mg_of X G a52
  have D52 : Dn K mg "_law_next" s__law_next ["_law_hall_here", "_law_state_here", "_law_place"] := ⟨_, _, F52, h52, F52.binds fun _ _ _ _ _ _ us hl => match us, hl with | [_, _, _], _ => rfl⟩
  have F53 := fun_mk (st := s__law_step) l53 c53 k53
  have h53 := PySem.W.mg_of X G a53
  have D53 : Dn K mg "_law_step" s__law_step ["_law_hall_here", "_law_state_here", "_law_place"] := ⟨_, _, F53, h53, F53.binds fun _ _ _ _ _ _ us hl => match us, hl with | [_, _, _], _ => rfl⟩
  have F54 := fun_mk (st := s__law_day) l54 c54 k54
  have h54 := PySem.W.mg_of X G a54
  have D54 : Dn K mg "_law_day" s__law_day ["_law_hall_here", "_law_order_here", "_law_state_here"] := ⟨_, _, F54, h54, F54.binds fun _ _ _ _ _ _ us hl => match us, hl with | [_, _, _], _ => rfl⟩
  have F55 := fun_mk (st := s__law_states) l55 c55 k55
  have h55 := PySem.W.mg_of X G a55
  have D55 : Dn K mg "_law_states" s__law_states ["_law_hall_here"] := ⟨_, _, F55, h55, F55.binds fun _ _ _ _ _ _ us hl => match us, hl with | [_], _ => rfl⟩
  have F56 := fun_mk (st := s__law_great_hall) l56 c56 k56
  have h56 := PySem.W.mg_of X G a56
  have D56 : Dn K mg "_law_great_hall" s__law_great_hall ["_law_feed_here", "_law_sort"] := ⟨_, _, F56, h56, F56.binds fun _ _ _ _ _ _ us hl => match us, hl with | [_, _], _ => rfl⟩
  have F57 := fun_mk (st := s__law_called) l57 c57 k57
  have h57 := PySem.W.mg_of X G a57
  have D57 : Dn K mg "_law_called" s__law_called ["_law_feed_here", "_law_hall_here"] := ⟨_, _, F57, h57, F57.binds fun _ _ _ _ _ _ us hl => match us, hl with | [_, _], _ => rfl⟩
  have F58 := fun_mk (st := s__law_any_hall) l58 c58 k58
  have h58 := PySem.W.mg_of X G a58
  have D58 : Dn K mg "_law_any_hall" s__law_any_hall ["_law_feed_here"] := ⟨_, _, F58, h58, F58.binds fun _ _ _ _ _ _ us hl => match us, hl with | [_], _ => rfl⟩
  have F59 := fun_mk (st := s__law_days) l59 c59 k59
  have h59 := PySem.W.mg_of X G a59
  have D59 : Dn K mg "_law_days" s__law_days ["_law_hall_here", "_law_order_here"] := ⟨_, _, F59, h59, F59.binds fun _ _ _ _ _ _ us hl => match us, hl with | [_, _], _ => rfl⟩
  have F60 := fun_mk (st := s__law_near_order) l60 c60 k60
  have h60 := PySem.W.mg_of X G a60
  have D60 : Dn K mg "_law_near_order" s__law_near_order ["_law_feed_here", "_law_order_here"] := ⟨_, _, F60, h60, F60.binds fun _ _ _ _ _ _ us hl => match us, hl with | [_, _], _ => rfl⟩
  have F61 := fun_mk (st := s__law_first) l61 c61 k61
  have h61 := PySem.W.mg_of X G a61
  have D61 : Dn K mg "_law_first" s__law_first ["_law_one_here", "_law_other", "_law_state_here", "_law_most"] := ⟨_, _, F61, h61, F61.binds fun _ _ _ _ _ _ us hl => match us, hl with | [_, _, _, _], _ => rfl⟩
  have F62 := fun_mk (st := s__law_right) l62 c62 k62
  have h62 := PySem.W.mg_of X G a62
  have D62 : Dn K mg "_law_right" s__law_right ["_law_feed_here"] := ⟨_, _, F62, h62, F62.binds fun _ _ _ _ _ _ us hl => match us, hl with | [_], _ => rfl⟩
  have F63 := fun_mk (st := s_law) l63 c63 k63
  have h63 := PySem.W.mg_of X G a63
  have e := hfa.symm.trans h63
  cases e
  have DK_story : Dk K mg "story" s_story ["hall", "order", "state", "count"] ["count", "state", "order", "hall"] := ⟨_, _, F37, h37, kb4 rfl fun _ _ _ _ => rfl⟩
  have DK_first_unlike_day : Dk K mg "first_unlike_day" s_first_unlike_day ["hall", "order", "other", "state"] ["state", "other", "order", "hall"] := ⟨_, _, F40, h40, kb4 rfl fun _ _ _ _ => rfl⟩
  have DK_watched : Dk5 K mg "watched" s_watched ["hall", "order", "state", "place", "count"] ["count", "place", "state", "order", "hall"] := ⟨_, _, F39, h39, kbR5 rfl fun _ _ _ _ _ => rfl⟩
  refine ⟨PySem.W.fnOf "law" "law" (defArgs s_law) (defBody s_law) (defScope s_law) .none kV63 dc63 pm63 an63 cd63 ct63, fun s u => .of_eq rfl, fun bs _ _ => ?_⟩
  have r_C__law_draw := ok_draw (P := P) (w := w) (base := bs)  D42 B
  have r_C__law_one := ok_one (P := P) (w := w) (base := bs)  D43 B r_C__law_draw
  have r_C__law_mixed := ok_mixed (P := P) (w := w) (base := bs)  D44 B r_C__law_draw
  have r_C__law_names := ok_names (P := P) (w := w) (base := bs)  D45 B r_C__law_mixed
  have r_C__law_web := ok_web (P := P) (w := w) (base := bs)  D46 B r_C__law_draw r_C__law_mixed r_C__law_names
  have r_C__law_neighbours := ok_near (P := P) (w := w) (base := bs)  D47 B
  have r_C__law_rule := ok_rule (P := P) (w := w) (base := bs)  D48 B r_C__law_draw r_C__law_mixed r_C__law_one
  have r_C__law_hall := ok_hall (P := P) (w := w) (base := bs)  D49 B r_C__law_one r_C__law_web r_C__law_neighbours r_C__law_rule
  have r_C_power := ok_power (P := P) (w := w) (base := bs)  D1 B
  have r_C_is_integer := ok_is_integer (P := P) (w := w) (base := bs)  D0 B
  have r_C_are_states := ok_are_states (P := P) (w := w) (base := bs)  D2 B r_C_is_integer
  have r_C_table_length := ok_table_length (P := P) (w := w) (base := bs)  D3 B r_C_power
  have r_C_sum_length := ok_sum_length (P := P) (w := w) (base := bs)  D4 B
  have r_C__are_sums := ok_are_sums (P := P) (w := w) (base := bs)  D7 B r_C_sum_length r_C_are_states
  have r_C_is_name := ok_is_name (P := P) (w := w) (base := bs)  D10 B Gg
  have r_C_is_one_of := ok_is_one_of (P := P) (w := w) (base := bs)  D15 B
  have r_C__is_road := ok_is_road (P := P) (w := w) (base := bs)  D14 B r_C_is_one_of
  have r_C__are_places := ok_are_places (P := P) (w := w) (base := bs)  D12 B Gg r_C_is_name
  have r_C__are_roads := ok_are_roads (P := P) (w := w) (base := bs)  D13 B Gg r_C__is_road
  have r_C_is_web := ok_is_web (P := P) (w := w) (base := bs)  D11 B r_C__are_places r_C__are_roads
  have r_C_are_joined := ok_are_joined (P := P) (w := w) (base := bs)  D19 B
  have r_C_near_of := ok_near_of (P := P) (w := w) (base := bs)  D20 B r_C_are_joined
  have r_C__is_worth := ok_is_worth (P := P) (w := w) (base := bs)  D6 B Gr0 r_C_table_length r_C_are_states r_C__are_sums r_C_is_integer
  have r_C_is_rule := ok_is_rule (P := P) (w := w) (base := bs)  D5 B Gr0 r_C__is_worth
  have r_C__are_rules := ok_are_rules (P := P) (w := w) (base := bs)  D22 B r_C_is_rule r_C_near_of
  have r_C__table_index := ok_table_index (P := P) (w := w) (base := bs)  D9 B
  have r_C_next_state := ok_next_state (P := P) (w := w) (base := bs)  D8 B r_C__table_index
  have r_C__looks_at := ok_looks_at (P := P) (w := w) (base := bs)  D31 B r_C_near_of
  have r_C_is_hall := ok_is_hall (P := P) (w := w) (base := bs)  D21 B hm r_C_is_integer r_C_is_web r_C_power r_C__are_rules
  have r_C_need_hall := ok_need_hall (P := P) (w := w) (base := bs)  D23 B r_C_is_hall
  have r_C_is_state := ok_is_state (P := P) (w := w) (base := bs)  D25 B r_C_are_states
  have r_C_need_state := ok_need_state (P := P) (w := w) (base := bs)  D24 B r_C_is_state
  have r_C_is_order := ok_is_order (P := P) (w := w) (base := bs)  D18 B r_C_is_one_of
  have r_C_need_order := ok_need_order (P := P) (w := w) (base := bs)  D17 B r_C_is_order
  have r_C_need_place := ok_need_place (P := P) (w := w) (base := bs)  D16 B r_C_is_one_of
  have r_C_need_day := ok_need_day (P := P) (w := w) (base := bs)  D29 B r_C_need_hall r_C_need_order
  have r_C_need_start := ok_need_start (P := P) (w := w) (base := bs)  D30 B r_C_need_day r_C_need_state
  have r_C__law_next := ok_lnext (P := P) (w := w) (base := bs)  D52 B r_C__law_neighbours
  have r_C__law_step := ok_lstep (P := P) (w := w) (base := bs)  D53 B r_C__law_next
  have r_C__law_day := ok_lday (P := P) (w := w) (base := bs)  D54 B r_C__law_step
  have r_C__law_mixed_spMixedT := ok_mixedT (P := P) (w := w) (base := bs)  D44 B r_C__law_draw
  have r_C__law_order := ok_orderF (P := P) (w := w) (base := bs)  D50 B r_C__law_mixed_spMixedT
  have r_C__law_state := ok_lstate (P := P) (w := w) (base := bs)  D51 B r_C__law_draw
  have r_C__law_great_hall := ok_great_hallP (P := P) (w := w) (base := bs)  D56 B r_C__law_draw r_C__law_one r_C__law_names r_C__law_neighbours r_C__law_rule
  have r_C__law_feed := ok_feed (P := P) (w := w) (base := bs)  D41 B
  have r_C__law_called := ok_called (P := P) (w := w) (base := bs)  D57 B Bd r_C__law_draw r_C__law_mixed
  have r_C__law_any_hall := ok_any_hall (P := P) (w := w) (base := bs)  D58 B r_C__law_draw r_C__law_one r_C__law_great_hall r_C__law_hall r_C__law_called
  have r_C_every_state := ok_every_state (P := P) (w := w) (base := bs)  D26 B
  have r_C__step_list := ok_step_list (P := P) (w := w) (base := bs)  D33 B r_C__looks_at r_C_next_state r_C_power
  have r_C_step_lists := ok_step_lists (P := P) (w := w) (base := bs)  D32 B r_C_every_state r_C__step_list
  have r_C__law_states := ok_lstates (P := P) (w := w) (base := bs)  D55 B
  have r_C_numbers_behind := ok_numbers_behind (P := P) (w := w) (base := bs)  D35 B
  have r_C_day_numbers := ok_day_numbers (P := P) (w := w) (base := bs)  D34 B r_C_numbers_behind
  have r_C_state_number := ok_state_number (P := P) (w := w) (base := bs)  D27 B
  have r_C_need_count := ok_need_count (P := P) (w := w) (base := bs)  D28 B r_C_is_integer
  have r_C_day_list := ok_day_list (P := P) (w := w) (base := bs)  D36 B r_C_day_numbers r_C_step_lists
  have r_C__told := ok_told (P := P) (w := w) (base := bs)  D38 B r_C_day_list r_C_every_state r_C_state_number
  have r_C_story := ok_story (P := P) (w := w) (base := bs)  D37 B hto r_C_need_start r_C_need_count r_C__told
  have r_K_story := ok_storyK (P := P) (w := w) (base := bs)  DK_story B hto r_C_need_start r_C_need_count r_C__told
  have r_C__law_days := ok_law_days3 (P := P) (w := w) (base := bs)  D59 B Bd r_C__law_states r_C__law_day
  have r_C_first_unlike_day := ok_firstG (P := P) (w := w) (base := bs)  D40 B r_C_need_day r_C_need_order r_C_need_state r_C_day_list r_C_state_number
  have r_K_first_unlike_day := ok_firstGK (P := P) (w := w) (base := bs)  DK_first_unlike_day B r_C_need_day r_C_need_order r_C_need_state r_C_day_list r_C_state_number
  have r_C_watched := ok_watched (P := P) (w := w) (base := bs)  D39 B hto r_C_need_start r_C_need_place r_C_need_count r_C__told
  have r_K_watched := ok_watchedK (P := P) (w := w) (base := bs)  DK_watched B hto r_C_need_start r_C_need_place r_C_need_count r_C__told
  have r_C__law_near_order := ok_near_order (P := P) (w := w) (base := bs)  D60 B r_C__law_draw r_C__law_mixed_spMixedT
  have r_C__law_first := ok_law_first (P := P) (w := w) (base := bs)  D61 B
  have r_C__law_right := ok_right (P := P) (w := w) (base := bs)  D62 B r_C__law_any_hall r_C__law_order r_C__law_near_order r_C__law_days r_C__law_state r_C__law_draw r_C__law_one r_C_watched r_K_watched r_C__law_first r_C_first_unlike_day r_K_first_unlike_day r_C_story
  exact ok_law (P := P) (w := w) (base := bs)  F63 B r_C__law_feed r_C__law_right
end
end J
open PySem PySem.W PyProof.Rows in
set_option maxRecDepth 100000 in
set_option maxHeartbeats 0 in
theorem PySem.Challenge.cw_eachinturn_k19_watched_and_first_unlike_holds : PySem.Challenge.rw_eachinturn_k19_watched_and_first_unlike.Holds := by
  refine k19_top ?_
  k_fill
  refine J.walk_ofG (l := PySem.Challenge.rw_eachinturn_k19_watched_and_first_unlike) (n := 63) (k := 13) (x := "_law_script") (sp := fun K => J.spLaw K) rfl (by decide) rfl ⟨rfl, by decide, by decide⟩ (fun w h Y => PySem.W.kIn_of Y) ?F (fun K H a ns hl _ hS => ⟨a, ns, rfl, hS, hl, fun _ => rfl⟩)
  case F =>
    intro w mg fa h KX G hmg
    refine' J.all_mk KX G hmg ?u_bs ?u_g0 ?u_g1 ?u_g2 ?u_g3 ?u_g4 ?u_g5 ?u_g6 ?u_g7 ?u_aB ?u_lB ?u_a0 ?u_l0 ?u_c0 ?u_k0 ?u_a1 ?u_l1 ?u_c1 ?u_k1 ?u_a2 ?u_l2 ?u_c2 ?u_k2 ?u_a3 ?u_l3 ?u_c3 ?u_k3 ?u_a4 ?u_l4 ?u_c4 ?u_k4 ?u_a5 ?u_l5 ?u_c5 ?u_k5 ?u_a6 ?u_l6 ?u_c6 ?u_k6 ?u_a7 ?u_l7 ?u_c7 ?u_k7 ?u_a8 ?u_l8 ?u_c8 ?u_k8 ?u_a9 ?u_l9 ?u_c9 ?u_k9 ?u_a10 ?u_l10 ?u_c10 ?u_k10 ?u_a11 ?u_l11 ?u_c11 ?u_k11 ?u_a12 ?u_l12 ?u_c12 ?u_k12 ?u_a13 ?u_l13 ?u_c13 ?u_k13 ?u_a14 ?u_l14 ?u_c14 ?u_k14 ?u_a15 ?u_l15 ?u_c15 ?u_k15 ?u_a16 ?u_l16 ?u_c16 ?u_k16 ?u_a17 ?u_l17 ?u_c17 ?u_k17 ?u_a18 ?u_l18 ?u_c18 ?u_k18 ?u_a19 ?u_l19 ?u_c19 ?u_k19 ?u_a20 ?u_l20 ?u_c20 ?u_k20 ?u_a21 ?u_l21 ?u_c21 ?u_k21 ?u_a22 ?u_l22 ?u_c22 ?u_k22 ?u_a23 ?u_l23 ?u_c23 ?u_k23 ?u_a24 ?u_l24 ?u_c24 ?u_k24 ?u_a25 ?u_l25 ?u_c25 ?u_k25 ?u_a26 ?u_l26 ?u_c26 ?u_k26 ?u_a27 ?u_l27 ?u_c27 ?u_k27 ?u_a28 ?u_l28 ?u_c28 ?u_k28 ?u_a29 ?u_l29 ?u_c29 ?u_k29 ?u_a30 ?u_l30 ?u_c30 ?u_k30 ?u_a31 ?u_l31 ?u_c31 ?u_k31 ?u_a32 ?u_l32 ?u_c32 ?u_k32 ?u_a33 ?u_l33 ?u_c33 ?u_k33 ?u_a34 ?u_l34 ?u_c34 ?u_k34 ?u_a35 ?u_l35 ?u_c35 ?u_k35 ?u_a36 ?u_l36 ?u_c36 ?u_k36 ?u_a37 ?u_l37 ?u_c37 ?u_k37 ?u_a38 ?u_l38 ?u_c38 ?u_k38 ?u_a39 ?u_l39 ?u_c39 ?u_k39 ?u_a40 ?u_l40 ?u_c40 ?u_k40 ?u_a41 ?u_l41 ?u_c41 ?u_k41 ?u_a42 ?u_l42 ?u_c42 ?u_k42 ?u_a43 ?u_l43 ?u_c43 ?u_k43 ?u_a44 ?u_l44 ?u_c44 ?u_k44 ?u_a45 ?u_l45 ?u_c45 ?u_k45 ?u_a46 ?u_l46 ?u_c46 ?u_k46 ?u_a47 ?u_l47 ?u_c47 ?u_k47 ?u_a48 ?u_l48 ?u_c48 ?u_k48 ?u_a49 ?u_l49 ?u_c49 ?u_k49 ?u_a50 ?u_l50 ?u_c50 ?u_k50 ?u_a51 ?u_l51 ?u_c51 ?u_k51 ?u_a52 ?u_l52 ?u_c52 ?u_k52 ?u_a53 ?u_l53 ?u_c53 ?u_k53 ?u_a54 ?u_l54 ?u_c54 ?u_k54 ?u_a55 ?u_l55 ?u_c55 ?u_k55 ?u_a56 ?u_l56 ?u_c56 ?u_k56 ?u_a57 ?u_l57 ?u_c57 ?u_k57 ?u_a58 ?u_l58 ?u_c58 ?u_k58 ?u_a59 ?u_l59 ?u_c59 ?u_k59 ?u_a60 ?u_l60 ?u_c60 ?u_k60 ?u_a61 ?u_l61 ?u_c61 ?u_k61 ?u_a62 ?u_l62 ?u_c62 ?u_k62 ?u_a63 ?u_l63 ?u_c63 ?u_k63
    (case u_g0 => k_is)
    (case u_g1 => k_is)
    (case u_g2 => k_is)
    (case u_g3 => k_is)
    (case u_g4 => k_is)
    (case u_g5 => k_is)
    (case u_g6 => k_is)
    (case u_g7 => k_is)
    (case u_aB => k_is)
    (case u_lB => k_is)
    (case u_a0 => k_is)
    (case u_l0 => k_is)
    (case u_c0 => k_is)
    (case u_k0 => k_is)
    (case u_a1 => k_is)
    (case u_l1 => k_is)
    (case u_c1 => k_is)
    (case u_k1 => k_is)
    (case u_a2 => k_is)
    (case u_l2 => k_is)
    (case u_c2 => k_is)
    (case u_k2 => k_is)
    (case u_a3 => k_is)
    (case u_l3 => k_is)
    (case u_c3 => k_is)
    (case u_k3 => k_is)
    (case u_a4 => k_is)
    (case u_l4 => k_is)
    (case u_c4 => k_is)
    (case u_k4 => k_is)
    (case u_a5 => k_is)
    (case u_l5 => k_is)
    (case u_c5 => k_is)
    (case u_k5 => k_is)
    (case u_a6 => k_is)
    (case u_l6 => k_is)
    (case u_c6 => k_is)
    (case u_k6 => k_is)
    (case u_a7 => k_is)
    (case u_l7 => k_is)
    (case u_c7 => k_is)
    (case u_k7 => k_is)
    (case u_a8 => k_is)
    (case u_l8 => k_is)
    (case u_c8 => k_is)
    (case u_k8 => k_is)
    (case u_a9 => k_is)
    (case u_l9 => k_is)
    (case u_c9 => k_is)
    (case u_k9 => k_is)
    (case u_a10 => k_is)
    (case u_l10 => k_is)
    (case u_c10 => k_is)
    (case u_k10 => k_is)
    (case u_a11 => k_is)
    (case u_l11 => k_is)
    (case u_c11 => k_is)
    (case u_k11 => k_is)
    (case u_a12 => k_is)
    (case u_l12 => k_is)
    (case u_c12 => k_is)
    (case u_k12 => k_is)
    (case u_a13 => k_is)
    (case u_l13 => k_is)
    (case u_c13 => k_is)
    (case u_k13 => k_is)
    (case u_a14 => k_is)
    (case u_l14 => k_is)
    (case u_c14 => k_is)
    (case u_k14 => k_is)
    (case u_a15 => k_is)
    (case u_l15 => k_is)
    (case u_c15 => k_is)
    (case u_k15 => k_is)
    (case u_a16 => k_is)
    (case u_l16 => k_is)
    (case u_c16 => k_is)
    (case u_k16 => k_is)
    (case u_a17 => k_is)
    (case u_l17 => k_is)
    (case u_c17 => k_is)
    (case u_k17 => k_is)
    (case u_a18 => k_is)
    (case u_l18 => k_is)
    (case u_c18 => k_is)
    (case u_k18 => k_is)
    (case u_a19 => k_is)
    (case u_l19 => k_is)
    (case u_c19 => k_is)
    (case u_k19 => k_is)
    (case u_a20 => k_is)
    (case u_l20 => k_is)
    (case u_c20 => k_is)
    (case u_k20 => k_is)
    (case u_a21 => k_is)
    (case u_l21 => k_is)
    (case u_c21 => k_is)
    (case u_k21 => k_is)
    (case u_a22 => k_is)
    (case u_l22 => k_is)
    (case u_c22 => k_is)
    (case u_k22 => k_is)
    (case u_a23 => k_is)
    (case u_l23 => k_is)
    (case u_c23 => k_is)
    (case u_k23 => k_is)
    (case u_a24 => k_is)
    (case u_l24 => k_is)
    (case u_c24 => k_is)
    (case u_k24 => k_is)
    (case u_a25 => k_is)
    (case u_l25 => k_is)
    (case u_c25 => k_is)
    (case u_k25 => k_is)
    (case u_a26 => k_is)
    (case u_l26 => k_is)
    (case u_c26 => k_is)
    (case u_k26 => k_is)
    (case u_a27 => k_is)
    (case u_l27 => k_is)
    (case u_c27 => k_is)
    (case u_k27 => k_is)
    (case u_a28 => k_is)
    (case u_l28 => k_is)
    (case u_c28 => k_is)
    (case u_k28 => k_is)
    (case u_a29 => k_is)
    (case u_l29 => k_is)
    (case u_c29 => k_is)
    (case u_k29 => k_is)
    (case u_a30 => k_is)
    (case u_l30 => k_is)
    (case u_c30 => k_is)
    (case u_k30 => k_is)
    (case u_a31 => k_is)
    (case u_l31 => k_is)
    (case u_c31 => k_is)
    (case u_k31 => k_is)
    (case u_a32 => k_is)
    (case u_l32 => k_is)
    (case u_c32 => k_is)
    (case u_k32 => k_is)
    (case u_a33 => k_is)
    (case u_l33 => k_is)
    (case u_c33 => k_is)
    (case u_k33 => k_is)
    (case u_a34 => k_is)
    (case u_l34 => k_is)
    (case u_c34 => k_is)
    (case u_k34 => k_is)
    (case u_a35 => k_is)
    (case u_l35 => k_is)
    (case u_c35 => k_is)
    (case u_k35 => k_is)
    (case u_a36 => k_is)
    (case u_l36 => k_is)
    (case u_c36 => k_is)
    (case u_k36 => k_is)
    (case u_a37 => k_is)
    (case u_l37 => k_is)
    (case u_c37 => k_is)
    (case u_k37 => k_is)
    (case u_a38 => k_is)
    (case u_l38 => k_is)
    (case u_c38 => k_is)
    (case u_k38 => k_is)
    (case u_a39 => k_is)
    (case u_l39 => k_is)
    (case u_c39 => k_is)
    (case u_k39 => k_is)
    (case u_a40 => k_is)
    (case u_l40 => k_is)
    (case u_c40 => k_is)
    (case u_k40 => k_is)
    (case u_a41 => k_is)
    (case u_l41 => k_is)
    (case u_c41 => k_is)
    (case u_k41 => k_is)
    (case u_a42 => k_is)
    (case u_l42 => k_is)
    (case u_c42 => k_is)
    (case u_k42 => k_is)
    (case u_a43 => k_is)
    (case u_l43 => k_is)
    (case u_c43 => k_is)
    (case u_k43 => k_is)
    (case u_a44 => k_is)
    (case u_l44 => k_is)
    (case u_c44 => k_is)
    (case u_k44 => k_is)
    (case u_a45 => k_is)
    (case u_l45 => k_is)
    (case u_c45 => k_is)
    (case u_k45 => k_is)
    (case u_a46 => k_is)
    (case u_l46 => k_is)
    (case u_c46 => k_is)
    (case u_k46 => k_is)
    (case u_a47 => k_is)
    (case u_l47 => k_is)
    (case u_c47 => k_is)
    (case u_k47 => k_is)
    (case u_a48 => k_is)
    (case u_l48 => k_is)
    (case u_c48 => k_is)
    (case u_k48 => k_is)
    (case u_a49 => k_is)
    (case u_l49 => k_is)
    (case u_c49 => k_is)
    (case u_k49 => k_is)
    (case u_a50 => k_is)
    (case u_l50 => k_is)
    (case u_c50 => k_is)
    (case u_k50 => k_is)
    (case u_a51 => k_is)
    (case u_l51 => k_is)
    (case u_c51 => k_is)
    (case u_k51 => k_is)
    (case u_a52 => k_is)
    (case u_l52 => k_is)
    (case u_c52 => k_is)
    (case u_k52 => k_is)
    (case u_a53 => k_is)
    (case u_l53 => k_is)
    (case u_c53 => k_is)
    (case u_k53 => k_is)
    (case u_a54 => k_is)
    (case u_l54 => k_is)
    (case u_c54 => k_is)
    (case u_k54 => k_is)
    (case u_a55 => k_is)
    (case u_l55 => k_is)
    (case u_c55 => k_is)
    (case u_k55 => k_is)
    (case u_a56 => k_is)
    (case u_l56 => k_is)
    (case u_c56 => k_is)
    (case u_k56 => k_is)
    (case u_a57 => k_is)
    (case u_l57 => k_is)
    (case u_c57 => k_is)
    (case u_k57 => k_is)
    (case u_a58 => k_is)
    (case u_l58 => k_is)
    (case u_c58 => k_is)
    (case u_k58 => k_is)
    (case u_a59 => k_is)
    (case u_l59 => k_is)
    (case u_c59 => k_is)
    (case u_k59 => k_is)
    (case u_a60 => k_is)
    (case u_l60 => k_is)
    (case u_c60 => k_is)
    (case u_k60 => k_is)
    (case u_a61 => k_is)
    (case u_l61 => k_is)
    (case u_c61 => k_is)
    (case u_k61 => k_is)
    (case u_a62 => k_is)
    (case u_l62 => k_is)
    (case u_c62 => k_is)
    (case u_k62 => k_is)
    (case u_a63 => k_is)
    (case u_l63 => k_is)
    (case u_c63 => k_is)
    (case u_k63 => k_is)
    (case u_bs => kernel_rfl)
