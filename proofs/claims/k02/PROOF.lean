import PyProof.Rows.All
import Wide.All
import OpenK.AllK
import Wide.FinOn
import PySem.Challenge.RW_eachinturn_k02_what_is_a_hall
import HandS.ForMost
import HandS.Deep
import HandS.Wide
import HandS.IsInst
import HandS.TupAny
import HandS.Style
import PyProof.P3In
import PyProof.Rows.EqDataRows
import HandS.Conv
import HandS.TupSets
import HandS.SetBool
import HandS.Strs
import HandS.ExcOwn
import HandS.ExcValue
import HandS.Text
import PyProof.Rows.SortShellAny
import PyProof.ReprLen
import PyProof.Rows.RegFStrParts
import HandS.Zip
import KE.KSortTupG
import HandS.RaiseMore
import HandS.Walk
import KE.KDictZip
import KE.GoesMore
import KE.KItemsList
import HandS.TupMul
import KE.KDictPairs
import KE.KDictKeyed
import HandS.Flow
import HandS.TupLen
import HandS.DictComp
import HandS.SetFor
import PyProof.Rows.ChunkEnd
import KE.SortData
import KE.KDictDisplayH
import KE.KeyNested
import HandS.List
import KE.KDictCopyH
import KE.DataMinMax
import HandS.WordsExc
import HandS.ExcIs
import HandS.ListItems
import HandS.SortInts
import KE.DatumIndex
import PyProof.NeKinds
set_option Elab.async false
set_option linter.all false
set_option maxRecDepth 100000
set_option maxHeartbeats 8000000
namespace J
section
open L2 PySem PySem.Spec PyProof.Rows
structure FnG (P : Program) (w : World) (K : PySem.W.Frag) (mg : Str → Option Value) (base : Heap) (k : Nat) (f : Addr) (fd : FuncData) (ps : List Str) (sp : Sp) : Prop where
  len : ∀ us H Q E, sp us H Q E → us.length = ps.length
  go : ∀ (A : Around) (fr : List Env) (s : Shared) (H : Hp) (ar : Args) (us : List Value) (vs : List V) (Q : VK) (E : XK), A.guards = some [] → Room k A → Env0 P w K mg base A fr s H → BindsTo s fd ar (ps.zip us) →
    Vals vs us → sp vs H Q E → codeAny (model P w) A (.call (.ref f) ar) (CR CX0 fr P w H s Q E) s
section
variable {base : Heap} {P : Program} {w : World} {K : PySem.W.Frag} {mg : Str → Option Value}
theorem okG {x qual : Str} {st : Stmt} {f : Addr} {fd : FuncData} {N ps : List Str} {k : Nat} {sp : Sp} (F : Fun K x qual st f fd) (S : FnScope N ps (defScope st)) (len : ∀ vs H Q E, sp vs H Q E → vs.length = ps.length)
    (bd : ∀ (cdv : Value) (A : Around) (fr : List Env) (s : Shared) (H : Hp) (vs : List V) (Q : VK) (E : XK), A.guards = some [] → Room k (A.deeper (envOfC qual (defScope st) s.heap.objs.size f cdv)) → sp vs H Q E →
      ∃ t, PSs (cxOf CX0 P w K mg base N qual (defScope st) f cdv A fr s H E).nox (defBody st) t ∧ t { nx := fun _ H' => Q .non H', rt := Q } (start N vs) H) :
    FnG P w K mg base (k + 1) f fd ps sp := by
  obtain ⟨oc, od, kV, doc, pm, an, cdv, ct, osl, rfl, lk, hcd⟩ := F.ex
  refine ⟨len, fun A fr s H ar us vs Q E hg hr e0 hb r hsp => ?_⟩
  have hlen := len _ _ _ _ hsp
  have kin : K.In s.heap := PySem.W.Frag.In.keeps e0.mod.kin (fun b o e => (e0.bs b o e).1)
  have nol : s.heap.NoLimit := Heap.NoLimit.keeps e0.mod.nolimit (fun b o e => (e0.bs b o e).1)
  obtain ⟨t, ht, hq⟩ := bd cdv A fr s H vs Q E hg (hr.deeper _) hsp
  have kd : ∀ z ∈ ps.zip us, (defScope st).names.lookup z.1 = some .local ∨ ((defScope st).names.lookup z.1 = some .cell ∧ ((cellsFrom (s.heap.objs.size + 1) (defScope st).names []).lookup z.1).isSome = true) := by
    rintro ⟨n, v⟩ hz
    cases S.par n (List.of_mem_zip hz).1 with
    | inl q => exact .inl q
    | inr q => exact .inr ⟨q, PySem.W.cellsFrom_some _ _ _ (.inl q)⟩
  refine codeAny_call_function hr.depth (kin _ _ lk) rfl S.co S.gen rfl (PySem.W.codeRec_of kin hcd) (hb _ _ _ _ (wpAny_newFunctionEnv_cells S.kind kd ?_))
  rintro env rfl s1 x
  refine ⟨nol.keeps x.toInCall.keep, codeAny_func (wpAny_mono (ht.nox.run [] s1 (start N vs) H _ (inv_start S hr.hd e0 hlen r x) hq) ?_ fun _ _ z => z)⟩
  rintro (_ | _ | _ | u) s' hs
  · obtain ⟨_, _, J, q⟩ := hs
    exact ⟨V.non, _, J.os, J.bare, J.base, J.hok, rfl, q⟩
  · obtain ⟨_, _, _, q⟩ := hs
    exact q.elim
  · obtain ⟨_, _, _, q⟩ := hs
    exact q.elim
  · obtain ⟨v, _, _, J, rv, q⟩ := hs
    exact ⟨v, _, J.os, J.bare, J.base, J.hok, rv, q⟩
end
section
variable {X : Cx} {k : Nat} {f : Addr} {fd : FuncData} {ps : List Str} {sp : Sp} {dvs : List V} {ds : List Value} {E : XK} {x : Str} {p pos : Pos} {e : Expr} {es : List Expr} {t : TA}
theorem go_fn {pins : List (Addr × Obj)} {σ : L2.St} {H : Hp} {s : Shared} {Q : VK} {us : List Value} {vs : List V} (F : FnG X.prog X.w X.K X.mg X.base k f fd ps sp) (gd : X.A.guards = some []) (hr : Room k X.A) (hb : Binds X.K fd ps ds) (hd : Vals dvs ds) (hx : Passes CX0 X E)
    (I : Inv X pins σ H s) (r : Vals vs us)
    (h : sp (vs ++ dvs) H Q E) : wpAny (model X.prog X.w) X.A (call (.ref f) us) (EP X pins σ Q) X.xe s := by
  have rr : Vals (vs ++ dvs) (us ++ ds) := r.append hd
  have ll : (us ++ ds).length = ps.length := rr.length.symm.trans (F.len _ _ _ _ h)
  have fin := F.go X.A X.stack s H ⟨us, []⟩ (us ++ ds) (vs ++ dvs) Q E gd hr I.env0 (hb s us I.kIn ll) rr h
  refine wpAny_call (codeAny_mono fin ?_)
  rintro (err | (_ | _ | _ | u)) s' hq
  · exact hx pins σ H s err s' I hq
  · exact hq.elim
  · exact hq.elim
  · exact hq.elim
  · exact I.after hq
theorem pe_callG (F : FnG X.prog X.w X.K X.mg X.base k f fd ps sp) (gd : X.A.guards = some []) (hr : Room k X.A) (hg : Gl X x) (hm : X.mg x = some (.ref f)) (hk : PySem.W.keepIn X.K (.ref f) = true) (hb : Binds X.K fd ps ds) (hd : Vals dvs ds) (hx : Passes CX0 X E)
    (ha : PA X (e :: es) t) (h1 : (x == ("__debug__" : Str)) = false := by decide) (h2 : starEach (e :: es) X.env = (false, eval e X.env) :: starEach es X.env := by rfl) (h3 : (backTo pos (starEach es X.env)).any (·.1) = false := by rfl) : PE X (.Call (.Name x p) (e :: es) [] pos) (tCall sp dvs E t) := by
  constructor
  intro pins s σ H Q I h
  refine wpAny_Call_Name_kw (ld_glob I hg hm (PySem.W.callWith_K (h₀ := X.base) I.ok.mod.kin hk (thn (ha.run pos pins s σ H _ I h) ?_) h2 h3) h1)
  rintro us s1 ⟨vs, H1, I1, r, q⟩
  exact ⟨I1.kIn, go_fn F gd hr hb hd hx I1 r q⟩
end
section
variable {P : Program} {w : World} {K : PySem.W.Frag} {mg mb : Str → Option Value} {k : Nat} {fa a : Addr} {fd : FuncData} {x : Str} {sp : Sp} {s₁ : Shared} {vs : List Value} {ns : List Int}
abbrev Told (s₁ : Shared) : Result → Shared → Prop := fun r s' => r = .ok (.ret (.bool true)) ∧ OldK s₁.heap s'.heap ∧ s'.os = s₁.os ∧ AllBare s'.gens
theorem run_core {H : Hp} (KX : K.In s₁.heap) (hns : s₁.heap.Ns mainGlobals mg) (hb : s₁.heap.Ns builtinsNs mb) (hbb : ∀ y : Str, y ≠ "__name__" → mb y = bootBuiltins y) (hlim : s₁.heap.NoLimit) (hg : s₁.gens = #[])
    (ha : s₁.heap.get? a = some { cls := .type "list", data := .seq vs.toArray }) (hr : Room k callerA)
    (F : ∀ bs : Heap, K.In bs → bs.Ns mainGlobals mg → FnG P w K mg bs k fa fd [x] sp) (hbind : ∀ (s : Shared) (u : Value), BindsTo s fd ⟨[u], []⟩ [(x, u)])
    (hO : Only H) (hsp : sp [.ref a] H (fun v _ => v = .bl true) fun _ _ _ => False) (hok : HOk P w H s₁.heap) (hA : ∀ b u, H b = some u → b = a) (hK : ∀ u, H a = some u → K.lookup a = none) :
    codeAny (model P w) callerA (.call (.ref fa) ⟨[.ref a], []⟩) (Told s₁) s₁ := by
  have away : ∀ {b : Addr} {o : Obj}, s₁.heap.get? b = some o → (∀ ws n, o.data ≠ .seq ws n) → H b = none := by
    intro b o e nd
    cases q : H b with
    | none => rfl
    | some u =>
      have eb := hA b u q
      rw [eb, ha] at e
      exact absurd (congrArg Obj.data (Option.some.inj e)).symm (nd _ _)
  have ns' : ∀ {b : Addr} {m : Str → Option Value}, s₁.heap.Ns b m → (hidT s₁.heap H).Ns b m := by
    rintro b m ⟨o, es, ep, e, dt, r⟩
    exact ⟨o, es, ep, hidT_get e (away e fun ws n z => by rw [dt] at z; cases z), dt, r⟩
  have kb : K.In (hidT s₁.heap H) := by
    intro b o e
    refine hidT_get (KX b o e) ?_
    cases q : H b with
    | none => rfl
    | some u =>
      have eb := hA b u q
      subst eb
      rw [hK u q] at e
      cases e
  have mo : Mod K mg (hidT s₁.heap H) := ⟨kb, ns' hns, ⟨mb, ns' hb, hbb⟩, by obtain ⟨mc, l1, l2⟩ := hlim; exact ⟨mc, ns' l1, l2⟩⟩
  have ev : Env0 P w K mg (hidT s₁.heap H) callerA [] s₁ H := ⟨rfl, mo, fun b o z => of_hidT z, Nat.le_of_eq (hidT_size _ _), trivial, by rintro b ⟨⟩, hok, .of_eq hg⟩
  have go := (F _ kb (ns' hns)).go callerA [] s₁ H ⟨[.ref a], []⟩ [.ref a] [.ref a] _ _ rfl hr ev (hbind s₁ (.ref a)) (.cons rfl .nil) hsp
  refine codeAny_mono go ?_
  rintro (err | (_ | _ | _ | u)) s' h
  · exact (show False by simpa [CR, CX0] using h).elim
  · exact h.elim
  · exact h.elim
  · exact h.elim
  · obtain ⟨v, H', os, bare, un, hok', r', q⟩ := h
    obtain rfl : v = .bl true := q
    obtain rfl : u = Value.bool true := r'
    refine ⟨rfl, OldK.of_keep ?_, os, bare⟩
    intro b o e
    rcases hO b with z | ⟨ob, xs, z⟩
    · exact un.keep b o e z (by rintro ⟨⟩) (by simp)
    · have f1 := (hok b _ z).1
      have f2 := (hok' b _ (un.frzs b ob _ z)).1
      rw [e] at f1
      cases f1
      exact f2
theorem law_callG (KX : K.In s₁.heap) (hns : s₁.heap.Ns mainGlobals mg) (hb : s₁.heap.Ns builtinsNs mb) (hbb : ∀ y : Str, y ≠ "__name__" → mb y = bootBuiltins y) (hlim : s₁.heap.NoLimit) (hg : s₁.gens = #[])
    (ha : s₁.heap.get? a = some { cls := .type "list", data := .seq vs.toArray })
    (hi : IntsAre vs ns) (hl : ns.length ≤ sizeLine) (hr : Room k callerA)
    (F : ∀ bs : Heap, K.In bs → bs.Ns mainGlobals mg → FnG P w K mg bs k fa fd [x] sp) (hbind : ∀ (s : Shared) (u : Value), BindsTo s fd ⟨[u], []⟩ [(x, u)])
    (hsp : ∀ H : Hp, Only H → SqL K H a (ns.map V.int) → sp [.ref a] H (fun v _ => v = .bl true) fun _ _ _ => False) :
    codeAny (model P w) callerA (.call (.ref fa) ⟨[.ref a], []⟩) (Told s₁) s₁ := by
  have rv := vals_ints hi
  have ln := hi.length
  by_cases hk : ∃ o, K.lookup a = some o
  · obtain ⟨o, hk⟩ := hk
    have e := KX a o hk
    rw [ha] at e
    cases e
    have hO : Only (fun _ => none) := fun _ => .inl rfl
    refine run_core (H := fun _ => none) KX hns hb hbb hlim hg ha hr F hbind hO (hsp _ hO (.inr ⟨_, vs.toArray, _, hk, rfl, rfl, rfl, ?_, by simpa using rv⟩)) ?_ ?_ ?_
    · rw [List.size_toArray, ln]
      exact hl
    · intro b u z
      cases z
    · intro b u z
      cases z
    · intro u z
      cases z
  · have hk0 : K.lookup a = none := by
      cases q : K.lookup a with
      | none => rfl
      | some o => exact absurd ⟨o, q⟩ hk
    let fz : HO := .frz { cls := .type "list", data := .seq vs.toArray } (.lst (ns.map V.int))
    let H : Hp := upd (fun _ => none) a fz
    have hO : Only H := by
      intro b
      by_cases e : b = a
      · subst e
        exact .inr ⟨_, _, upd_same⟩
      · exact .inl (upd_ne e)
    have one : ∀ b u, H b = some u → b = a := by
      intro b u z
      by_cases e : b = a
      · exact e
      · rw [show H b = none from upd_ne e] at z
        cases z
    refine run_core (H := H) KX hns hb hbb hlim hg ha hr F hbind hO (hsp _ hO (.inl (.inr ⟨_, upd_same⟩))) ?_ one fun _ _ => hk0
    intro b u z
    have eb := one b u z
    subst eb
    rw [show H b = some fz from upd_same] at z
    cases z
    refine ⟨ha, ?_, vs, _, rv, ha⟩
    rw [List.length_map]
    exact hl
end
theorem walk_ofG {l : PySem.W.OpenLaw} {n k : Nat} {q : Program} {loose : List Str} {XP : (Str → Option Value) → Heap → Prop} {YP : World → Heap → Prop} {d : DefRec} {K : Params → PySem.W.Frag} {sp : PySem.W.Frag → Sp} {x : Str}
    (hn : l.most = some n) (hn2 : n ≤ sizeLine)
    (hdf : d.params.defaults = []) (hr : Room k callerA) (hY : ∀ (w : World) (h : Heap), YP w h → (K w.params).In h)
    (F : ∀ (w : World) (mg : Str → Option Value) (fa : Addr) (h : Heap), (K w.params).In h → h.Ns mainGlobals mg →
      mg d.name = some (.ref fa) → ∃ fd : FuncData, (∀ (s : Shared) (u : Value), BindsTo s fd ⟨[u], []⟩ [(x, u)]) ∧ ∀ bs : Heap, (K w.params).In bs → bs.Ns mainGlobals mg → FnG l.prog w (K w.params) mg bs k fa fd [x] (sp (K w.params)))
    (hsp : ∀ (K : PySem.W.Frag) (H : Hp) (a : Addr) (ns : List Int), ns.length ≤ n → Only H → SqL K H a (ns.map V.int) → sp K [.ref a] H (fun v _ => v = .bl true) fun _ _ _ => False) :
    PySem.W.WalkO q loose XP YP l.row.toRowW d []
      (fun f vs => PySem.call f vs) := by
  refine Att.attach_call hn hdf fun w s0 s1 mg mb fa o pm cd doc a vs ns G Y ho hd hcd hmg hobj hints hlen hg => ?_
  have kk := hY w _ Y
  obtain ⟨fd, h1, h2⟩ := F w mg fa _ kk G.T.g hmg
  exact law_callG kk G.T.g G.T.b G.T.builtins G.T.nolimit hg hobj hints (Nat.le_trans hlen hn2) hr h2 h1 fun H hO hS => hsp _ H a ns hlen hO hS
end
section
open L2 PySem PySem.Spec PyProof.Rows
structure Bn (mg : Str → Option Value) : Prop where
  int_ : mg "int" = none
  str_ : mg "str" = none
  tuple_ : mg "tuple" = none
  list_ : mg "list" = none
  bool_ : mg "bool" = none
  len_ : mg "len" = none
  isinstance_ : mg "isinstance" = none
  all_ : mg "all" = none
  any_ : mg "any" = none
  max_ : mg "max" = none
  min_ : mg "min" = none
  sum_ : mg "sum" = none
  sorted_ : mg "sorted" = none
  repr_ : mg "repr" = none
  range_ : mg "range" = none
  enumerate_ : mg "enumerate" = none
  zip_ : mg "zip" = none
  set_ : mg "set" = none
structure Cl (P : Program) (w : World) (K : PySem.W.Frag) (mg : Str → Option Value) (base : Heap) (k : Nat) (x : Str) (ps : List Str) (sp : Sp) : Prop where
  ex : ∃ (f : Addr) (fd : FuncData), FnOk P w K mg base CX0 k f fd ps sp ∧ mg x = some (.ref f) ∧ PySem.W.keepIn K (.ref f) = true ∧ Binds K fd ps []
structure ClG (P : Program) (w : World) (K : PySem.W.Frag) (mg : Str → Option Value) (base : Heap) (k : Nat) (x : Str) (ps : List Str) (sp : Sp) : Prop where
  ex : ∃ (f : Addr) (fd : FuncData), FnG P w K mg base k f fd ps sp ∧ mg x = some (.ref f) ∧ PySem.W.keepIn K (.ref f) = true ∧ Binds K fd ps []
section
variable {X : Cx} {k k' : Nat} {ps : List Str} {sp : Sp} {E : XK} {x : Str} {p pos : Pos} {e : Expr} {es : List Expr} {t : TA}
theorem pe_c (C : Cl X.prog X.w X.K X.mg X.base k x ps sp) (hr : Room k' X.A) (ha : PA X (e :: es) t) (hg : Gl X x := by rfl) (hk : k ≤ k' := by decide) (h1 : (x == ("__debug__" : Str)) = false := by decide)
    (h2 : starEach (e :: es) X.env = (false, eval e X.env) :: starEach es X.env := by rfl) (h3 : (backTo pos (starEach es X.env)).any (·.1) = false := by rfl) :
    PE X (.Call (.Name x p) (e :: es) [] pos) (tCall sp [] (fun _ _ _ => False) t) := by
  obtain ⟨f, fd, F, hm, kp, b⟩ := C.ex
  exact pe_call F (hr.mono hk) hg hm kp b .nil pass0 ha h1 h2 h3
theorem pe_cG (C : ClG X.prog X.w X.K X.mg X.base k x ps sp) (gd : X.A.guards = some []) (hr : Room k' X.A) (ha : PA X (e :: es) t) (hg : Gl X x := by rfl) (hk : k ≤ k' := by decide) (h1 : (x == ("__debug__" : Str)) = false := by decide)
    (h2 : starEach (e :: es) X.env = (false, eval e X.env) :: starEach es X.env := by rfl) (h3 : (backTo pos (starEach es X.env)).any (·.1) = false := by rfl) :
    PE X (.Call (.Name x p) (e :: es) [] pos) (tCall sp [] (fun _ _ _ => False) t) := by
  obtain ⟨f, fd, F, hm, kp, b⟩ := C.ex
  exact pe_callG F gd (hr.mono hk) hg hm kp b .nil pass0 ha h1 h2 h3
end
structure Dn (K : PySem.W.Frag) (mg : Str → Option Value) (x : String) (st : Stmt) (ps : List Str) : Prop where
  ex : ∃ (f : Addr) (fd : FuncData), Fun K x x st f fd ∧ mg x = some (.ref f) ∧ Binds K fd ps []
section
variable {base : Heap} {P : Program} {w : World} {K : PySem.W.Frag} {mg : Str → Option Value}
theorem Dn.cl {x : String} {st : Stmt} {N ps : List Str} {k : Nat} {sp : Sp} (D : Dn K mg x st ps) (S : FnScope N ps (defScope st)) (len : ∀ vs H Q E, sp vs H Q E → vs.length = ps.length)
    (bd : ∀ (f : Addr) (cdv : Value) (A : Around) (fr : List Env) (s : Shared) (H : Hp) (vs : List V) (Q : VK) (E : XK), Room k (A.deeper (envOfC x (defScope st) s.heap.objs.size f cdv)) → sp vs H Q E →
      ∃ t, PSs (cxOf CX0 P w K mg base N x (defScope st) f cdv A fr s H E).nox (defBody st) t ∧ t { nx := fun _ H' => Q .non H', rt := Q } (start N vs) H) : Cl P w K mg base (k + 1) x ps sp := by
  obtain ⟨f, fd, F, hm, b⟩ := D.ex
  exact ⟨f, fd, F.ok S len (bd f), hm, F.kp, b⟩
theorem Dn.clG {x : String} {st : Stmt} {N ps : List Str} {k : Nat} {sp : Sp} (D : Dn K mg x st ps) (S : FnScope N ps (defScope st)) (len : ∀ vs H Q E, sp vs H Q E → vs.length = ps.length)
    (bd : ∀ (f : Addr) (cdv : Value) (A : Around) (fr : List Env) (s : Shared) (H : Hp) (vs : List V) (Q : VK) (E : XK), A.guards = some [] → Room k (A.deeper (envOfC x (defScope st) s.heap.objs.size f cdv)) → sp vs H Q E →
      ∃ t, PSs (cxOf CX0 P w K mg base N x (defScope st) f cdv A fr s H E).nox (defBody st) t ∧ t { nx := fun _ H' => Q .non H', rt := Q } (start N vs) H) : ClG P w K mg base (k + 1) x ps sp := by
  obtain ⟨f, fd, F, hm, b⟩ := D.ex
  exact ⟨f, fd, okG F S len (bd f), hm, F.kp, b⟩
end
end
section
open L2 PySem PySem.Spec PyProof.Rows
section
variable {X : Cx}
def rInt : List V → Hp → VK → Prop := fun xs H Q => (∃ i, xs = [.int i] ∧ Q (.int i) H) ∨ ∃ k, xs = [.bl k] ∧ Q (.int (if k then 1 else 0)) H
theorem j_int : CallR X (.type "int") rInt := call_int1
def rStrI : List V → Hp → VK → Prop := fun xs H Q => ∃ i : Int, xs = [.int i] ∧ i.natAbs.log2 < 1920 ∧ Q (.str (toString i)) H
theorem j_str : CallR X (.type "str") rStrI := call_str_int
def rTupleOf (K : PySem.W.Frag) : List V → Hp → VK → Prop := fun xs H Q => ∃ p ys, xs = [.ref p] ∧ ((SqL K H p ys ∧ ∀ l, H l = none → Q (.ref l) (upd H l (.tup ys))) ∨ (SqT K H p ys ∧ Q (.ref p) H))
theorem j_tuple (h : CallR X (.type "tuple") (rTupleOf X.K) := by exact call_tuple_of) : CallR X (.type "tuple") (rTupleOf X.K) := h
def rListOf (K : PySem.W.Frag) : List V → Hp → VK → Prop := fun xs H Q => ∃ p ys, xs = [.ref p] ∧ (SqL K H p ys ∨ SqT K H p ys) ∧ ∀ l, H l = none → Q (.ref l) (upd H l (.lst ys))
theorem j_list (h : CallR X (.type "list") (rListOf X.K) := by exact call_list_of) : CallR X (.type "list") (rListOf X.K) := h
def rLenQ (K : PySem.W.Frag) : List V → Hp → VK → Prop := fun xs H Q => ∃ p ys, xs = [.ref p] ∧ (SqL K H p ys ∨ SqT K H p ys) ∧ Q (.int (ys.length : Nat)) H
theorem j_len (h : CallR X (.builtin "len") (rLenQ X.K) := by exact call_len_seq) : CallR X (.builtin "len") (rLenQ X.K) := h
def rMax : List V → Hp → VK → Prop := fun xs H Q => ∃ i j : Int, xs = [.int i, .int j] ∧ Q (.int (if j > i then j else i)) H
theorem j_max (hc : X.calm = true) : CallR X (.builtin "max") rMax := call_max2 hc
def rMin : List V → Hp → VK → Prop := fun xs H Q => ∃ i j : Int, xs = [.int i, .int j] ∧ Q (.int (if j < i then j else i)) H
theorem j_min (hc : X.calm = true) : CallR X (.builtin "min") rMin := call_min2 hc
def rAddS : R2 := fun x y H Q => ∃ i j : Str, x = .str i ∧ y = .str j ∧ i.length + j.length ≤ sizeLine ∧ Q (.str (i ++ j)) H
theorem o_addS : OpR X (binaryOp .Add) rAddS := op_add_str
end
section
variable {σ : L2.St} {H : Hp} {D : Ends} {Q : VK} {QB : Bool → Hp → Prop} {K : PySem.W.Frag}
theorem i_seq {t u : TS} {n : L2.St → Hp → Prop} {r : VK} {b c : L2.St → Hp → Prop} (h : t ⟨u ⟨n, r, b, c⟩, r, b, c⟩ σ H) : tSeq t u ⟨n, r, b, c⟩ σ H := h
theorem i_next {n : L2.St → Hp → Prop} {r : VK} {b c : L2.St → Hp → Prop} (h : n σ H) : tNext ⟨n, r, b, c⟩ σ H := h
theorem i_asg {te : TE} {g : TG} {n : L2.St → Hp → Prop} {r : VK} {b c : L2.St → Hp → Prop} (h : te σ H fun x H1 => g x σ H1 n) : tAsg te g ⟨n, r, b, c⟩ σ H := h
theorem i_gname {i : Nat} {v : V} {q : L2.St → Hp → Prop} (h : q (σ.set i (some v)) H) : gName i v σ H q := h
theorem i_ret {te : TE} {n : L2.St → Hp → Prop} {r : VK} {b c : L2.St → Hp → Prop} (h : te σ H r) : tRet te ⟨n, r, b, c⟩ σ H := h
theorem i_drop {te : TE} {n : L2.St → Hp → Prop} {r : VK} {b c : L2.St → Hp → Prop} (h : te σ H fun _ H1 => n σ H1) : tDrop te ⟨n, r, b, c⟩ σ H := h
theorem i_ifS {k : TT} {t u : TS} {n : L2.St → Hp → Prop} {r : VK} {b c : L2.St → Hp → Prop} (h : k σ H fun d H1 => if d = true then t ⟨n, r, b, c⟩ σ H1 else u ⟨n, r, b, c⟩ σ H1) : tIfS k t u ⟨n, r, b, c⟩ σ H := h
theorem i_test {t : TE} (h : t σ H fun x H' => ∃ k, x = .bl k ∧ QB k H') : tTest t σ H QB := h
theorem i_tB {t : TE} (h : t σ H fun x H' => ∃ k, x = .bl k ∧ QB k H') : tB t σ H QB := h
theorem i_not {t : TT} (h : t σ H fun c H1 => QB (!c) H1) : tNot t σ H QB := h
theorem i_and {t u : TT} (h : t σ H fun c H1 => if c = true then u σ H1 QB else QB false H1) : tAnd t u σ H QB := h
theorem i_or {t u : TT} (h : t σ H fun c H1 => if c = true then QB true H1 else u σ H1 QB) : tOr t u σ H QB := h
theorem i_notV {t : TE} (h : t σ H fun x H1 => ∃ c, x = .bl c ∧ Q (.bl (!c)) H1) : tNotV t σ H Q := h
theorem i_andV {t u : TE} (h : t σ H fun x H1 => ∃ c, x = .bl c ∧ if c = true then u σ H1 Q else Q (.bl false) H1) : tAndV t u σ H Q := h
theorem i_orV {t u : TE} (h : t σ H fun x H1 => ∃ c, x = .bl c ∧ if c = true then Q (.bl true) H1 else u σ H1 Q) : tOrV t u σ H Q := h
theorem i_blQ {b : Bool} {P : Bool → Prop} (h : P b) : ∃ k, V.bl b = .bl k ∧ P k := ⟨b, rfl, h⟩
theorem i_if {t : TT} {a b : TE} (h : t σ H fun c H1 => if c = true then a σ H1 Q else b σ H1 Q) : tIf t a b σ H Q := h
theorem i_op {r : R2} {a b : TE} (h : a σ H fun x H1 => b σ H1 fun y H2 => r x y H2 Q) : tOp r a b σ H Q := h
theorem i_un {r : V → Hp → VK → Prop} {a : TE} (h : a σ H fun x H1 => r x H1 Q) : tUn r a σ H Q := h
theorem i_chain {r r' : R2} {a b c : TE} (h : a σ H fun x H1 => b σ H1 fun y H2 => r x y H2 fun z H3 => ∃ k, z = .bl k ∧ if k = true then c σ H3 fun w' H4 => r' y w' H4 Q else Q (.bl false) H3) : tChain r r' a b c σ H Q := h
theorem i_var {i : Nat} {v : V} (e : σ[i]? = some (some v)) (h : Q v H) : tVar i σ H Q := ⟨v, e, h⟩
theorem i_c {v : V} (h : Q v H) : tC v σ H Q := h
theorem i_rI0 {g : Int → Int → V} {i j : Int} (h : Q (g i j) H) : rI0 g (.int i) (.int j) H Q := ⟨i, j, rfl, rfl, h⟩
theorem i_rI {C : Int → Int → Prop} {g : Int → Int → V} {i j : Int} (c : C i j) (h : Q (g i j) H) : rI C g (.int i) (.int j) H Q := ⟨i, j, rfl, rfl, c, h⟩
theorem i_rU {g : Int → V} {i : Int} (h : Q (g i) H) : rU g (.int i) H Q := ⟨i, rfl, h⟩
theorem i_eqI {i j : Int} (h : Q (.bl (decide (i = j))) H) : rEq (.int i) (.int j) H Q := ⟨rfl, by
  have e : decide (V.int i = V.int j) = decide (i = j) := by
    by_cases z : i = j
    · subst z
      simp
    · rw [decide_eq_false z, decide_eq_false (fun k => z (V.int.inj k))]
  rw [e]
  exact h⟩
theorem i_neI {i j : Int} (h : Q (.bl (decide (i ≠ j))) H) : rNe (.int i) (.int j) H Q := ⟨rfl, by
  have e : (!decide (V.int i = V.int j)) = decide (i ≠ j) := by
    by_cases z : i = j
    · subst z
      simp
    · rw [decide_eq_true z, decide_eq_false (fun k => z (V.int.inj k))]
      rfl
  rw [e]
  exact h⟩
theorem i_eqS {i j : Str} (h : Q (.bl (decide (i = j))) H) : rEq (.str i) (.str j) H Q := ⟨rfl, by
  have e : decide (V.str i = V.str j) = decide (i = j) := by
    by_cases z : i = j
    · subst z
      simp
    · rw [decide_eq_false z, decide_eq_false (fun k => z (V.str.inj k))]
  rw [e]
  exact h⟩
theorem i_neS {i j : Str} (h : Q (.bl (decide (i ≠ j))) H) : rNe (.str i) (.str j) H Q := ⟨rfl, by
  have e : (!decide (V.str i = V.str j)) = decide (i ≠ j) := by
    by_cases z : i = j
    · subst z
      simp
    · rw [decide_eq_true z, decide_eq_false (fun k => z (V.str.inj k))]
      rfl
  rw [e]
  exact h⟩
theorem i_ixL {p : Addr} {xs : List V} {i : Int} {v : V} (e : SqL K H p xs) (z : atI xs i = some v) (h : Q v H) : rIxL K (.ref p) (.int i) H Q := ⟨p, xs, i, v, rfl, rfl, e, z, h⟩
theorem i_ixT {p : Addr} {xs : List V} {i : Int} {v : V} (e : SqT K H p xs) (z : atI xs i = some v) (h : Q v H) : rIxT K (.ref p) (.int i) H Q := ⟨p, xs, i, v, rfl, rfl, e, z, h⟩
theorem i_setL {p : Addr} {xs : List V} {i : Int} {v : V} {j : Nat} {q : Hp → Prop} (e : H p = some (.lst xs)) (z : ixN xs.length i = some j) (h : q (upd H p (.lst (xs.set j v)))) : rSetL (.ref p) (.int i) v H q := ⟨p, xs, i, j, rfl, rfl, e, z, h⟩
theorem i_gsub {to ti : TE} {t : TSet} {v : V} {q : L2.St → Hp → Prop} (h : to σ H fun o H1 => ti σ H1 fun i H2 => t o i v H2 fun H3 => q σ H3) : gSub to ti t v σ H q := h
theorem i_cons {a : TE} {r : TA} {q : List V → Hp → Prop} (h : a σ H fun x H1 => r σ H1 fun xs H2 => q (x :: xs) H2) : tCons a r σ H q := h
theorem i_nil {q : List V → Hp → Prop} (h : q [] H) : tNil σ H q := h
theorem i_cb {r : List V → Hp → VK → Prop} {t : TA} (h : t σ H fun vs H1 => r vs H1 Q) : tCB r t σ H Q := h
theorem i_call {sp : Sp} {E : XK} {t : TA} (h : t σ H fun vs H1 => sp (vs ++ []) H1 Q E) : tCall sp [] E t σ H Q := h
theorem i_tup {t : TA} (h : t σ H fun xs H1 => xs.length ≤ sizeLine ∧ ∀ p, H1 p = none → Q (.ref p) (upd H1 p (.tup xs))) : tTup t σ H Q := h
theorem i_lst {t : TA} (h : t σ H fun xs H1 => xs.length ≤ sizeLine ∧ ∀ p, H1 p = none → Q (.ref p) (upd H1 p (.lst xs))) : tLst t σ H Q := h
theorem i_par {i j : Nat} {ta : TA} {n : L2.St → Hp → Prop} {r : VK} {b c : L2.St → Hp → Prop} (h : ta σ H fun vs H1 => ∃ v w, vs = [v, w] ∧ n ((σ.set i (some v)).set j (some w)) H1) : tPar i j ta ⟨n, r, b, c⟩ σ H := h
theorem i_par' {v w : V} {P : V → V → Prop} (h : P v w) : ∃ a b, [v, w] = [a, b] ∧ P a b := ⟨v, w, rfl, h⟩
theorem i_int {i : Int} (h : Q (.int i) H) : rInt [.int i] H Q := .inl ⟨i, rfl, h⟩
theorem i_intB {b : Bool} (h : Q (.int (if b then 1 else 0)) H) : rInt [.bl b] H Q := .inr ⟨b, rfl, h⟩
theorem i_tupL {p : Addr} {ys : List V} (e : SqL K H p ys) (h : ∀ l, H l = none → Q (.ref l) (upd H l (.tup ys))) : rTupleOf K [.ref p] H Q := ⟨p, ys, rfl, .inl ⟨e, h⟩⟩
theorem i_lstT {p : Addr} {ys : List V} (e : SqT K H p ys) (h : ∀ l, H l = none → Q (.ref l) (upd H l (.lst ys))) : rListOf K [.ref p] H Q := ⟨p, ys, rfl, .inr e, h⟩
theorem i_lenL {p : Addr} {ys : List V} (e : SqL K H p ys) (h : Q (.int (ys.length : Nat)) H) : rLenQ K [.ref p] H Q := ⟨p, ys, rfl, .inl e, h⟩
theorem i_lenT {p : Addr} {ys : List V} (e : SqT K H p ys) (h : Q (.int (ys.length : Nat)) H) : rLenQ K [.ref p] H Q := ⟨p, ys, rfl, .inr e, h⟩
theorem i_all {p : Addr} {bs : List Bool} (e : SqL K H p (bs.map V.bl)) (h : Q (.bl (bs.all id)) H) : rAll K [.ref p] H Q := ⟨p, bs, rfl, e, h⟩
theorem i_max {i j : Int} (h : Q (.int (max i j)) H) : rMax [.int i, .int j] H Q := ⟨i, j, rfl, by
  have e : (if j > i then j else i) = max i j := by
    split <;> omega
  rw [e]
  exact h⟩
theorem i_min {i j : Int} (h : Q (.int (min i j)) H) : rMin [.int i, .int j] H Q := ⟨i, j, rfl, by
  have e : (if j < i then j else i) = min i j := by
    split <;> omega
  rw [e]
  exact h⟩
theorem i_addS {i j : Str} (c : i.length + j.length ≤ sizeLine) (h : Q (.str (i ++ j)) H) : rAddS (.str i) (.str j) H Q := ⟨i, j, rfl, rfl, c, h⟩
theorem i_ite {c : Prop} [Decidable c] {A B : Prop} (h1 : c → A) (h2 : ¬ c → B) : if decide c = true then A else B := by
  by_cases z : c
  · rw [decide_eq_true z, if_pos rfl]
    exact h1 z
  · rw [decide_eq_false z, if_neg Bool.false_ne_true]
    exact h2 z
theorem i_iteN {c : Prop} [Decidable c] {A B : Prop} (h1 : ¬ c → A) (h2 : c → B) : if (!decide c) = true then A else B := by
  by_cases z : c
  · rw [decide_eq_true z, if_neg (by decide)]
    exact h2 z
  · rw [decide_eq_false z, if_pos (by decide)]
    exact h1 z
theorem i_iteT {A B : Prop} (h : A) : if true = true then A else B := by rw [if_pos rfl]; exact h
theorem i_iteF {A B : Prop} (h : B) : if false = true then A else B := by rw [if_neg Bool.false_ne_true]; exact h
theorem sq_lst {p : Addr} {xs : List V} (e : H p = some (.lst xs)) : SqL K H p xs := .inl (.inl e)
theorem sq_tup {p : Addr} {xs : List V} (e : H p = some (.tup xs)) : SqT K H p xs := .inl (.inl e)
theorem at0 {α : Type} {x : α} {xs : List α} : atI (x :: xs) 0 = some x := atI_nat (j := 0) rfl
theorem at1 {α : Type} {x y : α} {xs : List α} : atI (x :: y :: xs) 1 = some y := atI_nat (j := 1) rfl
theorem at2 {α : Type} {x y z : α} {xs : List α} : atI (x :: y :: z :: xs) 2 = some z := atI_nat (j := 2) rfl
theorem ix_nat {n k : Nat} (h : k < n) : ixN n (k : Int) = some k := by
  unfold ixN
  rw [if_pos (by omega), if_pos (by omega)]
  simp
end
end
section
open L2 PySem PySem.Spec PyProof.Rows
section
variable {σ : L2.St} {H : Hp} {D : Ends} {Q : VK} {K : PySem.W.Frag}
theorem i_sl {r : V → Option Int → Option Int → Hp → VK → Prop} {te : TE} {tl th : TO} (h : te σ H fun x H1 => tl σ H1 fun l H2 => th σ H2 fun u H3 => r x l u H3 Q) : tSl r te tl th σ H Q := h
theorem i_npart {q : Option Int → Hp → Prop} (h : q none H) : tNoPart σ H q := h
def partK (q : Option Int → Hp → Prop) : VK := fun x H1 => ∃ i, x = .int i ∧ q (some i) H1
theorem i_part {te : TE} {q : Option Int → Hp → Prop} (h : te σ H (partK q)) : tPart te σ H q := h
theorem i_partI {i : Int} {q : Option Int → Hp → Prop} (h : q (some i) H) : partK q (.int i) H := ⟨i, rfl, h⟩
theorem i_slL {p : Addr} {xs : List V} {lo hi : Option Int} (e : SqL K H p xs) (h : ∀ l, H l = none → Q (.ref l) (upd H l (.lst (cutV xs lo hi)))) : rSlL K (.ref p) lo hi H Q := ⟨p, xs, rfl, e, h⟩
theorem i_slS {z : Str} {lo hi : Option Int} (e : z.length ≤ sizeLine) (h : Q (.str (cutS z lo hi)) H) : rSlS (.str z) lo hi H Q := ⟨z, rfl, e, h⟩
theorem i_bm {T : String} {r : V → List V → Hp → VK → Prop} {to : TE} {t : TA} (h : to σ H fun x H1 => tyV K T x H1 ∧ t σ H1 fun xs H2 => r x xs H2 Q) : tBM K T r to t σ H Q := h
theorem i_tyL {p : Addr} {xs : List V} {A : Prop} (e : SqL K H p xs) (h : A) : tyV K "list" (.ref p) H ∧ A := ⟨.inl ⟨rfl, xs, e⟩, h⟩
theorem i_app {p : Addr} {xs : List V} {y : V} (e : H p = some (.lst xs)) (z : xs.length < sizeLine) (h : Q .non (upd H p (.lst (xs ++ [y])))) : rAppend (.ref p) [y] H Q := ⟨p, xs, y, rfl, rfl, e, z, h⟩
theorem i_popAt {p : Addr} {xs : List V} {k : Nat} {y : V} (e : H p = some (.lst xs)) (b : k < 2 ^ 60) (z : xs[k]? = some y) (h : Q y (upd H p (.lst (xs.eraseIdx k)))) : rPopAt (.ref p) [.int (k : Int)] H Q :=
  ⟨p, xs, k, k, y, rfl, rfl, e, by omega, by omega, by
    have hk := (List.getElem?_eq_some_iff.mp z).1
    exact (ixN_seq (ix_nat hk)).1, z, h⟩
theorem i_ext {p q : Addr} {xs zs : List V} (e : H p = some (.lst xs)) (e2 : H q = some (.lst zs)) (z : xs.length + zs.length ≤ sizeLine) (h : Q .non (upd H p (.lst (xs ++ zs)))) : rExtend (.ref p) [.ref q] H Q := ⟨p, q, xs, zs, rfl, rfl, e, e2, z, h⟩
theorem i_gtup {n : Nat} {t : TGs} {p : Addr} {xs : List V} {q : L2.St → Hp → Prop} (e : SqT K H p xs) (z : xs.length = n) (h : t xs σ H q) : gTup K n t (.ref p) σ H q := ⟨p, xs, rfl, e, z, h⟩
theorem i_gcons {t : TG} {u : TGs} {v : V} {r : List V} {q : L2.St → Hp → Prop} (h : t v σ H fun σ' H' => u r σ' H' q) : gCons t u (v :: r) σ H q := ⟨v, r, rfl, h⟩
theorem i_gnil {q : L2.St → Hp → Prop} (h : q σ H) : gNil [] σ H q := ⟨rfl, h⟩
theorem i_sum {p : Addr} {ns : List Int} (e : SqL K H p (ns.map V.int)) (h : Q (.int ns.sum) H) : rSum K [.ref p] H Q := ⟨p, ns, rfl, e, h⟩
def rIxA (K : PySem.W.Frag) : R2 := fun x y H Q => rIxL K x y H Q ∨ rIxT K x y H Q
theorem ix_any {X : Cx} : IxR X (rIxA X.K) := by
  intro e1 e2 ps st sl hp x y v u Q I r1 r2 h hs
  rcases h with h | h
  · exact ix_list e1 e2 ps st sl hp x y v u Q I r1 r2 h hs
  · exact ix_tup e1 e2 ps st sl hp x y v u Q I r1 r2 h hs
def SqA (K : PySem.W.Frag) (H : Hp) (p : Addr) (xs : List V) : Prop := SqL K H p xs ∨ SqT K H p xs
theorem i_ixA {p : Addr} {xs : List V} {i : Int} {v : V} (e : SqA K H p xs) (z : atI xs i = some v) (h : Q v H) : rIxA K (.ref p) (.int i) H Q := by
  rcases e with e | e
  · exact .inl (i_ixL e z h)
  · exact .inr (i_ixT e z h)
theorem i_lenA {p : Addr} {ys : List V} (e : SqA K H p ys) (h : Q (.int (ys.length : Nat)) H) : rLenQ K [.ref p] H Q := ⟨p, ys, rfl, e, h⟩
theorem i_lstA {p : Addr} {ys : List V} (e : SqA K H p ys) (h : ∀ l, H l = none → Q (.ref l) (upd H l (.lst ys))) : rListOf K [.ref p] H Q := ⟨p, ys, rfl, e, h⟩
theorem perm_erase {α : Type} : ∀ (l : List α) (k : Nat) (h : k < l.length), (l[k] :: l.eraseIdx k).Perm l
  | [], _, h => absurd h (Nat.not_lt_zero _)
  | x :: r, 0, _ => List.Perm.refl _
  | x :: r, k + 1, h => by
    have hk : k < r.length := Nat.lt_of_succ_lt_succ h
    have ih := perm_erase r k hk
    show (r[k] :: x :: r.eraseIdx k).Perm (x :: r)
    exact (List.Perm.swap x r[k] _).trans (ih.cons x)
def forK (g : TG) (tb : TS) (D : Ends) (σ : L2.St) : It → Hp → Prop := fun J h => tFor (fun _ h' R => R J h') g tb D σ h
theorem i_for {wi : TI} {g : TG} {tb : TS} (h : wi σ H (forK g tb D σ)) : tFor wi g tb D σ H := h
def lcK (g : TG) (tt : TT) (te : TE) (vs : List Nat) (σ : L2.St) (Q : VK) : It → Hp → Prop := fun J h => tLc (fun _ h' R => R J h') g tt te vs σ h Q
theorem i_lc {wi : TI} {g : TG} {tt : TT} {te : TE} {vs : List Nat} (h : wi σ H (lcK g tt te vs σ Q)) : tLc wi g tt te vs σ H Q := h
section
variable {R : It → Hp → Prop}
def rgK (R : It → Hp → Prop) : List V → Hp → Prop := fun vs H => ∃ j : Int, vs = [.int j] ∧ -(2 ^ 62) ≤ j ∧ j < 2 ^ 62 ∧ R (Itr 0 j.toNat) H
def rgK2 (R : It → Hp → Prop) : List V → Hp → Prop := fun vs H => ∃ i j : Int, vs = [.int i, .int j] ∧ (-(2 ^ 62) ≤ i ∧ i < 2 ^ 62 ∧ -(2 ^ 62) ≤ j ∧ j < 2 ^ 62) ∧ R (Itr i (j - i).toNat) H
theorem i_rng1 {ta : TA} (h : ta σ H (rgK R)) : iRng1 ta σ H R := h
theorem i_rng2 {ta : TA} (h : ta σ H (rgK2 R)) : iRng2 ta σ H R := h
theorem i_rgK {j : Int} (b : -(2 ^ 62) ≤ j ∧ j < 2 ^ 62) (h : R (Itr 0 j.toNat) H) : rgK R [.int j] H := ⟨j, rfl, b.1, b.2, h⟩
theorem i_rgK2 {i j : Int} (b : -(2 ^ 62) ≤ i ∧ i < 2 ^ 62 ∧ -(2 ^ 62) ≤ j ∧ j < 2 ^ 62) (h : R (Itr i (j - i).toNat) H) : rgK2 R [.int i, .int j] H := ⟨i, j, rfl, b, h⟩
def ilK (K : PySem.W.Frag) (R : It → Hp → Prop) : V → Hp → Prop := fun x H1 => ∃ a, x = .ref a ∧ (∃ xs, SqL K H1 a xs) ∧ R (Itl K a) H1
def itK (K : PySem.W.Frag) (R : It → Hp → Prop) : V → Hp → Prop := fun x H1 => ∃ a, x = .ref a ∧ (∃ xs, SqT K H1 a xs) ∧ R (Itt K a) H1
theorem i_ilist {t : TE} (h : t σ H (ilK K R)) : iList K t σ H R := h
theorem i_itup {t : TE} (h : t σ H (itK K R)) : iTup K t σ H R := h
theorem i_ilK {p : Addr} {xs : List V} (e : SqL K H p xs) (h : R (Itl K p) H) : ilK K R (.ref p) H := ⟨p, rfl, ⟨xs, e⟩, h⟩
theorem i_itK {p : Addr} {xs : List V} (e : SqT K H p xs) (h : R (Itt K p) H) : itK K R (.ref p) H := ⟨p, rfl, ⟨xs, e⟩, h⟩
end
section
variable {g : TG} {tb : TS} {a : Addr} {xs : List V}
variable {n : L2.St → Hp → Prop} {r : VK} {b c : L2.St → Hp → Prop}
theorem f_list (xs : List V) (Pv : Nat → L2.St → Hp → Prop) (h0 : Pv 0 σ H) (hl : ∀ i σ H, i ≤ xs.length → Pv i σ H → SqL K H a xs)
    (hs : ∀ i x σ H, xs[i]? = some x → Pv i σ H → g x σ H fun σ2 H2 => tb ⟨Pv (i + 1), r, n, Pv (i + 1)⟩ σ2 H2) (hd : ∀ σ H, Pv xs.length σ H → n σ H) : forK g tb ⟨n, r, b, c⟩ σ (Itl K a) H := for_list Pv h0 hl hs hd
theorem f_tup (xs : List V) (Pv : Nat → L2.St → Hp → Prop) (h0 : Pv 0 σ H) (hl : ∀ i σ H, i ≤ xs.length → Pv i σ H → SqT K H a xs)
    (hs : ∀ i x σ H, xs[i]? = some x → Pv i σ H → g x σ H fun σ2 H2 => tb ⟨Pv (i + 1), r, n, Pv (i + 1)⟩ σ2 H2) (hd : ∀ σ H, Pv xs.length σ H → n σ H) : forK g tb ⟨n, r, b, c⟩ σ (Itt K a) H := for_tup Pv h0 hl hs hd
theorem f_range {lo : Int} {m : Nat} (Pv : Nat → L2.St → Hp → Prop) (h0 : Pv 0 σ H)
    (hs : ∀ i σ H, i < m → Pv i σ H → g (.int (lo + i)) σ H fun σ2 H2 => tb ⟨Pv (i + 1), r, n, Pv (i + 1)⟩ σ2 H2) (hd : ∀ σ H, Pv m σ H → n σ H) : forK g tb ⟨n, r, b, c⟩ σ (Itr lo m) H := for_range Pv h0 hs hd
end
section
variable {g : TG} {tt : TT} {te : TE} {vs : List Nat} {a : Addr}
def lcE (D : Addr) (N : Hp → Prop) : VK := fun y H4 => ∃ acc, H4 D = some (.lst acc) ∧ acc.length < sizeLine ∧ N (upd H4 D (.lst (acc ++ [y])))
theorem c_list (xs : List V) (Pv : Addr → Nat → Hp → Prop) (h0 : ∀ D, H D = none → Pv D 0 (upd H D (.lst []))) (hl : ∀ D i H, i ≤ xs.length → Pv D i H → SqL K H a xs)
    (hs : ∀ D i x H, xs[i]? = some x → Pv D i H → g x (wipe σ vs) H fun σ2 H2 => wipe σ2 vs = wipe σ vs ∧ tt σ2 H2 fun b H3 => if b = true then te σ2 H3 (lcE D (Pv D (i + 1))) else Pv D (i + 1) H3)
    (hd : ∀ D H, Pv D xs.length H → Q (.ref D) H) : lcK g tt te vs σ Q (Itl K a) H := fun D hD => lc_list (Qd := fun H => Q (.ref D) H) (Pv D) (h0 D hD) (hl D) (hs D) (hd D)
theorem c_tup (xs : List V) (Pv : Addr → Nat → Hp → Prop) (h0 : ∀ D, H D = none → Pv D 0 (upd H D (.lst []))) (hl : ∀ D i H, i ≤ xs.length → Pv D i H → SqT K H a xs)
    (hs : ∀ D i x H, xs[i]? = some x → Pv D i H → g x (wipe σ vs) H fun σ2 H2 => wipe σ2 vs = wipe σ vs ∧ tt σ2 H2 fun b H3 => if b = true then te σ2 H3 (lcE D (Pv D (i + 1))) else Pv D (i + 1) H3)
    (hd : ∀ D H, Pv D xs.length H → Q (.ref D) H) : lcK g tt te vs σ Q (Itt K a) H := fun D hD => lc_tup (Qd := fun H => Q (.ref D) H) (Pv D) (h0 D hD) (hl D) (hs D) (hd D)
theorem c_range {lo : Int} {n : Nat} (Pv : Addr → Nat → Hp → Prop) (h0 : ∀ D, H D = none → Pv D 0 (upd H D (.lst [])))
    (hs : ∀ D i H, i < n → Pv D i H → g (.int (lo + i)) (wipe σ vs) H fun σ2 H2 => wipe σ2 vs = wipe σ vs ∧ tt σ2 H2 fun b H3 => if b = true then te σ2 H3 (lcE D (Pv D (i + 1))) else Pv D (i + 1) H3)
    (hd : ∀ D H, Pv D n H → Q (.ref D) H) : lcK g tt te vs σ Q (Itr lo n) H := fun D hD => lc_range (Qd := fun H => Q (.ref D) H) (Pv D) (h0 D hD) (hs D) (hd D)
theorem upd_upd {h : Hp} {a : Addr} {o u : HO} : upd (upd h a o) a u = upd h a u := by
  funext b
  by_cases e : b = a
  · subst e
    rw [upd_same, upd_same]
  · rw [upd_ne e, upd_ne e, upd_ne e]
theorem i_yes {σ : L2.St} {H : Hp} {q : Bool → Hp → Prop} (h : q true H) : tYes σ H q := h
theorem i_wip {σ2 σ1 : L2.St} {vs : List Nat} {A : Prop} (e : wipe σ2 vs = wipe σ1 vs) (h : A) : wipe σ2 vs = wipe σ1 vs ∧ A := ⟨e, h⟩
theorem i_lcE {D : Addr} {N : Hp → Prop} {acc : List V} {y : V} (e : H D = some (.lst acc)) (z : acc.length < sizeLine) (h : N (upd H D (.lst (acc ++ [y])))) : lcE D N y H := ⟨acc, e, z, h⟩
theorem p_list {v : Nat} (xs : List V) (f : Nat → V) (e : SqL K H a xs) (hz : xs.length ≤ 100000)
    (hs : ∀ D acc i x (N : VK), H D = none → xs[i]? = some x → N (f i) (upd H D (.lst acc)) → te ((wipe σ [v]).set v (some x)) (upd H D (.lst acc)) N)
    (hd : ∀ D, H D = none → Q (.ref D) (upd H D (.lst ((List.range xs.length).map f)))) : lcK (gName v) tYes te [v] σ Q (Itl K a) H := by
  refine c_list xs (fun D i H' => H D = none ∧ H' = upd H D (.lst ((List.range i).map f))) (fun D hD => ⟨hD, rfl⟩) (fun D i H' _ h => ?_) (fun D i x H' hx h => ?_) (fun D H' h => ?_)
  · obtain ⟨hD, rfl⟩ := h
    exact Same.seq (fun b o z => by rw [upd_ne (ne_of_none z hD)]; exact z) e
  · obtain ⟨hD, rfl⟩ := h
    have hi := (List.getElem?_eq_some_iff.mp hx).1
    refine ⟨?_, ?_⟩
    · show List.set (List.set (List.set σ v none) v (some x)) v none = List.set σ v none
      rw [List.set_set, List.set_set]
    · show te _ _ _
      refine hs D _ i x _ hD hx (i_lcE upd_same ?_ ⟨hD, ?_⟩)
      · rw [List.length_map, List.length_range, sizeLine_eq]
        omega
      · rw [upd_upd, List.range_succ, List.map_append]
        rfl
  · obtain ⟨hD, rfl⟩ := h
    exact hd D hD
end
end
end
section
open L2 PySem PySem.Spec PyProof.Rows
def Fd (H : Hp) (a : Addr) (c : Int) : Prop := ∃ x y n : Int, H a = some (.lst [.int x, .int y, .int n]) ∧ 0 ≤ x ∧ 0 ≤ y ∧ y < 10 ^ 39 + 23 ∧ 0 ≤ n ∧ n ≤ c
def Ch (a : Addr) (H H' : Hp) : Prop := ∀ b o, b ≠ a → H b = some o → H' b = some o
section
variable {a b p q : Addr} {c d : Int} {H H1 H2 H' : Hp} {o : HO} {K : PySem.W.Frag} {xs : List V}
theorem Fd.mono (h : Fd H a c) (z : c ≤ d) : Fd H a d := by
  obtain ⟨x, y, n, h1, h2, h3, h4, h5, h6⟩ := h
  exact ⟨x, y, n, h1, h2, h3, h4, h5, by omega⟩
theorem Fd.ne (h : Fd H a c) (n : H q = none) : q ≠ a := by
  obtain ⟨x, y, m, h1, _⟩ := h
  exact fun z => by rw [z, h1] at n; cases n
theorem Fd.upd (h : Fd H a c) (n : a ≠ q) : Fd (upd H q o) a c := by
  obtain ⟨x, y, m, h1, r⟩ := h
  exact ⟨x, y, m, (upd_ne n).trans h1, r⟩
theorem Ch.refl (H : Hp) : Ch a H H := fun _ _ _ h => h
theorem Ch.trans (h : Ch a H H1) (k : Ch a H1 H2) : Ch a H H2 := fun b o n e => k b o n (h b o n e)
theorem Ch.of_same (h : Same H H') : Ch a H H' := fun b o _ e => h b o e
theorem Ch.upd_new (n : H q = none) : Ch a H (upd H q o) := fun b u _ e => by
  rw [upd_ne (ne_of_none e n)]
  exact e
theorem Ch.upd_self : Ch a H (upd H a o) := fun b u n e => by
  rw [upd_ne n]
  exact e
theorem Ch.upd_l (C : Ch a H H2) (n : H q = none) : Ch a H (upd H2 q o) := fun b u nb e => by
  rw [upd_ne (ne_of_none e n)]
  exact C b u nb e
theorem Ch.upd_n (C : Ch a H H2) (n : H2 q = none) : Ch a H (upd H2 q o) := fun b u nb e => by
  have z := C b u nb e
  rw [upd_ne (ne_of_none z n)]
  exact z
theorem i_al {n : Nat} {A : Prop} (z : n ≤ sizeLine) (h : A) : n ≤ sizeLine ∧ A := ⟨z, h⟩
theorem Ch.at (C : Ch a H H') (n : b ≠ a) (e : H b = some o) : H' b = some o := C b o n e
theorem Ch.free (C : Ch a H H') (n : q ≠ a) (e : H' q = none) : H q = none := by
  cases z : H q with
  | none => rfl
  | some o =>
    rw [C q o n z] at e
    cases e
theorem Ch.sqL (C : Ch a H H') (n : p ≠ a) (e : SqL K H p xs) : SqL K H' p xs := by
  rcases e with (e | ⟨o, e⟩) | e
  · exact .inl (.inl (C p _ n e))
  · exact .inl (.inr ⟨o, C p _ n e⟩)
  · exact .inr e
theorem Ch.sqT (C : Ch a H H') (n : p ≠ a) (e : SqT K H p xs) : SqT K H' p xs := by
  rcases e with (e | ⟨o, e⟩) | e
  · exact .inl (.inl (C p _ n e))
  · exact .inl (.inr ⟨o, C p _ n e⟩)
  · exact .inr e
theorem Ch.sqA (C : Ch a H H') (n : p ≠ a) (e : SqA K H p xs) : SqA K H' p xs := by
  rcases e with e | e
  · exact .inl (C.sqL n e)
  · exact .inr (C.sqT n e)
theorem SqA.l (e : SqL K H p xs) : SqA K H p xs := .inl e
theorem SqA.t (e : SqT K H p xs) : SqA K H p xs := .inr e
theorem Same.upd_new (n : H q = none) : Same H (upd H q o) := fun b u e => by
  rw [upd_ne (ne_of_none e n)]
  exact e
theorem sqA_same (C : Same H H') (e : SqA K H p xs) : SqA K H' p xs := by
  rcases e with e | (e | ⟨o, e⟩) | e
  · exact .inl (C.seq e)
  · exact .inr (.inl (.inl (C p _ e)))
  · exact .inr (.inl (.inr ⟨o, C p _ e⟩))
  · exact .inr (.inr e)
end
theorem cube_ok {s : Int} (h0 : 0 ≤ s) (h1 : s < 2 ^ 160) : CMulW s s ∧ CMulW (s * s) s := by
  have a : s.natAbs < 2 ^ 160 := by omega
  exact ⟨wide_mul a a (by decide) (by decide) (by decide), wide_mul (wide_lt a a) a (by decide) (by decide) (by decide)⟩
def nmSign (c : Nat) : Bool := (decide (97 ≤ c) && decide (c ≤ 122)) || (decide (48 ≤ c) && decide (c ≤ 57))
def nmOk (z : Str) : Bool := match z.cps.toList with
  | [] => false
  | c :: r => decide (r.length ≤ 7) && (decide (97 ≤ c) && decide (c ≤ 122)) && r.all nmSign
def IsNames (ns : List Str) : Prop := ns.Nodup ∧ ∀ z ∈ ns, nmOk z = true
theorem IsNames.perm {ns ms : List Str} (h : IsNames ns) (p : ms.Perm ns) : IsNames ms := ⟨p.nodup_iff.mpr h.1, fun z hz => h.2 z (p.mem_iff.mp hz)⟩
theorem IsNames.take {ns : List Str} (h : IsNames ns) (k : Nat) : IsNames (ns.take k) := ⟨h.1.sublist (List.take_sublist _ _), fun z hz => h.2 z (List.mem_of_mem_take hz)⟩
def spDraw : Sp := fun vs H Q _ => ∃ (a : Addr) (m c : Int), vs = [.ref a, .int m] ∧ Fd H a c ∧ 0 < m ∧ m < 1000000 ∧ c < 10 ^ 15 ∧ ∀ (r : Int) (H' : Hp), 0 ≤ r → r < m → Fd H' a (c + 1) → Ch a H H' → Q (.int r) H'
def spFeed (K : PySem.W.Frag) : Sp := fun vs H Q _ => ∃ (a : Addr) (ns : List Int) (k : Int), vs = [.ref a, .int k] ∧ SqL K H a (ns.map V.int) ∧ ns.length ≤ 63 ∧ 0 ≤ k ∧ k ≤ 100 ∧ ∀ (q : Addr) (H' : Hp), H q = none → Fd H' q 0 → Same H H' → Q (.ref q) H'
def spOne (K : PySem.W.Frag) : Sp := fun vs H Q _ => ∃ (a p : Addr) (c : Int) (xs : List V), vs = [.ref a, .ref p] ∧ Fd H a c ∧ SqA K H p xs ∧ p ≠ a ∧ 0 < xs.length ∧ xs.length < 1000000 ∧ c < 10 ^ 15 ∧
  ∀ (v : V) (H' : Hp), v ∈ xs → Fd H' a (c + 1) → Ch a H H' → Q v H'
def spMixed (K : PySem.W.Frag) : Sp := fun vs H Q _ => ∃ (a p : Addr) (c : Int) (xs : List V), vs = [.ref a, .ref p] ∧ Fd H a c ∧ SqA K H p xs ∧ p ≠ a ∧ xs.length ≤ 1000 ∧ c < 10 ^ 14 ∧
  ∀ (q : Addr) (ys : List V) (H' : Hp), ys.Perm xs → H q = none → H' q = some (.lst ys) → Fd H' a (c + 1000) → Ch a H H' → Q (.ref q) H'
def spNames : Sp := fun vs H Q _ => ∃ (a : Addr) (m c : Int), vs = [.ref a, .int m] ∧ Fd H a c ∧ 0 ≤ m ∧ m ≤ 12 ∧ c < 10 ^ 14 ∧
  ∀ (q : Addr) (ns : List Str) (H' : Hp), IsNames ns → (ns.length : Int) = m → H q = none → H' q = some (.lst (ns.map V.str)) → Fd H' a (c + 1000) → Ch a H H' → Q (.ref q) H'
end
section
open L2 PySem PySem.Spec PyProof.Rows
mutual
def tupOnly : PyData → Bool
  | .none | .bool _ | .int _ => true
  | .str _ => true
  | .tuple xs => tupOnlyAll xs
  | .list _ | .dict _ => false
def tupOnlyAll : List PyData → Bool
  | [] => true
  | x :: xs => tupOnly x && tupOnlyAll xs
end
def TK (K : PySem.W.Frag) (H H' : Hp) : Prop := ∀ b xs, SqT K H b xs → SqT K H' b xs
section
variable {K : PySem.W.Frag} {H H1 H2 H' : Hp} {a p q : Addr} {o : HO} {c : Int}
theorem TK.trans (h : TK K H H1) (k : TK K H1 H2) : TK K H H2 := fun b xs e => k b xs (h b xs e)
theorem TK.of_at (h : ∀ b xs, H b = some (.tup xs) → H' b = some (.tup xs)) (k : ∀ b ob xs, H b = some (.frz ob (.tup xs)) → H' b = some (.frz ob (.tup xs))) : TK K H H' := fun b xs e => by
  rcases e with (e | ⟨ob, e⟩) | e
  · exact .inl (.inl (h b xs e))
  · exact .inl (.inr ⟨ob, k b ob xs e⟩)
  · exact .inr e
theorem TK.same (h : Same H H') : TK K H H' := TK.of_at (fun b _ e => h b _ e) fun b _ _ e => h b _ e
theorem TK.new (n : H q = none) : TK K H (upd H q o) := TK.same (Same.upd_new n)
theorem TK.lst {xs : List V} (e : H q = some (.lst xs)) : TK K H (upd H q o) := by
  refine TK.of_at (fun b ys z => ?_) fun b ob ys z => ?_
  · rw [upd_ne (fun w => by rw [w, e] at z; cases z)]
    exact z
  · rw [upd_ne (fun w => by rw [w, e] at z; cases z)]
    exact z
theorem TK.ch (h : Ch a H H') (f : Fd H a c) : TK K H H' := by
  obtain ⟨x, y, n, e, _⟩ := f
  refine TK.of_at (fun b ys z => h b _ (fun w => ?_) z) fun b ob ys z => h b _ (fun w => ?_) z
  · rw [w, e] at z; cases z
  · rw [w, e] at z; cases z
mutual
theorem Dp.tk (h : TK K H H') : ∀ (d : PyData) (v : V), tupOnly d = true → Dp K H v d → Dp K H' v d
  | .none, _, _, e => by cases e; exact .non
  | .bool b, _, _, e => by cases e; exact .bl b
  | .int i, _, _, e => by cases e; exact .int i
  | .str s, _, _, e => by cases e; exact .str s
  | .list _, _, t, _ => by simp [tupOnly] at t
  | .dict _, _, t, _ => by simp [tupOnly] at t
  | .tuple ds, _, t, e => by
    cases e with
    | tup hs ha => exact .tup (h _ _ hs) (DpAll.tk h ds _ (by simpa [tupOnly] using t) ha)
theorem DpAll.tk (h : TK K H H') : ∀ (ds : List PyData) (vs : List V), tupOnlyAll ds = true → DpAll K H vs ds → DpAll K H' vs ds
  | [], _, _, e => by cases e; exact .nil
  | d :: ds, _, t, e => by
    have t' : tupOnly d = true ∧ tupOnlyAll ds = true := by simpa [tupOnlyAll] using t
    cases e with
    | cons e1 e2 => exact .cons (Dp.tk h d _ t'.1 e1) (DpAll.tk h ds _ t'.2 e2)
end
mutual
theorem Dp.same (h : Same H H') : ∀ (d : PyData) (v : V), Dp K H v d → Dp K H' v d
  | .none, _, e => by cases e; exact .non
  | .bool b, _, e => by cases e; exact .bl b
  | .int i, _, e => by cases e; exact .int i
  | .str s, _, e => by cases e; exact .str s
  | .list ds, _, e => by
    cases e with
    | lst hs ha => exact .lst (h.seq hs) (DpAll.same h ds _ ha)
  | .dict _, _, e => by cases e
  | .tuple ds, _, e => by
    cases e with
    | tup hs ha => exact .tup (TK.same h _ _ hs) (DpAll.same h ds _ ha)
theorem DpAll.same (h : Same H H') : ∀ (ds : List PyData) (vs : List V), DpAll K H vs ds → DpAll K H' vs ds
  | [], _, e => by cases e; exact .nil
  | d :: ds, _, e => by
    cases e with
    | cons e1 e2 => exact .cons (Dp.same h d _ e1) (DpAll.same h ds _ e2)
end
theorem DpAll.strs : ∀ (ns : List Str), DpAll K H (ns.map V.str) (ns.map PyData.str)
  | [] => .nil
  | z :: r => .cons (.str z) (DpAll.strs r)
theorem DpAll.app : ∀ {vs us : List V} {ds es : List PyData}, DpAll K H vs ds → DpAll K H us es → DpAll K H (vs ++ us) (ds ++ es)
  | _, _, _, _, .nil, k => k
  | _, _, _, _, .cons h t, k => .cons h (DpAll.app t k)
theorem DpAll.len : ∀ {vs : List V} {ds : List PyData}, DpAll K H vs ds → vs.length = ds.length
  | _, _, .nil => rfl
  | _, _, .cons _ t => congrArg (· + 1) (DpAll.len t)
theorem DpAll.get : ∀ {vs : List V} {ds : List PyData} {i : Nat} {v : V}, DpAll K H vs ds → vs[i]? = some v → ∃ d, ds[i]? = some d ∧ Dp K H v d
  | _, _, 0, _, .cons h _, e => by cases e; exact ⟨_, rfl, h⟩
  | _, _, n + 1, _, .cons _ t, e => DpAll.get (i := n) t (by simpa using e)
theorem DpAll.take : ∀ {vs : List V} {ds : List PyData} (k : Nat), DpAll K H vs ds → DpAll K H (vs.take k) (ds.take k)
  | _, _, 0, _ => .nil
  | _, _, k + 1, .nil => .nil
  | _, _, k + 1, .cons h t => .cons h (DpAll.take k t)
theorem DpAll.strs_inv : ∀ {vs : List V} {ns : List Str}, DpAll K H vs (ns.map PyData.str) → vs = ns.map V.str
  | _, [], .nil => rfl
  | _, z :: r, h => by
    cases h with
    | cons h1 h2 =>
      cases h1
      rw [DpAll.strs_inv h2]
      rfl
theorem DpAll.perm {us vs : List V} (pm : us.Perm vs) : ∀ {ds : List PyData}, DpAll K H vs ds → ∃ es, es.Perm ds ∧ DpAll K H us es := by
  induction pm with
  | nil => intro ds h; exact ⟨ds, .refl _, h⟩
  | cons x _ ih =>
    intro ds h
    cases h with
    | cons h1 h2 =>
      obtain ⟨es, p1, p2⟩ := ih h2
      exact ⟨_ :: es, p1.cons _, .cons h1 p2⟩
  | swap x y l =>
    intro ds h
    cases h with
    | cons h1 h2 =>
      cases h2 with
      | cons h2 h3 => exact ⟨_, .swap _ _ _, .cons h2 (.cons h1 h3)⟩
  | trans _ _ ih1 ih2 =>
    intro ds h
    obtain ⟨es, p1, k1⟩ := ih2 h
    obtain ⟨fs, p2, k2⟩ := ih1 k1
    exact ⟨fs, p2.trans p1, k2⟩
end
def LsD (K : PySem.W.Frag) (H : Hp) (L : Addr) (ds : List PyData) : Prop := ∃ vs, H L = some (.lst vs) ∧ DpAll K H vs ds ∧ tupOnlyAll ds = true
theorem tupOnlyAll_app : ∀ (ds es : List PyData), tupOnlyAll ds = true → tupOnlyAll es = true → tupOnlyAll (ds ++ es) = true
  | [], _, _, k => k
  | d :: ds, es, h, k => by
    have h' : tupOnly d = true ∧ tupOnlyAll ds = true := by simpa [tupOnlyAll] using h
    show (tupOnly d && tupOnlyAll (ds ++ es)) = true
    rw [h'.1, tupOnlyAll_app ds es h'.2 k]
    rfl
section
variable {K : PySem.W.Frag} {H H1 H2 H' : Hp} {a p q L : Addr} {o : HO} {c : Int} {ds : List PyData} {d : PyData} {vs : List V} {y : V}
theorem LsD.nil (e : H L = some (.lst [])) : LsD K H L [] := ⟨[], e, .nil, rfl⟩
theorem LsD.tk (h : LsD K H L ds) (t : TK K H H') (e : ∀ vs, H L = some (.lst vs) → H' L = some (.lst vs)) : LsD K H' L ds := by
  obtain ⟨vs, h1, h2, h3⟩ := h
  exact ⟨vs, e vs h1, DpAll.tk t _ _ h3 h2, h3⟩
theorem LsD.ch (h : LsD K H L ds) (k : Ch a H H') (f : Fd H a c) (n : L ≠ a) : LsD K H' L ds := h.tk (TK.ch k f) fun _ e => k _ _ n e
theorem LsD.new (h : LsD K H L ds) (n : H q = none) : LsD K (upd H q o) L ds := h.tk (TK.new n) fun _ e => (upd_ne (ne_of_none e n)).trans e
theorem LsD.other {us : List V} (h : LsD K H L ds) (e : H q = some (.lst us)) (n : L ≠ q) : LsD K (upd H q o) L ds := h.tk (TK.lst e) fun _ z => (upd_ne n).trans z
theorem LsD.push (e : H L = some (.lst vs)) (h : DpAll K H vs ds) (t : tupOnlyAll ds = true) (hy : Dp K H y d) (td : tupOnly d = true) : LsD K (upd H L (.lst (vs ++ [y]))) L (ds ++ [d]) :=
  ⟨vs ++ [y], upd_same, DpAll.tk (TK.lst e) _ _ (tupOnlyAll_app _ _ t (by show (tupOnly d && true) = true; rw [td]; rfl)) (DpAll.app h (.cons hy .nil)), tupOnlyAll_app _ _ t (by show (tupOnly d && true) = true; rw [td]; rfl)⟩
theorem LsD.ext {us : List V} {es : List PyData} (e : H L = some (.lst vs)) (h : DpAll K H vs ds) (t : tupOnlyAll ds = true) (h2 : DpAll K H us es) (t2 : tupOnlyAll es = true) : LsD K (upd H L (.lst (vs ++ us))) L (ds ++ es) :=
  ⟨vs ++ us, upd_same, DpAll.tk (TK.lst e) _ _ (tupOnlyAll_app _ _ t t2) (DpAll.app h h2), tupOnlyAll_app _ _ t t2⟩
theorem LsD.push2 {x z : V} {dx dz : PyData} (e : H L = some (.lst vs)) (h : DpAll K H vs ds) (t : tupOnlyAll ds = true) (n : H p = none) (hx : Dp K H x dx) (hz : Dp K H z dz) (tx : tupOnly dx = true) (tz : tupOnly dz = true) :
    LsD K (upd (upd H p (.tup [x, z])) L (.lst (vs ++ [.ref p]))) L (ds ++ [.tuple [dx, dz]]) := by
  have t1 : TK K H (upd H p (.tup [x, z])) := TK.new n
  refine LsD.push ((upd_ne (ne_of_none e n)).trans e) (DpAll.tk t1 _ _ t h) t (.tup (xs := [x, z]) (.inl (.inl upd_same)) (.cons (Dp.tk t1 _ _ tx hx) (.cons (Dp.tk t1 _ _ tz hz) .nil))) ?_
  show (tupOnly dx && (tupOnly dz && true)) = true
  rw [tx, tz]
  rfl
end
section
variable {X : Cx}
mutual
/-- data without truths -/
def noB : PyData → Bool
  | .none | .int _ | .str _ => true
  | .tuple xs | .list xs => noBAll xs
  | .bool _ | .dict _ => false
def noBAll : List PyData → Bool
  | [] => true
  | x :: xs => noB x && noBAll xs
end
mutual
theorem eqv_dec : ∀ (d e : PyData), noB d = true → noB e = true → (PyData.eqv d e = true ↔ d = e)
  | .none, e, _, k => by cases e <;> simp_all [PyData.eqv, noB]
  | .bool b, _, h, _ => by simp [noB] at h
  | .int i, e, _, k => by cases e <;> simp_all [PyData.eqv, noB]
  | .str s, e, _, k => by cases e <;> simp_all [PyData.eqv, noB]
  | .dict _, _, h, _ => by simp [noB] at h
  | .list xs, e, h, k => by
    cases e with
    | list ys => simpa [PyData.eqv] using eqvAll_dec xs ys (by simpa [noB] using h) (by simpa [noB] using k)
    | _ => simp_all [PyData.eqv, noB]
  | .tuple xs, e, h, k => by
    cases e with
    | tuple ys => simpa [PyData.eqv] using eqvAll_dec xs ys (by simpa [noB] using h) (by simpa [noB] using k)
    | _ => simp_all [PyData.eqv, noB]
theorem eqvAll_dec : ∀ (ds es : List PyData), noBAll ds = true → noBAll es = true → (PyData.eqvAll ds es = true ↔ ds = es)
  | [], [], _, _ => by simp [PyData.eqvAll]
  | [], _ :: _, _, _ => by simp [PyData.eqvAll]
  | _ :: _, [], _, _ => by simp [PyData.eqvAll]
  | d :: ds, e :: es, h, k => by
    have h' : noB d = true ∧ noBAll ds = true := by simpa [noBAll] using h
    have k' : noB e = true ∧ noBAll es = true := by simpa [noBAll] using k
    have h1 := eqv_dec d e h'.1 k'.1
    have h2 := eqvAll_dec ds es h'.2 k'.2
    simp only [PyData.eqvAll, Bool.and_eq_true, h1, h2, List.cons.injEq]
end
def rInQ (K : PySem.W.Frag) (neg : Bool) : R2 := fun x y H Q => ∃ d ds, Dp K H x d ∧ (Dp K H y (.list ds) ∨ Dp K H y (.tuple ds)) ∧ d.canLay0 = true ∧ PyData.canLayAll0 ds = true ∧ d.depth ≤ 60 ∧ Q (.bl (if neg then !(ds.any fun z => PyData.eqv z d) else ds.any fun z => PyData.eqv z d)) H
theorem o_inQ (hu : X.A.units + 64 < cLine) : OpR X (compareOp .In) (rInQ X.K false) := by
  intro pins s σ H x y v u Q I rx ry h
  obtain ⟨d, ds, hd, he | he, sd, se, hz, q⟩ := h
  · obtain ⟨as, r1⟩ := Dp.reads I d x v hd rx
    obtain ⟨bs, r2⟩ := Dp.reads I (.list ds) y u he ry
    exact SeqAt.in_list_reads r2 r1 se sd (by have := Nat.min_le_right (PyData.depthAll ds) d.depth; omega) ⟨.bl _, H, I, rfl, q⟩
  · obtain ⟨as, r1⟩ := Dp.reads I d x v hd rx
    obtain ⟨bs, r2⟩ := Dp.reads I (.tuple ds) y u he ry
    exact SeqAt.in_tuple_reads r2 r1 se sd (by have := Nat.min_le_right (PyData.depthAll ds) d.depth; omega) ⟨.bl _, H, I, rfl, q⟩
theorem o_notInQ (hu : X.A.units + 64 < cLine) : OpR X (compareOp .NotIn) (rInQ X.K true) := by
  intro pins s σ H x y v u Q I rx ry h
  obtain ⟨d, ds, hd, he | he, sd, se, hz, q⟩ := h
  · obtain ⟨as, r1⟩ := Dp.reads I d x v hd rx
    obtain ⟨bs, r2⟩ := Dp.reads I (.list ds) y u he ry
    exact SeqAt.notIn_list_reads r2 r1 se sd (by have := Nat.min_le_right (PyData.depthAll ds) d.depth; omega) ⟨.bl _, H, I, rfl, q⟩
  · obtain ⟨as, r1⟩ := Dp.reads I d x v hd rx
    obtain ⟨bs, r2⟩ := Dp.reads I (.tuple ds) y u he ry
    exact SeqAt.notIn_tuple_reads r2 r1 se sd (by have := Nat.min_le_right (PyData.depthAll ds) d.depth; omega) ⟨.bl _, H, I, rfl, q⟩
end
end
section
open L2 PySem PySem.Spec PyProof.Rows
def roadD (r : Str × Str) : PyData := .tuple [.str r.1, .str r.2]
def webD (ps : List Str) (rs : List (Str × Str)) : PyData := .tuple [.tuple (ps.map .str), .tuple (rs.map roadD)]
structure IsWeb (ps : List Str) (rs : List (Str × Str)) : Prop where
  names : IsNames ps
  pos : 0 < ps.length
  le8 : ps.length ≤ 8
  le14 : rs.length ≤ 14
  ends : ∀ r ∈ rs, r.1 ∈ ps ∧ r.2 ∈ ps ∧ r.1 ≠ r.2
  uniq : rs.Pairwise fun r s => r ≠ s ∧ r ≠ (s.2, s.1)
section
variable {σ : L2.St} {H : Hp} {Q : VK} {K : PySem.W.Frag}
theorem inV_strs {z : Str} {ns : List Str} : inV (.str z) (ns.map V.str) = decide (z ∈ ns) := by
  unfold inV
  induction ns with
  | nil => rfl
  | cons y r ih =>
    rw [List.map_cons, List.any_cons, ih]
    have e : eqV (V.str y) (V.str z) = decide (z = y) := by
      by_cases h : z = y
      · subst h
        simp [eqV]
      · rw [decide_eq_false h]
        simp [eqV]
        exact fun k => h k.symm
    rw [e]
    by_cases h : z = y
    · subst h
      simp
    · simp [h]
theorem flat_str {ns : List Str} : (ns.map V.str).all flatV = true := by
  induction ns with
  | nil => rfl
  | cons y r ih =>
    rw [List.map_cons, List.all_cons, ih]
    rfl
theorem i_inS {z : Str} {p : Addr} {ns : List Str} (e : SqA K H p (ns.map V.str)) (h : Q (.bl (decide (z ∈ ns))) H) : rIn K false (.str z) (.ref p) H Q :=
  ⟨p, ns.map V.str, rfl, e, rfl, flat_str, by
    rw [inV_strs]
    exact h⟩
theorem i_cut {te : TE} (P : V → Hp → Prop) (main : ∀ Q' : VK, (∀ v H', P v H' → Q' v H') → te σ H Q') (rest : ∀ v H', P v H' → Q v H') : te σ H Q := main Q rest
theorem i_cutS {t : TS} {n : L2.St → Hp → Prop} {r : VK} {b c : L2.St → Hp → Prop} (P : L2.St → Hp → Prop) (main : ∀ N : L2.St → Hp → Prop, (∀ σ' H', P σ' H' → N σ' H') → t ⟨N, r, b, c⟩ σ H) (rest : ∀ σ' H', P σ' H' → n σ' H') : t ⟨n, r, b, c⟩ σ H := main n rest
theorem i_iteB {b : Bool} {A B : Prop} (h1 : b = true → A) (h2 : b = false → B) : if b = true then A else B := by
  cases b
  · exact h2 rfl
  · exact h1 rfl
end
def pairD (p : Nat × Nat) : PyData := .tuple [.int p.1, .int p.2]
theorem pairs_any (pl : List (Nat × Nat)) (p : Nat × Nat) : ((pl.map pairD).any fun z => PyData.eqv z (pairD p)) = decide (p ∈ pl) := by
  induction pl with
  | nil => rfl
  | cons x r ih =>
    rw [List.map_cons, List.any_cons, ih]
    have e : PyData.eqv (pairD x) (pairD p) = decide (p = x) := by
      have h := eqv_dec (pairD x) (pairD p) rfl rfl
      by_cases k : p = x
      · subst k
        rw [decide_eq_true rfl]
        exact h.mpr rfl
      · rw [decide_eq_false k]
        cases q : PyData.eqv (pairD x) (pairD p) with
        | false => rfl
        | true =>
          have z := h.mp q
          simp only [pairD, PyData.tuple.injEq, List.cons.injEq, PyData.int.injEq, and_true] at z
          exact absurd (Prod.ext (Int.ofNat.inj z.1.symm) (Int.ofNat.inj z.2.symm)) k
    rw [e]
    by_cases k : p = x
    · subst k
      simp
    · simp [k]
theorem pairs_lay (pl : List (Nat × Nat)) : PyData.canLayAll0 (pl.map pairD) = true := by
  induction pl with
  | nil => rfl
  | cons x r ih =>
    rw [List.map_cons]
    show ((pairD x).canLay0 && PyData.canLayAll0 (r.map pairD)) = true
    rw [ih]
    rfl
theorem pairs_only (pl : List (Nat × Nat)) : tupOnlyAll (pl.map pairD) = true := by
  induction pl with
  | nil => rfl
  | cons x r ih =>
    rw [List.map_cons]
    show (tupOnly (pairD x) && tupOnlyAll (r.map pairD)) = true
    rw [ih]
    rfl
theorem roads_only (rs : List (Str × Str)) : tupOnlyAll (rs.map roadD) = true := by
  induction rs with
  | nil => rfl
  | cons x r ih =>
    rw [List.map_cons]
    show (tupOnly (roadD x) && tupOnlyAll (r.map roadD)) = true
    rw [ih]
    rfl
theorem strs_only (ns : List Str) : tupOnlyAll (ns.map PyData.str) = true := by
  induction ns with
  | nil => rfl
  | cons x r ih =>
    rw [List.map_cons]
    show (tupOnly (.str x) && tupOnlyAll (r.map PyData.str)) = true
    rw [ih]
    rfl
theorem web_only (ps : List Str) (rs : List (Str × Str)) : tupOnly (webD ps rs) = true := by
  show (tupOnlyAll (ps.map PyData.str) && (tupOnlyAll (rs.map roadD) && true)) = true
  rw [strs_only, roads_only]
  rfl
theorem perm_map_inv {α β : Type} {f : α → β} {es ms : List β} (h : es.Perm ms) : ∀ {l : List α}, ms = l.map f → ∃ l' : List α, l'.Perm l ∧ es = l'.map f := by
  induction h with
  | nil => intro l e; exact ⟨[], by rw [List.map_eq_nil_iff.mp e.symm], rfl⟩
  | cons x _ ih =>
    intro l e
    match l, e with
    | y :: r, e =>
      rw [List.map_cons, List.cons.injEq] at e
      obtain ⟨l', p, q⟩ := ih e.2
      exact ⟨y :: l', p.cons y, by rw [List.map_cons, e.1, q]⟩
  | swap x y k =>
    intro l e
    match l, e with
    | u :: v :: r, e =>
      rw [List.map_cons, List.map_cons, List.cons.injEq, List.cons.injEq] at e
      exact ⟨v :: u :: r, .swap _ _ _, by rw [List.map_cons, List.map_cons, e.1, e.2.1, e.2.2]⟩
    | [_], e => cases e
  | trans _ _ ih1 ih2 =>
    intro l e
    obtain ⟨l1, p1, q1⟩ := ih2 e
    obtain ⟨l2, p2, q2⟩ := ih1 q1
    exact ⟨l2, p2.trans p1, q2⟩
def RoadOf (ns : List Str) (p : Nat × Nat) (r : Str × Str) : Prop := (ns[p.1]? = some r.1 ∧ ns[p.2]? = some r.2) ∨ (ns[p.1]? = some r.2 ∧ ns[p.2]? = some r.1)
theorem nodup_at {α : Type} {l : List α} (h : l.Nodup) {i j : Nat} {x : α} (a : l[i]? = some x) (b : l[j]? = some x) : i = j := by
  obtain ⟨ha, ea⟩ := List.getElem?_eq_some_iff.mp a
  obtain ⟨hb, eb⟩ := List.getElem?_eq_some_iff.mp b
  exact (List.getElem_inj h).mp (ea.trans eb.symm)
theorem web_of {ns ps : List Str} {pl : List (Nat × Nat)} {rs : List (Str × Str)} (hn : IsNames ns) (pm : ps.Perm ns) (h0 : 0 < ns.length) (h8 : ns.length ≤ 8) (nd : pl.Nodup) (lt : ∀ p ∈ pl, p.1 < p.2) (l14 : pl.length ≤ 14) (len : rs.length = pl.length)
    (ro : ∀ (k : Nat) p r, pl[k]? = some p → rs[k]? = some r → RoadOf ns p r) : IsWeb ps rs := by
  have at_ : ∀ {k : Nat} {r : Str × Str}, rs[k]? = some r → ∃ p, pl[k]? = some p ∧ RoadOf ns p r := by
    intro k r h
    have hk : k < pl.length := len ▸ (List.getElem?_eq_some_iff.mp h).1
    exact ⟨pl[k], List.getElem?_eq_getElem hk, ro k _ r (List.getElem?_eq_getElem hk) h⟩
  have mem : ∀ {i : Nat} {z : Str}, ns[i]? = some z → z ∈ ps := fun h => pm.mem_iff.mpr (List.mem_of_getElem? h)
  refine ⟨hn.perm pm, by rw [pm.length_eq]; exact h0, by rw [pm.length_eq]; exact h8, by omega, fun r hr => ?_, ?_⟩
  · obtain ⟨k, hk⟩ := List.getElem?_of_mem hr
    obtain ⟨p, hp, q⟩ := at_ hk
    have hlt := lt p (List.mem_of_getElem? hp)
    have ne : ∀ {i j : Nat} {x y : Str}, ns[i]? = some x → ns[j]? = some y → i ≠ j → x ≠ y := fun a b n e => n (nodup_at hn.1 a (e ▸ b))
    rcases q with ⟨q1, q2⟩ | ⟨q1, q2⟩
    · exact ⟨mem q1, mem q2, ne q1 q2 (by omega)⟩
    · exact ⟨mem q2, mem q1, ne q2 q1 (by omega)⟩
  · rw [(List.pairwise_iff_getElem)]
    intro i j hi hj hij
    obtain ⟨p, hp, q⟩ := at_ (List.getElem?_eq_getElem hi)
    obtain ⟨p', hp', q'⟩ := at_ (List.getElem?_eq_getElem hj)
    have hlt := lt p (List.mem_of_getElem? hp)
    have hlt' := lt p' (List.mem_of_getElem? hp')
    have key : p ≠ p' := fun e => by
      have := nodup_at nd hp (e ▸ hp')
      omega
    have inj : ∀ {a b : Nat} {x : Str}, ns[a]? = some x → ns[b]? = some x → a = b := fun a b => nodup_at hn.1 a b
    have cross : ∀ {x y : Str}, (ns[p.1]? = some x ∧ ns[p.2]? = some y) → (ns[p'.1]? = some x ∧ ns[p'.2]? = some y) → False := fun a b => key (Prod.ext (inj a.1 b.1) (inj a.2 b.2))
    have anti : ∀ {x y : Str}, (ns[p.1]? = some x ∧ ns[p.2]? = some y) → (ns[p'.1]? = some y ∧ ns[p'.2]? = some x) → False := fun a b => by
      have h1 := inj a.1 b.2
      have h2 := inj a.2 b.1
      omega
    constructor
    · intro e
      rw [e] at q
      rcases q with q | q <;> rcases q' with q' | q'
      · exact cross q q'
      · exact anti q q'
      · exact anti q q'
      · exact cross q q'
    · intro e
      rw [e] at q
      rcases q with q | q <;> rcases q' with q' | q'
      · exact anti q q'
      · exact cross q q'
      · exact cross q q'
      · exact anti q q'
theorem nm_of {z : Str} {c : Nat} {r : List Nat} (e : z.cps.toList = c :: r) (h7 : r.length ≤ 7) (hc : 97 ≤ c ∧ c ≤ 122) (hr : ∀ x ∈ r, nmSign x = true) : nmOk z = true := by
  unfold nmOk
  rw [e]
  simp only [Bool.and_eq_true, decide_eq_true_eq, List.all_eq_true]
  exact ⟨⟨h7, hc⟩, hr⟩
theorem sl_of {c : Nat} (hc : 97 ≤ c ∧ c ≤ 122) : nmSign c = true := by
  unfold nmSign
  simp only [Bool.or_eq_true, Bool.and_eq_true, decide_eq_true_eq]
  exact .inl hc
theorem app_cps (x y : Str) : (x ++ y).cps.toList = x.cps.toList ++ y.cps.toList := by
  show (x.cps ++ y.cps).toList = _
  simp
theorem cut_cps (z : Str) (k : Nat) : (cutS z none (some (k : Int))).cps.toList = z.cps.toList.take k := by
  unfold cutS
  rw [HT.sIx_none, HT.sIx_nat]
  show ((z.cps.toList.drop 0).take (min k z.length - 0)).toArray.toList = _
  have : z.length = z.cps.toList.length := by
    show z.cps.size = _
    simp
  rw [this]
  rw [List.drop_zero, Nat.sub_zero]
  show List.take (min k z.cps.toList.length) z.cps.toList = _
  by_cases h : k ≤ z.cps.toList.length
  · rw [Nat.min_eq_left h]
  · rw [Nat.min_eq_right (by omega), List.take_of_length_le (by omega), List.take_of_length_le (by omega)]
theorem str_ext {x y : Str} (h : x.cps.toList = y.cps.toList) : x = y := by
  obtain ⟨a⟩ := x
  obtain ⟨b⟩ := y
  congr 1
  exact Array.toList_inj.mp h
def abc : Str := "abcdefghijklmnopqrstuvwxyz"
theorem abc_at : ∀ k : Nat, k < 26 → abc.cps[k]? = some (97 + k) := by decide +kernel
def rItS : R2 := fun x y H Q => ∃ (z : Str) (i : Int) (c : Nat), x = .str z ∧ y = .int i ∧ 0 ≤ i ∧ i < 2 ^ 63 ∧ i < z.length ∧ z.cps[i.toNat]? = some c ∧ Q (.str ⟨#[c]⟩) H
theorem pe_its {X : Cx} {e b : Expr} {ta tb : TE} {pos : Pos} (ha : PE X e ta) (hb : PE X b tb) (hs : PlainIxT b) : PE X (.Subscript e b pos) (tOp rItS ta tb) := pe_item_str ha hb hs
theorem i_abc {i : Int} {H : Hp} {Q : VK} (h0 : 0 ≤ i) (h1 : i < 26) (h : Q (.str ⟨#[97 + i.toNat]⟩) H) : rItS (.str abc) (.int i) H Q :=
  ⟨abc, i, 97 + i.toNat, rfl, rfl, h0, by omega, by show i < 26; exact h1, abc_at _ (by omega), h⟩
def NmBy (ns : List Str) (sh : Nat → Str → Prop) : Prop := ∀ (k : Nat) (z : Str), ns[k]? = some z → sh k z
theorem NmBy.nil {sh : Nat → Str → Prop} : NmBy [] sh := fun k z h => by simp at h
theorem NmBy.snoc {ns : List Str} {sh : Nat → Str → Prop} {z : Str} (h : NmBy ns sh) (hz : sh ns.length z) : NmBy (ns ++ [z]) sh := fun k y hy => by
  by_cases hk : k < ns.length
  · rw [List.getElem?_append_left hk] at hy
    exact h k y hy
  · rw [List.getElem?_append_right (by omega)] at hy
    cases e : k - ns.length with
    | succ m => rw [e] at hy; simp at hy
    | zero =>
      rw [e] at hy
      have : z = y := by simpa using hy
      subst this
      have : k = ns.length := by omega
      rw [this]
      exact hz
theorem NmBy.names {ns : List Str} {sh : Nat → Str → Prop} {n : Nat} (h : NmBy ns sh) (hl : ns.length = n) (ok : ∀ k z, k < n → sh k z → nmOk z = true) (inj : ∀ k l z, k < l → l < n → sh k z → sh l z → False) : IsNames ns := by
  refine ⟨?_, fun z hz => ?_⟩
  · rw [List.nodup_iff_pairwise_ne, List.pairwise_iff_getElem]
    intro i j hi hj hij e
    have a := h i _ (List.getElem?_eq_getElem hi)
    have b := h j _ (List.getElem?_eq_getElem hj)
    rw [← e] at b
    exact inj i j _ hij (by omega) a b
  · obtain ⟨k, hk⟩ := List.getElem?_of_mem hz
    have := (List.getElem?_eq_some_iff.mp hk).1
    exact ok k z (by omega) (h k z hk)
def sh1 (s : Nat) (k : Nat) (z : Str) : Prop := ∃ r, z.cps.toList = (97 + (s + 3 * k) % 26) :: r ∧ r.length ≤ 7 ∧ ∀ x ∈ r, nmSign x = true
def sh2 (st : List Nat) (s : Nat) (k : Nat) (z : Str) : Prop := z.cps.toList = st ++ [97 + (s + k) % 26]
def sh3 (s : Nat) (k : Nat) (z : Str) : Prop := z.cps.toList = (97 + s) :: List.replicate k 48
theorem names1 {ns : List Str} {s n : Nat} (h : NmBy ns (sh1 s)) (hl : ns.length = n) (h8 : n ≤ 8) : IsNames ns := by
  refine h.names hl (fun k z hk q => ?_) (fun k l z hkl hln a b => ?_)
  · obtain ⟨r, e, e7, er⟩ := q
    exact nm_of e e7 (by omega) er
  · obtain ⟨r, e, _⟩ := a
    obtain ⟨r', e', _⟩ := b
    rw [e] at e'
    have := (List.cons.inj e').1
    omega
theorem names2 {ns : List Str} {st : List Nat} {s n : Nat} (hst : ∃ c r, st = c :: r ∧ r.length ≤ 6 ∧ (97 ≤ c ∧ c ≤ 122) ∧ ∀ x ∈ r, nmSign x = true) (h : NmBy ns (sh2 st s)) (hl : ns.length = n) (h8 : n ≤ 8) : IsNames ns := by
  obtain ⟨c, r, rfl, h6, hc, hr⟩ := hst
  refine h.names hl (fun k z hk q => ?_) (fun k l z hkl hln a b => ?_)
  · refine nm_of (r := r ++ [97 + (s + k) % 26]) q (by rw [List.length_append]; show r.length + 1 ≤ 7; omega) hc fun x hx => ?_
    rcases List.mem_append.mp hx with hx | hx
    · exact hr x hx
    · rcases List.mem_singleton.mp hx with rfl
      exact sl_of (by omega)
  · have e : (c :: r) ++ [97 + (s + k) % 26] = (c :: r) ++ [97 + (s + l) % 26] := a.symm.trans b
    have := List.append_cancel_left e
    have := (List.cons.inj this).1
    omega
theorem names3 {ns : List Str} {s n : Nat} (hs : s < 26) (h : NmBy ns (sh3 s)) (hl : ns.length = n) (h8 : n ≤ 8) : IsNames ns := by
  refine h.names hl (fun k z hk q => ?_) (fun k l z hkl hln a b => ?_)
  · refine nm_of (r := List.replicate k 48) q (by rw [List.length_replicate]; omega) (by omega) fun x hx => ?_
    rw [(List.mem_replicate.mp hx).2]
    decide
  · have e := a.symm.trans b
    have := congrArg List.length e
    simp at this
    omega
def stOk (l : List Nat) : Bool := match l with
  | [] => false
  | c :: r => decide (r.length ≤ 6) && (decide (97 ≤ c) && decide (c ≤ 122)) && r.all nmSign
theorem stOk_is {l : List Nat} (h : stOk l = true) : ∃ c r, l = c :: r ∧ r.length ≤ 6 ∧ (97 ≤ c ∧ c ≤ 122) ∧ ∀ x ∈ r, nmSign x = true := by
  match l, h with
  | c :: r, h =>
    unfold stOk at h
    simp only [Bool.and_eq_true, decide_eq_true_eq, List.all_eq_true] at h
    exact ⟨c, r, rfl, h.1.1, h.1.2, h.2⟩
theorem stems_ok : ∀ m : Nat, m < 7 → stOk (("q7x0abc" : Str).cps.toList.take (1 + m)) = true := by decide +kernel
theorem tails_ok : ∀ m : Nat, m < 8 → (("z9a0b1c" : Str).cps.toList.take m).all nmSign = true := by decide +kernel
theorem noughts_ok : ∀ m : Nat, m < 8 → ("0000000" : Str).cps.toList.take m = List.replicate m 48 := by decide +kernel
theorem len_add (x y : Str) : x.length + y.length = (x ++ y).cps.toList.length := by
  rw [app_cps, List.length_append]
  show x.cps.size + y.cps.size = _
  simp
theorem one_cps (k : Nat) : (⟨#[k]⟩ : Str).cps.toList = [k] := rfl
theorem name1_cps (s j x : Nat) : ((⟨#[97 + (((s : Int) + 3 * (j : Int)) % 26).toNat]⟩ : Str) ++ cutS "z9a0b1c" none (some (x : Int))).cps.toList = (97 + (s + 3 * j) % 26) :: ("z9a0b1c" : Str).cps.toList.take x := by
  rw [app_cps, cut_cps, one_cps]
  have e : (((s : Int) + 3 * (j : Int)) % 26).toNat = (s + 3 * j) % 26 := by omega
  rw [e]
  rfl
theorem name2_cps (S : Str) (s j : Nat) : (S ++ (⟨#[97 + (((s : Int) + (j : Int)) % 26).toNat]⟩ : Str)).cps.toList = S.cps.toList ++ [97 + (s + j) % 26] := by
  rw [app_cps, one_cps]
  have e : (((s : Int) + (j : Int)) % 26).toNat = (s + j) % 26 := by omega
  rw [e]
theorem name3_cps (s j : Nat) (h : j < 8) : ((⟨#[97 + ((s : Int)).toNat]⟩ : Str) ++ cutS "0000000" none (some (j : Int))).cps.toList = (97 + s) :: List.replicate j 48 := by
  rw [app_cps, cut_cps, one_cps, noughts_ok j h]
  rfl
theorem tail_is {x : Nat} (h : x < 8) : (("z9a0b1c" : Str).cps.toList.take x).length ≤ 7 ∧ ∀ y ∈ ("z9a0b1c" : Str).cps.toList.take x, nmSign y = true :=
  ⟨by rw [List.length_take]; exact Nat.le_trans (Nat.min_le_right _ _) (by decide), List.all_eq_true.mp (tails_ok x h)⟩
end
section
open L2 PySem PySem.Spec PyProof.Rows
def isRoad (rs : List (Str × Str)) (x y : Str) : Bool := decide ((x, y) ∈ rs) || decide ((y, x) ∈ rs)
def nearL (ps : List Str) (rs : List (Str × Str)) (x : Str) : List Str := ps.filter fun y => isRoad rs x y
theorem nmOk_str {z : Str} (h : nmOk z = true) : PyData.strOk z = true := by
  unfold nmOk at h
  split at h
  · cases h
  · rename_i c r e
    simp only [Bool.and_eq_true, decide_eq_true_eq, List.all_eq_true] at h
    unfold PyData.strOk
    rw [← Array.all_toList, e, List.all_eq_true]
    intro x hx
    rcases List.mem_cons.mp hx with rfl | hx
    · simp; omega
    · have := h.2 x hx
      unfold nmSign at this
      simp only [Bool.or_eq_true, Bool.and_eq_true, decide_eq_true_eq] at this
      simp; omega
theorem strs_lay {ns : List Str} (h : ∀ z ∈ ns, nmOk z = true) : PyData.canLayAll0 (ns.map PyData.str) = true := by
  induction ns with
  | nil => rfl
  | cons x r ih =>
    show (PyData.canLay0 (.str x) && PyData.canLayAll0 (r.map PyData.str)) = true
    rw [ih fun z hz => h z (List.mem_cons_of_mem _ hz)]
    show (PyData.strOk x && true) = true
    rw [nmOk_str (h x List.mem_cons_self)]
    rfl
theorem road_lay {r : Str × Str} (h1 : nmOk r.1 = true) (h2 : nmOk r.2 = true) : (roadD r).canLay0 = true := by
  show (PyData.strOk r.1 && (PyData.strOk r.2 && true)) = true
  rw [nmOk_str h1, nmOk_str h2]
  rfl
theorem roads_lay {ps : List Str} {rs : List (Str × Str)} (W : IsWeb ps rs) : PyData.canLayAll0 (rs.map roadD) = true := by
  have all : ∀ l : List (Str × Str), (∀ r ∈ l, r ∈ rs) → PyData.canLayAll0 (l.map roadD) = true := by
    intro l
    induction l with
    | nil => intro _; rfl
    | cons x r ih =>
      intro h
      show ((roadD x).canLay0 && PyData.canLayAll0 (r.map roadD)) = true
      have hx := W.ends x (h x List.mem_cons_self)
      rw [ih fun z hz => h z (List.mem_cons_of_mem _ hz), road_lay (W.names.2 _ hx.1) (W.names.2 _ hx.2.1)]
      rfl
  exact all rs fun _ h => h
theorem roads_any (rs : List (Str × Str)) (p : Str × Str) : ((rs.map roadD).any fun z => PyData.eqv z (roadD p)) = decide (p ∈ rs) := by
  induction rs with
  | nil => rfl
  | cons x r ih =>
    rw [List.map_cons, List.any_cons, ih]
    have h := eqv_dec (roadD x) (roadD p) rfl rfl
    have e : PyData.eqv (roadD x) (roadD p) = decide (p = x) := by
      by_cases k : p = x
      · subst k
        rw [decide_eq_true rfl]
        exact h.mpr rfl
      · rw [decide_eq_false k]
        cases q : PyData.eqv (roadD x) (roadD p) with
        | false => rfl
        | true =>
          have z := h.mp q
          simp only [roadD, PyData.tuple.injEq, List.cons.injEq, PyData.str.injEq, and_true] at z
          exact absurd (Prod.ext z.1.symm z.2.symm) k
    rw [e]
    by_cases k : p = x
    · subst k
      simp
    · simp [k]
theorem web_parts {K : PySem.W.Frag} {H : Hp} {v : V} {ps : List Str} {rs : List (Str × Str)} (h : Dp K H v (webD ps rs)) : ∃ (t tp tr : Addr) (xs : List V), v = .ref t ∧ SqT K H t [.ref tp, .ref tr] ∧ SqT K H tp (ps.map V.str) ∧ SqT K H tr xs ∧ DpAll K H xs (rs.map roadD) ∧
    Dp K H (.ref tr) (.tuple (rs.map roadD)) ∧ Dp K H (.ref tp) (.tuple (ps.map .str)) := by
  unfold webD at h
  cases h with
  | tup hs ha =>
    cases ha with
    | cons g1 g2 =>
      cases g2 with
      | cons g3 g4 =>
        cases g4
        have g1' := g1
        have g3' := g3
        cases g1 with
        | tup s1 a1 =>
          cases g3 with
          | tup s3 a3 =>
            have e := DpAll.strs_inv a1
            subst e
            exact ⟨_, _, _, _, rfl, hs, s1, s3, a3, g3', g1'⟩
def spNear (K : PySem.W.Frag) : Sp := fun vs H Q _ => ∃ (v : V) (x : Str) (ps : List Str) (rs : List (Str × Str)), vs = [v, .str x] ∧ Dp K H v (webD ps rs) ∧ IsWeb ps rs ∧ x ∈ ps ∧
  ∀ (p : Addr) (H' : Hp), H p = none → Same H H' → H' p = some (.lst ((nearL ps rs x).map V.str)) → Q (.ref p) H'
section
variable {σ : L2.St} {H : Hp} {Q : VK} {K : PySem.W.Frag}
def lrgK (Q : VK) : VK := fun x H1 => ∃ n, x = .int n ∧ (RgOk 0 n ∧ ∀ q, H1 q = none → Q (.ref q) (upd H1 q (.lst (rgV 0 n))))
theorem i_lrg {ta : TE} (h : ta σ H (lrgK Q)) : tLstRg (tRg1 ta) σ H Q := h
theorem i_lrgK {n : Nat} (z : n ≤ 100000) (h : ∀ q, H q = none → Q (.ref q) (upd H q (.lst ((List.range n).map fun i => V.int ((i : Nat) : Int))))) : lrgK Q (.int (n : Int)) H := by
  refine ⟨n, rfl, RgOk.of_le (by omega) (by omega) (by omega) (by omega), fun q nq => ?_⟩
  have e : rgV 0 (n : Int) = (List.range n).map fun i => V.int ((i : Nat) : Int) := by
    unfold rgV
    rw [show ((n : Int) - 0).toNat = n by omega]
    refine List.map_congr_left fun i _ => ?_
    rw [Int.zero_add]
  rw [e]
  exact h q nq
theorem nil_eqv (ns : List Str) : PyData.eqv (.list (ns.map PyData.str)) (.list []) = ns.isEmpty := by
  cases ns <;> rfl
theorem strs_shaped {ns : List Str} (h : ∀ z ∈ ns, nmOk z = true) : SeqAt.shaped (.list (ns.map PyData.str)) = true := by
  have hd : PyData.depth (.list (ns.map PyData.str)) ≤ 64 := by
    show PyData.depthAll (ns.map PyData.str) + 1 ≤ 64
    have : PyData.depthAll (ns.map PyData.str) = 0 := by
      clear h
      induction ns with
      | nil => rfl
      | cons x r ih =>
        show max 0 (PyData.depthAll (r.map PyData.str)) = 0
        rw [ih]
        rfl
    omega
  show (PyData.canLayAll0 (ns.map PyData.str) && decide (PyData.depth (.list (ns.map PyData.str)) ≤ 64)) = true
  rw [strs_lay h, decide_eq_true hd]
  rfl
theorem i_eqNil {p q : Addr} {ns : List Str} (e : SqL K H p (ns.map V.str)) (e2 : SqL K H q []) (ok : ∀ z ∈ ns, nmOk z = true) (h : Q (.bl ns.isEmpty) H) : rEqD K (.ref p) (.ref q) H Q :=
  ⟨.list (ns.map .str), .list [], .lst e (DpAll.strs ns), .lst e2 .nil, strs_shaped ok, by decide, by rw [nil_eqv]; exact h⟩
theorem i_neNil {p q : Addr} {ns : List Str} (e : SqL K H p (ns.map V.str)) (e2 : SqL K H q []) (ok : ∀ z ∈ ns, nmOk z = true) (h : Q (.bl (!ns.isEmpty)) H) : rNeD K (.ref p) (.ref q) H Q :=
  ⟨.list (ns.map .str), .list [], .lst e (DpAll.strs ns), .lst e2 .nil, strs_shaped ok, by decide, by rw [nil_eqv]; exact h⟩
end
def intsD (t : List Nat) : PyData := .tuple (t.map fun n => .int ((n : Nat) : Int))
inductive RuleD (k : Nat) (near : List Str) : PyData → Prop
  | table (t : List Nat) (hl : t.length = k ^ (near.length + 1)) (hk : ∀ x ∈ t, x < k) : RuleD k near (.tuple [.str "table", intsD t])
  | sum (ts : List (List Nat)) (hl : ts.length = k) (hk : ∀ t ∈ ts, t.length = near.length * (k - 1) + 1 ∧ ∀ x ∈ t, x < k) : RuleD k near (.tuple [.str "sum", .tuple (ts.map intsD)])
  | keep : RuleD k near (.tuple [.str "keep"])
  | least : RuleD k near (.tuple [.str "least"])
  | greatest : RuleD k near (.tuple [.str "greatest"])
  | odd : RuleD k near (.tuple [.str "odd"])
  | most (n : Nat) (h : n ≤ 9) : RuleD k near (.tuple [.str "most", .int n])
  | copy (z : Str) (h : z ∈ near) : RuleD k near (.tuple [.str "copy", .str z])
theorem ints_only (t : List Nat) : tupOnlyAll (t.map fun n => PyData.int ((n : Nat) : Int)) = true := by
  induction t with
  | nil => rfl
  | cons x r ih =>
    show (true && tupOnlyAll (r.map fun n => PyData.int ((n : Nat) : Int))) = true
    rw [ih]
    rfl
theorem intss_only (ts : List (List Nat)) : tupOnlyAll (ts.map intsD) = true := by
  induction ts with
  | nil => rfl
  | cons x r ih =>
    show (tupOnlyAll (x.map fun n => PyData.int ((n : Nat) : Int)) && tupOnlyAll (r.map intsD)) = true
    rw [ih, ints_only]
    rfl
theorem rule_only {k : Nat} {near : List Str} {d : PyData} (h : RuleD k near d) : tupOnly d = true := by
  cases h with
  | table t _ _ =>
    show (tupOnlyAll (t.map fun n => PyData.int ((n : Nat) : Int)) && true) = true
    rw [ints_only]
    rfl
  | sum ts _ _ =>
    show (tupOnlyAll (ts.map intsD) && true) = true
    rw [intss_only]
    rfl
  | _ => rfl
theorem ints_dp {K : PySem.W.Frag} {H : Hp} : ∀ t : List Nat, DpAll K H (t.map fun n => V.int ((n : Nat) : Int)) (t.map fun n => PyData.int ((n : Nat) : Int))
  | [] => .nil
  | x :: r => .cons (.int x) (ints_dp r)
def spRule (K : PySem.W.Frag) : Sp := fun vs H Q _ => ∃ (a p : Addr) (k : Nat) (near : List Str) (sort : Str) (c : Int), vs = [.ref a, .int k, .ref p, .str sort] ∧ Fd H a c ∧ (k = 2 ∨ k = 3) ∧ H p = some (.lst (near.map V.str)) ∧ p ≠ a ∧ near.length ≤ 7 ∧ (∀ z ∈ near, nmOk z = true) ∧ c < 10 ^ 12 ∧
  ∀ (v : V) (d : PyData) (H' : Hp), RuleD k near d → Dp K H' v d → Fd H' a (c + 10000000) → Ch a H H' → Q v H'
end
section
open L2 PySem PySem.Spec PyProof.Rows
section
variable {X : Cx} {K : PySem.W.Frag}
theorem k_tuple (hK : X.K = K := by rfl) : CallR X (.type "tuple") (rTupleOf K) := by subst hK; exact j_tuple
theorem k_list (hK : X.K = K := by rfl) : CallR X (.type "list") (rListOf K) := by subst hK; exact j_list
theorem k_len (hK : X.K = K := by rfl) : CallR X (.builtin "len") (rLenQ K) := by subst hK; exact j_len
theorem k_all (hc : X.calm = true) (hK : X.K = K := by rfl) : CallR X (.builtin "all") (rAll K) := by subst hK; exact cr_all hc
theorem k_isi (hK : X.K = K := by rfl) : CallR X (.builtin "isinstance") (rIsi K) := by subst hK; exact call_isi
theorem k_ixL (hK : X.K = K := by rfl) : IxR X (rIxL K) := by subst hK; exact ix_list
theorem k_ixT (hK : X.K = K := by rfl) : IxR X (rIxT K) := by subst hK; exact ix_tup
theorem k_slL (hK : X.K = K := by rfl) : SlR X (rSlL K) := by subst hK; exact sl_list
theorem k_inS (hK : X.K = K := by rfl) : OpR X (compareOp .In) (rIn K false) := by subst hK; exact op_in_seq
theorem k_inQ (hu : X.A.units + 64 < cLine) (hK : X.K = K := by rfl) : OpR X (compareOp .In) (rInQ K false) := by subst hK; exact o_inQ hu
theorem k_eqD (hu : X.A.units + 64 < cLine) (hK : X.K = K := by rfl) : OpR X (compareOp .Eq) (rEqD K) := by subst hK; exact op_eqD hu
theorem k_neD (hu : X.A.units + 64 < cLine) (hK : X.K = K := by rfl) : OpR X (compareOp .NotEq) (rNeD K) := by subst hK; exact op_neD hu
variable {e : Expr} {es : List Expr} {t : TE} {tg : Expr} {to : TE} {ta : TA} {name : Str} {apos cpos pos : Pos} {T id : String} {r : V → List V → Hp → VK → Prop} {o : Expr}
theorem kpi_list (h : PE X e t) (hK : X.K = K := by rfl) : PI X tg e (iList K t) := by subst hK; exact pi_list h
theorem kpi_tup (h : PE X e t) (hK : X.K = K := by rfl) : PI X tg e (iTup K t) := by subst hK; exact pi_tup h
theorem kpg_tup {k n : Nat} {u : TGs} (hc : X.calm = true) (h : PGs X es u) (hK : X.K = K := by rfl) (h1 : (assignEach es X.env).length = n := by rfl) (h2 : List.findIdx? (fun x => x.fst) (assignEach es X.env) = none := by rfl) : PG X (.Tuple es k pos) (gTup K n u) := by subst hK; exact pg_tup hc h h1 h2
end
end
section
open L2 PySem PySem.Spec PyProof.Rows
def hallD (k : Nat) (ps : List Str) (rs : List (Str × Str)) (ds : List PyData) : PyData := .tuple [.int k, webD ps rs, .tuple ds]
structure IsHall (k : Nat) (ps : List Str) (rs : List (Str × Str)) (ds : List PyData) : Prop where
  two : k = 2 ∨ k = 3
  web : IsWeb ps rs
  few : k ^ ps.length ≤ 256
  len : ds.length = ps.length
  rules : ∀ (i : Nat) z d, ps[i]? = some z → ds[i]? = some d → RuleD k (nearL ps rs z) d
theorem hall_only {k : Nat} {ps : List Str} {rs : List (Str × Str)} {ds : List PyData} (h : tupOnlyAll ds = true) : tupOnly (hallD k ps rs ds) = true := by
  show (true && (tupOnly (webD ps rs) && (tupOnlyAll ds && true))) = true
  rw [web_only, h]
  rfl
theorem near_len {ps : List Str} {rs : List (Str × Str)} {x : Str} (W : IsWeb ps rs) (hx : x ∈ ps) : (nearL ps rs x).length ≤ 7 := by
  have no : isRoad rs x x = false := by
    cases h : isRoad rs x x with
    | false => rfl
    | true =>
      have hm : (x, x) ∈ rs := by simpa [isRoad] using h
      exact absurd rfl (W.ends _ hm).2.2
  have h1 : (nearL ps rs x).length < ps.length := by
    unfold nearL
    refine Nat.lt_of_le_of_ne (List.length_filter_le _ _) fun e => ?_
    have := (List.length_filter_eq_length_iff.mp e) x hx
    simp [no] at this
  have := W.le8
  omega
theorem near_names {ps : List Str} {rs : List (Str × Str)} {x : Str} (W : IsWeb ps rs) : ∀ z ∈ nearL ps rs x, nmOk z = true := fun z hz => W.names.2 z (List.mem_filter.mp hz).1
theorem rules_only {ds : List PyData} : (∀ d ∈ ds, ∃ k near, RuleD k near d) → tupOnlyAll ds = true := by
  induction ds with
  | nil => intro _; rfl
  | cons x r ih =>
    intro h
    obtain ⟨k, near, hx⟩ := h x List.mem_cons_self
    show (tupOnly x && tupOnlyAll r) = true
    rw [rule_only hx, ih fun d hd => h d (List.mem_cons_of_mem _ hd)]
    rfl
def RulesTo (k : Nat) (ps : List Str) (rs : List (Str × Str)) (ds : List PyData) : Prop := ∀ (i : Nat) d, ds[i]? = some d → ∃ z, ps[i]? = some z ∧ RuleD k (nearL ps rs z) d
theorem RulesTo.nil {k : Nat} {ps : List Str} {rs : List (Str × Str)} : RulesTo k ps rs [] := fun i d h => by simp at h
theorem RulesTo.snoc {k : Nat} {ps : List Str} {rs : List (Str × Str)} {ds : List PyData} {d : PyData} {z : Str} (h : RulesTo k ps rs ds) (hz : ps[ds.length]? = some z) (hd : RuleD k (nearL ps rs z) d) : RulesTo k ps rs (ds ++ [d]) := fun i e he => by
  by_cases hi : i < ds.length
  · rw [List.getElem?_append_left hi] at he
    exact h i e he
  · rw [List.getElem?_append_right (by omega)] at he
    cases q : i - ds.length with
    | succ m => rw [q] at he; simp at he
    | zero =>
      rw [q] at he
      have : d = e := by simpa using he
      subst this
      have : i = ds.length := by omega
      subst this
      exact ⟨z, hz, hd⟩
theorem RulesTo.only {k : Nat} {ps : List Str} {rs : List (Str × Str)} {ds : List PyData} (h : RulesTo k ps rs ds) : tupOnlyAll ds = true := rules_only fun d hd => by
  obtain ⟨i, hi⟩ := List.getElem?_of_mem hd
  obtain ⟨z, _, hr⟩ := h i d hi
  exact ⟨_, _, hr⟩
theorem RulesTo.hall {k : Nat} {ps : List Str} {rs : List (Str × Str)} {ds : List PyData} (h : RulesTo k ps rs ds) (h2 : k = 2 ∨ k = 3) (W : IsWeb ps rs) (hf : k ^ ps.length ≤ 256) (hl : ds.length = ps.length) : IsHall k ps rs ds :=
  ⟨h2, W, hf, hl, fun i z d hz hd => by
    obtain ⟨z', hz', hr⟩ := h i d hd
    rw [hz] at hz'
    cases hz'
    exact hr⟩
def keepR (qs : List Str) (r : Str × Str) : Bool := decide (r.1 ∈ qs) && decide (r.2 ∈ qs)
theorem web_take {ps : List Str} {rs : List (Str × Str)} (W : IsWeb ps rs) : IsWeb (ps.take 5) (rs.filter (keepR (ps.take 5))) where
  names := W.names.take 5
  pos := by rw [List.length_take]; have := W.pos; omega
  le8 := by rw [List.length_take]; omega
  le14 := Nat.le_trans (List.length_filter_le _ _) W.le14
  ends := fun r hr => by
    obtain ⟨h1, h2⟩ := List.mem_filter.mp hr
    have h3 : r.1 ∈ ps.take 5 ∧ r.2 ∈ ps.take 5 := by simpa [keepR] using h2
    exact ⟨h3.1, h3.2, (W.ends r h1).2.2⟩
  uniq := W.uniq.filter _
end
section
open L2 PySem PySem.Spec PyProof.Rows
theorem pe_ty {X : Cx} {x : Str} {T : String} {p : Pos} (hm : X.mg x = none) (hv : bootBuiltins x = some (.type T)) (hg : Gl X x := by rfl) (h1 : x ≠ "__name__" := by decide) (h2 : (x == ("__debug__" : Str)) = false := by decide) : PE X (.Name x p) (tC (.ty T)) := pe_bltn (v := .ty T) hg hm hv rfl h1 h2
section
variable {K : PySem.W.Frag} {H : Hp} {Q : VK}
theorem i_isi {x : V} {n T : String} {b : Bool} (ty : TyX K H x (.type n)) (e : kitB n T = some b) (h : Q (.bl b) H) : rIsi K [x, .ty T] H Q :=
  ⟨x, .ty T, .type n, .type T, b, rfl, .ty T, ty, kit_ty e, h⟩
theorem ty_tup {a : Addr} {xs : List V} (s : SqT K H a xs) : TyX K H (.ref a) (.type "tuple") := by
  rcases s with (e | ⟨o, e⟩) | ⟨o, its, n, e, c, _⟩
  · exact .base (.tup e)
  · exact .fTuple e
  · exact .kTuple e c
end
theorem i_iteNT {A B : Prop} (h : B) : if (!true) = true then A else B := h
theorem i_iteNF {A B : Prop} (h : A) : if (!false) = true then A else B := h
def spPower : Sp := fun vs H Q _ => ∃ (b e : Nat), vs = [.int b, .int e] ∧ b ≤ 3 ∧ e ≤ 8 ∧ Q (.int ((b ^ e : Nat) : Int)) H
def spTableLen (K : PySem.W.Frag) : Sp := fun vs H Q _ => ∃ (p : Addr) (k : Nat) (near : List Str), vs = [.int k, .ref p] ∧ SqA K H p (near.map V.str) ∧ near.length ≤ 7 ∧ k ≤ 3 ∧ Q (.int ((k ^ (near.length + 1) : Nat) : Int)) H
def spSumLen (K : PySem.W.Frag) : Sp := fun vs H Q _ => ∃ (p : Addr) (k : Nat) (near : List Str), vs = [.int k, .ref p] ∧ SqA K H p (near.map V.str) ∧ near.length ≤ 7 ∧ 2 ≤ k ∧ k ≤ 3 ∧ Q (.int ((near.length * (k - 1) + 1 : Nat) : Int)) H
end
section
open L2 PySem PySem.Spec PyProof.Rows
abbrev Tt (P : Program) (w : World) (h : Heap) (k : List Str) (b : Addr) : Prop := IsTupleKey (PySem.strKind P w) h k b
abbrev tx (P : Program) (w : World) (k : List Str) : Int := tupleKeyHash (PySem.strKind P w) k
def trow (P : Program) (w : World) (p : Addr × List Str) : Int × Value := (tx P w p.2, .ref p.1)
abbrev pr (m : Nat) (h : Int) (c : Nat) : SetTable.Probe := nth m (runAt m (SetTable.bits h % (m + 1)) (SetTable.bits h)) c
section
variable {P : Program} {w : World} {A : Around} {E : Value → Shared → Prop} {s : Shared}
theorem texts_of {k : List Str} {vs : List Value} (h : ItemsAre (PySem.strKind P w) k vs) : ∀ v ∈ vs, ∃ z t, v = Value.str z t := by
  induction h with
  | nil => exact fun v hv => nomatch hv
  | cons h1 _ ih =>
    intro v hv
    cases hv with
    | head =>
      obtain ⟨t, e⟩ := Value.isStrOf_shape h1
      exact ⟨_, t, e⟩
    | tail _ hv => exact ih v hv
theorem noClass_str (n : Nat) (z : Str) (t : Tok) : ofAClassStatement n (.str z t) = pure false := by cases n <;> rfl
theorem byVal_str (n : Nat) (z : Str) (t : Tok) : hashByValue n (.str z t) = pure false := hashByValue_scannable n (rfl : (Value.str z t).scannable = true)
theorem noClass_tt {k : List Str} {b : Addr} {Q : Bool → Shared → Prop} (hk : Tt P w s.heap k b) (q : Q false s) : wpAny (model P w) A (ofAClassStatement 8 (.ref b)) Q E s := by
  have ty := hk.typeIs
  obtain ⟨o, its, n, g, _, d, al⟩ := hk
  have al := texts_of al
  unfold ofAClassStatement
  refine wpAny_bind (wpAny_typeOf ty ?_)
  dsimp only
  simp only [show (("tuple" : String) == "tuple") = true from by decide, if_true, Bool.not_true, Bool.false_eq_true, if_false]
  try refine wpAny_bind (wpAny_pure ?_)
  try simp only [Bool.not_true, Bool.false_eq_true, if_false]
  show wpAny _ _ (seqItems? (.ref b) >>= _) _ _ s
  refine wpAny_bind (wpAny_seqItems g d ?_)
  dsimp only
  refine wpAny_bind ?_
  show wpAny _ _ (forIn its _ _) _ _ s
  rw [← Array.forIn_toList]
  refine wpAny_forIn_list _ (fun l r z => (∀ v ∈ l, ∃ y t, v = Value.str y t) ∧ r.1 = none ∧ z = s) _ (fun v l r z => ?_) (fun r z => ?_) _ _ ⟨al, rfl, rfl⟩
  · rintro ⟨h1, h2, rfl⟩
    obtain ⟨y, t, rfl⟩ := h1 v (.head _)
    rw [noClass_str]
    refine wpAny_bind (wpAny_pure ?_)
    simp only [Bool.false_eq_true, if_false]
    exact wpAny_pure ⟨fun u hu => h1 u (.tail _ hu), rfl, rfl⟩
  · obtain ⟨r1, r2⟩ := r
    rintro ⟨_, h2, rfl⟩
    simp only at h2
    subst h2
    exact wpAny_pure q
theorem byVal_tt {k : List Str} {b : Addr} {Q : Bool → Shared → Prop} (hk : Tt P w s.heap k b) (q : ∀ v, Q v s) : wpAny (model P w) A (hashByValue 8 (.ref b)) Q E s := by
  have ty := hk.typeIs
  obtain ⟨o, its, n, g, _, d, al⟩ := hk
  have al := texts_of al
  unfold hashByValue
  refine wpAny_bind (wpAny_specialOf ty F.slot_tuple_hash.lookup ?_)
  show wpAny _ _ (seqItems? (.ref b) >>= _) _ _ s
  refine wpAny_bind (wpAny_seqItems g d (wpAny_bind ?_))
  show wpAny _ _ (forIn its _ _) _ _ s
  rw [← Array.forIn_toList]
  refine wpAny_forIn_list _ (fun l r z => (∀ v ∈ l, ∃ y t, v = Value.str y t) ∧ r.1 = none ∧ z = s) _ (fun v l r z => ?_) (fun r z => ?_) _ _ ⟨al, rfl, rfl⟩
  · rintro ⟨h1, h2, rfl⟩
    obtain ⟨y, t, rfl⟩ := h1 v (.head _)
    rw [byVal_str]
    refine wpAny_bind (wpAny_pure ?_)
    simp only [Bool.not_false, if_true]
    exact wpAny_pure (wpAny_pure (q _))
  · obtain ⟨r1, r2⟩ := r
    rintro ⟨_, h2, rfl⟩
    simp only at h2
    subst h2
    exact wpAny_pure (q _)
theorem unseen_tt {k : List Str} {b : Addr} {Q : Bool → Shared → Prop} (hk : Tt P w s.heap k b) {ys : List Value} (hy : ∀ y ∈ ys, ∃ k' c, y = Value.ref c ∧ Tt P w s.heap k' c) (q : Q false s) :
    wpAny (model P w) A (searchCouldBeSeen (.ref b) ys) Q E s := by
  unfold searchCouldBeSeen
  refine wpAny_bind (wpAny_forIn_list _ (fun l r z => (∀ y ∈ l, ∃ k' c, y = Value.ref c ∧ Tt P w s.heap k' c) ∧ r.1 = none ∧ z = s) _ (fun v l r z => ?_) (fun r z => ?_) _ _ ⟨hy, rfl, rfl⟩)
  · rintro ⟨h1, h2, rfl⟩
    obtain ⟨k', c, rfl, hc⟩ := h1 v (.head _)
    have on : ∀ u ∈ l, ∃ k' c, u = Value.ref c ∧ Tt P w z.heap k' c := fun u hu => h1 u (.tail _ hu)
    dsimp only
    by_cases e : (b == c || (carriedByValue (.ref b) && carriedByValue (.ref c))) = true
    · exact wp_if_pos e (wpAny_pure ⟨on, rfl, rfl⟩)
    · refine wp_if_neg e (wpAny_bind (wpAny_eqIsQuiet_tuple hk ?_))
      simp only [Bool.not_true, Bool.false_eq_true, if_false]
      refine wpAny_bind (wpAny_eqIsQuiet_tuple hc ?_)
      simp only [Bool.not_true, Bool.false_eq_true, if_false]
      refine wpAny_bind (noClass_tt hk ?_)
      simp only [Bool.false_eq_true, if_false]
      refine wpAny_bind (noClass_tt hc ?_)
      simp only [Bool.false_eq_true, if_false]
      exact wpAny_pure ⟨on, rfl, rfl⟩
  · obtain ⟨r1, r2⟩ := r
    rintro ⟨_, h2, rfl⟩
    simp only at h2
    subst h2
    exact wpAny_pure q
structure TxS (P : Program) (w : World) (h : Heap) (a : Addr) (L : List (Addr × List Str)) (es : Array (Int × Value)) (ep : Nat) (t : SetTable) : Prop where
  here : ∃ o, h.get? a = some o ∧ o.ExactSet ∧ o.data = .set es ep t
  rows : es.toList = L.map (trow P w)
  tab : TabOk t (L.map fun p => tx P w p.2)
  led : w.params.followText "set-order" = true ∨ t.led = true
  room : L.length * 5 < t.mask * 3
  few : L.length < 64
variable {a : Addr} {L : List (Addr × List Str)} {es : Array (Int × Value)} {ep : Nat} {t : SetTable}
theorem rows_size (r : es.toList = L.map (trow P w)) : es.size = L.length := by
  simpa using congrArg List.length r
theorem fits_of {hs : List Int} (T : TabOk t hs) (hn : es.size = hs.length) (hm : hs.length ≤ t.mask) : t.fits es.size = true := by
  have z := T.sz
  simp only [SetTable.fits, SetTable.fill, T.dm, Bool.and_eq_true, beq_iff_eq, decide_eq_true_eq]
  exact ⟨by omega, by show t.place.size + 0 ≤ t.mask; omega⟩
theorem TxS.size (R : TxS P w s.heap a L es ep t) : es.size = L.length := rows_size R.rows
theorem TxS.fits (R : TxS P w s.heap a L es ep t) : t.fits es.size = true := by
  refine fits_of R.tab (by rw [R.size, List.length_map]) ?_
  have z := R.room
  rw [List.length_map]
  omega
theorem TxS.entry (R : TxS P w s.heap a L es ep t) {i : Nat} {p : Addr × List Str} (h : L[i]? = some p) : es[i]? = some (trow P w p) := by
  rw [← Array.getElem?_toList, R.rows, List.getElem?_map, h, Option.map_some]
theorem pr_dummy (m : Nat) (h : Int) (c : Nat) : (pr m h c).dummy = none := by
  have z : ∀ n (p : SetTable.Probe), p.dummy = none → (nth m p n).dummy = none := by
    intro n
    induction n with
    | zero => exact fun p e => e
    | succ n ih =>
      intro p e
      exact ih _ (by unfold adv; split <;> exact e)
  exact z c _ rfl
theorem TxS.search (R : TxS P w s.heap a L es ep t) (hT : ∀ p ∈ L, Tt P w s.heap p.2 p.1) {x : Addr} {k : List Str} (hx : Tt P w s.heap k x) (hu : A.units < cLine) (hk : ∀ p ∈ L, p.2 ≠ k) {K : Nat}
    (hKf : K < 10 * SetTable.turns t.mask) (hK : way t.mask (tx P w k) K ∉ t.place.toList) (hKb : ∀ c, c < K → way t.mask (tx P w k) c ∈ t.place.toList) {Q : SetFound → Shared → Prop}
    (q : Q (.free (way t.mask (tx P w k) K) false) s) : ∀ (f c : Nat) (st : Option SetTable.Probe), st.getD (t.probeStart (tx P w k)) = pr t.mask (tx P w k) c → c ≤ K → K - c < f →
      wpAny (model P w) A (setSearchFrom a (.ref x) (tx P w k) true f st) Q E s := by
  obtain ⟨o, g, hex, hd⟩ := R.here
  intro f
  induction f with
  | zero => exact fun c st _ _ z => absurd z (Nat.not_lt_zero _)
  | succ f ih =>
    intro c st hst hc hf
    have on : ∀ n, nth t.mask (pr t.mask (tx P w k) c) n = pr t.mask (tx P w k) (c + n) := fun n => (nth_add t.mask c _ n).symm
    have end_ : (nth t.mask (pr t.mask (tx P w k) c) (K - c)).j = way t.mask (tx P w k) K := by rw [on, Nat.add_sub_cancel' hc]
    rw [setSearchFrom_succ]
    refine wpAny_bind (wpAny_setState_of g hd R.fits ?_)
    dsimp only
    refine wp_if_neg (by unfold SetTable.gaveWay; rw [mask_odd R.tab.mok]; decide) ?_
    try refine wpAny_bind (wpAny_pure ?_)
    rcases go_spec t R.tab.ris R.tab.dm (fun i => (es[i]?.map (·.1)).getD 0) (tx P w k) (10 * SetTable.turns t.mask) (K - c) _ (pr_dummy _ _ c) (by omega)
      (fun n hn => by rw [on]; exact hKb _ (by omega)) (by rw [end_]; exact hK) with ⟨n, i, hn, hi, _, _, e⟩ | ⟨_, e⟩
    · rw [on, on, ← hst] at e
      rw [show t.probe (fun i => (es[i]?.map (·.1)).getD 0) (tx P w k) (st.getD (t.probeStart (tx P w k))) = _ from e]
      dsimp only
      rw [on] at hi
      have hl : i < L.length := by
        have h1 := (List.getElem?_eq_some_iff.mp hi).1
        have h2 := R.tab.sz
        rw [List.length_map] at h2
        rw [Array.length_toList] at h1
        omega
      have hp := List.getElem?_eq_getElem hl
      have me : L[i] ∈ L := List.getElem_mem hl
      have go : wpAny (model P w) A (searchRest a (.ref x) (tx P w k) true f es t (way t.mask (tx P w k) (c + n)) i (pr t.mask (tx P w k) (c + (n + 1)))) Q E s := by
        unfold searchRest
        rw [R.entry hp]
        dsimp only [trow]
        refine wpAny_bind (wpAny_holding (wpAny_eqBool_tuple hu (hT _ me) hx ?_))
        rw [decide_eq_false (hk _ me)]
        refine wpAny_bind (wpAny_setState_of g hd R.fits ?_)
        dsimp only
        refine wp_if_neg (by decide) ?_
        try refine wpAny_bind (wpAny_pure ?_)
        rw [L2.sameMem]
        dsimp only
        simp only [if_true, slot_live R.tab.ris hi, R.entry hp]
        refine wpAny_bind (wpAny_isSame_ref_self (wpAny_bind (wpAny_pure ?_)))
        simp only [if_true]
        refine wp_if_neg Bool.false_ne_true ?_
        exact ih (c + (n + 1)) _ rfl (by omega) (by omega)
      by_cases hl : t.led = true
      · refine wp_if_neg (by simp [hl]) ?_
        try refine wpAny_bind (wpAny_pure ?_)
        exact go
      · refine wp_if_pos (by simp [hl]) (wpAny_bind (unseen_tt hx (fun y hy => ?_) ?_))
        · obtain ⟨u, hu1, hu2⟩ := List.mem_map.mp hy
          have hu3 : u ∈ es ∧ u.1 = tx P w k := by simpa using hu1
          have hu4 : u ∈ es.toList := by simpa using hu3.1
          rw [R.rows] at hu4
          obtain ⟨p, hp1, hp2⟩ := List.mem_map.mp hu4
          exact ⟨p.2, p.1, by rw [← hu2, ← hp2]; rfl, hT p hp1⟩
        · refine wp_if_neg (by decide) ?_
          try refine wpAny_bind (wpAny_pure ?_)
          exact go
    · rw [end_, ← hst] at e
      rw [show t.probe (fun i => (es[i]?.map (·.1)).getD 0) (tx P w k) (st.getD (t.probeStart (tx P w k))) = _ from e]
      dsimp only
      exact wpAny_pure q
theorem TxS.look (R : TxS P w s.heap a L es ep t) (hT : ∀ p ∈ L, Tt P w s.heap p.2 p.1) {x : Addr} {k : List Str} (hx : Tt P w s.heap k x) (hu : A.units < cLine) (hk : ∀ p ∈ L, p.2 ≠ k) {Q : SetFound → Shared → Prop}
    (q : ∀ K, way t.mask (tx P w k) K ∉ t.place.toList → (∀ c, c < K → way t.mask (tx P w k) c ∈ t.place.toList) → Q (.free (way t.mask (tx P w k) K) false) s) :
    wpAny (model P w) A (setSearch a (.ref x) (tx P w k) true) Q E s := by
  have rm := R.room
  obtain ⟨K, h1, h2, h3⟩ := R.tab.first (by rw [List.length_map]; omega) (tx P w k)
  have h4 : K < 100000 := by
    have : 10 * SetTable.turns t.mask ≤ 1420 := by
      unfold SetTable.turns
      rcases R.tab.mok with e | e | e <;> omega
    omega
  unfold setSearch
  exact R.search hT hx hu hk h1 h2 h3 (q K h2 h3) 100000 0 none rfl (Nat.zero_le _) (by omega)
theorem picked {α β : Type} (g : α → β) (d : β) (L : List α) : ∀ l : List Nat, (∀ i ∈ l, i < L.length) → (l.filterMap fun i => L[i]?).map g = l.map fun i => (L.map g).getD i d
  | [], _ => rfl
  | i :: l, h => by
    have hi : i < L.length := h i (.head _)
    rw [List.filterMap_cons_some (List.getElem?_eq_getElem hi), List.map_cons, List.map_cons, picked g d L l fun j hj => h j (.tail _ hj)]
    congr 1
    rw [List.getD_eq_getElem?_getD, List.getElem?_map, List.getElem?_eq_getElem hi]
    rfl
theorem all_picked {α : Type} (L : List α) : ∀ n, n ≤ L.length → (List.range n).filterMap (fun i => L[i]?) = L.take n
  | 0, _ => rfl
  | n + 1, h => by
    rw [List.range_succ, List.filterMap_append, all_picked L n (Nat.le_of_succ_le h), List.take_succ]
    cases e : L[n]? <;> simp [e]
variable {o : Obj}
theorem relay_tx (g : s.heap.get? a = some o) (hex : o.ExactSet) (hd : o.data = .set es ep t) (hr : es.toList = L.map (trow P w)) (T : TabOk t (L.map fun p => tx P w p.2)) (hm : L.length ≤ t.mask) (ld : w.params.followText "set-order" = true ∨ t.led = true) (few : L.length < 64)
    {wd M : Nat} (hw : SetTable.sizeAbove wd - 1 = M) (hM : MaskOk M) (h128 : SetTable.sizeAbove wd ≤ 128) (hn : L.length * 5 < M * 3) {Q : Unit → Shared → Prop}
    (q : ∀ h' L' es' ep' t', Heap.SameBut a s.heap h' → TxS P w h' a L' es' ep' t' → L'.Perm L → Q () { s with heap := h' }) : wpAny (model P w) A (setRelay a wd) Q E s := by
  have sz := rows_size hr
  have ft : t.fits es.size = true := fits_of T (by rw [sz, List.length_map]) (by rw [List.length_map]; exact hm)
  obtain ⟨t', od, e, pm, T', m', l', p', _⟩ := relaid_ok t (hs := es.map (·.1)) (wanted := wd) hw hM (by rw [Array.size_map, sz]; omega)
  rw [Array.size_map, sz] at pm
  have lt : ∀ i ∈ od.toList, i < L.length := fun i hi => List.mem_range.mp (pm.mem_iff.mp hi)
  have eL : (es.map (·.1)).toList = L.map fun p => tx P w p.2 := by
    rw [Array.toList_map, hr, List.map_map]
    rfl
  have e1 : (od.filterMap (es[·]?)).toList = (od.toList.filterMap fun i => L[i]?).map (trow P w) := by
    rw [Array.toList_filterMap, picked (trow P w) (0, .none) L _ lt]
    have : ∀ l : List Nat, (∀ i ∈ l, i < L.length) → l.filterMap (fun i => es[i]?) = l.map fun i => (L.map (trow P w)).getD i (0, .none) := by
      intro l
      induction l with
      | nil => exact fun _ => rfl
      | cons i l ih =>
        intro hl
        have z : es[i]? = some ((L.map (trow P w)).getD i (0, .none)) := by
          rw [← Array.getElem?_toList, hr, List.getD_eq_getElem?_getD, List.getElem?_map, List.getElem?_eq_getElem (hl i (.head _))]
          rfl
        rw [List.filterMap_cons_some z, ih fun j hj => hl j (.tail _ hj), List.map_cons]
    exact this _ lt
  have e2 : (od.toList.filterMap fun i => L[i]?).map (fun p => tx P w p.2) = od.toList.map fun i => (es.map (·.1)).getD i 0 := by
    rw [picked (fun p : Addr × List Str => tx P w p.2) 0 L _ lt]
    refine List.map_congr_left fun i _ => ?_
    rw [← eL]
    simp [List.getD_eq_getElem?_getD, Array.getD_eq_getD_getElem?]
  have e3 : (od.toList.filterMap fun i => L[i]?).Perm L := by
    have z := pm.filterMap fun i => L[i]?
    rw [all_picked L L.length (Nat.le_refl _), List.take_length] at z
    exact z
  rw [← e2] at T'
  generalize (od.toList.filterMap fun i => L[i]?) = L2 at e1 e3 T'
  have s2 := rows_size e1
  rw [e3.length_eq] at s2
  rw [setRelay_eq]
  refine wpAny_bind (wpAny_setState_of g hd ft ?_)
  dsimp only
  refine wp_if_neg (by rw [sizeLine_eq]; omega) ?_
  try refine wpAny_bind (wpAny_pure ?_)
  rw [e]
  dsimp only
  refine wpAny_bind (wp_if_neg (by rw [s2, sz]; simp) ?_)
  try refine wpAny_bind (wpAny_pure ?_)
  refine wpAny_pure ?_
  dsimp only
  refine wpAny_storeSet_of g hd (q _ L2 _ (ep + 1) t' (Heap.SameBut.update ..) ⟨⟨_, store_at g hd, hex, rfl⟩, e1, T', by rw [l']; exact ld, ?_, ?_⟩ e3) (by rw [s2, sizeLine_eq]; omega)
  · rw [e3.length_eq, m']
    exact hn
  · rw [e3.length_eq]
    exact few
theorem TxS.add (R : TxS P w s.heap a L es ep t) (hT : ∀ p ∈ L, Tt P w s.heap p.2 p.1) {x : Addr} {k : List Str} (hx : Tt P w s.heap k x) (hu : A.units < cLine) (hk : ∀ p ∈ L, p.2 ≠ k) (hf : L.length + 1 < 64) {Q : Bool → Shared → Prop}
    (q : ∀ h' L' es' ep' t', Heap.SameBut a s.heap h' → TxS P w h' a L' es' ep' t' → L'.Perm ((x, k) :: L) → Q true { s with heap := h' }) :
    wpAny (model P w) A (setAddHashed a (.ref x) (tx P w k)) Q E s := by
  obtain ⟨o, g, hex, hd⟩ := R.here
  have sz := R.size
  have rm := R.room
  unfold setAddHashed
  refine wpAny_holding ?_
  rw [show (100000 : Nat) = 99999 + 1 from rfl, setAddHashedIn_succ]
  refine wpAny_bind (wpAny_setState_of g hd R.fits ?_)
  dsimp only
  refine wp_if_neg (by simp [byScan, Value.scannable]) ?_
  try refine wpAny_bind (wpAny_pure ?_)
  refine wpAny_bind (R.look hT hx hu hk fun K hK hb => ?_)
  dsimp only
  refine wpAny_bind (wpAny_setState_of g hd R.fits ?_)
  dsimp only
  obtain ⟨q1, q2, q3, q4, q5, q6, q7, q8, q9⟩ := R.tab.put hK hb
  generalize hu1 : t.put (way t.mask (tx P w k) K) = u at q1 q3 q4 q5 q6 q7 q8 q9 ⊢
  obtain ⟨t1, n⟩ := u
  dsimp only at q1 q3 q4 q5 q6 q7 q8 q9 ⊢
  subst q1
  have key : ∀ t2 : SetTable, TabOk t2 ((L.map fun p => tx P w p.2).take (SetTable.below t.place (way t.mask (tx P w k) K)) ++ tx P w k :: (L.map fun p => tx P w p.2).drop (SetTable.below t.place (way t.mask (tx P w k) K))) → t2.mask = t.mask → t2.led = t.led → t2.fill = t1.fill →
      wpAny (model P w) A (do
        storeSet a (SetTable.insertAt es (SetTable.below t.place (way t.mask (tx P w k) K)) (tx P w k, Value.ref x)) t2
        if !false && t2.tooFull then setRelay a (SetTable.grown (es.size + 1))
        return true) Q E s := fun t2 q3 q4 q5 q9' => by
    generalize hn : SetTable.below t.place (way t.mask (tx P w k) K) = n at q2 q3
    have r1 : (SetTable.insertAt es n (tx P w k, Value.ref x)).toList = (L.take n ++ (x, k) :: L.drop n).map (trow P w) := by
      rw [SetTable.toList_insertAt, R.rows, List.map_append, List.map_cons, List.map_take, List.map_drop]
      rfl
    have e3 : (L.take n ++ (x, k) :: L.drop n).map (fun p => tx P w p.2) = (L.map fun p => tx P w p.2).take n ++ tx P w k :: (L.map fun p => tx P w p.2).drop n := by
      rw [List.map_append, List.map_cons, List.map_take, List.map_drop]
    rw [← e3] at q3
    have pm : (L.take n ++ (x, k) :: L.drop n).Perm ((x, k) :: L) := put_perm L n (x, k)
    generalize SetTable.insertAt es n (tx P w k, Value.ref x) = es1 at r1 ⊢
    generalize L.take n ++ (x, k) :: L.drop n = L1 at r1 q3 pm
    have l1 : L1.length = L.length + 1 := pm.length_eq
    have s1 := rows_size r1
    rw [l1] at s1
    refine wpAny_bind (wpAny_storeSet_of g hd ?_ (by rw [s1, sizeLine_eq]; omega))
    have sb : Heap.SameBut a s.heap (s.heap.update a (Obj.putSet es1 t2)) := Heap.SameBut.update ..
    have g1 := store_at (es' := es1) (t' := t2) g hd
    generalize s.heap.update a (Obj.putSet es1 t2) = h1 at sb g1 ⊢
    have ld1 : w.params.followText "set-order" = true ∨ t2.led = true := by rw [q5]; exact R.led
    by_cases hfull : t2.tooFull = true
    · have z := hfull
      unfold SetTable.tooFull at z
      rw [decide_eq_true_eq, q9', q9, List.length_map] at z
      have two : (t.mask = 7 ∧ L.length = 4) ∨ (t.mask = 31 ∧ L.length = 18) := by
        rcases R.tab.mok with e | e | e <;> rw [q4, e] at z <;> rw [e] at rm
        · exact .inl ⟨e, by omega⟩
        · exact .inr ⟨e, by omega⟩
        · omega
      have step : ∀ M, SetTable.sizeAbove (SetTable.grown (L.length + 1)) - 1 = M → MaskOk M → SetTable.sizeAbove (SetTable.grown (L.length + 1)) ≤ 128 → (L.length + 1) * 5 < M * 3 →
          wpAny (model P w) A (setRelay a (SetTable.grown (L.length + 1))) (fun _ s' => wpAny (model P w) A (pure true) Q E s') E { s with heap := h1 } := fun M a1 a2 a3 a4 =>
        relay_tx (s := { s with heap := h1 }) g1 hex rfl r1 q3 (by rw [l1, q4]; rcases two with ⟨e, e2⟩ | ⟨e, e2⟩ <;> omega) ld1 (by rw [l1]; exact hf) a1 a2 a3 (by rw [l1]; exact a4)
          fun h2 L2 es2 ep2 t2 sb2 R2 pm2 => wpAny_pure (q h2 L2 es2 ep2 t2 (sb.trans sb2) R2 (pm2.trans pm))
      first
        | (refine wpAny_bind ?_; refine wp_if_pos (by simp [hfull]) ?_)
        | (refine wp_if_pos (by simp [hfull]) ?_; refine wpAny_bind ?_)
      rw [sz]
      rcases two with ⟨_, e2⟩ | ⟨_, e2⟩
      · exact step 31 (by rw [e2, size_20]) (.inr (.inl rfl)) (by rw [e2, size_20]; decide) (by omega)
      · exact step 127 (by rw [e2, size_76]) (.inr (.inr rfl)) (by rw [e2, size_76]; decide) (by omega)
    · first
        | refine wp_if_neg (by simp [hfull]) ?_
        | (refine wpAny_bind ?_; refine wp_if_neg (by simp [hfull]) ?_; refine wpAny_pure ?_)
      have z := hfull
      unfold SetTable.tooFull at z
      rw [decide_eq_true_eq, q9', q9, List.length_map] at z
      exact wpAny_pure (q h1 L1 es1 (ep + 1) t2 sb ⟨⟨_, g1, hex, rfl⟩, r1, q3, ld1, by rw [l1]; omega, by rw [l1]; exact hf⟩ pm)
  have fin : ∀ b : Bool, wpAny (model P w) A (do
        storeSet a (SetTable.insertAt es (SetTable.below t.place (way t.mask (tx P w k) K)) (tx P w k, Value.ref x)) (if b = true then t1 else { t1 with plain := false })
        if !false && (if b = true then t1 else { t1 with plain := false }).tooFull then setRelay a (SetTable.grown (es.size + 1))
        return true) Q E s := fun b => by
    cases b with
    | true => exact key t1 q3 q4 q5 rfl
    | false => exact key { t1 with plain := false } ⟨q3.ris, q3.dm, q3.sz, q3.mok, q3.bd, q3.reach⟩ q4 q5 rfl
  by_cases p1 : t1.plain = true
  · first
      | (refine wpAny_bind ?_; refine wp_if_pos p1 ?_; refine byVal_tt hx fun b => ?_)
      | refine wp_if_pos p1 (wpAny_bind (byVal_tt hx fun b => ?_))
    exact fin b
  · first
      | (refine wpAny_bind ?_; refine wp_if_neg p1 ?_; refine wpAny_pure ?_)
      | refine wp_if_neg p1 (wpAny_bind (wpAny_pure ?_))
      | refine wp_if_neg p1 ?_
    exact fin true
end
end
section
open L2 PySem PySem.Spec PyProof.Rows
def TsO (P : Program) (w : World) (a : Addr) (L : List (Addr × List Str)) : HO := .ext fun h => ∃ es ep t, TxS P w h a L es ep t
abbrev setObj0 (w : World) : Obj := { cls := .type "set", dict := none, data := .set #[] 0 (.fresh 0 0 (!w.params.followText "set-order")) }
section
variable {P : Program} {w : World} {A : Around} {E : Value → Shared → Prop} {s : Shared}
theorem TxS.keep {h h' : Heap} {a : Addr} {L : List (Addr × List Str)} {es : Array (Int × Value)} {ep : Nat} {t : SetTable} (R : TxS P w h a L es ep t) (k : ∀ o, h.get? a = some o → h'.get? a = some o) : TxS P w h' a L es ep t :=
  let ⟨o, g, r⟩ := R.here
  ⟨⟨o, k o g, r⟩, R.rows, R.tab, R.led, R.room, R.few⟩
theorem txs_fresh {h : Heap} {a : Addr} (g : h.get? a = some (setObj0 w)) : TxS P w h a [] #[] 0 (.fresh 0 0 (!w.params.followText "set-order")) := by
  refine ⟨⟨_, g, ⟨rfl, rfl, rfl⟩, rfl⟩, rfl, ⟨List.Pairwise.nil, rfl, rfl, .inl rfl, fun x hx => (by cases hx), fun i h j hi => (by simp at hi)⟩, ?_, by show 0 * 5 < 7 * 3; decide, by show 0 < 64; decide⟩
  cases e : w.params.followText "set-order"
  · exact .inr rfl
  · exact .inl rfl
theorem ts_obj {H : Hp} {h : Heap} {a : Addr} {L : List (Addr × List Str)} (R : ∃ es ep t, TxS P w h a L es ep t) : ObjOk P w H h a (TsO P w a L) := by
  refine ⟨R, ?_, fun h1 h2 ⟨es, ep, t, z⟩ k => ⟨es, ep, t, z.keep k⟩⟩
  obtain ⟨es, ep, t, z⟩ := R
  obtain ⟨o, g, _⟩ := z.here
  exact ⟨o, g⟩
theorem txs_put {a x : Addr} {L : List (Addr × List Str)} {k : List Str} {es : Array (Int × Value)} {ep : Nat} {t : SetTable} (R : TxS P w s.heap a L es ep t) (hT : ∀ p ∈ L, Tt P w s.heap p.2 p.1) (hx : Tt P w s.heap k x) (hu : A.units + 64 < cLine) (hk : ∀ p ∈ L, p.2 ≠ k) (hf : L.length + 1 < 64) {Q : Value → Shared → Prop}
    (q : ∀ h' L' tk, Heap.SameBut a s.heap h' → (∃ es ep t, TxS P w h' a L' es ep t) → L'.Perm ((x, k) :: L) → Q .none { s with heap := h', toks := tk }) : wpAny (model P w) A (call (.builtin "set.add") [.ref a, .ref x]) Q E s := by
  obtain ⟨o, g, hex, hd⟩ := R.here
  have ty : s.TypeIs (.ref a) "set" := ⟨o, g, hex.1⟩
  refine wpAny_call_entry F.slot_set_add ty F.entry_set_add ?_ (F.args_set_add_2 _ _)
  unfold Builtin.«set.add» Builtin.Frozenset.oneOther
  simp only [List.isEmpty_nil, bind_assoc]
  unfold Builtin.Frozenset.addrOf setAdd
  refine wpAny_bind (wpAny_pure ?_)
  try dsimp only
  refine wpAny_bind (wpAny_pure ?_)
  try dsimp only
  refine wpAny_bind (wpAny_holding (wpAny_bind (wpAny_pyHash_tuple ?hun hx ?_)))
  case hun => first | omega | (show A.units + 1 < cLine; omega) | (show A.units < cLine; omega)
  refine (show TxS P w ({ s with toks := s.toks + (k.length + 1) } : Shared).heap a L es ep t from R).add (s := { s with toks := s.toks + (k.length + 1) }) hT hx ?hun hk hf fun h' L' es' ep' t' sb R' pm => ?_
  case hun => first | omega | (show A.units + 1 < cLine; omega) | (show A.units < cLine; omega)
  show wpAny _ _ (ret Value.none) _ _ _
  exact wpAny_pure ⟨_, rfl, q h' L' _ sb ⟨es', ep', t', R'⟩ pm⟩
end
section
variable {X : Cx}
theorem tt_of {pins : List (Addr × Obj)} {σ : L2.St} {H : Hp} {s : Shared} {b : Addr} {k : List Str} (I : Inv X pins σ H s) (h : SqT X.K H b (k.map V.str)) : Tt X.prog X.w s.heap k b := by
  obtain ⟨its, r, ⟨o, g, c, n, d⟩, _⟩ := I.tuple h
  refine ⟨o, its.toArray, n, g, c, d, ?_⟩
  show ItemsAre _ k its
  have key : ∀ {k : List Str} {us : List Value}, Vals (k.map V.str) us → ItemsAre (PySem.strKind X.prog X.w) k us := by
    intro k
    induction k with
    | nil => intro us v; cases v; exact .nil
    | cons z k ih =>
      intro us v
      cases v with
      | cons r t =>
        obtain ⟨tk, rfl⟩ := r
        exact .cons (PySem.strKind_is _ _ z tk) (ih t)
  exact key r
theorem ts_add {pins : List (Addr × Obj)} {σ : L2.St} {H : Hp} {s : Shared} {E : Value → Shared → Prop} {D x : Addr} {L : List (Addr × List Str)} {k : List Str} {Q : Value → Shared → Prop} (I : Inv X pins σ H s) (hu : X.A.units + 64 < cLine) (hD : H D = some (TsO X.prog X.w D L))
    (hT : ∀ p ∈ L, SqT X.K H p.1 (p.2.map V.str)) (hx : SqT X.K H x (k.map V.str)) (hk : ∀ p ∈ L, p.2 ≠ k) (hf : L.length + 1 < 64)
    (h : ∀ L' s', L'.Perm ((x, k) :: L) → Inv X pins σ (upd H D (TsO X.prog X.w D L')) s' → Q .none s') : wpAny (model X.prog X.w) X.A (call (.builtin "set.add") [.ref D, .ref x]) Q E s := by
  obtain ⟨es, ep, t, R⟩ : ∃ es ep t, TxS X.prog X.w s.heap D L es ep t := (I.hok D _ hD).1
  refine txs_put R (fun p hp => tt_of I (hT p hp)) (tt_of I hx) hu hk hf fun h' L' tk sb R' pm => ?_
  have he : ∃ u, h'.get? D = some u := by
    obtain ⟨_, _, _, z⟩ := R'
    obtain ⟨o, g, _⟩ := z.here
    exact ⟨o, g⟩
  exact h L' _ pm (I.write (e := D) (t' := tk) (by rw [hD]; trivial) (.inl rfl) (fun b u hb hu => (sb.2 b hb).trans hu) he (ts_obj R'))
def rLenTs (P : Program) (w : World) : List V → Hp → VK → Prop := fun xs H Q => ∃ (D : Addr) (L : List (Addr × List Str)), xs = [.ref D] ∧ H D = some (TsO P w D L) ∧ Q (.int L.length) H
theorem cr_lenTs : CallR X (.builtin "len") (rLenTs X.prog X.w) := by
  intro pins s σ H xs us Q I r h
  obtain ⟨D, L, rfl, hD, q⟩ := h
  rw [Vals.ref1 r]
  obtain ⟨es, ep, t, R⟩ : ∃ es ep t, TxS X.prog X.w s.heap D L es ep t := (I.hok D _ hD).1
  obtain ⟨o, g, hex, hd⟩ := R.here
  refine call_len_set g hex hd R.fits ?_ ⟨.int L.length, H, I.tok _, ⟨_, by rw [R.size]⟩, q⟩
  have := R.few
  rw [R.size]
  omega
end
end
section
open L2 PySem PySem.Spec PyProof.Rows
abbrev eset (led : Bool) : Obj := { cls := .type "set", dict := none, data := .set #[] 0 (.fresh 0 0 led) }
end
section
open L2 PySem PySem.Spec PyProof.Rows
section
variable {P : Program} {w : World} {A : Around} {E : Value → Shared → Prop} {s : Shared}
theorem sorted_texts {l : Addr} {items : Array Value} {ss : List Str} {Q : Value → Shared → Prop} (hl : s.heap.IsTuple l items) (hS : StrsAre items.toList ss) (hL : items.size ≤ sizeLine)
    (q : ∀ (h' : Heap) (a : Addr) (out : Array Value) (e : Nat) (ss' : List Str), (∀ b o, s.heap.get? b = some o → h'.get? b = some o) → s.heap.get? a = none → h'.get? a = some (seqObj "list" out e) → StrsAre out.toList ss' → ss'.Perm ss → sortedS ss' = true → Q (.ref a) { s with heap := h' }) :
    wpAny (model P w) A (call (.builtin "sorted") [.ref l]) Q E s := by
  obtain ⟨o, ho, hc, n, hd⟩ := hl
  refine Calls.call_function_entry kind_sorted plain_sorted entry_sorted (args_sorted1 _) ?_
  unfold Builtin.«sorted»
  refine wpAny_bind (m := checkCount "sorted" 1 1 _) (wpAny_pure (wpAny_bind (wpAny_collect_seq l (.inr rfl) ho hc hd (fun h1 k1 => wpAny_bind (wpAny_newList ?_ ?_)) hL)))
  · have g0 : (h1.push (seqObj "list" items.toList.toArray 0)).get? h1.objs.size = some (seqObj "list" items.toList.toArray 0) := Heap.get?_push_size _ rfl
    show wpAny _ _ _ _ _ { s with heap := h1.push (seqObj "list" items.toList.toArray 0) }
    refine wpAny_bind (wpAny_holding (wpAny_call_entry slot_list_sort ⟨_, g0, rfl⟩ entry_list_sort (list_sort_treeKAny strKind_oneLt g0 hS.keysOf (fun v₁ v₂ rest e => keyKind_strs (by rw [← e]; exact hS)) (by rw [Array.length_toList]; exact hL) fun st a1 a2 => ⟨_, rfl, ?_⟩) (args_list_sort _)))
    refine wpAny_pure ?_
    obtain ⟨ss', b1, b2, b3⟩ := sorted_out_str hS a1 a2
    obtain ⟨e, ge⟩ := sortedHeap_at (vs := items.toList) (out := (arrOf st).map (·.2)) g0
    refine ⟨_, rfl, q _ h1.objs.size _ e ss' (fun b o' z => ?_) ?_ ge b1 b2 b3⟩
    · have lt : b < h1.objs.size := Heap.lt_size (k1 b o' z)
      rw [sortedHeap_old (Nat.ne_of_lt lt) (by rw [size_push']; exact Nat.lt_succ_of_lt lt)]
      exact Heap.get?_push_of_some _ (k1 b o' z)
    · cases z : s.heap.get? h1.objs.size with
      | none => rfl
      | some o' => exact absurd (Heap.lt_size (k1 _ o' z)) (Nat.lt_irrefl _)
  · rw [Array.length_toList]
    exact hL
end
section
variable {X : Cx}
def rSortedTx (K : PySem.W.Frag) : List V → Hp → VK → Prop := fun vs H Q => ∃ (a : Addr) (xs : List Str), vs = [.ref a] ∧ SqT K H a (xs.map V.str) ∧ ∀ (ys : List Str) (p : Addr), ys.Perm xs → sortedS ys = true → H p = none → Q (.ref p) (upd H p (.lst (ys.map V.str)))
theorem cr_sortedTx : CallR X (.builtin "sorted") (rSortedTx X.K) := by
  intro pins s σ H vs us Q I r h
  obtain ⟨a, xs, rfl, hs, q⟩ := h
  obtain ⟨its, rv, pl, hz⟩ := I.tuple hs
  rw [Vals.ref1 r]
  have hz' : its.toArray.size ≤ sizeLine := by
    rw [List.size_toArray, ← rv.length]
    exact hz
  refine sorted_texts (ss := xs) pl (by simpa using rv.strs) hz' fun h' p out e ys k n0 g b1 b2 b3 => ?_
  have hn : H p = none := I.hok.gone n0
  refine ⟨.ref p, upd H p (.lst (ys.map V.str)), I.laidN (t' := s.toks) k n0 hn ⟨?_, out.toList, e, vals_of_strs b1, ?_⟩, rfl, q ys p b2 b3 hn⟩
  · rw [List.length_map, b2.length_eq, ← List.length_map (f := V.str)]
    exact hz
  · rw [g]
end
end
section
open L2 PySem PySem.Spec PyProof.Rows
section
variable {X : Cx} {K : PySem.W.Frag}
theorem k_sortedTx (hK : X.K = K := by rfl) : CallR X (.builtin "sorted") (rSortedTx K) := by subst hK; exact cr_sortedTx
end
theorem idx_first {ys : List Str} {z : Str} (h : z ∈ ys) : ys[ys.idxOf z]? = some z ∧ ∀ m, m < ys.idxOf z → ys[m]? ≠ some z := by
  have lt := List.idxOf_lt_length_iff.mpr h
  refine ⟨by rw [List.getElem?_eq_getElem lt, List.getElem_idxOf], fun m hm e => ?_⟩
  obtain ⟨hm2, e2⟩ := List.getElem?_eq_some_iff.mp e
  have := List.not_of_lt_findIdx (p := (· == z)) (xs := ys) hm
  rw [e2] at this
  simp at this
end
section
open L2 PySem PySem.Spec PyProof.Rows
def obOk (ob : Obj) : Prop := ob.cls = .type "tuple" ∧ ob.dict = none
def FT (H : Hp) (p : Addr) (xs : List V) : Prop := ∃ ob, H p = some (.frz ob (.tup xs)) ∧ obOk ob
theorem FT.sq {K : PySem.W.Frag} {H : Hp} {p : Addr} {xs : List V} (h : FT H p xs) : SqT K H p xs := let ⟨ob, e, _⟩ := h; .inl (.inr ⟨ob, e⟩)
theorem FT.new {H : Hp} {p : Addr} {xs : List V} {ob : Obj} (h : obOk ob) : FT (upd H p (.frz ob (.tup xs))) p xs := ⟨ob, upd_same, h⟩
theorem FT.same {H H' : Hp} {p : Addr} {xs : List V} (h : FT H p xs) (k : Same H H') : FT H' p xs := let ⟨ob, e, o⟩ := h; ⟨ob, k _ _ e, o⟩
theorem FT.ch {H H' : Hp} {a p : Addr} {c : Int} {xs : List V} (h : FT H p xs) (k : Ch a H H') (f : Fd H a c) : FT H' p xs := by
  obtain ⟨ob, e, o⟩ := h
  obtain ⟨x, y, n, e2, _⟩ := f
  exact ⟨ob, k p _ (fun z => by rw [z, e2] at e; cases e) e, o⟩
section
variable {X : Cx}
theorem lay_tup {pins : List (Addr × Obj)} {σ : L2.St} {H : Hp} {s : Shared} {xs : List V} {us : List Value} (I : Inv X pins σ H s) (r : Vals xs us) (z : xs.length ≤ sizeLine) :
    ∃ (p : Addr) (ob : Obj), p = s.heap.objs.size ∧ obOk ob ∧ H p = none ∧ Inv X pins σ (upd H p (.frz ob (.tup xs))) { s with heap := s.heap.push { cls := .type "tuple", data := .seq us.toArray } } :=
  ⟨s.heap.objs.size, { cls := .type "tuple", data := .seq us.toArray }, rfl, ⟨rfl, rfl⟩, I.hok.fresh (Nat.le_refl _), I.laid (t' := s.toks) (fun b u e => Heap.get?_push_of_some _ e) (Nat.le_refl _)
    ⟨Heap.get?_push_size _ rfl, z, us, r, ⟨_, Heap.get?_push_size _ rfl, rfl, _, rfl⟩⟩⟩
def rTupleF (K : PySem.W.Frag) : List V → Hp → VK → Prop := fun xs H Q => ∃ p ys, xs = [.ref p] ∧ SqL K H p ys ∧ ∀ l ob, H l = none → obOk ob → Q (.ref l) (upd H l (.frz ob (.tup ys)))
theorem cr_tupleF : CallR X (.type "tuple") (rTupleF X.K) := by
  intro pins s σ H xs us Q I r h
  obtain ⟨p, ys, rfl, hq, q⟩ := h
  rw [Vals.ref1 r]
  obtain ⟨its, r', pl, hz⟩ := I.list hq
  have hl := r'.length
  refine call_tuple_list pl.isList (fun h' kp => ?_) (by simp only [List.size_toArray] <;> omega)
  obtain ⟨p, ob, rfl, ok, n, J⟩ := lay_tup (I.kept (t' := s.toks) kp : Inv X pins σ H { s with heap := h' }) r' hz
  exact ⟨.ref _, _, J, rfl, q _ ob n ok⟩
def rSlF (K : PySem.W.Frag) : V → Option Int → Option Int → Hp → VK → Prop := fun x lo hi H Q => ∃ a xs, x = .ref a ∧ SqT K H a xs ∧
  (HT.sIx xs.length 0 lo = 0 ∧ HT.sIx xs.length xs.length hi = xs.length → Q (.ref a) H) ∧ (¬ (HT.sIx xs.length 0 lo = 0 ∧ HT.sIx xs.length xs.length hi = xs.length) → ∀ p ob, H p = none → obOk ob → Q (.ref p) (upd H p (.frz ob (.tup (cutV xs lo hi)))))
theorem sl_tupF : SlR X (rSlF X.K) := by
  intro pins s σ H x v vl vu lo hi sl Q I rx hs pl pu h
  obtain ⟨a, xs, rfl, hx, q1, q2⟩ := h
  cases rx
  obtain ⟨its, r, ht, hz⟩ := I.tuple hx
  have hl : its.toArray.size = xs.length := by rw [List.size_toArray]; exact r.length.symm
  refine ⟨"tuple", _, PyProof.Rows.slot_tuple_getitem.lookup, ht.typeIs, ?_⟩
  by_cases hw : HT.sIx xs.length 0 lo = 0 ∧ HT.sIx xs.length xs.length hi = xs.length
  · exact getItem_tuple_whole ht hs pl pu (by rw [hl]; exact hw) ⟨.ref a, H, I, rfl, q1 hw⟩
  · refine HT.getItem_tuple_cut ht hs pl pu (by rw [hl]; exact hw) ?_ (by rw [hl]; exact hz)
    rw [hl]
    obtain ⟨p, ob, rfl, ok, n, J⟩ := lay_tup I ((r.drop (HT.sIx xs.length 0 lo)).take (HT.sIx xs.length xs.length hi - HT.sIx xs.length 0 lo)) (Nat.le_trans (cutV_length xs lo hi) hz)
    exact ⟨.ref _, _, J, rfl, q2 hw _ ob n ok⟩
end
section
variable {P : Program} {w : World} {A : Around} {E : Value → Shared → Prop} {s : Shared}
theorem applied_back {sl : Addr} {c : Value} {n : Nat} {Q : Int × Int × Nat → Shared → Prop} (hs : s.heap.IsSliceOf sl .none .none c) (pc : IsPart c (some (-1))) (q : Q ((n : Int) - 1, -1, n) s) : wpAny (model P w) A (Builtin.Slice.sliceApplied (.ref sl) (pure (n : Int))) Q E s := by
  obtain ⟨os, hos, hcs, hds⟩ := id hs
  unfold Builtin.Slice.sliceApplied Builtin.Slice.sliceFields
  refine wpAny_bind (wpAny_bind (wpAny_field hos hds (x := .none) rfl (wpAny_bind (wpAny_field hos hds (x := .none) rfl (wpAny_bind (wpAny_field hos hds (x := c) rfl (wpAny_pure ?_)))))))
  refine wpAny_bind (HT.slicePart_ pc ?_)
  show wpAny _ _ (if ((-1 : Int) == 0) = true then _ else _) _ _ s
  rw [if_neg (by decide)]
  refine wpAny_bind (HT.slicePart_ .none (wpAny_bind (HT.slicePart_ .none (wpAny_bind (wpAny_pure ?_)))))
  have e1 : Builtin.Slice.sliceAdjust none none (-1) (n : Int) = ((n : Int) - 1, -1) := by
    unfold Builtin.Slice.sliceAdjust
    simp
  have e2 : Builtin.Slice.slicePlaces ((n : Int) - 1) (-1) (-1) = n := by
    unfold Builtin.Slice.slicePlaces
    have h1 : ¬ ((-1 : Int) > 0) := by decide
    simp only [h1, if_false]
    by_cases h : (n : Int) - 1 > -1
    · rw [if_pos h, show (- -1 : Int) = 1 from by decide, Int.ediv_one]
      omega
    · rw [if_neg h]
      omega
  show wpAny _ _ (match Builtin.Slice.sliceAdjust none none (-1) (n : Int) with | (lo, hi) => pure (lo, (-1 : Int), Builtin.Slice.slicePlaces lo hi (-1))) _ _ s
  rw [e1]
  show wpAny _ _ (pure ((n : Int) - 1, (-1 : Int), Builtin.Slice.slicePlaces ((n : Int) - 1) (-1) (-1))) _ _ s
  rw [e2]
  exact wpAny_pure q
theorem back_pick (xs : Array Value) : ((List.range xs.size).filterMap fun (k : Nat) => xs[(((xs.size : Int) - 1) + (k : Int) * -1).toNat]?) = xs.toList.reverse := by
  rw [show (fun (k : Nat) => xs[(((xs.size : Int) - 1) + (k : Int) * -1).toNat]?) = fun k => xs[xs.size - 1 - k]? from funext fun k => by
    rw [show (((xs.size : Int) - 1) + (k : Int) * -1).toNat = xs.size - 1 - k from by omega]]
  have h := PySem.W.krv_all xs
  have e : (List.range xs.size).filterMap (fun k => xs[xs.size - 1 - k]?) = ((List.range xs.size).map fun k => xs.size - 1 - k).filterMap (xs[·]?) := by
    rw [List.filterMap_map]
    rfl
  rw [e, PySem.W.krv_range, List.filterMap_reverse, h]
theorem getItem_back {t sl : Addr} {items : Array Value} {c : Value} {Q : Value → Shared → Prop} (ht : IsTup s.heap t items) (hs : s.heap.IsSliceOf sl .none .none c) (pc : IsPart c (some (-1)))
    (q : Q (.ref s.heap.objs.size) { s with heap := s.heap.push { cls := .type "tuple", data := .seq items.toList.reverse.toArray } }) (hz : items.size ≤ sizeLine) : wpAny (model P w) A (getItem (.ref t) (.ref sl)) Q E s := by
  obtain ⟨os, hos, hcs, _⟩ := id hs
  have ty : s.TypeIs (.ref sl) "slice" := ⟨os, hos, hcs⟩
  unfold getItem
  try with_reducible refine wpAny_holding ?_
  first | refine wpAny_bind (wpAny_pure ?_) | skip
  refine wpAny_bind (wpAny_sequenceKey ht.typeIs (by decide) ?_)
  refine wpAny_bind (wpAny_callSpecial?_slot (name := Str.ofString "__getitem__") ht.typeIs PyProof.Rows.slot_tuple_getitem (wpAny_call_entry PyProof.Rows.slot_tuple_getitem ht.typeIs entry_tuple_getitem ?_ (args_tuple_getitem _ _)))
  show wpAny _ _ (Builtin.Tuple.tupleItemsOf (.ref t) >>= _) _ _ s
  refine wpAny_bind (tupleItemsOf_ ht (wpAny_bind (wpAny_typeOf ty ?_)))
  rw [if_pos (by decide)]
  refine wpAny_bind (applied_back hs pc ?_)
  have no : ¬ ((((items.size : Int) - 1) == 0 && (-1 : Int) == 1 && items.size == items.size) = true) := by
    simp
  show wpAny _ _ (if (((items.size : Int) - 1) == 0 && (-1 : Int) == 1 && items.size == items.size) = true then _ else _) _ _ s
  rw [if_neg no]
  have fit : sizeOk (.seq items.toList.reverse.toArray) := by
    show items.toList.reverse.toArray.size ≤ sizeLine
    rw [List.size_toArray, List.length_reverse, Array.length_toList]
    exact hz
  rw [back_pick]
  first
    | exact wpAny_bind (m := Builtin.Tuple.tupleExact _) (wpAny_newObj_type (wpAny_pure ⟨_, rfl, wpAny_pure q⟩) fit)
    | exact wpAny_bind (m := Builtin.Tuple.tupleExact _) (wpAny_newObj_type (wpAny_bind (wpAny_pure (wpAny_pure ⟨_, rfl, wpAny_pure q⟩))) fit)
    | exact wpAny_bind (wpAny_bind (m := Builtin.Tuple.tupleExact _) (wpAny_newObj_type (wpAny_pure (wpAny_pure ⟨_, rfl, wpAny_pure q⟩)) fit))
    | exact wpAny_bind (wpAny_bind (m := Builtin.Tuple.tupleExact _) (wpAny_newObj_type (wpAny_pure ⟨_, rfl, wpAny_pure q⟩) fit))
end
section
variable {X : Cx} {K : PySem.W.Frag}
def tRevT (K : PySem.W.Frag) (te : TE) : TE := fun σ H Q => te σ H fun x H1 => ∃ a xs, x = .ref a ∧ SqT K H1 a xs ∧ ∀ p ob, H1 p = none → obOk ob → Q (.ref p) (upd H1 p (.frz ob (.tup xs.reverse)))
theorem pe_revT {e : Expr} {te : TE} {k : Nat} {p1 p2 p3 pos : Pos} (he : PE X e te) (hK : X.K = K := by rfl) : PE X (.Subscript e (.Slice none none (some (.UnaryOp .USub (.Constant (.int 1) k p1) p2)) p3) pos) (tRevT K te) := by
  subst hK
  refine ⟨fun pins s σ H Q I h => ?_⟩
  refine Subscript_ (thn (he.run pins s σ H _ I h) fun v s1 ⟨x, H1, I1, r1, a, xs, ex, hx, q⟩ => ?_)
  subst ex
  cases r1
  have st : PO X (some (.UnaryOp .USub (.Constant (.int 1) k p1) p2)) (tPart (tUn (rU fun i => .int (-i)) (tC (.int 1)))) := po_some (pe_un un_neg pe_int)
  refine wpAny_Slice (thn (po_none.run pins s1 σ H1 (fun o H2 => o = none ∧ H2 = H1) I1 ⟨rfl, rfl⟩) fun vl s2 ⟨l, H2, I2, pl, el, e2⟩ => ?_)
  subst el e2
  refine thn (po_none.run pins s2 σ H2 (fun o H3 => o = none ∧ H3 = H2) I2 ⟨rfl, rfl⟩) fun vu s3 ⟨u, H3, I3, pu, eu, e3⟩ => ?_
  subst eu e3
  refine thn (st.run pins s3 σ H3 (fun o H4 => o = some (-1) ∧ H4 = H3) I3 ⟨1, rfl, -1, rfl, rfl, rfl⟩) fun vs s4 ⟨o, H4, I4, ps, eo, e4⟩ => ?_
  subst eo e4
  cases pl
  cases pu
  have I5 : Inv X pins σ H4 { s4 with heap := s4.heap.push { cls := .type "slice", data := .fields #[.none, .none, vs] } } := I4.kept (t' := s4.toks) fun b ob q => Heap.get?_push_of_some _ q
  obtain ⟨its, r, ht, hz⟩ := I5.tuple hx
  have hl := r.length
  show wpAny (model X.prog X.w) X.A (subscriptTail e (.Slice none none (some (.UnaryOp .USub (.Constant (.int 1) k p1) p2)) p3) (.ref a) (.ref s4.heap.objs.size)) (EP X pins σ Q) X.xe { s4 with heap := s4.heap.push { cls := .type "slice", data := .fields #[.none, .none, vs] } }
  refine tail_any (ops := [.ref a, .ref s4.heap.objs.size]) (T := "tuple") ht.typeIs PyProof.Rows.slot_tuple_getitem.lookup ?_ (by with_unfolding_all rfl)
  refine getItem_back ht (Heap.IsSliceOf.new _ .none .none vs) ps ?_ (by rw [List.size_toArray]; omega)
  obtain ⟨p, ob, rfl, ok, n, J⟩ := lay_tup I5 (xs := xs.reverse) (us := its.toArray.toList.reverse) (by simpa using r.reverse) (by rw [List.length_reverse]; exact hz)
  exact ⟨.ref _, _, J, rfl, q _ ob n ok⟩
theorem k_tupleF (hK : X.K = K := by rfl) : CallR X (.type "tuple") (rTupleF K) := by subst hK; exact cr_tupleF
theorem ksl_tupF (hK : X.K = K := by rfl) : SlR X (rSlF K) := by subst hK; exact sl_tupF
variable {o e : Expr} {es : List Expr} {to : TE} {t : TA} {name : Str} {apos cpos : Pos} {id : String} {r : V → List V → Hp → VK → Prop}
end
section
variable {σ : L2.St} {H : Hp} {Q : VK} {K : PySem.W.Frag}
theorem i_revT {te : TE} (h : te σ H fun x H1 => ∃ a xs, x = .ref a ∧ SqT K H1 a xs ∧ ∀ p ob, H1 p = none → obOk ob → Q (.ref p) (upd H1 p (.frz ob (.tup xs.reverse)))) : tRevT K te σ H Q := h
end
end
section
open L2 PySem PySem.Spec PyProof.Rows
section
variable {σ : L2.St} {H : Hp} {Q : VK} {K : PySem.W.Frag} {te : TE} {R : It → Hp → Prop}
def isK (R : It → Hp → Prop) : V → Hp → Prop := fun x H1 => ∃ z, x = .str z ∧ R (Its z) H1
theorem i_istr {t : TE} (h : t σ H (isK R)) : iStr t σ H R := h
theorem i_isK {z : Str} (h : R (Its z) H) : isK R (.str z) H := ⟨z, rfl, h⟩
theorem p_str {v : Nat} (z : Str) (f : Nat → V) (hz : z.cps.size ≤ 100000)
    (hs : ∀ D acc i c (N : VK), H D = none → z.cps[i]? = some c → N (f i) (upd H D (.lst acc)) → te ((wipe σ [v]).set v (some (.str ⟨#[c]⟩))) (upd H D (.lst acc)) N)
    (hd : ∀ D, H D = none → Q (.ref D) (upd H D (.lst ((List.range z.cps.size).map f)))) : lcK (gName v) tYes te [v] σ Q (Its z) H := by
  intro D nD
  refine ⟨fun i m H' => m = z.cps.size - i ∧ i ≤ z.cps.size ∧ H' = upd H D (.lst ((List.range i).map f)), ⟨z.cps.size, by simp, Nat.zero_le _, rfl⟩, ?_⟩
  rintro i m H' ⟨rfl, hi, rfl⟩
  by_cases lt : i < z.cps.size
  · refine .inr ⟨lt, fun H' => H' = upd H D (.lst ((List.range (i + 1)).map f)), fun H' e => ⟨z.cps.size - (i + 1), by omega, rfl, lt, e⟩, ?_⟩
    rintro x H' ⟨rfl, c, hc, rfl⟩
    refine ⟨?_, ?_⟩
    · show List.set (List.set (List.set σ v none) v (some _)) v none = List.set σ v none
      rw [List.set_set, List.set_set]
    · show te _ _ _
      refine hs D _ i c _ nD hc ⟨_, upd_same, ?_, ?_⟩
      · rw [List.length_map, List.length_range, sizeLine_eq]
        omega
      · rw [upd_upd, List.range_succ, List.map_append]
        rfl
  · have e : i = z.cps.size := by omega
    subst e
    exact .inl ⟨Nat.le_refl _, hd D nD⟩
end
theorem nm_parts {z : Str} (h : nmOk z = true) : ∃ c r, z.cps.toList = c :: r ∧ r.length ≤ 7 ∧ (97 ≤ c ∧ c ≤ 122) ∧ ∀ x ∈ r, nmSign x = true := by
  unfold nmOk at h
  split at h
  · cases h
  · rename_i c r e
    simp only [Bool.and_eq_true, decide_eq_true_eq, List.all_eq_true] at h
    exact ⟨c, r, e, h.1.1, h.1.2, h.2⟩
theorem road_parts {K : PySem.W.Frag} {H : Hp} {v : V} {r : Str × Str} (h : Dp K H v (roadD r)) : ∃ t, v = .ref t ∧ SqT K H t [.str r.1, .str r.2] := by
  cases h with
  | tup s1 a1 =>
    cases a1 with
    | cons g1 g2 =>
      cases g1
      cases g2 with
      | cons g3 g4 =>
        cases g3
        cases g4
        exact ⟨_, rfl, s1⟩
section
variable {H : Hp} {Q : VK} {K : PySem.W.Frag}
theorem cut_whole {xs : List V} {lo hi : Option Int} (h : HT.sIx xs.length 0 lo = 0 ∧ HT.sIx xs.length xs.length hi = xs.length) : cutV xs lo hi = xs := by
  unfold cutV
  rw [h.1, h.2, List.drop_zero, Nat.sub_zero, List.take_of_length_le (Nat.le_refl _)]
theorem i_slF {a : Addr} {xs : List V} {lo hi : Option Int} (e : FT H a xs) (h : ∀ p H', Same H H' → FT H' p (cutV xs lo hi) → Q (.ref p) H') : rSlF K (.ref a) lo hi H Q :=
  ⟨a, xs, rfl, e.sq, fun w => h a H (fun _ _ z => z) (by rw [cut_whole w]; exact e), fun _ p ob n ok => h p _ (Same.upd_new n) (FT.new ok)⟩
theorem cut_from {xs : List V} {k : Nat} : cutV xs (some (k : Int)) none = xs.drop k := by
  unfold cutV
  rw [HT.sIx_none, HT.sIx_nat]
  by_cases h : k ≤ xs.length
  · rw [Nat.min_eq_left h, List.take_of_length_le (by rw [List.length_drop]; exact Nat.le_refl _)]
  · rw [Nat.min_eq_right (by omega), List.drop_of_length_le (Nat.le_refl _), List.drop_of_length_le (by omega), List.take_nil]
end
end
section
open L2 PySem PySem.Spec PyProof.Rows
def g2 {α : Type} (us ws : List α) : List α := match us, ws with
  | [], [o] => [o]
  | [], [o, w] => [w, o]
  | [], [o, w, z] => [z, w, o]
  | [], [o, w, z, y] => [y, z, w, o]
  | _, _ => []
theorem g2_rel : ∀ {vs : List V} {us : List Value} {zs : List V} {ws : List Value}, Vals vs us → Vals zs ws → Vals (g2 vs zs) (g2 us ws)
  | [], [], [], [], _, _ => .nil
  | [], [], [_], [_], _, .cons x .nil => .cons x .nil
  | [], [], [_, _], [_, _], _, .cons x (.cons y .nil) => .cons y (.cons x .nil)
  | [], [], [_, _, _], [_, _, _], _, .cons x (.cons y (.cons z .nil)) => .cons z (.cons y (.cons x .nil))
  | [], [], [_, _, _, _], [_, _, _, _], _, .cons x (.cons y (.cons z (.cons a .nil))) => .cons a (.cons z (.cons y (.cons x .nil)))
  | [], [], _ :: _ :: _ :: _ :: _ :: _, _ :: _ :: _ :: _ :: _ :: _, _, _ => .nil
  | _ :: _, _ :: _, _, _, _, _ => .nil
theorem kb1 {K : PySem.W.Frag} {fd : FuncData} {ps ks : List Str} (hp : ps.length = 1) (h : ∀ a : Value, bindArgs fd ⟨[], ks.zip [a]⟩ = pure (ps.zip [a])) : KBinds K fd ps ks g2 g2 := by
  refine ⟨fun s us ws _ hl => ?_, g2_rel⟩
  rw [hp] at hl
  rcases us with _ | ⟨u, us⟩
  · rcases ws with _ | ⟨a, _ | ⟨b, _ | ⟨c, _ | ⟨d, _ | ⟨e, ws⟩⟩⟩⟩⟩
    · exact absurd hl (by simp [g2])
    · exact .of_eq (h a)
    · exact absurd hl (by simp [g2])
    · exact absurd hl (by simp [g2])
    · exact absurd hl (by simp [g2])
    · exact absurd hl (by simp [g2])
  · exact absurd hl (by simp [g2])
structure ClK (P : Program) (w : World) (K : PySem.W.Frag) (mg : Str → Option Value) (base : Heap) (k : Nat) (x : Str) (ps ks : List Str) (sp : Sp) : Prop where
  ex : ∃ (f : Addr) (fd : FuncData), FnOk P w K mg base CX0 k f fd ps sp ∧ mg x = some (.ref f) ∧ PySem.W.keepIn K (.ref f) = true ∧ KBinds K fd ps ks g2 g2
structure Dk (K : PySem.W.Frag) (mg : Str → Option Value) (x : String) (st : Stmt) (ps ks : List Str) : Prop where
  ex : ∃ (f : Addr) (fd : FuncData), Fun K x x st f fd ∧ mg x = some (.ref f) ∧ KBinds K fd ps ks g2 g2
section
variable {base : Heap} {P : Program} {w : World} {K : PySem.W.Frag} {mg : Str → Option Value}
theorem Dk.cl {x : String} {st : Stmt} {N ps ks : List Str} {k : Nat} {sp : Sp} (D : Dk K mg x st ps ks) (S : FnScope N ps (defScope st)) (len : ∀ vs H Q E, sp vs H Q E → vs.length = ps.length)
    (bd : ∀ (f : Addr) (cdv : Value) (A : Around) (fr : List Env) (s : Shared) (H : Hp) (vs : List V) (Q : VK) (E : XK), Room k (A.deeper (envOfC x (defScope st) s.heap.objs.size f cdv)) → sp vs H Q E →
      ∃ t, PSs (cxOf CX0 P w K mg base N x (defScope st) f cdv A fr s H E).nox (defBody st) t ∧ t { nx := fun _ H' => Q .non H', rt := Q } (start N vs) H) : ClK P w K mg base (k + 1) x ps ks sp := by
  obtain ⟨f, fd, F, hm, b⟩ := D.ex
  exact ⟨f, fd, F.ok S len (bd f), hm, F.kp, b⟩
end
section
variable {X : Cx} {k k' : Nat} {ps ks : List Str} {sp : Sp} {x : Str} {p pos : Pos} {kws : List Keyword} {tk : TA}
def tCallK0 (sp : Sp) (tk : TA) : TE := fun σ H Q => tk σ H fun zs H1 => sp (g2 [] zs) H1 Q (fun _ _ _ => False)
theorem pe_ck (C : ClK X.prog X.w X.K X.mg X.base k x ps ks sp) (hr : Room k' X.A) (hkw : PK X kws tk) (hg : Gl X x := by rfl) (hk : k ≤ k' := by decide) (hall : (backToKw pos (keywordEach kws X.env)).all (·.1.isSome) = true := by rfl) (hks : (backToKw pos (keywordEach kws X.env)).filterMap (·.1) = ks := by rfl)
    (hdb : (x == ("__debug__" : Str)) = false := by decide) (hpl : ((backTo pos (starEach [] X.env)).any (·.1) || (backToKw pos (keywordEach kws X.env)).any (·.1.isNone)) = false := by rfl) : PE X (.Call (.Name x p) [] kws pos) (tCallK0 sp tk) := by
  obtain ⟨f, fd, F, hm, kp, b⟩ := C.ex
  refine ⟨fun pins s σ H Q I h => ?_⟩
  refine wpAny_Call_Name_kw (ld_glob I hg hm ?_ hdb)
  refine PySem.W.callWith_KW0 (h₀ := X.base) I.ok.mod.kin kp hall (thn (hkw.run pos pins s σ H _ I h) fun ws s2 ⟨zs, H2, I2, rz, q2⟩ => ⟨I2.kIn, ?_⟩) hpl
  rw [hks]
  exact run_fnk F (hr.mono hk) b pass0 I2 .nil rz q2
end
end
section
open L2 PySem PySem.Spec PyProof.Rows
def NmR (r : Str × Str) : Prop := nmOk r.1 = true ∧ nmOk r.2 = true
theorem nm_size {z : Str} (h : nmOk z = true) : z.cps.size ≤ 8 := by
  obtain ⟨c, r, e, h7, _⟩ := nm_parts h
  rw [← Array.length_toList, e, List.length_cons]
  omega
theorem roads_data : ∀ l : List (Str × Str), (∀ r ∈ l, NmR r) → PyData.canLayAll0 (l.map roadD) = true ∧ PyData.showableAll (l.map roadD) = true ∧ PyData.hasDictAll (l.map roadD) = false ∧ PyData.depthAll (l.map roadD) ≤ 1 ∧
    PyData.weightAll (l.map roadD) ≤ 40 * l.length ∧ PyData.intsShortAll 13 (l.map roadD) = true ∧ noBAll (l.map roadD) = true
  | [], _ => ⟨rfl, rfl, rfl, Nat.zero_le _, Nat.le_refl _, rfl, rfl⟩
  | x :: l, h => by
    obtain ⟨a1, a2, a3, a4, a5, a6, a7⟩ := roads_data l fun r hr => h r (List.mem_cons_of_mem _ hr)
    obtain ⟨h1, h2⟩ := h x List.mem_cons_self
    have s1 := nm_size h1
    have s2 := nm_size h2
    refine ⟨?_, ?_, ?_, ?_, ?_, ?_, ?_⟩
    · show ((roadD x).canLay0 && PyData.canLayAll0 (l.map roadD)) = true
      rw [road_lay h1 h2, a1]
      rfl
    · show (true && PyData.showableAll (l.map roadD)) = true
      rw [a2]
      rfl
    · show (false || PyData.hasDictAll (l.map roadD)) = false
      rw [a3]
      rfl
    · show max (max 0 (max 0 0) + 1) (PyData.depthAll (l.map roadD)) ≤ 1
      omega
    · show (x.1.cps.size + 1 + (x.2.cps.size + 1 + 0)) + 1 + PyData.weightAll (l.map roadD) ≤ 40 * (l.length + 1)
      omega
    · show (true && PyData.intsShortAll 13 (l.map roadD)) = true
      rw [a6]
      rfl
    · show (true && noBAll (l.map roadD)) = true
      rw [a7]
      rfl
abbrev rsD (l : List (Str × Str)) : PyData := .tuple (l.map roadD)
theorem rs_shaped {l : List (Str × Str)} (h : ∀ r ∈ l, NmR r) : SeqAt.shaped (rsD l) = true := by
  obtain ⟨a1, _, _, a4, _⟩ := roads_data l h
  show (PyData.canLayAll0 (l.map roadD) && decide (PyData.depthAll (l.map roadD) + 1 ≤ 64)) = true
  rw [a1, decide_eq_true (by omega)]
  rfl
def swp (r : Str × Str) : Str × Str := (r.2, r.1)
end
section
open L2 PySem PySem.Spec PyProof.Rows
section
variable {σ : L2.St} {H : Hp} {Q : VK} {K : PySem.W.Frag} {te : TE}
theorem i_ck {sp : Sp} {tk : TA} (h : tk σ H fun zs H1 => sp (g2 [] zs) H1 Q (fun _ _ _ => False)) : tCallK0 sp tk σ H Q := h
theorem tup_parts {v : V} {ds : List PyData} (h : Dp K H v (.tuple ds)) : ∃ t xs, v = .ref t ∧ SqT K H t xs ∧ DpAll K H xs ds := by
  cases h with
  | tup s a => exact ⟨_, _, rfl, s, a⟩
theorem sqL_ch {H' : Hp} {a q : Addr} {xs : List V} (h : SqL K H a xs) (n : H q = none) (k : Ch q H H') : SqL K H' a xs := by
  rcases h with (e | ⟨o, e⟩) | e
  · exact .inl (.inl (k a _ (ne_of_none e n) e))
  · exact .inl (.inr ⟨o, k a _ (ne_of_none e n) e⟩)
  · exact .inr e
theorem rev_road {H' : Hp} {x : V} {r : Str × Str} {te0 : TE} {σ' : L2.St} {N : VK} (hv : ∀ Q' : VK, Q' x H' → te0 σ' H' Q') (dx : Dp K H' x (roadD r)) (h : ∀ y H'', Same H' H'' → Dp K H'' y (roadD (swp r)) → N y H'') : tRevT K te0 σ' H' N := by
  obtain ⟨t, rfl, st⟩ := road_parts dx
  refine i_revT (hv _ ⟨t, _, rfl, st, fun p ob n ok => h _ _ (Same.upd_new n) ?_⟩)
  exact .tup (xs := [.str r.2, .str r.1]) (FT.new ok).sq (.cons (.str _) (.cons (.str _) .nil))
end
end
section
open L2 PySem PySem.Spec PyProof.Rows
section
variable {X : Cx} {σ : L2.St} {H : Hp} {Q : VK} {K : PySem.W.Frag} {g : TG} {tt : TT} {te : TE} {vs : List Nat} {a b : Addr} {R : It → Hp → Prop}
theorem kpi_zip {e e2 : Expr} {ta : TA} {p pos tpos : Pos} {elts : List Expr} {kk : Nat} (hm : X.mg "zip" = none) (ha : PA X [e, e2] ta) (hK : X.K = K := by rfl) (hg : Gl X "zip" := by rfl)
    (hs : starEach [e, e2] X.env = (false, eval e X.env) :: starEach [e2] X.env := by rfl) (hpl : (backTo pos (starEach [e2] X.env)).any (·.1) = false := by rfl) : PI X (.Tuple elts kk tpos) (.Call (.Name "zip" p) [e, e2] [] pos) (RZ.iZipA K ta) := by
  subst hK
  exact RZ.pi_zipA hg hm ha hs hpl
def zipK (K : PySem.W.Frag) (R : It → Hp → Prop) : List V → Hp → Prop := fun us H1 => ∃ a b xs ys, us = [.ref a, .ref b] ∧ ((SqL K H1 a xs ∧ SqL K H1 b ys ∧ R (Itz K a b) H1) ∨ (SqT K H1 a xs ∧ SqT K H1 b ys ∧ R (RZ.ItzT K a b) H1))
theorem i_zip {ta : TA} (h : ta σ H (zipK K R)) : RZ.iZipA K ta σ H R := h
theorem i_zipT {xs ys : List V} (ha : SqT K H a xs) (hb : SqT K H b ys) (h : R (RZ.ItzT K a b) H) : zipK K R [.ref a, .ref b] H := ⟨a, b, xs, ys, rfl, .inr ⟨ha, hb, h⟩⟩
theorem c_zip (xs ys : List V) (hl : xs.length = ys.length) (Pv : Addr → Nat → Hp → Prop) (h0 : ∀ D, H D = none → Pv D 0 (upd H D (.lst []))) (ha : ∀ D i H, Pv D i H → SqT K H a xs ∧ SqT K H b ys)
    (hs : ∀ D i x y H T, xs[i]? = some x → ys[i]? = some y → Pv D i H → H T = none → g (.ref T) (wipe σ vs) (upd H T (.tup [x, y])) fun σ2 H2 => wipe σ2 vs = wipe σ vs ∧ tt σ2 H2 fun c H3 => if c = true then te σ2 H3 (lcE D (Pv D (i + 1))) else Pv D (i + 1) H3)
    (hd : ∀ D H, Pv D xs.length H → Q (.ref D) H) : lcK g tt te vs σ Q (RZ.ItzT K a b) H := by
  intro D nD
  refine ⟨fun i m H => m = xs.length - i ∧ i ≤ xs.length ∧ Pv D i H, ⟨xs.length, by simp, Nat.zero_le _, h0 D nD⟩, ?_⟩
  rintro i m H ⟨rfl, hi, p⟩
  obtain ⟨qa, qb⟩ := ha D i H p
  by_cases lt : i < xs.length
  · have lt2 : i < ys.length := by omega
    refine .inr ⟨⟨xs, ys, xs[i], ys[i], qa, qb, by simp [lt], by simp [lt2]⟩, Pv D (i + 1), fun H' p' => ⟨xs.length - (i + 1), by omega, rfl, lt, p'⟩, fun v H' y => ?_⟩
    obtain ⟨T, x, z, rfl, nT, rfl, hx, hz⟩ := y
    exact hs D i x z H T (hx xs qa) (hz ys qb) p nT
  · have e : i = xs.length := by omega
    subst e
    exact .inl ⟨⟨xs, ys, qa, qb, .inl (Nat.le_refl _)⟩, hd D H p⟩
end
def spJoined (K : PySem.W.Frag) : Sp := fun vs H Q _ => ∃ (v : V) (x y : Str) (ps : List Str) (rs : List (Str × Str)), vs = [v, .str x, .str y] ∧ Dp K H v (webD ps rs) ∧ IsWeb ps rs ∧ x ∈ ps ∧ y ∈ ps ∧ ∀ H', Same H H' → Q (.bl (isRoad rs x y)) H'
def natsV (t : List Nat) : List V := t.map fun n => V.int ((n : Nat) : Int)
end
section
open L2 PySem PySem.Spec PyProof.Rows
def iD (n : Nat) : PyData := .int ((n : Nat) : Int)
theorem cut_take {xs : List V} {k : Nat} : cutV xs none (some (k : Int)) = xs.take k := by
  unfold cutV
  rw [HT.sIx_none, HT.sIx_nat, List.drop_zero, Nat.sub_zero]
  by_cases z : k ≤ xs.length
  · rw [Nat.min_eq_left z]
  · rw [Nat.min_eq_right (by omega), List.take_of_length_le (Nat.le_refl _), List.take_of_length_le (by omega)]
end
section
open L2 PySem PySem.Spec PyProof.Rows
section
variable {K : PySem.W.Frag} {H H' : Hp} {a : Addr} {c : Int} {v : V} {k : Nat} {ps : List Str} {rs : List (Str × Str)} {ds : List PyData}
def WF (K : PySem.W.Frag) (H : Hp) (v : V) (ps : List Str) (rs : List (Str × Str)) : Prop := ∃ (t tp tr : Addr), v = .ref t ∧ SqT K H t [.ref tp, .ref tr] ∧ FT H tp (ps.map V.str) ∧ Dp K H (.ref tr) (.tuple (rs.map roadD))
theorem WF.dp (h : WF K H v ps rs) : Dp K H v (webD ps rs) := by
  obtain ⟨t, tp, tr, rfl, s, f, d⟩ := h
  exact .tup s (.cons (.tup f.sq (DpAll.strs ps)) (.cons d .nil))
theorem WF.same (h : WF K H v ps rs) (s : Same H H') : WF K H' v ps rs := by
  obtain ⟨t, tp, tr, rfl, q, f, d⟩ := h
  exact ⟨t, tp, tr, rfl, TK.same s _ _ q, f.same s, Dp.same s _ _ d⟩
theorem WF.ch (h : WF K H v ps rs) (s : Ch a H H') (f : Fd H a c) : WF K H' v ps rs := by
  obtain ⟨t, tp, tr, rfl, q, g, d⟩ := h
  have tk := TK.ch (K := K) s f
  exact ⟨t, tp, tr, rfl, tk _ _ q, g.ch s f, Dp.tk tk _ _ (roads_only rs) d⟩
theorem WF.lst {D : Addr} {o : HO} {xs : List V} (h : WF K H v ps rs) (e : H D = some (.lst xs)) : WF K (upd H D o) v ps rs := by
  obtain ⟨t, tp, tr, rfl, q, ⟨ob, g, k⟩, d⟩ := h
  have tk := TK.lst (K := K) (o := o) e
  refine ⟨t, tp, tr, rfl, tk _ _ q, ⟨ob, ?_, k⟩, Dp.tk tk _ _ (roads_only rs) d⟩
  rw [upd_ne (fun z => by rw [z, e] at g; cases g)]
  exact g
def HF (K : PySem.W.Frag) (H : Hp) (v : V) (k : Nat) (ps : List Str) (rs : List (Str × Str)) (ds : List PyData) : Prop := ∃ (t T : Addr) (wv : V), v = .ref t ∧ SqT K H t [.int k, wv, .ref T] ∧ WF K H wv ps rs ∧ Dp K H (.ref T) (.tuple ds) ∧ tupOnlyAll ds = true
theorem HF.dp (h : HF K H v k ps rs ds) : Dp K H v (hallD k ps rs ds) := by
  obtain ⟨t, T, wv, rfl, s, w, d, _⟩ := h
  exact .tup s (.cons (.int _) (.cons w.dp (.cons d .nil)))
theorem HF.same (h : HF K H v k ps rs ds) (s : Same H H') : HF K H' v k ps rs ds := by
  obtain ⟨t, T, wv, rfl, q, w, d, u⟩ := h
  exact ⟨t, T, wv, rfl, TK.same s _ _ q, w.same s, Dp.same s _ _ d, u⟩
theorem HF.ch (h : HF K H v k ps rs ds) (s : Ch a H H') (f : Fd H a c) : HF K H' v k ps rs ds := by
  obtain ⟨t, T, wv, rfl, q, w, d, u⟩ := h
  have tk := TK.ch (K := K) s f
  exact ⟨t, T, wv, rfl, tk _ _ q, w.ch s f, Dp.tk tk (.tuple ds) _ u d, u⟩
end
def spWebF (K : PySem.W.Frag) : Sp := fun vs H Q _ => ∃ (a : Addr) (way : Str) (most c : Int), vs = [.ref a, .str way, .int most] ∧ Fd H a c ∧ 1 ≤ most ∧ most ≤ 8 ∧ c < 10 ^ 13 ∧
  ∀ (v : V) (ps : List Str) (rs : List (Str × Str)) (H' : Hp), IsWeb ps rs → (ps.length : Int) ≤ max 3 most → WF K H' v ps rs → Fd H' a (c + 10000) → Ch a H H' → Q v H'
def spHallF (K : PySem.W.Frag) : Sp := fun vs H Q _ => ∃ (a : Addr) (way sort : Str) (most c : Int), vs = [.ref a, .str way, .str sort, .int most] ∧ Fd H a c ∧ 1 ≤ most ∧ most ≤ 8 ∧ c < 10 ^ 11 ∧
  ∀ (v : V) (k : Nat) (ps : List Str) (rs : List (Str × Str)) (ds : List PyData) (H' : Hp), IsHall k ps rs ds → HF K H' v k ps rs ds → Fd H' a (c + 1000000000) → Ch a H H' → Q v H'
end
section
open L2 PySem PySem.Spec PyProof.Rows
theorem cut_all {xs : List V} {lo hi : Option Int} (h : HT.sIx xs.length 0 lo = 0 ∧ HT.sIx xs.length xs.length hi = xs.length) : cutV xs lo hi = xs := by
  unfold cutV
  rw [h.1, h.2, List.drop_zero, Nat.sub_zero, List.take_of_length_le (Nat.le_refl _)]
theorem i_slG {K : PySem.W.Frag} {H : Hp} {Q : VK} {p : Addr} {xs : List V} {lo hi : Option Int} (e : SqT K H p xs) (h : ∀ p' H', Same H H' → SqT K H' p' (cutV xs lo hi) → Q (.ref p') H') : rSlA K (.ref p) lo hi H Q :=
  ⟨p, xs, rfl, e, fun hf => h p H (Same.refl _) (by rw [cut_all hf]; exact e), fun _ p' np' => h p' _ (Same.upd_new np') (sq_tup upd_same)⟩
end
section
open L2 PySem PySem.Spec PyProof.Rows
section
variable {k : Nat} {ps : List Str} {rs : List (Str × Str)} {ds : List PyData} {t : List Nat}
theorem idx_inj {x y : Str} (hx : x ∈ ps) (hy : y ∈ ps) (e : ps.idxOf x = ps.idxOf y) : x = y := by
  have a := (idx_first hx).1
  have b := (idx_first hy).1
  rw [e, b] at a
  exact (Option.some.inj a).symm
end
end
section
open L2 PySem PySem.Spec PyProof.Rows
theorem rising_all : ∀ (l : List Str) (p : Str), risingS p l = true → (∀ y ∈ l, ¬ y.cps.toList < p.cps.toList) ∧ sortedS l = true
  | [], _, _ => ⟨fun _ h => absurd h List.not_mem_nil, rfl⟩
  | x :: r, p, h => by
    have h' : (!ltCps x.cps.toList p.cps.toList && risingS x r) = true := h
    rw [Bool.and_eq_true, PyProof.Rows.ltCps_eq, Bool.not_eq_true', decide_eq_false_iff_not] at h'
    obtain ⟨a1, _⟩ := rising_all r x h'.2
    refine ⟨fun y hy => ?_, h'.2⟩
    rcases List.mem_cons.mp hy with rfl | hy
    · exact h'.1
    · intro c
      have h1 := a1 y hy
      exact absurd c (List.not_lt.mpr (List.le_trans (List.not_lt.mp h'.1) (List.not_lt.mp h1)))
theorem sorted_head {x : Str} {r : List Str} (h : sortedS (x :: r) = true) : (∀ y ∈ r, ¬ y.cps.toList < x.cps.toList) ∧ sortedS r = true := rising_all r x h
theorem str_anti {x y : Str} (a : ¬ x.cps.toList < y.cps.toList) (b : ¬ y.cps.toList < x.cps.toList) : x = y :=
  str_ext (List.le_antisymm (List.not_lt.mp b) (List.not_lt.mp a))
theorem sorted_one : ∀ {a b : List Str}, a.Perm b → sortedS a = true → sortedS b = true → a = b
  | [], b, p, _, _ => (List.Perm.nil_eq p)
  | x :: r, [], p, _, _ => absurd p.length_eq (by simp)
  | x :: r, y :: s, p, ha, hb => by
    obtain ⟨a1, a2⟩ := sorted_head ha
    obtain ⟨b1, b2⟩ := sorted_head hb
    have e : x = y := by
      by_cases e : x = y
      · exact e
      · have hx : x ∈ s := by
          rcases List.mem_cons.mp (p.mem_iff.mp List.mem_cons_self) with q | q
          · exact absurd q e
          · exact q
        have hy : y ∈ r := by
          rcases List.mem_cons.mp (p.mem_iff.mpr List.mem_cons_self) with q | q
          · exact absurd q.symm e
          · exact q
        exact str_anti (b1 x hx) (a1 y hy)
    subst e
    rw [sorted_one ((List.perm_cons x).mp p) a2 b2]
abbrev tsD (l : List Str) : PyData := .tuple (l.map .str)
theorem texts_data : ∀ l : List Str, (∀ z ∈ l, nmOk z = true) → PyData.canLayAll0 (l.map PyData.str) = true ∧ PyData.showableAll (l.map PyData.str) = true ∧ PyData.hasDictAll (l.map PyData.str) = false ∧ PyData.depthAll (l.map PyData.str) = 0 ∧
    PyData.weightAll (l.map PyData.str) ≤ 20 * l.length ∧ PyData.intsShortAll 13 (l.map PyData.str) = true ∧ noBAll (l.map PyData.str) = true
  | [], _ => ⟨rfl, rfl, rfl, rfl, Nat.le_refl _, rfl, rfl⟩
  | x :: l, h => by
    obtain ⟨a1, a2, a3, a4, a5, a6, a7⟩ := texts_data l fun r hr => h r (List.mem_cons_of_mem _ hr)
    have s1 := nm_size (h x List.mem_cons_self)
    refine ⟨strs_lay h, ?_, ?_, ?_, ?_, ?_, ?_⟩
    · show (true && PyData.showableAll (l.map PyData.str)) = true
      rw [a2]
      rfl
    · show (false || PyData.hasDictAll (l.map PyData.str)) = false
      rw [a3]
      rfl
    · show max 0 (PyData.depthAll (l.map PyData.str)) = 0
      omega
    · show x.cps.size + 1 + PyData.weightAll (l.map PyData.str) ≤ 20 * (l.length + 1)
      omega
    · show (true && PyData.intsShortAll 13 (l.map PyData.str)) = true
      rw [a6]
      rfl
    · show (true && noBAll (l.map PyData.str)) = true
      rw [a7]
      rfl
theorem map_str_inj {l m : List Str} (e : l.map PyData.str = m.map PyData.str) : l = m := by
  induction l generalizing m with
  | nil =>
    cases m with
    | nil => rfl
    | cons y s => simp at e
  | cons x r ih =>
    cases m with
    | nil => simp at e
    | cons y s =>
      rw [List.map_cons, List.map_cons] at e
      injection e with e1 e2
      injection e1 with e3
      rw [e3, ih e2]
theorem ts_dp {K : PySem.W.Frag} {H : Hp} {p : Addr} {l : List Str} (h : SqT K H p (l.map V.str)) : Dp K H (.ref p) (tsD l) := .tup h (DpAll.strs l)
theorem Fd.same {H H' : Hp} {a : Addr} {c : Int} (h : Fd H a c) (s : Same H H') : Fd H' a c := let ⟨x, y, n, h1, h2⟩ := h; ⟨x, y, n, s _ _ h1, h2⟩
end
section
open L2 PySem PySem.Spec PyProof.Rows
theorem k_reprB {X : Cx} : CallR X (.builtin "repr") (fun xs H Q => ∃ b, xs = [.bl b] ∧ Q (.str (if b then "True" else "False")) H) := by
  intro pins s σ H xs us Q I r h
  obtain ⟨b, rfl, q⟩ := h
  obtain ⟨u, rfl, t, rfl⟩ := vals1 r
  exact PySem.P.repr_of_bool ⟨.str _, H, I.tok _, ⟨_, rfl⟩, q⟩
end
section
open L2 PySem PySem.Spec PyProof.Rows
open PySem PySem.W PySem.Spec PyProof.Rows L2
section
variable {prog : Program} {w : World} {A : Around} {E : Value → Shared → Prop} {s : Shared}
theorem lk {b : Nat} (k m : Nat) (h : k < m) : b + k < b + m := by omega
theorem ltn {a b : Nat} (k : Nat) (h : a < b) : a ≠ b + k := by omega
end
end
section
open L2 PySem PySem.Spec PyProof.Rows
theorem c_str {g : TG} {tt : TT} {te : TE} {vs : List Nat} {σ : L2.St} {Q : VK} {H : Hp} (z : Str) (Pv : Addr → Nat → Hp → Prop) (h0 : ∀ D, H D = none → Pv D 0 (upd H D (.lst [])))
    (hs : ∀ D i c H, z.cps[i]? = some c → Pv D i H → g (.str ⟨#[c]⟩) (wipe σ vs) H fun σ2 H2 => wipe σ2 vs = wipe σ vs ∧ tt σ2 H2 fun c H3 => if c = true then te σ2 H3 (lcE D (Pv D (i + 1))) else Pv D (i + 1) H3)
    (hd : ∀ D H, Pv D z.cps.size H → Q (.ref D) H) : lcK g tt te vs σ Q (Its z) H := by
  intro D nD
  refine ⟨fun i m H => m = z.cps.size - i ∧ i ≤ z.cps.size ∧ Pv D i H, ⟨z.cps.size, by simp, Nat.zero_le _, h0 D nD⟩, ?_⟩
  rintro i m H ⟨rfl, hi, p⟩
  by_cases lt : i < z.cps.size
  · refine .inr ⟨lt, Pv D (i + 1), fun H' p' => ⟨z.cps.size - (i + 1), by omega, rfl, lt, p'⟩, fun v H' y => ?_⟩
    obtain ⟨rfl, c, hc, rfl⟩ := y
    exact hs D i c _ hc p
  · have e : i = z.cps.size := by omega
    subst e
    exact .inl ⟨Nat.le_refl _, hd D H p⟩
theorem k_notInS {X : Cx} {K : PySem.W.Frag} (hK : X.K = K := by rfl) : OpR X (compareOp .NotIn) (rIn K true) := by subst hK; exact op_notIn_seq
theorem i_notInS {K : PySem.W.Frag} {H : Hp} {Q : VK} {z : Str} {p : Addr} {ns : List Str} (e : SqA K H p (ns.map V.str)) (h : Q (.bl (!decide (z ∈ ns))) H) : rIn K true (.str z) (.ref p) H Q :=
  ⟨p, ns.map V.str, rfl, e, rfl, flat_str, by
    rw [inV_strs]
    exact h⟩
theorem hu1 {k : Nat} {A : Around} (r : Room k A) : A.units + 1 < cLine := by have := r.units; omega
end
section
open L2 PySem PySem.Spec PyProof.Rows
theorem onceT (p : Addr) (zs : Array Value) (m : Nat) (di : Option Addr) (so : Array (Option Value)) (tk : Tok) :
    Meets (Builtin.«tuple.__mul__» ⟨[.ref p, .int 1 tk], []⟩) (fun _ F z => z.heap.get? p = some { cls := .type "tuple", dict := di, data := .seq zs m, slots := so } ∧ F (.ok (.ret (.ref p))) z) :=
  .of_wp fun pr wo Ar F z hz => by
    obtain ⟨he, ge, dr, to, sy⟩ := z
    obtain ⟨hp, hF⟩ := hz
    have ix := AutoSeq1.idx_int
    wp_walk using wpAny_loadPart' hp
    exact ⟨_, rfl, hF⟩
def rRepN (K : PySem.W.Frag) : R2 := fun x y H Q => ∃ (p : Addr) (n : Nat) (xs : List V), x = .ref p ∧ y = .int n ∧ SqT K H p xs ∧ xs ≠ [] ∧ 1 ≤ n ∧ n ≤ 1000 ∧ xs.length ≤ 1000 ∧ ∀ r H', Same H H' → SqT K H' r (List.replicate n xs).flatten → Q (.ref r) H'
section
variable {X : Cx} {K : PySem.W.Frag}
theorem op_repN : OpR X (binaryOp .Mult) (rRepN X.K) := by
  intro pins s σ H x y v u Q I rx ry h
  obtain ⟨p, n, xs, rfl, rfl, hT, hne, h1, h2, hz, q⟩ := h
  by_cases h3 : n = 1
  · subst h3
    cases rx
    obtain ⟨t, rfl⟩ := ry
    obtain ⟨its, r, ⟨⟨cl, di, da, so⟩, ho, hc, m, hd⟩, hs⟩ := I.tuple hT
    simp only at hc hd
    subst hc hd
    refine wpAny_binaryOp_repeat_ref (U := "int") (T := "tuple") (by decide) ⟨_, ho, rfl⟩ (fun z => typeIs_int z ((1 : Nat) : Int) t) noFill_tuple_mul F.fills_int_mul F.slot_int_rmul repeat_tuple F.slot_int_index.lookup ?_
    refine call_meets F.slot_int_rmul (typeIs_int s ((1 : Nat) : Int) t) F.entry_int_rmul (F.args_int_rmul_2 _ _) (int_rmul_tuple ((1 : Nat) : Int) t p its.toArray m di so) ⟨ho, rfl, ⟨_, ho, rfl⟩, ?_⟩
    refine call_meets F.slot_tuple_mul ⟨_, ho, rfl⟩ F.entry_tuple_mul (F.args_tuple_mul_2 _ _) (onceT p its.toArray m di so t) ⟨ho, ?_⟩
    exact ⟨.ref p, H, I, rfl, q p H (Same.refl _) (by rw [List.replicate_one, List.flatten_singleton]; exact hT)⟩
  · exact op_repT pins s σ H _ _ v u Q I rx ry ⟨p, (n : Int), xs, rfl, rfl, hT, hne, by omega, by omega, hz, fun r nr => q r _ (Same.upd_new nr) (.inl (.inl (by rw [Int.toNat_natCast]; exact upd_same)))⟩
end
end
section
open L2 PySem PySem.Spec PyProof.Rows
theorem at_end {α : Type} {xs : List α} {y : α} {i : Nat} (hl : xs.length = i + 1) (h : xs[i]? = some y) : atI xs (-1) = some y := by
  have e : ixN xs.length (-1) = some i := by
    unfold ixN
    rw [if_neg (by decide), if_pos (by omega)]
    congr 1
    omega
  unfold atI
  rw [e]
  exact h
end
section
open L2 PySem PySem.Spec PyProof.Rows
theorem i_catG {K : PySem.W.Frag} {H : Hp} {Q : VK} {a b : Addr} {xs ys : List V} (e : SqT K H a xs) (e2 : SqT K H b ys) (z : xs.length + ys.length ≤ sizeLine) (h : ∀ p H', Same H H' → SqT K H' p (xs ++ ys) → Q (.ref p) H') : rCatA K (.ref a) (.ref b) H Q := by
  refine ⟨a, b, xs, ys, rfl, rfl, e, e2, z, fun hx => ?_, fun _ hy => ?_, fun _ _ p np => h p _ (Same.upd_new np) (sq_tup upd_same)⟩
  · subst hx
    exact h b H (Same.refl _) e2
  · subst hy
    exact h a H (Same.refl _) (by rw [List.append_nil]; exact e)
end
section
open L2 PySem PySem.Spec PyProof.Rows
theorem near_lt {ps : List Str} {rs : List (Str × Str)} {x : Str} (W : IsWeb ps rs) (hx : x ∈ ps) : (nearL ps rs x).length + 1 ≤ ps.length := by
  have no : isRoad rs x x = false := by
    cases h : isRoad rs x x with
    | false => rfl
    | true =>
      have hm : (x, x) ∈ rs := by simpa [isRoad] using h
      exact absurd rfl (W.ends _ hm).2.2
  refine Nat.lt_of_le_of_ne (List.length_filter_le _ _) fun e => ?_
  have := (List.length_filter_eq_length_iff.mp e) x hx
  simp [no] at this
end
section
open L2 PySem PySem.Spec PyProof.Rows
section
variable {k : Nat} {ps : List Str} {rs : List (Str × Str)} {ds : List PyData} {ord : List Str}
theorem take_push {α : Type} {l : List α} {i : Nat} {x : α} (h : l[i]? = some x) : l.take (i + 1) = l.take i ++ [x] := by
  rw [List.take_add_one, h]
  rfl
end
theorem ft_lst {H : Hp} {p D : Addr} {o : HO} {xs us : List V} (h : FT H p xs) (e : H D = some (.lst us)) : FT (upd H D o) p xs := by
  obtain ⟨ob, e1, o1⟩ := h
  exact ⟨ob, (upd_ne (fun z => by rw [z, e] at e1; cases e1)).trans e1, o1⟩
end
section
open L2 PySem PySem.Spec PyProof.Rows
theorem i_catL {l b : Addr} {xs zs : List V} {H : Hp} {Q : VK} (e1 : H l = some (.lst xs)) (e2 : H b = some (.lst zs)) (z : xs.length + zs.length ≤ sizeLine) (h : ∀ p, H p = none → Q (.ref p) (upd H p (.lst (xs ++ zs)))) : rCat (.ref l) (.ref b) H Q := ⟨l, b, xs, zs, rfl, rfl, e1, e2, z, h⟩
end
section
open L2 PySem PySem.Spec PyProof.Rows
theorem nd_le {α : Type} [DecidableEq α] : ∀ (L ns : List α), L.Nodup → (∀ x ∈ L, x ∈ ns) → L.length ≤ ns.length
  | [], _, _, _ => Nat.zero_le _
  | x :: L, ns, nd, h => by
    obtain ⟨n1, n2⟩ := List.nodup_cons.mp nd
    have hx := h x List.mem_cons_self
    have := nd_le L (ns.erase x) n2 (fun y hy => (List.mem_erase_of_ne (fun e => n1 (by rw [← e]; exact hy))).mpr (h y (List.mem_cons_of_mem _ hy)))
    rw [List.length_erase_of_mem hx] at this
    have := List.length_pos_of_mem hx
    rw [List.length_cons]
    omega
theorem not_nd {α : Type} [DecidableEq α] : ∀ (l : List α), ¬ l.Nodup → ∃ x ∈ l, x ∈ l.erase x
  | [], h => absurd List.nodup_nil h
  | a :: r, h => by
    by_cases m : a ∈ r
    · exact ⟨a, List.mem_cons_self, by rw [List.erase_cons_head]; exact m⟩
    · obtain ⟨x, hx, hy⟩ := not_nd r (fun z => h (List.nodup_cons.mpr ⟨m, z⟩))
      have ne : a ≠ x := fun e => m (e ▸ hx)
      exact ⟨x, List.mem_cons_of_mem _ hx, by rw [List.erase_cons_tail (by simp [ne])]; exact List.mem_cons_of_mem _ hy⟩
theorem nd_eq {α : Type} [DecidableEq α] {L ns : List α} (nd : L.Nodup) (h : ∀ x, x ∈ L ↔ x ∈ ns) : L.length ≤ ns.length ∧ (L.length = ns.length ↔ ns.Nodup) := by
  refine ⟨nd_le L ns nd fun x hx => (h x).mp hx, fun e => Classical.byContradiction fun c => ?_, fun z => Nat.le_antisymm (nd_le L ns nd fun x hx => (h x).mp hx) (nd_le ns L z fun x hx => (h x).mpr hx)⟩
  obtain ⟨x, hx, hy⟩ := not_nd ns c
  have := nd_le L (ns.erase x) nd fun y hy2 => by
    by_cases e : y = x
    · rw [e]; exact hy
    · exact (List.mem_erase_of_ne e).mpr ((h y).mp hy2)
  rw [List.length_erase_of_mem hx] at this
  have := List.length_pos_of_mem hx
  omega
end
section
open L2 PySem PySem.Spec PyProof.Rows
section
variable {k : Nat} {ps : List Str} {rs : List (Str × Str)} {ds : List PyData}
theorem near_ix {z y : Str} (W : IsWeb ps rs) (hz : z ∈ ps) (hy : y ∈ nearL ps rs z) : y ∈ ps ∧ ps.idxOf z ≠ ps.idxOf y := by
  have hm := List.mem_filter.mp hy
  refine ⟨hm.1, fun e => ?_⟩
  have := idx_inj hz hm.1 e
  subst this
  have h2 := hm.2
  unfold isRoad at h2
  rw [Bool.or_eq_true, decide_eq_true_iff] at h2
  rcases h2 with h2 | h2 <;> exact (W.ends _ h2).2.2 rfl
end
end
section
open L2 PySem PySem.Spec PyProof.Rows
mutual
def nkOf : PyData → NestedKey
  | .int i => .num i
  | .str x => .text x
  | .tuple ds => .tup (nkAll ds)
  | .none => .none
  | .bool b => .num (if b = true then 1 else 0)
  | .list _ => .none
  | .dict _ => .none
def nkAll : List PyData → List NestedKey
  | [] => []
  | d :: ds => nkOf d :: nkAll ds
end
abbrev DnL := List (NestedKey × Addr × V)
def arrK (l : List (Str × Str)) : NestedKey := nkOf (rsD l)
end
section
open L2 PySem PySem.Spec PyProof.Rows
theorem texts_noB : ∀ l : List Str, noBAll (l.map PyData.str) = true
  | [] => rfl
  | x :: l => by
    show (true && noBAll (l.map PyData.str)) = true
    rw [texts_noB l]
    rfl
abbrev tlD (l : List Str) : PyData := .list (l.map .str)
theorem tl_eqd {l m : List Str} : PyData.eqv (tlD l) (tlD m) = decide (l = m) := by
  have q := eqv_dec (tlD l) (tlD m) (texts_noB l) (texts_noB m)
  by_cases k : l = m
  · subst k
    rw [decide_eq_true rfl, q.mpr rfl]
  · rw [decide_eq_false k]
    cases z : PyData.eqv (tlD l) (tlD m) with
    | false => rfl
    | true =>
      have := q.mp z
      injection this with e
      exact absurd (map_str_inj e) k
theorem tl_dp {K : PySem.W.Frag} {H : Hp} {p : Addr} {l : List Str} (h : H p = some (.lst (l.map V.str))) : Dp K H (.ref p) (tlD l) := .lst (sq_lst h) (DpAll.strs l)
end
section
open L2 PySem PySem.Spec PyProof.Rows
mutual
inductive Ob (K : PySem.W.Frag) (H : Hp) (a : Addr) : V → PyData → Prop
  | non : Ob K H a .non .none
  | bl (b : Bool) : Ob K H a (.bl b) (.bool b)
  | int (i : Int) : Ob K H a (.int i) (.int i)
  | str (x : Str) : Ob K H a (.str x) (.str x)
  | lst {p : Addr} {xs : List V} {ds : List PyData} : H p = some (.lst xs) → p ≠ a → ObAll K H a xs ds → Ob K H a (.ref p) (.list ds)
  | tup {p : Addr} {xs : List V} {ds : List PyData} : SqT K H p xs → ObAll K H a xs ds → Ob K H a (.ref p) (.tuple ds)
  | dic {p : Addr} : H p = some (.dK []) → p ≠ a → Ob K H a (.ref p) (.dict [])
inductive ObAll (K : PySem.W.Frag) (H : Hp) (a : Addr) : List V → List PyData → Prop
  | nil : ObAll K H a [] []
  | cons {v : V} {vs : List V} {d : PyData} {ds : List PyData} : Ob K H a v d → ObAll K H a vs ds → ObAll K H a (v :: vs) (d :: ds)
end
section
variable {K : PySem.W.Frag} {H H' : Hp} {a : Addr}
mutual
theorem Ob.go (t : TK K H H') (k : ∀ p o, p ≠ a → H p = some o → H' p = some o) : ∀ (d : PyData) (v : V), Ob K H a v d → Ob K H' a v d
  | .none, _, h => by cases h; exact .non
  | .bool b, _, h => by cases h; exact .bl b
  | .int i, _, h => by cases h; exact .int i
  | .str x, _, h => by cases h; exact .str x
  | .list ds, _, h => by
    cases h with
    | lst e n al => exact .lst (k _ _ n e) n (ObAll.go t k ds _ al)
  | .tuple ds, _, h => by
    cases h with
    | tup s al => exact .tup (t _ _ s) (ObAll.go t k ds _ al)
  | .dict _, _, h => by
    cases h with
    | dic e n => exact .dic (k _ _ n e) n
theorem ObAll.go (t : TK K H H') (k : ∀ p o, p ≠ a → H p = some o → H' p = some o) : ∀ (ds : List PyData) (vs : List V), ObAll K H a vs ds → ObAll K H' a vs ds
  | [], _, h => by cases h; exact .nil
  | d :: ds, _, h => by
    cases h with
    | cons h1 h2 => exact .cons (Ob.go t k d _ h1) (ObAll.go t k ds _ h2)
end
theorem Ob.same {v : V} {d : PyData} (h : Ob K H a v d) (k : Same H H') : Ob K H' a v d := Ob.go (TK.same k) (fun p o _ e => k p o e) d v h
theorem ObAll.same {vs : List V} {ds : List PyData} (h : ObAll K H a vs ds) (k : Same H H') : ObAll K H' a vs ds := ObAll.go (TK.same k) (fun p o _ e => k p o e) ds vs h
theorem Ob.ch {v : V} {d : PyData} {c : Int} (h : Ob K H a v d) (k : Ch a H H') (f : Fd H a c) : Ob K H' a v d := Ob.go (TK.ch k f) (fun p o n e => k p o n e) d v h
theorem ObAll.ch {vs : List V} {ds : List PyData} {c : Int} (h : ObAll K H a vs ds) (k : Ch a H H') (f : Fd H a c) : ObAll K H' a vs ds := ObAll.go (TK.ch k f) (fun p o n e => k p o n e) ds vs h
mutual
theorem Ob.of : ∀ (d : PyData) (v : V), tupOnly d = true → Dp K H v d → Ob K H a v d
  | .none, _, _, h => by cases h; exact .non
  | .bool b, _, _, h => by cases h; exact .bl b
  | .int i, _, _, h => by cases h; exact .int i
  | .str x, _, _, h => by cases h; exact .str x
  | .list ds, _, t, h => by cases t
  | .tuple ds, _, t, h => by
    cases h with
    | tup s al => exact .tup s (ObAll.of ds _ t al)
  | .dict _, _, t, h => by cases t
theorem ObAll.of : ∀ (ds : List PyData) (vs : List V), tupOnlyAll ds = true → DpAll K H vs ds → ObAll K H a vs ds
  | [], _, _, h => by cases h; exact .nil
  | d :: ds, _, t, h => by
    have t' : (tupOnly d && tupOnlyAll ds) = true := t
    rw [Bool.and_eq_true] at t'
    cases h with
    | cons h1 h2 => exact .cons (Ob.of d _ t'.1 h1) (ObAll.of ds _ t'.2 h2)
end
theorem ObAll.len : ∀ {vs : List V} {ds : List PyData}, ObAll K H a vs ds → vs.length = ds.length
  | _, _, .nil => rfl
  | _, _, .cons _ t => congrArg Nat.succ (ObAll.len t)
theorem ObAll.app : ∀ {vs ws : List V} {ds es : List PyData}, ObAll K H a vs ds → ObAll K H a ws es → ObAll K H a (vs ++ ws) (ds ++ es)
  | _, _, _, _, .nil, h => h
  | _, _, _, _, .cons x t, h => .cons x (ObAll.app t h)
theorem ObAll.get : ∀ {vs : List V} {ds : List PyData} {i : Nat} {v : V}, ObAll K H a vs ds → vs[i]? = some v → ∃ d, ds[i]? = some d ∧ Ob K H a v d
  | _, _, i, _, .nil, e => by simp at e
  | _, _, 0, _, .cons h _, e => by
    have := Option.some.inj e
    subst this
    exact ⟨_, rfl, h⟩
  | _, _, i + 1, _, .cons _ t, e => ObAll.get (i := i) t e
theorem ObAll.take : ∀ {vs : List V} {ds : List PyData} (n : Nat), ObAll K H a vs ds → ObAll K H a (vs.take n) (ds.take n)
  | _, _, 0, _ => .nil
  | _, _, n + 1, .nil => .nil
  | _, _, n + 1, .cons x t => .cons x (ObAll.take n t)
theorem ObAll.drop : ∀ {vs : List V} {ds : List PyData} (n : Nat), ObAll K H a vs ds → ObAll K H a (vs.drop n) (ds.drop n)
  | _, _, 0, h => h
  | _, _, n + 1, .nil => .nil
  | _, _, n + 1, .cons x t => ObAll.drop n t
theorem ObAll.nats : ∀ l : List Nat, ObAll K H a (natsV l) (l.map iD)
  | [] => .nil
  | n :: l => .cons (.int _) (ObAll.nats l)
end
def tyN : PyData → String
  | .none => "NoneType"
  | .bool _ => "bool"
  | .int _ => "int"
  | .str _ => "str"
  | .list _ => "list"
  | .tuple _ => "tuple"
  | .dict _ => "dict"
def isI : PyData → Bool
  | .int _ => true
  | _ => false
def isIB : PyData → Bool
  | .int _ => true
  | .bool _ => true
  | _ => false
def isBo : PyData → Bool
  | .bool _ => true
  | _ => false
def isT : PyData → Bool
  | .tuple _ => true
  | _ => false
def isS : PyData → Bool
  | .str _ => true
  | _ => false
section
variable {K : PySem.W.Frag} {H : Hp} {a : Addr} {v : V} {d : PyData} {Q : VK}
theorem Ob.ty (h : Ob K H a v d) : TyX K H v (.type (tyN d)) := by
  cases h with
  | non => exact .base .non
  | bl b => exact .base (.bl b)
  | int i => exact .base (.int i)
  | str x => exact .base (.str x)
  | lst e n al => exact .base (.lst e)
  | tup s al => exact ty_tup s
  | dic e n => exact .base (.dK e)
theorem is_intO (h : Ob K H a v d) (q : Q (.bl (isIB d)) H) : rIsi K [v, .ty "int"] H Q := i_isi h.ty (by cases h <;> first | exact (by decide +kernel : kitB "NoneType" "int" = some false) | exact (by decide +kernel : kitB "bool" "int" = some true) | exact (by decide +kernel : kitB "int" "int" = some true) | exact (by decide +kernel : kitB "str" "int" = some false) | exact (by decide +kernel : kitB "list" "int" = some false) | exact (by decide +kernel : kitB "tuple" "int" = some false) | exact (by decide +kernel : kitB "dict" "int" = some false)) q
theorem is_boolO (h : Ob K H a v d) (q : Q (.bl (isBo d)) H) : rIsi K [v, .ty "bool"] H Q := i_isi h.ty (by cases h <;> first | exact (by decide +kernel : kitB "NoneType" "bool" = some false) | exact (by decide +kernel : kitB "bool" "bool" = some true) | exact (by decide +kernel : kitB "int" "bool" = some false) | exact (by decide +kernel : kitB "str" "bool" = some false) | exact (by decide +kernel : kitB "list" "bool" = some false) | exact (by decide +kernel : kitB "tuple" "bool" = some false) | exact (by decide +kernel : kitB "dict" "bool" = some false)) q
theorem is_tupO (h : Ob K H a v d) (q : Q (.bl (isT d)) H) : rIsi K [v, .ty "tuple"] H Q := i_isi h.ty (by cases h <;> first | exact (by decide +kernel : kitB "NoneType" "tuple" = some false) | exact (by decide +kernel : kitB "bool" "tuple" = some false) | exact (by decide +kernel : kitB "int" "tuple" = some false) | exact (by decide +kernel : kitB "str" "tuple" = some false) | exact (by decide +kernel : kitB "list" "tuple" = some false) | exact (by decide +kernel : kitB "tuple" "tuple" = some true) | exact (by decide +kernel : kitB "dict" "tuple" = some false)) q
theorem is_strO (h : Ob K H a v d) (q : Q (.bl (isS d)) H) : rIsi K [v, .ty "str"] H Q := i_isi h.ty (by cases h <;> first | exact (by decide +kernel : kitB "NoneType" "str" = some false) | exact (by decide +kernel : kitB "bool" "str" = some false) | exact (by decide +kernel : kitB "int" "str" = some false) | exact (by decide +kernel : kitB "str" "str" = some true) | exact (by decide +kernel : kitB "list" "str" = some false) | exact (by decide +kernel : kitB "tuple" "str" = some false) | exact (by decide +kernel : kitB "dict" "str" = some false)) q
end
section
variable {X : Cx} {pins : List (Addr × Obj)} {σ : L2.St} {H : Hp} {s : Shared} {a : Addr}
mutual
theorem Ob.reads (I : Inv X pins σ H s) : ∀ (d : PyData) (v : V) (u : Value), Ob X.K H a v d → RelV v u → ∃ as, Reads s.heap u d as ∧ (∀ kvs, d = .dict kvs → sysModules ∉ as)
  | .none, _, _, h, r => by
    cases h
    cases r
    exact ⟨_, .none, fun _ c => by cases c⟩
  | .bool b, _, _, h, r => by
    cases h
    cases r
    exact ⟨_, .bool b, fun _ c => by cases c⟩
  | .int i, _, _, h, r => by
    cases h
    obtain ⟨t, rfl⟩ := r
    exact ⟨_, .int i t, fun _ c => by cases c⟩
  | .str x, _, _, h, r => by
    cases h
    obtain ⟨t, rfl⟩ := r
    exact ⟨_, .str x t, fun _ c => by cases c⟩
  | .list ds, _, _, h, r => by
    cases h with
    | lst e n al =>
      cases r
      obtain ⟨its, rv, ⟨o, m, ho, hc, _, hd⟩, _⟩ := I.list (sq_lst e)
      obtain ⟨as, hr⟩ := ObAll.reads I ds _ its al rv
      exact ⟨_, .list ho hc hd hr, fun _ c => by cases c⟩
  | .tuple ds, _, _, h, r => by
    cases h with
    | tup s al =>
      cases r
      obtain ⟨its, rv, ⟨o, ho, hc, m, hd⟩, _⟩ := I.tuple s
      obtain ⟨as, hr⟩ := ObAll.reads I ds _ its al rv
      exact ⟨_, .tuple ho hc hd hr, fun _ c => by cases c⟩
  | .dict _, _, _, h, r => by
    cases h with
    | dic e n =>
      cases r
      obtain ⟨hz, hS, vs, rk, o, es, ep, h1, h2, h3, _, h4, _⟩ := (show ObjOk X.prog X.w H s.heap _ (.dK []) from I.hok _ _ e)
      cases rk
      have e0 : es.toList = [] := by
        generalize es.toList = l at h4
        cases l with
        | nil => rfl
        | cons x r => cases h4
      refine ⟨_, .dict (as := []) (bs := []) (kvs := []) h1 h2.1 h3 (by rw [e0]; exact .nil) (by rw [e0]; exact .nil), fun _ _ c => ?_⟩
      simp only [List.append_nil, List.mem_singleton] at c
      rw [← c] at hS
      simp at hS
theorem ObAll.reads (I : Inv X pins σ H s) : ∀ (ds : List PyData) (vs : List V) (us : List Value), ObAll X.K H a vs ds → Vals vs us → ∃ as, ReadsAll s.heap us ds as
  | [], _, _, h, r => by
    cases h
    cases r
    exact ⟨_, .nil⟩
  | d :: ds, _, _, h, r => by
    cases h with
    | cons h1 h2 =>
      cases r with
      | cons r1 r2 =>
        obtain ⟨as, q1, _⟩ := Ob.reads I d _ _ h1 r1
        obtain ⟨bs, q2⟩ := ObAll.reads I ds _ _ h2 r2
        exact ⟨_, .cons q1 q2⟩
end
end
def shO : PyData → Str
  | .none => "None"
  | .bool b => if b then "True" else "False"
  | .int i => toString i
  | .str x => reprText x
  | d => d.shown
structure ShO (d : PyData) : Prop where
  int_ : ∀ i, d = .int i → i.natAbs.log2 < 1920
  str_ : ∀ x, d = .str x → (reprText x).length ≤ sizeLine
  sho : d.showable = true
  dct : d.hasDict = false ∨ d = .dict []
  dep : d.depth ≤ 40
  len : d.shown.length ≤ sizeLine
def rShowO (K : PySem.W.Frag) : List V → Hp → VK → Prop := fun xs H Q => ∃ (x : V) (d : PyData) (a : Addr), xs = [x] ∧ Ob K H a x d ∧ ShO d ∧ Q (.str (shO d)) H
theorem k_showO {X : Cx} {K : PySem.W.Frag} (hg : X.A.guards = some []) (hu : X.A.units + 64 < cLine) (hK : X.K = K := by rfl) : CallR X (.builtin "repr") (rShowO K) := by
  subst hK
  intro pins s σ H xs us Q I r h
  obtain ⟨x, d, a, rfl, hd, hs, q⟩ := h
  match us, r with
  | [u], .cons ru .nil =>
    obtain ⟨as, rd, hno⟩ := Ob.reads I d _ u hd ru
    have hdep := hs.dep
    have hns : d.hasDict = true → sysModules ∉ as := fun z => by
      rcases hs.dct with c | c
      · rw [c] at z; cases z
      · exact hno _ c
    cases hd with
    | non =>
      cases ru
      exact PySem.P.repr_of_none ⟨.str "None", H, I.tok _, ⟨_, rfl⟩, q⟩
    | bl b =>
      cases ru
      exact PySem.P.repr_of_bool ⟨.str _, H, I.tok _, ⟨_, rfl⟩, q⟩
    | int i =>
      obtain ⟨t, rfl⟩ := ru
      exact PySem.P.repr_of_int (hs.int_ i rfl) ⟨.str _, H, I.tok _, ⟨_, rfl⟩, q⟩
    | str z =>
      obtain ⟨t, rfl⟩ := ru
      exact PySem.P.repr_of_str ⟨.str _, H, I.tok _, ⟨_, rfl⟩, q⟩ (hs.str_ z rfl)
    | lst e n al =>
      obtain rfl : u = Value.ref _ := ru
      exact repr_of_reads' rd hs.sho hns hg (by omega) (fun b o e => e) (fun h' t tk k => ⟨.str _, H, I.kept k, ⟨t, rfl⟩, q⟩) hs.len
    | tup e al =>
      obtain rfl : u = Value.ref _ := ru
      exact repr_of_reads' rd hs.sho hns hg (by omega) (fun b o e => e) (fun h' t tk k => ⟨.str _, H, I.kept k, ⟨t, rfl⟩, q⟩) hs.len
    | dic e n =>
      obtain rfl : u = Value.ref _ := ru
      exact repr_of_reads' rd hs.sho hns hg (by omega) (fun b o e => e) (fun h' t tk k => ⟨.str _, H, I.kept k, ⟨t, rfl⟩, q⟩) hs.len
end
section
open L2 PySem PySem.Spec PyProof.Rows
structure Sml (d : PyData) : Prop where
  sho : d.showable = true
  dct : d.hasDict = false
  dep : d.depth ≤ 5
  lea : d.leavesShort 40 = true
  wei : d.weight ≤ 1000
theorem sml_all : ∀ (ds : List PyData), (∀ d ∈ ds, Sml d) → PyData.showableAll ds = true ∧ PyData.hasDictAll ds = false ∧ PyData.depthAll ds ≤ 5 ∧ PyData.leavesShortAll 40 ds = true ∧ PyData.weightAll ds ≤ 1001 * ds.length
  | [], _ => ⟨rfl, rfl, Nat.zero_le _, rfl, Nat.zero_le _⟩
  | d :: ds, h => by
    obtain ⟨a1, a2, a3, a4, a5⟩ := sml_all ds fun e he => h e (List.mem_cons_of_mem _ he)
    obtain ⟨b1, b2, b3, b4, b5⟩ := h d List.mem_cons_self
    refine ⟨?_, ?_, ?_, ?_, ?_⟩
    · show (d.showable && PyData.showableAll ds) = true
      rw [a1, b1]
      rfl
    · show (d.hasDict || PyData.hasDictAll ds) = false
      rw [a2, b2]
      rfl
    · show max d.depth (PyData.depthAll ds) ≤ 5
      omega
    · show (d.leavesShort 40 && PyData.leavesShortAll 40 ds) = true
      rw [a4, b4]
      rfl
    · show d.weight + 1 + PyData.weightAll ds ≤ 1001 * (ds.length + 1)
      omega
theorem sh_list {ds : List PyData} (h : ∀ d ∈ ds, Sml d) (hl : ds.length ≤ 300) : ShO (.list ds) := by
  obtain ⟨a1, a2, a3, a4, a5⟩ := sml_all ds h
  refine ⟨fun i c => (by cases c), fun x c => (by cases c), a1, .inl a2, by show PyData.depthAll ds + 1 ≤ 40; omega, ?_⟩
  have := PyData.shown_le 40 (by decide) (.list ds) a4
  have hw : (PyData.list ds).weight ≤ 300300 := by show PyData.weightAll ds ≤ 300300; omega
  rw [sizeLine_eq]
  omega
theorem sml_fin : ∀ n : Fin 400, ((PyData.int ((n.1 : Int) - 5)).showable && decide ((PyData.int ((n.1 : Int) - 5)).leavesShort 40 = true) && decide ((PyData.int ((n.1 : Int) - 5)).weight ≤ 10)) = true := by decide +kernel
theorem sml_int {i : Int} (h0 : -5 ≤ i) (h1 : i < 395) : Sml (.int i) ∧ (PyData.int i).weight ≤ 10 := by
  obtain ⟨n, hn⟩ := Int.eq_ofNat_of_zero_le (show 0 ≤ i + 5 by omega)
  have := sml_fin ⟨n, by omega⟩
  have e : ((⟨n, by omega⟩ : Fin 400).1 : Int) - 5 = i := by show (n : Int) - 5 = i; omega
  rw [e, Bool.and_eq_true, Bool.and_eq_true, decide_eq_true_iff, decide_eq_true_iff] at this
  exact ⟨⟨this.1.1, rfl, Nat.zero_le _, this.1.2, by omega⟩, this.2⟩
theorem sml_bool (b : Bool) : Sml (.bool b) := by cases b <;> exact ⟨rfl, rfl, by decide, by decide +kernel, by decide +kernel⟩
def spIsIntO (K : PySem.W.Frag) : Sp := fun vs H Q _ => ∃ (v : V) (d : PyData) (a : Addr), vs = [v] ∧ Ob K H a v d ∧ Q (.bl (isI d)) H
end
section
open L2 PySem PySem.Spec PyProof.Rows
def okN (l : List (Str × Str)) (g : List Str) (z : Str) : Bool := !decide (z ∈ g) && l.all fun r => !decide (r.2 = z) || decide (r.1 ∈ g)
def growG (ps : List Str) (l : List (Str × Str)) : Nat → List (List Str)
  | 0 => [[]]
  | n + 1 => (growG ps l n).flatMap fun g => (ps.filter (okN l g)).map fun z => g ++ [z]
end
section
open L2 PySem PySem.Spec PyProof.Rows
def msk (ps g : List Str) : Nat := (g.map fun z => 2 ^ ps.idxOf z).sum
end
section
open L2 PySem PySem.Spec PyProof.Rows
def cM (ps : List Str) (l : List (Str × Str)) (n x : Nat) : Nat := ((growG ps l n).filter fun g => decide (msk ps g = x)).length
def cnt (ps : List Str) (l : List (Str × Str)) (x : Nat) : Nat := ((List.range (ps.length + 1)).map fun n => cM ps l n x).sum
end
section
open L2 PySem PySem.Spec PyProof.Rows
theorem flat_rep {x : V} : ∀ k, (List.replicate k [x]).flatten = List.replicate k x
  | 0 => rfl
  | k + 1 => by
    rw [List.replicate_succ, List.flatten_cons, flat_rep k, List.replicate_succ]
    rfl
theorem i_rep {l : Addr} {k : Nat} {x : V} {H : Hp} {Q : VK} (e : H l = some (.lst [x])) (hk : k ≤ 100000) (h : ∀ p, H p = none → Q (.ref p) (upd H p (.lst (List.replicate k x)))) : rRep (.ref l) (.int (k : Nat)) H Q := by
  refine ⟨l, k, [x], rfl, rfl, e, by omega, by omega, by rw [sizeLine_eq]; show 1 * _ ≤ _; rw [Int.toNat_natCast]; omega, fun p np => ?_⟩
  have e2 : (List.replicate (k : Int).toNat [x]).flatten = List.replicate k x := by
    rw [Int.toNat_natCast, flat_rep]
  rw [e2]
  exact h p np
end
section
open L2 PySem PySem.Spec PyProof.Rows
abbrev ARow := List (Str × Str) × Addr × Nat
def nL (R : List ARow) : DnL := R.map fun r => (arrK r.1, r.2.1, V.int (r.2.2 : Nat))
end
section
open L2 PySem PySem.Spec PyProof.Rows
section
variable {P : Program} {w : World} {A : Around} {E : Value → Shared → Prop} {s : Shared} {a : Addr} {L : List (Addr × List Str)} {es : Array (Int × Value)} {ep : Nat} {t : SetTable}
theorem TxS.seek (R : TxS P w s.heap a L es ep t) (hT : ∀ p ∈ L, Tt P w s.heap p.2 p.1) {x : Addr} {k : List Str} (hx : Tt P w s.heap k x) (hu : A.units < cLine) {i0 : Nat} {p0 : Addr × List Str} (h0 : L[i0]? = some p0) (e0 : p0.2 = k) {K : Nat}
    (hKf : K < 10 * SetTable.turns t.mask) (hK : way t.mask (tx P w k) K ∉ t.place.toList) (hKb : ∀ c, c < K → way t.mask (tx P w k) c ∈ t.place.toList) {Q : SetFound → Shared → Prop}
    (q : Q (.there none) s) : ∀ (f c : Nat) (st : Option SetTable.Probe), st.getD (t.probeStart (tx P w k)) = pr t.mask (tx P w k) c → c ≤ K → K - c < f →
      (∃ c0, c ≤ c0 ∧ c0 < K ∧ t.place.toList[i0]? = some (way t.mask (tx P w k) c0)) → wpAny (model P w) A (setSearchFrom a (.ref x) (tx P w k) true f st) Q E s := by
  obtain ⟨o, g, hex, hd⟩ := R.here
  intro f
  induction f with
  | zero => exact fun c st _ _ z _ => absurd z (Nat.not_lt_zero _)
  | succ f ih =>
    rintro c st hst hc hf ⟨c0, b1, b2, b3⟩
    have on : ∀ n, nth t.mask (pr t.mask (tx P w k) c) n = pr t.mask (tx P w k) (c + n) := fun n => (nth_add t.mask c _ n).symm
    have end_ : (nth t.mask (pr t.mask (tx P w k) c) (K - c)).j = way t.mask (tx P w k) K := by rw [on, Nat.add_sub_cancel' hc]
    have at0 : (nth t.mask (pr t.mask (tx P w k) c) (c0 - c)).j = way t.mask (tx P w k) c0 := by rw [on, Nat.add_sub_cancel' b1]
    have same : (es[i0]?.map (·.1)).getD 0 = tx P w k := by
      rw [R.entry h0, ← e0]
      rfl
    rw [setSearchFrom_succ]
    refine wpAny_bind (wpAny_setState_of g hd R.fits ?_)
    dsimp only
    refine wp_if_neg (by unfold SetTable.gaveWay; rw [mask_odd R.tab.mok]; decide) ?_
    try refine wpAny_bind (wpAny_pure ?_)
    rcases go_spec t R.tab.ris R.tab.dm (fun i => (es[i]?.map (·.1)).getD 0) (tx P w k) (10 * SetTable.turns t.mask) (K - c) _ (pr_dummy _ _ c) (by omega)
      (fun n hn => by rw [on]; exact hKb _ (by omega)) (by rw [end_]; exact hK) with ⟨n, i, hn, hi, _, no, e⟩ | ⟨no, e⟩
    · have le0 : c + n ≤ c0 := by
        rcases Nat.lt_or_ge c0 (c + n) with z | z
        · exact absurd same (no (c0 - c) i0 (by omega) (by rw [at0]; exact b3))
        · exact z
      rw [on, on, ← hst] at e
      rw [show t.probe (fun i => (es[i]?.map (·.1)).getD 0) (tx P w k) (st.getD (t.probeStart (tx P w k))) = _ from e]
      dsimp only
      rw [on] at hi
      have hl : i < L.length := by
        have h1 := (List.getElem?_eq_some_iff.mp hi).1
        have h2 := R.tab.sz
        rw [List.length_map] at h2
        rw [Array.length_toList] at h1
        omega
      have hp := List.getElem?_eq_getElem hl
      have me : L[i] ∈ L := List.getElem_mem hl
      have go : wpAny (model P w) A (searchRest a (.ref x) (tx P w k) true f es t (way t.mask (tx P w k) (c + n)) i (pr t.mask (tx P w k) (c + (n + 1)))) Q E s := by
        unfold searchRest
        rw [R.entry hp]
        dsimp only [trow]
        refine wpAny_bind (wpAny_holding (wpAny_eqBool_tuple hu (hT _ me) hx ?_))
        by_cases y : L[i].2 = k
        · rw [decide_eq_true y]
          refine wpAny_bind (wpAny_setState_of g hd R.fits ?_)
          dsimp only
          exact wp_if_pos (by decide) (wpAny_pure q)
        · rw [decide_eq_false y]
          refine wpAny_bind (wpAny_setState_of g hd R.fits ?_)
          dsimp only
          refine wp_if_neg (by decide) ?_
          try refine wpAny_bind (wpAny_pure ?_)
          rw [L2.sameMem]
          dsimp only
          have live := slot_live R.tab.ris hi
          simp only [if_true, live, R.entry hp]
          refine wpAny_bind (wpAny_isSame_ref_self (wpAny_bind (wpAny_pure ?_)))
          simp only [if_true]
          refine wp_if_neg Bool.false_ne_true ?_
          refine ih (c + (n + 1)) _ rfl (by omega) (by omega) ⟨c0, ?_, b2, b3⟩
          rcases Nat.lt_or_ge (c + n) c0 with z | z
          · omega
          · have ec : c0 = c + n := Nat.le_antisymm z le0
            rw [ec] at b3
            have l0 := slot_live R.tab.ris b3
            rw [live] at l0
            injection l0 with l0
            rw [← l0, hp] at h0
            exact absurd ((congrArg Prod.snd (Option.some.inj h0)).trans e0) y
      by_cases hl : t.led = true
      · refine wp_if_neg (by simp [hl]) ?_
        try refine wpAny_bind (wpAny_pure ?_)
        exact go
      · refine wp_if_pos (by simp [hl]) (wpAny_bind (unseen_tt hx (fun y hy => ?_) ?_))
        · obtain ⟨u, hu1, hu2⟩ := List.mem_map.mp hy
          have hu3 : u ∈ es ∧ u.1 = tx P w k := by simpa using hu1
          have hu4 : u ∈ es.toList := by simpa using hu3.1
          rw [R.rows] at hu4
          obtain ⟨p, hp1, hp2⟩ := List.mem_map.mp hu4
          exact ⟨p.2, p.1, by rw [← hu2, ← hp2]; rfl, hT p hp1⟩
        · refine wp_if_neg (by decide) ?_
          try refine wpAny_bind (wpAny_pure ?_)
          exact go
    · exact absurd same (no (c0 - c) i0 (by omega) (by rw [at0]; exact b3))
theorem TxS.meet (R : TxS P w s.heap a L es ep t) (hT : ∀ p ∈ L, Tt P w s.heap p.2 p.1) {x : Addr} {k : List Str} (hx : Tt P w s.heap k x) (hu : A.units < cLine) (hk : k ∈ L.map (·.2)) {Q : SetFound → Shared → Prop}
    (q : Q (.there none) s) : wpAny (model P w) A (setSearch a (.ref x) (tx P w k) true) Q E s := by
  have rm := R.room
  obtain ⟨K, h1, h2, h3⟩ := R.tab.first (by rw [List.length_map]; omega) (tx P w k)
  have h4 : K < 100000 := by
    have : 10 * SetTable.turns t.mask ≤ 1420 := by
      unfold SetTable.turns
      rcases R.tab.mok with e | e | e <;> omega
    omega
  obtain ⟨p0, m0, e0⟩ := List.mem_map.mp hk
  obtain ⟨i0, hi0⟩ := List.getElem?_of_mem m0
  have hash : (L.map fun p => tx P w p.2)[i0]? = some (tx P w k) := by rw [List.getElem?_map, hi0, ← e0]; rfl
  have hlt : i0 < t.place.toList.length := by
    have h5 := (List.getElem?_eq_some_iff.mp hi0).1
    have h6 := R.tab.sz
    rw [List.length_map] at h6
    rw [Array.length_toList]
    omega
  have hj := List.getElem?_eq_getElem hlt
  obtain ⟨c0, b1, b2⟩ := R.tab.before h2 hash hj
  unfold setSearch
  exact R.seek hT hx hu hi0 e0 h1 h2 h3 q 100000 0 none rfl (Nat.zero_le _) (by omega) ⟨c0, Nat.zero_le _, b1, by rw [hj, b2]⟩
theorem TxS.again (R : TxS P w s.heap a L es ep t) (hT : ∀ p ∈ L, Tt P w s.heap p.2 p.1) {x : Addr} {k : List Str} (hx : Tt P w s.heap k x) (hu : A.units < cLine) (hk : k ∈ L.map (·.2)) {Q : Bool → Shared → Prop} (q : Q false s) :
    wpAny (model P w) A (setAddHashed a (.ref x) (tx P w k)) Q E s := by
  obtain ⟨o, g, hex, hd⟩ := R.here
  unfold setAddHashed
  refine wpAny_holding ?_
  rw [show (100000 : Nat) = 99999 + 1 from rfl, setAddHashedIn_succ]
  refine wpAny_bind (wpAny_setState_of g hd R.fits ?_)
  dsimp only
  refine wp_if_neg (by simp [byScan, Value.scannable]) ?_
  try refine wpAny_bind (wpAny_pure ?_)
  refine wpAny_bind (R.meet hT hx hu hk ?_)
  dsimp only
  exact wpAny_pure q
end
end
section
open L2 PySem PySem.Spec PyProof.Rows
abbrev dc2 (kx vx t0 i0 : Expr) (fs0 : List Expr) (t1 i1 : Expr) (fs1 : List Expr) (scope : Scope) (pos : Pos) : Expr := .DictComp kx vx [⟨t0, i0, fs0, 0⟩, ⟨t1, i1, fs1, 0⟩] scope pos
end
section
open L2 PySem PySem.Spec PyProof.Rows
section
variable {K : PySem.W.Frag} {H H' : Hp} {a : Addr}
theorem strOk_add {x y : Str} (h : PyData.strOk x = true) (k : PyData.strOk y = true) : PyData.strOk (x ++ y) = true := by
  show (x ++ y).cps.all _ = true
  have e : (x ++ y).cps = x.cps ++ y.cps := rfl
  rw [e, Array.all_append, show x.cps.all _ = true from h, show y.cps.all _ = true from k]
  rfl
end
end
section
open L2 PySem PySem.Spec PyProof.Rows
section
variable {K : PySem.W.Frag} {H : Hp} {a : Addr}
mutual
theorem Ob.dp : ∀ (d : PyData) (v : V), d.canLay0 = true → Ob K H a v d → Dp K H v d
  | .none, _, _, h => by cases h; exact .non
  | .bool b, _, _, h => by cases h; exact .bl b
  | .int i, _, _, h => by cases h; exact .int i
  | .str x, _, _, h => by cases h; exact .str x
  | .list ds, _, c, h => by
    cases h with
    | lst e n al => exact .lst (sq_lst e) (ObAll.dp ds _ c al)
  | .tuple ds, _, c, h => by
    cases h with
    | tup s al => exact .tup s (ObAll.dp ds _ c al)
  | .dict _, _, c, _ => by cases c
theorem ObAll.dp : ∀ (ds : List PyData) (vs : List V), PyData.canLayAll0 ds = true → ObAll K H a vs ds → DpAll K H vs ds
  | [], _, _, h => by cases h; exact .nil
  | d :: ds, _, c, h => by
    have c' : (d.canLay0 && PyData.canLayAll0 ds) = true := c
    rw [Bool.and_eq_true] at c'
    cases h with
    | cons h1 h2 => exact .cons (Ob.dp d _ c'.1 h1) (ObAll.dp ds _ c'.2 h2)
end
end
end
section
open L2 PySem PySem.Spec PyProof.Rows
def uniqL (l : List Str) : List Str := l.foldl (fun acc x => if x ∈ acc then acc else acc ++ [x]) []
theorem uniq_snoc (l : List Str) (x : Str) : uniqL (l ++ [x]) = if x ∈ uniqL l then uniqL l else uniqL l ++ [x] := by
  unfold uniqL
  rw [List.foldl_append]
  rfl
theorem uniq_mem : ∀ (n : Nat) (l : List Str), l.length = n → ∀ z, z ∈ uniqL l ↔ z ∈ l
  | 0, l, h, z => by rw [List.length_eq_zero_iff.mp h]; exact Iff.rfl
  | n + 1, l, h, z => by
    obtain ⟨m, x, rfl⟩ : ∃ m x, l = m ++ [x] := ⟨l.dropLast, l.getLast (fun e => by rw [e] at h; cases h), (List.dropLast_concat_getLast _).symm⟩
    rw [List.length_append] at h
    have ih := uniq_mem n m (by have : [x].length = 1 := rfl; omega) 
    rw [uniq_snoc]
    split
    · rename_i c
      rw [ih z, List.mem_append, List.mem_singleton]
      exact ⟨.inl, fun h => h.elim id fun e => by rw [e]; exact (ih x).mp c⟩
    · rw [List.mem_append, List.mem_append, ih z]
theorem mem_uniq {l : List Str} {z : Str} : z ∈ uniqL l ↔ z ∈ l := uniq_mem _ l rfl z
def distN (l : List Str) : Nat := (uniqL l).length
theorem dist_snoc (l : List Str) (x : Str) : distN (l ++ [x]) = if x ∈ l then distN l else distN l + 1 := by
  unfold distN
  rw [uniq_snoc]
  by_cases c : x ∈ l
  · rw [if_pos (mem_uniq.mpr c), if_pos c]
  · rw [if_neg (fun h => c (mem_uniq.mp h)), if_neg c, List.length_append]
    rfl
theorem dist_le : ∀ (n : Nat) (l : List Str), l.length = n → distN l ≤ n ∧ (distN l = n ↔ l.Nodup)
  | 0, l, h => by rw [List.length_eq_zero_iff.mp h]; exact ⟨Nat.le_refl _, fun _ => List.nodup_nil, fun _ => rfl⟩
  | n + 1, l, h => by
    obtain ⟨m, x, rfl⟩ : ∃ m x, l = m ++ [x] := ⟨l.dropLast, l.getLast (fun e => by rw [e] at h; cases h), (List.dropLast_concat_getLast _).symm⟩
    rw [List.length_append] at h
    obtain ⟨i1, i2⟩ := dist_le n m (by have : [x].length = 1 := rfl; omega)
    rw [dist_snoc, List.nodup_append]
    split
    · rename_i c
      refine ⟨by omega, fun e => by omega, fun e => absurd rfl (e.2.2 x c x (List.mem_singleton.mpr rfl))⟩
    · rename_i c
      refine ⟨by omega, fun e => ⟨i2.mp (by omega), (List.nodup_cons.mpr ⟨List.not_mem_nil, List.nodup_nil⟩), fun y hy z hz ez => ?_⟩, fun e => by rw [i2.mpr e.1]⟩
      rw [List.mem_singleton.mp hz] at ez
      rw [ez] at hy
      exact c hy
abbrev TxD (P : Program) (w : World) (h : Heap) (a : Addr) (xs : List Str) : Prop := h.SetOf (PySem.strKind P w) a (fun k => decide (k ∈ xs)) (distN xs)
theorem TxD.at {P : Program} {w : World} {h h' : Heap} {a : Addr} {xs : List Str} (z : TxD P w h a xs) (k : ∀ o, h.get? a = some o → h'.get? a = some o) : TxD P w h' a xs :=
  let ⟨o, es, ep, t, g, r⟩ := z
  ⟨o, es, ep, t, k o g, r⟩
section
variable {P : Program} {w : World} {A : Around} {R : Result → Shared → Prop} {I : Addr} {fp wr : List Addr} {G : Array GenState → Array GenState → Prop} {n : Nat} {Pv : Nat → Value → Prop} {St : Nat → Shared → Prop}
theorem fill_textsD (W : WalksS P w A.in1 I fp wr G n Pv St) (S : Addr) (nS : S ∉ fp) (xs : List Str) (hl : xs.length = n) (hb : n + 1 < scanBound) (hv : ∀ i v, Pv i v → ∃ z t, xs[i]? = some z ∧ v = .str z t) :
    ∀ (m i : Nat) (s : Shared), n - i = m → i ≤ n → St i s → TxD P w s.heap S (xs.take i) → (∀ s', Moved (S :: wr) G s s' → TxD P w s'.heap S xs → R (.ok (.ret .none)) s') →
      codeAny (model P w) A (.builtin "set.update.loop" ⟨[.ref S, .ref I], []⟩) R s := by
  have nw : S ∉ wr := fun z => nS (W.sub _ z)
  have up : ∀ b ∈ wr, b ∈ S :: wr := fun b hb => .tail _ hb
  intro m
  induction m with
  | zero =>
    intro i s hm hi st z q
    have e : i = n := by omega
    refine codeAny_builtin PyProof.Rows.F.entry_set_update_loop ?_
    rw [Around.under_plainId PyProof.Rows.F.plain_set_update_loop _]
    show wpAny _ A.in1 (pyNext (.ref I) >>= _) _ _ s
    rw [e] at st z
    refine wpAny_bind (W.done s _ _ st fun s' mv => ?_)
    show wpAny _ A.in1 (ret Value.none) _ _ s'
    rw [← hl, List.take_length] at z
    exact wpAny_pure (q s' (mv.mono up) (z.at fun o g => mv.heap S o nw g))
  | succ m ih =>
    intro i s hm hi st z q
    have lt : i < n := by omega
    refine codeAny_builtin PyProof.Rows.F.entry_set_update_loop ?_
    rw [Around.under_plainId PyProof.Rows.F.plain_set_update_loop _]
    show wpAny _ A.in1 (pyNext (.ref I) >>= _) _ _ s
    refine wpAny_bind (W.item i s _ _ lt st fun v s' pv st' mv => ?_)
    obtain ⟨x, tk, hx, rfl⟩ := hv i v pv
    have z' : TxD P w s'.heap S (xs.take i) := z.at fun o g => mv.heap S o nw g
    have ln : (xs.take i).length = i := by rw [List.length_take]; omega
    have ld := (dist_le i (xs.take i) ln).1
    show wpAny _ A.in1 (holding [Value.str x tk] (setAdd S (.str x tk)) >>= _) _ _ s'
    refine wpAny_bind (wpAny_holding ?_)
    unfold setAdd
    refine wpAny_holding (wpAny_bind ((PySem.strKind P w).pyHash (k := x) (PySem.strKind_is _ _ _ _) ?_))
    refine wpAny_setAddHashed_of (knd := PySem.strKind P w) (s := { s' with toks := s'.toks + 1 }) (PySem.strKind_is _ _ _ _) rfl z' (by omega) fun h' sb z2 => ?_
    have z3 : TxD P w h' S (xs.take (i + 1)) := by
      have tk1 : xs.take (i + 1) = xs.take i ++ [x] := by rw [List.take_succ, hx]; rfl
      have tk2 : distN (xs.take (i + 1)) = if x ∈ xs.take i then distN (xs.take i) else distN (xs.take i) + 1 := by
        rw [List.take_succ, hx]
        exact dist_snoc _ _
      have tk1 : xs.take (i + 1) = xs.take i ++ [x] := by rw [List.take_succ, hx]; rfl
      refine SetOf_congr z2 (fun k => ?_) (by rw [tk2]; simp)
      rw [tk1]
      by_cases e : k = x <;> simp [e]
    refine wpAny_pure ⟨plainId_quiet PyProof.Rows.F.plain_set_update_loop _, ih (i + 1) _ (by omega) lt (W.frame _ s' _ _ st' (Nat.le_succ _) fun b hb o e => (sb.2 b fun h => nS (h ▸ hb)).trans e) z3 fun s2 mv2 z4 => q s2 (Moved.trans W.gtrans ((mv.mono up).then_heap (Nat.le_succ _) fun b o hb e => (sb.2 b fun h => hb (h ▸ .head _)).trans e) mv2) z4⟩
end
section
variable {P : Program} {w : World} {A : Around} {E : Value → Shared → Prop} {s : Shared}
theorem call_set_textsD {l : Addr} {items : Array Value} {xs : List Str} {Q : Value → Shared → Prop} (hh : A.handled = none) (hl : s.heap.IsTuple l items) (hi : StrsAre items.toList xs) (hb : xs.length + 1 < scanBound)
    (q : ∀ (h' : Heap) (tk : Nat), TxD P w h' s.heap.objs.size xs → (∀ b o, b < s.heap.objs.size → s.heap.get? b = some o → h'.get? b = some o) → Q (.ref s.heap.objs.size) { s with heap := h', toks := tk }) :
    wpAny (model P w) A (call (.type "set") [.ref l]) Q E s := by
  have c1 := PySem.F.called_set.made
  have c2 := PySem.F.called_set.sub
  have c3 := PySem.F.called_set.notType
  have c4 := PySem.F.called_set.canCreate
  have c5 := PySem.F.typeCall_set_1 (.ref l)
  obtain ⟨_, _, c6⟩ := PySem.F.called_set.mro
  refine wpAny_call (codeAny_of_tree ?_)
  show wpAny _ _ (callAny (.type "set") _) _ _ _
  refine wpAny_pure ⟨Code.quiet_builtin _ (by decide +kernel), codeAny_builtin PySem.F.entry_type_call ?_⟩
  rw [Around.under_plain (weight_type_call_type "set" [.ref l] []) rfl]
  repeat (any_goals (first | assumption | wp_step))
  refine codeAny_mono (code_set_new_1 (.ref l) (E := E) (Q₁ := fun v z => ∃ led : Bool, v = .ref s.heap.objs.size ∧ z = { s with heap := s.heap.push (eset led) }) fun led => ⟨led, rfl, rfl⟩) fun r z hr => ?_
  cases r with
  | error e => exact hr
  | ok fl =>
   cases fl with
   | ret obj =>
    obtain ⟨led, rfl, rfl⟩ := hr
    have g0 : (s.heap.push (eset led)).get? s.heap.objs.size = some (eset led) := Heap.get?_push_size _ rfl
    have ty : Shared.TypeIs { s with heap := s.heap.push (eset led) } (.ref s.heap.objs.size) "set" := ⟨_, g0, rfl⟩
    have d1 := PySem.F.called_set.init.lookup
    have d2 := PySem.F.called_set.init.bind (.ref s.heap.objs.size)
    repeat (any_goals (first | assumption | wp_step))
    refine codeAny_mono (codeAny_call_builtin (R := wants (fun v z => v = .none ∧ ∃ h' tk, z = { s with heap := h', toks := tk } ∧ TxD P w h' s.heap.objs.size xs ∧ ∀ b o, b < s.heap.objs.size → s.heap.get? b = some o → h'.get? b = some o) E) PySem.F.called_set.init.plain PySem.F.entry_set_init (check_set_init_1 ty ?_)) fun r z hr => ?_
    · obtain ⟨⟨cl, di, da, sl⟩, hol, hcl, nl, hdl⟩ := hl
      simp only at hcl hdl
      subst hcl hdl
      have hol' : (s.heap.push (eset led)).get? l = some { cls := .type "tuple", dict := di, data := .seq items nl, slots := sl } := Heap.get?_push_of_some _ hol
      have f1 := PySem.F.sub_tuple_set
      have f2 := PySem.F.sub_tuple_frozenset
      have f3 : (Value.type "tuple" == Value.type "dict") = false := by decide
      have hl1 : (s.heap.push (eset led)).IsTuple l items := ⟨_, hol', rfl, nl, rfl⟩
      unfold Builtin.«set.__init__» noKeywords Builtin.Frozenset.updateFrom
      generalize hPI : pyIter = PI
      wp_walk
      subst hPI
      refine wpAny_pyIter_tuple hl1 (wpAny_bind (wpAny_runValue ?_))
      have lt : l < s.heap.objs.size := Heap.lt_size hol
      have sz : (s.heap.push (eset led)).objs.size = s.heap.objs.size + 1 := Heap.size_push ..
      have ne : l ≠ (s.heap.push (eset led)).objs.size := by rw [sz]; exact Nat.ne_of_lt (Nat.lt_succ_of_lt lt)
      have nS : s.heap.objs.size ∉ [(s.heap.push (eset led)).objs.size, l] := by
        rw [sz]
        simp only [List.mem_cons, List.not_mem_nil, or_false, not_or]
        exact ⟨Nat.ne_of_lt (Nat.lt_succ_self _), Nat.ne_of_gt lt⟩
      have len : xs.length = items.size := by rw [← StrsAre.len_eq hi, Array.length_toList]
      have at_ : ∀ (i : Nat) (v : Value), items[i]? = some v → ∃ z t, xs[i]? = some z ∧ v = .str z t := fun i v hv => by
        obtain ⟨t, e⟩ := SS.strs_at hi i v (by rw [Array.getElem?_toList]; exact hv)
        have hlt : i < xs.length := by
          rw [len]
          exact (Array.getElem?_eq_some_iff.mp hv).1
        refine ⟨xs[i], t, List.getElem?_eq_getElem hlt, ?_⟩
        rw [e, List.getD_eq_getElem?_getD, List.getElem?_eq_getElem hlt]
        rfl
      refine fill_textsD ((Walks.tuple (by simp [hh]) _ l ne items).toS) s.heap.objs.size nS xs len (by rw [← len]; exact hb) at_ (items.size - 0) 0 _ (by omega) (Nat.zero_le _) ⟨⟨_, Heap.get?_push_size _ rfl, rfl, rfl⟩, (hl1.push _)⟩ ?_ fun s' mv z => ?_
      · exact SetOf_congr ((setObjOf_fresh (knd := PySem.strKind P w) led).setOf (Heap.get?_push_of_some _ g0) (by unfold scanBound; omega)) (fun _ => by simp) rfl
      · obtain ⟨h', g', d', tk', os'⟩ := s'
        obtain rfl : g' = s.gens := mv.gens
        obtain rfl : d' = s.drawn := mv.drawn
        obtain rfl : os' = s.os := mv.os
        show wpAny _ _ _ _ _ _
        refine wpAny_pure ?_
        show wpAny _ _ (ret Value.none) _ _ _
        refine wpAny_pure ⟨rfl, h', tk', rfl, z, fun b o hb e => mv.heap b o ?_ (Heap.get?_push_of_some _ (Heap.get?_push_of_some _ e))⟩
        rw [sz]
        simp only [List.mem_cons, List.not_mem_nil, or_false, not_or]
        exact ⟨Nat.ne_of_lt hb, Nat.ne_of_lt (Nat.lt_succ_of_lt hb)⟩
    · cases r with
      | error e => exact hr
      | ok fl =>
       cases fl with
       | ret v =>
        obtain ⟨rfl, h', tk, rfl, z, k⟩ := hr
        repeat (any_goals (first | assumption | wp_step))
        exact q _ _ z k
       | _ => exact hr.elim
   | _ => exact hr.elim
end
section
variable {X : Cx}
def TxsDO (P : Program) (w : World) (a : Addr) (xs : List Str) : HO := .ext fun h => TxD P w h a xs
def rSetTextsD (K : PySem.W.Frag) (P : Program) (w : World) : List V → Hp → VK → Prop := fun vs H Q => ∃ (l : Addr) (xs : List Str), vs = [.ref l] ∧ SqT K H l (xs.map V.str) ∧ xs.length < 60 ∧ ∀ D, H D = none → Q (.ref D) (upd H D (TxsDO P w D xs))
theorem cr_setTextsD (hc : X.calm = true) : CallR X (.type "set") (rSetTextsD X.K X.prog X.w) := by
  intro pins s σ H vs us Q I r h
  obtain ⟨l, xs, rfl, hl, lt, q⟩ := h
  rw [Vals.ref1 r]
  obtain ⟨its, rv, pl, hz⟩ := I.tuple hl
  refine call_set_textsD (I.ok.hd hc) pl (by simpa using strsAre_of rv) (by unfold scanBound; omega) fun h' tk z k => ?_
  refine ⟨.ref s.heap.objs.size, upd H s.heap.objs.size (TxsDO X.prog X.w s.heap.objs.size xs), I.laid (t' := tk) (fun b o e => k b o (Heap.lt_size e) e) (Nat.le_refl _) ⟨z, ?_, fun h1 h2 z k => TxD.at z k⟩, rfl, q _ (I.hok.fresh (Nat.le_refl _))⟩
  obtain ⟨o, _, _, _, g, _⟩ := z
  exact ⟨o, g⟩
def rLenTextsD (P : Program) (w : World) : List V → Hp → VK → Prop := fun vs H Q => ∃ (D : Addr) (xs : List Str), vs = [.ref D] ∧ H D = some (TxsDO P w D xs) ∧ Q (.int (distN xs)) H
theorem cr_lenTextsD : CallR X (.builtin "len") (rLenTextsD X.prog X.w) := by
  intro pins s σ H vs us Q I r h
  obtain ⟨D, xs, rfl, hD, q⟩ := h
  rw [Vals.ref1 r]
  obtain ⟨o, es, ep, t, ho, hex, hd, _, _, hlt, hf, hn⟩ : TxD X.prog X.w s.heap D xs := (I.hok D _ hD).1
  refine call_len_set ho hex hd hf ?_ ⟨.int (distN xs), H, I.tok _, ⟨_, by rw [hn]⟩, q⟩
  unfold scanBound at hlt
  omega
end
end
section
open L2 PySem PySem.Spec PyProof.Rows
abbrev ti (P : Program) (w : World) (k : List Int) : Int := tupleKeyHash (PySem.intKind P w) k
end
section
open L2 PySem PySem.Spec PyProof.Rows
def rNeE (K : PySem.W.Frag) : R2 := fun x y H Q => ∃ a b xs, x = .ref a ∧ y = .ref b ∧ SqL K H a xs ∧ SqL K H b [] ∧ Q (.bl (!xs.isEmpty)) H
def rEqE (K : PySem.W.Frag) : R2 := fun x y H Q => ∃ a b xs, x = .ref a ∧ y = .ref b ∧ SqL K H a xs ∧ SqL K H b [] ∧ Q (.bl xs.isEmpty) H
section
variable {X : Cx}
theorem op_neE (hu : X.A.units + 64 < cLine) : OpR X (compareOp .NotEq) (rNeE X.K) := by
  intro pins s σ H x y v u Q I rx ry h
  obtain ⟨a, b, xs, rfl, rfl, ha, hb, q⟩ := h
  cases (show v = Value.ref a from rx)
  cases (show u = Value.ref b from ry)
  obtain ⟨us, r1, p1, _⟩ := I.list ha
  obtain ⟨ws, r2, p2, _⟩ := I.list hb
  cases r2
  cases xs with
  | nil =>
    cases r1
    exact SeqAt.RcNeAt.lists (e := fun _ => true) p1.isList p2.isList rfl (by omega) (fun j h1 _ => absurd h1 (Nat.not_lt_zero _)) X.prog X.w _ _ ⟨.bl _, H, I, rfl, q⟩
  | cons x xs =>
    cases r1
    exact SeqAt.RcNeAt.lists_lengths p1.isList p2.isList (by simp) (by omega) X.prog X.w _ _ ⟨.bl _, H, I, rfl, q⟩
theorem op_eqE (hu : X.A.units + 64 < cLine) : OpR X (compareOp .Eq) (rEqE X.K) := by
  intro pins s σ H x y v u Q I rx ry h
  obtain ⟨a, b, xs, rfl, rfl, ha, hb, q⟩ := h
  cases (show v = Value.ref a from rx)
  cases (show u = Value.ref b from ry)
  obtain ⟨us, r1, p1, _⟩ := I.list ha
  obtain ⟨ws, r2, p2, _⟩ := I.list hb
  cases r2
  cases xs with
  | nil =>
    cases r1
    exact SeqAt.RcAt.lists (e := fun _ => true) p1.isList p2.isList rfl (by omega) (fun j h1 _ => absurd h1 (Nat.not_lt_zero _)) X.prog X.w _ _ ⟨.bl _, H, I, rfl, q⟩
  | cons x xs =>
    cases r1
    exact SeqAt.RcAt.lists_lengths p1.isList p2.isList (by simp) (by omega) X.prog X.w _ _ ⟨.bl _, H, I, rfl, q⟩
end
theorem k_neE {X : Cx} {K : PySem.W.Frag} (hu : X.A.units + 64 < cLine) (hK : X.K = K := by rfl) : OpR X (compareOp .NotEq) (rNeE K) := by subst hK; exact op_neE hu
theorem k_eqE {X : Cx} {K : PySem.W.Frag} (hu : X.A.units + 64 < cLine) (hK : X.K = K := by rfl) : OpR X (compareOp .Eq) (rEqE K) := by subst hK; exact op_eqE hu
theorem i_neE {K : PySem.W.Frag} {H : Hp} {Q : VK} {a b : Addr} {xs : List V} (ha : SqL K H a xs) (hb : SqL K H b []) (q : Q (.bl (!xs.isEmpty)) H) : rNeE K (.ref a) (.ref b) H Q := ⟨a, b, xs, rfl, rfl, ha, hb, q⟩
theorem i_eqE {K : PySem.W.Frag} {H : Hp} {Q : VK} {a b : Addr} {xs : List V} (ha : SqL K H a xs) (hb : SqL K H b []) (q : Q (.bl xs.isEmpty) H) : rEqE K (.ref a) (.ref b) H Q := ⟨a, b, xs, rfl, rfl, ha, hb, q⟩
end
section
open L2 PySem PySem.Spec PyProof.Rows
section
variable {P : Program} {w : World} {A : Around} {E : Value → Shared → Prop} {s : Shared}
theorem txs_old {a x : Addr} {L : List (Addr × List Str)} {k : List Str} {es : Array (Int × Value)} {ep : Nat} {t : SetTable} (R : TxS P w s.heap a L es ep t) (hT : ∀ p ∈ L, Tt P w s.heap p.2 p.1) (hx : Tt P w s.heap k x) (hu : A.units + 64 < cLine) (hk : k ∈ L.map (·.2)) {Q : Value → Shared → Prop}
    (q : ∀ tk, Q .none { s with toks := tk }) : wpAny (model P w) A (call (.builtin "set.add") [.ref a, .ref x]) Q E s := by
  obtain ⟨o, g, hex, hd⟩ := R.here
  have ty : s.TypeIs (.ref a) "set" := ⟨o, g, hex.1⟩
  refine wpAny_call_entry F.slot_set_add ty F.entry_set_add ?_ (F.args_set_add_2 _ _)
  unfold Builtin.«set.add» Builtin.Frozenset.oneOther
  simp only [List.isEmpty_nil, bind_assoc]
  unfold Builtin.Frozenset.addrOf setAdd
  refine wpAny_bind (wpAny_pure ?_)
  try dsimp only
  refine wpAny_bind (wpAny_pure ?_)
  try dsimp only
  refine wpAny_bind (wpAny_holding (wpAny_bind (wpAny_pyHash_tuple ?hun hx ?_)))
  case hun => first | omega | (show A.units + 1 < cLine; omega) | (show A.units < cLine; omega)
  refine (show TxS P w ({ s with toks := s.toks + (k.length + 1) } : Shared).heap a L es ep t from R).again (s := { s with toks := s.toks + (k.length + 1) }) hT hx ?hun hk ?_
  case hun => first | omega | (show A.units + 1 < cLine; omega) | (show A.units < cLine; omega)
  show wpAny _ _ (ret Value.none) _ _ _
  exact wpAny_pure ⟨_, rfl, q _⟩
end
section
variable {X : Cx}
theorem ts_addD {pins : List (Addr × Obj)} {σ : L2.St} {H : Hp} {s : Shared} {E : Value → Shared → Prop} {D x : Addr} {L : List (Addr × List Str)} {k : List Str} {Q : Value → Shared → Prop} (I : Inv X pins σ H s) (hu : X.A.units + 64 < cLine) (hD : H D = some (TsO X.prog X.w D L))
    (hT : ∀ p ∈ L, SqT X.K H p.1 (p.2.map V.str)) (hx : SqT X.K H x (k.map V.str)) (hf : L.length + 1 < 64) (ho : k ∈ L.map (·.2) → ∀ s', Inv X pins σ H s' → Q .none s')
    (h : k ∉ L.map (·.2) → ∀ L' s', L'.Perm ((x, k) :: L) → Inv X pins σ (upd H D (TsO X.prog X.w D L')) s' → Q .none s') : wpAny (model X.prog X.w) X.A (call (.builtin "set.add") [.ref D, .ref x]) Q E s := by
  by_cases c : k ∈ L.map (·.2)
  · obtain ⟨es, ep, t, R⟩ : ∃ es ep t, TxS X.prog X.w s.heap D L es ep t := (I.hok D _ hD).1
    exact txs_old R (fun p hp => tt_of I (hT p hp)) (tt_of I hx) hu c fun tk => ho c _ (I.tok _)
  · exact ts_add I hu hD hT hx (fun p hp e => c (e ▸ List.mem_map_of_mem hp)) hf (h c)
def tSctD (P : Program) (w : World) (K : PySem.W.Frag) (wi : TI) (g : TG) (tt : TT) (te : TE) (vs : List Nat) : TE := fun σ H Q => wi σ H fun J H1 => ∀ D, H1 D = none → ∃ W : Nat → Nat → Hp → Prop, (∃ m, W 0 m (upd H1 D (TsO P w D []))) ∧ ∀ i m H, W i m H →
  (J.stop i H ∧ Q (.ref D) H) ∨ (J.go i H ∧ ∃ Nx : Hp → Prop, (∀ H', Nx H' → ∃ m', m' < m ∧ W (i + 1) m' H') ∧ ∀ x H', J.yld i H x H' → g x (wipe σ vs) H' fun σ2 H2 => wipe σ2 vs = wipe σ vs ∧ tt σ2 H2 fun b H3 =>
    if b = true then te σ2 H3 fun y H4 => ∃ (p : Addr) (k : List Str) (L : List (Addr × List Str)), y = .ref p ∧ SqT K H4 p (k.map V.str) ∧ H4 D = some (TsO P w D L) ∧ (∀ q ∈ L, SqT K H4 q.1 (q.2.map V.str)) ∧ L.length + 1 < 64 ∧
      (k ∈ L.map (·.2) → Nx H4) ∧ (k ∉ L.map (·.2) → ∀ L' : List (Addr × List Str), L'.Perm ((p, k) :: L) → Nx (upd H4 D (TsO P w D L'))) else Nx H3)
theorem pe_sctD {elt tg iter : Expr} {ifs : List Expr} {scope : Scope} {own : List (PySem.Str × Nat)} {pos : Pos} {wi : TI} {g : TG} {tt : TT} {te : TE} (hc : X.calm = true) (hu : X.A.units + 64 < cLine) (hN : X.N.Nodup) (hi : PI X tg iter wi) (ok : BlkOk X.N X.env.scope scope own)
    (hg : ∀ (s : Shared) (H : Hp) (C : Addr) (cl : List (PySem.Str × Addr)) (fp : List Addr), PG (X.blk s H scope (compEnvC scope cl C X.env) fp) tg g) (ht : ∀ (s : Shared) (H : Hp) (C : Addr) (cl : List (PySem.Str × Addr)) (fp : List Addr), PTs (X.blk s H scope (compEnvC scope cl C X.env) fp) ifs tt)
    (he : ∀ (s : Shared) (H : Hp) (C : Addr) (cl : List (PySem.Str × Addr)) (fp : List Addr), PE (X.blk s H scope (compEnvC scope cl C X.env) fp) elt te) (hs : ∀ x, foldedSetIterable iter X.env x = pure x := by intro _; rfl) :
    PE X (.SetComp elt [⟨tg, iter, ifs, 0⟩] scope pos) (tSctD X.prog X.w X.K wi g tt te (own.map (·.2))) := by
  refine ⟨fun pins s σ H Q I h => ?_⟩
  rw [PpSet.eval_SetComp]
  have fr : ∀ y ∈ scope.names, y.2 = .free → ∃ c, X.env.cells.lookup y.1 = some c := fun y hy e => (ok.free y hy e).elim (fun k => I.ok.has _ (.inl k)) fun k => I.ok.has _ (.inr k)
  refine wpAny_comprehension_free rfl hs (closure_ok fr) ok.kind (fun y hy e => by rw [ok.uniq y hy, e]) (thn (hi.run pins s σ H _ I h) fun xv s1 hx => thn hx fun itv s2 ⟨it, fp, tn, J, H2, e, I2, T, st2, f2, q⟩ => ?_)
  subst e
  refine PpSet.newSet_ok (newEnv_comp ?_)
  obtain ⟨D, hD⟩ : ∃ D, D = s2.heap.objs.size := ⟨_, rfl⟩
  rw [← hD]
  have D0 : H2 D = none := I2.hok.fresh (Nat.le_of_eq hD.symm)
  obtain ⟨W, ⟨m0, w0⟩, turn⟩ := q D D0
  generalize es3 : ({ s2 with heap := s2.heap.push (setObj0 X.w) } : Shared) = s3
  have h3 : s3.heap = s2.heap.push (setObj0 X.w) := by rw [← es3]
  have I3 : Inv X pins σ (upd H2 D (TsO X.prog X.w D [])) s3 := by
    rw [← es3]
    refine I2.laid (t' := s2.toks) (fun b o e => Heap.get?_push_of_some _ e) (Nat.le_of_eq hD.symm) (ts_obj ⟨_, _, _, txs_fresh ?_⟩)
    rw [hD]
    exact Heap.get?_push_size _ rfl
  show codeAny _ _ (.compStart (.SetComp elt [⟨tg, iter, ifs, 0⟩] scope pos) 0 (.ref it) (.ref D) (compEnvC scope (cellsFrom (s3.heap.objs.size + 1) scope.names (cloFrom X.env.cells scope.names [])) s3.heap.objs.size X.env)) (compPost (model X.prog X.w) X.A X.xe none (EP X pins σ Q) (.ref D) s3.heap.objs.size) { s3 with heap := pushCells (s3.heap.push { cls := .type "dict", data := .dict #[] }) scope.names }
  have f3 : ∀ b ∈ fp, FpOk X pins (upd H2 D (TsO X.prog X.w D [])) b ∧ b < s3.heap.objs.size := fun b hb => by
    obtain ⟨o, e, _⟩ := T.obj _ _ st2 b hb
    have lt : b < s2.heap.objs.size := Heap.lt_size e
    refine ⟨⟨(upd_ne (by rw [hD]; exact Nat.ne_of_lt lt)).trans (f2 b hb).1, (f2 b hb).2⟩, ?_⟩
    rw [h3, Heap.size_push]
    exact Nat.lt_succ_of_lt lt
  have st3 : tn 0 s3.heap := T.keep _ _ _ st2 fun b _ o e => by rw [h3]; exact Heap.get?_push_of_some _ e
  obtain ⟨H3, eH3⟩ : ∃ H3, H3 = upd H2 D (TsO X.prog X.w D []) := ⟨_, rfl⟩
  rw [← eH3] at I3 f3 w0
  have I4 := block_start I3 ok hN f3
  have pg := hg s3 H3 s3.heap.objs.size (cellsFrom (s3.heap.objs.size + 1) scope.names (cloFrom X.env.cells scope.names [])) fp
  have pt := ht s3 H3 s3.heap.objs.size (cellsFrom (s3.heap.objs.size + 1) scope.names (cloFrom X.env.cells scope.names [])) fp
  have pe := he s3 H3 s3.heap.objs.size (cellsFrom (s3.heap.objs.size + 1) scope.names (cloFrom X.env.cells scope.names [])) fp
  obtain ⟨ce, ece⟩ : ∃ ce, ce = compEnvC scope (cellsFrom (s3.heap.objs.size + 1) scope.names (cloFrom X.env.cells scope.names [])) s3.heap.objs.size X.env := ⟨_, rfl⟩
  rw [← ece] at I4 pg pt pe
  have cL : ce.locals = s3.heap.objs.size := by rw [ece]; rfl
  obtain ⟨s4, es4⟩ : ∃ s4 : Shared, s4 = { s3 with heap := pushCells (s3.heap.push { cls := .type "dict", data := .dict #[] }) scope.names } := ⟨_, rfl⟩
  rw [← es4] at I4 ⊢
  have goal' : codeAny (model X.prog X.w) X.A (.compStart (.SetComp elt [⟨tg, iter, ifs, 0⟩] scope pos) 0 (.ref it) (.ref D) ce) (compPost (model X.prog X.w) X.A X.xe none (EP X pins σ Q) (.ref D) ce.locals) s4 := by
    have st4 : tn 0 s4.heap := T.keep _ _ _ st3 fun b _ o e => by rw [es4]; exact pushCells_keeps _ _ _ _ (Heap.get?_push_of_some _ e)
    have n4 : ∀ b ∈ fp, H3 b = none := fun b hb => (f3 b hb).1.1
    have own' : ∀ {σ' : L2.St} {H' : Hp} {s' : Shared}, Inv (X.blk s3 H3 scope ce fp) [] σ' H' s' → (∀ b ∈ fp, H' b = none) → ∀ b ∈ fp, FpOk (X.blk s3 H3 scope ce fp) [] H' b := fun I' n b hb =>
      ⟨n b hb, (I'.ok.exf b hb).1, I'.ok.exfs b hb, .inl hb, fun x c e => (I'.ok.exf b hb).2 x c e, fun p hp => absurd (show p ∈ ([] : List (Addr × Obj)) ++ [] from hp) (by simp)⟩
    have loop : codeAny (model X.prog X.w) X.A (.compLoop (.SetComp elt [⟨tg, iter, ifs, 0⟩] scope pos) 0 (.ref it) (.ref D) ce) (compPost (model X.prog X.w) X.A X.xe none (EP X pins σ Q) (.ref D) ce.locals) s4 := by
      refine PpSet.compLoopS_any (fun n s' => ∃ i H', W i n H' ∧ (∀ b ∈ fp, H' b = none) ∧ tn i s'.heap ∧ Inv (X.blk s3 H3 scope ce fp) [] (wipe σ (own.map (·.2))) H' s') ?_ m0 ⟨0, H3, w0, n4, st4, I4⟩
      rintro n s5 ⟨i, H5, w5, n5, st5, I5⟩
      rcases turn i n H5 w5 with ⟨stop, qq⟩ | ⟨go, Nx, hNx, step⟩
      · refine thnF (T.done (X.blk s3 H3 scope ce fp) rfl rfl rfl hc i [] s5 _ H5 (fun _ _ => False) I5 (own' I5 n5) st5 stop) fun r s6 ⟨hr, I6⟩ => ?_
        subst hr
        have I7 : Inv X pins σ H5 s6 := I3.call' (ch := fp) I6.os I6.base I6.hok I6.bare fun b hb => ⟨(f3 b hb).1.2.2.2.1, (f3 b hb).1.2.1, (f3 b hb).1.2.2.2.2.1, (f3 b hb).1.2.2.2.2.2⟩
        have nC : H5 s3.heap.objs.size = none := cL ▸ I6.free
        obtain ⟨m, hn, _⟩ := I6.loc
        have hn : s6.heap.Ns ce.locals m := hn
        obtain ⟨g0, g1, g3, g4, g5, g6⟩ := I3.fpOk (Nat.le_refl s3.heap.objs.size) nC
        rw [← cL] at g0 g1 g3 g4 g5 g6
        exact ⟨m, hn, fun h'' sb => ⟨.ref D, H5, I7.turned (t' := s6.toks) (fun b o hb e => (sb.2 b hb).trans e) g0 g1 g4 g5 g6, rfl, qq⟩⟩
      · refine thnF (T.item (X.blk s3 H3 scope ce fp) rfl rfl rfl hc i [] s5 _ H5 (fun _ _ => False) I5 (own' I5 n5) st5 go) fun r s6 ⟨u, hr, h6⟩ => ?_
        subst hr
        refine thnF h6 fun _ s7 ⟨x, H7, I7, r7, y7, st7, n7⟩ => ?_
        have I7' := I7.pinned (own' I7 n7) (T.obj _ _ st7)
        refine thnF (pg.run _ s7 _ H7 x u _ I7' r7 (step x H7 y7)) fun _ s8 ⟨σ8, H8, I8, hw8, q8⟩ => thnF (pt.run _ s8 σ8 H8 _ I8 q8) fun b s9 ⟨H9, I9, q9⟩ => ?_
        have fin : ∀ {s' : Shared} {H' : Hp}, Inv (X.blk s3 H3 scope ce fp) ([] ++ pinsAt fp s7.heap) σ8 H' s' → Nx H' → ∃ m, m < n ∧ ∃ i H', W i m H' ∧ (∀ b ∈ fp, H' b = none) ∧ tn i s'.heap ∧ Inv (X.blk s3 H3 scope ce fp) [] (wipe σ (own.map (·.2))) H' s' := fun {s' H'} I' nx => by
          obtain ⟨m', lt, w'⟩ := hNx H' nx
          have pin' : ∀ b ∈ fp, ∀ o, s7.heap.get? b = some o → s'.heap.get? b = some o ∧ H' b = none := fun b hb o e =>
            have z := I'.pin (b, o) (List.mem_append_right _ (List.mem_append_right _ (mem_pinsAt hb e)))
            ⟨z.1, z.2.1⟩
          refine ⟨m', lt, i + 1, H', w', fun b hb => ?_, T.keep _ _ _ st7 fun b hb o e => (pin' b hb o e).1, (I'.unpinned (pins := [])).weak (by rw [← hw8, wipe_length]) fun j v e => ?_⟩
          · obtain ⟨o, e, _⟩ := T.obj _ _ st7 b hb
            exact (pin' b hb o e).2
          · rw [← hw8] at e
            exact (wipe_some e).1
        cases b with
        | false =>
          simp only [Bool.false_eq_true, if_false] at q9 ⊢
          exact fin I9 q9
        | true =>
          simp only [if_true] at q9 ⊢
          refine thnF (pe.run _ s9 σ8 H9 _ I9 q9) fun z s10 ⟨yv, H10, I10, r10, p, k, L, ey, hp, hD10, hT, hf, nxo, nx⟩ => ?_
          subst ey
          cases r10
          exact ts_addD (X := X.blk s3 H3 scope ce fp) I10 hu hD10 hT hp hf (fun hk s11 I11 => fin I11 (nxo hk)) fun hk L' s11 pm I11 => fin I11 (nx hk L' pm)
    exact PpSet.codeAny_compStart_set loop (T.self X.A 0 _ _ _ st4 loop)
  rw [cL, ece] at goal'
  exact goal'
end
section
variable {P : Program} {w : World} {σ : L2.St} {H : Hp} {Q : VK} {K : PySem.W.Frag} {g : TG} {tt : TT} {te : TE} {vs : List Nat} {a : Addr}
def sctED (P : Program) (w : World) (K : PySem.W.Frag) (D : Addr) (N : Hp → Prop) : VK := fun y H4 => ∃ (p : Addr) (k : List Str) (L : List (Addr × List Str)), y = .ref p ∧ SqT K H4 p (k.map V.str) ∧ H4 D = some (TsO P w D L) ∧ (∀ q ∈ L, SqT K H4 q.1 (q.2.map V.str)) ∧ L.length + 1 < 64 ∧
  (k ∈ L.map (·.2) → N H4) ∧ (k ∉ L.map (·.2) → ∀ L' : List (Addr × List Str), L'.Perm ((p, k) :: L) → N (upd H4 D (TsO P w D L')))
def sctKD (P : Program) (w : World) (K : PySem.W.Frag) (g : TG) (tt : TT) (te : TE) (vs : List Nat) (σ : L2.St) (Q : VK) : It → Hp → Prop := fun J h => tSctD P w K (fun _ h' R => R J h') g tt te vs σ h Q
theorem i_sctD {wi : TI} (h : wi σ H (sctKD P w K g tt te vs σ Q)) : tSctD P w K wi g tt te vs σ H Q := h
theorem s_tupD (xs : List V) (Pv : Addr → Nat → Hp → Prop) (h0 : ∀ D, H D = none → Pv D 0 (upd H D (TsO P w D []))) (hl : ∀ D i H, i ≤ xs.length → Pv D i H → SqT K H a xs)
    (hs : ∀ D i x H, xs[i]? = some x → Pv D i H → g x (wipe σ vs) H fun σ2 H2 => wipe σ2 vs = wipe σ vs ∧ tt σ2 H2 fun b H3 => if b = true then te σ2 H3 (sctED P w K D (Pv D (i + 1))) else Pv D (i + 1) H3)
    (hd : ∀ D H, Pv D xs.length H → Q (.ref D) H) : sctKD P w K g tt te vs σ Q (Itt K a) H := by
  intro D nD
  refine ⟨fun i m H => m = xs.length - i ∧ i ≤ xs.length ∧ Pv D i H, ⟨xs.length, by simp, Nat.zero_le _, h0 D nD⟩, ?_⟩
  rintro i m H ⟨rfl, hi, p⟩
  have q := hl D i H hi p
  by_cases lt : i < xs.length
  · refine .inr ⟨⟨xs, xs[i], q, by simp [lt]⟩, Pv D (i + 1), fun H' p' => ⟨xs.length - (i + 1), by omega, rfl, lt, p'⟩, fun x H' y => ?_⟩
    obtain ⟨rfl, y⟩ := y
    exact hs D i x _ (y xs q) p
  · have e : i = xs.length := by omega
    subst e
    exact .inl ⟨⟨xs, q, Nat.le_refl _⟩, hd D H p⟩
end
end
section
open L2 PySem PySem.Spec PyProof.Rows
mutual
def okD : PyData → Bool
  | .str z => decide (z.cps.size ≤ 1000) && PyData.strOk z
  | .list ds => okAll ds
  | .tuple ds => okAll ds
  | _ => true
def okAll : List PyData → Bool
  | [] => true
  | d :: ds => okD d && okAll ds
end
theorem ok_all : ∀ {ds : List PyData}, okAll ds = true ↔ ∀ d ∈ ds, okD d = true
  | [] => ⟨fun _ d h => (nomatch h), fun _ => rfl⟩
  | d :: ds => by
    show (okD d && okAll ds) = true ↔ _
    rw [Bool.and_eq_true, ok_all (ds := ds)]
    exact ⟨fun h e he => (List.mem_cons.mp he).elim (fun k => k ▸ h.1) (h.2 e), fun h => ⟨h d List.mem_cons_self, fun e he => h e (List.mem_cons_of_mem _ he)⟩⟩
theorem ok_tup {ds : List PyData} : okD (.tuple ds) = true ↔ ∀ d ∈ ds, okD d = true := ok_all
theorem ok_str {z : Str} : okD (.str z) = true ↔ z.cps.size ≤ 1000 ∧ PyData.strOk z = true := by
  show (decide (z.cps.size ≤ 1000) && PyData.strOk z) = true ↔ _
  rw [Bool.and_eq_true, decide_eq_true_iff]
structure Nw (m n : Nat) (d : PyData) : Prop where
  sho : d.showable = true
  dct : d.hasDict = false
  dep : d.depth ≤ m
  lea : d.leavesShort 40 = true
  wei : d.weight ≤ n
  ok : okD d = true
theorem Nw.mono {m n m' n' : Nat} {d : PyData} (h : Nw m n d) (hm : m ≤ m') (hn : n ≤ n') : Nw m' n' d := ⟨h.sho, h.dct, Nat.le_trans h.dep hm, h.lea, Nat.le_trans h.wei hn, h.ok⟩
theorem nw_all {m n : Nat} : ∀ (ds : List PyData), (∀ d ∈ ds, Nw m n d) → PyData.showableAll ds = true ∧ PyData.hasDictAll ds = false ∧ PyData.depthAll ds ≤ m ∧ PyData.leavesShortAll 40 ds = true ∧ PyData.weightAll ds ≤ (n + 1) * ds.length ∧ okAll ds = true
  | [], _ => ⟨rfl, rfl, Nat.zero_le _, rfl, Nat.zero_le _, rfl⟩
  | d :: ds, h => by
    obtain ⟨a1, a2, a3, a4, a5, a6⟩ := nw_all ds fun e he => h e (List.mem_cons_of_mem _ he)
    obtain ⟨b1, b2, b3, b4, b5, b6⟩ := h d List.mem_cons_self
    refine ⟨?_, ?_, ?_, ?_, ?_, ?_⟩
    · show (d.showable && PyData.showableAll ds) = true
      rw [a1, b1]
      rfl
    · show (d.hasDict || PyData.hasDictAll ds) = false
      rw [a2, b2]
      rfl
    · show max d.depth (PyData.depthAll ds) ≤ m
      omega
    · show (d.leavesShort 40 && PyData.leavesShortAll 40 ds) = true
      rw [a4, b4]
      rfl
    · show d.weight + 1 + PyData.weightAll ds ≤ (n + 1) * (ds.length + 1)
      rw [Nat.mul_succ]
      omega
    · show (okD d && okAll ds) = true
      rw [a6, b6]
      rfl
theorem nw_tup {m n : Nat} {ds : List PyData} (h : ∀ d ∈ ds, Nw m n d) {k : Nat} (hl : ds.length ≤ k) : Nw (m + 1) ((n + 1) * k) (.tuple ds) := by
  obtain ⟨a1, a2, a3, a4, a5, a6⟩ := nw_all ds h
  exact ⟨a1, a2, by show PyData.depthAll ds + 1 ≤ m + 1; omega, a4, Nat.le_trans a5 (Nat.mul_le_mul_left _ hl), a6⟩
theorem nw_list {m n : Nat} {ds : List PyData} (h : ∀ d ∈ ds, Nw m n d) {k : Nat} (hl : ds.length ≤ k) : Nw (m + 1) ((n + 1) * k) (.list ds) := by
  obtain ⟨a1, a2, a3, a4, a5, a6⟩ := nw_all ds h
  exact ⟨a1, a2, by show PyData.depthAll ds + 1 ≤ m + 1; omega, a4, Nat.le_trans a5 (Nat.mul_le_mul_left _ hl), a6⟩
theorem nw_str {z : Str} (h : PyData.strOk z = true) {k : Nat} (hl : z.cps.size ≤ k) (hk : k ≤ 1000) : Nw 0 k (.str z) := by
  refine ⟨rfl, rfl, Nat.le_refl _, ?_, hl, ok_str.mpr ⟨by omega, h⟩⟩
  refine PyData.leavesShort_of_canLay0 40 (.str z) ?_ rfl
  exact h
theorem nw_name {z : Str} (h : nmOk z = true) : Nw 0 8 (.str z) := nw_str (nmOk_str h) (nm_size h) (by decide)
theorem nw_none : Nw 0 0 .none := ⟨rfl, rfl, Nat.le_refl _, rfl, Nat.le_refl _, rfl⟩
theorem nw_bool (b : Bool) : Nw 0 0 (.bool b) := ⟨rfl, rfl, Nat.le_refl _, rfl, Nat.le_refl _, rfl⟩
theorem nw_int {i : Int} (h0 : -5 ≤ i) (h1 : i < 395) : Nw 0 10 (.int i) :=
  have r := sml_int h0 h1
  ⟨r.1.sho, rfl, Nat.le_refl _, r.1.lea, r.2, rfl⟩
theorem Nw.sh {m n : Nat} {d : PyData} (h : Nw m n d) (hm : m ≤ 40) (hn : n ≤ 390000) : ShO d := by
  have l := PyData.shown_le 40 (by decide) d h.lea
  have hl : d.shown.length ≤ sizeLine := by
    rw [sizeLine_eq]
    have := h.wei
    omega
  refine ⟨fun i e => ?_, fun x e => ?_, h.sho, .inl h.dct, Nat.le_trans h.dep hm, hl⟩
  · have := h.sho
    subst e
    exact of_decide_eq_true this
  · subst e
    exact hl
end
section
open L2 PySem PySem.Spec PyProof.Rows
def nameB : PyData → Bool
  | .str z => nmOk z
  | _ => false
def txtD : PyData → Str
  | .str z => z
  | _ => ""
def roadB (ps : List Str) : PyData → Bool
  | .tuple [.str x, .str y] => (decide (x ∈ ps) && decide (y ∈ ps)) && !decide (x = y)
  | _ => false
def endsD : PyData → Str × Str
  | .tuple [.str x, .str y] => (x, y)
  | _ => ("", "")
def uniqB (rs : List (Str × Str)) : Bool := decide (rs.Pairwise fun r s => r ≠ s ∧ r ≠ (s.2, s.1))
def placesB : PyData → Bool
  | .tuple ds => (decide (1 ≤ ds.length) && decide (ds.length ≤ 8)) && (ds.all nameB && decide (ds.map txtD).Nodup)
  | _ => false
def roadsB (ps : List Str) : PyData → Bool
  | .tuple ds => decide (ds.length ≤ 14) && (ds.all (roadB ps) && uniqB (ds.map endsD))
  | _ => false
def namesOf : PyData → List Str
  | .tuple ds => ds.map txtD
  | _ => []
def webB : PyData → Bool
  | .tuple [p, r] => placesB p && roadsB (namesOf p) r
  | _ => false
theorem names_all : ∀ {ds : List PyData}, ds.all nameB = true → ds = (ds.map txtD).map PyData.str ∧ ∀ z ∈ ds.map txtD, nmOk z = true
  | [], _ => ⟨rfl, fun z h => nomatch h⟩
  | d :: ds, h => by
    rw [List.all_cons, Bool.and_eq_true] at h
    obtain ⟨a, b⟩ := names_all h.2
    cases d with
    | str z =>
      refine ⟨?_, fun y hy => ?_⟩
      · show PyData.str z :: ds = PyData.str z :: (ds.map txtD).map PyData.str
        rw [← a]
      · rcases List.mem_cons.mp hy with e | hy
        · rw [e]
          exact h.1
        · exact b y hy
    | _ => cases h.1
theorem road_is {ps : List Str} {d : PyData} (h : roadB ps d = true) : d = roadD (endsD d) ∧ (endsD d).1 ∈ ps ∧ (endsD d).2 ∈ ps ∧ (endsD d).1 ≠ (endsD d).2 := by
  unfold roadB at h
  split at h
  · rename_i x y
    rw [Bool.and_eq_true, Bool.and_eq_true, decide_eq_true_iff, decide_eq_true_iff] at h
    refine ⟨rfl, h.1.1, h.1.2, ?_⟩
    have := h.2
    show x ≠ y
    simpa using this
  · cases h
theorem roads_all {ps : List Str} : ∀ {ds : List PyData}, ds.all (roadB ps) = true → ds = (ds.map endsD).map roadD ∧ ∀ r ∈ ds.map endsD, r.1 ∈ ps ∧ r.2 ∈ ps ∧ r.1 ≠ r.2
  | [], _ => ⟨rfl, fun z h => nomatch h⟩
  | d :: ds, h => by
    rw [List.all_cons, Bool.and_eq_true] at h
    obtain ⟨a, b⟩ := roads_all h.2
    obtain ⟨e1, e2⟩ := road_is h.1
    refine ⟨?_, fun y hy => ?_⟩
    · show d :: ds = roadD (endsD d) :: (ds.map endsD).map roadD
      rw [← a, ← e1]
    · rcases List.mem_cons.mp hy with e | hy
      · rw [e]
        exact e2
      · exact b y hy
theorem places_is {d : PyData} (h : placesB d = true) : ∃ ps : List Str, d = tsD ps ∧ namesOf d = ps ∧ IsNames ps ∧ 0 < ps.length ∧ ps.length ≤ 8 := by
  cases d with
  | tuple ds =>
    have h' : ((decide (1 ≤ ds.length) && decide (ds.length ≤ 8)) && (ds.all nameB && decide (ds.map txtD).Nodup)) = true := h
    rw [Bool.and_eq_true, Bool.and_eq_true, Bool.and_eq_true, decide_eq_true_iff, decide_eq_true_iff, decide_eq_true_iff] at h'
    obtain ⟨a, b⟩ := names_all h'.2.1
    refine ⟨ds.map txtD, ?_, rfl, ⟨h'.2.2, b⟩, by rw [List.length_map]; exact h'.1.1, by rw [List.length_map]; exact h'.1.2⟩
    show PyData.tuple ds = .tuple ((ds.map txtD).map .str)
    rw [← a]
  | _ => cases h
theorem roads_is {ps : List Str} {d : PyData} (h : roadsB ps d = true) : ∃ rs : List (Str × Str), d = rsD rs ∧ rs.length ≤ 14 ∧ (∀ r ∈ rs, r.1 ∈ ps ∧ r.2 ∈ ps ∧ r.1 ≠ r.2) ∧ rs.Pairwise fun r s => r ≠ s ∧ r ≠ (s.2, s.1) := by
  cases d with
  | tuple ds =>
    have h' : (decide (ds.length ≤ 14) && (ds.all (roadB ps) && uniqB (ds.map endsD))) = true := h
    rw [Bool.and_eq_true, Bool.and_eq_true, decide_eq_true_iff] at h'
    obtain ⟨a, b⟩ := roads_all h'.2.1
    refine ⟨ds.map endsD, ?_, by rw [List.length_map]; exact h'.1, b, of_decide_eq_true h'.2.2⟩
    show PyData.tuple ds = .tuple ((ds.map endsD).map roadD)
    rw [← a]
  | _ => cases h
theorem web_is {d : PyData} (h : webB d = true) : ∃ ps rs, d = webD ps rs ∧ IsWeb ps rs := by
  unfold webB at h
  split at h
  · rename_i p r
    rw [Bool.and_eq_true] at h
    obtain ⟨ps, rfl, e, n1, n2, n3⟩ := places_is h.1
    rw [e] at h
    obtain ⟨rs, rfl, r1, r2, r3⟩ := roads_is h.2
    exact ⟨ps, rs, rfl, n1, n2, n3, r1, r2, r3⟩
  · cases h
theorem txt_names (ps : List Str) : (ps.map PyData.str).map txtD = ps := by
  rw [List.map_map]
  exact List.map_id ps
theorem pair_roads (rs : List (Str × Str)) : (rs.map roadD).map endsD = rs := by
  rw [List.map_map]
  exact List.map_id rs
theorem names_nameB {ps : List Str} (h : ∀ z ∈ ps, nmOk z = true) : (ps.map PyData.str).all nameB = true := List.all_eq_true.mpr fun d hd => by
  obtain ⟨z, hz, rfl⟩ := List.mem_map.mp hd
  exact h z hz
theorem is_places {ps : List Str} (n : IsNames ps) (h0 : 0 < ps.length) (h8 : ps.length ≤ 8) : placesB (tsD ps) = true := by
  show ((decide (1 ≤ (ps.map PyData.str).length) && decide ((ps.map PyData.str).length ≤ 8)) && ((ps.map PyData.str).all nameB && decide ((ps.map PyData.str).map txtD).Nodup)) = true
  rw [txt_names, names_nameB n.2, List.length_map, decide_eq_true h8, decide_eq_true (show 1 ≤ ps.length from h0), decide_eq_true n.1]
  rfl
theorem road_roadB {ps : List Str} {r : Str × Str} (h : r.1 ∈ ps ∧ r.2 ∈ ps ∧ r.1 ≠ r.2) : roadB ps (roadD r) = true := by
  show ((decide (r.1 ∈ ps) && decide (r.2 ∈ ps)) && !decide (r.1 = r.2)) = true
  rw [decide_eq_true h.1, decide_eq_true h.2.1, decide_eq_false h.2.2]
  rfl
theorem is_roads {ps : List Str} {rs : List (Str × Str)} (h14 : rs.length ≤ 14) (e : ∀ r ∈ rs, r.1 ∈ ps ∧ r.2 ∈ ps ∧ r.1 ≠ r.2) (u : rs.Pairwise fun r s => r ≠ s ∧ r ≠ (s.2, s.1)) : roadsB ps (rsD rs) = true := by
  show (decide ((rs.map roadD).length ≤ 14) && ((rs.map roadD).all (roadB ps) && uniqB ((rs.map roadD).map endsD))) = true
  rw [pair_roads, List.length_map, decide_eq_true h14, show (rs.map roadD).all (roadB ps) = true from List.all_eq_true.mpr fun d hd => by
    obtain ⟨r, hr, rfl⟩ := List.mem_map.mp hd
    exact road_roadB (e r hr), show uniqB rs = true from decide_eq_true u]
  rfl
theorem is_webB {ps : List Str} {rs : List (Str × Str)} (W : IsWeb ps rs) : webB (webD ps rs) = true := by
  show (placesB (tsD ps) && roadsB ((ps.map PyData.str).map txtD) (rsD rs)) = true
  rw [txt_names, is_places W.names W.pos W.le8, is_roads W.le14 W.ends W.uniq]
  rfl
def srt (r : Str × Str) : List Str := if sortedS [r.1, r.2] = true then [r.1, r.2] else [r.2, r.1]
theorem srt_perm (r : Str × Str) : (srt r).Perm [r.1, r.2] := by
  unfold srt
  split
  · exact .refl _
  · exact .swap _ _ _
theorem srt_of {r : Str × Str} {ys : List Str} (p : ys.Perm [r.1, r.2]) (s : sortedS ys = true) : ys = srt r := by
  unfold srt
  have h2 : ys = [r.1, r.2] ∨ ys = [r.2, r.1] := by
    have hl := p.length_eq
    match ys, hl with
    | [u, v], _ =>
      have hu := p.mem_iff.mp (show u ∈ [u, v] from .head _)
      rcases List.mem_cons.mp hu with e | e
      · subst e
        have := List.perm_singleton.mp (List.Perm.cons_inv p)
        rw [List.cons.injEq] at this
        exact .inl (by rw [this.1])
      · have e : u = r.2 := List.mem_singleton.mp e
        subst e
        have p2 : [r.2, v].Perm [r.2, r.1] := p.trans (List.Perm.swap _ _ [])
        have := List.perm_singleton.mp (List.Perm.cons_inv p2)
        rw [List.cons.injEq] at this
        exact .inr (by rw [this.1])
  split
  · rename_i h
    exact sorted_one p s h
  · rename_i h
    rcases h2 with e | e
    · rw [e] at s
      exact absurd s h
    · exact e
theorem srt_two {x y : Str} (a : ¬ sortedS [x, y] = true) (b : ¬ sortedS [y, x] = true) : False := by
  have key : ∀ {u v : Str}, ¬ sortedS [u, v] = true → v.cps.toList < u.cps.toList := fun {u v} h => by
    have h' : ¬ (!ltCps v.cps.toList u.cps.toList && true) = true := h
    rw [Bool.and_true, PyProof.Rows.ltCps_eq, Bool.not_eq_true', decide_eq_false_iff_not, Decidable.not_not] at h'
    exact h'
  exact absurd (key a) (List.lt_asymm (key b))
theorem srt_eq {r q : Str × Str} : srt r = srt q ↔ r = q ∨ r = (q.2, q.1) := by
  constructor
  · intro h
    have h1 : [r.1, r.2].Perm [q.1, q.2] := (srt_perm r).symm.trans (h ▸ srt_perm q)
    have hu := h1.mem_iff.mp (show r.1 ∈ [r.1, r.2] from .head _)
    rcases List.mem_cons.mp hu with e | e
    · left
      rw [e] at h1
      have := List.perm_singleton.mp (List.Perm.cons_inv h1)
      rw [List.cons.injEq] at this
      exact Prod.ext e this.1
    · right
      have e : r.1 = q.2 := List.mem_singleton.mp e
      rw [e] at h1
      have := List.perm_singleton.mp (List.Perm.cons_inv (h1.trans (List.Perm.swap _ _ [])))
      rw [List.cons.injEq] at this
      exact Prod.ext e this.1
  · rintro (rfl | rfl)
    · rfl
    · unfold srt
      by_cases a : sortedS [q.1, q.2] = true
      · by_cases b : sortedS [q.2, q.1] = true
        · rw [if_pos a, if_pos b]
          exact sorted_one (List.Perm.swap _ _ []) b a
        · rw [if_pos a, if_neg b]
      · by_cases b : sortedS [q.2, q.1] = true
        · rw [if_neg a, if_pos b]
        · rw [if_neg a, if_neg b]
          exact (srt_two a b).elim
end
section
open L2 PySem PySem.Spec PyProof.Rows
def prv (n i : Nat) : Nat := if i = 0 then n - 1 else i - 1
theorem at_prv {α : Type} {xs : List α} {i : Nat} (h : i < xs.length) : atI xs ((i : Int) - 1) = xs[prv xs.length i]? := by
  unfold prv
  by_cases c : i = 0
  · subst c
    rw [if_pos rfl]
    have hy := List.getElem?_eq_getElem (l := xs) (i := xs.length - 1) (by omega)
    rw [hy]
    exact at_end (i := xs.length - 1) (by omega) hy
  · rw [if_neg c]
    have hy := List.getElem?_eq_getElem (l := xs) (i := i - 1) (by omega)
    rw [hy, show (i : Int) - 1 = ((i - 1 : Nat) : Int) by omega]
    exact atI_nat hy
theorem prv_lt {n i : Nat} (h : i < n) : prv n i < n := by
  unfold prv
  split <;> omega
end
section
open L2 PySem PySem.Spec PyProof.Rows
def stB (k : Nat) : PyData → Bool
  | .int i => decide (0 ≤ i) && decide (i < (k : Int))
  | _ => false
def statesB (k many : Nat) : PyData → Bool
  | .tuple ds => decide (ds.length = many) && ds.all (stB k)
  | _ => false
def sumsB (k n : Nat) : PyData → Bool
  | .tuple ds => decide (ds.length = k) && ds.all (statesB k (n * (k - 1) + 1))
  | _ => false
def mostB : PyData → Bool
  | .int i => decide (0 ≤ i) && decide (i ≤ 9)
  | _ => false
def textB (near : List Str) : PyData → Bool
  | .str z => decide (z ∈ near)
  | _ => false
def worthB (k : Nat) (near : List Str) (s : Str) (w : PyData) : Bool :=
  if s = "table" then statesB k (k ^ (near.length + 1)) w else if s = "sum" then sumsB k near.length w else if s = "most" then mostB w else decide (s = "copy") && textB near w
def bareL : List Str := ["keep", "least", "greatest", "odd"]
def ruleB (k : Nat) (near : List Str) : PyData → Bool
  | .tuple (.str s :: r) => if s ∈ bareL then r.isEmpty else match r with
    | [w] => worthB k near s w
    | _ => false
  | _ => false
def rulesB (k : Nat) (ps : List Str) (rs : List (Str × Str)) : PyData → Bool
  | .tuple ds => decide (ds.length = ps.length) && (List.range ps.length).all fun i => ruleB k (nearL ps rs (ps.getD i "")) (ds.getD i .none)
  | _ => false
def roadsOf : PyData → List (Str × Str)
  | .tuple ds => ds.map endsD
  | _ => []
def webPs : PyData → List Str
  | .tuple [p, _] => namesOf p
  | _ => []
def webRs : PyData → List (Str × Str)
  | .tuple [_, r] => roadsOf r
  | _ => []
def twoB : PyData → Bool
  | .int i => decide (2 ≤ i) && decide (i ≤ 3)
  | _ => false
def kOf : PyData → Nat
  | .int i => i.toNat
  | _ => 0
def hallB : PyData → Bool
  | .tuple [dk, dw, dr] => (twoB dk && webB dw) && (decide (kOf dk ^ (webPs dw).length ≤ 256) && rulesB (kOf dk) (webPs dw) (webRs dw) dr)
  | _ => false
theorem st_is {k : Nat} {d : PyData} (h : stB k d = true) : ∃ n : Nat, d = .int (n : Int) ∧ n < k := by
  cases d with
  | int i =>
    have h' : (decide (0 ≤ i) && decide (i < (k : Int))) = true := h
    rw [Bool.and_eq_true, decide_eq_true_iff, decide_eq_true_iff] at h'
    obtain ⟨n, rfl⟩ := Int.eq_ofNat_of_zero_le h'.1
    exact ⟨n, rfl, by omega⟩
  | _ => cases h
theorem is_st {k n : Nat} (h : n < k) : stB k (.int (n : Int)) = true := by
  show (decide ((0 : Int) ≤ (n : Int)) && decide ((n : Int) < (k : Int))) = true
  rw [decide_eq_true (by omega), decide_eq_true (by omega)]
  rfl
theorem is_states {k : Nat} {t : List Nat} (h : ∀ n ∈ t, n < k) : statesB k t.length (intsD t) = true := by
  show (decide ((t.map fun n => PyData.int ((n : Nat) : Int)).length = t.length) && (t.map fun n => PyData.int ((n : Nat) : Int)).all (stB k)) = true
  rw [decide_eq_true (List.length_map ..), Bool.true_and, List.all_eq_true]
  intro d hd
  obtain ⟨n, hn, rfl⟩ := List.mem_map.mp hd
  exact is_st (h n hn)
theorem rule_worth {k : Nat} {near : List Str} {s : Str} {w : PyData} (h : s ∉ bareL) : ruleB k near (.tuple [.str s, w]) = worthB k near s w := by
  show (if s ∈ bareL then [w].isEmpty else worthB k near s w) = _
  rw [if_neg h]
theorem is_rule {k : Nat} {near : List Str} {d : PyData} (h : RuleD k near d) : ruleB k near d = true := by
  cases h with
  | table t hl hk =>
    rw [rule_worth (by decide +kernel)]
    unfold worthB
    rw [if_pos rfl, ← hl]
    exact is_states hk
  | sum ts hl hk =>
    rw [rule_worth (by decide +kernel)]
    unfold worthB
    rw [if_neg (by decide +kernel), if_pos rfl]
    show (decide ((ts.map intsD).length = k) && (ts.map intsD).all (statesB k (near.length * (k - 1) + 1))) = true
    rw [List.length_map, decide_eq_true hl, Bool.true_and, List.all_eq_true]
    intro d hd
    obtain ⟨t, ht, rfl⟩ := List.mem_map.mp hd
    rw [← (hk t ht).1]
    exact is_states (hk t ht).2
  | keep => rfl
  | least => rfl
  | greatest => rfl
  | odd => rfl
  | most n h =>
    rw [rule_worth (by decide +kernel)]
    unfold worthB
    rw [if_neg (by decide +kernel), if_neg (by decide +kernel), if_pos rfl]
    show (decide ((0 : Int) ≤ (n : Int)) && decide ((n : Int) ≤ 9)) = true
    rw [decide_eq_true (by omega), decide_eq_true (by omega)]
    rfl
  | copy z h =>
    rw [rule_worth (by decide +kernel)]
    unfold worthB
    rw [if_neg (by decide +kernel), if_neg (by decide +kernel), if_neg (by decide +kernel)]
    show (decide (("copy" : Str) = "copy") && decide (z ∈ near)) = true
    rw [decide_eq_true rfl, decide_eq_true h]
    rfl
theorem is_hallB {k : Nat} {ps : List Str} {rs : List (Str × Str)} {ds : List PyData} (h : IsHall k ps rs ds) : hallB (hallD k ps rs ds) = true := by
  show (((decide ((2 : Int) ≤ (k : Int)) && decide ((k : Int) ≤ 3)) && webB (webD ps rs)) && (decide (k ^ ((ps.map PyData.str).map txtD).length ≤ 256) && rulesB k ((ps.map PyData.str).map txtD) ((rs.map roadD).map endsD) (.tuple ds))) = true
  rw [txt_names, pair_roads, is_webB h.web, decide_eq_true h.few, decide_eq_true (by rcases h.two with e | e <;> omega), decide_eq_true (by rcases h.two with e | e <;> omega)]
  show (decide (ds.length = ps.length) && (List.range ps.length).all fun i => ruleB k (nearL ps rs (ps.getD i "")) (ds.getD i .none)) = true
  rw [decide_eq_true h.len, Bool.true_and, List.all_eq_true]
  intro i hi
  have hi' := List.mem_range.mp hi
  have hd : i < ds.length := by rw [h.len]; exact hi'
  rw [List.getD_eq_getElem?_getD, List.getD_eq_getElem?_getD, List.getElem?_eq_getElem hi', List.getElem?_eq_getElem hd]
  exact is_rule (h.rules i _ _ (List.getElem?_eq_getElem hi') (List.getElem?_eq_getElem hd))
end
section
open L2 PySem PySem.Spec PyProof.Rows
theorem nat_text {m n : Nat} (h : (toString m).toList = (toString n).toList) : m = n := by
  have e : ∀ k : Nat, (toString k).toList = Nat.toDigits 10 k := fun k => by
    show (String.ofList (Nat.toDigits 10 k)).toList = _
    exact String.toList_ofList
  rw [e, e] at h
  rw [← Nat.ofDigitChars_toDigits (b := 10) (n := m) (by decide) (by decide), h, Nat.ofDigitChars_toDigits (by decide) (by decide)]
theorem nat_figure (m : Nat) : ∀ c ∈ (toString m).toList, c.isDigit = true := fun c hc => by
  have e : (toString m).toList = Nat.toDigits 10 m := by
    show (String.ofList (Nat.toDigits 10 m)).toList = _
    exact String.toList_ofList
  rw [e] at hc
  exact Nat.isDigit_of_mem_toDigits (by decide) (by decide) hc
theorem int_text {i : Int} {n : Nat} (h : (toString i).toList = (toString n).toList) : i = (n : Int) := by
  cases i with
  | ofNat m => exact congrArg Int.ofNat (nat_text h)
  | negSucc m =>
    exfalso
    have h' : ("-" ++ toString (m + 1)).toList = (toString n).toList := h
    rw [String.toList_append] at h'
    have hm : '-' ∈ (toString n).toList := by
      rw [← h']
      exact List.mem_append_left _ (by decide)
    have := nat_figure n _ hm
    exact absurd this (by decide)
theorem str_int_text {i : Int} {n : Nat} (h : Str.ofString (toString i) = Str.ofString (toString ((n : Nat) : Int))) : i = (n : Int) := by
  rw [Str.ofString_eq_toList, Str.ofString_eq_toList] at h
  injection h with h
  have h2 : (toString i).toList.map Char.toNat = (toString ((n : Nat) : Int)).toList.map Char.toNat := by
    have := congrArg Array.toList h
    simpa using this
  have inj : ∀ a b : Char, a.toNat = b.toNat → a = b := fun a b e => Char.ext (UInt32.toNat_inj.mp e)
  exact int_text (i := i) (n := n) (List.map_inj_right (f := Char.toNat) inj |>.mp h2)
def startsC (c : Nat) (x : Str) : Prop := x.cps.toList.head? = some c
instance (c : Nat) (x : Str) : Decidable (startsC c x) := inferInstanceAs (Decidable (x.cps.toList.head? = some c))
theorem starts_app {c : Nat} {x : Str} (y : Str) (h : startsC c x) : startsC c (x ++ y) := by
  have e : (x ++ y).cps.toList = x.cps.toList ++ y.cps.toList := by
    show (x.cps ++ y.cps).toList = _
    rw [Array.toList_append]
  unfold startsC at *
  rw [e, List.head?_append, h]
  rfl
theorem starts_from {c : Nat} : ∀ (ts : List Str) (k : Nat) (acc : Str), startsC c acc → startsC c (textFrom k acc ts)
  | [], _, acc, h => h
  | t :: ts, k, acc, h => starts_from ts (k + 1) _ (starts_app _ (starts_app _ h))
theorem starts_fold {c : Nat} (f : Nat → Array Nat) : ∀ (l : List Nat) (acc : Array Nat), acc.toList.head? = some c → (l.foldl (fun out c => out ++ f c) acc).toList.head? = some c
  | [], _, h => h
  | x :: l, acc, h => starts_fold f l (acc ++ f x) (by rw [Array.toList_append, List.head?_append, h]; rfl)
theorem starts_repr (x : Str) : startsC (reprQuote x) (reprText x) := by
  unfold reprText startsC
  show (Array.push _ _).toList.head? = _
  rw [Array.toList_push, List.head?_append, ← Array.foldl_toList]
  have := starts_fold (c := reprQuote x) (fun c => (Builtin.Str.reprChar (reprQuote x) c).toArray) x.cps.toList #[reprQuote x] rfl
  rw [this]
  rfl
theorem quote_is (x : Str) : reprQuote x = 34 ∨ reprQuote x = 39 := by
  unfold reprQuote
  split
  · exact .inl rfl
  · exact .inr rfl
theorem figure_starts {n : Nat} (h : n < 10) : startsC (48 + n) (Str.ofString (toString ((n : Nat) : Int))) := by
  have key : ∀ m : Fin 10, (Str.ofString (toString ((m.1 : Nat) : Int))).cps.toList.head? = some (48 + m.1) := by decide +kernel
  exact key ⟨n, h⟩
theorem starts_one {c d : Nat} {x : Str} (h : startsC c x) (g : startsC d x) : c = d := by
  unfold startsC at *
  rw [h] at g
  exact Option.some.inj g
theorem figure_is {d : PyData} {n : Nat} (hn : n < 10) : shO d = Str.ofString (toString ((n : Nat) : Int)) ↔ d = .int (n : Int) := by
  constructor
  · intro h
    have fs := figure_starts hn
    rw [← h] at fs
    cases d with
    | none => exact absurd (starts_one fs (show startsC 78 ("None" : Str) by decide +kernel)) (by omega)
    | bool b => cases b with
      | true => exact absurd (starts_one fs (show startsC 84 ("True" : Str) by decide +kernel)) (by omega)
      | false => exact absurd (starts_one fs (show startsC 70 ("False" : Str) by decide +kernel)) (by omega)
    | int i => rw [str_int_text h]
    | str z =>
      have := starts_one fs (starts_repr z)
      rcases quote_is z with e | e <;> omega
    | list ds => exact absurd (starts_one fs (show startsC 91 (textFrom 0 "[" (PyData.shownAll ds) ++ "]") from starts_app _ (starts_from _ _ _ (by decide +kernel)))) (by omega)
    | tuple ds => exact absurd (starts_one fs (show startsC 40 (("(" : Str) ++ Str.join ", " (PyData.shownAll ds) ++ (if (PyData.shownAll ds).length == 1 then ",)" else ")" : String)) from starts_app _ (starts_app _ (by decide +kernel)))) (by omega)
    | dict kvs => exact absurd (starts_one fs (show startsC 123 (("{" : Str) ++ Str.join ", " (PyData.shownKv kvs) ++ "}") from starts_app _ (starts_app _ (by decide +kernel)))) (by omega)
  · rintro rfl
    rfl
def figs (a m : Nat) : List Str := (List.range' a m).map fun n => Str.ofString (toString ((n : Nat) : Int))
theorem figs_mem {d : PyData} {a m : Nat} (h : a + m ≤ 10) : shO d ∈ figs a m ↔ ∃ n : Nat, a ≤ n ∧ n < a + m ∧ d = .int (n : Int) := by
  unfold figs
  rw [List.mem_map]
  constructor
  · rintro ⟨n, hn, e⟩
    rw [List.mem_range'_1] at hn
    exact ⟨n, hn.1, hn.2, (figure_is (by omega)).mp e.symm⟩
  · rintro ⟨n, h1, h2, e⟩
    exact ⟨n, List.mem_range'_1.mpr ⟨h1, h2⟩, ((figure_is (by omega)).mpr e).symm⟩
theorem figs3 : (["0", "1", "2"] : List Str) = figs 0 3 := by decide +kernel
theorem figs2 : (["2", "3"] : List Str) = figs 2 2 := by decide +kernel
theorem figs10 : (["0", "1", "2", "3", "4", "5", "6", "7", "8", "9"] : List Str) = figs 0 10 := by decide +kernel
theorem fig_st {k : Nat} (hk : k ≤ 3) (d : PyData) : decide (shO d ∈ (["0", "1", "2"] : List Str).take k) = stB k d := by
  have e : (figs 0 3).take k = figs 0 k := by
    unfold figs
    rw [← List.map_take]
    congr 1
    match k, hk with
    | 0, _ => rfl
    | 1, _ => rfl
    | 2, _ => rfl
    | 3, _ => rfl
  rw [figs3, e, Bool.eq_iff_iff, decide_eq_true_iff, figs_mem (by omega)]
  constructor
  · rintro ⟨n, _, h, rfl⟩
    exact is_st (by omega)
  · intro h
    obtain ⟨n, rfl, hn⟩ := st_is h
    exact ⟨n, Nat.zero_le _, by omega, rfl⟩
theorem fig_most (d : PyData) : decide (shO d ∈ (["0", "1", "2", "3", "4", "5", "6", "7", "8", "9"] : List Str)) = mostB d := by
  rw [figs10, Bool.eq_iff_iff, decide_eq_true_iff, figs_mem (by omega)]
  constructor
  · rintro ⟨n, _, h, rfl⟩
    show (decide ((0 : Int) ≤ (n : Int)) && decide ((n : Int) ≤ 9)) = true
    rw [decide_eq_true (by omega), decide_eq_true (by omega)]
    rfl
  · intro h
    cases d with
    | int i =>
      have h' : (decide (0 ≤ i) && decide (i ≤ 9)) = true := h
      rw [Bool.and_eq_true, decide_eq_true_iff, decide_eq_true_iff] at h'
      obtain ⟨n, rfl⟩ := Int.eq_ofNat_of_zero_le h'.1
      exact ⟨n, Nat.zero_le _, by omega, rfl⟩
    | _ => cases h
theorem fig_two (d : PyData) : decide (shO d ∈ (["2", "3"] : List Str)) = twoB d := by
  rw [figs2, Bool.eq_iff_iff, decide_eq_true_iff, figs_mem (by omega)]
  constructor
  · rintro ⟨n, h1, h2, rfl⟩
    show (decide ((2 : Int) ≤ (n : Int)) && decide ((n : Int) ≤ 3)) = true
    rw [decide_eq_true (by omega), decide_eq_true (by omega)]
    rfl
  · intro h
    cases d with
    | int i =>
      have h' : (decide (2 ≤ i) && decide (i ≤ 3)) = true := h
      rw [Bool.and_eq_true, decide_eq_true_iff, decide_eq_true_iff] at h'
      obtain ⟨n, rfl⟩ := Int.eq_ofNat_of_zero_le (show 0 ≤ i by omega)
      exact ⟨n, by omega, by omega, rfl⟩
    | _ => cases h
end
section
open L2 PySem PySem.Spec PyProof.Rows
mutual
def noL : PyData → Bool
  | .list _ => false
  | .tuple ds => noLs ds
  | .dict kvs => kvs.isEmpty
  | _ => true
def noLs : List PyData → Bool
  | [] => true
  | d :: ds => noL d && noLs ds
end
theorem no_ls : ∀ {ds : List PyData}, noLs ds = true ↔ ∀ d ∈ ds, noL d = true
  | [] => ⟨fun _ d h => (nomatch h), fun _ => rfl⟩
  | d :: ds => by
    show (noL d && noLs ds) = true ↔ _
    rw [Bool.and_eq_true, no_ls (ds := ds)]
    exact ⟨fun h e he => (List.mem_cons.mp he).elim (fun k => k ▸ h.1) (h.2 e), fun h => ⟨h d List.mem_cons_self, fun e he => h e (List.mem_cons_of_mem _ he)⟩⟩
section
variable {X : Cx} {pins : List (Addr × Obj)} {σ : L2.St} {H : Hp} {s : Shared} {a : Addr}
mutual
theorem Ob.readsN (I : Inv X pins σ H s) : ∀ (d : PyData) (v : V) (u : Value), noL d = true → Ob X.K H a v d → RelV v u → ∃ as, Reads s.heap u d as ∧ sysModules ∉ as
  | .none, _, _, _, h, r => by
    cases h
    cases r
    exact ⟨_, .none, List.not_mem_nil⟩
  | .bool b, _, _, _, h, r => by
    cases h
    cases r
    exact ⟨_, .bool b, List.not_mem_nil⟩
  | .int i, _, _, _, h, r => by
    cases h
    obtain ⟨t, rfl⟩ := r
    exact ⟨_, .int i t, List.not_mem_nil⟩
  | .str x, _, _, _, h, r => by
    cases h
    obtain ⟨t, rfl⟩ := r
    exact ⟨_, .str x t, List.not_mem_nil⟩
  | .list ds, _, _, t, _, _ => by cases t
  | .tuple ds, _, _, t, h, r => by
    cases h with
    | tup sq al =>
      cases r
      obtain ⟨its, rv, ⟨o, ho, hc, m, hd⟩, _⟩ := I.tuple sq
      obtain ⟨as, q, n⟩ := ObAll.readsN I ds _ its t al rv
      exact ⟨as, .tuple ho hc hd q, n⟩
  | .dict kvs, v, u, t, h, r => by
    obtain ⟨as, q, n⟩ := Ob.reads I (.dict kvs) v u h r
    exact ⟨as, q, n kvs rfl⟩
theorem ObAll.readsN (I : Inv X pins σ H s) : ∀ (ds : List PyData) (vs : List V) (us : List Value), noLs ds = true → ObAll X.K H a vs ds → Vals vs us → ∃ as, ReadsAll s.heap us ds as ∧ sysModules ∉ as
  | [], _, _, _, h, r => by
    cases h
    cases r
    exact ⟨[], .nil, List.not_mem_nil⟩
  | d :: ds, _, _, t, h, r => by
    have t' : (noL d && noLs ds) = true := t
    rw [Bool.and_eq_true] at t'
    cases h with
    | cons h1 h2 =>
      cases r with
      | cons r1 r2 =>
        obtain ⟨as, q1, n1⟩ := Ob.readsN I d _ _ t'.1 h1 r1
        obtain ⟨bs, q2, n2⟩ := ObAll.readsN I ds _ _ t'.2 h2 r2
        exact ⟨as ++ bs, .cons q1 q2, fun m => (List.mem_append.mp m).elim n1 n2⟩
end
end
def ShY (d : PyData) : Prop := ShO d ∨ (isT d = true ∧ noL d = true ∧ d.showable = true ∧ d.depth ≤ 40 ∧ d.shown.length ≤ sizeLine)
def rShowY (K : PySem.W.Frag) : List V → Hp → VK → Prop := fun xs H Q => ∃ (x : V) (d : PyData) (a : Addr), xs = [x] ∧ Ob K H a x d ∧ ShY d ∧ Q (.str (shO d)) H
theorem k_showY {X : Cx} {K : PySem.W.Frag} (hg : X.A.guards = some []) (hu : X.A.units + 64 < cLine) (hK : X.K = K := by rfl) : CallR X (.builtin "repr") (rShowY K) := by
  intro pins s σ H xs us Q I r h
  obtain ⟨x, d, a, rfl, od, sh, q⟩ := h
  rcases sh with sh | ⟨ht, hn, h1, h2, h3⟩
  · exact k_showO hg hu hK pins s σ H _ us Q I r ⟨x, d, a, rfl, od, sh, q⟩
  · subst hK
    match us, r with
    | [u], .cons ru .nil =>
      obtain ⟨ds, rfl⟩ : ∃ ds, d = .tuple ds := by
        cases d with
        | tuple ds => exact ⟨ds, rfl⟩
        | _ => cases ht
      obtain ⟨as, rd, ns⟩ := Ob.readsN I _ _ _ hn od ru
      cases od with
      | @tup p _ _ sq al =>
      obtain rfl : u = Value.ref p := ru
      exact repr_of_reads' rd h1 (fun _ => ns) hg (by omega) (fun b o e => e) (fun h' t tk k => ⟨.str _, H, I.kept k, ⟨t, rfl⟩, q⟩) h3
def shAll : Nat → PyData → Prop
  | 0, d => ShY d
  | n + 1, d => ShY d ∧ ∀ ds, d = .tuple ds → ∀ e ∈ ds, shAll n e
theorem shAll.top : ∀ {n : Nat} {d : PyData}, shAll n d → ShY d
  | 0, _, h => h
  | _ + 1, _, h => h.1
theorem shAll.get {n : Nat} {ds : List PyData} (h : shAll (n + 1) (.tuple ds)) {e : PyData} (he : e ∈ ds) : shAll n e := h.2 ds rfl e he
structure Nv (m n : Nat) (d : PyData) : Prop where
  sho : d.showable = true
  nol : noL d = true
  dep : d.depth ≤ m
  lea : d.leavesShort 40 = true
  wei : d.weight ≤ n
  ok : okD d = true
theorem Nv.sh {m n : Nat} {d : PyData} (h : Nv m n d) (hm : m ≤ 40) (hn : n ≤ 390000) : ShY d := by
  have l := PyData.shown_le 40 (by decide) d h.lea
  have hl : d.shown.length ≤ sizeLine := by
    rw [sizeLine_eq]
    have := h.wei
    omega
  have base : d.hasDict = false ∨ d = .dict [] → ShY d := fun c => .inl ⟨fun i e => by
    have := h.sho
    subst e
    exact of_decide_eq_true this, fun x e => by
    subst e
    exact hl, h.sho, c, Nat.le_trans h.dep hm, hl⟩
  cases d with
  | tuple ds => exact .inr ⟨rfl, h.nol, h.sho, Nat.le_trans h.dep hm, hl⟩
  | list ds => exact absurd h.nol (by simp [noL])
  | dict kvs =>
    have : kvs.isEmpty = true := h.nol
    obtain rfl := List.isEmpty_iff.mp this
    exact base (.inr rfl)
  | _ => exact base (.inl rfl)
theorem all_get : ∀ {ds : List PyData} {d : PyData}, d ∈ ds → (PyData.showableAll ds = true → d.showable = true) ∧ (PyData.hasDictAll ds = false → d.hasDict = false) ∧ d.depth ≤ PyData.depthAll ds ∧ (PyData.leavesShortAll 40 ds = true → d.leavesShort 40 = true) ∧ d.weight ≤ PyData.weightAll ds
  | e :: ds, d, h => by
    rcases List.mem_cons.mp h with rfl | h
    · refine ⟨fun k => ?_, fun k => ?_, Nat.le_max_left _ _, fun k => ?_, by show d.weight ≤ d.weight + 1 + PyData.weightAll ds; omega⟩
      · have k' : (d.showable && PyData.showableAll ds) = true := k
        rw [Bool.and_eq_true] at k'
        exact k'.1
      · have k' : (d.hasDict || PyData.hasDictAll ds) = false := k
        rw [Bool.or_eq_false_iff] at k'
        exact k'.1
      · have k' : (d.leavesShort 40 && PyData.leavesShortAll 40 ds) = true := k
        rw [Bool.and_eq_true] at k'
        exact k'.1
    · obtain ⟨a1, a2, a3, a4, a5⟩ := all_get h
      refine ⟨fun k => ?_, fun k => ?_, Nat.le_trans a3 (Nat.le_max_right _ _), fun k => ?_, by show d.weight ≤ e.weight + 1 + PyData.weightAll ds; omega⟩
      · have k' : (e.showable && PyData.showableAll ds) = true := k
        rw [Bool.and_eq_true] at k'
        exact a1 k'.2
      · have k' : (e.hasDict || PyData.hasDictAll ds) = false := k
        rw [Bool.or_eq_false_iff] at k'
        exact a2 k'.2
      · have k' : (e.leavesShort 40 && PyData.leavesShortAll 40 ds) = true := k
        rw [Bool.and_eq_true] at k'
        exact a4 k'.2
theorem Nw.get {m n : Nat} {ds : List PyData} (h : Nw m n (.tuple ds)) {d : PyData} (hd : d ∈ ds) : Nw m n d := by
  obtain ⟨a1, a2, a3, a4, a5⟩ := all_get hd
  have hdp : PyData.depthAll ds + 1 ≤ m := h.dep
  exact ⟨a1 h.sho, a2 h.dct, by omega, a4 h.lea, Nat.le_trans a5 h.wei, ok_tup.mp h.ok d hd⟩
theorem Nv.get {m n : Nat} {ds : List PyData} (h : Nv m n (.tuple ds)) {d : PyData} (hd : d ∈ ds) : Nv m n d := by
  obtain ⟨a1, _, a3, a4, a5⟩ := all_get hd
  have hdp : PyData.depthAll ds + 1 ≤ m := h.dep
  exact ⟨a1 h.sho, no_ls.mp h.nol d hd, by omega, a4 h.lea, Nat.le_trans a5 h.wei, ok_tup.mp h.ok d hd⟩
theorem Nw.all {m n : Nat} (hm : m ≤ 40) (hn : n ≤ 390000) : ∀ (j : Nat) {d : PyData}, Nw m n d → shAll j d
  | 0, _, h => .inl (h.sh hm hn)
  | j + 1, _, h => ⟨.inl (h.sh hm hn), fun ds e x hx => by
    subst e
    exact Nw.all hm hn j (h.get hx)⟩
theorem Nv.all {m n : Nat} (hm : m ≤ 40) (hn : n ≤ 390000) : ∀ (j : Nat) {d : PyData}, Nv m n d → shAll j d
  | 0, _, h => h.sh hm hn
  | j + 1, _, h => ⟨h.sh hm hn, fun ds e x hx => by
    subst e
    exact Nv.all hm hn j (h.get hx)⟩
end
section
open L2 PySem PySem.Spec PyProof.Rows
structure Nz (b : Bool) (m n : Nat) (d : PyData) : Prop where
  sho : d.showable = true
  dct : b = false → d.hasDict = false
  nol : b = true → noL d = true
  dep : d.depth ≤ m
  lea : d.leavesShort 40 = true
  wei : d.weight ≤ n
  ok : okD d = true
structure Nzs (b : Bool) (m n : Nat) (ds : List PyData) : Prop where
  sho : PyData.showableAll ds = true
  dct : b = false → PyData.hasDictAll ds = false
  nol : b = true → noLs ds = true
  dep : PyData.depthAll ds ≤ m
  lea : PyData.leavesShortAll 40 ds = true
  wei : PyData.weightAll ds ≤ n
  ok : okAll ds = true
theorem Nz.mono {b : Bool} {m n m' n' : Nat} {d : PyData} (h : Nz b m n d) (hm : m ≤ m') (hn : n ≤ n') : Nz b m' n' d := ⟨h.sho, h.dct, h.nol, Nat.le_trans h.dep hm, h.lea, Nat.le_trans h.wei hn, h.ok⟩
theorem Nzs.mono {b : Bool} {m n m' n' : Nat} {ds : List PyData} (h : Nzs b m n ds) (hm : m ≤ m') (hn : n ≤ n') : Nzs b m' n' ds := ⟨h.sho, h.dct, h.nol, Nat.le_trans h.dep hm, h.lea, Nat.le_trans h.wei hn, h.ok⟩
theorem Nzs.nil {b : Bool} {m : Nat} : Nzs b m 0 [] := ⟨rfl, fun _ => rfl, fun _ => rfl, Nat.zero_le _, rfl, Nat.zero_le _, rfl⟩
theorem Nzs.cons {b : Bool} {m n n' : Nat} {d : PyData} {ds : List PyData} (h : Nz b m n d) (g : Nzs b m n' ds) : Nzs b m (n + 1 + n') (d :: ds) := by
  refine ⟨?_, fun e => ?_, fun e => ?_, ?_, ?_, ?_, ?_⟩
  · show (d.showable && PyData.showableAll ds) = true
    rw [h.sho, g.sho]
    rfl
  · show (d.hasDict || PyData.hasDictAll ds) = false
    rw [h.dct e, g.dct e]
    rfl
  · show (noL d && noLs ds) = true
    rw [h.nol e, g.nol e]
    rfl
  · show max d.depth (PyData.depthAll ds) ≤ m
    have := h.dep
    have := g.dep
    omega
  · show (d.leavesShort 40 && PyData.leavesShortAll 40 ds) = true
    rw [h.lea, g.lea]
    rfl
  · show d.weight + 1 + PyData.weightAll ds ≤ n + 1 + n'
    have := h.wei
    have := g.wei
    omega
  · show (okD d && okAll ds) = true
    rw [h.ok, g.ok]
    rfl
theorem Nzs.app {b : Bool} {m n n' : Nat} : ∀ {ds es : List PyData}, Nzs b m n ds → Nzs b m n' es → Nzs b m (n + n') (ds ++ es)
  | [], es, _, g => g.mono (Nat.le_refl _) (Nat.le_add_left _ _)
  | d :: ds, es, h, g => by
    have e1 : (d.showable && PyData.showableAll ds) = true := h.sho
    have e4 : max d.depth (PyData.depthAll ds) ≤ m := h.dep
    have e5 : (d.leavesShort 40 && PyData.leavesShortAll 40 ds) = true := h.lea
    have e6 : d.weight + 1 + PyData.weightAll ds ≤ n := h.wei
    have e7 : (okD d && okAll ds) = true := h.ok
    rw [Bool.and_eq_true] at e1 e5 e7
    have hd : Nz b m d.weight d := ⟨e1.1, fun e => by
      have : (d.hasDict || PyData.hasDictAll ds) = false := h.dct e
      rw [Bool.or_eq_false_iff] at this
      exact this.1, fun e => by
      have : (noL d && noLs ds) = true := h.nol e
      rw [Bool.and_eq_true] at this
      exact this.1, by omega, e5.1, Nat.le_refl _, e7.1⟩
    have ht : Nzs b m (n - (d.weight + 1)) ds := ⟨e1.2, fun e => by
      have : (d.hasDict || PyData.hasDictAll ds) = false := h.dct e
      rw [Bool.or_eq_false_iff] at this
      exact this.2, fun e => by
      have : (noL d && noLs ds) = true := h.nol e
      rw [Bool.and_eq_true] at this
      exact this.2, by omega, e5.2, by omega, e7.2⟩
    exact (Nzs.cons hd (ht.app g)).mono (Nat.le_refl _) (by omega)
theorem nzs_of {b : Bool} {m n : Nat} : ∀ {ds : List PyData}, (∀ d ∈ ds, Nz b m n d) → Nzs b m ((n + 1) * ds.length) ds
  | [], _ => Nzs.nil.mono (Nat.le_refl _) (Nat.zero_le _)
  | d :: ds, h => (Nzs.cons (h d List.mem_cons_self) (nzs_of fun e he => h e (List.mem_cons_of_mem _ he))).mono (Nat.le_refl _) (by rw [List.length_cons, Nat.mul_succ]; omega)
theorem Nzs.tup {b : Bool} {m n : Nat} {ds : List PyData} (h : Nzs b m n ds) : Nz b (m + 1) n (.tuple ds) := ⟨h.sho, h.dct, h.nol, Nat.succ_le_succ h.dep, h.lea, h.wei, h.ok⟩
theorem Nzs.lst {m n : Nat} {ds : List PyData} (h : Nzs false m n ds) : Nz false (m + 1) n (.list ds) := ⟨h.sho, h.dct, fun e => (nomatch e), Nat.succ_le_succ h.dep, h.lea, h.wei, h.ok⟩
theorem Nz.nw {m n : Nat} {d : PyData} (h : Nz false m n d) : Nw m n d := ⟨h.sho, h.dct rfl, h.dep, h.lea, h.wei, h.ok⟩
theorem Nz.nv {m n : Nat} {d : PyData} (h : Nz true m n d) : Nv m n d := ⟨h.sho, h.nol rfl, h.dep, h.lea, h.wei, h.ok⟩
theorem Nz.all {b : Bool} {m n : Nat} {d : PyData} (h : Nz b m n d) (hm : m ≤ 40) (hn : n ≤ 390000) (j : Nat) : shAll j d := by
  cases b with
  | false => exact Nw.all hm hn j h.nw
  | true => exact Nv.all hm hn j h.nv
theorem nz_of {b : Bool} {m n : Nat} {d : PyData} (h : Nw m n d) (l : noL d = true) : Nz b m n d := ⟨h.sho, fun _ => h.dct, fun _ => l, h.dep, h.lea, h.wei, h.ok⟩
theorem nz_str {b : Bool} {z : Str} (h : PyData.strOk z = true) (hl : z.cps.size ≤ 20) : Nz b 0 20 (.str z) := nz_of (nw_str h hl (by decide)) rfl
theorem nz_none {b : Bool} : Nz b 0 0 .none := nz_of nw_none rfl
theorem nz_bool {b : Bool} (c : Bool) : Nz b 0 0 (.bool c) := nz_of (nw_bool c) rfl
theorem nz_int {b : Bool} {i : Int} (h0 : -5 ≤ i) (h1 : i < 395) : Nz b 0 10 (.int i) := nz_of (nw_int h0 h1) rfl
theorem nz_far {b : Bool} : Nz b 0 110 (.int (10 ^ 30)) := ⟨by decide +kernel, fun _ => rfl, fun _ => rfl, Nat.zero_le _, by decide +kernel, by decide +kernel, rfl⟩
theorem nz_dict0 : Nz true 1 0 (.dict []) := ⟨rfl, fun e => (nomatch e), fun _ => rfl, by decide, rfl, Nat.zero_le _, rfl⟩
theorem nz_ints {b : Bool} {t : List Nat} (h : ∀ x ∈ t, x < 3) : Nzs b 0 (3 * t.length) (t.map fun n => PyData.int ((n : Nat) : Int)) := by
  induction t with
  | nil => exact .nil
  | cons x t ih =>
    have hx := h x List.mem_cons_self
    have key : ∀ y : Fin 3, (PyData.int ((y.1 : Nat) : Int)).weight ≤ 2 := by decide
    have h1 : Nz b 0 2 (.int ((x : Nat) : Int)) := ⟨(nz_int (b := b) (by omega) (by omega)).sho, fun _ => rfl, fun _ => rfl, Nat.zero_le _, (nz_int (b := b) (i := (x : Int)) (by omega) (by omega)).lea, key ⟨x, hx⟩, rfl⟩
    exact (Nzs.cons h1 (ih fun y hy => h y (List.mem_cons_of_mem _ hy))).mono (Nat.le_refl _) (by rw [List.length_cons]; omega)
theorem nz_name {b : Bool} {z : Str} (h : nmOk z = true) : Nz b 0 8 (.str z) := nz_of (nw_name h) rfl
theorem nz_names {b : Bool} {ps : List Str} (h : ∀ z ∈ ps, nmOk z = true) : Nzs b 0 (9 * ps.length) (ps.map PyData.str) := by
  have := nzs_of (b := b) (m := 0) (n := 8) (ds := ps.map PyData.str) fun d hd => by
    obtain ⟨z, hz, rfl⟩ := List.mem_map.mp hd
    exact nz_name (h z hz)
  rwa [List.length_map] at this
theorem nz_road {b : Bool} {r : Str × Str} (n1 : nmOk r.1 = true) (n2 : nmOk r.2 = true) : Nz b 1 18 (roadD r) := (Nzs.cons (nz_name n1) (Nzs.cons (nz_name n2) .nil)).tup.mono (Nat.le_refl _) (by decide)
theorem nz_roads {b : Bool} {rs : List (Str × Str)} (h : ∀ r ∈ rs, nmOk r.1 = true ∧ nmOk r.2 = true) : Nzs b 1 (19 * rs.length) (rs.map roadD) := by
  have := nzs_of (b := b) (m := 1) (n := 18) (ds := rs.map roadD) fun d hd => by
    obtain ⟨r, hr, rfl⟩ := List.mem_map.mp hd
    exact nz_road (h r hr).1 (h r hr).2
  rwa [List.length_map] at this
theorem nz_web {b : Bool} {ps : List Str} {rs : List (Str × Str)} (W : IsWeb ps rs) : Nz b 3 340 (webD ps rs) := by
  have h8 := W.le8
  have h14 := W.le14
  have g1 : Nz b 2 72 (tsD ps) := (nz_names W.names.2).tup.mono (by decide) (by omega)
  have g2 : Nz b 2 266 (rsD rs) := (nz_roads (b := b) fun r hr => ⟨W.names.2 _ (W.ends r hr).1, W.names.2 _ (W.ends r hr).2.1⟩).tup.mono (Nat.le_refl _) (by omega)
  exact (Nzs.cons g1 (Nzs.cons g2 .nil)).tup.mono (Nat.le_refl _) (by decide)
theorem nz_rule {b : Bool} {k : Nat} {near : List Str} {d : PyData} (h : RuleD k near d) (hk : k ≤ 3) (hn : near.length ≤ 7) (hf : k ^ (near.length + 1) ≤ 256) (nm : ∀ z ∈ near, nmOk z = true) : Nz b 3 800 d := by
  have tx : ∀ z : Str, PyData.strOk z = true → z.cps.size ≤ 20 → Nz b 2 20 (.str z) := fun z h1 h2 => (nz_str h1 h2).mono (by decide) (Nat.le_refl _)
  have one : ∀ z : Str, PyData.strOk z = true → z.cps.size ≤ 20 → Nz b 3 800 (.tuple [.str z]) := fun z h1 h2 => (Nzs.cons (tx z h1 h2) .nil).tup.mono (Nat.le_refl _) (by decide)
  have two : ∀ (z : Str) (w : PyData), PyData.strOk z = true → z.cps.size ≤ 20 → Nz b 2 778 w → Nz b 3 800 (.tuple [.str z, w]) := fun z w h1 h2 h3 => (Nzs.cons (tx z h1 h2) (Nzs.cons h3 .nil)).tup.mono (Nat.le_refl _) (by decide)
  cases h with
  | table t hl hk2 => exact two _ _ (by decide +kernel) (by decide +kernel) ((nz_ints fun x hx => by have := hk2 x hx; omega).tup.mono (by decide) (by omega))
  | sum ts hl hk2 =>
    refine two _ _ (by decide +kernel) (by decide +kernel) ?_
    have := nzs_of (b := b) (m := 1) (n := 45) (ds := ts.map intsD) fun d hd => by
      obtain ⟨t, ht, rfl⟩ := List.mem_map.mp hd
      obtain ⟨h1, h2⟩ := hk2 t ht
      have hw15 : near.length * (k - 1) + 1 ≤ 15 := by
        have := Nat.mul_le_mul hn (show k - 1 ≤ 2 by omega)
        omega
      exact (nz_ints (b := b) fun x hx => by have := h2 x hx; omega).tup.mono (Nat.le_refl _) (by omega)
    rw [List.length_map] at this
    exact this.tup.mono (Nat.le_refl _) (by omega)
  | keep => exact one _ (by decide +kernel) (by decide +kernel)
  | least => exact one _ (by decide +kernel) (by decide +kernel)
  | greatest => exact one _ (by decide +kernel) (by decide +kernel)
  | odd => exact one _ (by decide +kernel) (by decide +kernel)
  | most n h9 => exact two _ _ (by decide +kernel) (by decide +kernel) ((nz_int (by omega) (by omega)).mono (by decide) (by decide))
  | copy z hz => exact two _ _ (by decide +kernel) (by decide +kernel) ((nz_name (nm z hz)).mono (by decide) (by decide))
def NQ (K : PySem.W.Frag) (b : Bool) (m n : Nat) (H : Hp) (a : Addr) (x : V) : Prop := ∃ d, Ob K H a x d ∧ Nz b m n d
def NQs (K : PySem.W.Frag) (b : Bool) (m n : Nat) (H : Hp) (a : Addr) (xs : List V) : Prop := ∃ ds, ObAll K H a xs ds ∧ Nzs b m n ds
def NX' (K : PySem.W.Frag) (m n : Nat) (H : Hp) (a : Addr) (x : V) : Prop := ∃ b, NQ K b m n H a x
section
variable {K : PySem.W.Frag} {b : Bool} {m n m' n' : Nat} {H H' : Hp} {a : Addr} {x : V} {xs ys : List V} {c : Int}
theorem NQ.same (h : NQ K b m n H a x) (k : Same H H') : NQ K b m n H' a x := by
  obtain ⟨d, o, r⟩ := h
  exact ⟨d, o.same k, r⟩
theorem NQ.ch (h : NQ K b m n H a x) (k : Ch a H H') (f : Fd H a c) : NQ K b m n H' a x := by
  obtain ⟨d, o, r⟩ := h
  exact ⟨d, o.ch k f, r⟩
theorem NQs.same (h : NQs K b m n H a xs) (k : Same H H') : NQs K b m n H' a xs := by
  obtain ⟨d, o, r⟩ := h
  exact ⟨d, o.same k, r⟩
theorem NQs.ch (h : NQs K b m n H a xs) (k : Ch a H H') (f : Fd H a c) : NQs K b m n H' a xs := by
  obtain ⟨d, o, r⟩ := h
  exact ⟨d, o.ch k f, r⟩
theorem NX'.same (h : NX' K m n H a x) (k : Same H H') : NX' K m n H' a x := h.imp fun _ h => h.same k
theorem NX'.ch (h : NX' K m n H a x) (k : Ch a H H') (f : Fd H a c) : NX' K m n H' a x := h.imp fun _ h => h.ch k f
theorem NQ.mono (h : NQ K b m n H a x) (hm : m ≤ m' := by decide) (hn : n ≤ n' := by decide) : NQ K b m' n' H a x := by
  obtain ⟨d, o, r⟩ := h
  exact ⟨d, o, r.mono hm hn⟩
theorem NX'.mono (h : NX' K m n H a x) (hm : m ≤ m' := by decide) (hn : n ≤ n' := by decide) : NX' K m' n' H a x := h.imp fun _ h => h.mono hm hn
theorem NQs.mono (h : NQs K b m n H a xs) (hm : m ≤ m' := by decide) (hn : n ≤ n' := by decide) : NQs K b m' n' H a xs := by
  obtain ⟨d, o, r⟩ := h
  exact ⟨d, o, r.mono hm hn⟩
theorem NQs.nil : NQs K b m 0 H a [] := ⟨[], .nil, .nil⟩
theorem NQs.cons (h : NQ K b m n H a x) (g : NQs K b m n' H a xs) : NQs K b m (n + 1 + n') H a (x :: xs) := by
  obtain ⟨d, o, r⟩ := h
  obtain ⟨ds, os, rs⟩ := g
  exact ⟨d :: ds, .cons o os, .cons r rs⟩
theorem NQs.app (h : NQs K b m n H a xs) (g : NQs K b m n' H a ys) : NQs K b m (n + n') H a (xs ++ ys) := by
  obtain ⟨ds, os, rs⟩ := h
  obtain ⟨es, oe, re⟩ := g
  exact ⟨ds ++ es, ObAll.app os oe, rs.app re⟩
theorem NQs.tup {p : Addr} (s : SqT K H p xs) (h : NQs K b m n H a xs) : NQ K b (m + 1) n H a (.ref p) := by
  obtain ⟨ds, os, rs⟩ := h
  exact ⟨.tuple ds, .tup s os, rs.tup⟩
theorem NQs.lst {p : Addr} (s : H p = some (.lst xs)) (d : p ≠ a) (h : NQs K false m n H a xs) : NQ K false (m + 1) n H a (.ref p) := by
  obtain ⟨ds, os, rs⟩ := h
  exact ⟨.list ds, .lst s d os, rs.lst⟩
theorem NQ.nx (h : NQ K b m n H a x) : NX' K m n H a x := ⟨b, h⟩
theorem nq_str {z : Str} (h : PyData.strOk z = true) (hl : z.cps.size ≤ 20) : NQ K b 0 20 H a (.str z) := ⟨_, .str z, nz_str h hl⟩
theorem nq_none : NQ K b 0 0 H a .non := ⟨_, .non, nz_none⟩
theorem nq_bool (e : Bool) : NQ K b 0 0 H a (.bl e) := ⟨_, .bl e, nz_bool e⟩
theorem nq_int {i : Int} (h0 : -5 ≤ i) (h1 : i < 395) : NQ K b 0 10 H a (.int i) := ⟨_, .int i, nz_int h0 h1⟩
theorem nq_far : NQ K b 0 110 H a (.int (10 ^ 30)) := ⟨_, .int _, nz_far⟩
theorem nq_dict {p : Addr} (e : H p = some (.dK [])) (d : p ≠ a) : NQ K true 1 0 H a (.ref p) := ⟨_, .dic e d, nz_dict0⟩
end
end
section
open L2 PySem PySem.Spec PyProof.Rows
theorem zeroT (p : Addr) (zs : Array Value) (m : Nat) (di : Option Addr) (so : Array (Option Value)) (tk : Tok) (hz : zs.isEmpty = false) :
    Meets (Builtin.«tuple.__mul__» ⟨[.ref p, .int 0 tk], []⟩) (fun _ F z => z.heap.get? p = some { cls := .type "tuple", dict := di, data := .seq zs m, slots := so } ∧ F (.ok (.ret (Value.ref z.heap.objs.size))) { z with heap := z.heap.push { cls := Value.type "tuple", data := Data.seq #[] }, toks := z.toks }) :=
  .of_wp fun pr wo Ar F z hz2 => by
    obtain ⟨he, ge, dr, to, sy⟩ := z
    obtain ⟨hp, hF⟩ := hz2
    have ix := AutoSeq1.idx_int
    wp_walk using wpAny_loadPart' hp
    repeat (first
      | (refine wpAny_ite_false (decide_eq_false (by rw [hz]; exact Bool.false_ne_true)) ?_; wp_walk using wpAny_loadPart' hp))
    exact ⟨_, rfl, hF⟩
def rRepZ (K : PySem.W.Frag) : R2 := fun x y H Q => ∃ (p : Addr) (n : Nat) (xs : List V), x = .ref p ∧ y = .int n ∧ SqT K H p xs ∧ xs ≠ [] ∧ n ≤ 1000 ∧ xs.length ≤ 1000 ∧ ∀ r H', Same H H' → SqT K H' r (List.replicate n xs).flatten → Q (.ref r) H'
section
variable {X : Cx} {K : PySem.W.Frag}
theorem op_repZ : OpR X (binaryOp .Mult) (rRepZ X.K) := by
  intro pins s σ H x y v u Q I rx ry h
  obtain ⟨p, n, xs, rfl, rfl, hT, hne, h2, hz, q⟩ := h
  by_cases h3 : n = 0
  · subst h3
    cases rx
    obtain ⟨t, rfl⟩ := ry
    obtain ⟨its, r, ⟨⟨cl, di, da, so⟩, ho, hc, m, hd⟩, hs⟩ := I.tuple hT
    simp only at hc hd
    subst hc hd
    have hle : its.length = xs.length := r.length.symm
    have hi : its.toArray.isEmpty = false := by
      cases its with
      | nil => exact absurd (List.eq_nil_of_length_eq_zero hle.symm) hne
      | cons a b => rfl
    refine wpAny_binaryOp_repeat_ref (U := "int") (T := "tuple") (by decide) ⟨_, ho, rfl⟩ (fun z => typeIs_int z ((0 : Nat) : Int) t) noFill_tuple_mul F.fills_int_mul F.slot_int_rmul repeat_tuple F.slot_int_index.lookup ?_
    refine call_meets F.slot_int_rmul (typeIs_int s ((0 : Nat) : Int) t) F.entry_int_rmul (F.args_int_rmul_2 _ _) (int_rmul_tuple ((0 : Nat) : Int) t p its.toArray m di so) ⟨ho, rfl, ⟨_, ho, rfl⟩, ?_⟩
    refine call_meets F.slot_tuple_mul ⟨_, ho, rfl⟩ F.entry_tuple_mul (F.args_tuple_mul_2 _ _) (zeroT p its.toArray m di so t hi) ⟨ho, ?_⟩
    refine ⟨.ref s.heap.objs.size, _, I.laid (t' := s.toks) (o := .tup []) (fun b ob q => Heap.get?_push_of_some _ q) (Nat.le_refl _) ?_, rfl, q _ _ (Same.upd_new (I.hok.fresh (Nat.le_refl _))) (.inl (.inl upd_same))⟩
    exact ⟨by rw [sizeLine_eq]; show 0 ≤ _; omega, _, .nil, IsTup.new _ _⟩
  · exact op_repN pins s σ H _ _ v u Q I rx ry ⟨p, n, xs, rfl, rfl, hT, hne, by omega, h2, hz, q⟩
theorem k_repZ (hK : X.K = K := by rfl) : OpR X (binaryOp .Mult) (rRepZ K) := by subst hK; exact op_repZ
end
end
open L2 PySem PySem.Spec PyProof.Rows
local macro_rules | `(tactic| walk_at "jz") => `(tactic| first
  | assumption
  | (rw [sizeLine_eq]; simp only [List.length_map, List.length_append, List.length_cons, List.length_nil, List.length_range, List.length_take, List.length_drop]; omega)
  | (rw [sizeLine_eq]; omega)
  | fail "none")
local macro_rules | `(tactic| walk_at "jc") => `(tactic| first
  | assumption
  | (refine ⟨?_, ?_⟩ <;> omega)
  | (show (0 : Int) < _; omega)
  | (show (0 : Int) < _; decide)
  | (refine ⟨?_, ?_, ?_⟩ <;> decide)
  | (refine ⟨?_, ?_⟩ <;> decide)
  | (left; refine ⟨?_, ?_⟩ <;> omega)
  | (right; refine ⟨?_, ?_⟩ <;> omega)
  | fail "none")
local macro_rules | `(tactic| walk_at "jn") => `(tactic| first
  | assumption
  | (apply Ne.symm; assumption)
  | (refine Fd.ne (H := ?h0) (c := ?c0) ?e0 ?n0; (case n0 => assumption); (case e0 => walk_at "jf"))
  | (apply Ne.symm; refine Fd.ne (H := ?h0) (c := ?c0) ?e0 ?n0; (case n0 => assumption); (case e0 => walk_at "jf"))
  | (refine ne_of_none (H := ?h0) (o := ?o0) ?e0 ?n0; (case n0 => assumption); (case e0 => walk_at "jl"))
  | (apply Ne.symm; refine ne_of_none (H := ?h0) (o := ?o0) ?e0 ?n0; (case n0 => assumption); (case e0 => walk_at "jl"))
  | fail "none")
local macro_rules | `(tactic| walk_at "jl") => `(tactic| first
  | assumption
  | exact upd_same
  | (refine Ch.at (a := ?a0) (H := ?h0) ?c0 ?n0 ?e0; (case c0 => assumption); (case n0 => walk_at "jn"); (case e0 => walk_at "jl"))
  | (refine (upd_ne ?_).trans ?_; (walk_at "jn"); (walk_at "jl"))
  | fail "none")
local macro_rules | `(tactic| walk_at "jq") => `(tactic| first
  | assumption
  | ((with_reducible refine sq_lst ?_); (walk_at "jl"))
  | ((with_reducible refine sq_tup ?_); (walk_at "jl"))
  | ((with_reducible refine Ch.sqA (a := ?a0) (H := ?h0) ?c0 ?n0 ?e0); (case c0 => assumption); (case n0 => walk_at "jn"); (case e0 => walk_at "jq"))
  | ((with_reducible refine Ch.sqL (a := ?a0) (H := ?h0) ?c0 ?n0 ?e0); (case c0 => assumption); (case n0 => walk_at "jn"); (case e0 => walk_at "jq"))
  | ((with_reducible refine Ch.sqT (a := ?a0) (H := ?h0) ?c0 ?n0 ?e0); (case c0 => assumption); (case n0 => walk_at "jn"); (case e0 => walk_at "jq"))
  | ((with_reducible refine sqA_same (H := ?h0) ?c0 ?e0); (case c0 => first | assumption | (refine Same.upd_new ?_; assumption)); (case e0 => walk_at "jq"))
  | ((with_reducible refine SqA.l ?_); (walk_at "jq"))
  | ((with_reducible refine SqA.t ?_); (walk_at "jq"))
  | fail "none")
local macro_rules | `(tactic| walk_at "jf") => `(tactic| first
  | assumption
  | (refine Fd.upd ?_ ?_; (walk_at "jf"); (walk_at "jn"))
  | fail "none")
local macro_rules | `(tactic| walk_at "jh") => `(tactic| first
  | assumption
  | exact Ch.refl _
  | exact Ch.upd_self
  | (refine Ch.upd_l ?_ ?_; (walk_at "jh"); assumption)
  | (refine Ch.upd_a ?_; (walk_at "jh"))
  | (refine Ch.upd_n ?c0 ?c1; (case c1 => assumption); (case c0 => walk_at "jh"))
  | (refine Ch.trans (H1 := ?h1) ?c0 ?c1; (case c1 => assumption); (case c0 => walk_at "jh"))
  | fail "none")
local macro_rules | `(tactic| walk_at "jt") => `(tactic| first
  | assumption
  | exact TK.refl _
  | ((with_reducible refine TK.new' ?c0 ?c1); (case c1 => assumption); (case c0 => walk_at "jt"))
  | ((with_reducible refine TK.lst' (xs := ?xs1) ?c0 ?c1); (case c1 => walk_at "jl"); (case c0 => walk_at "jt"))
  | ((with_reducible refine TK.ch' (H1 := ?h1) (a := ?a1) (c := ?k1) ?c0 ?c1 ?c2); (case c1 => assumption); (case c2 => walk_at "jf"); (case c0 => walk_at "jt"))
  | fail "jt")
local macro_rules | `(tactic| walk_at "js") => `(tactic| with_reducible (first
  | refine i_seq ?_ | refine i_asg ?_ | refine i_gname ?_ | refine i_ifS ?_ | refine i_test ?_ | refine i_tB ?_ | refine i_ret ?_ | refine i_retN ?_ | refine i_drop ?_ | refine i_next ?_
  | refine i_op ?_ | refine i_un ?_ | refine i_c ?_ | refine i_rI0 ?_ | refine i_rU ?_ | refine i_add ?_ | refine i_sub ?_ | refine i_eqI ?_ | refine i_neI ?_ | refine i_eqS ?_ | refine i_neS ?_
  | refine i_bl ?_ | refine i_blQ ?_ | refine i_not ?_ | refine i_and ?_ | refine i_or ?_ | refine i_notV ?_ | refine i_andV ?_ | refine i_orV ?_ | refine i_if ?_ | refine i_chain ?_
  | refine i_gsub ?_ | refine i_cons ?_ | refine i_nil ?_ | refine i_cb ?_ | refine i_call ?_ | refine i_tup ?_ | refine i_lst ?_ | refine i_par ?_ | refine i_par' ?_ | refine i_par3 ?_ | refine i_par3' ?_
  | refine i_sl ?_ | refine i_npart ?_ | refine i_part ?_ | refine i_partI ?_ | refine i_bm ?_ | refine i_for ?_ | refine i_lc ?_ | refine i_yes ?_ | refine i_lrg ?_ | refine i_gcons ?_ | refine i_gnil ?_ | refine i_rng1 ?_ | refine i_rng2 ?_ | refine i_ilist ?_ | refine i_itup ?_
  | refine i_iteT ?_ | refine i_iteF ?_ | refine i_iteNT ?_ | refine i_iteNF ?_
  | fail "js"))
local macro_rules | `(tactic| walk_at "jv") => `(tactic| first
  | walk_at "js"
  | ((with_reducible refine i_var (v := ?v) ?e ?_); (case e => rfl))
  | ((with_reducible refine i_ixL (v := ?v) (xs := ?xs) ?e ?z ?_); (case e => walk_at "jq"); (case z => first | exact at0 | exact at1 | exact at2 | assumption))
  | ((with_reducible refine i_ixT (v := ?v) (xs := ?xs) ?e ?z ?_); (case e => walk_at "jq"); (case z => first | exact at0 | exact at1 | exact at2 | assumption))
  | ((with_reducible refine i_setL (xs := ?xs) (j := ?j) ?e ?z ?_); (case e => walk_at "jl"); (case z => first | rfl | assumption))
  | (with_reducible refine i_ite (fun _ => ?_) (fun _ => ?_))
  | (with_reducible refine i_iteN (fun _ => ?_) (fun _ => ?_))
  | ((with_reducible refine i_rI (i := ?i) (j := ?j) ?c ?_); (case c => walk_at "jc"))
  | (with_reducible refine i_int ?_)
  | (with_reducible refine i_intB ?_)
  | (with_reducible refine i_max ?_)
  | (with_reducible refine i_min ?_)
  | ((with_reducible refine i_tupL (ys := ?ys) ?e ?_); (case e => walk_at "jq"))
  | ((with_reducible refine i_tupT (ys := ?ys) ?e ?_); (case e => walk_at "jq"))
  | ((with_reducible refine i_lstL (ys := ?ys) ?e ?_); (case e => walk_at "jq"))
  | ((with_reducible refine i_lstT (ys := ?ys) ?e ?_); (case e => walk_at "jq"))
  | ((with_reducible refine i_lenL (ys := ?ys) ?e ?_); (case e => walk_at "jq"))
  | ((with_reducible refine i_lenT (ys := ?ys) ?e ?_); (case e => walk_at "jq"))
  | ((with_reducible refine i_all (bs := ?bs) ?e ?_); (case e => walk_at "jq"))
  | ((with_reducible refine i_slL (xs := ?xs) ?e ?_); (case e => walk_at "jq"))
  | ((with_reducible refine i_tyL (xs := ?xs) ?e ?_); (case e => walk_at "jq"))
  | ((with_reducible refine i_app (xs := ?xs) ?e ?z ?_); (case e => walk_at "jl"); (case z => walk_at "jz"))
  | ((with_reducible refine i_ixA (v := ?v) (xs := ?xs) ?e ?z ?_); (case e => walk_at "jq"); (case z => first | exact at0 | exact at1 | exact at2 | assumption))
  | ((with_reducible refine i_lenA (ys := ?ys) ?e ?_); (case e => walk_at "jq"))
  | ((with_reducible refine i_lstA (ys := ?ys) ?e ?_); (case e => walk_at "jq"))
  | ((with_reducible refine i_sum (ns := ?ns) ?e ?_); (case e => walk_at "jq"))
  | ((with_reducible refine i_rgK ?b ?_); (case b => first | assumption | (refine ⟨?_, ?_⟩ <;> omega)))
  | ((with_reducible refine i_rgK2 ?b ?_); (case b => first | assumption | (refine ⟨?_, ?_, ?_, ?_⟩ <;> omega)))
  | ((with_reducible refine i_ilK (xs := ?xs) ?e ?_); (case e => walk_at "jq"))
  | ((with_reducible refine i_itK (xs := ?xs) ?e ?_); (case e => walk_at "jq"))
  | ((with_reducible refine i_gtup (xs := ?xs) ?e ?z ?_); (case e => walk_at "jq"); (case z => rfl))
  | (with_reducible refine is_int _ ?_)
  | (with_reducible refine is_int_bool _ ?_)
  | (with_reducible refine is_str _ ?_)
  | ((with_reducible refine is_tup (xs := ?xs) ?e ?_); (case e => walk_at "jq"))
  | ((with_reducible refine i_wip ?z ?_); (case z => rfl))
  | ((with_reducible refine i_lcE (acc := ?acc) ?e ?z ?_); (case e => walk_at "jl"); (case z => walk_at "jz"))
  | ((with_reducible refine i_inS (ns := ?ns) ?e ?_); (case e => walk_at "jq"))
  | ((with_reducible refine i_al ?z ?_); (case z => first | (show _ ≤ sizeLine; decide) | walk_at "jz"))
  | (with_reducible refine i_nx ?_) | (with_reducible refine i_rt ?_) | (with_reducible refine i_bk ?_) | (with_reducible refine i_ct ?_)
  | fail "none")
section
open L2 PySem PySem.Spec PyProof.Rows
def topS (i : Nat) : Stmt := PySem.Challenge.pw_eachinturn_k02_what_is_a_hall.main.body.getD i (.Pass ⟨0, 0, 0, 0⟩)
abbrev s__law_draw : Stmt := topS 31
theorem sc__law_draw : FnScope ["_law_feed_here", "_law_many", "_law_rest", "_law_got", "_law_stir"] ["_law_feed_here", "_law_many"] (defScope s__law_draw) := ⟨rfl, rfl, rfl, by decide +kernel, rfl, by decide +kernel, by decide +kernel⟩
abbrev s__law_feed : Stmt := topS 30
theorem sc__law_feed : FnScope ["_law_script", "_law_k", "_law_cell"] ["_law_script", "_law_k"] (defScope s__law_feed) := ⟨rfl, rfl, rfl, by decide +kernel, rfl, by decide +kernel, by decide +kernel⟩
abbrev s__law_one : Stmt := topS 32
theorem sc__law_one : FnScope ["_law_feed_here", "_law_things"] ["_law_feed_here", "_law_things"] (defScope s__law_one) := ⟨rfl, rfl, rfl, by decide +kernel, rfl, by decide +kernel, by decide +kernel⟩
abbrev s__law_mixed : Stmt := topS 33
theorem sc__law_mixed : FnScope ["_law_feed_here", "_law_things", "_law_pool", "_law_got", "_law_turn"] ["_law_feed_here", "_law_things"] (defScope s__law_mixed) := ⟨rfl, rfl, rfl, by decide +kernel, rfl, by decide +kernel, by decide +kernel⟩
abbrev s__law_names : Stmt := topS 34
theorem sc__law_names : FnScope ["_law_feed_here", "_law_many"] ["_law_feed_here", "_law_many"] (defScope s__law_names) := ⟨rfl, rfl, rfl, by decide +kernel, rfl, by decide +kernel, by decide +kernel⟩
section
variable {base : Heap} {P : Program} {w : World} {K : PySem.W.Frag} {mg : Str → Option Value}
theorem ok_draw (D : Dn K mg "_law_draw" s__law_draw ["_law_feed_here", "_law_many"]) (B : Bn mg) : Cl P w K mg base 1 "_law_draw" ["_law_feed_here", "_law_many"] spDraw := by
  refine D.cl sc__law_draw (fun vs H Q E h => ?_) (fun f cdv A outer s H vs Q E hr h => ?_)
  · obtain ⟨a, m, c, rfl, _⟩ := h
    rfl
  · obtain ⟨a, m, c, rfl, ⟨x, y, n, ha, hx, hy, hy2, hn, hnc⟩, hm0, hm1, hc, q⟩ := h
    refine ⟨_, (pss_cons (ps_if (pt_cmpR op_gt (pe_ix (k_ixL (K := K)) (pv 0) pe_int (fun _ _ => rfl)) pe_int (nomark _)) (pss_cons (ps_set (i := 2) sc__law_draw.nd rfl (by first | exact Or.inl rfl | exact Or.inr rfl) (pe_op op_fdiv (pe_ix (k_ixL (K := K)) (pv 0) pe_int (fun _ _ => rfl)) (pv 1)))
      (pss_cons (ps_set (i := 3) sc__law_draw.nd rfl (by first | exact Or.inl rfl | exact Or.inr rfl) (pe_op op_sub (pe_ix (k_ixL (K := K)) (pv 0) pe_int (fun _ _ => rfl)) (pe_op op_mul (pv 2) (pv 1))))
      (pss_cons (ps_asg (pv 2) (pg_sub (pv 0) pe_int set_list))
      (pss_one (ps_ret (pv 3)))))) pss_nil)
      (pss_cons (ps_asg (pe_op op_add (pe_ix (k_ixL (K := K)) (pv 0) pe_int (fun _ _ => rfl)) pe_int) (pg_sub (pv 0) pe_int set_list))
      (pss_cons (ps_set (i := 4) sc__law_draw.nd rfl (by first | exact Or.inl rfl | exact Or.inr rfl) (pe_op op_add (pe_ix (k_ixL (K := K)) (pv 0) pe_int (fun _ _ => rfl)) (pe_op op_mul pe_int (pe_ix (k_ixL (K := K)) (pv 0) pe_int (fun _ _ => rfl)))))
      (pss_cons (ps_set (i := 4) sc__law_draw.nd rfl (by first | exact Or.inl rfl | exact Or.inr rfl) (pe_op op_mod (pe_callTy (j_int) rfl B.int_ (by decide +kernel) (pa_cons (pe_op op_add (pe_op op_mulW (pe_op op_mulW (pv 4) (pv 4)) (pv 4)) (pe_op op_mul pe_int (pe_ix (k_ixL (K := K)) (pv 0) pe_int (fun _ _ => rfl)))) pa_nil)) (pe_op op_add (pe_op op_pow pe_int pe_int) pe_int)))
      (pss_cons (ps_set (i := 4) sc__law_draw.nd rfl (by first | exact Or.inl rfl | exact Or.inr rfl) (pe_op op_mod (pe_callTy (j_int) rfl B.int_ (by decide +kernel) (pa_cons (pe_op op_add (pe_op op_mulW (pv 4) (pv 4)) pe_int) pa_nil)) (pe_op op_add (pe_op op_pow pe_int pe_int) pe_int)))
      (pss_one (ps_ret (pe_op op_mod (pe_callTy (j_int) rfl B.int_ (by decide +kernel) (pa_cons (pe_op op_fdiv (pv 4) (pe_op op_pow pe_int pe_int)) pa_nil)) (pv 1))))))))), ?_⟩
    repeat' (walk_at "jv")
    · have e1 : 0 ≤ x / m := Int.ediv_nonneg hx (by omega)
      have e2 : x % m = x - x / m * m := by
        rw [Int.emod_def, Int.mul_comm]
      refine q _ _ (by rw [← e2]; exact Int.emod_nonneg _ (by omega)) (by rw [← e2]; exact Int.emod_lt_of_pos _ hm0) ⟨x / m, y, n, upd_same, e1, hy, hy2, hn, by omega⟩ Ch.upd_self
    · obtain ⟨c1, c2⟩ := cube_ok (s := y + 6700417 * (n + 1)) (by omega) (by omega)
      repeat' (walk_at "jv")
      generalize (y + 6700417 * (n + 1)) * (y + 6700417 * (n + 1)) * (y + 6700417 * (n + 1)) + 15485863 * (n + 1) = z at *
      have b1 : 0 ≤ z % (10 ^ Int.toNat 43 + 57) := Int.emod_nonneg _ (by decide)
      have b2 : z % (10 ^ Int.toNat 43 + 57) < 10 ^ Int.toNat 43 + 57 := Int.emod_lt_of_pos _ (by decide)
      rw [show (10 : Int) ^ Int.toNat 43 + 57 = 10 ^ 43 + 57 from rfl] at *
      generalize z % (10 ^ 43 + 57) = u at *
      have c3 : CMulW u u := (cube_ok b1 (Int.lt_trans b2 (by decide))).1
      repeat' (walk_at "jv")
      refine q _ _ (Int.emod_nonneg _ (by omega)) (Int.emod_lt_of_pos _ hm0) ⟨x, y, n + 1, upd_same, hx, hy, hy2, by omega, by omega⟩ Ch.upd_self
theorem ok_one (D : Dn K mg "_law_one" s__law_one ["_law_feed_here", "_law_things"]) (B : Bn mg) (C__law_draw : Cl P w K mg base 1 "_law_draw" ["_law_feed_here", "_law_many"] spDraw) : Cl P w K mg base 2 "_law_one" ["_law_feed_here", "_law_things"] (spOne K) := by
  refine D.cl sc__law_one (fun vs H Q E h => ?_) (fun f cdv A outer s H vs Q E hr h => ?_)
  · obtain ⟨a, p, c, xs, rfl, _⟩ := h
    rfl
  · obtain ⟨a, p, c, xs, rfl, hf, hp, hpa, h0, hz, hc, q⟩ := h
    refine ⟨_, (pss_one (ps_ret (pe_ix ix_any (pv 1) (pe_c C__law_draw hr (pa_cons (pv 0) (pa_cons (pe_callB (k_len (K := K)) rfl B.len_ (by decide +kernel) (pa_cons (pv 1) pa_nil)) pa_nil))) (fun _ _ => rfl)))), ?_⟩
    repeat' (walk_at "jv")
    refine ⟨a, xs.length, c, rfl, hf, by omega, by omega, hc, fun r H1 r0 r1 f1 k1 => ?_⟩
    obtain ⟨k, rfl⟩ := Int.eq_ofNat_of_zero_le r0
    have hk : k < xs.length := by omega
    refine i_ixA (k1.sqA hpa hp) (atI_nat (List.getElem?_eq_getElem hk)) ?_
    repeat' (walk_at "jv")
    exact q _ _ (List.getElem_mem hk) f1 k1
end
end
section
open L2 PySem PySem.Spec PyProof.Rows
section
variable {base : Heap} {P : Program} {w : World} {K : PySem.W.Frag} {mg : Str → Option Value}
theorem ok_mixed (D : Dn K mg "_law_mixed" s__law_mixed ["_law_feed_here", "_law_things"]) (B : Bn mg) (C__law_draw : Cl P w K mg base 1 "_law_draw" ["_law_feed_here", "_law_many"] spDraw) : Cl P w K mg base 2 "_law_mixed" ["_law_feed_here", "_law_things"] (spMixed K) := by
  refine D.cl sc__law_mixed (fun vs H Q E h => ?_) (fun f cdv A outer s H vs Q E hr h => ?_)
  · obtain ⟨a, p, c, xs, rfl, _⟩ := h
    rfl
  · obtain ⟨a, p, c, xs, rfl, hf, hp, hpa, hz, hc, q⟩ := h
    refine ⟨_, (pss_cons (ps_par (i := 2) (j := 3) rfl sc__law_mixed.nd rfl rfl (by decide) rfl rfl (pa_cons (pe_callTy (k_list (K := K)) rfl B.list_ (by decide +kernel) (pa_cons (pv 1) pa_nil)) (pa_cons (pe_lst pa_nil) pa_nil)) (by rfl))
      (pss_cons (ps_for PassesOwn.never rfl (pi_range1 rfl B.range_ (pa_cons (pe_callB (k_len (K := K)) rfl B.len_ (by decide +kernel) (pa_cons (pv 1) pa_nil)) pa_nil)) (pg_name (i := 4) sc__law_mixed.nd rfl (by first | exact Or.inl rfl | exact Or.inr rfl)) (pss_one (ps_expr (pe_bm PySem.F.plainAttrs_list PySem.F.slot_list_append PySem.F.type_list_append mt_append (pv 3) (pa_cons (pe_bm PySem.F.plainAttrs_list PySem.F.slot_list_pop PySem.F.type_list_pop mt_popAt (pv 2) (pa_cons (pe_c C__law_draw hr (pa_cons (pv 0) (pa_cons (pe_callB (k_len (K := K)) rfl B.len_ (by decide +kernel) (pa_cons (pv 2) pa_nil)) pa_nil))) pa_nil)) pa_nil)))))
      (pss_one (ps_ret (pv 3))))), ?_⟩
    repeat' (walk_at "jv")
    intro L nL
    have nLa := hf.ne nL
    repeat' (walk_at "jv")
    intro G nG
    have nGL : G ≠ L := by walk_at "jn"
    have nG0 : H G = none := Ch.free (a := a) (by walk_at "jh") (by walk_at "jn") nG
    have nGa := hf.ne nG0
    repeat' (walk_at "jv")
    refine f_range (fun i σ H' => ∃ y4 pool gs, σ = [some (.ref a), some (.ref p), some (.ref L), some (.ref G), y4] ∧ H' L = some (.lst pool) ∧ H' G = some (.lst gs) ∧ (gs ++ pool).Perm xs ∧ gs.length = i ∧ Fd H' a (c + i) ∧ Ch a H H') ⟨none, xs, [], rfl, ?_, ?_, List.Perm.refl _, rfl, ?_, ?_⟩ (fun i σ H' hi h => ?_) (fun σ H' h => ?_)
    · walk_at "jl"
    · walk_at "jl"
    · exact Fd.mono (c := c) (by walk_at "jf") (by omega)
    · walk_at "jh"
    · obtain ⟨y4, pool, gs, rfl, h1, h2, h3, h4, h5, h6⟩ := h
      have hl := h3.length_eq
      rw [List.length_append] at hl
      repeat' (walk_at "jv")
      refine ⟨a, pool.length, c + i, rfl, h5, by omega, by omega, by omega, fun r H1 r0 r1 f1 k1 => ?_⟩
      obtain ⟨k, rfl⟩ := Int.eq_ofNat_of_zero_le r0
      have hk : k < pool.length := by omega
      repeat' (walk_at "jv")
      refine i_popAt (xs := pool) (by walk_at "jl") (by omega) (List.getElem?_eq_getElem hk) ?_
      repeat' (walk_at "jv")
      refine ⟨_, _, _, rfl, by walk_at "jl", by walk_at "jl", ?_, ?_, ?_, by walk_at "jh"⟩
      · rw [List.append_assoc]
        exact (List.Perm.append_left gs (perm_erase pool k hk)).trans h3
      · rw [List.length_append, h4]
        rfl
      · exact Fd.mono (c := c + i + 1) (by walk_at "jf") (by omega)
    · obtain ⟨y4, pool, gs, rfl, h1, h2, h3, h4, h5, h6⟩ := h
      repeat' (walk_at "jv")
      have hl := h3.length_eq
      rw [List.length_append] at hl
      have e0 : pool = [] := List.eq_nil_of_length_eq_zero (by omega)
      rw [e0, List.append_nil] at h3
      exact q G gs H' h3 nG0 h2 (h5.mono (by omega)) h6
def theNames : List Str := ["a", "b10", "b", "zz", "a1", "q1w2e3r4", "b9", "x", "m0", "road", "k", "a1b"]
theorem the_names : IsNames theNames := ⟨by decide +kernel, by decide +kernel⟩
theorem ok_names (D : Dn K mg "_law_names" s__law_names ["_law_feed_here", "_law_many"]) (B : Bn mg) (C__law_mixed : Cl P w K mg base 2 "_law_mixed" ["_law_feed_here", "_law_things"] (spMixed K)) : Cl P w K mg base 3 "_law_names" ["_law_feed_here", "_law_many"] spNames := by
  refine D.cl sc__law_names (fun vs H Q E h => ?_) (fun f cdv A outer s H vs Q E hr h => ?_)
  · obtain ⟨a, m, c, rfl, _⟩ := h
    rfl
  · obtain ⟨a, m, c, rfl, hf, hm0, hm1, hc, q⟩ := h
    refine ⟨_, (pss_one (ps_ret (pe_slice (k_slL (K := K)) (pe_c C__law_mixed hr (pa_cons (pv 0) (pa_cons (pe_lst (pa_cons pe_str (pa_cons pe_str (pa_cons pe_str (pa_cons pe_str (pa_cons pe_str (pa_cons pe_str (pa_cons pe_str (pa_cons pe_str (pa_cons pe_str (pa_cons pe_str (pa_cons pe_str (pa_cons pe_str pa_nil))))))))))))) pa_nil))) po_none (po_some (pv 1))))), ?_⟩
    repeat' (walk_at "jv")
    intro L nL
    have nLa := hf.ne nL
    repeat' (walk_at "jv")
    refine ⟨a, L, c, theNames.map V.str, rfl, by walk_at "jf", SqA.l (sq_lst upd_same), nLa, by decide, hc, fun G ys H1 pm nG eG f1 k1 => ?_⟩
    repeat' (walk_at "jv")
    intro R nR
    repeat' (walk_at "jv")
    obtain ⟨ns, rfl⟩ : ∃ ns : List Str, ys = ns.map V.str := by
      refine ⟨ys.map fun v => match v with | .str z => z | _ => Str.empty, ?_⟩
      rw [List.map_map]
      conv => lhs; rw [← List.map_id ys]
      refine List.map_congr_left fun v hv => ?_
      have h1 := pm.mem_iff.mp hv
      obtain ⟨z, _, rfl⟩ := List.mem_map.mp h1
      rfl
    have pm2 : ns.Perm theNames := by
      have h2 := pm.map fun v => match v with | .str z => z | _ => Str.empty
      rw [List.map_map, List.map_map] at h2
      have e : ((fun v => match v with | V.str z => z | _ => Str.empty) ∘ V.str) = id := rfl
      rw [e, List.map_id, List.map_id] at h2
      exact h2
    obtain ⟨k, rfl⟩ := Int.eq_ofNat_of_zero_le hm0
    have e1 : cutV (ns.map V.str) none (some (k : Int)) = (ns.take k).map V.str := by
      unfold cutV
      rw [HT.sIx_none, HT.sIx_nat, List.drop_zero, Nat.sub_zero, List.length_map, List.map_take]
      have hl := pm2.length_eq
      rw [Nat.min_eq_left (by rw [hl]; show k ≤ 12; omega)]
    refine q R (ns.take k) _ ((the_names.perm pm2).take k) ?_ ?_ ?_ ?_ ?_
    · have hl := pm2.length_eq
      rw [List.length_take, hl]
      show ((min k 12 : Nat) : Int) = k
      omega
    · have n2 : R ≠ a := by walk_at "jn"
      have n3 : upd H L (.lst (theNames.map V.str)) R = none := k1.free n2 nR
      have n4 : R ≠ L := fun z => by rw [z, upd_same] at n3; cases n3
      rw [upd_ne n4] at n3
      exact n3
    · rw [← e1]
      exact upd_same
    · exact f1.upd (Ne.symm (f1.ne nR))
    · exact ((Ch.upd_new nL).trans k1).trans (Ch.upd_new nR)
end
end
section
open L2 PySem PySem.Spec PyProof.Rows
abbrev s__law_web : Stmt := topS 35
theorem sc__law_web : FnScope ["_law_feed_here", "_law_way", "_law_most", "_law_many", "_law_pairs", "_law_shape", "_law_at", "_law_back", "_law_turn", "_law_one_here", "_law_other", "_law_pair", "_law_names_here", "_law_roads"] ["_law_feed_here", "_law_way", "_law_most"] (defScope s__law_web) := ⟨rfl, rfl, rfl, by decide +kernel, rfl, by decide +kernel, by decide +kernel⟩
section
variable {base : Heap} {P : Program} {w : World} {K : PySem.W.Frag} {mg : Str → Option Value}
theorem ok_web (D : Dn K mg "_law_web" s__law_web ["_law_feed_here", "_law_way", "_law_most"]) (B : Bn mg) (C__law_draw : Cl P w K mg base 1 "_law_draw" ["_law_feed_here", "_law_many"] spDraw)
    (C__law_mixed : Cl P w K mg base 2 "_law_mixed" ["_law_feed_here", "_law_things"] (spMixed K)) (C__law_names : Cl P w K mg base 3 "_law_names" ["_law_feed_here", "_law_many"] spNames) :
    Cl P w K mg base 4 "_law_web" ["_law_feed_here", "_law_way", "_law_most"] (spWebF K) := by
  refine D.cl sc__law_web (fun vs H Q E h => ?_) (fun f cdv A outer s H vs Q E hr h => ?_)
  · obtain ⟨a, way, most, c, rfl, _⟩ := h
    rfl
  · obtain ⟨a, way, most, c, rfl, hf, hm1, hm8, hc, q⟩ := h
    refine ⟨_, (pss_cons (ps_set (i := 3) sc__law_web.nd rfl (by first | exact Or.inl rfl | exact Or.inr rfl) (pe_ifExp (pt_cmpR op_eq (pv 1) pe_str (nomark _)) (pe_callB (j_max rfl) rfl B.max_ (by decide +kernel) (pa_cons pe_int (pa_cons (pe_op op_add pe_int (pe_c C__law_draw hr (pa_cons (pv 0) (pa_cons (pv 2) pa_nil)))) pa_nil))) (pe_op op_add pe_int (pe_c C__law_draw hr (pa_cons (pv 0) (pa_cons (pv 2) pa_nil))))))
      (pss_cons (ps_par (i := 4) (j := 5) rfl sc__law_web.nd rfl rfl (by decide) rfl rfl (pa_cons (pe_lst pa_nil) (pa_cons (pe_c C__law_draw hr (pa_cons (pv 0) (pa_cons pe_int pa_nil))) pa_nil)) (by rfl))
      (pss_cons (ps_for PassesOwn.never rfl (pi_range2 rfl B.range_ (pa_cons pe_int (pa_cons (pv 3) pa_nil))) (pg_name (i := 6) sc__law_web.nd rfl (by first | exact Or.inl rfl | exact Or.inr rfl)) (pss_cons (ps_set (i := 7) sc__law_web.nd rfl (by first | exact Or.inl rfl | exact Or.inr rfl) (pe_ifExp (PW.pt (pw_or (pt_cmpR op_eq (pv 5) pe_int (nomark _)) (pw_or1 (pt_cmpR op_eq (pv 1) pe_str (nomark _))))) (pe_op op_sub (pv 6) pe_int) (pe_ifExp (pt_cmpR op_eq (pv 5) pe_int (nomark _)) pe_int (pe_c C__law_draw hr (pa_cons (pv 0) (pa_cons (pv 6) pa_nil))))))
      (pss_one (ps_if (PW.pt (pw_or (pt_cmpR op_ne (pv 1) pe_str (nomark _)) (pw_or1 (pt_cmpR op_gt (pe_c C__law_draw hr (pa_cons (pv 0) (pa_cons pe_int pa_nil))) pe_int (nomark _))))) (pss_one (ps_expr (pe_bm PySem.F.plainAttrs_list PySem.F.slot_list_append PySem.F.type_list_append mt_append (pv 4) (pa_cons (pe_tup (pa_cons (pv 7) (pa_cons (pv 6) pa_nil))) pa_nil)))) pss_nil))))
      (pss_cons (ps_if (pt_cmpR op_eq (pv 1) pe_str (nomark _)) (pss_one (ps_expr (pe_bm PySem.F.plainAttrs_list PySem.F.slot_list_append PySem.F.type_list_append mt_append (pv 4) (pa_cons (pe_tup (pa_cons pe_int (pa_cons (pe_op op_sub (pv 3) pe_int) pa_nil))) pa_nil)))) pss_nil)
      (pss_cons (ps_for PassesOwn.never rfl (pi_range1 rfl B.range_ (pa_cons (pe_ifExp (PW.pt (pw_and (pt_cmpR (k_inS (K := K)) (pv 1) (pe_tup (pa_cons pe_str (pa_cons pe_str pa_nil))) (by rfl)) (pw_and1 (pt_cmpR op_gt (pv 3) pe_int (nomark _))))) (pe_c C__law_draw hr (pa_cons (pv 0) (pa_cons pe_int pa_nil))) pe_int) pa_nil)) (pg_name (i := 8) sc__law_web.nd rfl (by first | exact Or.inl rfl | exact Or.inr rfl)) (pss_cons (ps_set (i := 9) sc__law_web.nd rfl (by first | exact Or.inl rfl | exact Or.inr rfl) (pe_c C__law_draw hr (pa_cons (pv 0) (pa_cons (pv 3) pa_nil))))
      (pss_cons (ps_set (i := 10) sc__law_web.nd rfl (by first | exact Or.inl rfl | exact Or.inr rfl) (pe_op op_mod (pe_callTy (j_int) rfl B.int_ (by decide +kernel) (pa_cons (pe_op op_add (pe_op op_add (pv 9) pe_int) (pe_c C__law_draw hr (pa_cons (pv 0) (pa_cons (pe_op op_sub (pv 3) pe_int) pa_nil)))) pa_nil)) (pv 3)))
      (pss_cons (ps_set (i := 11) sc__law_web.nd rfl (by first | exact Or.inl rfl | exact Or.inr rfl) (pe_tup (pa_cons (pe_callB (j_min rfl) rfl B.min_ (by decide +kernel) (pa_cons (pv 9) (pa_cons (pv 10) pa_nil))) (pa_cons (pe_callB (j_max rfl) rfl B.max_ (by decide +kernel) (pa_cons (pv 9) (pa_cons (pv 10) pa_nil))) pa_nil))))
      (pss_one (ps_if (pt_cmpR (o_notInQ hr.units) (pv 11) (pv 4) (by rfl)) (pss_one (ps_expr (pe_bm PySem.F.plainAttrs_list PySem.F.slot_list_append PySem.F.type_list_append mt_append (pv 4) (pa_cons (pv 11) pa_nil)))) pss_nil))))))
      (pss_cons (ps_set (i := 12) sc__law_web.nd rfl (by first | exact Or.inl rfl | exact Or.inr rfl) (pe_c C__law_names hr (pa_cons (pv 0) (pa_cons (pv 3) pa_nil))))
      (pss_cons (ps_set (i := 13) sc__law_web.nd rfl (by first | exact Or.inl rfl | exact Or.inr rfl) (pe_lst pa_nil))
      (pss_cons (ps_for PassesOwn.never rfl (kpi_list (K := K) (pe_c C__law_mixed hr (pa_cons (pv 0) (pa_cons (pv 4) pa_nil)))) (kpg_tup (K := K) (n := 2) rfl (pgs_cons (pg_name (i := 9) sc__law_web.nd rfl (by first | exact Or.inl rfl | exact Or.inr rfl)) (pgs_cons (pg_name (i := 10) sc__law_web.nd rfl (by first | exact Or.inl rfl | exact Or.inr rfl)) pgs_nil))) (pss_one (ps_expr (pe_bm PySem.F.plainAttrs_list PySem.F.slot_list_append PySem.F.type_list_append mt_append (pv 13) (pa_cons (pe_ifExp (pt_cmpR op_eq (pe_c C__law_draw hr (pa_cons (pv 0) (pa_cons pe_int pa_nil))) pe_int (nomark _)) (pe_tup (pa_cons (pe_ix (k_ixL (K := K)) (pv 12) (pv 9) (fun _ _ => rfl)) (pa_cons (pe_ix (k_ixL (K := K)) (pv 12) (pv 10) (fun _ _ => rfl)) pa_nil))) (pe_tup (pa_cons (pe_ix (k_ixL (K := K)) (pv 12) (pv 10) (fun _ _ => rfl)) (pa_cons (pe_ix (k_ixL (K := K)) (pv 12) (pv 9) (fun _ _ => rfl)) pa_nil)))) pa_nil)))))
      (pss_one (ps_ret (pe_tup (pa_cons (pe_callTy (k_tupleF (K := K)) rfl B.tuple_ (by decide +kernel) (pa_cons (pe_c C__law_mixed hr (pa_cons (pv 0) (pa_cons (pv 12) pa_nil))) pa_nil)) (pa_cons (pe_callTy (k_tuple (K := K)) rfl B.tuple_ (by decide +kernel) (pa_cons (pv 13) pa_nil)) pa_nil))))))))))))), ?_⟩
    refine i_seq ?_
    refine i_asg ?_
    refine i_cut (fun v H' => ∃ n : Nat, v = .int n ∧ 1 ≤ n ∧ (n : Int) ≤ max 3 most ∧ (way = "ring" → 3 ≤ n) ∧ Fd H' a (c + 1) ∧ Ch a H H') (fun Q1 hQ1 => ?_) ?_
    · repeat' (walk_at "jv")
      · refine ⟨a, most, c, rfl, hf, by omega, by omega, by omega, fun r H1 r0 r1 f1 k1 => ?_⟩
        repeat' (walk_at "jv")
        obtain ⟨k, rfl⟩ := Int.eq_ofNat_of_zero_le r0
        exact hQ1 _ _ ⟨max 3 (1 + k), congrArg V.int (by omega), by omega, by omega, fun _ => by omega, f1, k1⟩
      · rename_i hw
        refine ⟨a, most, c, rfl, hf, by omega, by omega, by omega, fun r H1 r0 r1 f1 k1 => ?_⟩
        repeat' (walk_at "jv")
        obtain ⟨k, rfl⟩ := Int.eq_ofNat_of_zero_le r0
        exact hQ1 _ _ ⟨1 + k, congrArg V.int (by omega), by omega, by omega, fun z => absurd z hw, f1, k1⟩
    rintro v H1 ⟨n, rfl, n1, n3, nr, f1, k1⟩
    repeat' (walk_at "jv")
    intro L nL
    have nLa := f1.ne nL
    have nL0 : H L = none := k1.free nLa nL
    repeat' (walk_at "jv")
    refine ⟨a, 3, c + 1, rfl, by walk_at "jf", by omega, by omega, by omega, fun r H2 r0 r1 f2 k2 => ?_⟩
    have eL : H2 L = some (.lst []) := by walk_at "jl"
    have k20 : Ch a H H2 := by walk_at "jh"
    repeat' (walk_at "jv")
    -- the tree's roads
    let PL := fun (pl : List (Nat × Nat)) (t : Nat) => pl.Nodup ∧ (∀ p ∈ pl, p.1 < p.2 ∧ p.2 ≤ t ∧ (way = "ring" → p.2 = p.1 + 1)) ∧ pl.length ≤ t
    have grow : ∀ (pl : List (Nat × Nat)) (i b : Nat), PL pl i → b ≤ i → (way = "ring" → b = i) → PL (pl ++ [(b, i + 1)]) (i + 1) := by
      rintro pl i b ⟨p1, p2, p3⟩ b1 b2
      refine ⟨List.nodup_append.mpr ⟨p1, by simp, fun x hx y hy => ?_⟩, fun p hp => ?_, ?_⟩
      · rcases List.mem_singleton.mp hy with rfl
        intro z
        have := (p2 x hx).2.1
        rw [z] at this
        simp at this
        omega
      · rcases List.mem_append.mp hp with hp | hp
        · have := p2 p hp
          exact ⟨this.1, by omega, this.2.2⟩
        · rcases List.mem_singleton.mp hp with rfl
          exact ⟨by show b < i + 1; omega, Nat.le_refl _, fun z => by show i + 1 = b + 1; rw [b2 z]⟩
      · rw [List.length_append]
        show pl.length + 1 ≤ i + 1
        omega
    have stay : ∀ (pl : List (Nat × Nat)) (i : Nat), PL pl i → PL pl (i + 1) := by
      rintro pl i ⟨p1, p2, p3⟩
      exact ⟨p1, fun p hp => by have := p2 p hp; exact ⟨this.1, by omega, this.2.2⟩, by omega⟩
    refine f_range (fun i σ H' => ∃ y6 y7 pl, σ = [some (.ref a), some (.str way), some (.int most), some (.int n), some (.ref L), some (.int r), y6, y7, none, none, none, none, none, none] ∧ LsD K H' L (pl.map pairD) ∧ PL pl i ∧ Fd H' a (c + 2 + 2 * i) ∧ Ch a H H')
      ⟨none, none, [], rfl, LsD.nil eL, ⟨List.nodup_nil, fun _ z => absurd z List.not_mem_nil, Nat.le_refl _⟩, by simpa using f2.mono (by omega), k20⟩ (fun i σ H3 hi h => ?_) (fun σ H3 h => ?_)
    · obtain ⟨y6, y7, pl, rfl, l3, hp, f3, k3⟩ := h
      refine i_gname ?_
      refine i_seq ?_
      refine i_asg ?_
      refine i_cut (fun v H' => ∃ b : Nat, v = .int b ∧ b ≤ i ∧ (way = "ring" → b = i) ∧ Fd H' a (c + 2 + 2 * i + 1) ∧ Ch a H3 H') (fun Q1 hQ1 => ?_) ?_
      · repeat' (walk_at "jv")
        · exact hQ1 _ _ ⟨i, congrArg V.int (by omega), Nat.le_refl _, fun _ => rfl, f3.mono (by omega), Ch.refl _⟩
        · exact hQ1 _ _ ⟨i, congrArg V.int (by omega), Nat.le_refl _, fun _ => rfl, f3.mono (by omega), Ch.refl _⟩
        · rename_i hw _
          exact hQ1 _ _ ⟨0, rfl, Nat.zero_le _, fun z => absurd z hw, f3.mono (by omega), Ch.refl _⟩
        · rename_i hw _
          refine ⟨a, _, _, rfl, f3, by omega, by omega, by omega, fun r1 H4 s0 s1 f4 k4 => ?_⟩
          repeat' (walk_at "jv")
          obtain ⟨k, rfl⟩ := Int.eq_ofNat_of_zero_le s0
          exact hQ1 _ _ ⟨k, rfl, by omega, fun z => absurd z hw, f4, k4⟩
      rintro v H4 ⟨b, rfl, b1, b2, f4, k4⟩
      obtain ⟨vs, e4, d4, t4⟩ := l3.ch k4 f3 nLa
      have hlen : vs.length = pl.length := by rw [DpAll.len d4, List.length_map]
      have hpl := hp.2.2
      have e1 : (1 + (i : Int)) = ((i + 1 : Nat) : Int) := by omega
      rw [e1]
      repeat' (walk_at "jv")
      · intro p np
        repeat' (walk_at "jv")
        exact ⟨_, _, pl ++ [(b, i + 1)], rfl, by rw [List.map_append]; exact LsD.push2 e4 d4 t4 np (.int b) (.int (i + 1 : Nat)) rfl rfl, grow pl i b hp b1 b2, Fd.mono (c := c + 2 + 2 * i + 1) (by walk_at "jf") (by omega), by walk_at "jh"⟩
      · refine ⟨a, 5, _, rfl, f4, by omega, by omega, by omega, fun r1 H5 s0 s1 f5 k5 => ?_⟩
        obtain ⟨us, e5, d5, t5⟩ := LsD.ch ⟨vs, e4, d4, t4⟩ k5 f4 nLa
        have hlen5 : us.length = pl.length := by rw [DpAll.len d5, List.length_map]
        repeat' (walk_at "jv")
        · intro p np
          repeat' (walk_at "jv")
          exact ⟨_, _, pl ++ [(b, i + 1)], rfl, by rw [List.map_append]; exact LsD.push2 e5 d5 t5 np (.int b) (.int (i + 1 : Nat)) rfl rfl, grow pl i b hp b1 b2, Fd.mono (c := c + 2 + 2 * i + 1 + 1) (by walk_at "jf") (by omega), by walk_at "jh"⟩
        · exact ⟨_, _, pl, rfl, ⟨us, e5, d5, t5⟩, stay pl i hp, f5.mono (by omega), by walk_at "jh"⟩
    · obtain ⟨y6, y7, pl, rfl, l3, hp, f3, k3⟩ := h
      have hn1 : (((n : Int) - 1).toNat : Int) = n - 1 := by omega
      rw [hn1] at f3
      let PW := fun (pl : List (Nat × Nat)) => pl.Nodup ∧ (∀ p ∈ pl, p.1 < p.2 ∧ p.2 < n)
      refine i_seq ?_
      refine i_cutS (fun σ H' => ∃ ql, σ = [some (.ref a), some (.str way), some (.int most), some (.int n), some (.ref L), some (.int r), y6, y7, none, none, none, none, none, none] ∧ LsD K H' L (ql.map pairD) ∧ PW ql ∧ ql.length ≤ n ∧ Fd H' a (c + 20) ∧ Ch a H H') (fun N hN => ?_) ?_
      · obtain ⟨vs, e3, d3, t3⟩ := l3
        repeat' (walk_at "jv")
        · rename_i hw
          intro p np
          have hlen : vs.length = pl.length := by rw [DpAll.len d3, List.length_map]
          have hpl := hp.2.2
          have hn3 := nr hw
          have e1 : (n : Int) - 1 = ((n - 1 : Nat) : Int) := by omega
          rw [e1]
          repeat' (walk_at "jv")
          refine hN _ _ ⟨pl ++ [(0, n - 1)], rfl, by rw [List.map_append]; exact LsD.push2 e3 d3 t3 np (.int 0) (.int (n - 1 : Nat)) rfl rfl, ⟨?_, ?_⟩, ?_, Fd.mono (c := c + 2 + 2 * (n - 1)) (by walk_at "jf") (by omega), by walk_at "jh"⟩
          · refine List.nodup_append.mpr ⟨hp.1, by simp, fun x hx y hy => ?_⟩
            rcases List.mem_singleton.mp hy with rfl
            intro z
            have h9 := (hp.2.1 x hx).2.2 hw
            rw [z] at h9
            simp at h9
            omega
          · intro p hp'
            rcases List.mem_append.mp hp' with hp' | hp'
            · have := hp.2.1 p hp'
              exact ⟨this.1, by omega⟩
            · rcases List.mem_singleton.mp hp' with rfl
              exact ⟨by show 0 < n - 1; omega, by show n - 1 < n; omega⟩
          · rw [List.length_append]
            show pl.length + 1 ≤ n
            omega
        · exact hN _ _ ⟨pl, rfl, ⟨vs, e3, d3, t3⟩, ⟨hp.1, fun p hp' => ⟨(hp.2.1 p hp').1, by have := (hp.2.1 p hp').2.1; omega⟩⟩, by have := hp.2.2; omega, f3.mono (by omega), k3⟩
      rintro σ H4 ⟨ql, rfl, l4, hq, hq2, f4, k4⟩
      clear hp l3 f3 k3 pl
      refine i_seq ?_
      refine i_for ?_
      refine i_rng1 ?_
      refine i_cons ?_
      refine i_cut (fun v H' => ∃ t : Nat, v = .int t ∧ t ≤ 4 ∧ (0 < t → 2 < n) ∧ Fd H' a (c + 30) ∧ Ch a H H' ∧ LsD K H' L (ql.map pairD)) (fun Q1 hQ1 => ?_) ?_
      · refine i_if ?_
        repeat' (walk_at "js")
        repeat' (walk_at "jv")
        intro p np
        repeat' (walk_at "jv")
        refine i_inS (ns := ["whole", "any"]) (SqA.t (sq_tup upd_same)) ?_
        have l5 : LsD K (upd H4 p (.tup [.str "whole", .str "any"])) L (ql.map pairD) := l4.new np
        repeat' (walk_at "jv")
        · refine ⟨a, 5, c + 20, rfl, by walk_at "jf", by omega, by omega, by omega, fun r1 H5 s0 s1 f5 k5 => ?_⟩
          repeat' (walk_at "jv")
          obtain ⟨k, rfl⟩ := Int.eq_ofNat_of_zero_le s0
          exact hQ1 _ _ ⟨k, rfl, by omega, fun _ => by omega, f5.mono (by omega), by walk_at "jh", l5.ch (c := c + 20) k5 (by walk_at "jf") nLa⟩
        · exact hQ1 _ _ ⟨0, rfl, by omega, fun z => absurd z (Nat.lt_irrefl 0), Fd.mono (c := c + 20) (by walk_at "jf") (by omega), by walk_at "jh", l5⟩
        · exact hQ1 _ _ ⟨0, rfl, by omega, fun z => absurd z (Nat.lt_irrefl 0), Fd.mono (c := c + 20) (by walk_at "jf") (by omega), by walk_at "jh", l5⟩
      rintro v H5 ⟨t, rfl, t4, tn, f5, k5, l5⟩
      repeat' (walk_at "jv")
      refine f_range (fun i σ H' => ∃ y8 y9 y10 y11 pl, σ = [some (.ref a), some (.str way), some (.int most), some (.int n), some (.ref L), some (.int r), y6, y7, y8, y9, y10, y11, none, none] ∧ LsD K H' L (pl.map pairD) ∧ PW pl ∧ pl.length ≤ n + i ∧ Fd H' a (c + 30 + 2 * i) ∧ Ch a H H')
        ⟨none, none, none, none, ql, rfl, l5, hq, hq2, f5.mono (by omega), k5⟩ (fun i σ H6 hi h => ?_) (fun σ H6 h => ?_)
      · obtain ⟨y8, y9, y10, y11, pl, rfl, l6, hp, hp2, f6, k6⟩ := h
        have hn2 := tn (by omega)
        repeat' (walk_at "jv")
        refine ⟨a, n, _, rfl, f6, by omega, by omega, by omega, fun x H7 s0 s1 f7 k7 => ?_⟩
        repeat' (walk_at "jv")
        refine ⟨a, (n : Int) - 1, _, rfl, f7, by omega, by omega, by omega, fun y H8 u0 u1 f8 k8 => ?_⟩
        obtain ⟨x, rfl⟩ := Int.eq_ofNat_of_zero_le s0
        obtain ⟨y, rfl⟩ := Int.eq_ofNat_of_zero_le u0
        repeat' (walk_at "jv")
        have eo : ∃ o : Nat, ((x : Int) + 1 + y) % n = o ∧ o < n ∧ o ≠ x := by
          by_cases hz : x + 1 + y < n
          · exact ⟨x + 1 + y, by rw [Int.emod_eq_of_lt (by omega) (by omega)]; omega, hz, by omega⟩
          · refine ⟨x + 1 + y - n, ?_, by omega, by omega⟩
            rw [← Int.sub_emod_right, Int.emod_eq_of_lt (by omega) (by omega)]
            omega
        obtain ⟨o, eo, o1, o2⟩ := eo
        rw [eo]
        repeat' (walk_at "jv")
        intro p np
        obtain ⟨vs, e8, d8, t8⟩ := ((l6.ch k7 f6 nLa).ch k8 f7 nLa).new (o := .tup [.int (min (x : Int) o), .int (max (x : Int) o)]) np
        have hlen : vs.length = pl.length := by rw [DpAll.len d8, List.length_map]
        have em : (min (x : Int) o) = ((min x o : Nat) : Int) := by omega
        have eM : (max (x : Int) o) = ((max x o : Nat) : Int) := by omega
        have dp : Dp K (upd H8 p (.tup [.int (min (x : Int) o), .int (max (x : Int) o)])) (.ref p) (pairD (min x o, max x o)) := by
          rw [em, eM]
          exact .tup (xs := [.int ((min x o : Nat) : Int), .int ((max x o : Nat) : Int)]) (.inl (.inl upd_same)) (.cons (.int _) (.cons (.int _) .nil))
        repeat' (walk_at "jv")
        refine ⟨pairD (min x o, max x o), pl.map pairD, dp, .inl (.lst (sq_lst e8) d8), rfl, pairs_lay pl, by show 0 + 1 ≤ 60; decide, ?_⟩
        rw [if_pos rfl, pairs_any]
        repeat' (walk_at "jv")
        · rename_i hin
          refine ⟨_, _, _, _, pl ++ [(min x o, max x o)], rfl, by rw [List.map_append]; exact LsD.push e8 d8 t8 dp rfl, ⟨?_, ?_⟩, by rw [List.length_append]; show pl.length + 1 ≤ _; omega, Fd.mono (c := c + 30 + 2 * i + 1 + 1) (by walk_at "jf") (by omega), by walk_at "jh"⟩
          · refine List.nodup_append.mpr ⟨hp.1, by simp, fun z hz w hw => ?_⟩
            rcases List.mem_singleton.mp hw with rfl
            intro e
            rw [e] at hz
            exact hin hz
          · intro q hq'
            rcases List.mem_append.mp hq' with hq' | hq'
            · exact hp.2 q hq'
            · rcases List.mem_singleton.mp hq' with rfl
              exact ⟨by show min x o < max x o; omega, by show max x o < n; omega⟩
        · exact ⟨_, _, _, _, pl, rfl, ⟨vs, e8, d8, t8⟩, hp, by omega, Fd.mono (c := c + 30 + 2 * i + 1 + 1) (by walk_at "jf") (by omega), by walk_at "jh"⟩
      · obtain ⟨y8, y9, y10, y11, pl, rfl, l6, hp, hp2, f6, k6⟩ := h
        repeat' (walk_at "jv")
        have nt : (((t : Int).toNat : Nat) : Int) = t := by omega
        rw [nt] at f6
        refine ⟨a, n, _, rfl, f6, by omega, by omega, by omega, fun G ns H7 hns hl nG eG f7 k7 => ?_⟩
        have nGa := f6.ne nG
        have l7 := l6.ch k7 f6 nLa
        have nG0 : H G = none := k6.free nGa nG
        have k70 : Ch a H H7 := k6.trans k7
        repeat' (walk_at "jv")
        intro R nR
        have nRa : R ≠ a := f7.ne nR
        have nR0 : H R = none := k70.free nRa nR
        have nRG : R ≠ G := (ne_of_none eG nR).symm
        have nRL : R ≠ L := by
          obtain ⟨vs, e, _⟩ := l7
          exact (ne_of_none e nR).symm
        obtain ⟨vs, e8, d8, t8⟩ := l7.new (o := .lst []) nR
        have hlen : vs.length = pl.length := by rw [DpAll.len d8, List.length_map]
        repeat' (walk_at "jv")
        refine ⟨a, L, c + 30 + 2 * t + 1000, vs, rfl, by walk_at "jf", SqA.l (sq_lst e8), nLa, by omega, by omega, fun q9 ys H9 pm n9 e9 f9 k9 => ?_⟩
        obtain ⟨es, pe, dy⟩ := DpAll.perm pm d8
        obtain ⟨pl', pp, rfl⟩ := perm_map_inv pe rfl
        have n9a : q9 ≠ a := by walk_at "jn"
        have n9R : q9 ≠ R := by walk_at "jn"
        have dy9 : DpAll K H9 ys (pl'.map pairD) := DpAll.tk (TK.ch (c := c + 30 + 2 * t + 1000) k9 (by walk_at "jf")) _ _ (pairs_only pl') dy
        have eR9 : H9 R = some (.lst []) := by walk_at "jl"
        have eG9 : H9 G = some (.lst (ns.map V.str)) := by walk_at "jl"
        have k90 : Ch a H H9 := by walk_at "jh"
        have n90 : H q9 = none := Ch.free (a := a) (H := H) (H' := upd H7 R (.lst [])) (by walk_at "jh") n9a n9
        have hpl' : pl'.length = pl.length := pp.length_eq
        have hys : ys.length = pl'.length := by rw [DpAll.len dy9, List.length_map]
        have ltn : ∀ p ∈ pl', p.1 < p.2 ∧ p.2 < n := fun p hp' => hp.2 p (pp.mem_iff.mp hp')
        repeat' (walk_at "jv")
        refine f_list ys (fun i σ H' => ∃ y9 y10 rs, σ = [some (.ref a), some (.str way), some (.int most), some (.int n), some (.ref L), some (.int r), y6, y7, y8, y9, y10, y11, some (.ref G), some (.ref R)] ∧ H' q9 = some (.lst ys) ∧ DpAll K H' ys (pl'.map pairD) ∧ H' G = some (.lst (ns.map V.str)) ∧
            LsD K H' R (rs.map roadD) ∧ rs.length = i ∧ (∀ (k : Nat) p x, pl'[k]? = some p → rs[k]? = some x → RoadOf ns p x) ∧ Fd H' a (c + 3000 + 2 * i) ∧ Ch a H H')
          ⟨_, _, [], rfl, e9, dy9, eG9, LsD.nil eR9, rfl, fun k p x _ z => by simp at z, f9.mono (by omega), k90⟩ (fun i σ H' _ h => ?_) (fun i x σ H' hx h => ?_) (fun σ H' h => ?_)
        · obtain ⟨_, _, _, _, h1, _⟩ := h
          exact sq_lst h1
        · obtain ⟨y9, y10, rs, rfl, h1, h2, h3, h4, h5, h6, h7, h8⟩ := h
          obtain ⟨d, hd, dx⟩ := DpAll.get h2 hx
          have hi : i < ys.length := (List.getElem?_eq_some_iff.mp hx).1
          have hip : i < pl'.length := by omega
          rw [List.getElem?_map, List.getElem?_eq_getElem hip] at hd
          have hd' : pairD pl'[i] = d := Option.some.inj hd
          subst hd'
          obtain ⟨p1, p2⟩ := ltn pl'[i] (List.getElem_mem hip)
          have ats : ∀ k, k < n → ∃ z, ns[k]? = some z ∧ atI (ns.map V.str) (k : Int) = some (.str z) := fun k hk => by
            have hk' : k < ns.length := by omega
            exact ⟨ns[k], List.getElem?_eq_getElem hk', atI_nat (by rw [List.getElem?_map, List.getElem?_eq_getElem hk']; rfl)⟩
          obtain ⟨z1, a1, b1⟩ := ats pl'[i].1 (by omega)
          obtain ⟨z2, a2, b2⟩ := ats pl'[i].2 (by omega)
          cases dx with
          | tup hs ha =>
            rename_i b xs
            cases ha with
            | cons g1 g2 =>
              cases g1
              cases g2 with
              | cons g3 g4 =>
                cases g3
                cases g4
                refine ⟨b, _, rfl, hs, rfl, _, _, rfl, ?_⟩
                refine i_gname ?_
                refine ⟨_, _, rfl, ?_⟩
                refine i_gname ?_
                refine ⟨rfl, ?_⟩
                refine i_drop ?_
                refine i_bm ?_
                refine i_var rfl ?_
                obtain ⟨ws, ew, dw, tw⟩ := h4
                have hws : ws.length = rs.length := by rw [DpAll.len dw, List.length_map]
                refine i_tyL (sq_lst ew) ?_
                refine i_cons ?_
                have push : ∀ (H5 : Hp) (p : Addr) (x : Str × Str), RoadOf ns pl'[i] x → H5 p = none → Ch a H' H5 → Fd H5 a (c + 3000 + 2 * i + 1) →
                    ∃ (y9 y10 : Option V) (rs : List (Str × Str)), ([some (.ref a), some (.str way), some (.int most), some (.int n), some (.ref L), some (.int r), y6, y7, y8, some (.int pl'[i].1), some (.int pl'[i].2), y11, some (.ref G), some (.ref R)] : L2.St) = [some (.ref a), some (.str way), some (.int most), some (.int n), some (.ref L), some (.int r), y6, y7, y8, y9, y10, y11, some (.ref G), some (.ref R)] ∧
                      (upd (upd H5 p (.tup [.str x.1, .str x.2])) R (.lst (ws ++ [.ref p]))) q9 = some (.lst ys) ∧ DpAll K (upd (upd H5 p (.tup [.str x.1, .str x.2])) R (.lst (ws ++ [.ref p]))) ys (pl'.map pairD) ∧ (upd (upd H5 p (.tup [.str x.1, .str x.2])) R (.lst (ws ++ [.ref p]))) G = some (.lst (ns.map V.str)) ∧
                      LsD K (upd (upd H5 p (.tup [.str x.1, .str x.2])) R (.lst (ws ++ [.ref p]))) R (rs.map roadD) ∧ rs.length = i + 1 ∧ (∀ (k : Nat) p x, pl'[k]? = some p → rs[k]? = some x → RoadOf ns p x) ∧ Fd (upd (upd H5 p (.tup [.str x.1, .str x.2])) R (.lst (ws ++ [.ref p]))) a (c + 3000 + 2 * (i + 1 : Nat)) ∧ Ch a H (upd (upd H5 p (.tup [.str x.1, .str x.2])) R (.lst (ws ++ [.ref p]))) := by
                  intro H5 p x rx np k5 f5
                  have e5R : H5 R = some (.lst ws) := k5 R _ nRa ew
                  have e59 : H5 q9 = some (.lst ys) := k5 q9 _ n9a h1
                  have e5G : H5 G = some (.lst (ns.map V.str)) := k5 G _ nGa h3
                  have t5 : TK K H' H5 := TK.ch k5 h7
                  have d5w := DpAll.tk t5 _ _ tw dw
                  have npR : R ≠ p := ne_of_none e5R np
                  have np9 : q9 ≠ p := ne_of_none e59 np
                  have npG : G ≠ p := ne_of_none e5G np
                  refine ⟨_, _, rs ++ [x], rfl, ?_, ?_, ?_, by rw [List.map_append]; exact LsD.push2 e5R d5w tw np (.str x.1) (.str x.2) rfl rfl, by rw [List.length_append, h5]; rfl, ?_, ?_, ?_⟩
                  · rw [upd_ne n9R, upd_ne np9]
                    exact e59
                  · exact DpAll.tk ((t5.trans (TK.new np)).trans (TK.lst (xs := ws) (by rw [upd_ne npR]; exact e5R))) _ _ (pairs_only pl') h2
                  · rw [upd_ne nRG.symm, upd_ne npG]
                    exact e5G
                  · intro k p' x' hp' hx'
                    by_cases hk : k < rs.length
                    · rw [List.getElem?_append_left hk] at hx'
                      exact h6 k p' x' hp' hx'
                    · rw [List.getElem?_append_right (by omega)] at hx'
                      have hk0 : k - rs.length = 0 := by
                        cases z : k - rs.length with
                        | zero => rfl
                        | succ m => rw [z] at hx'; simp at hx'
                      rw [hk0] at hx'
                      have hxx : x = x' := by simpa using hx'
                      subst hxx
                      have hki : k = i := by omega
                      subst hki
                      rw [List.getElem?_eq_getElem hip] at hp'
                      have := Option.some.inj hp'
                      subst this
                      exact rx
                  · have := ((f5.upd (q := p) (o := .tup [.str x.1, .str x.2]) (Ne.symm (f5.ne np))).upd (q := R) (o := .lst (ws ++ [.ref p])) (Ne.symm nRa)).mono (d := c + 3000 + 2 * (i + 1 : Nat)) (by omega)
                    exact this
                  · exact ((h8.trans k5).upd_n np).upd_l nR0
                refine i_if ?_
                repeat' (walk_at "js")
                repeat' (walk_at "jv")
                refine ⟨a, 2, _, rfl, h7, by omega, by omega, by omega, fun rr H5 s0 s1 f5 k5 => ?_⟩
                have e5R : H5 R = some (.lst ws) := k5 R _ nRa ew
                have e5G : H5 G = some (.lst (ns.map V.str)) := k5 G _ nGa h3
                repeat' (walk_at "jv")
                · intro p np
                  have npR : R ≠ p := ne_of_none e5R np
                  repeat' (walk_at "jv")
                  exact push H5 p (z1, z2) (.inl ⟨a1, a2⟩) np k5 f5
                · intro p np
                  have npR : R ≠ p := ne_of_none e5R np
                  repeat' (walk_at "jv")
                  exact push H5 p (z2, z1) (.inr ⟨a1, a2⟩) np k5 f5
        · obtain ⟨y9, y10, rs, rfl, h1, h2, h3, h4, h5, h6, h7, h8⟩ := h
          repeat' (walk_at "jv")
          refine ⟨a, G, _, ns.map V.str, rfl, h7, SqA.l (sq_lst h3), nGa, by rw [List.length_map]; omega, by omega, fun W zs HA pz nW eW fA kA => ?_⟩
          obtain ⟨ws, ew, dw, tw⟩ := h4.ch kA h7 nRa
          have hwl : ws.length = rs.length := by rw [DpAll.len dw, List.length_map]
          have kA0 : Ch a H HA := h8.trans kA
          obtain ⟨es, pe2, dz⟩ := DpAll.perm pz (DpAll.strs (K := K) (H := HA) ns)
          obtain ⟨ps, pps, rfl⟩ := perm_map_inv pe2 rfl
          have ez := DpAll.strs_inv dz
          subst ez
          repeat' (walk_at "jv")
          refine ⟨W, ps.map V.str, rfl, sq_lst eW, fun T1 ob nT1 okb => ?_⟩
          repeat' (walk_at "jv")
          intro T2 nT2
          refine i_nil ?_
          refine i_al (by show 2 ≤ sizeLine; decide) ?_
          intro T3 nT3
          have c1 : TK K HA (upd HA T1 (.frz ob (.tup (ps.map V.str)))) := TK.new nT1
          have c2 : TK K (upd HA T1 (.frz ob (.tup (ps.map V.str)))) (upd (upd HA T1 (.frz ob (.tup (ps.map V.str)))) T2 (.tup ws)) := TK.new nT2
          have c3 : TK K (upd (upd HA T1 (.frz ob (.tup (ps.map V.str)))) T2 (.tup ws)) (upd (upd (upd HA T1 (.frz ob (.tup (ps.map V.str)))) T2 (.tup ws)) T3 (.tup [.ref T1, .ref T2])) := TK.new nT3
          have fT1 : FT (upd HA T1 (.frz ob (.tup (ps.map V.str)))) T1 (ps.map V.str) := FT.new okb
          refine q _ ps rs _ (web_of hns pps (by omega) (by omega) (pp.nodup_iff.mpr hp.1) (fun p hp' => (ltn p hp').1) (by omega) (by omega) h6) (by rw [pps.length_eq]; omega) ?_ ?_ ?_
          · refine ⟨T3, T1, T2, rfl, .inl (.inl upd_same), (fT1.same (Same.upd_new nT2)).same (Same.upd_new nT3), ?_⟩
            exact Dp.tk c3 _ _ (roads_only rs) (.tup (xs := ws) (.inl (.inl upd_same)) (DpAll.tk (c1.trans c2) _ _ tw dw))
          · have g1 := fA.upd (q := T1) (o := .frz ob (.tup (ps.map V.str))) (Ne.symm (fA.ne nT1))
            have g2 := g1.upd (q := T2) (o := .tup ws) (Ne.symm (g1.ne nT2))
            exact (g2.upd (Ne.symm (g2.ne nT3))).mono (by omega)
          · exact ((kA0.upd_n nT1).upd_n nT2).upd_n nT3
end
end
section
open L2 PySem PySem.Spec PyProof.Rows
abbrev s__law_neighbours : Stmt := topS 36
theorem sc__law_neighbours : FnScope ["_law_web_here", "_law_place", "_law_got", "_law_other"] ["_law_web_here", "_law_place"] (defScope s__law_neighbours) := ⟨rfl, rfl, rfl, by decide +kernel, rfl, by decide +kernel, by decide +kernel⟩
section
variable {base : Heap} {P : Program} {w : World} {K : PySem.W.Frag} {mg : Str → Option Value}
theorem ok_near (D : Dn K mg "_law_neighbours" s__law_neighbours ["_law_web_here", "_law_place"]) (B : Bn mg) : Cl P w K mg base 1 "_law_neighbours" ["_law_web_here", "_law_place"] (spNear K) := by
  refine D.cl sc__law_neighbours (fun vs H Q E h => ?_) (fun f cdv A outer s H vs Q E hr h => ?_)
  · obtain ⟨v, x, ps, rs, rfl, _⟩ := h
    rfl
  · obtain ⟨v, x, ps, rs, rfl, hd, hW, hx, q⟩ := h
    obtain ⟨t, tp, tr, xs, rfl, s1, s2, s3, d3, dr, dpl⟩ := web_parts hd
    refine ⟨_, (pss_cons (ps_set (i := 2) sc__law_neighbours.nd rfl (by first | exact Or.inl rfl | exact Or.inr rfl) (pe_lst pa_nil))
      (pss_cons (ps_for PassesOwn.never rfl (kpi_tup (K := K) (pe_ix ix_tup (pv 0) pe_int (fun _ _ => rfl))) (pg_name (i := 3) sc__law_neighbours.nd rfl (by first | exact Or.inl rfl | exact Or.inr rfl)) (pss_one (ps_if (PW.pt (pw_or (pt_cmpR (o_inQ hr.units) (pe_tup (pa_cons (pv 1) (pa_cons (pv 3) pa_nil))) (pe_ix ix_tup (pv 0) pe_int (fun _ _ => rfl)) (by rfl)) (pw_or1 (pt_cmpR (o_inQ hr.units) (pe_tup (pa_cons (pv 3) (pa_cons (pv 1) pa_nil))) (pe_ix ix_tup (pv 0) pe_int (fun _ _ => rfl)) (by rfl))))) (pss_one (ps_expr (pe_bm PySem.F.plainAttrs_list PySem.F.slot_list_append PySem.F.type_list_append mt_append (pv 2) (pa_cons (pv 3) pa_nil)))) pss_nil)))
      (pss_one (ps_ret (pv 2))))), ?_⟩
    repeat' (walk_at "jv")
    intro L nL
    have sm : Same H (upd H L (.lst [])) := Same.upd_new nL
    have s1' := TK.same (K := K) sm _ _ s1
    have s2' := TK.same (K := K) sm _ _ s2
    repeat' (walk_at "jv")
    refine f_tup (ps.map V.str) (fun i σ H' => ∃ y3, σ = [some (.ref t), some (.str x), some (.ref L), y3] ∧ Same H H' ∧ H' L = some (.lst (((ps.take i).filter fun y => isRoad rs x y).map V.str))) ⟨none, rfl, sm, upd_same⟩ (fun i σ H' _ h => ?_) (fun i y σ H' hy h => ?_) (fun σ H' h => ?_)
    · obtain ⟨_, _, k, _⟩ := h
      exact TK.same k _ _ s2
    · obtain ⟨y3, rfl, k, e⟩ := h
      have hi : i < ps.length := by
        have := (List.getElem?_eq_some_iff.mp hy).1
        rwa [List.length_map] at this
      rw [List.getElem?_map, List.getElem?_eq_getElem hi] at hy
      obtain rfl : V.str ps[i] = y := Option.some.inj hy
      have hmem : ps[i] ∈ ps := List.getElem_mem hi
      have s1k := TK.same (K := K) k _ _ s1
      have drk := Dp.same (K := K) k _ _ dr
      have h8 := hW.le8
      have hl : (((ps.take i).filter fun y => isRoad rs x y).map V.str).length < sizeLine := by
        rw [List.length_map, sizeLine_eq]
        have := List.length_filter_le (fun y => isRoad rs x y) (ps.take i)
        rw [List.length_take] at this
        omega
      have et : ((ps.take (i + 1)).filter fun y => isRoad rs x y) = ((ps.take i).filter fun y => isRoad rs x y) ++ (if isRoad rs x ps[i] = true then [ps[i]] else []) := by
        rw [List.take_add_one, List.getElem?_eq_getElem hi, List.filter_append]
        show _ ++ List.filter (fun y => isRoad rs x y) [ps[i]] = _
        by_cases h : isRoad rs x ps[i] = true
        · simp [h]
        · simp [h]
      repeat' (walk_at "jv")
      intro p np
      have npL : L ≠ p := ne_of_none e np
      have sp := Same.upd_new (o := .tup [.str x, .str ps[i]]) np
      have s1p := TK.same (K := K) sp _ _ s1k
      repeat' (walk_at "jv")
      refine ⟨roadD (x, ps[i]), rs.map roadD, .tup (xs := [.str x, .str ps[i]]) (.inl (.inl upd_same)) (.cons (.str _) (.cons (.str _) .nil)), .inr (Dp.same sp _ _ drk), road_lay (hW.names.2 _ hx) (hW.names.2 _ hmem), roads_lay hW, by show 0 + 1 ≤ 60; decide, ?_⟩
      rw [if_neg (by decide), roads_any]
      repeat' (walk_at "jv")
      · rename_i h1
        have er : isRoad rs x ps[i] = true := by simp [isRoad, h1]
        rw [if_pos er] at et
        refine ⟨_, rfl, fun b o z => ?_, ?_⟩
        · have := sp _ _ (k _ _ z)
          rw [upd_ne (fun w => by rw [w, nL] at z; cases z)]
          exact this
        · rw [upd_same, et, List.map_append]
          rfl
      · rename_i h1
        intro p2 np2
        have npL2 : L ≠ p2 := ne_of_none ((upd_ne npL).trans e) np2
        have sp2 := Same.upd_new (o := .tup [.str ps[i], .str x]) np2
        have s1q := TK.same (K := K) sp2 _ _ s1p
        repeat' (walk_at "jv")
        refine ⟨roadD (ps[i], x), rs.map roadD, .tup (xs := [.str ps[i], .str x]) (.inl (.inl upd_same)) (.cons (.str _) (.cons (.str _) .nil)), .inr (Dp.same sp2 _ _ (Dp.same sp _ _ drk)), road_lay (hW.names.2 _ hmem) (hW.names.2 _ hx), roads_lay hW, by show 0 + 1 ≤ 60; decide, ?_⟩
        rw [if_neg (by decide), roads_any]
        have e2 : (upd (upd H' p (.tup [.str x, .str ps[i]])) p2 (.tup [.str ps[i], .str x])) L = some (.lst (((ps.take i).filter fun y => isRoad rs x y).map V.str)) := (upd_ne npL2).trans ((upd_ne npL).trans e)
        repeat' (walk_at "jv")
        · rename_i h2
          have er : isRoad rs x ps[i] = true := by simp [isRoad, h2]
          rw [if_pos er] at et
          refine ⟨_, rfl, fun b o z => ?_, ?_⟩
          · have := sp2 _ _ (sp _ _ (k _ _ z))
            rw [upd_ne (fun w => by rw [w, nL] at z; cases z)]
            exact this
          · rw [upd_same, et, List.map_append]
            rfl
        · rename_i h2
          have er : ¬ isRoad rs x ps[i] = true := by simp [isRoad, h1, h2]
          rw [if_neg er, List.append_nil] at et
          refine ⟨_, rfl, fun b o z => sp2 _ _ (sp _ _ (k _ _ z)), ?_⟩
          rw [et]
          exact e2
    · obtain ⟨y3, rfl, k, e⟩ := h
      repeat' (walk_at "jv")
      rw [List.length_map, List.take_length] at e
      exact q L H' nL k e
end
end
section
open L2 PySem PySem.Spec PyProof.Rows
abbrev s__law_rule : Stmt := topS 37
theorem sc__law_rule : FnScope ["_law_feed_here", "_law_k", "_law_others", "_law_sort", "_law_way", "_law_many", "_law_other", "_law_turn", "_law_rows", "_law_cells", "_law_own", "_law_row"] ["_law_feed_here", "_law_k", "_law_others", "_law_sort"] (defScope s__law_rule) := ⟨rfl, rfl, rfl, by decide +kernel, rfl, by decide +kernel, by decide +kernel⟩
section
variable {base : Heap} {P : Program} {w : World} {K : PySem.W.Frag} {mg : Str → Option Value}
theorem ok_rule (D : Dn K mg "_law_rule" s__law_rule ["_law_feed_here", "_law_k", "_law_others", "_law_sort"]) (B : Bn mg) (C__law_draw : Cl P w K mg base 1 "_law_draw" ["_law_feed_here", "_law_many"] spDraw)
    (C__law_mixed : Cl P w K mg base 2 "_law_mixed" ["_law_feed_here", "_law_things"] (spMixed K)) (C__law_one : Cl P w K mg base 2 "_law_one" ["_law_feed_here", "_law_things"] (spOne K)) :
    Cl P w K mg base 4 "_law_rule" ["_law_feed_here", "_law_k", "_law_others", "_law_sort"] (spRule K) := by
  refine D.cl sc__law_rule (fun vs H Q E h => ?_) (fun f cdv A outer s H vs Q E hr h => ?_)
  · obtain ⟨a, p, k, near, sort, c, rfl, _⟩ := h
    rfl
  · obtain ⟨a, p, k, near, sort, c, rfl, hf, hk, hp, hpa, hn7, hnm, hc, q⟩ := h
    refine ⟨_, (pss_cons (ps_if (pt_cmpR op_eq (pv 3) pe_str (nomark _)) (pss_one (ps_ret (pe_tup (pa_cons pe_str (pa_cons (pe_ifExp (pt_cmpR op_eq (pe_c C__law_draw hr (pa_cons (pv 0) (pa_cons pe_int pa_nil))) pe_int (nomark _)) (pe_c C__law_draw hr (pa_cons (pv 0) (pa_cons (pe_op op_add (pe_callB (k_len (K := K)) rfl B.len_ (by decide +kernel) (pa_cons (pv 2) pa_nil)) pe_int) pa_nil))) (pe_c C__law_draw hr (pa_cons (pv 0) (pa_cons pe_int pa_nil)))) pa_nil))))) pss_nil)
      (pss_cons (ps_if (pt_cmpR op_eq (pv 3) pe_str (nomark _)) (pss_cons (ps_set (i := 4) sc__law_rule.nd rfl (by first | exact Or.inl rfl | exact Or.inr rfl) (pe_c C__law_draw hr (pa_cons (pv 0) (pa_cons pe_int pa_nil))))
      (pss_one (ps_ret (pe_ifExp (pt_cmpR op_eq (pv 4) pe_int (nomark _)) (pe_tup (pa_cons pe_str pa_nil)) (pe_ifExp (PW.pt (pw_and (pt_cmpR op_eq (pv 4) pe_int (nomark _)) (pw_and1 (pt_cmpR (k_neD (K := K) hr.units) (pv 2) (pe_lst pa_nil) (nomark _))))) (pe_tup (pa_cons pe_str (pa_cons (pe_c C__law_one hr (pa_cons (pv 0) (pa_cons (pv 2) pa_nil))) pa_nil))) (pe_tup (pa_cons pe_str pa_nil))))))) pss_nil)
      (pss_cons (ps_set (i := 5) sc__law_rule.nd rfl (by first | exact Or.inl rfl | exact Or.inr rfl) pe_int)
      (pss_cons (ps_for PassesOwn.never rfl (kpi_list (K := K) (pv 2)) (pg_name (i := 6) sc__law_rule.nd rfl (by first | exact Or.inl rfl | exact Or.inr rfl)) (pss_one (ps_set (i := 5) sc__law_rule.nd rfl (by first | exact Or.inl rfl | exact Or.inr rfl) (pe_op op_mul (pv 5) (pv 1)))))
      (pss_cons (ps_if (pt_cmpR op_eq (pv 3) pe_str (nomark _)) (pss_cons (ps_set (i := 4) sc__law_rule.nd rfl (by first | exact Or.inl rfl | exact Or.inr rfl) (pe_c C__law_draw hr (pa_cons (pv 0) (pa_cons pe_int pa_nil))))
      (pss_cons (ps_if (pt_cmpR op_lt (pv 4) pe_int (nomark _)) (pss_one (ps_ret (pe_ix (k_ixL (K := K)) (pe_lst (pa_cons (pe_tup (pa_cons pe_str pa_nil)) (pa_cons (pe_tup (pa_cons pe_str pa_nil)) (pa_cons (pe_ifExp (pt_cmpR (k_eqD (K := K) hr.units) (pv 2) (pe_lst pa_nil) (nomark _)) (pe_tup (pa_cons pe_str pa_nil)) (pe_tup (pa_cons pe_str pa_nil))) pa_nil)))) (pv 4) (fun _ _ => rfl)))) pss_nil)
      (pss_cons (ps_if (pt_cmpR op_eq (pv 4) pe_int (nomark _)) (pss_cons (ps_set (i := 8) sc__law_rule.nd rfl (by first | exact Or.inl rfl | exact Or.inr rfl) (pe_lc (own := [("_law_turn", 7)]) rfl sc__law_rule.nd (pi_range1 rfl B.range_ (pa_cons (pe_op op_add (pe_op op_mul (pe_callB (k_len (K := K)) rfl B.len_ (by decide +kernel) (pa_cons (pv 2) pa_nil)) (pe_op op_sub (pv 1) pe_int)) pe_int) pa_nil)) (blkOk_by (N := ["_law_feed_here", "_law_k", "_law_others", "_law_sort", "_law_way", "_law_many", "_law_other", "_law_turn", "_law_rows", "_law_cells", "_law_own", "_law_row"]) (sc := defScope s__law_rule) (by decide +kernel)) (fun _ _ _ _ _ => (pg_name (i := 7) sc__law_rule.nd rfl (by first | exact Or.inl rfl | exact Or.inr rfl))) (fun _ _ _ _ _ => pts_nil) (fun _ _ _ _ _ => (pe_c C__law_mixed hr (pa_cons (pv 0) (pa_cons (pe_listRg rfl rfl B.list_ (prg_1 rfl B.range_ (pv 1))) pa_nil))))))
      (pss_one (ps_ret (pe_tup (pa_cons pe_str (pa_cons (pe_callTy (k_tuple (K := K)) rfl B.tuple_ (by decide +kernel) (pa_cons (pe_lc (own := [("_law_own", 10)]) rfl sc__law_rule.nd (pi_range1 rfl B.range_ (pa_cons (pv 1) pa_nil)) (blkOk_by (N := ["_law_feed_here", "_law_k", "_law_others", "_law_sort", "_law_way", "_law_many", "_law_other", "_law_turn", "_law_rows", "_law_cells", "_law_own", "_law_row"]) (sc := defScope s__law_rule) (by decide +kernel)) (fun _ _ _ _ _ => (pg_name (i := 10) sc__law_rule.nd rfl (by first | exact Or.inl rfl | exact Or.inr rfl))) (fun _ _ _ _ _ => pts_nil) (fun _ _ _ _ _ => (pe_callTy (k_tuple (K := K)) rfl B.tuple_ (by decide +kernel) (pa_cons (pe_lc (own := [("_law_row", 11)]) rfl sc__law_rule.nd (kpi_list (K := K) (pv 8)) (blkOk_by (by rfl)) (fun _ _ _ _ _ => (pg_name (i := 11) sc__law_rule.nd rfl (by first | exact Or.inl rfl | exact Or.inr rfl))) (fun _ _ _ _ _ => pts_nil) (fun _ _ _ _ _ => (pe_ix (k_ixL (K := K)) (pv 11) (pv 10) (fun _ _ => rfl)))) pa_nil)))) pa_nil)) pa_nil)))))) pss_nil)
      (pss_cons (ps_set (i := 9) sc__law_rule.nd rfl (by first | exact Or.inl rfl | exact Or.inr rfl) (pe_lst pa_nil))
      (pss_cons (ps_for PassesOwn.never rfl (pi_range1 rfl B.range_ (pa_cons (pv 5) pa_nil)) (pg_name (i := 7) sc__law_rule.nd rfl (by first | exact Or.inl rfl | exact Or.inr rfl)) (pss_one (ps_expr (pe_bm PySem.F.plainAttrs_list PySem.F.slot_list_extend PySem.F.type_list_extend mt_extend (pv 9) (pa_cons (pe_c C__law_mixed hr (pa_cons (pv 0) (pa_cons (pe_listRg rfl rfl B.list_ (prg_1 rfl B.range_ (pv 1))) pa_nil))) pa_nil)))))
      (pss_one (ps_ret (pe_tup (pa_cons pe_str (pa_cons (pe_callTy (k_tuple (K := K)) rfl B.tuple_ (by decide +kernel) (pa_cons (pv 9) pa_nil)) pa_nil)))))))))) pss_nil)
      (pss_cons (ps_set (i := 4) sc__law_rule.nd rfl (by first | exact Or.inl rfl | exact Or.inr rfl) (pe_c C__law_draw hr (pa_cons (pv 0) (pa_cons pe_int pa_nil))))
      (pss_cons (ps_if (pt_cmpR op_lt (pv 4) pe_int (nomark _)) (pss_one (ps_ret (pe_tup (pa_cons pe_str (pa_cons (pe_callTy (k_tuple (K := K)) rfl B.tuple_ (by decide +kernel) (pa_cons (pe_lc (own := [("_law_turn", 7)]) rfl sc__law_rule.nd (pi_range1 rfl B.range_ (pa_cons (pe_op op_mul (pv 5) (pv 1)) pa_nil)) (blkOk_by (N := ["_law_feed_here", "_law_k", "_law_others", "_law_sort", "_law_way", "_law_many", "_law_other", "_law_turn", "_law_rows", "_law_cells", "_law_own", "_law_row"]) (sc := defScope s__law_rule) (by decide +kernel)) (fun _ _ _ _ _ => (pg_name (i := 7) sc__law_rule.nd rfl (by first | exact Or.inl rfl | exact Or.inr rfl))) (fun _ _ _ _ _ => pts_nil) (fun _ _ _ _ _ => (pe_c C__law_draw hr (pa_cons (pv 0) (pa_cons (pv 1) pa_nil))))) pa_nil)) pa_nil))))) pss_nil)
      (pss_cons (ps_if (pt_cmpR op_eq (pv 4) pe_int (nomark _)) (pss_one (ps_ret (pe_tup (pa_cons pe_str (pa_cons (pe_callTy (k_tuple (K := K)) rfl B.tuple_ (by decide +kernel) (pa_cons (pe_lc (own := [("_law_own", 10)]) rfl sc__law_rule.nd (pi_range1 rfl B.range_ (pa_cons (pv 1) pa_nil)) (blkOk_by (N := ["_law_feed_here", "_law_k", "_law_others", "_law_sort", "_law_way", "_law_many", "_law_other", "_law_turn", "_law_rows", "_law_cells", "_law_own", "_law_row"]) (sc := defScope s__law_rule) (by decide +kernel)) (fun _ _ _ _ _ => (pg_name (i := 10) sc__law_rule.nd rfl (by first | exact Or.inl rfl | exact Or.inr rfl))) (fun _ _ _ _ _ => pts_nil) (fun _ _ _ _ _ => (pe_callTy (k_tuple (K := K)) rfl B.tuple_ (by decide +kernel) (pa_cons (pe_lc (own := [("_law_turn", 7)]) rfl sc__law_rule.nd (pi_range1 rfl B.range_ (pa_cons (pe_op op_add (pe_op op_mul (pe_callB (k_len (K := K)) rfl B.len_ (by decide +kernel) (pa_cons (pv 2) pa_nil)) (pe_op op_sub (pv 1) pe_int)) pe_int) pa_nil)) (blkOk_by (by rfl)) (fun _ _ _ _ _ => (pg_name (i := 7) sc__law_rule.nd rfl (by first | exact Or.inl rfl | exact Or.inr rfl))) (fun _ _ _ _ _ => pts_nil) (fun _ _ _ _ _ => (pe_c C__law_draw hr (pa_cons (pv 0) (pa_cons (pv 1) pa_nil))))) pa_nil)))) pa_nil)) pa_nil))))) pss_nil)
      (pss_cons (ps_if (PW.pt (pw_and (pt_cmpR op_eq (pv 4) pe_int (nomark _)) (pw_and1 (pt_cmpR (k_neD (K := K) hr.units) (pv 2) (pe_lst pa_nil) (nomark _))))) (pss_one (ps_ret (pe_tup (pa_cons pe_str (pa_cons (pe_c C__law_one hr (pa_cons (pv 0) (pa_cons (pv 2) pa_nil))) pa_nil))))) pss_nil)
      (pss_one (ps_ret (pe_ix (k_ixL (K := K)) (pe_lst (pa_cons (pe_tup (pa_cons pe_str pa_nil)) (pa_cons (pe_tup (pa_cons pe_str pa_nil)) (pa_cons (pe_tup (pa_cons pe_str pa_nil)) (pa_cons (pe_tup (pa_cons pe_str pa_nil)) (pa_cons (pe_tup (pa_cons pe_str (pa_cons (pe_c C__law_draw hr (pa_cons (pv 0) (pa_cons pe_int pa_nil))) pa_nil))) (pa_cons (pe_tup (pa_cons pe_str pa_nil)) pa_nil))))))) (pe_op op_sub (pv 4) pe_int) (fun _ _ => rfl))))))))))))), ?_⟩
    have hk3 : k ≤ 3 := by omega
    have hk2 : 2 ≤ k := by omega
    have tup1 : ∀ (H' : Hp) (t : Addr) (s1 : Str), RuleD k near (.tuple [.str s1]) → Fd H' a (c + 1000) → Ch a H H' → H' t = none → Q (.ref t) (upd H' t (.tup [.str s1])) := fun H' t s1 hR f1 k1 nt =>
      q _ _ _ hR (.tup (xs := [.str s1]) (.inl (.inl upd_same)) (.cons (.str _) .nil)) ((f1.upd (Ne.symm (f1.ne nt))).mono (by omega)) (k1.upd_n nt)
    have tupM : ∀ (H' : Hp) (t : Addr) (m : Int), 0 ≤ m → m ≤ 9 → Fd H' a (c + 1000) → Ch a H H' → H' t = none → Q (.ref t) (upd H' t (.tup [.str "most", .int m])) := fun H' t m m0 m9 f1 k1 nt => by
      obtain ⟨m, rfl⟩ := Int.eq_ofNat_of_zero_le m0
      exact q _ _ _ (.most m (by omega)) (.tup (xs := [.str "most", .int m]) (.inl (.inl upd_same)) (.cons (.str _) (.cons (.int _) .nil))) ((f1.upd (Ne.symm (f1.ne nt))).mono (by omega)) (k1.upd_n nt)
    have tupC : ∀ (H' : Hp) (t : Addr) (z : Str), z ∈ near → Fd H' a (c + 1000) → Ch a H H' → H' t = none → Q (.ref t) (upd H' t (.tup [.str "copy", .str z])) := fun H' t z hz f1 k1 nt =>
      q _ _ _ (.copy z hz) (.tup (xs := [.str "copy", .str z]) (.inl (.inl upd_same)) (.cons (.str _) (.cons (.str _) .nil))) ((f1.upd (Ne.symm (f1.ne nt))).mono (by omega)) (k1.upd_n nt)
    refine i_seq ?_
    refine i_ifS ?_
    repeat' (walk_at "js")
    repeat' (walk_at "jv")
    · -- quiet
      refine ⟨a, 2, c, rfl, hf, by omega, by omega, by omega, fun r1 H1 r10 r11 f1 k1 => ?_⟩
      repeat' (walk_at "jv")
      · refine ⟨a, _, c + 1, rfl, f1, by omega, by rw [List.length_map]; omega, by omega, fun r2 H2 r20 r21 f2 k2 => ?_⟩
        rw [List.length_map] at r21
        repeat' (walk_at "jv")
        intro t nt
        exact tupM H2 t r2 r20 (by omega) (f2.mono (by omega)) (k1.trans k2) nt
      · refine ⟨a, 10, c + 1, rfl, f1, by omega, by omega, by omega, fun r2 H2 r20 r21 f2 k2 => ?_⟩
        repeat' (walk_at "jv")
        intro t nt
        exact tupM H2 t r2 r20 (by omega) (f2.mono (by omega)) (k1.trans k2) nt
    · -- adding
      refine ⟨a, 4, c, rfl, hf, by omega, by omega, by omega, fun r1 H1 r10 r11 f1 k1 => ?_⟩
      have hp1 : H1 p = some (.lst (near.map V.str)) := k1 p _ hpa hp
      repeat' (walk_at "jv")
      · intro t nt
        exact tup1 H1 t _ .keep (f1.mono (by omega)) k1 nt
      · intro e ne
        have e1 : (upd H1 e (.lst [])) p = some (.lst (near.map V.str)) := (upd_ne (ne_of_none hp1 ne)).trans hp1
        repeat' (walk_at "jv")
        refine i_neNil (ns := near) (sq_lst e1) (sq_lst upd_same) hnm ?_
        repeat' (walk_at "jv")
        refine i_iteB (fun hb => ?_) (fun hb => ?_)
        · have h0 : 0 < near.length := by
            cases near with
            | nil => simp at hb
            | cons x y => simp
          repeat' (walk_at "jv")
          refine ⟨a, p, c + 1, near.map V.str, rfl, f1.upd (Ne.symm (f1.ne ne)), SqA.l (sq_lst e1), hpa, by rw [List.length_map]; exact h0, by rw [List.length_map]; omega, by omega, fun v H2 hv f2 k2 => ?_⟩
          obtain ⟨z, hz, rfl⟩ := List.mem_map.mp hv
          repeat' (walk_at "jv")
          intro t nt
          exact tupC H2 t z hz (f2.mono (by omega)) ((k1.upd_n ne).trans k2) nt
        · repeat' (walk_at "jv")
          intro t nt
          exact tup1 _ t _ .odd ((f1.upd (Ne.symm (f1.ne ne))).mono (by omega)) (k1.upd_n ne) nt
      · intro t nt
        exact tup1 H1 t _ .odd (f1.mono (by omega)) k1 nt
    · -- how many
      have fin1 : ∀ (H' : Hp) (t : Addr) (s1 : Str), RuleD k near (.tuple [.str s1]) → SqT K H' t [.str s1] → Fd H' a (c + 1000000) → Ch a H H' → Q (.ref t) H' := fun H' t s1 hR hs f1 k1 =>
        q _ _ _ hR (.tup hs (.cons (.str _) .nil)) (f1.mono (by omega)) k1
      have finT : ∀ (H' : Hp) (T1 : Addr) (t : List Nat), t.length = k ^ (near.length + 1) → (∀ x ∈ t, x < k) → SqT K H' T1 (t.map fun n => V.int ((n : Nat) : Int)) → Fd H' a (c + 9000000) → Ch a H H' → ∀ T2, H' T2 = none → Q (.ref T2) (upd H' T2 (.tup [.str "table", .ref T1])) := fun H' T1 t h1 h2 hs f1 k1 T2 nT =>
        q _ _ _ (.table t h1 h2) (.tup (xs := [.str "table", .ref T1]) (.inl (.inl upd_same)) (.cons (.str _) (.cons (.tup (TK.new nT _ _ hs) (ints_dp t)) .nil))) ((f1.upd (Ne.symm (f1.ne nT))).mono (by omega)) (k1.upd_n nT)
      have finS : ∀ (H' : Hp) (T1 : Addr) (us : List V) (ts : List (List Nat)), ts.length = k → (∀ t ∈ ts, t.length = near.length * (k - 1) + 1 ∧ ∀ x ∈ t, x < k) → SqT K H' T1 us → DpAll K H' us (ts.map intsD) → Fd H' a (c + 9000000) → Ch a H H' → ∀ T2, H' T2 = none → Q (.ref T2) (upd H' T2 (.tup [.str "sum", .ref T1])) := fun H' T1 us ts h1 h2 hs hd f1 k1 T2 nT =>
        q _ _ _ (.sum ts h1 h2) (.tup (xs := [.str "sum", .ref T1]) (.inl (.inl upd_same)) (.cons (.str _) (.cons (.tup (TK.new nT _ _ hs) (DpAll.tk (TK.new nT) _ _ (intss_only ts) hd)) .nil))) ((f1.upd (Ne.symm (f1.ne nT))).mono (by omega)) (k1.upd_n nT)
      repeat' (walk_at "jv")
      refine f_list (near.map V.str) (fun i σ H' => ∃ y6, σ = [some (.ref a), some (.int k), some (.ref p), some (.str sort), none, some (.int ((k ^ i : Nat) : Int)), y6, none, none, none, none, none] ∧ H = H') ⟨none, rfl, rfl⟩ (fun i σ H' _ h => ?_) (fun i x σ H' hx h => ?_) (fun σ H' h => ?_)
      · obtain ⟨_, _, rfl⟩ := h
        exact sq_lst hp
      · obtain ⟨y6, rfl, rfl⟩ := h
        repeat' (walk_at "jv")
        refine ⟨some x, ?_, rfl⟩
        rw [Nat.pow_succ, Int.natCast_mul]
        rfl
      · obtain ⟨y6, rfl, rfl⟩ := h
        rw [List.length_map]
        have hM : k ^ near.length ≤ 2187 := Nat.le_trans (Nat.pow_le_pow_left hk3 near.length) (Nat.pow_le_pow_right (by decide) hn7)
        have hMs : k ^ near.length * k = k ^ (near.length + 1) := rfl
        generalize hMe : k ^ near.length = M at *
        have hk1 : (k : Int) - 1 = ((k - 1 : Nat) : Int) := by omega
        have hw : (near.length : Int) * ((k : Int) - 1) + 1 = ((near.length * (k - 1) + 1 : Nat) : Int) := by
          rw [hk1, Int.natCast_add, Int.natCast_mul]
          rfl
        have hw15 : near.length * (k - 1) + 1 ≤ 15 := by
          have := Nat.mul_le_mul hn7 (show k - 1 ≤ 2 by omega)
          omega
        refine i_seq ?_
        refine i_ifS ?_
        repeat' (walk_at "js")
        refine i_var rfl ?_
        repeat' (walk_at "js")
        refine i_ite (fun hs => ?_) (fun hs => ?_)
        · -- undone
          repeat' (walk_at "jv")
          refine ⟨a, 6, c, rfl, hf, by omega, by omega, by omega, fun r1 H1 r10 r11 f1 k1 => ?_⟩
          have hp1 : H1 p = some (.lst (near.map V.str)) := k1 p _ hpa hp
          repeat' (walk_at "jv")
          · intro t1 n1
            have f2 := f1.upd (q := t1) (o := .tup [.str "odd"]) (Ne.symm (f1.ne n1))
            have k2 := k1.upd_n (o := .tup [.str "odd"]) n1
            have s2 : SqT K (upd H1 t1 (.tup [.str "odd"])) t1 [.str "odd"] := .inl (.inl upd_same)
            have p2 : (upd H1 t1 (.tup [.str "odd"])) p = some (.lst (near.map V.str)) := (upd_ne (ne_of_none hp1 n1)).trans hp1
            generalize upd H1 t1 (.tup [.str "odd"]) = H2 at *
            repeat' (walk_at "jv")
            intro t2 n2
            have f3 := f2.upd (q := t2) (o := .tup [.str "keep"]) (Ne.symm (f2.ne n2))
            have k3 := k2.upd_n (o := .tup [.str "keep"]) n2
            have s3 := TK.new (K := K) (o := .tup [.str "keep"]) n2 _ _ s2
            have u3 : SqT K (upd H2 t2 (.tup [.str "keep"])) t2 [.str "keep"] := .inl (.inl upd_same)
            have p3 : (upd H2 t2 (.tup [.str "keep"])) p = some (.lst (near.map V.str)) := (upd_ne (ne_of_none p2 n2)).trans p2
            generalize upd H2 t2 (.tup [.str "keep"]) = H3 at *
            refine i_cons ?_
            refine i_cut (fun v H' => ∃ t3 s1, v = .ref t3 ∧ RuleD k near (.tuple [.str s1]) ∧ SqT K H' t3 [.str s1] ∧ Fd H' a (c + 1) ∧ Ch a H H' ∧ TK K H3 H') (fun Q1 hQ1 => ?_) ?_
            · refine i_if ?_
              refine i_test ?_
              refine i_op ?_
              repeat' (walk_at "jv")
              intro e ne
              have p4 : (upd H3 e (.lst [])) p = some (.lst (near.map V.str)) := (upd_ne (ne_of_none p3 ne)).trans p3
              refine i_eqNil (ns := near) (sq_lst p4) (sq_lst upd_same) hnm ?_
              refine i_blQ ?_
              refine i_iteB (fun hb => ?_) (fun hb => ?_)
              · repeat' (walk_at "jv")
                intro t3 n3
                have f4 := f3.upd (q := e) (o := .lst []) (Ne.symm (f3.ne ne))
                exact hQ1 _ _ ⟨t3, _, rfl, .least, .inl (.inl upd_same), f4.upd (Ne.symm (f4.ne n3)), (k3.upd_n ne).upd_n n3, (TK.new ne).trans (TK.new n3)⟩
              · repeat' (walk_at "jv")
                intro t3 n3
                have f4 := f3.upd (q := e) (o := .lst []) (Ne.symm (f3.ne ne))
                exact hQ1 _ _ ⟨t3, _, rfl, .odd, .inl (.inl upd_same), f4.upd (Ne.symm (f4.ne n3)), (k3.upd_n ne).upd_n n3, (TK.new ne).trans (TK.new n3)⟩
            rintro v H4 ⟨t3, s1, rfl, hR, u4, f4, k4, tk⟩
            have s4 := tk _ _ s3
            have v4 := tk _ _ u3
            repeat' (walk_at "jv")
            intro l nl
            have f5 := f4.upd (q := l) (o := .lst [.ref t1, .ref t2, .ref t3]) (Ne.symm (f4.ne nl))
            have k5 := k4.upd_n (o := .lst [.ref t1, .ref t2, .ref t3]) nl
            have t5 : TK K H4 (upd H4 l (.lst [.ref t1, .ref t2, .ref t3])) := TK.new nl
            repeat' (walk_at "jv")
            have r3 : r1 = 0 ∨ r1 = 1 ∨ r1 = 2 := by omega
            rcases r3 with rfl | rfl | rfl
            · exact i_ixL (sq_lst upd_same) at0 (fin1 _ t1 _ .odd (t5 _ _ s4) (f5.mono (by omega)) k5)
            · exact i_ixL (sq_lst upd_same) at1 (fin1 _ t2 _ .keep (t5 _ _ v4) (f5.mono (by omega)) k5)
            · exact i_ixL (sq_lst upd_same) at2 (fin1 _ t3 _ hR (t5 _ _ u4) (f5.mono (by omega)) k5)
          · -- sums of mixed rows
            rw [List.length_map, hw]
            refine i_rgK (by omega) ?_
            have ew : (((near.length * (k - 1) + 1 : Nat) : Int)).toNat = near.length * (k - 1) + 1 := rfl
            rw [ew]
            generalize near.length * (k - 1) + 1 = wd at *
            refine c_range (fun D j H' => D ≠ a ∧ H D = none ∧ (∃ as : List Addr, ∃ rl : List (List Nat), H' D = some (.lst (as.map V.ref)) ∧ as.length = j ∧ rl.length = j ∧ (∀ t ∈ rl, t.length = k ∧ ∀ x ∈ t, x < k) ∧ (∀ (i : Nat) b t, as[i]? = some b → rl[i]? = some t → H' b = some (.lst (t.map fun n => V.int ((n : Nat) : Int))) ∧ b ≠ D ∧ b ≠ a)) ∧ Fd H' a (c + 1 + 1000 * j) ∧ Ch a H H')
              (fun D nD => ⟨f1.ne nD, k1.free (f1.ne nD) nD, ⟨[], [], upd_same, rfl, rfl, fun _ z => absurd z List.not_mem_nil, fun i b t z => by simp at z⟩, by simpa using f1.upd (Ne.symm (f1.ne nD)), k1.upd_n nD⟩) (fun D j H2 hj h => ?_) (fun D H2 h => ?_)
            · obtain ⟨g1, g2, ⟨as, rl, g3, g4, g5, g6, g7⟩, g8, g9⟩ := h
              repeat' (walk_at "jv")
              refine i_lrgK (by omega) ?_
              intro L0 n0
              have n0D : D ≠ L0 := ne_of_none g3 n0
              repeat' (walk_at "jv")
              refine ⟨a, L0, c + 1 + 1000 * j, _, rfl, g8.upd (Ne.symm (g8.ne n0)), SqA.l (sq_lst upd_same), g8.ne n0, by rw [List.length_map, List.length_range]; omega, by omega, fun q9 ys H3 pm n9 e9 f9 k9 => ?_⟩
              obtain ⟨t', pt, rfl⟩ := perm_map_inv (f := fun i : Nat => V.int ((i : Nat) : Int)) pm rfl
              have e3 : H3 D = some (.lst (as.map V.ref)) := k9 D _ g1 ((upd_ne n0D).trans g3)
              have ht' : t'.length = k := by rw [pt.length_eq, List.length_range]
              have nq9D : q9 ≠ D := (ne_of_none ((upd_ne n0D).trans g3) n9).symm
              have nq9a : q9 ≠ a := (g8.upd (q := L0) (o := .lst ((List.range k).map fun i => V.int ((i : Nat) : Int))) (Ne.symm (g8.ne n0))).ne n9
              refine i_lcE e3 (by rw [List.length_map, sizeLine_eq]; omega) ?_
              refine ⟨g1, g2, ⟨as ++ [q9], rl ++ [t'], by rw [List.map_append]; exact upd_same, by rw [List.length_append, g4]; rfl, by rw [List.length_append, g5]; rfl, fun t ht => ?_, fun i b t hb ht => ?_⟩, (f9.upd g1.symm).mono (by omega), ((g9.upd_n n0).trans k9).upd_l g2⟩
              · rcases List.mem_append.mp ht with ht | ht
                · exact g6 t ht
                · rcases List.mem_singleton.mp ht with rfl
                  exact ⟨ht', fun x hx => List.mem_range.mp (pt.mem_iff.mp hx)⟩
              · by_cases hi : i < j
                · rw [List.getElem?_append_left (by omega)] at hb ht
                  obtain ⟨w1, w2, w3⟩ := g7 i b t hb ht
                  exact ⟨(upd_ne w2).trans (k9 b _ w3 ((upd_ne (ne_of_none w1 n0)).trans w1)), w2, w3⟩
                · rw [List.getElem?_append_right (by omega)] at hb ht
                  have hi0 : i - as.length = 0 := by
                    cases z : i - as.length with
                    | zero => rfl
                    | succ m => rw [z] at hb; simp at hb
                  rw [hi0] at hb
                  rw [show i - rl.length = 0 by omega] at ht
                  have hb' : q9 = b := by simpa using hb
                  have ht2 : t' = t := by simpa using ht
                  subst hb' ht2
                  exact ⟨(upd_ne nq9D).trans e9, nq9D, nq9a⟩
            · obtain ⟨g1, g2, ⟨as, rl, g3, g4, g5, g6, g7⟩, g8, g9⟩ := h
              let col : Nat → List Nat := fun own => (List.range wd).map fun i => (rl.getD i []).getD own 0
              have colk : ∀ own, own < k → (col own).length = wd ∧ ∀ x ∈ col own, x < k := by
                intro own ho
                refine ⟨by show ((List.range wd).map _).length = wd; rw [List.length_map, List.length_range], fun x hx => ?_⟩
                obtain ⟨i, hi, rfl⟩ := List.mem_map.mp hx
                have hi' : i < rl.length := by rw [g5]; exact List.mem_range.mp hi
                have hm := g6 rl[i] (List.getElem_mem hi')
                have e1 : rl.getD i [] = rl[i] := by simp [List.getD, List.getElem?_eq_getElem hi']
                show (rl.getD i []).getD own 0 < k
                rw [e1]
                have ho' : own < rl[i].length := by rw [hm.1]; exact ho
                have e2 : rl[i].getD own 0 = rl[i][own] := by simp [List.getD, List.getElem?_eq_getElem ho']
                rw [e2]
                exact hm.2 _ (List.getElem_mem ho')
              repeat' (walk_at "jv")
              have e0 : ((k : Int)).toNat = k := rfl
              rw [e0]
              refine c_range (fun E own H' => E ≠ a ∧ H E = none ∧ E ≠ D ∧ (∃ us, H' E = some (.lst us) ∧ DpAll K H' us (((List.range own).map col).map intsD)) ∧ H' D = some (.lst (as.map V.ref)) ∧ (∀ (i : Nat) b t, as[i]? = some b → rl[i]? = some t → H' b = some (.lst (t.map fun n => V.int ((n : Nat) : Int))) ∧ b ≠ E ∧ b ≠ D ∧ b ≠ a) ∧ Fd H' a (c + 1 + 1000 * wd) ∧ Ch a H H')
                (fun E nE => ⟨g8.ne nE, g9.free (g8.ne nE) nE, (ne_of_none g3 nE).symm, ⟨[], upd_same, .nil⟩, (upd_ne (ne_of_none g3 nE)).trans g3, fun i b t hb ht => ?_, g8.upd (Ne.symm (g8.ne nE)), g9.upd_n nE⟩) (fun E own H3 ho h => ?_) (fun E H3 h => ?_)
              · obtain ⟨w1, w2, w3⟩ := g7 i b t hb ht
                have := ne_of_none w1 nE
                exact ⟨(upd_ne this).trans w1, this, w2, w3⟩
              · obtain ⟨b1, b2, b3, ⟨us, b4, b5⟩, b6, b7, b8, b9⟩ := h
                have hul : us.length = own := by rw [DpAll.len b5, List.length_map, List.length_map, List.length_range]
                repeat' (walk_at "jv")
                refine p_list (as.map V.ref) (fun i => V.int (((rl.getD i []).getD own 0 : Nat) : Int)) (sq_lst b6) (by rw [List.length_map]; omega) (fun D2 acc i x N nD2 hx hN => ?_) (fun D2 nD2 => ?_)
                · have hi : i < as.length := by
                    have := (List.getElem?_eq_some_iff.mp hx).1
                    rwa [List.length_map] at this
                  have hir : i < rl.length := by omega
                  rw [List.getElem?_map, List.getElem?_eq_getElem hi] at hx
                  obtain rfl : V.ref as[i] = x := Option.some.inj hx
                  obtain ⟨w1, w2, w3, w4⟩ := b7 i _ _ (List.getElem?_eq_getElem hi) (List.getElem?_eq_getElem hir)
                  have hm := g6 rl[i] (List.getElem_mem hir)
                  have hol : own < rl[i].length := by rw [hm.1]; exact ho
                  refine i_op ?_
                  refine i_var rfl ?_
                  refine i_var rfl ?_
                  rw [show (0 : Int) + (own : Int) = (own : Int) by omega]
                  refine i_ixL (xs := rl[i].map fun n => V.int ((n : Nat) : Int)) (v := V.int ((rl[i][own] : Nat) : Int)) (sq_lst ((upd_ne (ne_of_none w1 nD2)).trans w1)) (atI_nat (by rw [List.getElem?_map, List.getElem?_eq_getElem hol]; rfl)) ?_
                  have e1 : rl.getD i [] = rl[i] := by simp [List.getD, List.getElem?_eq_getElem hir]
                  have e2 : rl[i].getD own 0 = rl[i][own] := by simp [List.getD, List.getElem?_eq_getElem hol]
                  rw [e1, e2] at hN
                  exact hN
                · rw [List.length_map, g4]
                  have ec : (List.range wd).map (fun i => V.int (((rl.getD i []).getD own 0 : Nat) : Int)) = (col own).map fun n => V.int ((n : Nat) : Int) := by
                    show _ = ((List.range wd).map _).map _
                    rw [List.map_map]
                    rfl
                  rw [ec]
                  have m1 : TK K H3 (upd H3 D2 (.lst ((col own).map fun n => V.int ((n : Nat) : Int)))) := TK.new nD2
                  have m2 : (upd H3 D2 (.lst ((col own).map fun n => V.int ((n : Nat) : Int)))) E = some (.lst us) := (upd_ne (ne_of_none b4 nD2)).trans b4
                  have m3 : (upd H3 D2 (.lst ((col own).map fun n => V.int ((n : Nat) : Int)))) D = some (.lst (as.map V.ref)) := (upd_ne (ne_of_none b6 nD2)).trans b6
                  have m4 := b8.upd (q := D2) (o := .lst ((col own).map fun n => V.int ((n : Nat) : Int))) (Ne.symm (b8.ne nD2))
                  have m5 := b9.upd_n (o := .lst ((col own).map fun n => V.int ((n : Nat) : Int))) nD2
                  have m6 : ∀ (i : Nat) b t, as[i]? = some b → rl[i]? = some t → (upd H3 D2 (.lst ((col own).map fun n => V.int ((n : Nat) : Int)))) b = some (.lst (t.map fun n => V.int ((n : Nat) : Int))) ∧ b ≠ E ∧ b ≠ D ∧ b ≠ a := fun i b t hb ht => by
                    obtain ⟨w1, w2⟩ := b7 i b t hb ht
                    exact ⟨(upd_ne (ne_of_none w1 nD2)).trans w1, w2⟩
                  have m7 : SqL K (upd H3 D2 (.lst ((col own).map fun n => V.int ((n : Nat) : Int)))) D2 ((col own).map fun n => V.int ((n : Nat) : Int)) := sq_lst upd_same
                  have m8 := DpAll.tk m1 _ _ (intss_only _) b5
                  generalize upd H3 D2 (.lst ((col own).map fun n => V.int ((n : Nat) : Int))) = H4 at *
                  repeat' (walk_at "jv")
                  intro T nT
                  have e5 : (upd H4 T (.tup ((col own).map fun n => V.int ((n : Nat) : Int)))) E = some (.lst us) := (upd_ne (ne_of_none m2 nT)).trans m2
                  have d5 := DpAll.tk (TK.new (o := .tup ((col own).map fun n => V.int ((n : Nat) : Int))) nT) _ _ (intss_only _) m8
                  have hT : Dp K (upd H4 T (.tup ((col own).map fun n => V.int ((n : Nat) : Int)))) (.ref T) (intsD (col own)) := .tup (.inl (.inl upd_same)) (ints_dp _)
                  refine i_lcE e5 (by rw [sizeLine_eq]; omega) ?_
                  refine ⟨b1, b2, b3, ⟨us ++ [.ref T], upd_same, ?_⟩, ?_, fun i b t hb ht => ?_, (m4.upd (Ne.symm (m4.ne nT))).upd b1.symm, (m5.upd_n nT).upd_l b2⟩
                  · rw [List.range_succ, List.map_append, List.map_append]
                    exact DpAll.tk (TK.lst e5) _ _ (tupOnlyAll_app _ _ (intss_only _) (by have := intss_only [col own]; exact this)) (DpAll.app d5 (.cons hT .nil))
                  · rw [upd_ne b3.symm, upd_ne (ne_of_none m3 nT)]
                    exact m3
                  · obtain ⟨w1, w2, w3⟩ := m6 i b t hb ht
                    exact ⟨(upd_ne w2).trans ((upd_ne (ne_of_none w1 nT)).trans w1), w2, w3⟩
              · obtain ⟨b1, b2, b3, ⟨us, b4, b5⟩, b6, b7, b8, b9⟩ := h
                repeat' (walk_at "jv")
                intro T1 n1
                repeat' (walk_at "jv")
                intro T2 n2
                refine finS _ T1 us ((List.range k).map col) (by rw [List.length_map, List.length_range]) (fun t ht => ?_) (.inl (.inl upd_same)) (DpAll.tk (TK.new n1) _ _ (intss_only _) b5) ((b8.upd (Ne.symm (b8.ne n1))).mono (by omega)) (b9.upd_n n1) T2 n2
                obtain ⟨own, ho, rfl⟩ := List.mem_map.mp ht
                exact colk own (List.mem_range.mp ho)
          · -- cells of mixed rows
            intro Cc nC
            have nCa : Cc ≠ a := f1.ne nC
            have nC0 : H Cc = none := k1.free nCa nC
            repeat' (walk_at "jv")
            have eM : ((M : Int)).toNat = M := rfl
            rw [eM]
            refine f_range (fun i σ H' => ∃ y7, ∃ t : List Nat, σ = [some (.ref a), some (.int k), some (.ref p), some (.str sort), some (.int r1), some (.int M), y6, y7, none, some (.ref Cc), none, none] ∧ H' Cc = some (.lst (t.map fun n => V.int ((n : Nat) : Int))) ∧ t.length = i * k ∧ (∀ x ∈ t, x < k) ∧ Fd H' a (c + 1 + 1000 * i) ∧ Ch a H H')
              ⟨none, [], rfl, upd_same, by simp, fun _ z => absurd z List.not_mem_nil, by simpa using f1.upd (Ne.symm nCa), k1.upd_n nC⟩ (fun i σ H2 hi h => ?_) (fun σ H2 h => ?_)
            · obtain ⟨y7, t, rfl, g1, g2, g3, g4, g5⟩ := h
              have hik : i * k ≤ 6561 := by
                have := Nat.mul_le_mul (show i ≤ 2187 by omega) hk3
                omega
              repeat' (walk_at "jv")
              refine i_lrgK (by omega) ?_
              intro L0 n0
              have n0C : Cc ≠ L0 := ne_of_none g1 n0
              repeat' (walk_at "jv")
              refine ⟨a, L0, c + 1 + 1000 * i, _, rfl, g4.upd (Ne.symm (g4.ne n0)), SqA.l (sq_lst upd_same), g4.ne n0, by rw [List.length_map, List.length_range]; omega, by omega, fun q9 ys H3 pm n9 e9 f9 k9 => ?_⟩
              obtain ⟨t', pt, rfl⟩ := perm_map_inv (f := fun i : Nat => V.int ((i : Nat) : Int)) pm rfl
              have e3 : H3 Cc = some (.lst (t.map fun n => V.int ((n : Nat) : Int))) := k9 Cc _ nCa ((upd_ne n0C).trans g1)
              have ht' : t'.length = k := by rw [pt.length_eq, List.length_range]
              repeat' (walk_at "jv")
              refine i_ext e3 e9 (by rw [List.length_map, List.length_map, sizeLine_eq]; omega) ?_
              repeat' (walk_at "jv")
              refine ⟨_, t ++ t', rfl, by rw [List.map_append]; exact upd_same, by rw [List.length_append, g2, ht', Nat.succ_mul], fun y hy => ?_, (f9.upd (Ne.symm nCa)).mono (by omega), ((g5.upd_n n0).trans k9).upd_l nC0⟩
              rcases List.mem_append.mp hy with hy | hy
              · exact g3 y hy
              · exact List.mem_range.mp (pt.mem_iff.mp hy)
            · obtain ⟨y7, t, rfl, g1, g2, g3, g4, g5⟩ := h
              repeat' (walk_at "jv")
              intro T1 n1
              repeat' (walk_at "jv")
              intro T2 n2
              exact finT _ T1 t (by rw [g2, hMs]) g3 (.inl (.inl upd_same)) ((g4.upd (Ne.symm (g4.ne n1))).mono (by omega)) (g5.upd_n n1) T2 n2
        · -- any
          repeat' (walk_at "js")
          refine i_var rfl ?_
          repeat' (walk_at "js")
          refine ⟨a, 10, c, rfl, hf, by omega, by omega, by omega, fun r1 H1 r10 r11 f1 k1 => ?_⟩
          have hp1 : H1 p = some (.lst (near.map V.str)) := k1 p _ hpa hp
          refine i_gname ?_
          refine i_seq ?_
          refine i_cutS (fun σ H' => σ = [some (.ref a), some (.int k), some (.ref p), some (.str sort), some (.int r1), some (.int M), y6, none, none, none, none, none] ∧ H1 = H' ∧ 3 ≤ r1) (fun N hN => ?_) ?_
          · repeat' (walk_at "jv")
            · -- a table drawn
              have e0 : ((M : Int) * (k : Int)).toNat = M * k := by
                rw [← Int.natCast_mul]
                rfl
              have hMk : M * k ≤ 6561 := by
                have := Nat.mul_le_mul hM hk3
                omega
              refine i_rgK (by rw [← Int.natCast_mul]; omega) ?_
              rw [e0]
              refine c_range (fun D j H' => D ≠ a ∧ H D = none ∧ (∃ t : List Nat, H' D = some (.lst (t.map fun n => V.int ((n : Nat) : Int))) ∧ t.length = j ∧ ∀ x ∈ t, x < k) ∧ Fd H' a (c + 1 + j) ∧ Ch a H H')
                (fun D nD => ⟨f1.ne nD, k1.free (f1.ne nD) nD, ⟨[], upd_same, rfl, fun _ z => absurd z List.not_mem_nil⟩, by simpa using f1.upd (Ne.symm (f1.ne nD)), k1.upd_n nD⟩) (fun D j H2 hj h => ?_) (fun D H2 h => ?_)
              · obtain ⟨g1, g2, ⟨t, g3, g4, g5⟩, g6, g7⟩ := h
                repeat' (walk_at "jv")
                refine ⟨a, k, _, rfl, g6, by omega, by omega, by omega, fun x H3 x0 x1 f3 k3 => ?_⟩
                obtain ⟨x, rfl⟩ := Int.eq_ofNat_of_zero_le x0
                have e3 := k3 D _ g1 g3
                refine i_lcE e3 (by rw [List.length_map, sizeLine_eq]; omega) ?_
                refine ⟨g1, g2, ⟨t ++ [x], by rw [List.map_append]; exact upd_same, by rw [List.length_append, g4]; rfl, fun y hy => ?_⟩, (f3.upd g1.symm).mono (by omega), (g7.trans k3).upd_l g2⟩
                rcases List.mem_append.mp hy with hy | hy
                · exact g5 y hy
                · rcases List.mem_singleton.mp hy with rfl
                  omega
              · obtain ⟨g1, g2, ⟨t, g3, g4, g5⟩, g6, g7⟩ := h
                repeat' (walk_at "jv")
                intro T1 n1
                repeat' (walk_at "jv")
                intro T2 n2
                exact finT _ T1 t (by rw [g4, hMs]) g5 (.inl (.inl upd_same)) ((g6.upd (Ne.symm (g6.ne n1))).mono (by omega)) (g7.upd_n n1) T2 n2
            · exact hN _ _ ⟨rfl, rfl, by omega⟩
          rintro σ H2 ⟨rfl, rfl, r13⟩
          refine i_seq ?_
          refine i_cutS (fun σ H' => σ = [some (.ref a), some (.int k), some (.ref p), some (.str sort), some (.int r1), some (.int M), y6, none, none, none, none, none] ∧ H1 = H' ∧ 4 ≤ r1) (fun N hN => ?_) ?_
          · repeat' (walk_at "jv")
            · -- sums drawn
              have e0 : ((k : Int)).toNat = k := rfl
              rw [e0]
              refine c_range (fun D j H' => D ≠ a ∧ H D = none ∧ H' p = some (.lst (near.map V.str)) ∧ (∃ us, ∃ ts : List (List Nat), H' D = some (.lst us) ∧ DpAll K H' us (ts.map intsD) ∧ ts.length = j ∧ ∀ t ∈ ts, t.length = near.length * (k - 1) + 1 ∧ ∀ x ∈ t, x < k) ∧ Fd H' a (c + 1 + 100 * j) ∧ Ch a H H')
                (fun D nD => ⟨f1.ne nD, k1.free (f1.ne nD) nD, (upd_ne (ne_of_none hp1 nD)).trans hp1, ⟨[], [], upd_same, .nil, rfl, fun _ z => absurd z List.not_mem_nil⟩, by simpa using f1.upd (Ne.symm (f1.ne nD)), k1.upd_n nD⟩) (fun D j H2 hj h => ?_) (fun D H2 h => ?_)
              · obtain ⟨g1, g2, gp, ⟨us, ts, g3, g4, g5, g6⟩, g7, g8⟩ := h
                have hul : us.length = j := by rw [DpAll.len g4, List.length_map, g5]
                repeat' (walk_at "jv")
                rw [List.length_map, hw]
                refine i_rgK (by omega) ?_
                have ew : (((near.length * (k - 1) + 1 : Nat) : Int)).toNat = near.length * (k - 1) + 1 := rfl
                rw [ew]
                refine c_range (fun D2 j2 H' => D2 ≠ a ∧ H D2 = none ∧ D2 ≠ D ∧ H' p = some (.lst (near.map V.str)) ∧ H' D = some (.lst us) ∧ DpAll K H' us (ts.map intsD) ∧ (∃ t : List Nat, H' D2 = some (.lst (t.map fun n => V.int ((n : Nat) : Int))) ∧ t.length = j2 ∧ ∀ x ∈ t, x < k) ∧ Fd H' a (c + 1 + 100 * j + j2) ∧ Ch a H H')
                  (fun D2 nD => ⟨g7.ne nD, g8.free (g7.ne nD) nD, (ne_of_none g3 nD).symm, (upd_ne (ne_of_none gp nD)).trans gp, (upd_ne (ne_of_none g3 nD)).trans g3, DpAll.tk (TK.new nD) _ _ (intss_only ts) g4, ⟨[], upd_same, rfl, fun _ z => absurd z List.not_mem_nil⟩, by simpa using g7.upd (Ne.symm (g7.ne nD)), g8.upd_n nD⟩) (fun D2 j2 H3 hj2 h => ?_) (fun D2 H3 h => ?_)
                · obtain ⟨b1, b2, b3, bp, b4, b5, ⟨t, b6, b7, b8⟩, b9, b10⟩ := h
                  repeat' (walk_at "jv")
                  refine ⟨a, k, _, rfl, b9, by omega, by omega, by omega, fun x H4 x0 x1 f4 k4 => ?_⟩
                  obtain ⟨x, rfl⟩ := Int.eq_ofNat_of_zero_le x0
                  have e4 := k4 D2 _ b1 b6
                  refine i_lcE e4 (by rw [List.length_map, sizeLine_eq]; omega) ?_
                  refine ⟨b1, b2, b3, ?_, ?_, ?_, ⟨t ++ [x], by rw [List.map_append]; exact upd_same, by rw [List.length_append, b7]; rfl, fun y hy => ?_⟩, (f4.upd b1.symm).mono (by omega), (b10.trans k4).upd_l b2⟩
                  · rw [upd_ne (fun z => by rw [← z, hp] at b2; cases b2)]
                    exact k4 p _ hpa bp
                  · rw [upd_ne b3.symm]
                    exact k4 D _ g1 b4
                  · exact DpAll.tk ((TK.ch k4 b9).trans (TK.lst e4)) _ _ (intss_only ts) b5
                  · rcases List.mem_append.mp hy with hy | hy
                    · exact b8 y hy
                    · rcases List.mem_singleton.mp hy with rfl
                      omega
                · obtain ⟨b1, b2, b3, bp, b4, b5, ⟨t, b6, b7, b8⟩, b9, b10⟩ := h
                  repeat' (walk_at "jv")
                  intro T nT
                  have e5 : (upd H3 T (.tup (t.map fun n => V.int ((n : Nat) : Int)))) D = some (.lst us) := (upd_ne (ne_of_none b4 nT)).trans b4
                  have d5 := DpAll.tk (TK.new (o := .tup (t.map fun n => V.int ((n : Nat) : Int))) nT) _ _ (intss_only ts) b5
                  have hT : Dp K (upd H3 T (.tup (t.map fun n => V.int ((n : Nat) : Int)))) (.ref T) (intsD t) := .tup (.inl (.inl upd_same)) (ints_dp t)
                  refine i_lcE e5 (by rw [sizeLine_eq]; omega) ?_
                  refine ⟨g1, g2, ?_, ⟨us ++ [.ref T], ts ++ [t], upd_same, ?_, by rw [List.length_append, g5]; rfl, fun y hy => ?_⟩, ((b9.upd (Ne.symm (b9.ne nT))).upd g1.symm).mono (by omega), (b10.upd_n nT).upd_l g2⟩
                  · rw [upd_ne (fun z => by rw [← z, hp] at g2; cases g2), upd_ne (ne_of_none bp nT)]
                    exact bp
                  · rw [List.map_append]
                    exact DpAll.tk (TK.lst e5) _ _ (tupOnlyAll_app _ _ (intss_only ts) (by have := intss_only [t]; exact this)) (DpAll.app d5 (.cons hT .nil))
                  · rcases List.mem_append.mp hy with hy | hy
                    · exact g6 y hy
                    · rcases List.mem_singleton.mp hy with rfl
                      exact ⟨b7, b8⟩
              · obtain ⟨g1, g2, gp, ⟨us, ts, g3, g4, g5, g6⟩, g7, g8⟩ := h
                repeat' (walk_at "jv")
                intro T1 n1
                repeat' (walk_at "jv")
                intro T2 n2
                exact finS _ T1 us ts g5 g6 (.inl (.inl upd_same)) (DpAll.tk (TK.new n1) _ _ (intss_only ts) g4) ((g7.upd (Ne.symm (g7.ne n1))).mono (by omega)) (g8.upd_n n1) T2 n2
            · exact hN _ _ ⟨rfl, rfl, by omega⟩
          rintro σ H2 ⟨rfl, rfl, r14⟩
          refine i_seq ?_
          refine i_cutS (fun σ H' => σ = [some (.ref a), some (.int k), some (.ref p), some (.str sort), some (.int r1), some (.int M), y6, none, none, none, none, none] ∧ Fd H' a (c + 1) ∧ Ch a H H') (fun N hN => ?_) ?_
          · repeat' (walk_at "jv")
            · intro e ne
              have e1 : (upd H1 e (.lst [])) p = some (.lst (near.map V.str)) := (upd_ne (ne_of_none hp1 ne)).trans hp1
              have f2 := f1.upd (q := e) (o := .lst []) (Ne.symm (f1.ne ne))
              repeat' (walk_at "jv")
              refine i_neNil (ns := near) (sq_lst e1) (sq_lst upd_same) hnm ?_
              repeat' (walk_at "jv")
              refine i_iteB (fun hb => ?_) (fun hb => ?_)
              · have h0 : 0 < near.length := by
                  cases near with
                  | nil => simp at hb
                  | cons x y => simp
                repeat' (walk_at "jv")
                refine ⟨a, p, c + 1, near.map V.str, rfl, f2, SqA.l (sq_lst e1), hpa, by rw [List.length_map]; exact h0, by rw [List.length_map]; omega, by omega, fun v H2 hv f3 k3 => ?_⟩
                obtain ⟨z, hz, rfl⟩ := List.mem_map.mp hv
                repeat' (walk_at "jv")
                intro t nt
                exact tupC H2 t z hz (f3.mono (by omega)) ((k1.upd_n ne).trans k3) nt
              · repeat' (walk_at "jv")
                exact hN _ _ ⟨rfl, f2, k1.upd_n ne⟩
            · exact hN _ _ ⟨rfl, f1, k1⟩
          rintro σ H2 ⟨rfl, f2, k2⟩
          repeat' (walk_at "jv")
          intro t1 n1
          have f3 := f2.upd (q := t1) (o := .tup [.str "keep"]) (Ne.symm (f2.ne n1))
          have k3 := k2.upd_n (o := .tup [.str "keep"]) n1
          have a3 : SqT K (upd H2 t1 (.tup [.str "keep"])) t1 [.str "keep"] := .inl (.inl upd_same)
          generalize upd H2 t1 (.tup [.str "keep"]) = H3 at *
          repeat' (walk_at "jv")
          intro t2 n2
          have f4 := f3.upd (q := t2) (o := .tup [.str "least"]) (Ne.symm (f3.ne n2))
          have k4 := k3.upd_n (o := .tup [.str "least"]) n2
          have a4 := TK.new (K := K) (o := .tup [.str "least"]) n2 _ _ a3
          have b4 : SqT K (upd H3 t2 (.tup [.str "least"])) t2 [.str "least"] := .inl (.inl upd_same)
          generalize upd H3 t2 (.tup [.str "least"]) = H4 at *
          repeat' (walk_at "jv")
          intro t3 n3
          have f5 := f4.upd (q := t3) (o := .tup [.str "greatest"]) (Ne.symm (f4.ne n3))
          have k5 := k4.upd_n (o := .tup [.str "greatest"]) n3
          have a5 := TK.new (K := K) (o := .tup [.str "greatest"]) n3 _ _ a4
          have b5 := TK.new (K := K) (o := .tup [.str "greatest"]) n3 _ _ b4
          have c5 : SqT K (upd H4 t3 (.tup [.str "greatest"])) t3 [.str "greatest"] := .inl (.inl upd_same)
          generalize upd H4 t3 (.tup [.str "greatest"]) = H5 at *
          repeat' (walk_at "jv")
          intro t4 n4
          have f6 := f5.upd (q := t4) (o := .tup [.str "odd"]) (Ne.symm (f5.ne n4))
          have k6 := k5.upd_n (o := .tup [.str "odd"]) n4
          have a6 := TK.new (K := K) (o := .tup [.str "odd"]) n4 _ _ a5
          have b6 := TK.new (K := K) (o := .tup [.str "odd"]) n4 _ _ b5
          have c6 := TK.new (K := K) (o := .tup [.str "odd"]) n4 _ _ c5
          have d6 : SqT K (upd H5 t4 (.tup [.str "odd"])) t4 [.str "odd"] := .inl (.inl upd_same)
          generalize upd H5 t4 (.tup [.str "odd"]) = H6 at *
          repeat' (walk_at "jv")
          refine ⟨a, 10, _, rfl, f6, by omega, by omega, by omega, fun x H7 x0 x1 f7 k7 => ?_⟩
          obtain ⟨x, rfl⟩ := Int.eq_ofNat_of_zero_le x0
          have tk7 : TK K H6 H7 := TK.ch k7 f6
          have k70 := k6.trans k7
          repeat' (walk_at "jv")
          intro t5 n5
          have tk8 : TK K H6 (upd H7 t5 (.tup [.str "most", .int x])) := tk7.trans (TK.new n5)
          have f8 := f7.upd (q := t5) (o := .tup [.str "most", .int x]) (Ne.symm (f7.ne n5))
          have k8 := k70.upd_n (o := .tup [.str "most", .int x]) n5
          have e8 : SqT K (upd H7 t5 (.tup [.str "most", .int x])) t5 [.str "most", .int x] := .inl (.inl upd_same)
          generalize upd H7 t5 (.tup [.str "most", .int x]) = H8 at *
          repeat' (walk_at "jv")
          intro t6 n6
          have tk9 : TK K H8 (upd H8 t6 (.tup [.str "least"])) := TK.new n6
          have f9 := f8.upd (q := t6) (o := .tup [.str "least"]) (Ne.symm (f8.ne n6))
          have k9 := k8.upd_n (o := .tup [.str "least"]) n6
          have g9 : SqT K (upd H8 t6 (.tup [.str "least"])) t6 [.str "least"] := .inl (.inl upd_same)
          generalize upd H8 t6 (.tup [.str "least"]) = H9 at *
          refine i_nil ?_
          refine i_al (by show 6 ≤ sizeLine; decide) ?_
          intro l nl
          have tkA : TK K H9 (upd H9 l (.lst [.ref t1, .ref t2, .ref t3, .ref t4, .ref t5, .ref t6])) := TK.new nl
          have fA := (f9.upd (q := l) (o := .lst [.ref t1, .ref t2, .ref t3, .ref t4, .ref t5, .ref t6]) (Ne.symm (f9.ne nl))).mono (d := c + 1000) (by omega)
          have kA := k9.upd_n (o := .lst [.ref t1, .ref t2, .ref t3, .ref t4, .ref t5, .ref t6]) nl
          have lA : SqL K (upd H9 l (.lst [.ref t1, .ref t2, .ref t3, .ref t4, .ref t5, .ref t6])) l [.ref t1, .ref t2, .ref t3, .ref t4, .ref t5, .ref t6] := sq_lst upd_same
          generalize upd H9 l (.lst [.ref t1, .ref t2, .ref t3, .ref t4, .ref t5, .ref t6]) = HA at *
          have tkk : TK K H6 HA := (tk8.trans tk9).trans tkA
          repeat' (walk_at "jv")
          obtain ⟨w, ew, hw6⟩ : ∃ w : Nat, r1 - 4 = w ∧ w < 6 := ⟨(r1 - 4).toNat, by omega, by omega⟩
          rw [ew]
          have w6 : w = 0 ∨ w = 1 ∨ w = 2 ∨ w = 3 ∨ w = 4 ∨ w = 5 := by omega
          rcases w6 with rfl | rfl | rfl | rfl | rfl | rfl
          · exact i_ixL lA (atI_nat rfl) (fin1 _ t1 _ .keep (tkk _ _ a6) (fA.mono (by omega)) kA)
          · exact i_ixL lA (atI_nat rfl) (fin1 _ t2 _ .least (tkk _ _ b6) (fA.mono (by omega)) kA)
          · exact i_ixL lA (atI_nat rfl) (fin1 _ t3 _ .greatest (tkk _ _ c6) (fA.mono (by omega)) kA)
          · exact i_ixL lA (atI_nat rfl) (fin1 _ t4 _ .odd (tkk _ _ d6) (fA.mono (by omega)) kA)
          · exact i_ixL lA (atI_nat rfl) (q _ _ _ (.most x (by omega)) (.tup (tkA _ _ (tk9 _ _ e8)) (.cons (.str _) (.cons (.int _) .nil))) (fA.mono (by omega)) kA)
          · exact i_ixL lA (atI_nat rfl) (fin1 _ t6 _ .least (tkA _ _ g9) (fA.mono (by omega)) kA)
end
end
section
open L2 PySem PySem.Spec PyProof.Rows
abbrev s__law_hall : Stmt := topS 38
theorem sc__law_hall : FnScope ["_law_feed_here", "_law_way", "_law_sort", "_law_most", "_law_k", "_law_web_here", "_law_place"] ["_law_feed_here", "_law_way", "_law_sort", "_law_most"] (defScope s__law_hall) := ⟨rfl, rfl, rfl, by decide +kernel, rfl, by decide +kernel, by decide +kernel⟩
section
variable {base : Heap} {P : Program} {w : World} {K : PySem.W.Frag} {mg : Str → Option Value}
theorem ok_hall (D : Dn K mg "_law_hall" s__law_hall ["_law_feed_here", "_law_way", "_law_sort", "_law_most"]) (B : Bn mg) (C__law_one : Cl P w K mg base 2 "_law_one" ["_law_feed_here", "_law_things"] (spOne K))
    (C__law_web : Cl P w K mg base 4 "_law_web" ["_law_feed_here", "_law_way", "_law_most"] (spWebF K)) (C__law_neighbours : Cl P w K mg base 1 "_law_neighbours" ["_law_web_here", "_law_place"] (spNear K))
    (C__law_rule : Cl P w K mg base 4 "_law_rule" ["_law_feed_here", "_law_k", "_law_others", "_law_sort"] (spRule K)) :
    Cl P w K mg base 5 "_law_hall" ["_law_feed_here", "_law_way", "_law_sort", "_law_most"] (spHallF K) := by
  refine D.cl sc__law_hall (fun vs H Q E h => ?_) (fun f cdv A outer s H vs Q E hr h => ?_)
  · obtain ⟨a, way, sort, most, c, rfl, _⟩ := h
    rfl
  · obtain ⟨a, way, sort, most, c, rfl, hf, hm1, hm8, hc, q⟩ := h
    refine ⟨_, (pss_cons (ps_set (i := 4) sc__law_hall.nd rfl (by first | exact Or.inl rfl | exact Or.inr rfl) (pe_ifExp (pt_cmpR op_eq (pv 2) pe_str (nomark _)) pe_int (pe_c C__law_one hr (pa_cons (pv 0) (pa_cons (pe_lst (pa_cons pe_int (pa_cons pe_int (pa_cons pe_int (pa_cons pe_int pa_nil))))) pa_nil)))))
      (pss_cons (ps_set (i := 5) sc__law_hall.nd rfl (by first | exact Or.inl rfl | exact Or.inr rfl) (pe_c C__law_web hr (pa_cons (pv 0) (pa_cons (pv 1) (pa_cons (pe_ifExp (pt_cmpR op_eq (pv 4) pe_int (nomark _)) (pe_callB (j_min rfl) rfl B.min_ (by decide +kernel) (pa_cons (pv 3) (pa_cons pe_int pa_nil))) (pv 3)) pa_nil)))))
      (pss_one (ps_ret (pe_tup (pa_cons (pv 4) (pa_cons (pv 5) (pa_cons (pe_callTy (k_tuple (K := K)) rfl B.tuple_ (by decide +kernel) (pa_cons (pe_lc (own := [("_law_place", 6)]) rfl sc__law_hall.nd (kpi_tup (K := K) (pe_ix (k_ixT (K := K)) (pv 5) pe_int (fun _ _ => rfl))) (blkOk_by (N := ["_law_feed_here", "_law_way", "_law_sort", "_law_most", "_law_k", "_law_web_here", "_law_place"]) (sc := defScope s__law_hall) (by decide +kernel)) (fun _ _ _ _ _ => (pg_name (i := 6) sc__law_hall.nd rfl (by first | exact Or.inl rfl | exact Or.inr rfl))) (fun _ _ _ _ _ => pts_nil) (fun _ _ _ _ _ => (pe_c C__law_rule hr (pa_cons (pv 0) (pa_cons (pv 4) (pa_cons (pe_c C__law_neighbours hr (pa_cons (pv 5) (pa_cons (pv 6) pa_nil))) (pa_cons (pv 2) pa_nil))))))) pa_nil)) pa_nil)))))))), ?_⟩
    refine i_seq ?_
    refine i_asg ?_
    refine i_cut (fun v H' => ∃ k : Nat, v = .int k ∧ (k = 2 ∨ k = 3) ∧ Fd H' a (c + 1) ∧ Ch a H H') (fun Q1 hQ1 => ?_) ?_
    · repeat' (walk_at "jv")
      · exact hQ1 _ _ ⟨2, rfl, .inl rfl, hf.mono (by omega), Ch.refl _⟩
      · intro L nL
        repeat' (walk_at "jv")
        refine ⟨a, L, c, [.int 2, .int 2, .int 2, .int 3], rfl, hf.upd (Ne.symm (hf.ne nL)), SqA.l (sq_lst upd_same), hf.ne nL, by show 0 < 4; decide, by show 4 < 1000000; decide, by omega, fun v H1 hv f1 k1 => ?_⟩
        repeat' (walk_at "jv")
        have hv' : v = .int 2 ∨ v = .int 3 := by simpa using hv
        rcases hv' with rfl | rfl
        · exact hQ1 _ _ ⟨2, rfl, .inl rfl, f1, (Ch.upd_new nL).trans k1⟩
        · exact hQ1 _ _ ⟨3, rfl, .inr rfl, f1, (Ch.upd_new nL).trans k1⟩
    rintro v H1 ⟨k, rfl, hk, f1, k1⟩
    refine i_gname ?_
    refine i_seq ?_
    refine i_asg ?_
    refine i_call ?_
    refine i_cons ?_
    refine i_var rfl ?_
    refine i_cons ?_
    refine i_var rfl ?_
    refine i_cons ?_
    refine i_cut (fun v H' => ∃ m : Int, v = .int m ∧ 1 ≤ m ∧ m ≤ 8 ∧ (k = 3 → m ≤ 4) ∧ H1 = H') (fun Q1 hQ1 => ?_) ?_
    · repeat' (walk_at "jv")
      · exact hQ1 _ _ ⟨min most 4, rfl, by omega, by omega, fun _ => by omega, rfl⟩
      · rename_i h3
        exact hQ1 _ _ ⟨most, rfl, hm1, hm8, fun z => absurd (by rw [z]; rfl) h3, rfl⟩
    rintro v H2 ⟨m, rfl, m1, m8, m4, rfl⟩
    repeat' (walk_at "jv")
    refine ⟨a, way, m, c + 1, rfl, f1, m1, m8, by omega, fun v ps rs H2 hW hps dW f2 k2 => ?_⟩
    have k20 : Ch a H H2 := k1.trans k2
    have hfew : k ^ ps.length ≤ 256 := by
      rcases hk with rfl | rfl
      · exact Nat.le_trans (Nat.pow_le_pow_right (by decide) (show ps.length ≤ 8 by omega)) (by decide)
      · exact Nat.le_trans (Nat.pow_le_pow_right (by decide) (show ps.length ≤ 4 by have := m4 rfl; omega)) (by decide)
    have dF := dW
    replace dW := dF.dp
    obtain ⟨t, tp, tr, xs, rfl, s1, s2, s3, d3, dr, dpl⟩ := web_parts dW
    repeat' (walk_at "jv")
    refine c_tup (ps.map V.str) (fun D j H' => D ≠ a ∧ H D = none ∧ (∃ us, ∃ ds : List PyData, H' D = some (.lst us) ∧ DpAll K H' us ds ∧ ds.length = j ∧ RulesTo k ps rs ds) ∧ TK K H2 H' ∧ Fd H' a (c + 10001 + 10000000 * j) ∧ Ch a H H' ∧ WF K H' (.ref t) ps rs)
      (fun D nD => ⟨f2.ne nD, k20.free (f2.ne nD) nD, ⟨[], [], upd_same, .nil, rfl, RulesTo.nil⟩, TK.new nD, (f2.upd (Ne.symm (f2.ne nD))).mono (by omega), k20.upd_n nD, dF.same (Same.upd_new nD)⟩) (fun D j H3 hj h => ?_) (fun D j x H3 hx h => ?_) (fun D H3 h => ?_)
    · obtain ⟨_, _, _, tk, _⟩ := h
      exact tk _ _ s2
    · obtain ⟨g1, g2, ⟨us, ds, g3, g4, g5, g6⟩, tk, g7, g8, g9⟩ := h
      have hul : us.length = j := by rw [DpAll.len g4, g5]
      have hj : j < ps.length := by
        have := (List.getElem?_eq_some_iff.mp hx).1
        rwa [List.length_map] at this
      have hj8 := hW.le8
      rw [List.getElem?_map, List.getElem?_eq_getElem hj] at hx
      obtain rfl : V.str ps[j] = x := Option.some.inj hx
      have hmem : ps[j] ∈ ps := List.getElem_mem hj
      repeat' (walk_at "jv")
      refine ⟨.ref t, ps[j], ps, rs, rfl, Dp.tk tk _ _ (web_only ps rs) dW, hW, hmem, fun p H4 np sm e4 => ?_⟩
      have f4 : Fd H4 a (c + 10001 + 10000000 * j) := by
        obtain ⟨x, y, n, h1, h2⟩ := g7
        exact ⟨x, y, n, sm _ _ h1, h2⟩
      repeat' (walk_at "jv")
      refine ⟨a, p, k, nearL ps rs ps[j], _, _, rfl, f4, hk, e4, g7.ne np, near_len hW hmem, near_names hW, by omega, fun v d H5 hR dv f5 k5 => ?_⟩
      have e5 : H5 D = some (.lst us) := k5 D _ g1 (sm _ _ g3)
      have tk5 : TK K H3 H5 := (TK.same sm).trans (TK.ch k5 f4)
      have d5 := DpAll.tk tk5 _ _ g6.only g4
      repeat' (walk_at "jv")
      have hds : RulesTo k ps rs (ds ++ [d]) := g6.snoc (by rw [g5]; exact List.getElem?_eq_getElem hj) hR
      refine ⟨g1, g2, ⟨us ++ [v], ds ++ [d], upd_same, DpAll.tk (TK.lst e5) _ _ hds.only (DpAll.app d5 (.cons dv .nil)), by rw [List.length_append, g5]; rfl, hds⟩, (tk.trans tk5).trans (TK.lst e5), (f5.upd g1.symm).mono (by omega), ((g8.trans (Ch.of_same sm)).trans k5).upd_l g2, ((g9.same sm).ch k5 f4).lst e5⟩
    · obtain ⟨g1, g2, ⟨us, ds, g3, g4, g5, g6⟩, tk, g7, g8, g9⟩ := h
      rw [List.length_map] at g5 g7
      have hj8 := hW.le8
      repeat' (walk_at "jv")
      intro T nT
      have tkT : TK K H3 (upd H3 T (.tup us)) := TK.new nT
      have fT := g7.upd (q := T) (o := .tup us) (Ne.symm (g7.ne nT))
      have kT := g8.upd_n (o := .tup us) nT
      have sT : SqT K (upd H3 T (.tup us)) T us := .inl (.inl upd_same)
      have g9' := g9.same (Same.upd_new (o := .tup us) nT)
      generalize upd H3 T (.tup us) = H4 at *
      repeat' (walk_at "jv")
      intro T3 n3
      have tk3 : TK K H4 (upd H4 T3 (.tup [.int k, .ref t, .ref T])) := TK.new n3
      exact q _ k ps rs ds _ (g6.hall hk hW hfew g5) ⟨T3, T, .ref t, rfl, .inl (.inl upd_same), g9'.same (Same.upd_new n3), .tup (tk3 _ _ sT) (DpAll.tk (tkT.trans tk3) _ _ g6.only g4), g6.only⟩ ((fT.upd (Ne.symm (fT.ne n3))).mono (by omega)) (kT.upd_n n3)
end
end
section
open L2 PySem PySem.Spec PyProof.Rows
abbrev s__law_great_web : Stmt := topS 39
theorem sc__law_great_web : FnScope ["_law_feed_here", "_law_many", "_law_pairs", "_law_way", "_law_start", "_law_stem", "_law_letters", "_law_at", "_law_names_here", "_law_most", "_law_roads", "_law_count", "_law_one_here", "_law_other", "_law_back"] ["_law_feed_here"] (defScope s__law_great_web) := ⟨rfl, rfl, rfl, by decide +kernel, rfl, by decide +kernel, by decide +kernel⟩
def spGreatWebF (K : PySem.W.Frag) : Sp := fun vs H Q _ => ∃ (a : Addr) (c : Int), vs = [.ref a] ∧ Fd H a c ∧ c < 10 ^ 13 ∧
  ∀ (v : V) (ps : List Str) (rs : List (Str × Str)) (H' : Hp), IsWeb ps rs → WF K H' v ps rs → Fd H' a (c + 10000) → Ch a H H' → Q v H'
section
variable {base : Heap} {P : Program} {w : World} {K : PySem.W.Frag} {mg : Str → Option Value}
theorem ok_great_web (D : Dn K mg "_law_great_web" s__law_great_web ["_law_feed_here"]) (B : Bn mg) (C__law_draw : Cl P w K mg base 1 "_law_draw" ["_law_feed_here", "_law_many"] spDraw)
    (C__law_mixed : Cl P w K mg base 2 "_law_mixed" ["_law_feed_here", "_law_things"] (spMixed K)) (C__law_one : Cl P w K mg base 2 "_law_one" ["_law_feed_here", "_law_things"] (spOne K)) :
    Cl P w K mg base 4 "_law_great_web" ["_law_feed_here"] (spGreatWebF K) := by
  refine D.cl sc__law_great_web (fun vs H Q E h => ?_) (fun f cdv A outer s H vs Q E hr h => ?_)
  · obtain ⟨a, c, rfl, _⟩ := h
    rfl
  · obtain ⟨a, c, rfl, hf, hc, q⟩ := h
    refine ⟨_, (pss_cons (ps_asg (pe_tup (pa_cons (pe_op op_add pe_int (pe_c C__law_draw hr (pa_cons (pv 0) (pa_cons pe_int pa_nil)))) (pa_cons (pe_lst pa_nil) (pa_cons (pe_c C__law_draw hr (pa_cons (pv 0) (pa_cons pe_int pa_nil))) pa_nil)))) (kpg_tup (K := K) (n := 3) rfl (pgs_cons (pg_name (i := 1) sc__law_great_web.nd rfl (by first | exact Or.inl rfl | exact Or.inr rfl)) (pgs_cons (pg_name (i := 2) sc__law_great_web.nd rfl (by first | exact Or.inl rfl | exact Or.inr rfl)) (pgs_cons (pg_name (i := 3) sc__law_great_web.nd rfl (by first | exact Or.inl rfl | exact Or.inr rfl)) pgs_nil)))))
      (pss_cons (ps_asg (pe_tup (pa_cons (pe_c C__law_draw hr (pa_cons (pv 0) (pa_cons pe_int pa_nil))) (pa_cons (pe_slice sl_str pe_str po_none (po_some (pe_op op_add pe_int (pe_c C__law_draw hr (pa_cons (pv 0) (pa_cons pe_int pa_nil)))))) (pa_cons pe_str pa_nil)))) (kpg_tup (K := K) (n := 3) rfl (pgs_cons (pg_name (i := 4) sc__law_great_web.nd rfl (by first | exact Or.inl rfl | exact Or.inr rfl)) (pgs_cons (pg_name (i := 5) sc__law_great_web.nd rfl (by first | exact Or.inl rfl | exact Or.inr rfl)) (pgs_cons (pg_name (i := 6) sc__law_great_web.nd rfl (by first | exact Or.inl rfl | exact Or.inr rfl)) pgs_nil)))))
      (pss_cons (ps_for PassesOwn.never rfl (pi_range2 rfl B.range_ (pa_cons pe_int (pa_cons (pv 1) pa_nil))) (pg_name (i := 7) sc__law_great_web.nd rfl (by first | exact Or.inl rfl | exact Or.inr rfl)) (pss_one (ps_expr (pe_bm PySem.F.plainAttrs_list PySem.F.slot_list_extend PySem.F.type_list_extend mt_extend (pv 2) (pa_cons (pe_lc (own := [("_law_back", 14)]) rfl sc__law_great_web.nd (pi_range1 rfl B.range_ (pa_cons (pv 7) pa_nil)) (blkOk_by (N := ["_law_feed_here", "_law_many", "_law_pairs", "_law_way", "_law_start", "_law_stem", "_law_letters", "_law_at", "_law_names_here", "_law_most", "_law_roads", "_law_count", "_law_one_here", "_law_other", "_law_back"]) (sc := defScope s__law_great_web) (by decide +kernel)) (fun _ _ _ _ _ => (pg_name (i := 14) sc__law_great_web.nd rfl (by first | exact Or.inl rfl | exact Or.inr rfl))) (fun _ _ _ _ _ => pts_nil) (fun _ _ _ _ _ => (pe_tup (pa_cons (pv 14) (pa_cons (pv 7) pa_nil))))) pa_nil)))))
      (pss_cons (ps_setLc (i := 8) (own := [("_law_at", 7)]) rfl sc__law_great_web.nd rfl rfl (sw_true rfl rfl rfl (by decide +kernel)) (pi_range1 rfl B.range_ (pa_cons (pv 1) pa_nil)) (blkOk_by (N := ["_law_feed_here", "_law_many", "_law_pairs", "_law_way", "_law_start", "_law_stem", "_law_letters", "_law_at", "_law_names_here", "_law_most", "_law_roads", "_law_count", "_law_one_here", "_law_other", "_law_back"]) (sc := defScope s__law_great_web) (by decide +kernel)) (fun _ _ _ _ _ => (pg_name (i := 7) sc__law_great_web.nd rfl (by first | exact Or.inl rfl | exact Or.inr rfl))) (fun _ _ _ _ _ => pts_nil) (fun _ _ _ _ _ => (pe_op o_addS (pe_its (pv 6) (pe_op op_mod (pe_callTy (j_int) rfl B.int_ (by decide +kernel) (pa_cons (pe_op op_add (pv 4) (pe_op op_mul pe_int (pv 7))) pa_nil)) pe_int) (fun _ _ => rfl)) (pe_slice sl_str pe_str po_none (po_some (pe_c C__law_draw hr (pa_cons (pv 0) (pa_cons pe_int pa_nil))))))))
      (pss_cons (ps_if (pt_cmpR op_gt (pv 3) pe_int (nomark _)) (pss_one (ps_setLc (i := 8) (own := [("_law_at", 7)]) rfl sc__law_great_web.nd rfl rfl (sw_true rfl rfl rfl (by decide +kernel)) (pi_range1 rfl B.range_ (pa_cons (pv 1) pa_nil)) (blkOk_by (N := ["_law_feed_here", "_law_many", "_law_pairs", "_law_way", "_law_start", "_law_stem", "_law_letters", "_law_at", "_law_names_here", "_law_most", "_law_roads", "_law_count", "_law_one_here", "_law_other", "_law_back"]) (sc := defScope s__law_great_web) (by decide +kernel)) (fun _ _ _ _ _ => (pg_name (i := 7) sc__law_great_web.nd rfl (by first | exact Or.inl rfl | exact Or.inr rfl))) (fun _ _ _ _ _ => pts_nil) (fun _ _ _ _ _ => (pe_ifExp (pt_cmpR op_eq (pv 3) pe_int (nomark _)) (pe_op o_addS (pv 5) (pe_its (pv 6) (pe_op op_mod (pe_callTy (j_int) rfl B.int_ (by decide +kernel) (pa_cons (pe_op op_add (pv 4) (pv 7)) pa_nil)) pe_int) (fun _ _ => rfl))) (pe_op o_addS (pe_its (pv 6) (pv 4) (fun _ _ => rfl)) (pe_slice sl_str pe_str po_none (po_some (pv 7)))))))) pss_nil)
      (pss_cons (ps_par (i := 9) (j := 10) rfl sc__law_great_web.nd rfl rfl (by decide) rfl rfl (pa_cons (pe_callB (j_min rfl) rfl B.min_ (by decide +kernel) (pa_cons (pe_callB (k_len (K := K)) rfl B.len_ (by decide +kernel) (pa_cons (pv 2) pa_nil)) (pa_cons pe_int pa_nil))) (pa_cons (pe_lst pa_nil) pa_nil)) (by rfl))
      (pss_cons (ps_set (i := 11) sc__law_great_web.nd rfl (by first | exact Or.inl rfl | exact Or.inr rfl) (pe_c C__law_one hr (pa_cons (pv 0) (pa_cons (pe_lst (pa_cons (pv 9) (pa_cons (pe_c C__law_draw hr (pa_cons (pv 0) (pa_cons (pe_op op_add (pv 9) pe_int) pa_nil))) pa_nil))) pa_nil))))
      (pss_cons (ps_for PassesOwn.never rfl (kpi_list (K := K) (pe_slice (k_slL (K := K)) (pe_c C__law_mixed hr (pa_cons (pv 0) (pa_cons (pv 2) pa_nil))) po_none (po_some (pv 11)))) (kpg_tup (K := K) (n := 2) rfl (pgs_cons (pg_name (i := 12) sc__law_great_web.nd rfl (by first | exact Or.inl rfl | exact Or.inr rfl)) (pgs_cons (pg_name (i := 13) sc__law_great_web.nd rfl (by first | exact Or.inl rfl | exact Or.inr rfl)) pgs_nil))) (pss_one (ps_expr (pe_bm PySem.F.plainAttrs_list PySem.F.slot_list_append PySem.F.type_list_append mt_append (pv 10) (pa_cons (pe_ifExp (pt_cmpR op_eq (pe_c C__law_draw hr (pa_cons (pv 0) (pa_cons pe_int pa_nil))) pe_int (nomark _)) (pe_tup (pa_cons (pe_ix (k_ixL (K := K)) (pv 8) (pv 12) (fun _ _ => rfl)) (pa_cons (pe_ix (k_ixL (K := K)) (pv 8) (pv 13) (fun _ _ => rfl)) pa_nil))) (pe_tup (pa_cons (pe_ix (k_ixL (K := K)) (pv 8) (pv 13) (fun _ _ => rfl)) (pa_cons (pe_ix (k_ixL (K := K)) (pv 8) (pv 12) (fun _ _ => rfl)) pa_nil)))) pa_nil)))))
      (pss_one (ps_ret (pe_tup (pa_cons (pe_callTy (k_tupleF (K := K)) rfl B.tuple_ (by decide +kernel) (pa_cons (pe_c C__law_mixed hr (pa_cons (pv 0) (pa_cons (pv 8) pa_nil))) pa_nil)) (pa_cons (pe_callTy (k_tuple (K := K)) rfl B.tuple_ (by decide +kernel) (pa_cons (pv 10) pa_nil)) pa_nil))))))))))))), ?_⟩
    repeat' (walk_at "jv")
    refine ⟨a, 5, c, rfl, hf, by omega, by omega, by omega, fun r1 H1 r10 r11 f1 k1 => ?_⟩
    obtain ⟨m1, rfl⟩ := Int.eq_ofNat_of_zero_le r10
    have en : (4 : Int) + (m1 : Int) = ((4 + m1 : Nat) : Int) := by omega
    refine i_rI0 ?_
    rw [en]
    have hn : 4 ≤ 4 + m1 ∧ 4 + m1 ≤ 8 := by omega
    generalize 4 + m1 = n at *
    repeat' (walk_at "jv")
    intro L nL
    have nLa := f1.ne nL
    have nL0 : H L = none := k1.free nLa nL
    repeat' (walk_at "jv")
    refine ⟨a, 3, c + 1, rfl, by walk_at "jf", by omega, by omega, by omega, fun r2 H2 r20 r21 f2 k2 => ?_⟩
    have eL : H2 L = some (.lst []) := by walk_at "jl"
    have k20 : Ch a H H2 := by walk_at "jh"
    repeat' (walk_at "jv")
    intro p np
    have npL : L ≠ p := ne_of_none eL np
    repeat' (walk_at "jv")
    refine ⟨a, 26, c + 1 + 1, rfl, by walk_at "jf", by omega, by omega, by omega, fun r3 H3 r30 r31 f3 k3 => ?_⟩
    have eL3 : H3 L = some (.lst []) := by walk_at "jl"
    have k30 : Ch a H H3 := by walk_at "jh"
    repeat' (walk_at "jv")
    refine ⟨a, 7, c + 1 + 1 + 1, rfl, by walk_at "jf", by omega, by omega, by omega, fun r4 H4 r40 r41 f4 k4 => ?_⟩
    have eL4 : H4 L = some (.lst []) := by walk_at "jl"
    have k40 : Ch a H H4 := by walk_at "jh"
    repeat' (walk_at "jv")
    obtain ⟨m4, rfl⟩ := Int.eq_ofNat_of_zero_le r40
    have e14 : (1 : Int) + (m4 : Int) = ((1 + m4 : Nat) : Int) := by omega
    rw [e14]
    refine i_slS (by decide) ?_
    have hst : ∃ k r, (cutS "q7x0abc" none (some ((1 + m4 : Nat) : Int))).cps.toList = k :: r ∧ r.length ≤ 6 ∧ (97 ≤ k ∧ k ≤ 122) ∧ ∀ x ∈ r, nmSign x = true := by
      rw [cut_cps]
      exact stOk_is (stems_ok m4 (by omega))
    generalize cutS "q7x0abc" none (some ((1 + m4 : Nat) : Int)) = S at *
    obtain ⟨s3, rfl⟩ := Int.eq_ofNat_of_zero_le r30
    repeat' (walk_at "jv")
    intro p2 np2
    have npL2 : L ≠ p2 := ne_of_none eL4 np2
    repeat' (walk_at "jv")
    refine f_range (fun i σ H' => ∃ y7 pl, σ = [some (.ref a), some (.int n), some (.ref L), some (.int r2), some (.int s3), some (.str S), some (.str abc), y7, none, none, none, none, none, none, none] ∧ LsD K H' L (pl.map pairD) ∧ pl.Nodup ∧ (∀ p ∈ pl, p.1 < p.2 ∧ p.2 ≤ i) ∧ pl.length ≤ 8 * i ∧ Fd H' a (c + 4) ∧ Ch a H H')
      ⟨none, [], rfl, LsD.nil (by walk_at "jl"), List.nodup_nil, fun _ z => absurd z List.not_mem_nil, Nat.zero_le _, Fd.mono (c := c + 1 + 1 + 1 + 1) (by walk_at "jf") (by omega), by walk_at "jh"⟩ (fun i σ H5 hi h => ?_) (fun σ H5 h => ?_)
    · obtain ⟨y7, pl, rfl, ⟨vs, e5, d5, t5⟩, h1, h2, h3, f5, k5⟩ := h
      have hlen : vs.length = pl.length := by rw [DpAll.len d5, List.length_map]
      have e1 : (1 + (i : Int)) = ((i + 1 : Nat) : Int) := by omega
      rw [e1]
      repeat' (walk_at "jv")
      refine c_range (fun D j H' => D ≠ L ∧ D ≠ a ∧ H D = none ∧ H' L = some (.lst vs) ∧ DpAll K H' vs (pl.map pairD) ∧ LsD K H' D (((List.range j).map fun b => (b, i + 1)).map pairD) ∧ Fd H' a (c + 4) ∧ Ch a H H')
        (fun D nD => ⟨(ne_of_none e5 nD).symm, f5.ne nD, k5.free (f5.ne nD) nD, (upd_ne (ne_of_none e5 nD)).trans e5, DpAll.tk (TK.new nD) _ _ t5 d5, LsD.nil upd_same, by walk_at "jf", by walk_at "jh"⟩) (fun D j H6 hj h => ?_) (fun D H6 h => ?_)
      · obtain ⟨g1, g2, g3, g4, g5, ⟨us, g6, g7, g8⟩, g9, g10⟩ := h
        have hul : us.length = j := by rw [DpAll.len g7, List.length_map, List.length_map, List.length_range]
        have e0 : (0 : Int) + (j : Int) = (j : Int) := by omega
        rw [e0]
        repeat' (walk_at "jv")
        intro p3 np3
        have npD : D ≠ p3 := ne_of_none g6 np3
        have npL3 : L ≠ p3 := ne_of_none g4 np3
        repeat' (walk_at "jv")
        have hu8 : us.length < sizeLine := by rw [sizeLine_eq]; omega
        refine ⟨g1, g2, g3, ?_, ?_, ?_, ?_, ?_⟩
        · rw [upd_ne g1.symm, upd_ne npL3]
          exact g4
        · exact DpAll.tk ((TK.new np3).trans (TK.lst (xs := us) ((upd_ne npD).trans g6))) _ _ t5 g5
        · rw [List.range_succ, List.map_append, List.map_append]
          exact LsD.push2 g6 g7 g8 np3 (.int j) (.int (i + 1 : Nat)) rfl rfl
        · exact (g9.upd (Ne.symm (g9.ne np3))).upd g2.symm
        · exact (g10.upd_n np3).upd_l g3
      · obtain ⟨g1, g2, g3, g4, g5, ⟨us, g6, g7, g8⟩, g9, g10⟩ := h
        have hul : us.length = i + 1 := by rw [DpAll.len g7, List.length_map, List.length_map, List.length_range]; omega
        repeat' (walk_at "jv")
        have hin : i < 8 := by omega
        refine i_ext g4 g6 (by rw [sizeLine_eq]; omega) ?_
        repeat' (walk_at "jv")
        refine ⟨_, pl ++ (List.range (i + 1)).map fun b => (b, i + 1), rfl, ?_, ?_, ?_, ?_, ?_, ?_⟩
        · rw [List.map_append]
          have := LsD.ext g4 g5 t5 g7 g8
          have ei : (((i + 1 : Nat) : Int).toNat) = i + 1 := by omega
          rw [ei] at this
          exact this
        · refine List.nodup_append.mpr ⟨h1, ?_, fun x hx y hy => ?_⟩
          · refine List.Pairwise.map _ ?_ (List.nodup_range (n := i + 1))
            intro x y hxy e
            exact hxy (Prod.mk.inj e).1
          · obtain ⟨b, _, rfl⟩ := List.mem_map.mp hy
            intro z
            have := (h2 x hx).2
            rw [z] at this
            simp at this
            omega
        · intro p hp
          rcases List.mem_append.mp hp with hp | hp
          · have := h2 p hp
            exact ⟨this.1, by omega⟩
          · obtain ⟨b, hb, rfl⟩ := List.mem_map.mp hp
            have := List.mem_range.mp hb
            exact ⟨by show b < i + 1; omega, Nat.le_refl _⟩
        · rw [List.length_append, List.length_map, List.length_range]
          omega
        · exact g9.upd (fun z => by rw [z] at nLa; exact nLa rfl)
        · exact g10.upd_l nL0
    · obtain ⟨y7, pl, rfl, l5, h1, h2, h3, f5, k5⟩ := h
      repeat' (walk_at "jv")
      have ln : (((n : Int) - 1).toNat) ≤ 7 := by omega
      have hpl28 : pl.length ≤ 1000 := by omega
      have e0 : ∀ j : Nat, (0 : Int) + (j : Int) = (j : Int) := fun j => by omega
      have en' : ((n : Int)).toNat = n := by omega
      -- the names by their first signs
      refine c_range (fun D j H' => D ≠ L ∧ D ≠ a ∧ H D = none ∧ (∃ ns, H' D = some (.lst (ns.map V.str)) ∧ ns.length = j ∧ NmBy ns (sh1 s3)) ∧ LsD K H' L (pl.map pairD) ∧ Fd H' a (c + 4 + j) ∧ Ch a H H')
        (fun D nD => ?_) (fun D j H6 hj h => ?_) (fun D H6 h => ?_)
      · have nDL : D ≠ L := by
          obtain ⟨vs, e, _⟩ := l5
          exact (ne_of_none e nD).symm
        exact ⟨nDL, f5.ne nD, k5.free (f5.ne nD) nD, ⟨[], upd_same, rfl, NmBy.nil⟩, l5.new nD, by simpa using f5.upd (Ne.symm (f5.ne nD)), by walk_at "jh"⟩
      · obtain ⟨g1, g2, g3, ⟨ns, g4, g5, g6⟩, g7, g8, g9⟩ := h
        rw [e0]
        repeat' (walk_at "jv")
        refine i_abc (Int.emod_nonneg _ (by decide)) (Int.emod_lt_of_pos _ (by decide)) ?_
        repeat' (walk_at "jv")
        refine ⟨a, 8, _, rfl, g8, by omega, by omega, by omega, fun x H7 x0 x1 f7 k7 => ?_⟩
        obtain ⟨x, rfl⟩ := Int.eq_ofNat_of_zero_le x0
        repeat' (walk_at "jv")
        refine i_slS (by decide) ?_
        have ez := name1_cps s3 j x
        have lz : (⟨#[97 + (((s3 : Int) + 3 * (j : Int)) % 26).toNat]⟩ : Str).length + (cutS "z9a0b1c" none (some (x : Int))).length ≤ sizeLine := by
          rw [len_add, ez, sizeLine_eq]
          have h2 := (tail_is (x := x) (by omega)).1
          rw [List.length_cons]
          omega
        refine i_addS lz ?_
        generalize (⟨#[97 + (((s3 : Int) + 3 * (j : Int)) % 26).toNat]⟩ : Str) ++ cutS "z9a0b1c" none (some (x : Int)) = z at *
        have e7 : H7 D = some (.lst (ns.map V.str)) := k7 D _ g2 g4
        refine i_lcE e7 (by rw [List.length_map, sizeLine_eq]; omega) ?_
        refine ⟨g1, g2, g3, ⟨ns ++ [z], by rw [List.map_append]; exact upd_same, by rw [List.length_append, g5]; rfl, g6.snoc ⟨_, by rw [g5]; exact ez, tail_is (by omega)⟩⟩, ?_, ?_, (g9.trans k7).upd_l g3⟩
        · exact (g7.ch k7 g8 nLa).other e7 g1.symm
        · exact (f7.upd g2.symm).mono (by omega)
      · obtain ⟨g1, g2, g3, ⟨ns, g4, g5, g6⟩, g7, g8, g9⟩ := h
        rw [en'] at g5 g8
        refine i_gname ?_
        refine i_seq ?_
        refine i_cutS (fun σ H' => ∃ y7 N ns, σ = [some (.ref a), some (.int n), some (.ref L), some (.int r2), some (.int s3), some (.str S), some (.str abc), y7, some (.ref N), none, none, none, none, none, none] ∧ IsNames ns ∧ ns.length = n ∧ H' N = some (.lst (ns.map V.str)) ∧ N ≠ a ∧ N ≠ L ∧ LsD K H' L (pl.map pairD) ∧ Fd H' a (c + 20) ∧ Ch a H H') (fun M hM => ?_) ?_
        · repeat' (walk_at "jv")
          · rename_i hw0
            have keep : ∀ (sh : Nat → Str → Prop), (∀ ns, NmBy ns sh → ns.length = n → IsNames ns) → ∀ D2 H7, D2 ≠ L → D2 ≠ a → (∃ ns, H7 D2 = some (.lst (ns.map V.str)) ∧ ns.length = (n : Int).toNat ∧ NmBy ns sh) → LsD K H7 L (pl.map pairD) → Fd H7 a (c + 20) → Ch a H H7 →
                M [some (.ref a), some (.int n), some (.ref L), some (.int r2), some (.int s3), some (.str S), some (.str abc), y7, some (.ref D2), none, none, none, none, none, none] H7 := by
              rintro sh ok D2 H7 q1 q2 ⟨ms, q4, q5, q6⟩ q7 q8 q9
              rw [en'] at q5
              exact hM _ _ ⟨_, D2, ms, rfl, ok ms q6 q5, q5, q4, q2, q1, q7, q8, q9⟩
            by_cases hw : r2 = 1
            · refine c_range (fun D2 j H' => D2 ≠ L ∧ D2 ≠ a ∧ H D2 = none ∧ (∃ ns, H' D2 = some (.lst (ns.map V.str)) ∧ ns.length = j ∧ NmBy ns (sh2 S.cps.toList s3)) ∧ LsD K H' L (pl.map pairD) ∧ Fd H' a (c + 20) ∧ Ch a H H')
                (fun D2 nD2 => ?_) (fun D2 j H7 hj h => ?_) (fun D2 H7 h => ?_)
              · have nDL : D2 ≠ L := by
                  obtain ⟨vs, e, _⟩ := g7
                  exact (ne_of_none e nD2).symm
                exact ⟨nDL, g8.ne nD2, g9.free (g8.ne nD2) nD2, ⟨[], upd_same, rfl, NmBy.nil⟩, g7.new nD2, (g8.upd (Ne.symm (g8.ne nD2))).mono (by omega), g9.upd_n nD2⟩
              · obtain ⟨q1, q2, q3, ⟨ms, q4, q5, q6⟩, q7, q8, q9⟩ := h
                rw [e0]
                repeat' (walk_at "jv")
                · refine i_abc (Int.emod_nonneg _ (by decide)) (Int.emod_lt_of_pos _ (by decide)) ?_
                  have ez := name2_cps S s3 j
                  have lz : S.length + (⟨#[97 + (((s3 : Int) + (j : Int)) % 26).toNat]⟩ : Str).length ≤ sizeLine := by
                    rw [len_add, ez, sizeLine_eq, List.length_append]
                    obtain ⟨k, r, e, h6, _⟩ := hst
                    rw [e, List.length_cons]
                    show r.length + 1 + 1 ≤ _
                    omega
                  refine i_addS lz ?_
                  generalize S ++ (⟨#[97 + (((s3 : Int) + (j : Int)) % 26).toNat]⟩ : Str) = z at *
                  refine i_lcE q4 (by rw [List.length_map, sizeLine_eq]; omega) ?_
                  exact ⟨q1, q2, q3, ⟨ms ++ [z], by rw [List.map_append]; exact upd_same, by rw [List.length_append, q5]; rfl, q6.snoc (by rw [q5]; exact ez)⟩, q7.other q4 q1.symm, q8.upd q2.symm, q9.upd_l q3⟩
                · rename_i hw'
                  exact absurd hw hw'
              · obtain ⟨q1, q2, q3, q4, q7, q8, q9⟩ := h
                exact keep _ (fun ms x y => names2 hst x y (by omega)) D2 H7 q1 q2 q4 q7 q8 q9
            · refine c_range (fun D2 j H' => D2 ≠ L ∧ D2 ≠ a ∧ H D2 = none ∧ (∃ ns, H' D2 = some (.lst (ns.map V.str)) ∧ ns.length = j ∧ NmBy ns (sh3 s3)) ∧ LsD K H' L (pl.map pairD) ∧ Fd H' a (c + 20) ∧ Ch a H H')
                (fun D2 nD2 => ?_) (fun D2 j H7 hj h => ?_) (fun D2 H7 h => ?_)
              · have nDL : D2 ≠ L := by
                  obtain ⟨vs, e, _⟩ := g7
                  exact (ne_of_none e nD2).symm
                exact ⟨nDL, g8.ne nD2, g9.free (g8.ne nD2) nD2, ⟨[], upd_same, rfl, NmBy.nil⟩, g7.new nD2, (g8.upd (Ne.symm (g8.ne nD2))).mono (by omega), g9.upd_n nD2⟩
              · obtain ⟨q1, q2, q3, ⟨ms, q4, q5, q6⟩, q7, q8, q9⟩ := h
                rw [e0]
                repeat' (walk_at "jv")
                · rename_i hw'
                  exact absurd hw' hw
                · refine i_abc (by omega) (by omega) ?_
                  repeat' (walk_at "jv")
                  refine i_slS (by decide) ?_
                  have hj8 : j < 8 := by omega
                  have ez := name3_cps s3 j hj8
                  have lz : (⟨#[97 + ((s3 : Int)).toNat]⟩ : Str).length + (cutS "0000000" none (some (j : Int))).length ≤ sizeLine := by
                    rw [len_add, ez, sizeLine_eq, List.length_cons, List.length_replicate]
                    omega
                  refine i_addS lz ?_
                  generalize (⟨#[97 + ((s3 : Int)).toNat]⟩ : Str) ++ cutS "0000000" none (some (j : Int)) = z at *
                  refine i_lcE q4 (by rw [List.length_map, sizeLine_eq]; omega) ?_
                  exact ⟨q1, q2, q3, ⟨ms ++ [z], by rw [List.map_append]; exact upd_same, by rw [List.length_append, q5]; rfl, q6.snoc (by rw [q5]; exact ez)⟩, q7.other q4 q1.symm, q8.upd q2.symm, q9.upd_l q3⟩
              · obtain ⟨q1, q2, q3, q4, q7, q8, q9⟩ := h
                exact keep _ (fun ms x y => names3 (by omega) x y (by omega)) D2 H7 q1 q2 q4 q7 q8 q9
          · exact hM _ _ ⟨_, D, ns, rfl, names1 g6 g5 (by omega), g5, g4, g2, g1, g7, g8.mono (by omega), g9⟩
        · clear g4 g5 g6 g7 g8 g9 ns g1 g2 g3 l5 f5 k5
          rintro σ H7 ⟨y7, N, ns, rfl, hns, hnl, eN, nNa, nNL, l7, f7, k7⟩
          obtain ⟨vs, e7, d7, t7⟩ := l7
          have hlen : vs.length = pl.length := by rw [DpAll.len d7, List.length_map]
          repeat' (walk_at "jv")
          intro R nR
          have nRa : R ≠ a := f7.ne nR
          have nR0 : H R = none := k7.free nRa nR
          have nRN : R ≠ N := (ne_of_none eN nR).symm
          have nRL : R ≠ L := (ne_of_none e7 nR).symm
          obtain ⟨most, emost, hm14⟩ : ∃ most : Nat, min (vs.length : Int) 14 = most ∧ most ≤ 14 := ⟨min vs.length 14, by omega, by omega⟩
          rw [emost]
          have e7' : (upd H7 R (.lst [])) L = some (.lst vs) := (upd_ne nRL.symm).trans e7
          have eN' : (upd H7 R (.lst [])) N = some (.lst (ns.map V.str)) := (upd_ne nRN.symm).trans eN
          have d7' := DpAll.tk (TK.new (o := .lst []) nR) _ _ t7 d7
          have f7' : Fd (upd H7 R (.lst [])) a (c + 20) := f7.upd nRa.symm
          have k7' : Ch a H (upd H7 R (.lst [])) := k7.upd_n nR
          have eR' : (upd H7 R (.lst [])) R = some (.lst []) := upd_same
          generalize upd H7 R (.lst []) = J7 at *
          repeat' (walk_at "jv")
          refine ⟨a, (most : Int) + 1, c + 20, rfl, f7', by omega, by omega, by omega, fun x H8 x0 x1 f8 k8 => ?_⟩
          repeat' (walk_at "jv")
          intro Bx nB
          repeat' (walk_at "jv")
          have nBa : Bx ≠ a := f8.ne nB
          have f8' : Fd (upd H8 Bx (.lst [.int most, .int x])) a (c + 20 + 1) := f8.upd nBa.symm
          refine ⟨a, Bx, c + 20 + 1, [.int most, .int x], rfl, f8', SqA.l (sq_lst upd_same), nBa, by show 0 < 2; decide, by show 2 < 1000000; decide, by omega, fun v H9 hv f9 k9 => ?_⟩
          obtain ⟨cnt, rfl, hc14⟩ : ∃ cnt : Nat, v = .int cnt ∧ cnt ≤ 14 := by
            rcases List.mem_cons.mp hv with h | h
            · exact ⟨most, h, hm14⟩
            · obtain ⟨x', rfl⟩ := Int.eq_ofNat_of_zero_le x0
              rcases List.mem_singleton.mp h with rfl
              exact ⟨x', rfl, by omega⟩
          have kb : Ch a J7 H9 := (k8.upd_n nB).trans k9
          have tb : TK K J7 H9 := (TK.ch k8 f7').trans ((TK.new nB).trans (TK.ch k9 f8'))
          have e10 : H9 L = some (.lst vs) := kb L _ nLa e7'
          have eG10 : H9 N = some (.lst (ns.map V.str)) := kb N _ nNa eN'
          have eR10 : H9 R = some (.lst []) := kb R _ nRa eR'
          have d10 := DpAll.tk tb _ _ t7 d7'
          have k10 : Ch a H H9 := k7'.trans kb
          clear kb tb k9 k8 f8' nB nBa f8 hv e7' eN' d7' f7' k7' eR'
          repeat' (walk_at "jv")
          refine ⟨a, L, c + 22, vs, rfl, f9.mono (by omega), SqA.l (sq_lst e10), nLa, by omega, by omega, fun q8 zs8 HB pm n8 e8 f8 k8 => ?_⟩
          obtain ⟨es, pe, dy⟩ := DpAll.perm pm d10
          obtain ⟨pl0, pp, rfl⟩ := perm_map_inv pe rfl
          have n8a : q8 ≠ a := f9.ne n8
          have n8R : q8 ≠ R := (ne_of_none eR10 n8).symm
          repeat' (walk_at "jv")
          intro q9 n9
          have n9a : q9 ≠ a := f8.ne n9
          have eRB : HB R = some (.lst []) := k8 R _ nRa eR10
          have eGB : HB N = some (.lst (ns.map V.str)) := k8 N _ nNa eG10
          have n9R : q9 ≠ R := (ne_of_none eRB n9).symm
          have dyB : DpAll K HB zs8 (pl0.map pairD) := DpAll.tk (TK.ch k8 f9) _ _ (pairs_only pl0) dy
          have hz8 : zs8.length = pl0.length := by rw [DpAll.len dyB, List.length_map]
          obtain ⟨ys, hys0, pl', hpl0, dy90⟩ : ∃ ys, cutV zs8 none (some (cnt : Int)) = ys ∧ ∃ pl', pl' = pl0.take cnt ∧ DpAll K HB ys (pl'.map pairD) := by
            refine ⟨_, rfl, _, rfl, ?_⟩
            have ec : cutV zs8 none (some (cnt : Int)) = zs8.take cnt := by
              unfold cutV
              rw [HT.sIx_none, HT.sIx_nat, List.drop_zero, Nat.sub_zero]
              by_cases h : cnt ≤ zs8.length
              · rw [Nat.min_eq_left h]
              · rw [Nat.min_eq_right (by omega), List.take_of_length_le (Nat.le_refl _), List.take_of_length_le (by omega)]
            rw [ec, List.map_take]
            exact DpAll.take cnt dyB
          rw [hys0]
          have e9 : (upd HB q9 (.lst ys)) q9 = some (.lst ys) := upd_same
          have dy9 : DpAll K (upd HB q9 (.lst ys)) ys (pl'.map pairD) := DpAll.tk (TK.new n9) _ _ (pairs_only pl') dy90
          have eR9 : (upd HB q9 (.lst ys)) R = some (.lst []) := (upd_ne n9R.symm).trans eRB
          have eG9 : (upd HB q9 (.lst ys)) N = some (.lst (ns.map V.str)) := (upd_ne (ne_of_none eGB n9)).trans eGB
          have k90 : Ch a H (upd HB q9 (.lst ys)) := (k10.trans k8).upd_n n9
          have f9' : Fd (upd HB q9 (.lst ys)) a (c + 2000) := (f8.upd n9a.symm).mono (by omega)
          have hpl' : pl'.length ≤ 14 := by rw [hpl0, List.length_take]; omega
          have hys : ys.length = pl'.length := by rw [DpAll.len dy90, List.length_map]
          have nd' : pl'.Nodup := hpl0 ▸ (pp.nodup_iff.mpr h1).sublist (List.take_sublist _ _)
          have ltn : ∀ p ∈ pl', p.1 < p.2 ∧ p.2 < n := fun p hp' => by
            have h := h2 p (pp.mem_iff.mp (List.mem_of_mem_take (hpl0 ▸ hp')))
            exact ⟨h.1, by omega⟩
          have hl : (ns.length : Int) = n := by omega
          have nGa := nNa
          have nRG := nRN
          clear hys0 hpl0 dy90 e8 f9 k8 dyB eRB eGB n8 n8a n8R pm e10 eG10 eR10 d10 k10 dy pe pp
          generalize N = G at *
          generalize upd HB q9 (.lst ys) = H9 at *
          have f9 := f9'
          repeat' (walk_at "jv")
          refine f_list ys (fun i σ H' => ∃ y9 y10 rs, σ = [some (.ref a), some (.int n), some (.ref L), some (.int r2), some (.int s3), some (.str S), some (.str abc), y7, some (.ref G), some (.int most), some (.ref R), some (.int cnt), y9, y10, none] ∧ H' q9 = some (.lst ys) ∧ DpAll K H' ys (pl'.map pairD) ∧ H' G = some (.lst (ns.map V.str)) ∧
              LsD K H' R (rs.map roadD) ∧ rs.length = i ∧ (∀ (k : Nat) p x, pl'[k]? = some p → rs[k]? = some x → RoadOf ns p x) ∧ Fd H' a (c + 3000 + 2 * i) ∧ Ch a H H')
            ⟨_, _, [], rfl, e9, dy9, eG9, LsD.nil eR9, rfl, fun k p x _ z => by simp at z, f9.mono (by omega), k90⟩ (fun i σ H' _ h => ?_) (fun i x σ H' hx h => ?_) (fun σ H' h => ?_)
          · obtain ⟨_, _, _, _, h1, _⟩ := h
            exact sq_lst h1
          · obtain ⟨y9, y10, rs, rfl, h1, h2, h3, h4, h5, h6, h7, h8⟩ := h
            obtain ⟨d, hd, dx⟩ := DpAll.get h2 hx
            have hi : i < ys.length := (List.getElem?_eq_some_iff.mp hx).1
            have hip : i < pl'.length := by omega
            rw [List.getElem?_map, List.getElem?_eq_getElem hip] at hd
            have hd' : pairD pl'[i] = d := Option.some.inj hd
            subst hd'
            obtain ⟨p1, p2⟩ := ltn pl'[i] (List.getElem_mem hip)
            have ats : ∀ k, k < n → ∃ z, ns[k]? = some z ∧ atI (ns.map V.str) (k : Int) = some (.str z) := fun k hk => by
              have hk' : k < ns.length := by omega
              exact ⟨ns[k], List.getElem?_eq_getElem hk', atI_nat (by rw [List.getElem?_map, List.getElem?_eq_getElem hk']; rfl)⟩
            obtain ⟨z1, a1, b1⟩ := ats pl'[i].1 (by omega)
            obtain ⟨z2, a2, b2⟩ := ats pl'[i].2 (by omega)
            cases dx with
            | tup hs ha =>
              rename_i b xs
              cases ha with
              | cons g1 g2 =>
                cases g1
                cases g2 with
                | cons g3 g4 =>
                  cases g3
                  cases g4
                  refine ⟨b, _, rfl, hs, rfl, _, _, rfl, ?_⟩
                  refine i_gname ?_
                  refine ⟨_, _, rfl, ?_⟩
                  refine i_gname ?_
                  refine ⟨rfl, ?_⟩
                  refine i_drop ?_
                  refine i_bm ?_
                  refine i_var rfl ?_
                  obtain ⟨ws, ew, dw, tw⟩ := h4
                  have hws : ws.length = rs.length := by rw [DpAll.len dw, List.length_map]
                  refine i_tyL (sq_lst ew) ?_
                  refine i_cons ?_
                  have push : ∀ (H5 : Hp) (p : Addr) (x : Str × Str), RoadOf ns pl'[i] x → H5 p = none → Ch a H' H5 → Fd H5 a (c + 3000 + 2 * i + 1) →
                      ∃ (y9 y10 : Option V) (rs : List (Str × Str)), ([some (.ref a), some (.int n), some (.ref L), some (.int r2), some (.int s3), some (.str S), some (.str abc), y7, some (.ref G), some (.int most), some (.ref R), some (.int cnt), some (.int pl'[i].1), some (.int pl'[i].2), none] : L2.St) = [some (.ref a), some (.int n), some (.ref L), some (.int r2), some (.int s3), some (.str S), some (.str abc), y7, some (.ref G), some (.int most), some (.ref R), some (.int cnt), y9, y10, none] ∧
                        (upd (upd H5 p (.tup [.str x.1, .str x.2])) R (.lst (ws ++ [.ref p]))) q9 = some (.lst ys) ∧ DpAll K (upd (upd H5 p (.tup [.str x.1, .str x.2])) R (.lst (ws ++ [.ref p]))) ys (pl'.map pairD) ∧ (upd (upd H5 p (.tup [.str x.1, .str x.2])) R (.lst (ws ++ [.ref p]))) G = some (.lst (ns.map V.str)) ∧
                        LsD K (upd (upd H5 p (.tup [.str x.1, .str x.2])) R (.lst (ws ++ [.ref p]))) R (rs.map roadD) ∧ rs.length = i + 1 ∧ (∀ (k : Nat) p x, pl'[k]? = some p → rs[k]? = some x → RoadOf ns p x) ∧ Fd (upd (upd H5 p (.tup [.str x.1, .str x.2])) R (.lst (ws ++ [.ref p]))) a (c + 3000 + 2 * (i + 1 : Nat)) ∧ Ch a H (upd (upd H5 p (.tup [.str x.1, .str x.2])) R (.lst (ws ++ [.ref p]))) := by
                    intro H5 p x rx np k5 f5
                    have e5R : H5 R = some (.lst ws) := k5 R _ nRa ew
                    have e59 : H5 q9 = some (.lst ys) := k5 q9 _ n9a h1
                    have e5G : H5 G = some (.lst (ns.map V.str)) := k5 G _ nGa h3
                    have t5 : TK K H' H5 := TK.ch k5 h7
                    have d5w := DpAll.tk t5 _ _ tw dw
                    have npR : R ≠ p := ne_of_none e5R np
                    have np9 : q9 ≠ p := ne_of_none e59 np
                    have npG : G ≠ p := ne_of_none e5G np
                    refine ⟨_, _, rs ++ [x], rfl, ?_, ?_, ?_, by rw [List.map_append]; exact LsD.push2 e5R d5w tw np (.str x.1) (.str x.2) rfl rfl, by rw [List.length_append, h5]; rfl, ?_, ?_, ?_⟩
                    · rw [upd_ne n9R, upd_ne np9]
                      exact e59
                    · exact DpAll.tk ((t5.trans (TK.new np)).trans (TK.lst (xs := ws) (by rw [upd_ne npR]; exact e5R))) _ _ (pairs_only pl') h2
                    · rw [upd_ne nRG.symm, upd_ne npG]
                      exact e5G
                    · intro k p' x' hp' hx'
                      by_cases hk : k < rs.length
                      · rw [List.getElem?_append_left hk] at hx'
                        exact h6 k p' x' hp' hx'
                      · rw [List.getElem?_append_right (by omega)] at hx'
                        have hk0 : k - rs.length = 0 := by
                          cases z : k - rs.length with
                          | zero => rfl
                          | succ m => rw [z] at hx'; simp at hx'
                        rw [hk0] at hx'
                        have hxx : x = x' := by simpa using hx'
                        subst hxx
                        have hki : k = i := by omega
                        subst hki
                        rw [List.getElem?_eq_getElem hip] at hp'
                        have := Option.some.inj hp'
                        subst this
                        exact rx
                    · have := ((f5.upd (q := p) (o := .tup [.str x.1, .str x.2]) (Ne.symm (f5.ne np))).upd (q := R) (o := .lst (ws ++ [.ref p])) (Ne.symm nRa)).mono (d := c + 3000 + 2 * (i + 1 : Nat)) (by omega)
                      exact this
                    · exact ((h8.trans k5).upd_n np).upd_l nR0
                  refine i_if ?_
                  repeat' (walk_at "js")
                  repeat' (walk_at "jv")
                  refine ⟨a, 2, _, rfl, h7, by omega, by omega, by omega, fun rr H5 s0 s1 f5 k5 => ?_⟩
                  have e5R : H5 R = some (.lst ws) := k5 R _ nRa ew
                  have e5G : H5 G = some (.lst (ns.map V.str)) := k5 G _ nGa h3
                  repeat' (walk_at "jv")
                  · intro p np
                    have npR : R ≠ p := ne_of_none e5R np
                    repeat' (walk_at "jv")
                    exact push H5 p (z1, z2) (.inl ⟨a1, a2⟩) np k5 f5
                  · intro p np
                    have npR : R ≠ p := ne_of_none e5R np
                    repeat' (walk_at "jv")
                    exact push H5 p (z2, z1) (.inr ⟨a1, a2⟩) np k5 f5
          · obtain ⟨y9, y10, rs, rfl, h1, h2, h3, h4, h5, h6, h7, h8⟩ := h
            repeat' (walk_at "jv")
            refine ⟨a, G, _, ns.map V.str, rfl, h7, SqA.l (sq_lst h3), nGa, by rw [List.length_map]; omega, by omega, fun W zs HA pz nW eW fA kA => ?_⟩
            obtain ⟨ws, ew, dw, tw⟩ := h4.ch kA h7 nRa
            have hwl : ws.length = rs.length := by rw [DpAll.len dw, List.length_map]
            have kA0 : Ch a H HA := h8.trans kA
            obtain ⟨es, pe2, dz⟩ := DpAll.perm pz (DpAll.strs (K := K) (H := HA) ns)
            obtain ⟨ps, pps, rfl⟩ := perm_map_inv pe2 rfl
            have ez := DpAll.strs_inv dz
            subst ez
            repeat' (walk_at "jv")
            refine ⟨W, ps.map V.str, rfl, sq_lst eW, fun T1 ob nT1 okb => ?_⟩
            repeat' (walk_at "jv")
            intro T2 nT2
            refine i_nil ?_
            refine i_al (by show 2 ≤ sizeLine; decide) ?_
            intro T3 nT3
            have c1 : TK K HA (upd HA T1 (.frz ob (.tup (ps.map V.str)))) := TK.new nT1
            have c2 : TK K (upd HA T1 (.frz ob (.tup (ps.map V.str)))) (upd (upd HA T1 (.frz ob (.tup (ps.map V.str)))) T2 (.tup ws)) := TK.new nT2
            have c3 : TK K (upd (upd HA T1 (.frz ob (.tup (ps.map V.str)))) T2 (.tup ws)) (upd (upd (upd HA T1 (.frz ob (.tup (ps.map V.str)))) T2 (.tup ws)) T3 (.tup [.ref T1, .ref T2])) := TK.new nT3
            refine q _ ps rs _ (web_of hns pps (by omega) (by omega) (nd') (fun p hp' => (ltn p hp').1) (by omega) (by omega) h6) ?_ ?_ ?_
            · refine ⟨T3, T1, T2, rfl, .inl (.inl upd_same), (FT.same (FT.new (p := T1) okb) (Same.upd_new nT2)).same (Same.upd_new nT3), ?_⟩
              exact Dp.tk c3 _ _ (roads_only rs) (.tup (xs := ws) (.inl (.inl upd_same)) (DpAll.tk (c1.trans c2) _ _ tw dw))
            · have g1 := fA.upd (q := T1) (o := .frz ob (.tup (ps.map V.str))) (Ne.symm (fA.ne nT1))
              have g2 := g1.upd (q := T2) (o := .tup ws) (Ne.symm (g1.ne nT2))
              exact (g2.upd (Ne.symm (g2.ne nT3))).mono (by omega)
            · exact ((kA0.upd_n nT1).upd_n nT2).upd_n nT3
end
end
section
open L2 PySem PySem.Spec PyProof.Rows
abbrev s__law_great_hall : Stmt := topS 40
theorem sc__law_great_hall : FnScope ["_law_feed_here", "_law_k", "_law_web_here", "_law_places", "_law_place", "_law_road"] ["_law_feed_here"] (defScope s__law_great_hall) := ⟨rfl, rfl, rfl, by decide +kernel, rfl, by decide +kernel, by decide +kernel⟩
abbrev s__law_any_hall : Stmt := topS 41
theorem sc__law_any_hall : FnScope ["_law_feed_here"] ["_law_feed_here"] (defScope s__law_any_hall) := ⟨rfl, rfl, rfl, by decide +kernel, rfl, by decide +kernel, by decide +kernel⟩
def spGreatHF (K : PySem.W.Frag) : Sp := fun vs H Q _ => ∃ (a : Addr) (c : Int), vs = [.ref a] ∧ Fd H a c ∧ c < 10 ^ 11 ∧
  ∀ (v : V) (k : Nat) (ps : List Str) (rs : List (Str × Str)) (ds : List PyData) (H' : Hp), IsHall k ps rs ds → HF K H' v k ps rs ds → Fd H' a (c + 1000000000) → Ch a H H' → Q v H'
def spAnyHG (K : PySem.W.Frag) : Sp := fun vs H Q _ => ∃ (a : Addr) (c : Int), vs = [.ref a] ∧ Fd H a c ∧ c < 10 ^ 10 ∧
  ∀ (v : V) (k : Nat) (ps : List Str) (rs : List (Str × Str)) (ds : List PyData) (H' : Hp), IsHall k ps rs ds → HF K H' v k ps rs ds → Fd H' a (c + 2000000000) → Ch a H H' → Q v H'
section
variable {base : Heap} {P : Program} {w : World} {K : PySem.W.Frag} {mg : Str → Option Value}
theorem ok_great_hall (D : Dn K mg "_law_great_hall" s__law_great_hall ["_law_feed_here"]) (B : Bn mg) (C__law_draw : Cl P w K mg base 1 "_law_draw" ["_law_feed_here", "_law_many"] spDraw) (C__law_great_web : Cl P w K mg base 4 "_law_great_web" ["_law_feed_here"] (spGreatWebF K))
    (C__law_neighbours : Cl P w K mg base 1 "_law_neighbours" ["_law_web_here", "_law_place"] (spNear K)) (C__law_rule : Cl P w K mg base 4 "_law_rule" ["_law_feed_here", "_law_k", "_law_others", "_law_sort"] (spRule K)) :
    Cl P w K mg base 5 "_law_great_hall" ["_law_feed_here"] (spGreatHF K) := by
  refine D.cl sc__law_great_hall (fun vs H Q E h => ?_) (fun f cdv A outer s H vs Q E hr h => ?_)
  · obtain ⟨a, c, rfl, _⟩ := h
    rfl
  · obtain ⟨a, c, rfl, hf, hc, q⟩ := h
    refine ⟨_, (pss_cons (ps_asg (pe_tup (pa_cons pe_int (pa_cons (pe_c C__law_great_web hr (pa_cons (pv 0) pa_nil)) pa_nil))) (kpg_tup (K := K) (n := 2) rfl (pgs_cons (pg_name (i := 1) sc__law_great_hall.nd rfl (by first | exact Or.inl rfl | exact Or.inr rfl)) (pgs_cons (pg_name (i := 2) sc__law_great_hall.nd rfl (by first | exact Or.inl rfl | exact Or.inr rfl)) pgs_nil))))
      (pss_cons (ps_if (pt_cmpR op_eq (pe_c C__law_draw hr (pa_cons (pv 0) (pa_cons pe_int pa_nil))) pe_int (nomark _)) (pss_cons (ps_asg (pe_tup (pa_cons pe_int (pa_cons (pe_slice (ksl_tupF (K := K)) (pe_ix (k_ixT (K := K)) (pv 2) pe_int (fun _ _ => rfl)) po_none (po_some pe_int)) pa_nil))) (kpg_tup (K := K) (n := 2) rfl (pgs_cons (pg_name (i := 1) sc__law_great_hall.nd rfl (by first | exact Or.inl rfl | exact Or.inr rfl)) (pgs_cons (pg_name (i := 3) sc__law_great_hall.nd rfl (by first | exact Or.inl rfl | exact Or.inr rfl)) pgs_nil))))
      (pss_one (ps_set (i := 2) sc__law_great_hall.nd rfl (by first | exact Or.inl rfl | exact Or.inr rfl) (pe_tup (pa_cons (pv 3) (pa_cons (pe_callTy (k_tuple (K := K)) rfl B.tuple_ (by decide +kernel) (pa_cons (pe_lc (own := [("_law_road", 5)]) rfl sc__law_great_hall.nd (kpi_tup (K := K) (pe_ix (k_ixT (K := K)) (pv 2) pe_int (fun _ _ => rfl))) (blkOk_by (N := ["_law_feed_here", "_law_k", "_law_web_here", "_law_places", "_law_place", "_law_road"]) (sc := defScope s__law_great_hall) (by decide +kernel)) (fun _ _ _ _ _ => (pg_name (i := 5) sc__law_great_hall.nd rfl (by first | exact Or.inl rfl | exact Or.inr rfl))) (fun _ _ _ _ _ => pts_one (PW.pt (pw_and (pt_cmpR (k_inS (K := K)) (pe_ix (k_ixT (K := K)) (pv 5) pe_int (fun _ _ => rfl)) (pv 3) (by rfl)) (pw_and1 (pt_cmpR (k_inS (K := K)) (pe_ix (k_ixT (K := K)) (pv 5) pe_int (fun _ _ => rfl)) (pv 3) (by rfl)))))) (fun _ _ _ _ _ => (pv 5))) pa_nil)) pa_nil)))))) pss_nil)
      (pss_one (ps_ret (pe_tup (pa_cons (pv 1) (pa_cons (pv 2) (pa_cons (pe_callTy (k_tuple (K := K)) rfl B.tuple_ (by decide +kernel) (pa_cons (pe_lc (own := [("_law_place", 4)]) rfl sc__law_great_hall.nd (kpi_tup (K := K) (pe_ix (k_ixT (K := K)) (pv 2) pe_int (fun _ _ => rfl))) (blkOk_by (N := ["_law_feed_here", "_law_k", "_law_web_here", "_law_places", "_law_place", "_law_road"]) (sc := defScope s__law_great_hall) (by decide +kernel)) (fun _ _ _ _ _ => (pg_name (i := 4) sc__law_great_hall.nd rfl (by first | exact Or.inl rfl | exact Or.inr rfl))) (fun _ _ _ _ _ => pts_nil) (fun _ _ _ _ _ => (pe_c C__law_rule hr (pa_cons (pv 0) (pa_cons (pv 1) (pa_cons (pe_c C__law_neighbours hr (pa_cons (pv 2) (pa_cons (pv 4) pa_nil))) (pa_cons pe_str pa_nil))))))) pa_nil)) pa_nil)))))))), ?_⟩
    repeat' (walk_at "jv")
    refine ⟨a, c, rfl, hf, by omega, fun v ps rs H1 hW dW f1 k1 => ?_⟩
    repeat' (walk_at "jv")
    intro X0 n0
    have f10 := f1.upd (q := X0) (o := .tup [.int 2, v]) (Ne.symm (f1.ne n0))
    have k10 := k1.upd_n (o := .tup [.int 2, v]) n0
    have dW0 := dW.same (Same.upd_new (o := .tup [.int 2, v]) n0)
    have e00 : SqT K (upd H1 X0 (.tup [.int 2, v])) X0 [.int 2, v] := .inl (.inl upd_same)
    generalize upd H1 X0 (.tup [.int 2, v]) = J1 at *
    repeat' (walk_at "js")
    refine i_gtup (xs := [.int 2, v]) e00 rfl ?_
    refine i_gcons ?_
    refine i_gname ?_
    refine i_gcons ?_
    refine i_gname ?_
    refine i_gnil ?_
    refine i_seq ?_
    refine i_cutS (fun σ H' => ∃ y3, ∃ k : Nat, ∃ v ps rs, σ = [some (.ref a), some (.int k), some v, y3, none, none] ∧ (k = 2 ∨ k = 3) ∧ IsWeb ps rs ∧ k ^ ps.length ≤ 256 ∧ WF K H' v ps rs ∧ Fd H' a (c + 10002) ∧ Ch a H H') (fun N hN => ?_) ?_
    · repeat' (walk_at "jv")
      refine ⟨a, 3, c + 10000, rfl, f10, by omega, by omega, by omega, fun r1 H2 r10 r11 f2 k2 => ?_⟩
      have dW2 := dW0.ch k2 f10
      have k20 := k10.trans k2
      repeat' (walk_at "jv")
      · obtain ⟨t, tp, tr, rfl, s1, fP, dRr⟩ := id dW2
        obtain ⟨tr', xs, e, s3, d3⟩ := tup_parts dRr
        cases e
        have s2 := fP.sq (K := K)
        repeat' (walk_at "jv")
        refine i_slF fP fun tq H3 sm3 fq => ?_
        have e5 : cutV (ps.map V.str) none (some 5) = (ps.take 5).map V.str := (cut_take (k := 5)).trans (List.map_take ..).symm
        rw [e5] at fq
        have sq := fq.sq (K := K)
        have tk3 : TK K H2 H3 := TK.same sm3
        have f3 : Fd H3 a (c + 10001) := (f2.same sm3).mono (by omega)
        have k3 : Ch a H H3 := k20.trans (Ch.of_same sm3)
        repeat' (walk_at "jv")
        intro X1 n1
        have tk4 : TK K H3 (upd H3 X1 (.tup [.int 3, .ref tq])) := TK.new n1
        replace fq := fq.same (Same.upd_new (o := .tup [.int 3, .ref tq]) n1)
        have f4 := f3.upd (q := X1) (o := .tup [.int 3, .ref tq]) (Ne.symm (f3.ne n1))
        have k4 := k3.upd_n (o := .tup [.int 3, .ref tq]) n1
        have e4 : SqT K (upd H3 X1 (.tup [.int 3, .ref tq])) X1 [.int 3, .ref tq] := .inl (.inl upd_same)
        generalize upd H3 X1 (.tup [.int 3, .ref tq]) = H4 at *
        have s14 := tk4 _ _ (tk3 _ _ s1)
        have s34 := tk4 _ _ (tk3 _ _ s3)
        have d34 := DpAll.tk (tk3.trans tk4) _ _ (roads_only rs) d3
        have sq4 := tk4 _ _ sq
        repeat' (walk_at "js")
        refine i_gtup (xs := [.int 3, .ref tq]) e4 rfl ?_
        repeat' (walk_at "jv")
        have hxr : xs.length = rs.length := by rw [DpAll.len d3, List.length_map]
        have hW14 := hW.le14
        refine c_tup xs (fun D j H' => D ≠ a ∧ H D = none ∧ (∃ us, H' D = some (.lst us) ∧ us.length ≤ j ∧ DpAll K H' us (((rs.take j).filter (keepR (ps.take 5))).map roadD)) ∧ (TK K H4 H' ∧ FT H' tq ((ps.take 5).map V.str)) ∧ Fd H' a (c + 10001) ∧ Ch a H H')
          (fun D nD => ⟨f4.ne nD, k4.free (f4.ne nD) nD, ⟨[], upd_same, Nat.le_refl _, .nil⟩, ⟨TK.new nD, fq.same (Same.upd_new nD)⟩, f4.upd (Ne.symm (f4.ne nD)), k4.upd_n nD⟩) (fun D j H5 hj h => ?_) (fun D j x H5 hx h => ?_) (fun D H5 h => ?_)
        · obtain ⟨_, _, _, ⟨tk, _⟩, _⟩ := h
          exact tk _ _ s34
        · obtain ⟨g1, g2, ⟨us, g3, g4, g5⟩, ⟨tk, fq5⟩, g6, g7⟩ := h
          have hj : j < xs.length := (List.getElem?_eq_some_iff.mp hx).1
          have hjr : j < rs.length := by omega
          have sq5 := tk _ _ sq4
          obtain ⟨d, hd, dx⟩ := DpAll.get (DpAll.tk tk _ _ (roads_only rs) d34) hx
          rw [List.getElem?_map, List.getElem?_eq_getElem hjr] at hd
          obtain rfl : roadD rs[j] = d := Option.some.inj hd
          have dx' := dx
          cases dx with
          | tup hs ha =>
            rename_i bx ws
            cases ha with
            | cons w1 w2 =>
              cases w1
              cases w2 with
              | cons w3 w4 =>
                cases w3
                cases w4
                have extg : ∀ kf : Str × Str → Bool, ((rs.take (j + 1)).filter kf) = ((rs.take j).filter kf) ++ (if kf rs[j] = true then [rs[j]] else []) := by
                  intro kf
                  rw [List.take_add_one, List.getElem?_eq_getElem hjr, List.filter_append]
                  show _ ++ List.filter kf [rs[j]] = _
                  by_cases z : kf rs[j] = true
                  · simp [z]
                  · simp [z]
                have ext := extg (keepR (ps.take 5))
                have no : keepR (ps.take 5) rs[j] = false → D ≠ a ∧ H D = none ∧ (∃ us, H5 D = some (.lst us) ∧ us.length ≤ j + 1 ∧ DpAll K H5 us (((rs.take (j + 1)).filter (keepR (ps.take 5))).map roadD)) ∧ (TK K H4 H5 ∧ FT H5 tq ((ps.take 5).map V.str)) ∧ Fd H5 a (c + 10001) ∧ Ch a H H5 := fun z => by
                  rw [ext, z, if_neg Bool.false_ne_true, List.append_nil]
                  exact ⟨g1, g2, ⟨us, g3, by omega, g5⟩, ⟨tk, fq5⟩, g6, g7⟩
                repeat' (walk_at "jv")
                · rename_i h1 h2
                  refine ⟨g1, g2, ⟨us ++ [.ref bx], upd_same, by rw [List.length_append]; show us.length + 1 ≤ _; omega, ?_⟩, ⟨tk.trans (TK.lst g3), ft_lst fq5 g3⟩, g6.upd g1.symm, g7.upd_l g2⟩
                  have z : keepR (ps.take 5) rs[j] = true := by
                    show (decide _ && decide _) = true
                    rw [decide_eq_true h1, decide_eq_true h2]
                    rfl
                  rw [ext, if_pos z, List.map_append]
                  have rt : tupOnlyAll ([rs[j]].map roadD) = true := roads_only [rs[j]]
                  exact DpAll.tk (TK.lst g3) _ _ (tupOnlyAll_app _ _ (roads_only _) rt) (DpAll.app g5 (.cons dx' .nil))
                · rename_i h1 h2
                  refine no ?_
                  show (decide _ && decide _) = false
                  rw [decide_eq_false h2, Bool.and_false]
                · rename_i h1
                  refine no ?_
                  show (decide _ && decide _) = false
                  rw [decide_eq_false h1, Bool.false_and]
        · obtain ⟨g1, g2, ⟨us, g3, g4, g5⟩, ⟨tk, fq5⟩, g6, g7⟩ := h
          rw [hxr, List.take_length] at g5
          have sq5 := tk _ _ sq4
          repeat' (walk_at "jv")
          intro T1 nT1
          repeat' (walk_at "jv")
          intro T2 nT2
          have u1 : TK K H5 (upd H5 T1 (.tup us)) := TK.new nT1
          have u2 : TK K (upd H5 T1 (.tup us)) (upd (upd H5 T1 (.tup us)) T2 (.tup [.ref tq, .ref T1])) := TK.new nT2
          have v1 := g6.upd (q := T1) (o := .tup us) (Ne.symm (g6.ne nT1))
          have v2 := v1.upd (q := T2) (o := .tup [.ref tq, .ref T1]) (Ne.symm (v1.ne nT2))
          refine hN _ _ ⟨_, 3, .ref T2, ps.take 5, rs.filter (keepR (ps.take 5)), rfl, .inr rfl, web_take hW, ?_, ?_, v2.mono (by omega), (g7.upd_n nT1).upd_n nT2⟩
          · exact Nat.le_trans (Nat.pow_le_pow_right (by decide) (show (ps.take 5).length ≤ 5 by rw [List.length_take]; omega)) (by decide)
          · refine ⟨T2, tq, T1, rfl, .inl (.inl upd_same), (fq5.same (Same.upd_new nT1)).same (Same.upd_new nT2), ?_⟩
            exact .tup (u2 _ _ (.inl (.inl upd_same))) (DpAll.tk (u1.trans u2) _ _ (roads_only _) g5)
      · exact hN _ _ ⟨_, 2, v, ps, rs, rfl, .inl rfl, hW, Nat.le_trans (Nat.pow_le_pow_right (by decide) hW.le8) (by decide), dW2, f2.mono (by omega), k20⟩
    clear hW dW dW0 f1 k1 f10 k10 e00 n0
    rintro σ H2 ⟨y3, k, v, ps, rs, rfl, hk, hW, hfew, dW, f2, k20⟩
    obtain ⟨t, tp, tr, rfl, s1, fP, dRr⟩ := id dW
    have s2 := fP.sq (K := K)
    repeat' (walk_at "jv")
    refine c_tup (ps.map V.str) (fun D j H' => D ≠ a ∧ H D = none ∧ (∃ us, ∃ ds : List PyData, H' D = some (.lst us) ∧ DpAll K H' us ds ∧ ds.length = j ∧ RulesTo k ps rs ds) ∧ (TK K H2 H' ∧ WF K H' (.ref t) ps rs) ∧ Fd H' a (c + 10010 + 10000000 * j) ∧ Ch a H H')
      (fun D nD => ⟨f2.ne nD, k20.free (f2.ne nD) nD, ⟨[], [], upd_same, .nil, rfl, RulesTo.nil⟩, ⟨TK.new nD, dW.same (Same.upd_new nD)⟩, (f2.upd (Ne.symm (f2.ne nD))).mono (by omega), k20.upd_n nD⟩) (fun D j H3 hj h => ?_) (fun D j x H3 hx h => ?_) (fun D H3 h => ?_)
    · obtain ⟨_, _, _, ⟨tk, _⟩, _⟩ := h
      exact tk _ _ s2
    · obtain ⟨g1, g2, ⟨us, ds, g3, g4, g5, g6⟩, ⟨tk, wf⟩, g7, g8⟩ := h
      have hul : us.length = j := by rw [DpAll.len g4, g5]
      have hj : j < ps.length := by
        have := (List.getElem?_eq_some_iff.mp hx).1
        rwa [List.length_map] at this
      have hj8 := hW.le8
      rw [List.getElem?_map, List.getElem?_eq_getElem hj] at hx
      obtain rfl : V.str ps[j] = x := Option.some.inj hx
      have hmem : ps[j] ∈ ps := List.getElem_mem hj
      repeat' (walk_at "jv")
      refine ⟨.ref t, ps[j], ps, rs, rfl, wf.dp, hW, hmem, fun p H4 np sm e4 => ?_⟩
      have f4 : Fd H4 a (c + 10010 + 10000000 * j) := by
        obtain ⟨x, y, n, h1, h2⟩ := g7
        exact ⟨x, y, n, sm _ _ h1, h2⟩
      repeat' (walk_at "jv")
      refine ⟨a, p, k, nearL ps rs ps[j], _, _, rfl, f4, hk, e4, g7.ne np, near_len hW hmem, near_names hW, by omega, fun v d H5 hR dv f5 k5 => ?_⟩
      have e5 : H5 D = some (.lst us) := k5 D _ g1 (sm _ _ g3)
      have tk5 : TK K H3 H5 := (TK.same sm).trans (TK.ch k5 f4)
      have d5 := DpAll.tk tk5 _ _ g6.only g4
      repeat' (walk_at "jv")
      have hds : RulesTo k ps rs (ds ++ [d]) := g6.snoc (by rw [g5]; exact List.getElem?_eq_getElem hj) hR
      refine ⟨g1, g2, ⟨us ++ [v], ds ++ [d], upd_same, DpAll.tk (TK.lst e5) _ _ hds.only (DpAll.app d5 (.cons dv .nil)), by rw [List.length_append, g5]; rfl, hds⟩, ⟨(tk.trans tk5).trans (TK.lst e5), ((wf.same sm).ch k5 f4).lst e5⟩, (f5.upd g1.symm).mono (by omega), ((g8.trans (Ch.of_same sm)).trans k5).upd_l g2⟩
    · obtain ⟨g1, g2, ⟨us, ds, g3, g4, g5, g6⟩, ⟨tk, wf⟩, g7, g8⟩ := h
      rw [List.length_map] at g5 g7
      have hj8 := hW.le8
      repeat' (walk_at "jv")
      intro T nT
      have tkT : TK K H3 (upd H3 T (.tup us)) := TK.new nT
      replace wf := wf.same (Same.upd_new (o := .tup us) nT)
      have fT := g7.upd (q := T) (o := .tup us) (Ne.symm (g7.ne nT))
      have kT := g8.upd_n (o := .tup us) nT
      have sT : SqT K (upd H3 T (.tup us)) T us := .inl (.inl upd_same)
      generalize upd H3 T (.tup us) = H4 at *
      repeat' (walk_at "jv")
      intro T3 n3
      have tk3 : TK K H4 (upd H4 T3 (.tup [.int k, .ref t, .ref T])) := TK.new n3
      refine q _ k ps rs ds _ (g6.hall hk hW hfew g5) ?_ ((fT.upd (Ne.symm (fT.ne n3))).mono (by omega)) (kT.upd_n n3)
      exact ⟨T3, T, .ref t, rfl, .inl (.inl upd_same), wf.same (Same.upd_new n3), .tup (tk3 _ _ sT) (DpAll.tk (tkT.trans tk3) _ _ g6.only g4), g6.only⟩
theorem ok_any_hall (D : Dn K mg "_law_any_hall" s__law_any_hall ["_law_feed_here"]) (B : Bn mg) (C__law_draw : Cl P w K mg base 1 "_law_draw" ["_law_feed_here", "_law_many"] spDraw) (C__law_one : Cl P w K mg base 2 "_law_one" ["_law_feed_here", "_law_things"] (spOne K))
    (C__law_hall : Cl P w K mg base 5 "_law_hall" ["_law_feed_here", "_law_way", "_law_sort", "_law_most"] (spHallF K)) (C__law_great_hall : Cl P w K mg base 5 "_law_great_hall" ["_law_feed_here"] (spGreatHF K)) :
    Cl P w K mg base 6 "_law_any_hall" ["_law_feed_here"] (spAnyHG K) := by
  refine D.cl sc__law_any_hall (fun vs H Q E h => ?_) (fun f cdv A outer s H vs Q E hr h => ?_)
  · obtain ⟨a, c, rfl, _⟩ := h
    rfl
  · obtain ⟨a, c, rfl, hf, hc, q⟩ := h
    refine ⟨_, (pss_cons (ps_if (pt_cmpR op_eq (pe_c C__law_draw hr (pa_cons (pv 0) (pa_cons pe_int pa_nil))) pe_int (nomark _)) (pss_one (ps_ret (pe_c C__law_great_hall hr (pa_cons (pv 0) pa_nil)))) pss_nil)
      (pss_one (ps_ret (pe_c C__law_hall hr (pa_cons (pv 0) (pa_cons (pe_c C__law_one hr (pa_cons (pv 0) (pa_cons (pe_lst (pa_cons pe_str (pa_cons pe_str (pa_cons pe_str (pa_cons pe_str pa_nil))))) pa_nil))) (pa_cons (pe_c C__law_one hr (pa_cons (pv 0) (pa_cons (pe_lst (pa_cons pe_str (pa_cons pe_str (pa_cons pe_str (pa_cons pe_str (pa_cons pe_str pa_nil)))))) pa_nil))) (pa_cons pe_int pa_nil)))))))), ?_⟩
    repeat' (walk_at "jv")
    refine ⟨a, 3, c, rfl, hf, by omega, by omega, by omega, fun r1 H1 r10 r11 f1 k1 => ?_⟩
    repeat' (walk_at "jv")
    · refine ⟨a, c + 1, rfl, f1, by omega, fun v k ps rs ds H' h1 h3 h4 h5 => ?_⟩
      repeat' (walk_at "jv")
      exact q v k ps rs ds H' h1 h3 (h4.mono (by omega)) (k1.trans h5)
    · intro L nL
      have fL := f1.upd (q := L) (o := .lst [.str "tree", .str "ring", .str "whole", .str "any"]) (Ne.symm (f1.ne nL))
      have kL := k1.upd_n (o := .lst [.str "tree", .str "ring", .str "whole", .str "any"]) nL
      repeat' (walk_at "jv")
      refine ⟨a, L, c + 1, _, rfl, fL, SqA.l (sq_lst upd_same), f1.ne nL, by show 0 < 4; decide, by show 4 < 1000000; decide, by omega, fun v H2 hv f2 k2 => ?_⟩
      have hv' : ∃ z, v = .str z := by
        have : v = .str "tree" ∨ v = .str "ring" ∨ v = .str "whole" ∨ v = .str "any" := by simpa using hv
        rcases this with rfl | rfl | rfl | rfl <;> exact ⟨_, rfl⟩
      obtain ⟨way, rfl⟩ := hv'
      repeat' (walk_at "jv")
      intro M nM
      have fM := f2.upd (q := M) (o := .lst [.str "any", .str "any", .str "quiet", .str "adding", .str "undone"]) (Ne.symm (f2.ne nM))
      have kM := (kL.trans k2).upd_n (o := .lst [.str "any", .str "any", .str "quiet", .str "adding", .str "undone"]) nM
      repeat' (walk_at "jv")
      refine ⟨a, M, c + 1 + 1, _, rfl, fM, SqA.l (sq_lst upd_same), f2.ne nM, by show 0 < 5; decide, by show 5 < 1000000; decide, by omega, fun v H3 hv f3 k3 => ?_⟩
      have hv' : ∃ z, v = .str z := by
        have : v = .str "any" ∨ v = .str "quiet" ∨ v = .str "adding" ∨ v = .str "undone" := by simpa using hv
        rcases this with rfl | rfl | rfl | rfl <;> exact ⟨_, rfl⟩
      obtain ⟨sort, rfl⟩ := hv'
      repeat' (walk_at "jv")
      refine ⟨a, way, sort, 6, _, rfl, f3, by omega, by omega, by omega, fun v k ps rs ds H' h1 h3 h4 h5 => ?_⟩
      repeat' (walk_at "jv")
      exact q v k ps rs ds H' h1 h3 (h4.mono (by omega)) ((kM.trans k3).trans h5)
end
end
section
open L2 PySem PySem.Spec PyProof.Rows
abbrev s_is_integer : Stmt := topS 3
theorem sc_is_integer : FnScope ["thing"] ["thing"] (defScope s_is_integer) := ⟨rfl, rfl, rfl, by decide +kernel, rfl, by decide +kernel, by decide +kernel⟩
abbrev s_power : Stmt := topS 4
theorem sc_power : FnScope ["base", "exponent", "result", "_"] ["base", "exponent"] (defScope s_power) := ⟨rfl, rfl, rfl, by decide +kernel, rfl, by decide +kernel, by decide +kernel⟩
abbrev s_are_states : Stmt := topS 5
theorem sc_are_states : FnScope ["thing", "k", "many", "state"] ["thing", "k", "many"] (defScope s_are_states) := ⟨rfl, rfl, rfl, by decide +kernel, rfl, by decide +kernel, by decide +kernel⟩
abbrev s_table_length : Stmt := topS 6
theorem sc_table_length : FnScope ["k", "near"] ["k", "near"] (defScope s_table_length) := ⟨rfl, rfl, rfl, by decide +kernel, rfl, by decide +kernel, by decide +kernel⟩
abbrev s_sum_length : Stmt := topS 7
theorem sc_sum_length : FnScope ["k", "near"] ["k", "near"] (defScope s_sum_length) := ⟨rfl, rfl, rfl, by decide +kernel, rfl, by decide +kernel, by decide +kernel⟩
abbrev s__are_sums : Stmt := topS 10
theorem sc__are_sums : FnScope ["worth", "k", "near", "states"] ["worth", "k", "near"] (defScope s__are_sums) := ⟨rfl, rfl, rfl, by decide +kernel, rfl, by decide +kernel, by decide +kernel⟩
def spAreStatesO (K : PySem.W.Frag) : Sp := fun vs H Q _ => ∃ (a : Addr) (x : V) (d : PyData) (k many : Nat), vs = [x, .int (k : Int), .int (many : Int)] ∧ Ob K H a x d ∧ many ≤ 100000 ∧ ∀ H', Same H H' → Q (.bl (statesB k many d)) H'
def spAreSumsO (K : PySem.W.Frag) : Sp := fun vs H Q _ => ∃ (a p : Addr) (x : V) (d : PyData) (k : Nat) (near : List Str), vs = [x, .int (k : Int), .ref p] ∧ Ob K H a x d ∧ SqT K H p (near.map V.str) ∧ near.length ≤ 7 ∧ 2 ≤ k ∧ k ≤ 3 ∧ ∀ H', Same H H' → Q (.bl (sumsB k near.length d)) H'
section
variable {base : Heap} {P : Program} {w : World} {K : PySem.W.Frag} {mg : Str → Option Value}
theorem isI_no {d : PyData} (h : isIB d = false) : isI d = false := by cases d <;> first | rfl | cases h
theorem isI_yes {d : PyData} (h : isIB d = true) : isI d = !isBo d := by cases d <;> first | rfl | cases h
theorem isI_int {d : PyData} (h : isI d = true) : ∃ i, d = .int i := by cases d <;> first | exact ⟨_, rfl⟩ | cases h
theorem ok_is_intO (D : Dn K mg "is_integer" s_is_integer ["thing"]) (B : Bn mg) : Cl P w K mg base 1 "is_integer" ["thing"] (spIsIntO K) := by
  refine D.cl sc_is_integer (fun vs H Q E h => ?_) (fun f cdv A outer s H vs Q E hr h => ?_)
  · obtain ⟨v, d, a, rfl, _⟩ := h
    rfl
  · obtain ⟨v, d, a, rfl, hd, q⟩ := h
    refine ⟨_, (pss_one (ps_ret (pe_and (pe_callB (k_isi (K := K)) rfl B.isinstance_ (by decide +kernel) (pa_cons (pv 0) (pa_cons (pe_ty (T := "int") B.int_ (by decide +kernel)) pa_nil))) (pe_one (pe_not (pe_callB (k_isi (K := K)) rfl B.isinstance_ (by decide +kernel) (pa_cons (pv 0) (pa_cons (pe_ty (T := "bool") B.bool_ (by decide +kernel)) pa_nil)))))))), ?_⟩
    repeat' (walk_at "jv")
    refine is_intO hd ?_
    refine ⟨_, rfl, ?_⟩
    refine i_iteB (fun h1 => ?_) (fun h1 => ?_)
    · repeat' (walk_at "jv")
      refine is_boolO hd ?_
      refine ⟨_, rfl, ?_⟩
      rw [← isI_yes h1]
      exact q
    · rw [← isI_no h1]
      rw [isI_no h1] at q ⊢
      exact q
theorem ok_power (D : Dn K mg "power" s_power ["base", "exponent"]) (B : Bn mg) : Cl P w K mg base 1 "power" ["base", "exponent"] spPower := by
  refine D.cl sc_power (fun vs H Q E h => ?_) (fun f cdv A outer s H vs Q E hr h => ?_)
  · obtain ⟨b, e, rfl, _⟩ := h
    rfl
  · obtain ⟨b, e, rfl, hb, he, q⟩ := h
    refine ⟨_, (pss_cons (ps_set (i := 2) sc_power.nd rfl (by first | exact Or.inl rfl | exact Or.inr rfl) pe_int)
      (pss_cons (ps_for PassesOwn.never rfl (pi_range1 rfl B.range_ (pa_cons (pv 1) pa_nil)) (pg_name (i := 3) sc_power.nd rfl (by first | exact Or.inl rfl | exact Or.inr rfl)) (pss_one (ps_set (i := 2) sc_power.nd rfl (by first | exact Or.inl rfl | exact Or.inr rfl) (pe_op op_mul (pv 2) (pv 0)))))
      (pss_one (ps_ret (pv 2))))), ?_⟩
    repeat' (walk_at "jv")
    refine f_range (fun i σ H' => ∃ y3, σ = [some (.int b), some (.int e), some (.int ((b ^ i : Nat) : Int)), y3] ∧ H = H') ⟨none, rfl, rfl⟩ (fun i σ H' hi h => ?_) (fun σ H' h => ?_)
    · obtain ⟨y3, rfl, rfl⟩ := h
      repeat' (walk_at "jv")
      refine ⟨some (.int (0 + (i : Int))), ?_, rfl⟩
      rw [Nat.pow_succ, Int.natCast_mul]
      rfl
    · obtain ⟨y3, rfl, rfl⟩ := h
      repeat' (walk_at "jv")
      exact q
theorem ok_table_length (D : Dn K mg "table_length" s_table_length ["k", "near"]) (B : Bn mg) (C_power : Cl P w K mg base 1 "power" ["base", "exponent"] spPower) : Cl P w K mg base 2 "table_length" ["k", "near"] (spTableLen K) := by
  refine D.cl sc_table_length (fun vs H Q E h => ?_) (fun f cdv A outer s H vs Q E hr h => ?_)
  · obtain ⟨p, k, near, rfl, _⟩ := h
    rfl
  · obtain ⟨p, k, near, rfl, hs, hn, hk, q⟩ := h
    refine ⟨_, (pss_one (ps_ret (pe_c C_power hr (pa_cons (pv 0) (pa_cons (pe_op op_add (pe_callB (k_len (K := K)) rfl B.len_ (by decide +kernel) (pa_cons (pv 1) pa_nil)) pe_int) pa_nil))))), ?_⟩
    repeat' (walk_at "jv")
    refine ⟨k, near.length + 1, by rw [List.length_map]; rfl, hk, by omega, ?_⟩
    exact q
theorem ok_sum_length (D : Dn K mg "sum_length" s_sum_length ["k", "near"]) (B : Bn mg) : Cl P w K mg base 1 "sum_length" ["k", "near"] (spSumLen K) := by
  refine D.cl sc_sum_length (fun vs H Q E h => ?_) (fun f cdv A outer s H vs Q E hr h => ?_)
  · obtain ⟨p, k, near, rfl, _⟩ := h
    rfl
  · obtain ⟨p, k, near, rfl, hs, hn, hk2, hk, q⟩ := h
    refine ⟨_, (pss_one (ps_ret (pe_op op_add (pe_op op_mul (pe_callB (k_len (K := K)) rfl B.len_ (by decide +kernel) (pa_cons (pv 1) pa_nil)) (pe_op op_sub (pv 0) pe_int)) pe_int))), ?_⟩
    repeat' (walk_at "jv")
    rw [List.length_map]
    have e : (near.length : Int) * ((k : Int) - 1) + 1 = ((near.length * (k - 1) + 1 : Nat) : Int) := by
      rw [show (k : Int) - 1 = ((k - 1 : Nat) : Int) by omega, Int.natCast_add, Int.natCast_mul]
      rfl
    rw [e]
    exact q
theorem isT_off {d : PyData} (h : isT d = false) : (∀ k m, statesB k m d = false) ∧ (∀ k n, sumsB k n d = false) ∧ (∀ k near, ruleB k near d = false) ∧ (∀ k ps rs, rulesB k ps rs d = false) ∧ hallB d = false := by
  cases d with
  | tuple ds => cases h
  | _ => exact ⟨fun _ _ => rfl, fun _ _ => rfl, fun _ _ => rfl, fun _ _ _ => rfl, rfl⟩
theorem isT_tup {d : PyData} (h : isT d = true) : ∃ ds, d = .tuple ds := by
  cases d with
  | tuple ds => exact ⟨ds, rfl⟩
  | _ => cases h
theorem ok_are_statesO (D : Dn K mg "are_states" s_are_states ["thing", "k", "many"]) (B : Bn mg) (C_is_integer : Cl P w K mg base 1 "is_integer" ["thing"] (spIsIntO K)) : Cl P w K mg base 2 "are_states" ["thing", "k", "many"] (spAreStatesO K) := by
  refine D.cl sc_are_states (fun vs H Q E h => ?_) (fun f cdv A outer s H vs Q E hr h => ?_)
  · obtain ⟨a, x, d, k, many, rfl, _⟩ := h
    rfl
  · obtain ⟨a, x, d, k, many, rfl, ox, hm, q⟩ := h
    refine ⟨_, (pss_cons (ps_if (PW.pt (pw_or (pt_not (pt_val (pe_callB (k_isi (K := K)) rfl B.isinstance_ (by decide +kernel) (pa_cons (pv 0) (pa_cons (pe_ty (T := "tuple") B.tuple_ (by decide +kernel)) pa_nil))))) (pw_or1 (pt_cmpR op_ne (pe_callB (k_len (K := K)) rfl B.len_ (by decide +kernel) (pa_cons (pv 0) pa_nil)) (pv 2) (nomark _))))) (pss_one (ps_ret pe_bl)) pss_nil)
      (pss_one (ps_ret (pe_callB (k_all (K := K) rfl) rfl B.all_ (by decide +kernel) (pa_cons (pe_lc (own := [("state", 3)]) rfl sc_are_states.nd (kpi_tup (K := K) (pv 0)) (blkOk_by (N := ["thing", "k", "many", "state"]) (sc := defScope s_are_states) (by decide +kernel)) (fun _ _ _ _ _ => (pg_name (i := 3) sc_are_states.nd rfl (by first | exact Or.inl rfl | exact Or.inr rfl))) (fun _ _ _ _ _ => pts_nil) (fun _ _ _ _ _ => (pe_and (pe_c C_is_integer hr (pa_cons (pv 3) pa_nil)) (pe_one (pe_chain op_le op_lt pe_int (pv 3) (pv 1)))))) pa_nil))))), ?_⟩
    repeat' (walk_at "jv")
    refine is_tupO ox ?_
    refine ⟨_, rfl, ?_⟩
    cases c : isT d with
    | false =>
      rw [(isT_off c).1] at q
      repeat' (walk_at "jv")
      exact q H (Same.refl _)
    | true =>
      obtain ⟨ds, rfl⟩ := isT_tup c
      replace q : ∀ H', Same H H' → Q (.bl (decide (ds.length = many) && ds.all (stB k))) H' := q
      cases ox with
      | @tup t xs ds sx al =>
      have hxl := ObAll.len al
      repeat' (walk_at "jv")
      · rw [decide_eq_false (by omega), Bool.false_and] at q
        exact q H (Same.refl _)
      · rw [decide_eq_true (by omega), Bool.true_and] at q
        refine c_tup xs (fun D i H' => H D = none ∧ Same H H' ∧ H' D = some (.lst (((ds.take i).map (stB k)).map V.bl))) (fun D nD => ⟨nD, Same.upd_new nD, upd_same⟩) (fun D i H' _ h => TK.same h.2.1 _ _ sx) (fun D i y H' hy h => ?_) (fun D H' h => ?_)
        · obtain ⟨nD, kD, eD⟩ := h
          obtain ⟨d', hd', od'⟩ := ObAll.get al hy
          have hi : i < ds.length := (List.getElem?_eq_some_iff.mp hd').1
          have fin : ∀ b : Bool, b = stB k d' → H D = none ∧ Same H (upd H' D (.lst (((ds.take i).map (stB k)).map V.bl ++ [V.bl b]))) ∧ (upd H' D (.lst (((ds.take i).map (stB k)).map V.bl ++ [V.bl b]))) D = some (.lst (((ds.take (i + 1)).map (stB k)).map V.bl)) := fun b e => by
            refine ⟨nD, fun c oc z => (upd_ne (ne_of_none z nD)).trans (kD _ _ z), ?_⟩
            rw [take_push hd', List.map_append, List.map_append, e]
            exact upd_same
          repeat' (walk_at "jv")
          refine ⟨y, d', a, rfl, od'.same kD, ?_⟩
          refine ⟨_, rfl, ?_⟩
          cases ci : isI d' with
          | false =>
            have e0 : stB k d' = false := by cases d' <;> first | rfl | cases ci
            repeat' (walk_at "jv")
            exact fin _ e0.symm
          | true =>
            obtain ⟨i', rfl⟩ := isI_int ci
            cases od'
            repeat' (walk_at "jv")
            · rename_i h0
              refine fin _ ?_
              show _ = (decide (0 ≤ i') && decide (i' < (k : Int)))
              rw [decide_eq_true h0, Bool.true_and]
            · rename_i h0
              refine fin _ ?_
              show _ = (decide (0 ≤ i') && decide (i' < (k : Int)))
              rw [decide_eq_false h0, Bool.false_and]
        · obtain ⟨nD, kD, eD⟩ := h
          rw [hxl, List.take_length] at eD
          repeat' (walk_at "jv")
          rw [show (ds.map (stB k)).all id = ds.all (stB k) by rw [List.all_map]; rfl]
          exact q _ kD
theorem ok_are_sumsO (D : Dn K mg "_are_sums" s__are_sums ["worth", "k", "near"]) (B : Bn mg) (C_sum_length : Cl P w K mg base 1 "sum_length" ["k", "near"] (spSumLen K)) (C_are_states : Cl P w K mg base 2 "are_states" ["thing", "k", "many"] (spAreStatesO K)) :
    Cl P w K mg base 3 "_are_sums" ["worth", "k", "near"] (spAreSumsO K) := by
  refine D.cl sc__are_sums (fun vs H Q E h => ?_) (fun f cdv A outer s H vs Q E hr h => ?_)
  · obtain ⟨a, p, x, d, k, near, rfl, _⟩ := h
    rfl
  · obtain ⟨a, p, x, d, k, near, rfl, ox, hp, hn, hk2, hk3, q⟩ := h
    have hw15 : near.length * (k - 1) + 1 ≤ 15 := by
      have := Nat.mul_le_mul hn (show k - 1 ≤ 2 by omega)
      omega
    refine ⟨_, (pss_cons (ps_if (PW.pt (pw_or (pt_not (pt_val (pe_callB (k_isi (K := K)) rfl B.isinstance_ (by decide +kernel) (pa_cons (pv 0) (pa_cons (pe_ty (T := "tuple") B.tuple_ (by decide +kernel)) pa_nil))))) (pw_or1 (pt_cmpR op_ne (pe_callB (k_len (K := K)) rfl B.len_ (by decide +kernel) (pa_cons (pv 0) pa_nil)) (pv 1) (nomark _))))) (pss_one (ps_ret pe_bl)) pss_nil)
      (pss_one (ps_ret (pe_callB (k_all (K := K) rfl) rfl B.all_ (by decide +kernel) (pa_cons (pe_lc (own := [("states", 3)]) rfl sc__are_sums.nd (kpi_tup (K := K) (pv 0)) (blkOk_by (N := ["worth", "k", "near", "states"]) (sc := defScope s__are_sums) (by decide +kernel)) (fun _ _ _ _ _ => (pg_name (i := 3) sc__are_sums.nd rfl (by first | exact Or.inl rfl | exact Or.inr rfl))) (fun _ _ _ _ _ => pts_nil) (fun _ _ _ _ _ => (pe_c C_are_states hr (pa_cons (pv 3) (pa_cons (pv 1) (pa_cons (pe_c C_sum_length hr (pa_cons (pv 1) (pa_cons (pv 2) pa_nil))) pa_nil)))))) pa_nil))))), ?_⟩
    repeat' (walk_at "jv")
    refine is_tupO ox ?_
    refine ⟨_, rfl, ?_⟩
    cases c : isT d with
    | false =>
      rw [(isT_off c).2.1] at q
      repeat' (walk_at "jv")
      exact q H (Same.refl _)
    | true =>
      obtain ⟨ds, rfl⟩ := isT_tup c
      replace q : ∀ H', Same H H' → Q (.bl (decide (ds.length = k) && ds.all (statesB k (near.length * (k - 1) + 1)))) H' := q
      generalize hm : near.length * (k - 1) + 1 = m at *
      cases ox with
      | @tup t xs ds sx al =>
      have hxl := ObAll.len al
      repeat' (walk_at "jv")
      · rw [decide_eq_false (by omega), Bool.false_and] at q
        exact q H (Same.refl _)
      · rw [decide_eq_true (by omega), Bool.true_and] at q
        refine c_tup xs (fun D i H' => H D = none ∧ Same H H' ∧ H' D = some (.lst (((ds.take i).map (statesB k m)).map V.bl))) (fun D nD => ⟨nD, Same.upd_new nD, upd_same⟩) (fun D i H' _ h => TK.same h.2.1 _ _ sx) (fun D i y H' hy h => ?_) (fun D H' h => ?_)
        · obtain ⟨nD, kD, eD⟩ := h
          obtain ⟨d', hd', od'⟩ := ObAll.get al hy
          have hi : i < ds.length := (List.getElem?_eq_some_iff.mp hd').1
          have hp' := TK.same (K := K) kD _ _ hp
          repeat' (walk_at "jv")
          refine ⟨p, k, near, rfl, SqA.t hp', hn, hk2, hk3, ?_⟩
          rw [hm]
          repeat' (walk_at "jv")
          refine ⟨a, y, d', k, m, rfl, od'.same kD, by omega, fun H2 k2 => ?_⟩
          refine i_lcE (k2 _ _ eD) (by rw [List.length_map, List.length_map, List.length_take, sizeLine_eq]; omega) ⟨nD, fun c oc z => (upd_ne (ne_of_none z nD)).trans (k2 _ _ (kD _ _ z)), ?_⟩
          rw [take_push hd', List.map_append, List.map_append]
          exact upd_same
        · obtain ⟨nD, kD, eD⟩ := h
          rw [hxl, List.take_length] at eD
          repeat' (walk_at "jv")
          rw [show (ds.map (statesB k m)).all id = ds.all (statesB k m) by rw [List.all_map]; rfl]
          exact q _ kD
end
end
section
open L2 PySem PySem.Spec PyProof.Rows
abbrev s_is_name : Stmt := topS 18
theorem sc_is_name : FnScope ["thing", "sign"] ["thing"] (defScope s_is_name) := ⟨rfl, rfl, rfl, by decide +kernel, rfl, by decide +kernel, by decide +kernel⟩
abbrev s_is_one_of : Stmt := topS 23
theorem sc_is_one_of : FnScope ["thing", "places"] ["thing", "places"] (defScope s_is_one_of) := ⟨rfl, rfl, rfl, by decide +kernel, rfl, by decide +kernel, by decide +kernel⟩
abbrev s__is_road : Stmt := topS 22
theorem sc__is_road : FnScope ["thing", "places", "end"] ["thing", "places"] (defScope s__is_road) := ⟨rfl, rfl, rfl, by decide +kernel, rfl, by decide +kernel, by decide +kernel⟩
abbrev s__are_places : Stmt := topS 20
theorem sc__are_places : FnScope ["thing", "place"] ["thing"] (defScope s__are_places) := ⟨rfl, rfl, rfl, by decide +kernel, rfl, by decide +kernel, by decide +kernel⟩
abbrev s__are_roads : Stmt := topS 21
theorem sc__are_roads : FnScope ["thing", "places", "road"] ["thing", "places"] (defScope s__are_roads) := ⟨rfl, rfl, rfl, by decide +kernel, rfl, by decide +kernel, by decide +kernel⟩
abbrev s_is_web : Stmt := topS 19
theorem sc_is_web : FnScope ["thing", "places", "roads"] ["thing"] (defScope s_is_web) := ⟨rfl, rfl, rfl, by decide +kernel, rfl, by decide +kernel, by decide +kernel⟩
section
variable {X : Cx} {x : Str} {pos : Pos}
theorem gl_int {i : Int} {t : Tok} (hm : X.mg x = some (.int i t)) (hg : Gl X x := by rfl) (hd : (x == ("__debug__" : Str)) = false := by decide) : PE X (.Name x pos) (tC (.int i)) := pe_glob hg hm ⟨t, rfl⟩ hd
theorem gl_str {i : Str} {t : Tok} (hm : X.mg x = some (.str i t)) (hg : Gl X x := by rfl) (hd : (x == ("__debug__" : Str)) = false := by decide) : PE X (.Name x pos) (tC (.str i)) := pe_glob hg hm ⟨t, rfl⟩ hd
end
structure Gn (mg : Str → Option Value) : Prop where
  ln : ∃ t, mg "LONGEST_NAME" = some (.int 8 t)
  mp : ∃ t, mg "MOST_PLACES" = some (.int 8 t)
  mr : ∃ t, mg "MOST_ROADS" = some (.int 14 t)
  le : ∃ t, mg "LETTERS" = some (.str "abcdefghijklmnopqrstuvwxyz" t)
  ns : ∃ t, mg "NAME_SIGNS" = some (.str "abcdefghijklmnopqrstuvwxyz0123456789" t)
def spIsNameO (K : PySem.W.Frag) : Sp := fun vs H Q _ => ∃ (a : Addr) (x : V) (d : PyData), vs = [x] ∧ Ob K H a x d ∧ okD d = true ∧ ∀ H', Same H H' → Q (.bl (nameB d)) H'
def oneB (ps : List Str) : PyData → Bool
  | .str z => decide (z ∈ ps)
  | _ => false
def spIsOneO (K : PySem.W.Frag) : Sp := fun vs H Q _ => ∃ (a p : Addr) (x : V) (d : PyData) (ps : List Str), vs = [x, .ref p] ∧ Ob K H a x d ∧ SqT K H p (ps.map V.str) ∧ Q (.bl (oneB ps d)) H
def spIsRoadO (K : PySem.W.Frag) : Sp := fun vs H Q _ => ∃ (a p : Addr) (x : V) (d : PyData) (ps : List Str), vs = [x, .ref p] ∧ Ob K H a x d ∧ SqT K H p (ps.map V.str) ∧ ∀ H', Same H H' → Q (.bl (roadB ps d)) H'
def spArePlacesO (K : PySem.W.Frag) : Sp := fun vs H Q _ => ∃ (a : Addr) (x : V) (d : PyData), vs = [x] ∧ Ob K H a x d ∧ okD d = true ∧ ∀ H', Same H H' → Q (.bl (placesB d)) H'
def spAreRoadsO (K : PySem.W.Frag) : Sp := fun vs H Q _ => ∃ (a p : Addr) (x : V) (d : PyData) (ps : List Str), vs = [x, .ref p] ∧ Ob K H a x d ∧ SqT K H p (ps.map V.str) ∧ ∀ H', Same H H' → Q (.bl (roadsB ps d)) H'
def spIsWebO (K : PySem.W.Frag) : Sp := fun vs H Q _ => ∃ (a : Addr) (x : V) (d : PyData), vs = [x] ∧ Ob K H a x d ∧ okD d = true ∧ ∀ H', Same H H' → Q (.bl (webB d)) H'
theorem letters_are : (Str.ofString "abcdefghijklmnopqrstuvwxyz").cps.toList = List.range' 97 26 := by decide +kernel
theorem signs_are : (Str.ofString "abcdefghijklmnopqrstuvwxyz0123456789").cps.toList = List.range' 97 26 ++ List.range' 48 10 := by decide +kernel
theorem letter_iff (c : Nat) : decide (c ∈ (Str.ofString "abcdefghijklmnopqrstuvwxyz").cps.toList) = (decide (97 ≤ c) && decide (c ≤ 122)) := by
  rw [letters_are, ← Bool.decide_and]
  refine decide_eq_decide.mpr ?_
  rw [List.mem_range'_1]
  omega
theorem sign_iff (c : Nat) : decide (c ∈ (Str.ofString "abcdefghijklmnopqrstuvwxyz0123456789").cps.toList) = nmSign c := by
  rw [signs_are]
  unfold nmSign
  rw [← Bool.decide_and, ← Bool.decide_and, ← Bool.decide_or]
  refine decide_eq_decide.mpr ?_
  rw [List.mem_append, List.mem_range'_1, List.mem_range'_1]
  omega
theorem nm_long {z : Str} (h : ¬ (1 ≤ z.cps.size ∧ z.cps.size ≤ 8)) : nmOk z = false := by
  cases c : nmOk z with
  | false => rfl
  | true =>
    obtain ⟨x, r, e, h7, _⟩ := nm_parts c
    rw [← Array.length_toList, e, List.length_cons] at h
    omega
theorem nm_split {z : Str} {c : Nat} (h8 : z.cps.size ≤ 8) (h0 : z.cps[0]? = some c) : nmOk z = ((decide (97 ≤ c) && decide (c ≤ 122)) && z.cps.toList.all nmSign) := by
  have e : ∃ r, z.cps.toList = c :: r := by
    rw [← Array.getElem?_toList] at h0
    cases k : z.cps.toList with
    | nil => rw [k] at h0; cases h0
    | cons x r =>
      rw [k] at h0
      exact ⟨r, by rw [Option.some.inj h0]⟩
  obtain ⟨r, e⟩ := e
  have hl : r.length ≤ 7 := by
    rw [← Array.length_toList, e, List.length_cons] at h8
    omega
  unfold nmOk
  rw [e]
  show ((decide (r.length ≤ 7) && (decide (97 ≤ c) && decide (c ≤ 122))) && r.all nmSign) = _
  rw [decide_eq_true hl, Bool.true_and, List.all_cons]
  cases k : (decide (97 ≤ c) && decide (c ≤ 122)) with
  | false => rfl
  | true =>
    rw [Bool.true_and, Bool.true_and, sl_of (by rw [Bool.and_eq_true, decide_eq_true_iff, decide_eq_true_iff] at k; exact k), Bool.true_and]
section
variable {base : Heap} {P : Program} {w : World} {K : PySem.W.Frag} {mg : Str → Option Value}
theorem ok_is_nameO (D : Dn K mg "is_name" s_is_name ["thing"]) (B : Bn mg) (Gg : Gn mg) : Cl P w K mg base 1 "is_name" ["thing"] (spIsNameO K) := by
  obtain ⟨⟨t1, c_LONGEST_NAME⟩, _, _, ⟨t4, c_LETTERS⟩, ⟨t5, c_NAME_SIGNS⟩⟩ := Gg
  refine D.cl sc_is_name (fun vs H Q E h => ?_) (fun f cdv A outer s H vs Q E hr h => ?_)
  · obtain ⟨a, x, d, rfl, _⟩ := h
    rfl
  · obtain ⟨a, x, d, rfl, ox, ok, q⟩ := h
    refine ⟨_, (pss_cons (ps_if (PW.pt (pw_or (pt_not (pt_val (pe_callB (k_isi (K := K)) rfl B.isinstance_ (by decide +kernel) (pa_cons (pv 0) (pa_cons (pe_ty (T := "str") B.str_ (by decide +kernel)) pa_nil))))) (pw_or1 (pt_not (pt_chain op_le op_le pe_int (pe_callB (call_len_str) rfl B.len_ (by decide +kernel) (pa_cons (pv 0) pa_nil)) (gl_int c_LONGEST_NAME)))))) (pss_one (ps_ret pe_bl)) pss_nil)
      (pss_one (ps_ret (pe_and (pe_cmpR op_in_sign (pe_its (pv 0) pe_int (fun _ _ => rfl)) (gl_str c_LETTERS) (by rfl)) (pe_one (pe_callB (k_all (K := K) rfl) rfl B.all_ (by decide +kernel) (pa_cons (pe_lc (own := [("sign", 1)]) rfl sc_is_name.nd (pi_str (pv 0)) (blkOk_by (N := ["thing", "sign"]) (sc := defScope s_is_name) (by decide +kernel)) (fun _ _ _ _ _ => (pg_name (i := 1) sc_is_name.nd rfl (by first | exact Or.inl rfl | exact Or.inr rfl))) (fun _ _ _ _ _ => pts_nil) (fun _ _ _ _ _ => (pe_cmpR op_in_sign (pv 1) (gl_str c_NAME_SIGNS) (by rfl)))) pa_nil))))))), ?_⟩
    repeat' (walk_at "jv")
    refine is_strO ox ?_
    refine ⟨_, rfl, ?_⟩
    cases c1 : isS d with
    | false =>
      have e1 : nameB d = false := by
        cases d with
        | str z => cases c1
        | _ => rfl
      rw [e1] at q
      repeat' (walk_at "jv")
      exact q H (Same.refl _)
    | true =>
      obtain ⟨z, rfl⟩ : ∃ z, d = .str z := by
        cases d with
        | str z => exact ⟨z, rfl⟩
        | _ => cases c1
      cases ox
      replace q : ∀ H', Same H H' → Q (.bl (nmOk z)) H' := q
      obtain ⟨hsz, _⟩ := ok_str.mp ok
      have hln : (z.length : Int) = z.cps.size := rfl
      repeat' (walk_at "jv")
      refine ⟨z, rfl, by rw [sizeLine_eq]; show z.cps.size ≤ _; omega, ?_⟩
      repeat' (walk_at "jv")
      · rw [nm_long (by omega)] at q
        exact q H (Same.refl _)
      · have h8 : z.cps.size ≤ 8 := by omega
        have h1 : 0 < z.cps.size := by omega
        have h0 : z.cps[0]? = some z.cps[0] := Array.getElem?_eq_getElem h1
        generalize z.cps[0] = c at h0
        rw [nm_split h8 h0] at q
        refine ⟨z, 0, c, rfl, rfl, by omega, by decide, by show (0 : Int) < z.length; omega, h0, ?_⟩
        repeat' (walk_at "jv")
        refine ⟨c, _, rfl, rfl, ?_⟩
        rw [letter_iff]
        refine ⟨_, rfl, ?_⟩
        cases hc : (decide (97 ≤ c) && decide (c ≤ 122)) with
        | false =>
          rw [hc] at q
          repeat' (walk_at "jv")
          exact q H (Same.refl _)
        | true =>
          rw [hc, Bool.true_and] at q
          repeat' (walk_at "jv")
          refine i_istr (i_var rfl (i_isK ?_))
          refine p_str z (fun i => V.bl (nmSign (z.cps.toList.getD i 0))) (by omega) (fun D2 acc i d N nD hx hN => ?_) (fun D2 nD => ?_)
          · repeat' (walk_at "jv")
            refine ⟨d, _, rfl, rfl, ?_⟩
            rw [sign_iff]
            have e : z.cps.toList.getD i 0 = d := by
              rw [List.getD_eq_getElem?_getD, Array.getElem?_toList, hx]
              rfl
            rw [e] at hN
            exact hN
          · refine i_nil ?_
            have eb : (List.range z.cps.size).map (fun i => V.bl (nmSign (z.cps.toList.getD i 0))) = (z.cps.toList.map nmSign).map V.bl := by
              refine List.ext_getElem (by simp) fun i h1 h2 => ?_
              have hi : i < z.cps.size := by simpa using h1
              rw [List.getElem_map, List.getElem_map, List.getElem_map, List.getElem_range, List.getD_eq_getElem?_getD, List.getElem?_eq_getElem (by simpa using hi)]
              rfl
            refine i_all (bs := z.cps.toList.map nmSign) (sq_lst (by rw [upd_same, eb])) ?_
            rw [show (z.cps.toList.map nmSign).all id = z.cps.toList.all nmSign by rw [List.all_map]; rfl]
            exact q _ (Same.upd_new nD)
      · rw [nm_long (by omega)] at q
        exact q H (Same.refl _)
theorem strs_of_obs {H : Hp} {a : Addr} : ∀ {zs : List Str} {xs : List V}, ObAll K H a xs (zs.map PyData.str) → xs = zs.map V.str
  | [], _, .nil => rfl
  | z :: zs, _, .cons h t => by
    rw [strs_of_obs t]
    cases h
    rfl
theorem roads_of_obs {H : Hp} {a : Addr} : ∀ {l : List (Str × Str)} {xs : List V}, ObAll K H a xs (l.map roadD) → DpAll K H xs (l.map roadD)
  | [], _, .nil => .nil
  | r :: l, _, .cons h t => by
    refine .cons ?_ (roads_of_obs t)
    cases h with
    | tup s al =>
      cases al with
      | cons h1 h2 =>
      cases h2 with
      | cons h2 h3 =>
      cases h3
      cases h1
      cases h2
      exact .tup s (.cons (.str _) (.cons (.str _) .nil))
theorem few_srt {L : List (List Str)} {rs : List (Str × Str)} (nd : L.Nodup) (m : ∀ k, k ∈ L ↔ k ∈ rs.map srt) : decide ((L.length : Int) = (rs.length : Int)) = uniqB rs := by
  unfold uniqB
  refine decide_eq_decide.mpr ?_
  have iff1 : (rs.map srt).Nodup ↔ rs.Pairwise fun r s => r ≠ s ∧ r ≠ (s.2, s.1) := by
    rw [List.Nodup, List.pairwise_map]
    refine List.pairwise_iff_forall_sublist.trans ?_
    refine Iff.trans ?_ List.pairwise_iff_forall_sublist.symm
    constructor
    · intro h a b s
      have := h s
      rw [Ne, srt_eq, not_or] at this
      exact this
    · intro h a b s
      rw [Ne, srt_eq, not_or]
      exact h s
  have z := (nd_eq nd m).2
  rw [List.length_map] at z
  rw [← iff1, ← z]
  omega
theorem ok_is_oneO (D : Dn K mg "is_one_of" s_is_one_of ["thing", "places"]) (B : Bn mg) : Cl P w K mg base 1 "is_one_of" ["thing", "places"] (spIsOneO K) := by
  refine D.cl sc_is_one_of (fun vs H Q E h => ?_) (fun f cdv A outer s H vs Q E hr h => ?_)
  · obtain ⟨a, p, x, d, ps, rfl, _⟩ := h
    rfl
  · obtain ⟨a, p, x, d, ps, rfl, ox, hs, q⟩ := h
    refine ⟨_, (pss_one (ps_ret (pe_and (pe_callB (k_isi (K := K)) rfl B.isinstance_ (by decide +kernel) (pa_cons (pv 0) (pa_cons (pe_ty (T := "str") B.str_ (by decide +kernel)) pa_nil))) (pe_one (pe_cmpR (k_inS (K := K)) (pv 0) (pv 1) (by rfl)))))), ?_⟩
    repeat' (walk_at "jv")
    refine is_strO ox ?_
    refine ⟨_, rfl, ?_⟩
    cases c1 : isS d with
    | false =>
      have e1 : oneB ps d = false := by
        cases d with
        | str z => cases c1
        | _ => rfl
      rw [e1] at q
      repeat' (walk_at "jv")
      exact q
    | true =>
      obtain ⟨z, rfl⟩ : ∃ z, d = .str z := by
        cases d with
        | str z => exact ⟨z, rfl⟩
        | _ => cases c1
      cases ox
      repeat' (walk_at "jv")
      exact q
theorem road_two (ps : List Str) (d e : PyData) : roadB ps (.tuple [d, e]) = ((oneB ps d && oneB ps e) && !decide (txtD d = txtD e)) := by
  cases d with
  | str x => cases e with
    | str y => rfl
    | _ => show false = ((_ && false) && _); rw [Bool.and_false, Bool.false_and]
  | _ => show false = ((false && _) && _); rw [Bool.false_and, Bool.false_and]
theorem road_not {ps : List Str} {ds : List PyData} (h : ds.length ≠ 2) : roadB ps (.tuple ds) = false := by
  match ds, h with
  | [], _ => rfl
  | [d], _ => cases d <;> rfl
  | [d, e], h => exact absurd rfl h
  | d :: e :: f :: r, _ =>
    unfold roadB
    split
    · rename_i x y heq
      injection heq with heq
      injection heq with _ heq
      injection heq with _ heq
      cases heq
    · rfl
theorem isT_no {ps : List Str} {d : PyData} (h : isT d = false) : roadB ps d = false ∧ placesB d = false ∧ (∀ qs, roadsB qs d = false) ∧ webB d = false := by
  cases d with
  | tuple ds => cases h
  | _ => exact ⟨rfl, rfl, fun _ => rfl, rfl⟩
theorem ok_is_roadO (D : Dn K mg "_is_road" s__is_road ["thing", "places"]) (B : Bn mg) (C_is_one_of : Cl P w K mg base 1 "is_one_of" ["thing", "places"] (spIsOneO K)) : Cl P w K mg base 2 "_is_road" ["thing", "places"] (spIsRoadO K) := by
  refine D.cl sc__is_road (fun vs H Q E h => ?_) (fun f cdv A outer s H vs Q E hr h => ?_)
  · obtain ⟨a, p, x, d, ps, rfl, _⟩ := h
    rfl
  · obtain ⟨a, p, x, d, ps, rfl, ox, hs, q⟩ := h
    refine ⟨_, (pss_cons (ps_if (PW.pt (pw_or (pt_not (pt_val (pe_callB (k_isi (K := K)) rfl B.isinstance_ (by decide +kernel) (pa_cons (pv 0) (pa_cons (pe_ty (T := "tuple") B.tuple_ (by decide +kernel)) pa_nil))))) (pw_or1 (pt_cmpR op_ne (pe_callB (k_len (K := K)) rfl B.len_ (by decide +kernel) (pa_cons (pv 0) pa_nil)) pe_int (nomark _))))) (pss_one (ps_ret pe_bl)) pss_nil)
      (pss_one (ps_ret (pe_and (pe_callB (k_all (K := K) rfl) rfl B.all_ (by decide +kernel) (pa_cons (pe_lc (own := [("end", 2)]) rfl sc__is_road.nd (kpi_tup (K := K) (pv 0)) (blkOk_by (N := ["thing", "places", "end"]) (sc := defScope s__is_road) (by decide +kernel)) (fun _ _ _ _ _ => (pg_name (i := 2) sc__is_road.nd rfl (by first | exact Or.inl rfl | exact Or.inr rfl))) (fun _ _ _ _ _ => pts_nil) (fun _ _ _ _ _ => (pe_c C_is_one_of hr (pa_cons (pv 2) (pa_cons (pv 1) pa_nil))))) pa_nil)) (pe_one (pe_cmpR op_ne (pe_ix (k_ixT (K := K)) (pv 0) pe_int (fun _ _ => rfl)) (pe_ix (k_ixT (K := K)) (pv 0) pe_int (fun _ _ => rfl)) (nomark _))))))), ?_⟩
    repeat' (walk_at "jv")
    refine is_tupO ox ?_
    refine ⟨_, rfl, ?_⟩
    cases c : isT d with
    | false =>
      rw [(isT_no (ps := ps) c).1] at q
      repeat' (walk_at "jv")
      exact q H (Same.refl _)
    | true =>
      obtain ⟨ds, rfl⟩ : ∃ ds, d = .tuple ds := by
        cases d with
        | tuple ds => exact ⟨ds, rfl⟩
        | _ => cases c
      cases ox with
      | @tup t xs ds sx al =>
      have hxl := ObAll.len al
      repeat' (walk_at "jv")
      · rename_i hne
        rw [road_not (by omega)] at q
        exact q H (Same.refl _)
      · rename_i hne
        obtain ⟨d1, d2, rfl⟩ : ∃ d1 d2, ds = [d1, d2] := by
          match ds, (show ds.length = 2 by omega) with
          | [d1, d2], _ => exact ⟨d1, d2, rfl⟩
        rw [road_two] at q
        refine c_tup xs (fun D i H' => H D = none ∧ Same H H' ∧ H' D = some (.lst ((([d1, d2].take i).map (oneB ps)).map V.bl))) (fun D nD => ⟨nD, Same.upd_new nD, upd_same⟩) (fun D i H' _ h => TK.same h.2.1 _ _ sx) (fun D i y H' hy h => ?_) (fun D H' h => ?_)
        · obtain ⟨nD, kD, eD⟩ := h
          obtain ⟨d', hd', od'⟩ := ObAll.get al hy
          have hi : i < 2 := (List.getElem?_eq_some_iff.mp hd').1
          repeat' (walk_at "jv")
          refine ⟨a, p, y, d', ps, rfl, od'.same kD, TK.same (K := K) kD _ _ hs, ?_⟩
          refine i_lcE eD (by rw [List.length_map, List.length_map, List.length_take, sizeLine_eq]; omega) ⟨nD, fun c oc z => (upd_ne (ne_of_none z nD)).trans (kD _ _ z), ?_⟩
          rw [take_push hd', List.map_append, List.map_append]
          exact upd_same
        · obtain ⟨nD, kD, eD⟩ := h
          rw [hxl, List.take_length] at eD
          have sx' := TK.same (K := K) kD _ _ sx
          repeat' (walk_at "jv")
          have ea : ([d1, d2].map (oneB ps)).all id = (oneB ps d1 && oneB ps d2) := by
            show (oneB ps d1 && (oneB ps d2 && true)) = _
            rw [Bool.and_true]
          rw [ea]
          cases c2 : (oneB ps d1 && oneB ps d2) with
          | false =>
            rw [c2] at q
            repeat' (walk_at "jv")
            exact q H' kD
          | true =>
            rw [c2, Bool.true_and] at q
            rw [Bool.and_eq_true] at c2
            obtain ⟨u, rfl⟩ : ∃ u, d1 = .str u := by
              cases d1 with
              | str u => exact ⟨u, rfl⟩
              | _ => cases c2.1
            obtain ⟨u2, rfl⟩ : ∃ u, d2 = .str u := by
              cases d2 with
              | str u => exact ⟨u, rfl⟩
              | _ => cases c2.2
            cases al with
            | cons h1 h2 =>
            cases h2 with
            | cons h2 h3 =>
            cases h3
            cases h1
            cases h2
            repeat' (walk_at "jv")
            have e2 : (!decide (txtD (.str u) = txtD (.str u2))) = decide (u ≠ u2) := by
              show (!decide (u = u2)) = _
              rw [decide_not]
            rw [e2] at q
            exact q H' kD
theorem ok_are_placesO (D : Dn K mg "_are_places" s__are_places ["thing"]) (B : Bn mg) (Gg : Gn mg) (C_is_name : Cl P w K mg base 1 "is_name" ["thing"] (spIsNameO K)) : Cl P w K mg base 2 "_are_places" ["thing"] (spArePlacesO K) := by
  obtain ⟨_, ⟨t2, c_MOST_PLACES⟩, _, _, _⟩ := Gg
  refine D.cl sc__are_places (fun vs H Q E h => ?_) (fun f cdv A outer s H vs Q E hr h => ?_)
  · obtain ⟨a, x, d, rfl, _⟩ := h
    rfl
  · obtain ⟨a, x, d, rfl, ox, ok, q⟩ := h
    refine ⟨_, (pss_cons (ps_if (PW.pt (pw_or (pt_not (pt_val (pe_callB (k_isi (K := K)) rfl B.isinstance_ (by decide +kernel) (pa_cons (pv 0) (pa_cons (pe_ty (T := "tuple") B.tuple_ (by decide +kernel)) pa_nil))))) (pw_or1 (pt_not (pt_chain op_le op_le pe_int (pe_callB (k_len (K := K)) rfl B.len_ (by decide +kernel) (pa_cons (pv 0) pa_nil)) (gl_int c_MOST_PLACES)))))) (pss_one (ps_ret pe_bl)) pss_nil)
      (pss_one (ps_ret (pe_and (pe_callB (k_all (K := K) rfl) rfl B.all_ (by decide +kernel) (pa_cons (pe_lc (own := [("place", 1)]) rfl sc__are_places.nd (kpi_tup (K := K) (pv 0)) (blkOk_by (N := ["thing", "place"]) (sc := defScope s__are_places) (by decide +kernel)) (fun _ _ _ _ _ => (pg_name (i := 1) sc__are_places.nd rfl (by first | exact Or.inl rfl | exact Or.inr rfl))) (fun _ _ _ _ _ => pts_nil) (fun _ _ _ _ _ => (pe_c C_is_name hr (pa_cons (pv 1) pa_nil)))) pa_nil)) (pe_one (pe_cmpR op_eq (pe_callB (cr_lenTextsD) rfl B.len_ (by decide +kernel) (pa_cons (pe_callTy (cr_setTextsD rfl) rfl B.set_ (by decide +kernel) (pa_cons (pv 0) pa_nil)) pa_nil)) (pe_callB (k_len (K := K)) rfl B.len_ (by decide +kernel) (pa_cons (pv 0) pa_nil)) (nomark _))))))), ?_⟩
    repeat' (walk_at "jv")
    refine is_tupO ox ?_
    refine ⟨_, rfl, ?_⟩
    cases c : isT d with
    | false =>
      rw [(isT_no (ps := []) c).2.1] at q
      repeat' (walk_at "jv")
      exact q H (Same.refl _)
    | true =>
      obtain ⟨ds, rfl⟩ : ∃ ds, d = .tuple ds := by
        cases d with
        | tuple ds => exact ⟨ds, rfl⟩
        | _ => cases c
      cases ox with
      | @tup t xs ds sx al =>
      have hxl := ObAll.len al
      replace q : ∀ H', Same H H' → Q (.bl ((decide (1 ≤ ds.length) && decide (ds.length ≤ 8)) && (ds.all nameB && decide (ds.map txtD).Nodup))) H' := q
      repeat' (walk_at "jv")
      · rw [decide_eq_false (p := ds.length ≤ 8) (by omega), Bool.and_false, Bool.false_and] at q
        exact q H (Same.refl _)
      · rw [decide_eq_true (p := 1 ≤ ds.length) (by omega), decide_eq_true (p := ds.length ≤ 8) (by omega)] at q
        rw [Bool.true_and, Bool.true_and] at q
        refine c_tup xs (fun D i H' => H D = none ∧ Same H H' ∧ H' D = some (.lst (((ds.take i).map nameB).map V.bl))) (fun D nD => ⟨nD, Same.upd_new nD, upd_same⟩) (fun D i H' _ h => TK.same h.2.1 _ _ sx) (fun D i y H' hy h => ?_) (fun D H' h => ?_)
        · obtain ⟨nD, kD, eD⟩ := h
          obtain ⟨d', hd', od'⟩ := ObAll.get al hy
          have hi : i < ds.length := (List.getElem?_eq_some_iff.mp hd').1
          repeat' (walk_at "jv")
          refine ⟨a, y, d', rfl, od'.same kD, ok_tup.mp ok d' (List.mem_of_getElem? hd'), fun H2 k2 => ?_⟩
          refine i_lcE (k2 _ _ eD) (by rw [List.length_map, List.length_map, List.length_take, sizeLine_eq]; omega) ⟨nD, fun c oc z => (upd_ne (ne_of_none z nD)).trans (k2 _ _ (kD _ _ z)), ?_⟩
          rw [take_push hd', List.map_append, List.map_append]
          exact upd_same
        · obtain ⟨nD, kD, eD⟩ := h
          rw [hxl, List.take_length] at eD
          have sx' := TK.same (K := K) kD _ _ sx
          repeat' (walk_at "jv")
          rw [show (ds.map nameB).all id = ds.all nameB by rw [List.all_map]; rfl]
          cases ca : ds.all nameB with
          | false =>
            rw [ca] at q
            repeat' (walk_at "jv")
            exact q H' kD
          | true =>
            rw [ca, Bool.true_and] at q
            obtain ⟨ez, _⟩ := names_all ca
            have hzl : (ds.map txtD).length = ds.length := List.length_map ..
            generalize ds.map txtD = zs at ez hzl q
            subst ez
            obtain rfl := strs_of_obs al
            repeat' (walk_at "jv")
            refine ⟨t, zs, rfl, sx', by omega, fun D2 nD2 => ?_⟩
            repeat' (walk_at "jv")
            refine ⟨D2, zs, rfl, upd_same, ?_⟩
            have k2 := Same.upd_new (o := TxsDO P w D2 zs) nD2
            have sx2 := TK.same (K := K) k2 _ _ sx'
            have hzv : (zs.map V.str).length = zs.length := List.length_map ..
            repeat' (walk_at "jv")
            have ed : decide (((distN zs : Nat) : Int) = (((zs.map V.str).length : Nat) : Int)) = decide zs.Nodup := by
              refine decide_eq_decide.mpr ?_
              rw [← (dist_le zs.length zs rfl).2, hzv]
              omega
            rw [ed]
            exact q _ (kD.trans k2)
      · rw [decide_eq_false (p := 1 ≤ ds.length) (by omega), Bool.false_and, Bool.false_and] at q
        exact q H (Same.refl _)
theorem ok_are_roadsO (D : Dn K mg "_are_roads" s__are_roads ["thing", "places"]) (B : Bn mg) (Gg : Gn mg) (C__is_road : Cl P w K mg base 2 "_is_road" ["thing", "places"] (spIsRoadO K)) : Cl P w K mg base 3 "_are_roads" ["thing", "places"] (spAreRoadsO K) := by
  obtain ⟨_, _, ⟨t3, c_MOST_ROADS⟩, _, _⟩ := Gg
  refine D.cl sc__are_roads (fun vs H Q E h => ?_) (fun f cdv A outer s H vs Q E hr h => ?_)
  · obtain ⟨a, p, x, d, ps, rfl, _⟩ := h
    rfl
  · obtain ⟨a, p, x, d, ps, rfl, ox, hs, q⟩ := h
    refine ⟨_, (pss_cons (ps_if (PW.pt (pw_or (pt_not (pt_val (pe_callB (k_isi (K := K)) rfl B.isinstance_ (by decide +kernel) (pa_cons (pv 0) (pa_cons (pe_ty (T := "tuple") B.tuple_ (by decide +kernel)) pa_nil))))) (pw_or1 (pt_cmpR op_gt (pe_callB (k_len (K := K)) rfl B.len_ (by decide +kernel) (pa_cons (pv 0) pa_nil)) (gl_int c_MOST_ROADS) (nomark _))))) (pss_one (ps_ret pe_bl)) pss_nil)
      (pss_cons (ps_if (pt_not (pt_val (pe_callB (k_all (K := K) rfl) rfl B.all_ (by decide +kernel) (pa_cons (pe_lc (own := [("road", 2)]) rfl sc__are_roads.nd (kpi_tup (K := K) (pv 0)) (blkOk_by (N := ["thing", "places", "road"]) (sc := defScope s__are_roads) (by decide +kernel)) (fun _ _ _ _ _ => (pg_name (i := 2) sc__are_roads.nd rfl (by first | exact Or.inl rfl | exact Or.inr rfl))) (fun _ _ _ _ _ => pts_nil) (fun _ _ _ _ _ => (pe_c C__is_road hr (pa_cons (pv 2) (pa_cons (pv 1) pa_nil))))) pa_nil)))) (pss_one (ps_ret pe_bl)) pss_nil)
      (pss_one (ps_ret (pe_cmpR op_eq (pe_callB (cr_lenTs) rfl B.len_ (by decide +kernel) (pa_cons (pe_sctD (own := [("road", 2)]) rfl hr.units sc__are_roads.nd (kpi_tup (K := K) (pv 0)) (blkOk_by (N := ["thing", "places", "road"]) (sc := defScope s__are_roads) (by decide +kernel)) (fun _ _ _ _ _ => (pg_name (i := 2) sc__are_roads.nd rfl (by first | exact Or.inl rfl | exact Or.inr rfl))) (fun _ _ _ _ _ => pts_nil) (fun _ _ _ _ _ => (pe_callTy (k_tuple (K := K)) rfl B.tuple_ (by decide +kernel) (pa_cons (pe_callB (k_sortedTx (K := K)) rfl B.sorted_ (by decide +kernel) (pa_cons (pv 2) pa_nil)) pa_nil)))) pa_nil)) (pe_callB (k_len (K := K)) rfl B.len_ (by decide +kernel) (pa_cons (pv 0) pa_nil)) (nomark _)))))), ?_⟩
    repeat' (walk_at "jv")
    refine is_tupO ox ?_
    refine ⟨_, rfl, ?_⟩
    cases c : isT d with
    | false =>
      rw [(isT_no (ps := []) c).2.2.1] at q
      repeat' (walk_at "jv")
      exact q H (Same.refl _)
    | true =>
      obtain ⟨ds, rfl⟩ : ∃ ds, d = .tuple ds := by
        cases d with
        | tuple ds => exact ⟨ds, rfl⟩
        | _ => cases c
      cases ox with
      | @tup t xs ds sx al =>
      have hxl := ObAll.len al
      replace q : ∀ H', Same H H' → Q (.bl (decide (ds.length ≤ 14) && (ds.all (roadB ps) && uniqB (ds.map endsD)))) H' := q
      repeat' (walk_at "jv")
      · rw [decide_eq_false (p := ds.length ≤ 14) (by omega), Bool.false_and] at q
        exact q H (Same.refl _)
      · rw [decide_eq_true (p := ds.length ≤ 14) (by omega), Bool.true_and] at q
        refine c_tup xs (fun D i H' => H D = none ∧ Same H H' ∧ H' D = some (.lst (((ds.take i).map (roadB ps)).map V.bl))) (fun D nD => ⟨nD, Same.upd_new nD, upd_same⟩) (fun D i H' _ h => TK.same h.2.1 _ _ sx) (fun D i y H' hy h => ?_) (fun D H' h => ?_)
        · obtain ⟨nD, kD, eD⟩ := h
          obtain ⟨d', hd', od'⟩ := ObAll.get al hy
          have hi : i < ds.length := (List.getElem?_eq_some_iff.mp hd').1
          repeat' (walk_at "jv")
          refine ⟨a, p, y, d', ps, rfl, od'.same kD, TK.same (K := K) kD _ _ hs, fun H2 k2 => ?_⟩
          refine i_lcE (k2 _ _ eD) (by rw [List.length_map, List.length_map, List.length_take, sizeLine_eq]; omega) ⟨nD, fun c oc z => (upd_ne (ne_of_none z nD)).trans (k2 _ _ (kD _ _ z)), ?_⟩
          rw [take_push hd', List.map_append, List.map_append]
          exact upd_same
        · obtain ⟨nD, kD, eD⟩ := h
          rw [hxl, List.take_length] at eD
          have sx' := TK.same (K := K) kD _ _ sx
          repeat' (walk_at "jv")
          rw [show (ds.map (roadB ps)).all id = ds.all (roadB ps) by rw [List.all_map]; rfl]
          cases ca : ds.all (roadB ps) with
          | false =>
            rw [ca] at q
            repeat' (walk_at "jv")
            exact q H' kD
          | true =>
            rw [ca, Bool.true_and] at q
            obtain ⟨ez, _⟩ := roads_all ca
            have hzl : (ds.map endsD).length = ds.length := List.length_map ..
            generalize ds.map endsD = rs at ez hzl q
            subst ez
            have dx : DpAll K H' xs (rs.map roadD) := DpAll.same kD _ _ (roads_of_obs al)
            repeat' (walk_at "jv")
            refine i_sctD ?_
            repeat' (walk_at "jv")
            refine s_tupD xs (fun D3 i H3 => H' D3 = none ∧ Same H' H3 ∧ ∃ L : List (Addr × List Str), H3 D3 = some (TsO P w D3 L) ∧ L.length ≤ i ∧ (∀ q ∈ L, SqT K H3 q.1 (q.2.map V.str)) ∧ (L.map (·.2)).Nodup ∧ ∀ k, k ∈ L.map (·.2) ↔ k ∈ (rs.take i).map srt)
              (fun D3 nD3 => ⟨nD3, Same.upd_new nD3, [], upd_same, Nat.le_refl _, fun q z => absurd z List.not_mem_nil, List.nodup_nil, fun k => Iff.rfl⟩) (fun D3 i H3 _ h => TK.same h.2.1 _ _ sx') (fun D3 i y H3 hy h => ?_) (fun D3 H3 h => ?_)
            · obtain ⟨nD3, k3, L, eL, hL, sL, ndL, mL⟩ := h
              have hi : i < rs.length := by
                have := (List.getElem?_eq_some_iff.mp hy).1
                omega
              obtain ⟨d, hd, dy⟩ := DpAll.get dx hy
              rw [List.getElem?_map, List.getElem?_eq_getElem hi] at hd
              obtain rfl : roadD rs[i] = d := Option.some.inj hd
              obtain ⟨t2, rfl, st⟩ := road_parts (Dp.same k3 _ _ dy)
              have et : (rs.take (i + 1)).map srt = (rs.take i).map srt ++ [srt rs[i]] := by
                rw [take_push (List.getElem?_eq_getElem hi), List.map_append]
                rfl
              repeat' (walk_at "jv")
              refine ⟨t2, [rs[i].1, rs[i].2], rfl, st, fun ys p1 pm so np1 => ?_⟩
              refine i_nil ?_
              refine i_tupL (sq_lst upd_same) fun T nT => ?_
              have s1 := Same.upd_new (o := .lst (ys.map V.str)) np1
              have s2 := Same.upd_new (o := .tup (ys.map V.str)) nT
              have ey := srt_of pm so
              refine ⟨T, ys, L, rfl, .inl (.inl upd_same), s2 _ _ (s1 _ _ eL), fun q hq => TK.same (s1.trans s2) _ _ (sL q hq), by omega, fun old => ?_, fun new L' pL => ?_⟩
              · refine ⟨nD3, k3.trans (s1.trans s2), L, s2 _ _ (s1 _ _ eL), by omega, fun q hq => TK.same (s1.trans s2) _ _ (sL q hq), ndL, fun k => ?_⟩
                rw [et, List.mem_append, List.mem_singleton, ← ey, mL k]
                exact ⟨.inl, fun h => h.elim id fun e => e ▸ (mL ys).mp old⟩
              · refine ⟨nD3, fun b o z => ?_, L', upd_same, by rw [pL.length_eq, List.length_cons]; omega, fun q hq => ?_, ?_, fun k => ?_⟩
                · rw [upd_ne (fun w => by rw [w, nD3] at z; cases z)]
                  exact s2 _ _ (s1 _ _ (k3 _ _ z))
                · have tk : TK K (upd (upd H3 p1 (.lst (ys.map V.str))) T (.tup (ys.map V.str))) (upd (upd (upd H3 p1 (.lst (ys.map V.str))) T (.tup (ys.map V.str))) D3 (TsO P w D3 L')) := by
                    have eD := s2 _ _ (s1 _ _ eL)
                    refine TK.of_at (fun b zs z => ?_) fun b ob zs z => ?_
                    · rw [upd_ne (fun w => by rw [w, eD] at z; cases z)]
                      exact z
                    · rw [upd_ne (fun w => by rw [w, eD] at z; cases z)]
                      exact z
                  rcases List.mem_cons.mp (pL.mem_iff.mp hq) with e | hq
                  · subst e
                    exact tk _ _ (.inl (.inl upd_same))
                  · exact tk _ _ (TK.same (s1.trans s2) _ _ (sL q hq))
                · rw [(pL.map (·.2)).nodup_iff, List.map_cons, List.nodup_cons]
                  exact ⟨new, ndL⟩
                · rw [(pL.map (·.2)).mem_iff, List.map_cons, List.mem_cons, mL k, et, List.mem_append, List.mem_singleton, ← ey]
                  exact Or.comm
            · obtain ⟨nD3, k3, L, eL, hL, sL, ndL, mL⟩ := h
              refine i_nil ?_
              refine ⟨D3, L, rfl, eL, ?_⟩
              have sx3 := TK.same (K := K) k3 _ _ sx'
              have hml : xs.length = rs.length := by rw [hxl, List.length_map]
              rw [hml, List.take_length] at mL
              repeat' (walk_at "jv")
              have ef := few_srt ndL mL
              rw [List.length_map] at ef
              rw [show (xs.length : Int) = (rs.length : Int) by omega, ef]
              exact q _ (kD.trans k3)
theorem web_not {ds : List PyData} (h : ds.length ≠ 2) : webB (.tuple ds) = false := by
  match ds, h with
  | [], _ => rfl
  | [d], _ => rfl
  | [d, e], h => exact absurd rfl h
  | d :: e :: f :: r, _ => rfl
theorem ok_is_webO (D : Dn K mg "is_web" s_is_web ["thing"]) (B : Bn mg) (C__are_places : Cl P w K mg base 2 "_are_places" ["thing"] (spArePlacesO K)) (C__are_roads : Cl P w K mg base 3 "_are_roads" ["thing", "places"] (spAreRoadsO K)) : Cl P w K mg base 4 "is_web" ["thing"] (spIsWebO K) := by
  refine D.cl sc_is_web (fun vs H Q E h => ?_) (fun f cdv A outer s H vs Q E hr h => ?_)
  · obtain ⟨a, x, d, rfl, _⟩ := h
    rfl
  · obtain ⟨a, x, d, rfl, ox, ok, q⟩ := h
    refine ⟨_, (pss_cons (ps_if (PW.pt (pw_or (pt_not (pt_val (pe_callB (k_isi (K := K)) rfl B.isinstance_ (by decide +kernel) (pa_cons (pv 0) (pa_cons (pe_ty (T := "tuple") B.tuple_ (by decide +kernel)) pa_nil))))) (pw_or1 (pt_cmpR op_ne (pe_callB (k_len (K := K)) rfl B.len_ (by decide +kernel) (pa_cons (pv 0) pa_nil)) pe_int (nomark _))))) (pss_one (ps_ret pe_bl)) pss_nil)
      (pss_cons (ps_asg (pv 0) (kpg_tup (K := K) (n := 2) rfl (pgs_cons (pg_name (i := 1) sc_is_web.nd rfl (by first | exact Or.inl rfl | exact Or.inr rfl)) (pgs_cons (pg_name (i := 2) sc_is_web.nd rfl (by first | exact Or.inl rfl | exact Or.inr rfl)) pgs_nil))))
      (pss_one (ps_ret (pe_and (pe_c C__are_places hr (pa_cons (pv 1) pa_nil)) (pe_one (pe_c C__are_roads hr (pa_cons (pv 2) (pa_cons (pv 1) pa_nil))))))))), ?_⟩
    repeat' (walk_at "jv")
    refine is_tupO ox ?_
    refine ⟨_, rfl, ?_⟩
    cases c : isT d with
    | false =>
      rw [(isT_no (ps := []) c).2.2.2] at q
      repeat' (walk_at "jv")
      exact q H (Same.refl _)
    | true =>
      obtain ⟨ds, rfl⟩ : ∃ ds, d = .tuple ds := by
        cases d with
        | tuple ds => exact ⟨ds, rfl⟩
        | _ => cases c
      cases ox with
      | @tup t xs ds sx al =>
      have hxl := ObAll.len al
      repeat' (walk_at "jv")
      · rw [web_not (by omega)] at q
        exact q H (Same.refl _)
      · obtain ⟨d1, d2, rfl⟩ : ∃ d1 d2, ds = [d1, d2] := by
          match ds, (show ds.length = 2 by omega) with
          | [d1, d2], _ => exact ⟨d1, d2, rfl⟩
        replace q : ∀ H', Same H H' → Q (.bl (placesB d1 && roadsB (namesOf d1) d2)) H' := q
        cases al with
        | cons h1 h2 =>
        cases h2 with
        | cons h2 h3 =>
        cases h3
        have ok1 := ok_tup.mp ok d1 List.mem_cons_self
        repeat' (walk_at "jv")
        refine ⟨a, _, d1, rfl, h1, ok1, fun H2 k2 => ?_⟩
        refine ⟨_, rfl, ?_⟩
        cases cp : placesB d1 with
        | false =>
          rw [cp] at q
          repeat' (walk_at "jv")
          exact q H2 k2
        | true =>
          rw [cp, Bool.true_and] at q
          obtain ⟨ps, rfl, en, _⟩ := places_is cp
          rw [en] at q
          cases h1 with
          | @tup tp ys _ sy ay =>
          obtain rfl := strs_of_obs ay
          repeat' (walk_at "jv")
          exact ⟨a, tp, _, d2, ps, rfl, h2.same k2, TK.same (K := K) k2 _ _ sy, fun H3 k3 => q H3 (k2.trans k3)⟩
theorem ok_is_webOK (D : Dk K mg "is_web" s_is_web ["thing"] ["thing"]) (B : Bn mg) (C__are_places : Cl P w K mg base 2 "_are_places" ["thing"] (spArePlacesO K)) (C__are_roads : Cl P w K mg base 3 "_are_roads" ["thing", "places"] (spAreRoadsO K)) : ClK P w K mg base 4 "is_web" ["thing"] ["thing"] (spIsWebO K) := by
  refine D.cl sc_is_web (fun vs H Q E h => ?_) (fun f cdv A outer s H vs Q E hr h => ?_)
  · obtain ⟨a, x, d, rfl, _⟩ := h
    rfl
  · obtain ⟨a, x, d, rfl, ox, ok, q⟩ := h
    refine ⟨_, (pss_cons (ps_if (PW.pt (pw_or (pt_not (pt_val (pe_callB (k_isi (K := K)) rfl B.isinstance_ (by decide +kernel) (pa_cons (pv 0) (pa_cons (pe_ty (T := "tuple") B.tuple_ (by decide +kernel)) pa_nil))))) (pw_or1 (pt_cmpR op_ne (pe_callB (k_len (K := K)) rfl B.len_ (by decide +kernel) (pa_cons (pv 0) pa_nil)) pe_int (nomark _))))) (pss_one (ps_ret pe_bl)) pss_nil)
      (pss_cons (ps_asg (pv 0) (kpg_tup (K := K) (n := 2) rfl (pgs_cons (pg_name (i := 1) sc_is_web.nd rfl (by first | exact Or.inl rfl | exact Or.inr rfl)) (pgs_cons (pg_name (i := 2) sc_is_web.nd rfl (by first | exact Or.inl rfl | exact Or.inr rfl)) pgs_nil))))
      (pss_one (ps_ret (pe_and (pe_c C__are_places hr (pa_cons (pv 1) pa_nil)) (pe_one (pe_c C__are_roads hr (pa_cons (pv 2) (pa_cons (pv 1) pa_nil))))))))), ?_⟩
    repeat' (walk_at "jv")
    refine is_tupO ox ?_
    refine ⟨_, rfl, ?_⟩
    cases c : isT d with
    | false =>
      rw [(isT_no (ps := []) c).2.2.2] at q
      repeat' (walk_at "jv")
      exact q H (Same.refl _)
    | true =>
      obtain ⟨ds, rfl⟩ : ∃ ds, d = .tuple ds := by
        cases d with
        | tuple ds => exact ⟨ds, rfl⟩
        | _ => cases c
      cases ox with
      | @tup t xs ds sx al =>
      have hxl := ObAll.len al
      repeat' (walk_at "jv")
      · rw [web_not (by omega)] at q
        exact q H (Same.refl _)
      · obtain ⟨d1, d2, rfl⟩ : ∃ d1 d2, ds = [d1, d2] := by
          match ds, (show ds.length = 2 by omega) with
          | [d1, d2], _ => exact ⟨d1, d2, rfl⟩
        replace q : ∀ H', Same H H' → Q (.bl (placesB d1 && roadsB (namesOf d1) d2)) H' := q
        cases al with
        | cons h1 h2 =>
        cases h2 with
        | cons h2 h3 =>
        cases h3
        have ok1 := ok_tup.mp ok d1 List.mem_cons_self
        repeat' (walk_at "jv")
        refine ⟨a, _, d1, rfl, h1, ok1, fun H2 k2 => ?_⟩
        refine ⟨_, rfl, ?_⟩
        cases cp : placesB d1 with
        | false =>
          rw [cp] at q
          repeat' (walk_at "jv")
          exact q H2 k2
        | true =>
          rw [cp, Bool.true_and] at q
          obtain ⟨ps, rfl, en, _⟩ := places_is cp
          rw [en] at q
          cases h1 with
          | @tup tp ys _ sy ay =>
          obtain rfl := strs_of_obs ay
          repeat' (walk_at "jv")
          exact ⟨a, tp, _, d2, ps, rfl, h2.same k2, TK.same (K := K) k2 _ _ sy, fun H3 k3 => q H3 (k2.trans k3)⟩
end
end
section
open L2 PySem PySem.Spec PyProof.Rows
abbrev s__law_is_name : Stmt := topS 42
theorem sc__law_is_name : FnScope ["_law_thing", "_law_signs", "_law_sign"] ["_law_thing"] (defScope s__law_is_name) := ⟨rfl, rfl, rfl, by decide +kernel, rfl, by decide +kernel, by decide +kernel⟩
abbrev s__law_is_web : Stmt := topS 43
theorem sc__law_is_web : FnScope ["_law_thing", "_law_places", "_law_pairs", "_law_road", "_law_place", "_law_end"] ["_law_thing"] (defScope s__law_is_web) := ⟨rfl, rfl, rfl, by decide +kernel, rfl, by decide +kernel, by decide +kernel⟩
theorem signs_sum : Str.ofString "abcdefghijklmnopqrstuvwxyz" ++ Str.ofString "0123456789" = Str.ofString "abcdefghijklmnopqrstuvwxyz0123456789" := by decide +kernel
mutual
theorem Ob.re {K : PySem.W.Frag} {H : Hp} {a b : Addr} (n : H b = none) : ∀ (d : PyData) (v : V), Ob K H a v d → Ob K H b v d
  | .none, _, h => by cases h; exact .non
  | .bool c, _, h => by cases h; exact .bl c
  | .int i, _, h => by cases h; exact .int i
  | .str x, _, h => by cases h; exact .str x
  | .list ds, _, h => by
    cases h with
    | lst e n2 al => exact .lst e (fun z => by rw [z, n] at e; cases e) (ObAll.re n ds _ al)
  | .tuple ds, _, h => by
    cases h with
    | tup s al => exact .tup s (ObAll.re n ds _ al)
  | .dict _, _, h => by
    cases h with
    | dic e n2 => exact .dic e (fun z => by rw [z, n] at e; cases e)
theorem ObAll.re {K : PySem.W.Frag} {H : Hp} {a b : Addr} (n : H b = none) : ∀ (ds : List PyData) (vs : List V), ObAll K H a vs ds → ObAll K H b vs ds
  | [], _, h => by cases h; exact .nil
  | d :: ds, _, h => by
    cases h with
    | cons h1 h2 => exact .cons (Ob.re n d _ h1) (ObAll.re n ds _ h2)
end
theorem one_name {ns : List Str} (h : ∀ z ∈ ns, nmOk z = true) {d : PyData} (o : oneB ns d = true) : nameB d = true := by
  cases d with
  | str z => exact h z (of_decide_eq_true o)
  | _ => cases o
theorem dp_as {K : PySem.W.Frag} {H : Hp} : ∀ {as : List Addr} {l : List PyData}, as.length = l.length → (∀ (j : Nat) (b : Addr), as[j]? = some b → ∃ g, l[j]? = some g ∧ H b = some (.lst ((srt (endsD g)).map V.str))) → DpAll K H (as.map V.ref) (l.map fun g => tlD (srt (endsD g)))
  | [], [], _, _ => .nil
  | b :: as, g :: l, hl, h => by
    obtain ⟨g', hg, e⟩ := h 0 b rfl
    obtain rfl : g = g' := Option.some.inj hg
    exact .cons (tl_dp e) (dp_as (by simpa using hl) fun j c hc => h (j + 1) c hc)
theorem tl_lay {l : List Str} (h : ∀ z ∈ l, nmOk z = true) : (tlD l).canLay0 = true := strs_lay h
theorem tl_deep {l : List Str} (h : ∀ z ∈ l, nmOk z = true) : (tlD l).depth ≤ 60 := by
  obtain ⟨_, _, _, a4, _⟩ := texts_data l h
  show PyData.depthAll (l.map .str) + 1 ≤ 60
  omega
theorem tl_lays : ∀ {l : List PyData}, (∀ g ∈ l, ∀ z ∈ srt (endsD g), nmOk z = true) → PyData.canLayAll0 (l.map fun g => tlD (srt (endsD g))) = true
  | [], _ => rfl
  | g :: l, h => by
    show ((tlD (srt (endsD g))).canLay0 && PyData.canLayAll0 (l.map fun g => tlD (srt (endsD g)))) = true
    rw [tl_lay (h g List.mem_cons_self), tl_lays fun x hx => h x (List.mem_cons_of_mem _ hx)]
    rfl
theorem tl_any (l : List PyData) (s : List Str) : ((l.map fun g => tlD (srt (endsD g))).any fun z => PyData.eqv z (tlD s)) = decide (s ∈ l.map fun g => srt (endsD g)) := by
  induction l with
  | nil => rfl
  | cons g l ih =>
    rw [List.map_cons, List.any_cons, ih, tl_eqd, List.map_cons, ← Bool.decide_or]
    refine decide_eq_decide.mpr ?_
    rw [List.mem_cons]
    exact ⟨fun h => h.imp Eq.symm id, fun h => h.imp Eq.symm id⟩
theorem uniq_bad {gs : List PyData} {i : Nat} {u v : Str} (h : gs[i]? = some (.tuple [.str u, .str v])) (m : srt (u, v) ∈ (gs.take i).map fun g => srt (endsD g)) : uniqB (gs.map endsD) = false := by
  refine decide_eq_false fun pw => ?_
  obtain ⟨g, hg, e⟩ := List.mem_map.mp m
  obtain ⟨j, hj, ej⟩ := List.getElem_of_mem hg
  rw [List.length_take] at hj
  rw [List.getElem_take] at ej
  have hi := (List.getElem?_eq_some_iff.mp h).1
  have := List.pairwise_iff_getElem.mp pw j i (by rw [List.length_map]; omega) (by rw [List.length_map]; exact hi) (by omega)
  rw [List.getElem_map, List.getElem_map, ej, (List.getElem?_eq_some_iff.mp h).2] at this
  rcases srt_eq.mp e with e | e
  · exact this.1 e
  · exact this.2 e
section
variable {base : Heap} {P : Program} {w : World} {K : PySem.W.Frag} {mg : Str → Option Value}
theorem ok_law_is_name (D : Dn K mg "_law_is_name" s__law_is_name ["_law_thing"]) (B : Bn mg) : Cl P w K mg base 1 "_law_is_name" ["_law_thing"] (spIsNameO K) := by
  refine D.cl sc__law_is_name (fun vs H Q E h => ?_) (fun f cdv A outer s H vs Q E hr h => ?_)
  · obtain ⟨a, x, d, rfl, _⟩ := h
    rfl
  · obtain ⟨a, x, d, rfl, ox, ok, q⟩ := h
    refine ⟨_, (pss_cons (ps_if (PW.pt (pw_or (pt_not (pt_val (pe_callB (k_isi (K := K)) rfl B.isinstance_ (by decide +kernel) (pa_cons (pv 0) (pa_cons (pe_ty (T := "str") B.str_ (by decide +kernel)) pa_nil))))) (pw_or (pt_cmpR op_lt (pe_callB (call_len_str) rfl B.len_ (by decide +kernel) (pa_cons (pv 0) pa_nil)) pe_int (nomark _)) (pw_or1 (pt_cmpR op_gt (pe_callB (call_len_str) rfl B.len_ (by decide +kernel) (pa_cons (pv 0) pa_nil)) pe_int (nomark _)))))) (pss_one (ps_ret pe_bl)) pss_nil)
      (pss_cons (ps_set (i := 1) sc__law_is_name.nd rfl (by first | exact Or.inl rfl | exact Or.inr rfl) pe_str)
      (pss_one (ps_ret (pe_and (pe_cmpR op_in_sign (pe_its (pv 0) pe_int (fun _ _ => rfl)) (pv 1) (by rfl)) (pe_one (pe_cmpR (k_eqE (K := K) hr.units) (pe_lc (own := [("_law_sign", 2)]) rfl sc__law_is_name.nd (pi_str (pv 0)) (blkOk_by (N := ["_law_thing", "_law_signs", "_law_sign"]) (sc := defScope s__law_is_name) (by decide +kernel)) (fun _ _ _ _ _ => (pg_name (i := 2) sc__law_is_name.nd rfl (by first | exact Or.inl rfl | exact Or.inr rfl))) (fun _ _ _ _ _ => pts_one (pt_cmpR op_notIn_sign (pv 2) (pe_op o_addS (pv 1) pe_str) (by rfl))) (fun _ _ _ _ _ => (pv 2))) (pe_lst pa_nil) (nomark _)))))))), ?_⟩
    repeat' (walk_at "jv")
    refine is_strO ox ?_
    refine ⟨_, rfl, ?_⟩
    cases c1 : isS d with
    | false =>
      have e1 : nameB d = false := by
        cases d with
        | str z => cases c1
        | _ => rfl
      rw [e1] at q
      repeat' (walk_at "jv")
      exact q H (Same.refl _)
    | true =>
      obtain ⟨z, rfl⟩ : ∃ z, d = .str z := by
        cases d with
        | str z => exact ⟨z, rfl⟩
        | _ => cases c1
      cases ox
      replace q : ∀ H', Same H H' → Q (.bl (nmOk z)) H' := q
      obtain ⟨hsz, _⟩ := ok_str.mp ok
      have hln : (z.length : Int) = z.cps.size := rfl
      repeat' (walk_at "jv")
      refine ⟨z, rfl, by rw [sizeLine_eq]; show z.cps.size ≤ _; omega, ?_⟩
      repeat' (walk_at "jv")
      · rw [nm_long (by omega)] at q
        exact q H (Same.refl _)
      · refine ⟨z, rfl, by rw [sizeLine_eq]; show z.cps.size ≤ _; omega, ?_⟩
        repeat' (walk_at "jv")
        · rw [nm_long (by omega)] at q
          exact q H (Same.refl _)
        · have h8 : z.cps.size ≤ 8 := by omega
          have h1 : 0 < z.cps.size := by omega
          have h0 : z.cps[0]? = some z.cps[0] := Array.getElem?_eq_getElem h1
          generalize z.cps[0] = c at h0
          rw [nm_split h8 h0] at q
          refine ⟨z, 0, c, rfl, rfl, by omega, by decide, by show (0 : Int) < z.length; omega, h0, ?_⟩
          repeat' (walk_at "jv")
          refine ⟨c, _, rfl, rfl, ?_⟩
          rw [letter_iff]
          refine ⟨_, rfl, ?_⟩
          cases hc : (decide (97 ≤ c) && decide (c ≤ 122)) with
          | false =>
            rw [hc] at q
            repeat' (walk_at "jv")
            exact q H (Same.refl _)
          | true =>
            rw [hc, Bool.true_and] at q
            repeat' (walk_at "jv")
            refine i_istr (i_var rfl ?_)
            refine i_isK ?_
            refine c_str z (fun D i H' => H D = none ∧ Same H H' ∧ ∃ ys : List V, H' D = some (.lst ys) ∧ ys.length ≤ i ∧ ys.isEmpty = (z.cps.toList.take i).all nmSign) (fun D nD => ⟨nD, Same.upd_new nD, [], upd_same, Nat.le_refl _, rfl⟩) (fun D i d H' hd h => ?_) (fun D H' h => ?_)
            · obtain ⟨nD, kD, ys, eD, hyl, hye⟩ := h
              have hd' : z.cps.toList[i]? = some d := by rw [Array.getElem?_toList]; exact hd
              have hi : i < z.cps.size := (Array.getElem?_eq_some_iff.mp hd).1
              have et : (z.cps.toList.take (i + 1)).all nmSign = ((z.cps.toList.take i).all nmSign && nmSign d) := by
                rw [take_push hd', List.all_append]
                simp
              repeat' (walk_at "jv")
              refine ⟨_, _, rfl, rfl, by rw [sizeLine_eq]; decide, ?_⟩
              rw [signs_sum]
              refine ⟨d, _, rfl, rfl, ?_⟩
              rw [sign_iff]
              refine ⟨_, rfl, i_iteB (fun h1 => ?_) (fun h1 => ?_)⟩
              · have h2 : nmSign d = false := by simpa using h1
                repeat' (walk_at "jv")
                refine ⟨nD, fun c oc z => (upd_ne (ne_of_none z nD)).trans (kD _ _ z), ys ++ [.str ⟨#[d]⟩], upd_same, by rw [List.length_append]; show _ + 1 ≤ _; omega, ?_⟩
                rw [et, h2, Bool.and_false]
                cases ys <;> rfl
              · have h2 : nmSign d = true := by simpa using h1
                refine ⟨nD, kD, ys, eD, by omega, ?_⟩
                rw [et, h2, Bool.and_true]
                exact hye
            · obtain ⟨nD, kD, ys, eD, hyl, hye⟩ := h
              repeat' (walk_at "jv")
              intro Z nZ
              have kZ := Same.upd_new (o := .lst []) nZ
              refine i_eqE (sq_lst (kZ _ _ eD)) (sq_lst upd_same) ?_
              rw [hye, List.take_of_length_le (by rw [Array.length_toList]; exact Nat.le_refl _)]
              exact q _ (kD.trans kZ)
theorem ok_law_is_web (D : Dn K mg "_law_is_web" s__law_is_web ["_law_thing"]) (B : Bn mg) (C__law_is_name : Cl P w K mg base 1 "_law_is_name" ["_law_thing"] (spIsNameO K)) : Cl P w K mg base 2 "_law_is_web" ["_law_thing"] (spIsWebO K) := by
  refine D.cl sc__law_is_web (fun vs H Q E h => ?_) (fun f cdv A outer s H vs Q E hr h => ?_)
  · obtain ⟨a, x, d, rfl, _⟩ := h
    rfl
  · obtain ⟨a, x, d, rfl, ox, ok, q⟩ := h
    refine ⟨_, (pss_cons (ps_if (PW.pt (pw_or (pt_not (pt_val (pe_callB (k_isi (K := K)) rfl B.isinstance_ (by decide +kernel) (pa_cons (pv 0) (pa_cons (pe_ty (T := "tuple") B.tuple_ (by decide +kernel)) pa_nil))))) (pw_or (pt_cmpR op_ne (pe_callB (k_len (K := K)) rfl B.len_ (by decide +kernel) (pa_cons (pv 0) pa_nil)) pe_int (nomark _)) (pw_or (pt_not (pt_val (pe_callB (k_isi (K := K)) rfl B.isinstance_ (by decide +kernel) (pa_cons (pe_ix (k_ixT (K := K)) (pv 0) pe_int (fun _ _ => rfl)) (pa_cons (pe_ty (T := "tuple") B.tuple_ (by decide +kernel)) pa_nil))))) (pw_or1 (pt_not (pt_val (pe_callB (k_isi (K := K)) rfl B.isinstance_ (by decide +kernel) (pa_cons (pe_ix (k_ixT (K := K)) (pv 0) pe_int (fun _ _ => rfl)) (pa_cons (pe_ty (T := "tuple") B.tuple_ (by decide +kernel)) pa_nil)))))))))) (pss_one (ps_ret pe_bl)) pss_nil)
      (pss_cons (ps_par (i := 1) (j := 2) rfl sc__law_is_web.nd rfl rfl (by decide) rfl rfl (pa_cons (pe_ix (k_ixT (K := K)) (pv 0) pe_int (fun _ _ => rfl)) (pa_cons (pe_lst pa_nil) pa_nil)) (by rfl))
      (pss_cons (ps_if (PW.pt (pw_or (pt_cmpR op_lt (pe_callB (k_len (K := K)) rfl B.len_ (by decide +kernel) (pa_cons (pv 1) pa_nil)) pe_int (nomark _)) (pw_or (pt_cmpR op_gt (pe_callB (k_len (K := K)) rfl B.len_ (by decide +kernel) (pa_cons (pv 1) pa_nil)) pe_int (nomark _)) (pw_or (pt_cmpR op_gt (pe_callB (k_len (K := K)) rfl B.len_ (by decide +kernel) (pa_cons (pe_ix (k_ixT (K := K)) (pv 0) pe_int (fun _ _ => rfl)) pa_nil)) pe_int (nomark _)) (pw_or1 (pt_cmpR (k_neE (K := K) hr.units) (pe_lc (own := [("_law_place", 4)]) rfl sc__law_is_web.nd (kpi_tup (K := K) (pv 1)) (blkOk_by (N := ["_law_thing", "_law_places", "_law_pairs", "_law_road", "_law_place", "_law_end"]) (sc := defScope s__law_is_web) (by decide +kernel)) (fun _ _ _ _ _ => (pg_name (i := 4) sc__law_is_web.nd rfl (by first | exact Or.inl rfl | exact Or.inr rfl))) (fun _ _ _ _ _ => pts_one (pt_not (pt_val (pe_c C__law_is_name hr (pa_cons (pv 4) pa_nil))))) (fun _ _ _ _ _ => (pv 4))) (pe_lst pa_nil) (nomark _))))))) (pss_one (ps_ret pe_bl)) pss_nil)
      (pss_cons (ps_for PassesOwn.never rfl (kpi_tup (K := K) (pe_ix (k_ixT (K := K)) (pv 0) pe_int (fun _ _ => rfl))) (pg_name (i := 3) sc__law_is_web.nd rfl (by first | exact Or.inl rfl | exact Or.inr rfl)) (pss_cons (ps_if (PW.pt (pw_or (pt_not (pt_val (pe_callB (k_isi (K := K)) rfl B.isinstance_ (by decide +kernel) (pa_cons (pv 3) (pa_cons (pe_ty (T := "tuple") B.tuple_ (by decide +kernel)) pa_nil))))) (pw_or (pt_cmpR op_ne (pe_callB (k_len (K := K)) rfl B.len_ (by decide +kernel) (pa_cons (pv 3) pa_nil)) pe_int (nomark _)) (pw_or1 (pt_cmpR (k_neE (K := K) hr.units) (pe_lc (own := [("_law_end", 5)]) rfl sc__law_is_web.nd (kpi_tup (K := K) (pv 3)) (blkOk_by (N := ["_law_thing", "_law_places", "_law_pairs", "_law_road", "_law_place", "_law_end"]) (sc := defScope s__law_is_web) (by decide +kernel)) (fun _ _ _ _ _ => (pg_name (i := 5) sc__law_is_web.nd rfl (by first | exact Or.inl rfl | exact Or.inr rfl))) (fun _ _ _ _ _ => pts_one (pt_not (pt_val (pe_c C__law_is_name hr (pa_cons (pv 5) pa_nil))))) (fun _ _ _ _ _ => (pv 5))) (pe_lst pa_nil) (nomark _)))))) (pss_one (ps_ret pe_bl)) pss_nil)
      (pss_cons (ps_if (PW.pt (pw_or (pt_cmpR (k_notInS (K := K)) (pe_ix (k_ixT (K := K)) (pv 3) pe_int (fun _ _ => rfl)) (pv 1) (by rfl)) (pw_or (pt_cmpR (k_notInS (K := K)) (pe_ix (k_ixT (K := K)) (pv 3) pe_int (fun _ _ => rfl)) (pv 1) (by rfl)) (pw_or (pt_cmpR op_eq (pe_ix (k_ixT (K := K)) (pv 3) pe_int (fun _ _ => rfl)) (pe_ix (k_ixT (K := K)) (pv 3) pe_int (fun _ _ => rfl)) (nomark _)) (pw_or1 (pt_cmpR (k_inQ (K := K) hr.units) (pe_callB (k_sortedTx (K := K)) rfl B.sorted_ (by decide +kernel) (pa_cons (pv 3) pa_nil)) (pv 2) (by rfl))))))) (pss_one (ps_ret pe_bl)) pss_nil)
      (pss_one (ps_expr (pe_bm PySem.F.plainAttrs_list PySem.F.slot_list_append PySem.F.type_list_append mt_append (pv 2) (pa_cons (pe_callB (k_sortedTx (K := K)) rfl B.sorted_ (by decide +kernel) (pa_cons (pv 3) pa_nil)) pa_nil)))))))
      (pss_one (ps_ret (pe_cmpR op_eq (pe_callB (cr_lenTextsD) rfl B.len_ (by decide +kernel) (pa_cons (pe_callTy (cr_setTextsD rfl) rfl B.set_ (by decide +kernel) (pa_cons (pv 1) pa_nil)) pa_nil)) (pe_callB (k_len (K := K)) rfl B.len_ (by decide +kernel) (pa_cons (pv 1) pa_nil)) (nomark _)))))))), ?_⟩
    repeat' (walk_at "jv")
    refine is_tupO ox ?_
    refine ⟨_, rfl, ?_⟩
    cases c : isT d with
    | false =>
      rw [(isT_no (ps := []) c).2.2.2] at q
      repeat' (walk_at "jv")
      exact q H (Same.refl _)
    | true =>
      obtain ⟨ds, rfl⟩ : ∃ ds, d = .tuple ds := by
        cases d with
        | tuple ds => exact ⟨ds, rfl⟩
        | _ => cases c
      cases ox with
      | @tup t xs ds sx al =>
      have hxl := ObAll.len al
      repeat' (walk_at "jv")
      · rw [web_not (by omega)] at q
        exact q H (Same.refl _)
      · obtain ⟨d1, d2, rfl⟩ : ∃ d1 d2, ds = [d1, d2] := by
          match ds, (show ds.length = 2 by omega) with
          | [d1, d2], _ => exact ⟨d1, d2, rfl⟩
        replace q : ∀ H', Same H H' → Q (.bl (placesB d1 && roadsB (namesOf d1) d2)) H' := q
        cases al with
        | @cons x1 _ _ _ h1 h2 =>
        cases h2 with
        | @cons x2 _ _ _ h2 h3 =>
        cases h3
        have ok1 := ok_tup.mp ok d1 List.mem_cons_self
        have ok2 := ok_tup.mp ok d2 (List.mem_cons_of_mem _ List.mem_cons_self)
        repeat' (walk_at "jv")
        refine is_tupO h1 ?_
        refine ⟨_, rfl, ?_⟩
        cases c1 : isT d1 with
        | false =>
          rw [(isT_no (ps := []) c1).2.1, Bool.false_and] at q
          repeat' (walk_at "jv")
          exact q H (Same.refl _)
        | true =>
        obtain ⟨es, rfl⟩ : ∃ ds, d1 = .tuple ds := by
          cases d1 with
          | tuple ds => exact ⟨ds, rfl⟩
          | _ => cases c1
        repeat' (walk_at "jv")
        refine is_tupO h2 ?_
        refine ⟨_, rfl, ?_⟩
        cases c2 : isT d2 with
        | false =>
          rw [(isT_no (ps := []) c2).2.2.1, Bool.and_false] at q
          repeat' (walk_at "jv")
          exact q H (Same.refl _)
        | true =>
        obtain ⟨gs, rfl⟩ : ∃ ds, d2 = .tuple ds := by
          cases d2 with
          | tuple ds => exact ⟨ds, rfl⟩
          | _ => cases c2
        cases h1 with
        | @tup tp ys _ sy ay =>
        cases h2 with
        | @tup tr us _ su au =>
        have hyl := ObAll.len ay
        have hul := ObAll.len au
        replace q : ∀ H', Same H H' → Q (.bl (((decide (1 ≤ es.length) && decide (es.length ≤ 8)) && (es.all nameB && decide (es.map txtD).Nodup)) && (decide (gs.length ≤ 14) && (gs.all (roadB (es.map txtD)) && uniqB (gs.map endsD))))) H' := q
        repeat' (walk_at "jv")
        intro L nL
        have kL := Same.upd_new (o := .lst []) nL
        have eL : (upd H L (.lst [])) L = some (.lst []) := upd_same
        have au' := ObAll.re nL _ _ au
        replace au' := au'.same kL
        replace ay := ay.same kL
        replace sy := TK.same (K := K) kL _ _ sy
        replace su := TK.same (K := K) kL _ _ su
        replace sx := TK.same (K := K) kL _ _ sx
        generalize upd H L (.lst []) = H1 at *
        clear au
        repeat' (walk_at "jv")
        · rw [decide_eq_false (p := 1 ≤ es.length) (by omega), Bool.false_and, Bool.false_and, Bool.false_and] at q
          exact q _ kL
        · rw [decide_eq_false (p := es.length ≤ 8) (by omega), Bool.and_false, Bool.false_and, Bool.false_and] at q
          exact q _ kL
        · rw [decide_eq_false (p := gs.length ≤ 14) (by omega), Bool.false_and, Bool.and_false] at q
          exact q _ kL
        rw [decide_eq_true (p := 1 ≤ es.length) (by omega), decide_eq_true (p := es.length ≤ 8) (by omega), decide_eq_true (p := gs.length ≤ 14) (by omega), Bool.true_and, Bool.true_and, Bool.true_and] at q
        refine c_tup ys (fun D i H' => H1 D = none ∧ Same H1 H' ∧ ∃ zs : List V, H' D = some (.lst zs) ∧ zs.length ≤ i ∧ zs.isEmpty = (es.take i).all nameB) (fun D nD => ⟨nD, Same.upd_new nD, [], upd_same, Nat.le_refl _, rfl⟩) (fun D i H' _ h => TK.same h.2.1 _ _ sy) (fun D i y H' hy h => ?_) (fun D H' h => ?_)
        · obtain ⟨nD, kD, zs, eD, hzl, hze⟩ := h
          obtain ⟨d', hd', od'⟩ := ObAll.get ay hy
          have hi : i < es.length := (List.getElem?_eq_some_iff.mp hd').1
          have et : (es.take (i + 1)).all nameB = ((es.take i).all nameB && nameB d') := by
            rw [take_push hd', List.all_append]
            simp
          repeat' (walk_at "jv")
          refine ⟨a, y, d', rfl, od'.same kD, ok_tup.mp ok1 d' (List.mem_of_getElem? hd'), fun H2 k2 => ?_⟩
          refine ⟨_, rfl, ?_⟩
          have eD2 := k2 _ _ eD
          cases cn : nameB d' with
          | false =>
            repeat' (walk_at "jv")
            refine ⟨nD, fun c oc z => (upd_ne (ne_of_none z nD)).trans (k2 _ _ (kD _ _ z)), zs ++ [y], upd_same, by rw [List.length_append]; show _ + 1 ≤ _; omega, ?_⟩
            rw [et, cn, Bool.and_false]
            cases zs <;> rfl
          | true =>
            repeat' (walk_at "jv")
            exact ⟨nD, kD.trans k2, zs, eD2, by omega, by rw [et, cn, Bool.and_true]; exact hze⟩
        · obtain ⟨nD, kD, zs, eD, hzl, hze⟩ := h
          rw [hyl, List.take_length] at hze
          repeat' (walk_at "jv")
          intro Z nZ
          have kZ := Same.upd_new (o := .lst []) nZ
          have eZ : (upd H' Z (.lst [])) Z = some (.lst []) := upd_same
          have eD2 := kZ _ _ eD
          replace kD := kD.trans kZ
          generalize upd H' Z (.lst []) = H2 at *
          refine i_neE (sq_lst eD2) (sq_lst eZ) ?_
          refine ⟨_, rfl, ?_⟩
          rw [hze]
          clear eD2 eZ kZ nZ eD hzl hze nD
          cases cn : es.all nameB with
          | false =>
            rw [cn, Bool.false_and, Bool.false_and] at q
            repeat' (walk_at "jv")
            exact q _ (kL.trans kD)
          | true =>
            rw [cn, Bool.true_and] at q
            obtain ⟨ez, nmz⟩ := names_all cn
            have hzl : (es.map txtD).length = es.length := List.length_map ..
            generalize es.map txtD = ns at ez hzl q nmz
            subst ez
            obtain rfl := strs_of_obs ay
            replace au' := au'.same kD
            replace sy := TK.same (K := K) kD _ _ sy
            replace su := TK.same (K := K) kD _ _ su
            replace sx := TK.same (K := K) kD _ _ sx
            replace eL := kD _ _ eL
            have kk := kL.trans kD
            clear ok1 cn ay kD kL
            have qf : (gs.all (roadB ns) && uniqB (gs.map endsD)) = false → ∀ H', Same H H' → Q (.bl false) H' := fun e => by
              rw [e, Bool.and_false] at q
              exact q
            repeat' (walk_at "jv")
            refine f_tup us (fun i σ H3 => ∃ y3, σ = [some (.ref t), some (.ref tp), some (.ref L), y3, none, none] ∧ ObAll K H3 L us gs ∧ SqT K H3 tp (ns.map V.str) ∧ SqT K H3 tr us ∧ Same H H3 ∧ (gs.take i).all (roadB ns) = true ∧ uniqB ((gs.take i).map endsD) = true ∧ ∃ as : List Addr, H3 L = some (.lst (as.map V.ref)) ∧ as.length = i ∧ ∀ (j : Nat) (b : Addr), as[j]? = some b → b ≠ L ∧ ∃ g, gs[j]? = some g ∧ H3 b = some (.lst ((srt (endsD g)).map V.str))) ⟨none, rfl, au', sy, su, kk, rfl, rfl, [], eL, rfl, fun j b h => nomatch h⟩ (fun i σ H3 hi h => ?_) (fun i x σ H3 hx h => ?_) (fun σ H3 h => ?_)
            · obtain ⟨_, _, _, _, su, _⟩ := h
              exact su
            · clear au' sy su eL kk
              obtain ⟨y3, rfl, au, sy, su, kk, al1, un1, as, eL, hal, has⟩ := h
              obtain ⟨g, hg, og⟩ := ObAll.get au hx
              have hi : i < gs.length := (List.getElem?_eq_some_iff.mp hg).1
              have okg := ok_tup.mp ok2 g (List.mem_of_getElem? hg)
              have bad : roadB ns g = false → ∀ H', Same H H' → Q (.bl false) H' := fun e => qf (by
                rw [show gs.all (roadB ns) = false from List.all_eq_false.mpr ⟨g, List.mem_of_getElem? hg, by rw [e]; decide⟩]
                rfl)
              repeat' (walk_at "jv")
              refine is_tupO og ?_
              refine ⟨_, rfl, ?_⟩
              cases cg : isT g with
              | false =>
                repeat' (walk_at "jv")
                exact bad (isT_no cg).1 _ kk
              | true =>
              obtain ⟨rs2, rfl⟩ : ∃ ds, g = .tuple ds := by
                cases g with
                | tuple ds => exact ⟨ds, rfl⟩
                | _ => cases cg
              cases og with
              | @tup rt rx _ sr ar =>
              have hrl := ObAll.len ar
              repeat' (walk_at "jv")
              · exact bad (road_not (by omega)) _ kk
              obtain ⟨e1, e2, rfl⟩ : ∃ d1 d2, rs2 = [d1, d2] := by
                match rs2, (show rs2.length = 2 by omega) with
                | [d1, d2], _ => exact ⟨d1, d2, rfl⟩
              refine c_tup rx (fun D i H' => H3 D = none ∧ Same H3 H' ∧ ∃ zs : List V, H' D = some (.lst zs) ∧ zs.length ≤ i ∧ zs.isEmpty = ([e1, e2].take i).all nameB) (fun D nD => ⟨nD, Same.upd_new nD, [], upd_same, Nat.le_refl _, rfl⟩) (fun D i H' _ h => TK.same h.2.1 _ _ sr) (fun D i y H' hy h => ?_) (fun D H' h => ?_)
              · obtain ⟨nD, kD, zs, eD, hzl, hze⟩ := h
                obtain ⟨d', hd', od'⟩ := ObAll.get ar hy
                have hi2 : i < 2 := (List.getElem?_eq_some_iff.mp hd').1
                have et : ([e1, e2].take (i + 1)).all nameB = (([e1, e2].take i).all nameB && nameB d') := by
                  rw [take_push hd', List.all_append]
                  simp
                repeat' (walk_at "jv")
                refine ⟨L, y, d', rfl, od'.same kD, ok_tup.mp okg d' (List.mem_of_getElem? hd'), fun H2 k2 => ?_⟩
                refine ⟨_, rfl, ?_⟩
                have eD2 := k2 _ _ eD
                cases cn : nameB d' with
                | false =>
                  repeat' (walk_at "jv")
                  refine ⟨nD, fun c oc z => (upd_ne (ne_of_none z nD)).trans (k2 _ _ (kD _ _ z)), zs ++ [y], upd_same, by rw [List.length_append]; show _ + 1 ≤ _; omega, ?_⟩
                  rw [et, cn, Bool.and_false]
                  cases zs <;> rfl
                | true =>
                  repeat' (walk_at "jv")
                  exact ⟨nD, kD.trans k2, zs, eD2, by omega, by rw [et, cn, Bool.and_true]; exact hze⟩
              obtain ⟨nD, kD, zs, eD, hzl, hze⟩ := h
              rw [hrl] at hze
              repeat' (walk_at "jv")
              intro Z nZ
              have kZ := Same.upd_new (o := .lst []) nZ
              have eZ : (upd H' Z (.lst [])) Z = some (.lst []) := upd_same
              have eD2 := kZ _ _ eD
              replace kD := kD.trans kZ
              generalize upd H' Z (.lst []) = H4 at *
              refine i_neE (sq_lst eD2) (sq_lst eZ) ?_
              refine ⟨_, rfl, ?_⟩
              rw [hze]
              clear eD2 eZ kZ nZ eD hzl hze nD
              have nne : ([e1, e2].take [e1, e2].length).all nameB = (nameB e1 && nameB e2) := by
                show (nameB e1 && (nameB e2 && true)) = _
                rw [Bool.and_true]
              rw [nne]
              cases cn : (nameB e1 && nameB e2) with
              | false =>
                have rb : roadB ns (.tuple [e1, e2]) = false := by
                  rw [road_two]
                  cases k1 : oneB ns e1 with
                  | false => rfl
                  | true =>
                    cases k2 : oneB ns e2 with
                    | false => rfl
                    | true =>
                      rw [one_name nmz k1, one_name nmz k2] at cn
                      cases cn
                repeat' (walk_at "jv")
                exact bad rb _ (kk.trans kD)
              | true =>
                rw [Bool.and_eq_true] at cn
                obtain ⟨u, rfl⟩ : ∃ u, e1 = .str u := by
                  cases e1 with
                  | str u => exact ⟨u, rfl⟩
                  | _ => cases cn.1
                obtain ⟨u2, rfl⟩ : ∃ u, e2 = .str u := by
                  cases e2 with
                  | str u => exact ⟨u, rfl⟩
                  | _ => cases cn.2
                obtain rfl := strs_of_obs (zs := [u, u2]) ar
                have sr4 : SqT K H4 rt [.str u, .str u2] := TK.same (K := K) kD _ _ sr
                have sy4 := TK.same (K := K) kD _ _ sy
                have su4 := TK.same (K := K) kD _ _ su
                have au4 := au.same kD
                have eL4 := kD _ _ eL
                have kk4 := kk.trans kD
                have rb : roadB ns (.tuple [.str u, .str u2]) = ((decide (u ∈ ns) && decide (u2 ∈ ns)) && !decide (u = u2)) := rfl
                replace has : ∀ (j : Nat) (b : Addr), as[j]? = some b → b ≠ L ∧ ∃ g, gs[j]? = some g ∧ H4 b = some (.lst ((srt (endsD g)).map V.str)) := fun j b h => by
                  obtain ⟨h1, g, h2, h3⟩ := has j b h
                  exact ⟨h1, g, h2, kD _ _ h3⟩
                clear sr sy su au eL kD kk
                repeat' (walk_at "jv")
                refine i_notInS (SqA.t sy4) ?_
                refine ⟨_, rfl, ?_⟩
                cases m1 : decide (u ∈ ns) with
                | false =>
                  repeat' (walk_at "jv")
                  exact bad (by rw [rb, m1]; rfl) _ kk4
                | true =>
                repeat' (walk_at "jv")
                refine i_notInS (SqA.t sy4) ?_
                refine ⟨_, rfl, ?_⟩
                cases m2 : decide (u2 ∈ ns) with
                | false =>
                  repeat' (walk_at "jv")
                  exact bad (by rw [rb, m1, m2]; rfl) _ kk4
                | true =>
                repeat' (walk_at "jv")
                · rename_i he
                  exact bad (by rw [rb, m1, m2, decide_eq_true he]; rfl) _ kk4
                rename_i he
                have nu : ∀ z ∈ srt (u, u2), nmOk z = true := fun z hz => by
                  rcases List.mem_cons.mp ((srt_perm (u, u2)).mem_iff.mp hz) with e | e
                  · rw [e]
                    exact cn.1
                  · rw [List.mem_singleton.mp e]
                    exact cn.2
                have nr : ∀ g ∈ gs.take i, ∀ z ∈ srt (endsD g), nmOk z = true := fun g hg z hz => by
                  obtain ⟨_, r1, r2, _⟩ := road_is (List.all_eq_true.mp al1 g hg)
                  rcases List.mem_cons.mp ((srt_perm (endsD g)).mem_iff.mp hz) with e | e
                  · rw [e]
                    exact nmz _ r1
                  · rw [List.mem_singleton.mp e]
                    exact nmz _ r2
                have htk : (gs.take i).length = i := by rw [List.length_take]; omega
                refine ⟨rt, [u, u2], rfl, sr4, fun ks1 p1 pm1 so1 np1 => ?_⟩
                obtain rfl := srt_of (r := (u, u2)) pm1 so1
                have kP := Same.upd_new (o := .lst ((srt (u, u2)).map V.str)) np1
                have eP : (upd H4 p1 (.lst ((srt (u, u2)).map V.str))) p1 = some (.lst ((srt (u, u2)).map V.str)) := upd_same
                replace sr4 : SqT K _ rt [.str u, .str u2] := TK.same (K := K) kP _ _ sr4
                replace sy4 := TK.same (K := K) kP _ _ sy4
                replace su4 := TK.same (K := K) kP _ _ su4
                replace au4 := au4.same kP
                replace eL4 := kP _ _ eL4
                replace kk4 := kk4.trans kP
                replace has : ∀ (j : Nat) (b : Addr), as[j]? = some b → b ≠ L ∧ ∃ g, gs[j]? = some g ∧ (upd H4 p1 (.lst ((srt (u, u2)).map V.str))) b = some (.lst ((srt (endsD g)).map V.str)) := fun j b h => by
                  obtain ⟨h1, g, h2, h3⟩ := has j b h
                  exact ⟨h1, g, h2, kP _ _ h3⟩
                generalize upd H4 p1 (.lst ((srt (u, u2)).map V.str)) = H5 at *
                clear kP np1 H4
                repeat' (walk_at "jv")
                refine ⟨tlD (srt (u, u2)), (gs.take i).map fun g => tlD (srt (endsD g)), tl_dp eP, .inl (.lst (sq_lst eL4) (dp_as (by omega) fun j b h => ?_)), tl_lay nu, tl_lays nr, tl_deep nu, ?_⟩
                · obtain ⟨_, g, h2, h3⟩ := has j b h
                  have hj : j < i := by
                    have := (List.getElem?_eq_some_iff.mp h).1
                    omega
                  exact ⟨g, by rw [List.getElem?_take, if_pos hj]; exact h2, h3⟩
                rw [if_neg (by decide), tl_any]
                refine ⟨_, rfl, ?_⟩
                cases old : decide (srt (u, u2) ∈ (gs.take i).map fun g => srt (endsD g)) with
                | true =>
                  repeat' (walk_at "jv")
                  exact qf (by rw [uniq_bad hg (of_decide_eq_true old), Bool.and_false]) _ kk4
                | false =>
                repeat' (walk_at "jv")
                refine ⟨rt, [u, u2], rfl, sr4, fun ks2 p2 pm2 so2 np2 => ?_⟩
                obtain rfl := srt_of (r := (u, u2)) pm2 so2
                have kP := Same.upd_new (o := .lst ((srt (u, u2)).map V.str)) np2
                have eL5 := kP _ _ eL4
                have p2L : p2 ≠ L := fun e => by rw [e, eL4] at np2; cases np2
                repeat' (walk_at "jv")
                refine ⟨_, rfl, ObAll.go (TK.lst eL5) (fun p o n z => (upd_ne n).trans z) gs us (au4.same kP), TK.lst eL5 _ _ (TK.same (K := K) kP _ _ sy4), TK.lst eL5 _ _ (TK.same (K := K) kP _ _ su4), fun c oc z => (upd_ne (ne_of_none z nL)).trans (kP _ _ (kk4 _ _ z)), ?_, ?_, as ++ [p2], by rw [upd_same, List.map_append]; rfl, by rw [List.length_append, hal]; rfl, fun j b h => ?_⟩
                · rw [take_push hg, List.all_append, al1]
                  show (true && (roadB ns (.tuple [.str u, .str u2]) && true)) = true
                  rw [rb, m1, m2, decide_eq_false he]
                  rfl
                · rw [take_push hg, List.map_append]
                  refine decide_eq_true (List.pairwise_append.mpr ⟨of_decide_eq_true un1, List.pairwise_singleton _ _, fun r hr q0 hq => ?_⟩)
                  obtain ⟨g, hg2, rfl⟩ := List.mem_map.mp hr
                  have hq' : q0 = (u, u2) := List.mem_singleton.mp hq
                  subst hq'
                  have no := of_decide_eq_false old
                  refine ⟨fun e => no (List.mem_map.mpr ⟨g, hg2, ?_⟩), fun e => no (List.mem_map.mpr ⟨g, hg2, ?_⟩)⟩
                  · exact srt_eq.mpr (.inl e)
                  · exact srt_eq.mpr (.inr e)
                · rcases Nat.lt_or_ge j i with c | c
                  · rw [List.getElem?_append_left (by omega)] at h
                    obtain ⟨h1, g, h2, h3⟩ := has j b h
                    exact ⟨h1, g, h2, (upd_ne h1).trans (kP _ _ h3)⟩
                  · have ej : j = i := by
                      have := (List.getElem?_eq_some_iff.mp h).1
                      rw [List.length_append] at this
                      have : j < as.length + 1 := this
                      omega
                    subst ej
                    rw [List.getElem?_append_right (by omega), hal, Nat.sub_self] at h
                    obtain rfl : p2 = b := Option.some.inj h
                    exact ⟨p2L, _, hg, (upd_ne p2L).trans upd_same⟩
            · clear au' sy su eL kk
              obtain ⟨y3, rfl, au, sy, su, kk, al1, un1, as, eL, hal, has⟩ := h
              rw [hul, List.take_length] at al1 un1
              rw [al1, un1, Bool.and_true, Bool.and_true] at q
              have hnl : (ns.map V.str).length = ns.length := List.length_map ..
              repeat' (walk_at "jv")
              refine ⟨tp, ns, rfl, sy, by omega, fun D2 nD2 => ?_⟩
              repeat' (walk_at "jv")
              refine ⟨D2, ns, rfl, upd_same, ?_⟩
              have k2 := Same.upd_new (o := TxsDO P w D2 ns) nD2
              have sy2 := TK.same (K := K) k2 _ _ sy
              repeat' (walk_at "jv")
              have ed : decide (((distN ns : Nat) : Int) = (((ns.map V.str).length : Nat) : Int)) = decide ns.Nodup := by
                refine decide_eq_decide.mpr ?_
                rw [← (dist_le ns.length ns rfl).2, hnl]
                omega
              rw [ed]
              exact q _ (kk.trans k2)
end
end
section
open L2 PySem PySem.Spec PyProof.Rows
abbrev s_are_joined : Stmt := topS 24
theorem sc_are_joined : FnScope ["web", "one", "other"] ["web", "one", "other"] (defScope s_are_joined) := ⟨rfl, rfl, rfl, by decide +kernel, rfl, by decide +kernel, by decide +kernel⟩
abbrev s_near_of : Stmt := topS 25
theorem sc_near_of : FnScope ["web", "place", "other"] ["web", "place"] (defScope s_near_of) := ⟨rfl, rfl, rfl, by decide +kernel, rfl, by decide +kernel, by decide +kernel⟩
abbrev s__is_worth : Stmt := topS 9
theorem sc__is_worth : FnScope ["sort", "worth", "k", "near"] ["sort", "worth", "k", "near"] (defScope s__is_worth) := ⟨rfl, rfl, rfl, by decide +kernel, rfl, by decide +kernel, by decide +kernel⟩
abbrev s_is_rule : Stmt := topS 8
theorem sc_is_rule : FnScope ["thing", "k", "near"] ["thing", "k", "near"] (defScope s_is_rule) := ⟨rfl, rfl, rfl, by decide +kernel, rfl, by decide +kernel, by decide +kernel⟩
abbrev s__are_rules : Stmt := topS 27
theorem sc__are_rules : FnScope ["thing", "k", "web", "place", "rule"] ["thing", "k", "web"] (defScope s__are_rules) := ⟨rfl, rfl, rfl, by decide +kernel, rfl, by decide +kernel, by decide +kernel⟩
def spNearOfF (K : PySem.W.Frag) : Sp := fun vs H Q _ => ∃ (v : V) (x : Str) (ps : List Str) (rs : List (Str × Str)), vs = [v, .str x] ∧ Dp K H v (webD ps rs) ∧ IsWeb ps rs ∧ x ∈ ps ∧
  ∀ (p : Addr) (H' : Hp), Same H H' → FT H' p ((nearL ps rs x).map V.str) → Q (.ref p) H'
def spWorthO (K : PySem.W.Frag) : Sp := fun vs H Q _ => ∃ (a p : Addr) (s : Str) (x : V) (d : PyData) (k : Nat) (near : List Str), vs = [.str s, x, .int (k : Int), .ref p] ∧ Ob K H a x d ∧ SqT K H p (near.map V.str) ∧ near.length ≤ 7 ∧ 2 ≤ k ∧ k ≤ 3 ∧ ∀ H', Same H H' → Q (.bl (worthB k near s d)) H'
def spIsRuleO (K : PySem.W.Frag) : Sp := fun vs H Q _ => ∃ (a p : Addr) (x : V) (d : PyData) (k : Nat) (near : List Str), vs = [x, .int (k : Int), .ref p] ∧ Ob K H a x d ∧ SqT K H p (near.map V.str) ∧ near.length ≤ 7 ∧ 2 ≤ k ∧ k ≤ 3 ∧ ∀ H', Same H H' → Q (.bl (ruleB k near d)) H'
def spAreRulesO (K : PySem.W.Frag) : Sp := fun vs H Q _ => ∃ (a : Addr) (x v : V) (d : PyData) (k : Nat) (ps : List Str) (rs : List (Str × Str)), vs = [x, .int (k : Int), v] ∧ Ob K H a x d ∧ Dp K H v (webD ps rs) ∧ IsWeb ps rs ∧ 2 ≤ k ∧ k ≤ 3 ∧ ∀ H', Same H H' → Q (.bl (rulesB k ps rs d)) H'
section
variable {X : Cx} {x : Str} {pos : Pos}
theorem gl_ref {i : Addr} (hm : X.mg x = some (.ref i)) (hg : Gl X x := by rfl) (hd : (x == ("__debug__" : Str)) = false := by decide) : PE X (.Name x pos) (tC (.ref i)) := pe_glob hg hm rfl hd
end
structure Gr (K : PySem.W.Frag) (mg : Str → Option Value) : Prop where
  bs : ∃ T, mg "BARE_SORTS" = some (.ref T) ∧ ∀ H, SqT K H T ((["keep", "least", "greatest", "odd"] : List Str).map V.str)
  gm : ∃ t, mg "GREATEST_MOST" = some (.int 9 t)
section
variable {base : Heap} {P : Program} {w : World} {K : PySem.W.Frag} {mg : Str → Option Value}
theorem ok_are_joined (D : Dn K mg "are_joined" s_are_joined ["web", "one", "other"]) (B : Bn mg) : Cl P w K mg base 1 "are_joined" ["web", "one", "other"] (spJoined K) := by
  refine D.cl sc_are_joined (fun vs H Q E h => ?_) (fun f cdv A outer s H vs Q E hr h => ?_)
  · obtain ⟨v, x, y, ps, rs, rfl, _⟩ := h
    rfl
  · obtain ⟨v, x, y, ps, rs, rfl, hd, W, hx, hy, q⟩ := h
    obtain ⟨t, tp, tr, xs, rfl, s1, s2, s3, d3, dr, dpl⟩ := web_parts hd
    refine ⟨_, (pss_one (ps_ret (pe_or (pe_cmpR (k_inQ (K := K) hr.units) (pe_tup (pa_cons (pv 1) (pa_cons (pv 2) pa_nil))) (pe_ix (k_ixT (K := K)) (pv 0) pe_int (fun _ _ => rfl)) (by rfl)) (pe_one (pe_cmpR (k_inQ (K := K) hr.units) (pe_tup (pa_cons (pv 2) (pa_cons (pv 1) pa_nil))) (pe_ix (k_ixT (K := K)) (pv 0) pe_int (fun _ _ => rfl)) (by rfl)))))), ?_⟩
    repeat' (walk_at "jv")
    intro p np
    have sp := Same.upd_new (o := .tup [.str x, .str y]) np
    have s1p := TK.same (K := K) sp _ _ s1
    repeat' (walk_at "jv")
    refine ⟨roadD (x, y), rs.map roadD, .tup (xs := [.str x, .str y]) (.inl (.inl upd_same)) (.cons (.str _) (.cons (.str _) .nil)), .inr (Dp.same sp _ _ dr), road_lay (W.names.2 _ hx) (W.names.2 _ hy), roads_lay W, by show 0 + 1 ≤ 60; decide, ?_⟩
    rw [if_neg (by decide), roads_any]
    repeat' (walk_at "jv")
    · rename_i h1
      have e : isRoad rs x y = true := by simp [isRoad, h1]
      rw [← e]
      exact q _ sp
    · rename_i h1
      intro p2 np2
      have sp2 := Same.upd_new (o := .tup [.str y, .str x]) np2
      have s1q := TK.same (K := K) sp2 _ _ s1p
      repeat' (walk_at "jv")
      refine ⟨roadD (y, x), rs.map roadD, .tup (xs := [.str y, .str x]) (.inl (.inl upd_same)) (.cons (.str _) (.cons (.str _) .nil)), .inr (Dp.same sp2 _ _ (Dp.same sp _ _ dr)), road_lay (W.names.2 _ hy) (W.names.2 _ hx), roads_lay W, by show 0 + 1 ≤ 60; decide, ?_⟩
      rw [if_neg (by decide), roads_any]
      have e : isRoad rs x y = decide ((y, x) ∈ rs) := by simp [isRoad, h1]
      rw [← e]
      exact q _ (sp.trans sp2)
theorem ok_near_of (D : Dn K mg "near_of" s_near_of ["web", "place"]) (B : Bn mg) (C_are_joined : Cl P w K mg base 1 "are_joined" ["web", "one", "other"] (spJoined K)) : Cl P w K mg base 2 "near_of" ["web", "place"] (spNearOfF K) := by
  refine D.cl sc_near_of (fun vs H Q E h => ?_) (fun f cdv A outer s H vs Q E hr h => ?_)
  · obtain ⟨v, x, ps, rs, rfl, _⟩ := h
    rfl
  · obtain ⟨v, x, ps, rs, rfl, hd, W, hx, q⟩ := h
    obtain ⟨t, tp, tr, xs, rfl, s1, s2, s3, d3, dr, dpl⟩ := web_parts hd
    refine ⟨_, (pss_one (ps_ret (pe_callTy (k_tupleF (K := K)) rfl B.tuple_ (by decide +kernel) (pa_cons (pe_lc (own := [("other", 2)]) rfl sc_near_of.nd (kpi_tup (K := K) (pe_ix (k_ixT (K := K)) (pv 0) pe_int (fun _ _ => rfl))) (blkOk_by (N := ["web", "place", "other"]) (sc := defScope s_near_of) (by decide +kernel)) (fun _ _ _ _ _ => (pg_name (i := 2) sc_near_of.nd rfl (by first | exact Or.inl rfl | exact Or.inr rfl))) (fun _ _ _ _ _ => pts_one (pt_val (pe_c C_are_joined hr (pa_cons (pv 0) (pa_cons (pv 1) (pa_cons (pv 2) pa_nil)))))) (fun _ _ _ _ _ => (pv 2))) pa_nil)))), ?_⟩
    repeat' (walk_at "jv")
    refine c_tup (ps.map V.str) (fun D2 i H' => H D2 = none ∧ Same H H' ∧ H' D2 = some (.lst (((ps.take i).filter fun y => isRoad rs x y).map V.str))) (fun D2 nD => ⟨nD, Same.upd_new nD, upd_same⟩) (fun D2 i H' _ h => TK.same h.2.1 _ _ s2) (fun D2 i y H' hy h => ?_) (fun D2 H' h => ?_)
    · obtain ⟨nD, k, e⟩ := h
      have hi : i < ps.length := by
        have := (List.getElem?_eq_some_iff.mp hy).1
        rwa [List.length_map] at this
      rw [List.getElem?_map, List.getElem?_eq_getElem hi] at hy
      obtain rfl : V.str ps[i] = y := Option.some.inj hy
      have h8 := W.le8
      have hl : (((ps.take i).filter fun y => isRoad rs x y).map V.str).length < sizeLine := by
        rw [List.length_map, sizeLine_eq]
        have := List.length_filter_le (fun y => isRoad rs x y) (ps.take i)
        rw [List.length_take] at this
        omega
      have et : ((ps.take (i + 1)).filter fun y => isRoad rs x y) = ((ps.take i).filter fun y => isRoad rs x y) ++ (if isRoad rs x ps[i] = true then [ps[i]] else []) := by
        rw [List.take_add_one, List.getElem?_eq_getElem hi, List.filter_append]
        show _ ++ List.filter (fun y => isRoad rs x y) [ps[i]] = _
        by_cases h : isRoad rs x ps[i] = true
        · simp [h]
        · simp [h]
      repeat' (walk_at "jv")
      refine ⟨_, x, ps[i], ps, rs, rfl, Dp.same k _ _ hd, W, hx, List.getElem_mem hi, fun H2 k2 => ?_⟩
      have e2 := k2 _ _ e
      refine ⟨_, rfl, ?_⟩
      cases er : isRoad rs x ps[i] with
      | true =>
        rw [if_pos er] at et
        repeat' (walk_at "jv")
        refine ⟨nD, fun b o z => ?_, ?_⟩
        · rw [upd_ne (fun w => by rw [w, nD] at z; cases z)]
          exact k2 _ _ (k _ _ z)
        · rw [upd_same, et, List.map_append]
          rfl
      | false =>
        rw [if_neg (by rw [er]; decide), List.append_nil] at et
        repeat' (walk_at "jv")
        exact ⟨nD, k.trans k2, by rw [et]; exact e2⟩
    · obtain ⟨nD, k, e⟩ := h
      rw [List.length_map, List.take_length] at e
      refine i_nil ?_
      refine ⟨_, _, rfl, sq_lst e, fun T ob nT okb => ?_⟩
      exact q T _ (k.trans (Same.upd_new nT)) (FT.new okb)
theorem text_one (near : List Str) (d : PyData) : textB near d = oneB near d := by cases d <;> rfl
theorem ok_is_worthO (D : Dn K mg "_is_worth" s__is_worth ["sort", "worth", "k", "near"]) (B : Bn mg) (G : Gr K mg) (C_table_length : Cl P w K mg base 2 "table_length" ["k", "near"] (spTableLen K)) (C_are_states : Cl P w K mg base 2 "are_states" ["thing", "k", "many"] (spAreStatesO K))
    (C__are_sums : Cl P w K mg base 3 "_are_sums" ["worth", "k", "near"] (spAreSumsO K)) (C_is_integer : Cl P w K mg base 1 "is_integer" ["thing"] (spIsIntO K)) : Cl P w K mg base 4 "_is_worth" ["sort", "worth", "k", "near"] (spWorthO K) := by
  obtain ⟨_, t9, c_GREATEST_MOST⟩ := G
  refine D.cl sc__is_worth (fun vs H Q E h => ?_) (fun f cdv A outer s H vs Q E hr h => ?_)
  · obtain ⟨a, p, z, x, d, k, near, rfl, _⟩ := h
    rfl
  · obtain ⟨a, p, z, x, d, k, near, rfl, ox, hp, hn, hk2, hk3, q⟩ := h
    refine ⟨_, (pss_cons (ps_if (pt_cmpR op_eq (pv 0) pe_str (nomark _)) (pss_one (ps_ret (pe_c C_are_states hr (pa_cons (pv 1) (pa_cons (pv 2) (pa_cons (pe_c C_table_length hr (pa_cons (pv 2) (pa_cons (pv 3) pa_nil))) pa_nil)))))) pss_nil)
      (pss_cons (ps_if (pt_cmpR op_eq (pv 0) pe_str (nomark _)) (pss_one (ps_ret (pe_c C__are_sums hr (pa_cons (pv 1) (pa_cons (pv 2) (pa_cons (pv 3) pa_nil)))))) pss_nil)
      (pss_cons (ps_if (pt_cmpR op_eq (pv 0) pe_str (nomark _)) (pss_one (ps_ret (pe_and (pe_c C_is_integer hr (pa_cons (pv 1) pa_nil)) (pe_one (pe_chain op_le op_le pe_int (pv 1) (gl_int c_GREATEST_MOST)))))) pss_nil)
      (pss_one (ps_ret (pe_and (pe_cmpR op_eq (pv 0) pe_str (nomark _)) (pe_and (pe_callB (k_isi (K := K)) rfl B.isinstance_ (by decide +kernel) (pa_cons (pv 1) (pa_cons (pe_ty (T := "str") B.str_ (by decide +kernel)) pa_nil))) (pe_one (pe_cmpR (k_inS (K := K)) (pv 1) (pv 3) (by rfl)))))))))), ?_⟩
    have hp' := SqA.t hp
    have hb : k ^ (near.length + 1) ≤ 10000 := by
      have h1 : k ^ (near.length + 1) ≤ 3 ^ (near.length + 1) := Nat.pow_le_pow_left hk3 _
      have h2 : 3 ^ (near.length + 1) ≤ 3 ^ 8 := Nat.pow_le_pow_right (by decide) (by omega)
      have h3 : (3 : Nat) ^ 8 ≤ 10000 := by decide
      omega
    unfold worthB at q
    repeat' (walk_at "jv")
    · rename_i hz
      rw [if_pos hz] at q
      refine ⟨p, k, near, rfl, hp', hn, hk3, ?_⟩
      repeat' (walk_at "jv")
      exact ⟨a, x, d, k, k ^ (near.length + 1), rfl, ox, by omega, q⟩
    · rename_i h1 hz
      rw [if_neg h1, if_pos hz] at q
      exact ⟨a, p, x, d, k, near, rfl, ox, hp, hn, hk2, hk3, q⟩
    · rename_i h1 h2 hz
      rw [if_neg h1, if_neg h2, if_pos hz] at q
      refine ⟨x, d, a, rfl, ox, ?_⟩
      refine ⟨_, rfl, ?_⟩
      cases ci : isI d with
      | false =>
        have e0 : mostB d = false := by cases d <;> first | rfl | cases ci
        rw [e0] at q
        repeat' (walk_at "jv")
        exact q H (Same.refl _)
      | true =>
        obtain ⟨i', rfl⟩ := isI_int ci
        cases ox
        replace q : ∀ H', Same H H' → Q (.bl (decide (0 ≤ i') && decide (i' ≤ 9))) H' := q
        repeat' (walk_at "jv")
        · rename_i h0
          rw [decide_eq_true h0, Bool.true_and] at q
          exact q H (Same.refl _)
        · rename_i h0
          rw [decide_eq_false h0, Bool.false_and] at q
          exact q H (Same.refl _)
    · rename_i h1 h2 h3 hz
      rw [if_neg h1, if_neg h2, if_neg h3, decide_eq_true hz, Bool.true_and, text_one] at q
      refine is_strO ox ?_
      refine ⟨_, rfl, ?_⟩
      cases c1 : isS d with
      | false =>
        have e0 : oneB near d = false := by cases d <;> first | rfl | cases c1
        rw [e0] at q
        repeat' (walk_at "jv")
        exact q H (Same.refl _)
      | true =>
        obtain ⟨u, rfl⟩ : ∃ z, d = .str z := by
          cases d with
          | str z => exact ⟨z, rfl⟩
          | _ => cases c1
        cases ox
        repeat' (walk_at "jv")
        exact q H (Same.refl _)
    · rename_i h1 h2 h3 hz
      rw [if_neg h1, if_neg h2, if_neg h3, decide_eq_false hz, Bool.false_and] at q
      exact q H (Same.refl _)
theorem rule_text {k : Nat} {near : List Str} {d : PyData} {ds : List PyData} (h : isS d = false) : ruleB k near (.tuple (d :: ds)) = false := by
  cases d with
  | str z => cases h
  | _ => rfl
def ruleTail (k : Nat) (near : List Str) (z : Str) : List PyData → Bool
  | [w] => worthB k near z w
  | _ => false
theorem rule_head {k : Nat} {near : List Str} {z : Str} {ds : List PyData} : ruleB k near (.tuple (.str z :: ds)) = if z ∈ bareL then ds.isEmpty else ruleTail k near z ds := rfl
theorem rule_tail_no {k : Nat} {near : List Str} {z : Str} {ds : List PyData} (h : ds.length ≠ 1) : ruleTail k near z ds = false := by
  match ds, h with
  | [], _ => rfl
  | [y], h => exact absurd rfl h
  | y :: y2 :: r, _ => rfl
theorem ok_is_ruleO (D : Dn K mg "is_rule" s_is_rule ["thing", "k", "near"]) (B : Bn mg) (G : Gr K mg) (C__is_worth : Cl P w K mg base 4 "_is_worth" ["sort", "worth", "k", "near"] (spWorthO K)) : Cl P w K mg base 5 "is_rule" ["thing", "k", "near"] (spIsRuleO K) := by
  obtain ⟨⟨T, c_BARE, hT⟩, _⟩ := G
  refine D.cl sc_is_rule (fun vs H Q E h => ?_) (fun f cdv A outer s H vs Q E hr h => ?_)
  · obtain ⟨a, p, x, d, k, near, rfl, _⟩ := h
    rfl
  · obtain ⟨a, p, x, d, k, near, rfl, ox, hp, hn, hk2, hk3, q⟩ := h
    refine ⟨_, (pss_cons (ps_if (PW.pt (pw_or (pt_not (pt_val (pe_callB (k_isi (K := K)) rfl B.isinstance_ (by decide +kernel) (pa_cons (pv 0) (pa_cons (pe_ty (T := "tuple") B.tuple_ (by decide +kernel)) pa_nil))))) (pw_or (pt_cmpR op_eq (pe_callB (k_len (K := K)) rfl B.len_ (by decide +kernel) (pa_cons (pv 0) pa_nil)) pe_int (nomark _)) (pw_or1 (pt_not (pt_val (pe_callB (k_isi (K := K)) rfl B.isinstance_ (by decide +kernel) (pa_cons (pe_ix (k_ixT (K := K)) (pv 0) pe_int (fun _ _ => rfl)) (pa_cons (pe_ty (T := "str") B.str_ (by decide +kernel)) pa_nil))))))))) (pss_one (ps_ret pe_bl)) pss_nil)
      (pss_cons (ps_if (pt_cmpR (k_inS (K := K)) (pe_ix (k_ixT (K := K)) (pv 0) pe_int (fun _ _ => rfl)) (gl_ref c_BARE) (by rfl)) (pss_one (ps_ret (pe_cmpR op_eq (pe_callB (k_len (K := K)) rfl B.len_ (by decide +kernel) (pa_cons (pv 0) pa_nil)) pe_int (nomark _)))) pss_nil)
      (pss_one (ps_ret (pe_and (pe_cmpR op_eq (pe_callB (k_len (K := K)) rfl B.len_ (by decide +kernel) (pa_cons (pv 0) pa_nil)) pe_int (nomark _)) (pe_one (pe_c C__is_worth hr (pa_cons (pe_ix (k_ixT (K := K)) (pv 0) pe_int (fun _ _ => rfl)) (pa_cons (pe_ix (k_ixT (K := K)) (pv 0) pe_int (fun _ _ => rfl)) (pa_cons (pv 1) (pa_cons (pv 2) pa_nil))))))))))), ?_⟩
    have hb : SqA K H T (bareL.map V.str) := SqA.t (hT H)
    repeat' (walk_at "jv")
    refine is_tupO ox ?_
    refine ⟨_, rfl, ?_⟩
    cases c : isT d with
    | false =>
      rw [(isT_off c).2.2.1] at q
      repeat' (walk_at "jv")
      exact q H (Same.refl _)
    | true =>
      obtain ⟨ds, rfl⟩ := isT_tup c
      cases ox with
      | @tup t xs ds sx al =>
      cases al with
      | nil =>
        repeat' (walk_at "jv")
        · exact q H (Same.refl _)
        all_goals (rename_i h; exact absurd rfl h)
      | @cons x0 xs' d0 ds' h0 al =>
        have hxl := ObAll.len al
        repeat' (walk_at "jv")
        · rename_i h
          exact absurd h (by rw [List.length_cons]; omega)
        refine is_strO h0 ?_
        refine ⟨_, rfl, ?_⟩
        cases c1 : isS d0 with
        | false =>
          rw [rule_text c1] at q
          repeat' (walk_at "jv")
          exact q H (Same.refl _)
        | true =>
          obtain ⟨z, rfl⟩ : ∃ z, d0 = .str z := by
            cases d0 with
            | str z => exact ⟨z, rfl⟩
            | _ => cases c1
          cases h0
          repeat' (walk_at "jv")
          · rename_i hz
            rw [rule_head] at q
            rw [if_pos hz] at q
            have e : decide ((((V.str z :: xs').length : Nat) : Int) = 1) = ds'.isEmpty := by
              rw [List.length_cons, hxl]
              cases ds' with
              | nil => rfl
              | cons y r => exact decide_eq_false (by rw [List.length_cons]; omega)
            rw [e]
            exact q H (Same.refl _)
          · rename_i hz h2
            rw [rule_head] at q
            rw [if_neg hz] at q
            rw [List.length_cons] at h2
            cases al with
            | nil => exact absurd h2 (by decide)
            | @cons x1 xs2 d1 ds2 h1 al =>
              have hx2 := ObAll.len al
              obtain rfl : xs2 = [] := List.eq_nil_of_length_eq_zero (by rw [List.length_cons] at h2; omega)
              obtain rfl : ds2 = [] := List.eq_nil_of_length_eq_zero hx2.symm
              repeat' (walk_at "jv")
              exact ⟨a, p, z, x1, d1, k, near, rfl, h1, hp, hn, hk2, hk3, q⟩
          · rename_i hz h2
            rw [rule_head] at q
            rw [if_neg hz] at q
            rw [List.length_cons, hxl] at h2
            rw [rule_tail_no (by omega)] at q
            exact q H (Same.refl _)
theorem ok_are_rulesO (D : Dn K mg "_are_rules" s__are_rules ["thing", "k", "web"]) (B : Bn mg) (C_is_rule : Cl P w K mg base 5 "is_rule" ["thing", "k", "near"] (spIsRuleO K)) (C_near_of : Cl P w K mg base 2 "near_of" ["web", "place"] (spNearOfF K)) : Cl P w K mg base 6 "_are_rules" ["thing", "k", "web"] (spAreRulesO K) := by
  refine D.cl sc__are_rules (fun vs H Q E h => ?_) (fun f cdv A outer s H vs Q E hr h => ?_)
  · obtain ⟨a, x, v, d, k, ps, rs, rfl, _⟩ := h
    rfl
  · obtain ⟨a, x, v, d, k, ps, rs, rfl, ox, hd, W, hk2, hk3, q⟩ := h
    have hd2 := hd
    obtain ⟨wt, tp, tr, us, rfl, s1, s2, s3, d3, dr, dpl⟩ := web_parts hd2
    clear hd2 d3 dr dpl s3
    have h8 := W.le8
    have hmp : (ps.map V.str).length = ps.length := List.length_map ..
    refine ⟨_, (pss_cons (ps_if (PW.pt (pw_or (pt_not (pt_val (pe_callB (k_isi (K := K)) rfl B.isinstance_ (by decide +kernel) (pa_cons (pv 0) (pa_cons (pe_ty (T := "tuple") B.tuple_ (by decide +kernel)) pa_nil))))) (pw_or1 (pt_cmpR op_ne (pe_callB (k_len (K := K)) rfl B.len_ (by decide +kernel) (pa_cons (pv 0) pa_nil)) (pe_callB (k_len (K := K)) rfl B.len_ (by decide +kernel) (pa_cons (pe_ix (k_ixT (K := K)) (pv 2) pe_int (fun _ _ => rfl)) pa_nil)) (nomark _))))) (pss_one (ps_ret pe_bl)) pss_nil)
      (pss_one (ps_ret (pe_callB (k_all (K := K) rfl) rfl B.all_ (by decide +kernel) (pa_cons (pe_lc (own := [("place", 3), ("rule", 4)]) rfl sc__are_rules.nd (kpi_zip (K := K) B.zip_ (pa_cons (pe_ix (k_ixT (K := K)) (pv 2) pe_int (fun _ _ => rfl)) (pa_cons (pv 0) pa_nil))) (blkOk_by (N := ["thing", "k", "web", "place", "rule"]) (sc := defScope s__are_rules) (by decide +kernel)) (fun _ _ _ _ _ => (kpg_tup (K := K) (n := 2) rfl (pgs_cons (pg_name (i := 3) sc__are_rules.nd rfl (by first | exact Or.inl rfl | exact Or.inr rfl)) (pgs_cons (pg_name (i := 4) sc__are_rules.nd rfl (by first | exact Or.inl rfl | exact Or.inr rfl)) pgs_nil)))) (fun _ _ _ _ _ => pts_nil) (fun _ _ _ _ _ => (pe_c C_is_rule hr (pa_cons (pv 4) (pa_cons (pv 1) (pa_cons (pe_c C_near_of hr (pa_cons (pv 2) (pa_cons (pv 3) pa_nil))) pa_nil)))))) pa_nil))))), ?_⟩
    repeat' (walk_at "jv")
    refine is_tupO ox ?_
    refine ⟨_, rfl, ?_⟩
    cases c : isT d with
    | false =>
      rw [(isT_off c).2.2.2.1] at q
      repeat' (walk_at "jv")
      exact q H (Same.refl _)
    | true =>
      obtain ⟨ds, rfl⟩ := isT_tup c
      cases ox with
      | @tup t xs ds sx al =>
      have hxl := ObAll.len al
      replace q : ∀ H', Same H H' → Q (.bl (decide (ds.length = ps.length) && (List.range ps.length).all fun i => ruleB k (nearL ps rs (ps.getD i "")) (ds.getD i .none))) H' := q
      repeat' (walk_at "jv")
      · rw [decide_eq_false (by omega), Bool.false_and] at q
        exact q H (Same.refl _)
      · rw [decide_eq_true (by omega), Bool.true_and] at q
        refine i_zip ?_
        repeat' (walk_at "jv")
        refine i_zipT s2 sx ?_
        refine c_zip (ps.map V.str) xs (by omega) (fun D2 i H' => H D2 = none ∧ Same H H' ∧ H' D2 = some (.lst (((List.range i).map fun i => ruleB k (nearL ps rs (ps.getD i "")) (ds.getD i .none)).map V.bl))) (fun D2 nD => ⟨nD, Same.upd_new nD, upd_same⟩) (fun D2 i H' h => ⟨TK.same h.2.1 _ _ s2, TK.same h.2.1 _ _ sx⟩) (fun D2 i x y H' T hx hy h nT => ?_) (fun D2 H' h => ?_)
        · obtain ⟨nD, sm, e⟩ := h
          have hi : i < ps.length := by
            have := (List.getElem?_eq_some_iff.mp hx).1
            rwa [List.length_map] at this
          rw [List.getElem?_map, List.getElem?_eq_getElem hi] at hx
          obtain rfl : V.str ps[i] = x := Option.some.inj hx
          have sT := Same.upd_new (o := .tup [V.str ps[i], y]) nT
          have smT := sm.trans sT
          obtain ⟨d, hdd, dx⟩ := ObAll.get (al.same smT) hy
          repeat' (walk_at "jv")
          refine ⟨_, ps[i], ps, rs, rfl, Dp.same smT _ _ hd, W, List.getElem_mem hi, fun p2 H2 sm2 hs2 => ?_⟩
          repeat' (walk_at "jv")
          refine ⟨a, p2, y, d, k, nearL ps rs ps[i], rfl, dx.same sm2, hs2.sq, near_len W (List.getElem_mem hi), hk2, hk3, fun H3 sm3 => ?_⟩
          have sm4 := sT.trans (sm2.trans sm3)
          have e2 := sm4 _ _ e
          have eg : ruleB k (nearL ps rs (ps.getD i "")) (ds.getD i .none) = ruleB k (nearL ps rs ps[i]) d := by
            rw [List.getD_eq_getElem?_getD, List.getD_eq_getElem?_getD, List.getElem?_eq_getElem hi, hdd]
            rfl
          refine i_lcE e2 (by rw [List.length_map, List.length_map, List.length_range, sizeLine_eq]; omega) ?_
          refine ⟨nD, fun b o z => ?_, by rw [upd_same, List.range_succ, List.map_append, List.map_append, ← eg]; rfl⟩
          rw [upd_ne (fun w => by rw [w, nD] at z; cases z)]
          exact sm4 _ _ (sm _ _ z)
        · obtain ⟨nD, sm, e⟩ := h
          rw [hmp] at e
          refine i_nil ?_
          refine i_all (sq_lst e) ?_
          rw [List.all_map]
          exact q _ sm
end
end
section
open L2 PySem PySem.Spec PyProof.Rows
abbrev s_is_hall : Stmt := topS 26
theorem sc_is_hall : FnScope ["thing", "k", "web", "rules"] ["thing"] (defScope s_is_hall) := ⟨rfl, rfl, rfl, by decide +kernel, rfl, by decide +kernel, by decide +kernel⟩
def spIsHallO (K : PySem.W.Frag) : Sp := fun vs H Q _ => ∃ (a : Addr) (x : V) (d : PyData), vs = [x] ∧ Ob K H a x d ∧ okD d = true ∧ ∀ H', Same H H' → Q (.bl (hallB d)) H'
theorem hall_not {ds : List PyData} (h : ds.length ≠ 3) : hallB (.tuple ds) = false := by
  match ds, h with
  | [], _ => rfl
  | [_], _ => rfl
  | [_, _], _ => rfl
  | [_, _, _], h => exact absurd rfl h
  | _ :: _ :: _ :: _ :: _, _ => rfl
theorem web_layW {ps : List Str} {rs : List (Str × Str)} (W : IsWeb ps rs) : (webD ps rs).canLay0 = true := by
  show (PyData.canLayAll0 (ps.map .str) && (PyData.canLayAll0 (rs.map roadD) && true)) = true
  rw [strs_lay W.names.2, roads_lay W]
  rfl
section
variable {base : Heap} {P : Program} {w : World} {K : PySem.W.Frag} {mg : Str → Option Value}
theorem ok_is_hallO (D : Dn K mg "is_hall" s_is_hall ["thing"]) (B : Bn mg) (hm : ∃ t, mg "MOST_STATES" = some (.int 256 t)) (C_is_integer : Cl P w K mg base 1 "is_integer" ["thing"] (spIsIntO K)) (C_is_web : Cl P w K mg base 4 "is_web" ["thing"] (spIsWebO K))
    (C_power : Cl P w K mg base 1 "power" ["base", "exponent"] spPower) (C__are_rules : Cl P w K mg base 6 "_are_rules" ["thing", "k", "web"] (spAreRulesO K)) : Cl P w K mg base 7 "is_hall" ["thing"] (spIsHallO K) := by
  obtain ⟨t0, c_MOST_STATES⟩ := hm
  refine D.cl sc_is_hall (fun vs H Q E h => ?_) (fun f cdv A outer s H vs Q E hr h => ?_)
  · obtain ⟨a, x, d, rfl, _⟩ := h
    rfl
  · obtain ⟨a, x, d, rfl, ox, ok, q⟩ := h
    refine ⟨_, (pss_cons (ps_if (PW.pt (pw_or (pt_not (pt_val (pe_callB (k_isi (K := K)) rfl B.isinstance_ (by decide +kernel) (pa_cons (pv 0) (pa_cons (pe_ty (T := "tuple") B.tuple_ (by decide +kernel)) pa_nil))))) (pw_or1 (pt_cmpR op_ne (pe_callB (k_len (K := K)) rfl B.len_ (by decide +kernel) (pa_cons (pv 0) pa_nil)) pe_int (nomark _))))) (pss_one (ps_ret pe_bl)) pss_nil)
      (pss_cons (ps_asg (pv 0) (kpg_tup (K := K) (n := 3) rfl (pgs_cons (pg_name (i := 1) sc_is_hall.nd rfl (by first | exact Or.inl rfl | exact Or.inr rfl)) (pgs_cons (pg_name (i := 2) sc_is_hall.nd rfl (by first | exact Or.inl rfl | exact Or.inr rfl)) (pgs_cons (pg_name (i := 3) sc_is_hall.nd rfl (by first | exact Or.inl rfl | exact Or.inr rfl)) pgs_nil)))))
      (pss_cons (ps_if (PW.pt (pw_or (pt_not (pt_val (pe_c C_is_integer hr (pa_cons (pv 1) pa_nil)))) (pw_or (pt_not (pt_chain op_le op_le pe_int (pv 1) pe_int)) (pw_or1 (pt_not (pt_val (pe_c C_is_web hr (pa_cons (pv 2) pa_nil)))))))) (pss_one (ps_ret pe_bl)) pss_nil)
      (pss_one (ps_ret (pe_and (pe_cmpR op_le (pe_c C_power hr (pa_cons (pv 1) (pa_cons (pe_callB (k_len (K := K)) rfl B.len_ (by decide +kernel) (pa_cons (pe_ix (k_ixT (K := K)) (pv 2) pe_int (fun _ _ => rfl)) pa_nil)) pa_nil))) (gl_int c_MOST_STATES) (nomark _)) (pe_one (pe_c C__are_rules hr (pa_cons (pv 3) (pa_cons (pv 1) (pa_cons (pv 2) pa_nil))))))))))), ?_⟩
    repeat' (walk_at "jv")
    refine is_tupO ox ?_
    refine ⟨_, rfl, ?_⟩
    cases c : isT d with
    | false =>
      rw [(isT_off c).2.2.2.2] at q
      repeat' (walk_at "jv")
      exact q H (Same.refl _)
    | true =>
      obtain ⟨ds, rfl⟩ := isT_tup c
      cases ox with
      | @tup t xs ds sx al =>
      have hxl := ObAll.len al
      repeat' (walk_at "jv")
      · rw [hall_not (by omega)] at q
        exact q H (Same.refl _)
      · rename_i h3
        have h3' : ds.length = 3 := by omega
        cases al with
        | nil => exact absurd h3' (by decide)
        | @cons x1 _ d1 _ o1 al =>
        cases al with
        | nil => exact absurd h3' (by simp)
        | @cons x2 _ d2 _ o2 al =>
        cases al with
        | nil => exact absurd h3' (by simp)
        | @cons x3 xs3 d3 ds3 o3 al =>
        obtain rfl : ds3 = [] := List.eq_nil_of_length_eq_zero (by rw [List.length_cons, List.length_cons, List.length_cons] at h3'; omega)
        cases al
        replace q : ∀ H', Same H H' → Q (.bl ((twoB d1 && webB d2) && (decide (kOf d1 ^ (webPs d2).length ≤ 256) && rulesB (kOf d1) (webPs d2) (webRs d2) d3))) H' := q
        have ok2 := ok_tup.mp ok d2 (List.mem_cons_of_mem _ List.mem_cons_self)
        repeat' (walk_at "jv")
        refine ⟨x1, d1, a, rfl, o1, ?_⟩
        refine ⟨_, rfl, ?_⟩
        cases ci : isI d1 with
        | false =>
          have e0 : twoB d1 = false := by cases d1 <;> first | rfl | cases ci
          rw [e0, Bool.false_and, Bool.false_and] at q
          repeat' (walk_at "jv")
          exact q H (Same.refl _)
        | true =>
        obtain ⟨i', rfl⟩ := isI_int ci
        cases o1
        repeat' (walk_at "jv")
        · rename_i g1 g2
          rw [show twoB (.int i') = false by show (decide (2 ≤ i') && decide (i' ≤ 3)) = false; rw [decide_eq_false g2, Bool.and_false], Bool.false_and, Bool.false_and] at q
          exact q H (Same.refl _)
        · rename_i g1 g2
          obtain ⟨k, rfl⟩ := Int.eq_ofNat_of_zero_le (show 0 ≤ i' by omega)
          have hk2 : 2 ≤ k := by omega
          have hk3 : k ≤ 3 := by omega
          rw [show twoB (.int (k : Int)) = true by show (decide (2 ≤ (k : Int)) && decide ((k : Int) ≤ 3)) = true; rw [decide_eq_true g1, decide_eq_true g2]; rfl, Bool.true_and] at q
          replace q : ∀ H', Same H H' → Q (.bl (webB d2 && (decide (k ^ (webPs d2).length ≤ 256) && rulesB k (webPs d2) (webRs d2) d3))) H' := q
          refine ⟨a, x2, d2, rfl, o2, ok2, fun H2 k2 => ?_⟩
          refine ⟨_, rfl, ?_⟩
          cases cw : webB d2 with
          | false =>
            rw [cw, Bool.false_and] at q
            repeat' (walk_at "jv")
            exact q H2 k2
          | true =>
            obtain ⟨ps, rs, rfl, W⟩ := web_is cw
            have e1 : webPs (webD ps rs) = ps := txt_names ps
            have e2 : webRs (webD ps rs) = rs := pair_roads rs
            rw [cw, Bool.true_and, e1, e2] at q
            have dw := Dp.same k2 _ _ (Ob.dp _ _ (web_layW W) o2)
            obtain ⟨wt, tp, tr, us, rfl, s1, s2, s3, d3', dr, dpl⟩ := web_parts dw
            clear s3 d3' dr dpl
            have h8 := W.le8
            replace o3 := o3.same k2
            repeat' (walk_at "jv")
            refine ⟨k, ps.length, by rw [List.length_map]; rfl, hk3, h8, ?_⟩
            repeat' (walk_at "jv")
            · rename_i hf
              rw [decide_eq_true (show k ^ ps.length ≤ 256 by omega), Bool.true_and] at q
              exact ⟨a, x3, .ref wt, d3, k, ps, rs, rfl, o3, dw, W, hk2, hk3, fun H3 k3 => q _ (k2.trans k3)⟩
            · rename_i hf
              rw [decide_eq_false (show ¬ k ^ ps.length ≤ 256 by omega), Bool.false_and] at q
              exact q H2 k2
        · rename_i g1
          rw [show twoB (.int i') = false by show (decide (2 ≤ i') && decide (i' ≤ 3)) = false; rw [decide_eq_false g1, Bool.false_and], Bool.false_and, Bool.false_and] at q
          exact q H (Same.refl _)
theorem ok_is_hallOK (D : Dk K mg "is_hall" s_is_hall ["thing"] ["thing"]) (B : Bn mg) (hm : ∃ t, mg "MOST_STATES" = some (.int 256 t)) (C_is_integer : Cl P w K mg base 1 "is_integer" ["thing"] (spIsIntO K)) (C_is_web : Cl P w K mg base 4 "is_web" ["thing"] (spIsWebO K))
    (C_power : Cl P w K mg base 1 "power" ["base", "exponent"] spPower) (C__are_rules : Cl P w K mg base 6 "_are_rules" ["thing", "k", "web"] (spAreRulesO K)) : ClK P w K mg base 7 "is_hall" ["thing"] ["thing"] (spIsHallO K) := by
  obtain ⟨t0, c_MOST_STATES⟩ := hm
  refine D.cl sc_is_hall (fun vs H Q E h => ?_) (fun f cdv A outer s H vs Q E hr h => ?_)
  · obtain ⟨a, x, d, rfl, _⟩ := h
    rfl
  · obtain ⟨a, x, d, rfl, ox, ok, q⟩ := h
    refine ⟨_, (pss_cons (ps_if (PW.pt (pw_or (pt_not (pt_val (pe_callB (k_isi (K := K)) rfl B.isinstance_ (by decide +kernel) (pa_cons (pv 0) (pa_cons (pe_ty (T := "tuple") B.tuple_ (by decide +kernel)) pa_nil))))) (pw_or1 (pt_cmpR op_ne (pe_callB (k_len (K := K)) rfl B.len_ (by decide +kernel) (pa_cons (pv 0) pa_nil)) pe_int (nomark _))))) (pss_one (ps_ret pe_bl)) pss_nil)
      (pss_cons (ps_asg (pv 0) (kpg_tup (K := K) (n := 3) rfl (pgs_cons (pg_name (i := 1) sc_is_hall.nd rfl (by first | exact Or.inl rfl | exact Or.inr rfl)) (pgs_cons (pg_name (i := 2) sc_is_hall.nd rfl (by first | exact Or.inl rfl | exact Or.inr rfl)) (pgs_cons (pg_name (i := 3) sc_is_hall.nd rfl (by first | exact Or.inl rfl | exact Or.inr rfl)) pgs_nil)))))
      (pss_cons (ps_if (PW.pt (pw_or (pt_not (pt_val (pe_c C_is_integer hr (pa_cons (pv 1) pa_nil)))) (pw_or (pt_not (pt_chain op_le op_le pe_int (pv 1) pe_int)) (pw_or1 (pt_not (pt_val (pe_c C_is_web hr (pa_cons (pv 2) pa_nil)))))))) (pss_one (ps_ret pe_bl)) pss_nil)
      (pss_one (ps_ret (pe_and (pe_cmpR op_le (pe_c C_power hr (pa_cons (pv 1) (pa_cons (pe_callB (k_len (K := K)) rfl B.len_ (by decide +kernel) (pa_cons (pe_ix (k_ixT (K := K)) (pv 2) pe_int (fun _ _ => rfl)) pa_nil)) pa_nil))) (gl_int c_MOST_STATES) (nomark _)) (pe_one (pe_c C__are_rules hr (pa_cons (pv 3) (pa_cons (pv 1) (pa_cons (pv 2) pa_nil))))))))))), ?_⟩
    repeat' (walk_at "jv")
    refine is_tupO ox ?_
    refine ⟨_, rfl, ?_⟩
    cases c : isT d with
    | false =>
      rw [(isT_off c).2.2.2.2] at q
      repeat' (walk_at "jv")
      exact q H (Same.refl _)
    | true =>
      obtain ⟨ds, rfl⟩ := isT_tup c
      cases ox with
      | @tup t xs ds sx al =>
      have hxl := ObAll.len al
      repeat' (walk_at "jv")
      · rw [hall_not (by omega)] at q
        exact q H (Same.refl _)
      · rename_i h3
        have h3' : ds.length = 3 := by omega
        cases al with
        | nil => exact absurd h3' (by decide)
        | @cons x1 _ d1 _ o1 al =>
        cases al with
        | nil => exact absurd h3' (by simp)
        | @cons x2 _ d2 _ o2 al =>
        cases al with
        | nil => exact absurd h3' (by simp)
        | @cons x3 xs3 d3 ds3 o3 al =>
        obtain rfl : ds3 = [] := List.eq_nil_of_length_eq_zero (by rw [List.length_cons, List.length_cons, List.length_cons] at h3'; omega)
        cases al
        replace q : ∀ H', Same H H' → Q (.bl ((twoB d1 && webB d2) && (decide (kOf d1 ^ (webPs d2).length ≤ 256) && rulesB (kOf d1) (webPs d2) (webRs d2) d3))) H' := q
        have ok2 := ok_tup.mp ok d2 (List.mem_cons_of_mem _ List.mem_cons_self)
        repeat' (walk_at "jv")
        refine ⟨x1, d1, a, rfl, o1, ?_⟩
        refine ⟨_, rfl, ?_⟩
        cases ci : isI d1 with
        | false =>
          have e0 : twoB d1 = false := by cases d1 <;> first | rfl | cases ci
          rw [e0, Bool.false_and, Bool.false_and] at q
          repeat' (walk_at "jv")
          exact q H (Same.refl _)
        | true =>
        obtain ⟨i', rfl⟩ := isI_int ci
        cases o1
        repeat' (walk_at "jv")
        · rename_i g1 g2
          rw [show twoB (.int i') = false by show (decide (2 ≤ i') && decide (i' ≤ 3)) = false; rw [decide_eq_false g2, Bool.and_false], Bool.false_and, Bool.false_and] at q
          exact q H (Same.refl _)
        · rename_i g1 g2
          obtain ⟨k, rfl⟩ := Int.eq_ofNat_of_zero_le (show 0 ≤ i' by omega)
          have hk2 : 2 ≤ k := by omega
          have hk3 : k ≤ 3 := by omega
          rw [show twoB (.int (k : Int)) = true by show (decide (2 ≤ (k : Int)) && decide ((k : Int) ≤ 3)) = true; rw [decide_eq_true g1, decide_eq_true g2]; rfl, Bool.true_and] at q
          replace q : ∀ H', Same H H' → Q (.bl (webB d2 && (decide (k ^ (webPs d2).length ≤ 256) && rulesB k (webPs d2) (webRs d2) d3))) H' := q
          refine ⟨a, x2, d2, rfl, o2, ok2, fun H2 k2 => ?_⟩
          refine ⟨_, rfl, ?_⟩
          cases cw : webB d2 with
          | false =>
            rw [cw, Bool.false_and] at q
            repeat' (walk_at "jv")
            exact q H2 k2
          | true =>
            obtain ⟨ps, rs, rfl, W⟩ := web_is cw
            have e1 : webPs (webD ps rs) = ps := txt_names ps
            have e2 : webRs (webD ps rs) = rs := pair_roads rs
            rw [cw, Bool.true_and, e1, e2] at q
            have dw := Dp.same k2 _ _ (Ob.dp _ _ (web_layW W) o2)
            obtain ⟨wt, tp, tr, us, rfl, s1, s2, s3, d3', dr, dpl⟩ := web_parts dw
            clear s3 d3' dr dpl
            have h8 := W.le8
            replace o3 := o3.same k2
            repeat' (walk_at "jv")
            refine ⟨k, ps.length, by rw [List.length_map]; rfl, hk3, h8, ?_⟩
            repeat' (walk_at "jv")
            · rename_i hf
              rw [decide_eq_true (show k ^ ps.length ≤ 256 by omega), Bool.true_and] at q
              exact ⟨a, x3, .ref wt, d3, k, ps, rs, rfl, o3, dw, W, hk2, hk3, fun H3 k3 => q _ (k2.trans k3)⟩
            · rename_i hf
              rw [decide_eq_false (show ¬ k ^ ps.length ≤ 256 by omega), Bool.false_and] at q
              exact q H2 k2
        · rename_i g1
          rw [show twoB (.int i') = false by show (decide (2 ≤ i') && decide (i' ≤ 3)) = false; rw [decide_eq_false g1, Bool.false_and], Bool.false_and, Bool.false_and] at q
          exact q H (Same.refl _)
end
end
section
open L2 PySem PySem.Spec PyProof.Rows
abbrev s__law_power : Stmt := topS 29
theorem sc__law_power : FnScope ["_law_k", "_law_many", "_law_got", "_law_turn"] ["_law_k", "_law_many"] (defScope s__law_power) := ⟨rfl, rfl, rfl, by decide +kernel, rfl, by decide +kernel, by decide +kernel⟩
abbrev s__law_are_states : Stmt := topS 44
theorem sc__law_are_states : FnScope ["_law_thing", "_law_many", "_law_k", "_law_one_here"] ["_law_thing", "_law_many", "_law_k"] (defScope s__law_are_states) := ⟨rfl, rfl, rfl, by decide +kernel, rfl, by decide +kernel, by decide +kernel⟩
def spLStates (K : PySem.W.Frag) : Sp := fun vs H Q _ => ∃ (a : Addr) (x : V) (d : PyData) (k many : Nat), vs = [x, .int (many : Int), .int (k : Int)] ∧ Ob K H a x d ∧ many ≤ 100000 ∧ k ≤ 3 ∧ shAll 1 d ∧ ∀ H', Same H H' → Q (.bl (statesB k many d)) H'
section
variable {base : Heap} {P : Program} {w : World} {K : PySem.W.Frag} {mg : Str → Option Value}
theorem ok_lpower (D : Dn K mg "_law_power" s__law_power ["_law_k", "_law_many"]) (B : Bn mg) : Cl P w K mg base 1 "_law_power" ["_law_k", "_law_many"] spPower := by
  refine D.cl sc__law_power (fun vs H Q E h => ?_) (fun f cdv A outer s H vs Q E hr h => ?_)
  · obtain ⟨b, e, rfl, _⟩ := h
    rfl
  · obtain ⟨b, e, rfl, hb, he, q⟩ := h
    refine ⟨_, (pss_cons (ps_set (i := 2) sc__law_power.nd rfl (by first | exact Or.inl rfl | exact Or.inr rfl) pe_int)
      (pss_cons (ps_for PassesOwn.never rfl (pi_range1 rfl B.range_ (pa_cons (pv 1) pa_nil)) (pg_name (i := 3) sc__law_power.nd rfl (by first | exact Or.inl rfl | exact Or.inr rfl)) (pss_one (ps_set (i := 2) sc__law_power.nd rfl (by first | exact Or.inl rfl | exact Or.inr rfl) (pe_op op_mul (pv 2) (pv 0)))))
      (pss_one (ps_ret (pv 2))))), ?_⟩
    repeat' (walk_at "jv")
    refine f_range (fun i σ H' => ∃ y3, σ = [some (.int b), some (.int e), some (.int ((b ^ i : Nat) : Int)), y3] ∧ H = H') ⟨none, rfl, rfl⟩ (fun i σ H' hi h => ?_) (fun σ H' h => ?_)
    · obtain ⟨y3, rfl, rfl⟩ := h
      repeat' (walk_at "jv")
      refine ⟨some (.int (0 + (i : Int))), ?_, rfl⟩
      rw [Nat.pow_succ, Int.natCast_mul]
      rfl
    · obtain ⟨y3, rfl, rfl⟩ := h
      repeat' (walk_at "jv")
      exact q
theorem ok_law_states (D : Dn K mg "_law_are_states" s__law_are_states ["_law_thing", "_law_many", "_law_k"]) (B : Bn mg) : ClG P w K mg base 1 "_law_are_states" ["_law_thing", "_law_many", "_law_k"] (spLStates K) := by
  refine D.clG sc__law_are_states (fun vs H Q E h => ?_) (fun f cdv A outer s H vs Q E hgd hr h => ?_)
  · obtain ⟨a, x, d, k, many, rfl, _⟩ := h
    rfl
  · obtain ⟨a, x, d, k, many, rfl, ox, hm, hk3, hsh, q⟩ := h
    refine ⟨_, (pss_one (ps_ret (pe_and (pe_callB (k_isi (K := K)) rfl B.isinstance_ (by decide +kernel) (pa_cons (pv 0) (pa_cons (pe_ty (T := "tuple") B.tuple_ (by decide +kernel)) pa_nil))) (pe_and (pe_cmpR op_eq (pe_callB (k_len (K := K)) rfl B.len_ (by decide +kernel) (pa_cons (pv 0) pa_nil)) (pv 1) (nomark _)) (pe_one (pe_cmpR (k_eqE (K := K) hr.units) (pe_lc (own := [("_law_one_here", 3)]) rfl sc__law_are_states.nd (kpi_tup (K := K) (pv 0)) (blkOk_by (N := ["_law_thing", "_law_many", "_law_k", "_law_one_here"]) (sc := defScope s__law_are_states) (by decide +kernel)) (fun _ _ _ _ _ => (pg_name (i := 3) sc__law_are_states.nd rfl (by first | exact Or.inl rfl | exact Or.inr rfl))) (fun _ _ _ _ _ => pts_one (pt_cmpR (k_notInS (K := K)) (pe_callB (k_showY (K := K) hgd hr.units) rfl B.repr_ (by decide +kernel) (pa_cons (pv 3) pa_nil)) (pe_slice (k_slL (K := K)) (pe_lst (pa_cons pe_str (pa_cons pe_str (pa_cons pe_str pa_nil)))) po_none (po_some (pv 2))) (by rfl))) (fun _ _ _ _ _ => (pv 3))) (pe_lst pa_nil) (nomark _))))))), ?_⟩
    repeat' (walk_at "jv")
    refine is_tupO ox ?_
    refine ⟨_, rfl, ?_⟩
    cases c : isT d with
    | false =>
      rw [(isT_off c).1] at q
      repeat' (walk_at "jv")
      exact q H (Same.refl _)
    | true =>
      obtain ⟨ds, rfl⟩ := isT_tup c
      replace q : ∀ H', Same H H' → Q (.bl (decide (ds.length = many) && ds.all (stB k))) H' := q
      cases ox with
      | @tup t xs ds sx al =>
      have hxl := ObAll.len al
      repeat' (walk_at "jv")
      · rename_i hlen
        rw [decide_eq_true (by omega), Bool.true_and] at q
        refine c_tup xs (fun D i H' => H D = none ∧ Same H H' ∧ ∃ zs : List V, H' D = some (.lst zs) ∧ zs.length ≤ i ∧ zs.isEmpty = (ds.take i).all (stB k)) (fun D nD => ⟨nD, Same.upd_new nD, [], upd_same, Nat.le_refl _, rfl⟩) (fun D i H' _ h => TK.same h.2.1 _ _ sx) (fun D i y H' hy h => ?_) (fun D H' h => ?_)
        · obtain ⟨nD, kD, zs, eD, hzl, hze⟩ := h
          obtain ⟨d', hd', od'⟩ := ObAll.get al hy
          have hi : i < ds.length := (List.getElem?_eq_some_iff.mp hd').1
          have et : (ds.take (i + 1)).all (stB k) = ((ds.take i).all (stB k) && stB k d') := by
            rw [take_push hd', List.all_append]
            simp
          repeat' (walk_at "jv")
          refine ⟨y, d', a, rfl, od'.same kD, (hsh.get (List.mem_of_getElem? hd')).top, ?_⟩
          repeat' (walk_at "jv")
          intro L1 n1
          have k1 := Same.upd_new (o := .lst [.str "0", .str "1", .str "2"]) n1
          have e1 : (upd H' L1 (.lst [.str "0", .str "1", .str "2"])) L1 = some (.lst [.str "0", .str "1", .str "2"]) := upd_same
          replace kD := kD.trans k1
          replace eD := k1 _ _ eD
          generalize upd H' L1 (.lst [.str "0", .str "1", .str "2"]) = H2 at *
          clear k1 n1
          repeat' (walk_at "jv")
          intro L2' n2
          rw [show cutV [V.str "0", V.str "1", V.str "2"] none (some (k : Int)) = (((["0", "1", "2"] : List Str).take k).map V.str) from by rw [List.map_take]; exact cut_take] 
          have k2 := Same.upd_new (o := .lst (((["0", "1", "2"] : List Str).take k).map V.str)) n2
          have e2 : (upd H2 L2' (.lst (((["0", "1", "2"] : List Str).take k).map V.str))) L2' = some (.lst (((["0", "1", "2"] : List Str).take k).map V.str)) := upd_same
          replace kD := kD.trans k2
          replace eD := k2 _ _ eD
          generalize upd H2 L2' (.lst (((["0", "1", "2"] : List Str).take k).map V.str)) = H4 at *
          clear k2 n2
          refine i_notInS (SqA.l (sq_lst e2)) ?_
          rw [fig_st hk3]
          refine ⟨_, rfl, i_iteB (fun h1 => ?_) (fun h1 => ?_)⟩
          · have h2 : stB k d' = false := by simpa using h1
            repeat' (walk_at "jv")
            refine ⟨nD, fun c oc z => (upd_ne (ne_of_none z nD)).trans (kD _ _ z), zs ++ [y], upd_same, by rw [List.length_append]; show _ + 1 ≤ _; omega, ?_⟩
            rw [et, h2, Bool.and_false]
            cases zs <;> rfl
          · have h2 : stB k d' = true := by simpa using h1
            exact ⟨nD, kD, zs, eD, by omega, by rw [et, h2, Bool.and_true]; exact hze⟩
        · obtain ⟨nD, kD, zs, eD, hzl, hze⟩ := h
          rw [hxl, List.take_length] at hze
          repeat' (walk_at "jv")
          intro Z nZ
          have kZ := Same.upd_new (o := .lst []) nZ
          refine i_eqE (sq_lst (kZ _ _ eD)) (sq_lst upd_same) ?_
          rw [hze]
          exact q _ (kD.trans kZ)
      · rename_i hlen
        rw [decide_eq_false (by omega), Bool.false_and] at q
        exact q H (Same.refl _)
end
end
section
open L2 PySem PySem.Spec PyProof.Rows
abbrev s__law_is_rule : Stmt := topS 45
theorem sc__law_is_rule : FnScope ["_law_k", "_law_others", "_law_thing", "_law_told", "_law_row"] ["_law_k", "_law_others", "_law_thing"] (defScope s__law_is_rule) := ⟨rfl, rfl, rfl, by decide +kernel, rfl, by decide +kernel, by decide +kernel⟩
def spLRuleO (K : PySem.W.Frag) : Sp := fun vs H Q _ => ∃ (a p : Addr) (x : V) (d : PyData) (k : Nat) (near : List Str), vs = [.int (k : Int), .ref p, x] ∧ Ob K H a x d ∧ SqL K H p (near.map V.str) ∧ near.length ≤ 7 ∧ 2 ≤ k ∧ k ≤ 3 ∧ shAll 3 d ∧ ∀ H', Same H H' → Q (.bl (ruleB k near d)) H'
theorem sql_same {K : PySem.W.Frag} {H H' : Hp} {a : Addr} {xs : List V} (k : Same H H') (h : SqL K H a xs) : SqL K H' a xs := h.elim (fun h => .inl (h.elim (fun h => .inl (k _ _ h)) fun ⟨o, h⟩ => .inr ⟨o, k _ _ h⟩)) fun h => .inr h
theorem shAll.down : ∀ {n : Nat} {d : PyData}, shAll (n + 1) d → shAll n d
  | 0, _, h => h.1
  | _ + 1, _, h => ⟨h.1, fun ds e x hx => (h.2 ds e x hx).down⟩
theorem rule_long {k : Nat} {near : List Str} {ds : List PyData} (h : 2 < ds.length) : ruleB k near (.tuple ds) = false := by
  match ds, h with
  | d :: e :: f :: r, _ =>
    cases d with
    | str z =>
      rw [rule_head]
      split
      · rfl
      · rfl
    | _ => rfl
section
variable {base : Heap} {P : Program} {w : World} {K : PySem.W.Frag} {mg : Str → Option Value}
theorem ok_law_ruleO (D : Dn K mg "_law_is_rule" s__law_is_rule ["_law_k", "_law_others", "_law_thing"]) (B : Bn mg) (C__law_power : Cl P w K mg base 1 "_law_power" ["_law_k", "_law_many"] spPower) (C__law_are_states : ClG P w K mg base 1 "_law_are_states" ["_law_thing", "_law_many", "_law_k"] (spLStates K)) : ClG P w K mg base 2 "_law_is_rule" ["_law_k", "_law_others", "_law_thing"] (spLRuleO K) := by
  refine D.clG sc__law_is_rule (fun vs H Q E h => ?_) (fun f cdv A outer s H vs Q E hgd hr h => ?_)
  · obtain ⟨a, p, x, d, k, near, rfl, _⟩ := h
    rfl
  · obtain ⟨a, p, x, d, k, near, rfl, ox, hp, hn, hk2, hk3, hsh, q⟩ := h
    have hmn : (near.map V.str).length = near.length := List.length_map ..
    have hb : k ^ (near.length + 1) ≤ 10000 := by
      have h1 : k ^ (near.length + 1) ≤ 3 ^ (near.length + 1) := Nat.pow_le_pow_left hk3 _
      have h2 : 3 ^ (near.length + 1) ≤ 3 ^ 8 := Nat.pow_le_pow_right (by decide) (by omega)
      have h3 : (3 : Nat) ^ 8 ≤ 10000 := by decide
      omega
    refine ⟨_, (pss_cons (ps_if (PW.pt (pw_or (pt_not (pt_val (pe_callB (k_isi (K := K)) rfl B.isinstance_ (by decide +kernel) (pa_cons (pv 2) (pa_cons (pe_ty (T := "tuple") B.tuple_ (by decide +kernel)) pa_nil))))) (pw_or (pt_cmpR op_lt (pe_callB (k_len (K := K)) rfl B.len_ (by decide +kernel) (pa_cons (pv 2) pa_nil)) pe_int (nomark _)) (pw_or (pt_cmpR op_gt (pe_callB (k_len (K := K)) rfl B.len_ (by decide +kernel) (pa_cons (pv 2) pa_nil)) pe_int (nomark _)) (pw_or1 (pt_not (pt_val (pe_callB (k_isi (K := K)) rfl B.isinstance_ (by decide +kernel) (pa_cons (pe_ix (k_ixT (K := K)) (pv 2) pe_int (fun _ _ => rfl)) (pa_cons (pe_ty (T := "str") B.str_ (by decide +kernel)) pa_nil)))))))))) (pss_one (ps_ret pe_bl)) pss_nil)
      (pss_cons (ps_if (pt_cmpR (k_inS (K := K)) (pe_ix (k_ixT (K := K)) (pv 2) pe_int (fun _ _ => rfl)) (pe_lst (pa_cons pe_str (pa_cons pe_str (pa_cons pe_str (pa_cons pe_str pa_nil))))) (by rfl)) (pss_one (ps_ret (pe_cmpR op_eq (pe_callB (k_len (K := K)) rfl B.len_ (by decide +kernel) (pa_cons (pv 2) pa_nil)) pe_int (nomark _)))) pss_nil)
      (pss_cons (ps_if (PW.pt (pw_or (pt_cmpR op_eq (pe_callB (k_len (K := K)) rfl B.len_ (by decide +kernel) (pa_cons (pv 2) pa_nil)) pe_int (nomark _)) (pw_or1 (pt_cmpR (k_notInS (K := K)) (pe_ix (k_ixT (K := K)) (pv 2) pe_int (fun _ _ => rfl)) (pe_lst (pa_cons pe_str (pa_cons pe_str (pa_cons pe_str (pa_cons pe_str pa_nil))))) (by rfl))))) (pss_one (ps_ret pe_bl)) pss_nil)
      (pss_cons (ps_set (i := 3) sc__law_is_rule.nd rfl (by first | exact Or.inl rfl | exact Or.inr rfl) (pe_ix (k_ixT (K := K)) (pv 2) pe_int (fun _ _ => rfl)))
      (pss_cons (ps_if (pt_cmpR op_eq (pe_ix (k_ixT (K := K)) (pv 2) pe_int (fun _ _ => rfl)) pe_str (nomark _)) (pss_one (ps_ret (pe_cG C__law_are_states hgd hr (pa_cons (pv 3) (pa_cons (pe_c C__law_power hr (pa_cons (pv 0) (pa_cons (pe_op op_add pe_int (pe_callB (k_len (K := K)) rfl B.len_ (by decide +kernel) (pa_cons (pv 1) pa_nil))) pa_nil))) (pa_cons (pv 0) pa_nil)))))) pss_nil)
      (pss_cons (ps_if (pt_cmpR op_eq (pe_ix (k_ixT (K := K)) (pv 2) pe_int (fun _ _ => rfl)) pe_str (nomark _)) (pss_one (ps_ret (pe_cmpR (k_inS (K := K)) (pe_callB (k_showY (K := K) hgd hr.units) rfl B.repr_ (by decide +kernel) (pa_cons (pv 3) pa_nil)) (pe_lst (pa_cons pe_str (pa_cons pe_str (pa_cons pe_str (pa_cons pe_str (pa_cons pe_str (pa_cons pe_str (pa_cons pe_str (pa_cons pe_str (pa_cons pe_str (pa_cons pe_str pa_nil))))))))))) (by rfl)))) pss_nil)
      (pss_cons (ps_if (pt_cmpR op_eq (pe_ix (k_ixT (K := K)) (pv 2) pe_int (fun _ _ => rfl)) pe_str (nomark _)) (pss_one (ps_ret (pe_and (pe_callB (k_isi (K := K)) rfl B.isinstance_ (by decide +kernel) (pa_cons (pv 3) (pa_cons (pe_ty (T := "str") B.str_ (by decide +kernel)) pa_nil))) (pe_one (pe_cmpR (k_inS (K := K)) (pv 3) (pv 1) (by rfl)))))) pss_nil)
      (pss_cons (ps_if (PW.pt (pw_or (pt_not (pt_val (pe_callB (k_isi (K := K)) rfl B.isinstance_ (by decide +kernel) (pa_cons (pv 3) (pa_cons (pe_ty (T := "tuple") B.tuple_ (by decide +kernel)) pa_nil))))) (pw_or1 (pt_cmpR op_ne (pe_callB (k_len (K := K)) rfl B.len_ (by decide +kernel) (pa_cons (pv 3) pa_nil)) (pv 0) (nomark _))))) (pss_one (ps_ret pe_bl)) pss_nil)
      (pss_one (ps_ret (pe_cmpR (k_eqE (K := K) hr.units) (pe_lc (own := [("_law_row", 4)]) rfl sc__law_is_rule.nd (kpi_tup (K := K) (pv 3)) (blkOk_by (N := ["_law_k", "_law_others", "_law_thing", "_law_told", "_law_row"]) (sc := defScope s__law_is_rule) (by decide +kernel)) (fun _ _ _ _ _ => (pg_name (i := 4) sc__law_is_rule.nd rfl (by first | exact Or.inl rfl | exact Or.inr rfl))) (fun _ _ _ _ _ => pts_one (pt_not (pt_val (pe_cG C__law_are_states hgd hr (pa_cons (pv 4) (pa_cons (pe_op op_add pe_int (pe_op op_mul (pe_callB (k_len (K := K)) rfl B.len_ (by decide +kernel) (pa_cons (pv 1) pa_nil)) (pe_op op_sub (pv 0) pe_int))) (pa_cons (pv 0) pa_nil))))))) (fun _ _ _ _ _ => (pv 4))) (pe_lst pa_nil) (nomark _)))))))))))), ?_⟩
    repeat' (walk_at "jv")
    refine is_tupO ox ?_
    refine ⟨_, rfl, ?_⟩
    cases c : isT d with
    | false =>
      rw [(isT_off c).2.2.1] at q
      repeat' (walk_at "jv")
      exact q H (Same.refl _)
    | true =>
      obtain ⟨ds, rfl⟩ := isT_tup c
      cases ox with
      | @tup t xs ds sx al =>
      have hxl := ObAll.len al
      cases al with
      | nil =>
        repeat' (walk_at "jv")
        · exact q H (Same.refl _)
        all_goals (rename_i h1 h2; exact absurd (show ((([] : List V).length : Nat) : Int) < 1 by decide) h1)
      | @cons x0 xs' d0 ds' h0 al =>
        repeat' (walk_at "jv")
        · rename_i h
          exact absurd h (by rw [List.length_cons]; omega)
        · rw [rule_long (by omega)] at q
          exact q H (Same.refl _)
        refine is_strO h0 ?_
        refine ⟨_, rfl, ?_⟩
        cases c1 : isS d0 with
        | false =>
          rw [rule_text c1] at q
          repeat' (walk_at "jv")
          exact q H (Same.refl _)
        | true =>
          obtain ⟨z, rfl⟩ : ∃ z, d0 = .str z := by
            cases d0 with
            | str z => exact ⟨z, rfl⟩
            | _ => cases c1
          cases h0
          rw [rule_head] at q
          repeat' (walk_at "jv")
          intro L1 n1
          have k1 := Same.upd_new (o := .lst [.str "keep", .str "least", .str "greatest", .str "odd"]) n1
          have e1 : SqL K (upd H L1 (.lst [.str "keep", .str "least", .str "greatest", .str "odd"])) L1 (bareL.map V.str) := sq_lst upd_same
          generalize upd H L1 (.lst [.str "keep", .str "least", .str "greatest", .str "odd"]) = H1 at *
          replace sx := TK.same (K := K) k1 _ _ sx
          replace hp := sql_same k1 hp
          replace al := al.same k1
          clear n1
          refine i_inS (SqA.l e1) ?_
          refine ⟨_, rfl, i_iteB (fun hz => ?_) (fun hz => ?_)⟩
          · have hz' : z ∈ bareL := by simpa using hz
            rw [if_pos hz'] at q
            repeat' (walk_at "jv")
            have e : decide ((((V.str z :: xs').length : Nat) : Int) = 1) = ds'.isEmpty := by
              rw [List.length_cons, show xs'.length = ds'.length by rw [List.length_cons, List.length_cons] at hxl; omega]
              cases ds' with
              | nil => rfl
              | cons y r => exact decide_eq_false (by rw [List.length_cons]; omega)
            rw [e]
            exact q H1 k1
          have hz' : z ∉ bareL := by simpa using hz
          rw [if_neg hz'] at q
          repeat' (walk_at "jv")
          · rename_i h1
            rw [rule_tail_no (by rw [List.length_cons] at h1; rw [List.length_cons, List.length_cons] at hxl; omega)] at q
            exact q H1 k1
          rename_i hge hle hne
          obtain ⟨x1, d1, o1, rfl, rfl⟩ : ∃ x1 d1, Ob K H1 a x1 d1 ∧ xs' = [x1] ∧ ds' = [d1] := by
            rw [List.length_cons] at hne hle
            cases al with
            | nil => exact absurd (by rw [List.length_nil]; rfl) hne
            | @cons x1 xs2 d1 ds2 h1 al2 =>
              have hx2 := ObAll.len al2
              rw [List.length_cons] at hle
              obtain rfl : xs2 = [] := List.eq_nil_of_length_eq_zero (by omega)
              obtain rfl : ds2 = [] := List.eq_nil_of_length_eq_zero hx2.symm
              exact ⟨x1, d1, h1, rfl, rfl⟩
          clear al hge hle hne hxl
          replace q : ∀ H', Same H H' → Q (.bl (worthB k near z d1)) H' := q
          unfold worthB at q
          have sh1 := hsh.get (List.mem_cons_of_mem _ (List.mem_cons_self (a := d1) (l := [])))
          repeat' (walk_at "jv")
          intro L2' n2
          have k2 := Same.upd_new (o := .lst [.str "table", .str "sum", .str "most", .str "copy"]) n2
          have e2 : SqL K (upd H1 L2' (.lst [.str "table", .str "sum", .str "most", .str "copy"])) L2' ((["table", "sum", "most", "copy"] : List Str).map V.str) := sq_lst upd_same
          generalize upd H1 L2' (.lst [.str "table", .str "sum", .str "most", .str "copy"]) = H2 at *
          replace sx := TK.same (K := K) k2 _ _ sx
          replace hp := sql_same k2 hp
          replace o1 := o1.same k2
          replace k1 := k1.trans k2
          clear n2 k2 e1
          refine i_notInS (SqA.l e2) ?_
          refine ⟨_, rfl, i_iteB (fun hw => ?_) (fun hw => ?_)⟩
          · have hw' : z ∉ (["table", "sum", "most", "copy"] : List Str) := by simpa using hw
            have g : ∀ y : Str, y ∈ (["table", "sum", "most", "copy"] : List Str) → z ≠ y := fun y hy e => hw' (e ▸ hy)
            rw [if_neg (g _ (by decide +kernel)), if_neg (g _ (by decide +kernel)), if_neg (g _ (by decide +kernel)), decide_eq_false (g _ (by decide +kernel)), Bool.false_and] at q
            repeat' (walk_at "jv")
            exact q H2 k1
          have hw' : z ∈ (["table", "sum", "most", "copy"] : List Str) := Decidable.byContradiction fun c => by
            rw [decide_eq_false c] at hw
            cases hw
          clear e2 H1
          repeat' (walk_at "jv")
          · rename_i hz
            rw [if_pos hz] at q
            refine ⟨k, 1 + near.length, by rw [hmn]; rfl, hk3, by omega, ?_⟩
            repeat' (walk_at "jv")
            rw [Nat.add_comm] at hb q
            exact ⟨a, x1, d1, k, k ^ (1 + near.length), rfl, o1, by omega, hk3, sh1.down, fun H' k' => q H' (k1.trans k')⟩
          · rename_i hz0 hz
            subst hz
            rw [if_neg (by decide +kernel), if_neg (by decide +kernel), if_pos rfl] at q
            refine ⟨x1, d1, a, rfl, o1, sh1.top, ?_⟩
            repeat' (walk_at "jv")
            intro L3 n3
            repeat' (walk_at "jv")
            refine i_inS (ns := ["0", "1", "2", "3", "4", "5", "6", "7", "8", "9"]) (SqA.l (sq_lst upd_same)) ?_
            rw [fig_most]
            exact q _ (k1.trans (Same.upd_new n3))
          · rename_i hz0 hz1 hz
            subst hz
            rw [if_neg (by decide +kernel), if_neg (by decide +kernel), if_neg (by decide +kernel), decide_eq_true rfl, Bool.true_and, text_one] at q
            refine is_strO o1 ?_
            refine ⟨_, rfl, ?_⟩
            cases c2 : isS d1 with
            | false =>
              have e0 : oneB near d1 = false := by cases d1 <;> first | rfl | cases c2
              rw [e0] at q
              repeat' (walk_at "jv")
              exact q _ k1
            | true =>
              obtain ⟨u, rfl⟩ : ∃ z, d1 = .str z := by
                cases d1 with
                | str z => exact ⟨z, rfl⟩
                | _ => cases c2
              cases o1
              repeat' (walk_at "jv")
              exact q _ k1
          · rename_i hz0 hz1 hz2
            have hz : z = "sum" := by
              rcases List.mem_cons.mp hw' with e | hw'
              · exact absurd e hz0
              rcases List.mem_cons.mp hw' with e | hw'
              · exact e
              rcases List.mem_cons.mp hw' with e | hw'
              · exact absurd e hz1
              · exact absurd (List.mem_singleton.mp hw') hz2
            subst hz
            rw [if_neg (by decide +kernel), if_pos rfl] at q
            refine is_tupO o1 ?_
            refine ⟨_, rfl, ?_⟩
            cases c2 : isT d1 with
            | false =>
              rw [(isT_off c2).2.1] at q
              repeat' (walk_at "jv")
              exact q _ k1
            | true =>
              obtain ⟨es, rfl⟩ := isT_tup c2
              replace q : ∀ H', Same H H' → Q (.bl (decide (es.length = k) && es.all (statesB k (near.length * (k - 1) + 1)))) H' := q
              have hw15 : near.length * (k - 1) + 1 ≤ 15 := by
                have := Nat.mul_le_mul hn (show k - 1 ≤ 2 by omega)
                omega
              have hme : (1 : Int) + (near.length : Int) * ((k : Int) - 1) = ((near.length * (k - 1) + 1 : Nat) : Int) := by
                rw [show (k : Int) - 1 = ((k - 1 : Nat) : Int) by omega, Int.natCast_add, Int.natCast_mul, Int.add_comm]
                rfl
              generalize near.length * (k - 1) + 1 = m at *
              cases o1 with
              | @tup t1 ys _ sy ay =>
              have hyl := ObAll.len ay
              repeat' (walk_at "jv")
              · rw [decide_eq_false (by omega), Bool.false_and] at q
                exact q _ k1
              rw [decide_eq_true (by omega), Bool.true_and] at q
              refine c_tup ys (fun D i H' => H2 D = none ∧ Same H2 H' ∧ ∃ zs : List V, H' D = some (.lst zs) ∧ zs.length ≤ i ∧ zs.isEmpty = (es.take i).all (statesB k m)) (fun D nD => ⟨nD, Same.upd_new nD, [], upd_same, Nat.le_refl _, rfl⟩) (fun D i H' _ h => TK.same h.2.1 _ _ sy) (fun D i y H' hy h => ?_) (fun D H' h => ?_)
              · obtain ⟨nD, kD, zs, eD, hzl, hze⟩ := h
                obtain ⟨d', hd', od'⟩ := ObAll.get ay hy
                have hi : i < es.length := (List.getElem?_eq_some_iff.mp hd').1
                have et : (es.take (i + 1)).all (statesB k m) = ((es.take i).all (statesB k m) && statesB k m d') := by
                  rw [take_push hd', List.all_append]
                  simp
                have hp' := sql_same kD hp
                repeat' (walk_at "jv")
                rw [hmn, hme]
                refine ⟨a, y, d', k, m, rfl, od'.same kD, by omega, hk3, sh1.get (List.mem_of_getElem? hd'), fun H3 k3 => ?_⟩
                refine ⟨_, rfl, ?_⟩
                have eD3 := k3 _ _ eD
                cases cn : statesB k m d' with
                | false =>
                  repeat' (walk_at "jv")
                  refine ⟨nD, fun c oc z => (upd_ne (ne_of_none z nD)).trans (k3 _ _ (kD _ _ z)), zs ++ [y], upd_same, by rw [List.length_append]; show _ + 1 ≤ _; omega, ?_⟩
                  rw [et, cn, Bool.and_false]
                  cases zs <;> rfl
                | true =>
                  repeat' (walk_at "jv")
                  exact ⟨nD, kD.trans k3, zs, eD3, by omega, by rw [et, cn, Bool.and_true]; exact hze⟩
              · obtain ⟨nD, kD, zs, eD, hzl, hze⟩ := h
                rw [hyl, List.take_length] at hze
                repeat' (walk_at "jv")
                intro Z nZ
                have kZ := Same.upd_new (o := .lst []) nZ
                refine i_eqE (sq_lst (kZ _ _ eD)) (sq_lst upd_same) ?_
                rw [hze]
                exact q _ (k1.trans (kD.trans kZ))
end
end
section
open L2 PySem PySem.Spec PyProof.Rows
abbrev s__law_is_hall : Stmt := topS 46
theorem sc__law_is_hall : FnScope ["_law_thing", "_law_k", "_law_web_here", "_law_rules", "_law_place", "_law_rule_here"] ["_law_thing"] (defScope s__law_is_hall) := ⟨rfl, rfl, rfl, by decide +kernel, rfl, by decide +kernel, by decide +kernel⟩
def spLHallO (K : PySem.W.Frag) : Sp := fun vs H Q _ => ∃ (a : Addr) (x : V) (d : PyData), vs = [x] ∧ Ob K H a x d ∧ okD d = true ∧ shAll 5 d ∧ ∀ H', Same H H' → Q (.bl (hallB d)) H'
section
variable {base : Heap} {P : Program} {w : World} {K : PySem.W.Frag} {mg : Str → Option Value}
theorem ok_law_hallO (D : Dn K mg "_law_is_hall" s__law_is_hall ["_law_thing"]) (B : Bn mg) (C__law_power : Cl P w K mg base 1 "_law_power" ["_law_k", "_law_many"] spPower) (C__law_is_web : Cl P w K mg base 2 "_law_is_web" ["_law_thing"] (spIsWebO K)) (C__law_neighbours : Cl P w K mg base 1 "_law_neighbours" ["_law_web_here", "_law_place"] (spNear K)) (C__law_is_rule : ClG P w K mg base 2 "_law_is_rule" ["_law_k", "_law_others", "_law_thing"] (spLRuleO K)) : ClG P w K mg base 3 "_law_is_hall" ["_law_thing"] (spLHallO K) := by
  refine D.clG sc__law_is_hall (fun vs H Q E h => ?_) (fun f cdv A outer s H vs Q E hgd hr h => ?_)
  · obtain ⟨a, x, d, rfl, _⟩ := h
    rfl
  · obtain ⟨a, x, d, rfl, ox, ok, hsh, q⟩ := h
    refine ⟨_, (pss_cons (ps_if (PW.pt (pw_or (pt_not (pt_val (pe_callB (k_isi (K := K)) rfl B.isinstance_ (by decide +kernel) (pa_cons (pv 0) (pa_cons (pe_ty (T := "tuple") B.tuple_ (by decide +kernel)) pa_nil))))) (pw_or (pt_cmpR op_ne (pe_callB (k_len (K := K)) rfl B.len_ (by decide +kernel) (pa_cons (pv 0) pa_nil)) pe_int (nomark _)) (pw_or (pt_cmpR (k_notInS (K := K)) (pe_callB (k_showY (K := K) hgd hr.units) rfl B.repr_ (by decide +kernel) (pa_cons (pe_ix (k_ixT (K := K)) (pv 0) pe_int (fun _ _ => rfl)) pa_nil)) (pe_lst (pa_cons pe_str (pa_cons pe_str pa_nil))) (by rfl)) (pw_or1 (pt_not (pt_val (pe_c C__law_is_web hr (pa_cons (pe_ix (k_ixT (K := K)) (pv 0) pe_int (fun _ _ => rfl)) pa_nil))))))))) (pss_one (ps_ret pe_bl)) pss_nil)
      (pss_cons (ps_asg (pv 0) (kpg_tup (K := K) (n := 3) rfl (pgs_cons (pg_name (i := 1) sc__law_is_hall.nd rfl (by first | exact Or.inl rfl | exact Or.inr rfl)) (pgs_cons (pg_name (i := 2) sc__law_is_hall.nd rfl (by first | exact Or.inl rfl | exact Or.inr rfl)) (pgs_cons (pg_name (i := 3) sc__law_is_hall.nd rfl (by first | exact Or.inl rfl | exact Or.inr rfl)) pgs_nil)))))
      (pss_cons (ps_if (PW.pt (pw_or (pt_cmpR op_gt (pe_c C__law_power hr (pa_cons (pv 1) (pa_cons (pe_callB (k_len (K := K)) rfl B.len_ (by decide +kernel) (pa_cons (pe_ix (k_ixT (K := K)) (pv 2) pe_int (fun _ _ => rfl)) pa_nil)) pa_nil))) pe_int (nomark _)) (pw_or (pt_not (pt_val (pe_callB (k_isi (K := K)) rfl B.isinstance_ (by decide +kernel) (pa_cons (pv 3) (pa_cons (pe_ty (T := "tuple") B.tuple_ (by decide +kernel)) pa_nil))))) (pw_or1 (pt_cmpR op_ne (pe_callB (k_len (K := K)) rfl B.len_ (by decide +kernel) (pa_cons (pv 3) pa_nil)) (pe_callB (k_len (K := K)) rfl B.len_ (by decide +kernel) (pa_cons (pe_ix (k_ixT (K := K)) (pv 2) pe_int (fun _ _ => rfl)) pa_nil)) (nomark _)))))) (pss_one (ps_ret pe_bl)) pss_nil)
      (pss_one (ps_ret (pe_cmpR (k_eqE (K := K) hr.units) (pe_lc (own := [("_law_place", 4), ("_law_rule_here", 5)]) rfl sc__law_is_hall.nd (kpi_zip (K := K) B.zip_ (pa_cons (pe_ix (k_ixT (K := K)) (pv 2) pe_int (fun _ _ => rfl)) (pa_cons (pv 3) pa_nil))) (blkOk_by (N := ["_law_thing", "_law_k", "_law_web_here", "_law_rules", "_law_place", "_law_rule_here"]) (sc := defScope s__law_is_hall) (by decide +kernel)) (fun _ _ _ _ _ => (kpg_tup (K := K) (n := 2) rfl (pgs_cons (pg_name (i := 4) sc__law_is_hall.nd rfl (by first | exact Or.inl rfl | exact Or.inr rfl)) (pgs_cons (pg_name (i := 5) sc__law_is_hall.nd rfl (by first | exact Or.inl rfl | exact Or.inr rfl)) pgs_nil)))) (fun _ _ _ _ _ => pts_one (pt_not (pt_val (pe_cG C__law_is_rule hgd hr (pa_cons (pv 1) (pa_cons (pe_c C__law_neighbours hr (pa_cons (pv 2) (pa_cons (pv 4) pa_nil))) (pa_cons (pv 5) pa_nil))))))) (fun _ _ _ _ _ => pe_int)) (pe_lst pa_nil) (nomark _))))))), ?_⟩
    repeat' (walk_at "jv")
    refine is_tupO ox ?_
    refine ⟨_, rfl, ?_⟩
    cases c : isT d with
    | false =>
      rw [(isT_off c).2.2.2.2] at q
      repeat' (walk_at "jv")
      exact q H (Same.refl _)
    | true =>
      obtain ⟨ds, rfl⟩ := isT_tup c
      cases ox with
      | @tup t xs ds sx al =>
      have hxl := ObAll.len al
      repeat' (walk_at "jv")
      · rw [hall_not (by omega)] at q
        exact q H (Same.refl _)
      rename_i h3
      have h3' : ds.length = 3 := by omega
      cases al with
      | nil => exact absurd h3' (by decide)
      | @cons x1 _ d1 _ o1 al =>
      cases al with
      | nil => exact absurd h3' (by simp)
      | @cons x2 _ d2 _ o2 al =>
      cases al with
      | nil => exact absurd h3' (by simp)
      | @cons x3 xs3 d3 ds3 o3 al =>
      obtain rfl : ds3 = [] := List.eq_nil_of_length_eq_zero (by rw [List.length_cons, List.length_cons, List.length_cons] at h3'; omega)
      cases al
      replace q : ∀ H', Same H H' → Q (.bl ((twoB d1 && webB d2) && (decide (kOf d1 ^ (webPs d2).length ≤ 256) && rulesB (kOf d1) (webPs d2) (webRs d2) d3))) H' := q
      have ok2 := ok_tup.mp ok d2 (List.mem_cons_of_mem _ List.mem_cons_self)
      have sh1 := (hsh.get (List.mem_cons_self (a := d1))).top
      have sh3 := hsh.get (List.mem_cons_of_mem d1 (List.mem_cons_of_mem d2 (List.mem_cons_self (a := d3) (l := []))))
      repeat' (walk_at "jv")
      refine ⟨x1, d1, a, rfl, o1, sh1, ?_⟩
      repeat' (walk_at "jv")
      intro L1 n1
      have k1 := Same.upd_new (o := .lst [.str "2", .str "3"]) n1
      have e1 : SqL K (upd H L1 (.lst [.str "2", .str "3"])) L1 ((["2", "3"] : List Str).map V.str) := sq_lst upd_same
      generalize upd H L1 (.lst [.str "2", .str "3"]) = H1 at *
      replace sx := TK.same (K := K) k1 _ _ sx
      replace o2 := o2.same k1
      replace o3 := o3.same k1
      clear n1
      refine i_notInS (SqA.l e1) ?_
      rw [fig_two]
      refine ⟨_, rfl, ?_⟩
      cases c2 : twoB d1 with
      | false =>
        rw [c2, Bool.false_and, Bool.false_and] at q
        repeat' (walk_at "jv")
        exact q H1 k1
      | true =>
      obtain ⟨k, rfl, hk2, hk3⟩ : ∃ k : Nat, d1 = .int (k : Int) ∧ 2 ≤ k ∧ k ≤ 3 := by
        cases d1 with
        | int i =>
          have c2' : (decide (2 ≤ i) && decide (i ≤ 3)) = true := c2
          rw [Bool.and_eq_true, decide_eq_true_iff, decide_eq_true_iff] at c2'
          obtain ⟨k, rfl⟩ := Int.eq_ofNat_of_zero_le (show 0 ≤ i by omega)
          exact ⟨k, rfl, by omega, by omega⟩
        | _ => cases c2
      cases o1
      rw [c2, Bool.true_and] at q
      replace q : ∀ H', Same H H' → Q (.bl (webB d2 && (decide (k ^ (webPs d2).length ≤ 256) && rulesB k (webPs d2) (webRs d2) d3))) H' := q
      repeat' (walk_at "jv")
      refine ⟨a, x2, d2, rfl, o2, ok2, fun H2 k2 => ?_⟩
      refine ⟨_, rfl, ?_⟩
      replace k1 := k1.trans k2
      cases cw : webB d2 with
      | false =>
        rw [cw, Bool.false_and] at q
        repeat' (walk_at "jv")
        exact q H2 k1
      | true =>
      obtain ⟨ps, rs, rfl, W⟩ := web_is cw
      have e1 : webPs (webD ps rs) = ps := txt_names ps
      have e2 : webRs (webD ps rs) = rs := pair_roads rs
      rw [cw, Bool.true_and, e1, e2] at q
      have dw := Dp.same k2 _ _ (Ob.dp _ _ (web_layW W) o2)
      have dw2 := dw
      obtain ⟨wt, tp, tr, us, rfl, s1, s2, s3, d3', dr, dpl⟩ := web_parts dw2
      clear s3 d3' dr dpl dw2 o2
      have h8 := W.le8
      replace o3 := o3.same k2
      replace sx := TK.same (K := K) k2 _ _ sx
      have hmp : (ps.map V.str).length = ps.length := List.length_map ..
      repeat' (walk_at "jv")
      refine ⟨k, ps.length, by rw [hmp]; rfl, hk3, h8, ?_⟩
      repeat' (walk_at "jv")
      · rename_i hf
        rw [decide_eq_false (show ¬ k ^ ps.length ≤ 256 by omega), Bool.false_and] at q
        exact q H2 k1
      rename_i hf
      rw [decide_eq_true (show k ^ ps.length ≤ 256 by omega), Bool.true_and] at q
      refine is_tupO o3 ?_
      refine ⟨_, rfl, ?_⟩
      cases c3 : isT d3 with
      | false =>
        rw [(isT_off c3).2.2.2.1] at q
        repeat' (walk_at "jv")
        exact q H2 k1
      | true =>
      obtain ⟨gs, rfl⟩ := isT_tup c3
      cases o3 with
      | @tup t3 ys _ sy ay =>
      have hyl := ObAll.len ay
      replace q : ∀ H', Same H H' → Q (.bl (decide (gs.length = ps.length) && (List.range ps.length).all fun i => ruleB k (nearL ps rs (ps.getD i "")) (gs.getD i .none))) H' := q
      repeat' (walk_at "jv")
      · rw [decide_eq_false (by omega), Bool.false_and] at q
        exact q H2 k1
      rw [decide_eq_true (by omega), Bool.true_and] at q
      refine i_zip ?_
      repeat' (walk_at "jv")
      refine i_zipT s2 sy ?_
      refine c_zip (ps.map V.str) ys (by omega) (fun D i H' => H2 D = none ∧ Same H2 H' ∧ ∃ zs : List V, H' D = some (.lst zs) ∧ zs.length ≤ i ∧ zs.isEmpty = ((List.range i).all fun i => ruleB k (nearL ps rs (ps.getD i "")) (gs.getD i .none))) (fun D nD => ⟨nD, Same.upd_new nD, [], upd_same, Nat.le_refl _, rfl⟩) (fun D i H' h => ⟨TK.same h.2.1 _ _ s2, TK.same h.2.1 _ _ sy⟩) (fun D i x y H' T hx hy h nT => ?_) (fun D H' h => ?_)
      · obtain ⟨nD, kD, zs, eD, hzl, hze⟩ := h
        have hi : i < ps.length := by
          have := (List.getElem?_eq_some_iff.mp hx).1
          rwa [List.length_map] at this
        rw [List.getElem?_map, List.getElem?_eq_getElem hi] at hx
        obtain rfl : V.str ps[i] = x := Option.some.inj hx
        have sT := Same.upd_new (o := .tup [V.str ps[i], y]) nT
        have smT := kD.trans sT
        obtain ⟨d, hdd, dx⟩ := ObAll.get (ay.same smT) hy
        have eg : ruleB k (nearL ps rs (ps.getD i "")) (gs.getD i .none) = ruleB k (nearL ps rs ps[i]) d := by
          rw [List.getD_eq_getElem?_getD, List.getD_eq_getElem?_getD, List.getElem?_eq_getElem hi, hdd]
          rfl
        have et : ((List.range (i + 1)).all fun i => ruleB k (nearL ps rs (ps.getD i "")) (gs.getD i .none)) = (((List.range i).all fun i => ruleB k (nearL ps rs (ps.getD i "")) (gs.getD i .none)) && ruleB k (nearL ps rs ps[i]) d) := by
          rw [List.range_succ, List.all_append, List.all_cons, List.all_nil, Bool.and_true, eg]
        have mi : ps[i] ∈ ps := List.getElem_mem hi
        repeat' (walk_at "jv")
        refine ⟨.ref wt, ps[i], ps, rs, rfl, Dp.same smT _ _ dw, W, mi, fun p2 H3 n3 k3 e3 => ?_⟩
        repeat' (walk_at "jv")
        refine ⟨a, p2, y, d, k, nearL ps rs ps[i], rfl, dx.same k3, sq_lst e3, near_len W mi, hk2, hk3, (sh3.get (List.mem_of_getElem? hdd)), fun H4 k4 => ?_⟩
        refine ⟨_, rfl, ?_⟩
        have kall := sT.trans (k3.trans k4)
        have eD4 := kall _ _ eD
        cases cn : ruleB k (nearL ps rs ps[i]) d with
        | false =>
          repeat' (walk_at "jv")
          refine ⟨nD, fun c oc z => (upd_ne (ne_of_none z nD)).trans (kall _ _ (kD _ _ z)), zs ++ [.int 1], upd_same, by rw [List.length_append]; show _ + 1 ≤ _; omega, ?_⟩
          rw [et, cn, Bool.and_false]
          cases zs <;> rfl
        | true =>
          repeat' (walk_at "jv")
          exact ⟨nD, kD.trans kall, zs, eD4, by omega, by rw [et, cn, Bool.and_true]; exact hze⟩
      · obtain ⟨nD, kD, zs, eD, hzl, hze⟩ := h
        rw [hmp] at hze
        repeat' (walk_at "jv")
        intro Z nZ
        have kZ := Same.upd_new (o := .lst []) nZ
        refine i_eqE (sq_lst (kZ _ _ eD)) (sq_lst upd_same) ?_
        rw [hze]
        exact q _ (k1.trans (kD.trans kZ))
end
end
section
open L2 PySem PySem.Spec PyProof.Rows
abbrev s__law_near_web : Stmt := topS 47
theorem sc__law_near_web : FnScope ["_law_feed_here", "_law_web_here", "_law_places", "_law_roads", "_law_at", "_law_spot", "_law_one_here", "_law_other", "_law_sign", "_law_cut", "_law_odd", "_law_ends", "_law_way", "_law_road", "_law_more"] ["_law_feed_here", "_law_web_here"] (defScope s__law_near_web) := ⟨rfl, rfl, rfl, by decide +kernel, rfl, by decide +kernel, by decide +kernel⟩
def spOneT (K : PySem.W.Frag) : Sp := fun vs H Q _ => ∃ (a p : Addr) (c : Int) (xs : List V), vs = [.ref a, .ref p] ∧ Fd H a c ∧ SqT K H p xs ∧ 0 < xs.length ∧ xs.length < 1000000 ∧ c < 10 ^ 15 ∧
  ∀ (v : V) (H' : Hp), v ∈ xs → Fd H' a (c + 1) → Ch a H H' → Q v H'
theorem size_add (x y : Str) : (x ++ y).cps.size = x.cps.size + y.cps.size := Array.size_append
theorem cut_ok {z : Str} (h : PyData.strOk z = true) (lo hi : Option Int) : PyData.strOk (cutS z lo hi) = true ∧ (cutS z lo hi).cps.size ≤ z.cps.size := by
  unfold cutS
  refine ⟨?_, ?_⟩
  · show (List.toArray _).all (· < 0x110000) = true
    rw [List.all_toArray, List.all_eq_true]
    intro x hx
    exact Array.all_eq_true_iff_forall_mem.mp h x (Array.mem_toList_iff.mp (List.mem_of_mem_drop (List.mem_of_mem_take hx)))
  · show (List.toArray _).size ≤ _
    rw [List.size_toArray, List.length_take, List.length_drop, Array.length_toList]
    omega
theorem k_names : ∀ i : Fin 6, PyData.strOk (Str.ofString "k" ++ Str.ofString (toString ((i.1 : Nat) : Int))) = true ∧ (Str.ofString "k" ++ Str.ofString (toString ((i.1 : Nat) : Int))).cps.size ≤ 20 ∧ (Str.ofString (toString ((i.1 : Nat) : Int))).cps.size ≤ 5 := by decide +kernel
def NO (K : PySem.W.Frag) (m n : Nat) (H : Hp) (a : Addr) (x : V) : Prop := ∃ d, Ob K H a x d ∧ Nw m n d
def NOs (K : PySem.W.Frag) (m n : Nat) (H : Hp) (a : Addr) (xs : List V) : Prop := ∀ x ∈ xs, NO K m n H a x
def NZ (K : PySem.W.Frag) (H : Hp) (a : Addr) (x : V) : Prop := NO K 4 19251 H a x ∨ ∃ p : Addr, x = .ref p ∧ H p = some (.dK []) ∧ p ≠ a
section
variable {K : PySem.W.Frag} {m n m' n' : Nat} {H H' : Hp} {a : Addr} {x : V} {xs ys : List V} {c : Int}
theorem NO.same (h : NO K m n H a x) (k : Same H H') : NO K m n H' a x := by
  obtain ⟨d, o, r⟩ := h
  exact ⟨d, o.same k, r⟩
theorem NO.ch (h : NO K m n H a x) (k : Ch a H H') (f : Fd H a c) : NO K m n H' a x := by
  obtain ⟨d, o, r⟩ := h
  exact ⟨d, o.ch k f, r⟩
theorem NO.mono (h : NO K m n H a x) (hm : m ≤ m' := by decide) (hn : n ≤ n' := by decide) : NO K m' n' H a x := by
  obtain ⟨d, o, r⟩ := h
  exact ⟨d, o, r.mono hm hn⟩
theorem NOs.same (h : NOs K m n H a xs) (k : Same H H') : NOs K m n H' a xs := fun x hx => (h x hx).same k
theorem NOs.ch (h : NOs K m n H a xs) (k : Ch a H H') (f : Fd H a c) : NOs K m n H' a xs := fun x hx => (h x hx).ch k f
theorem NOs.mono (h : NOs K m n H a xs) (hm : m ≤ m' := by decide) (hn : n ≤ n' := by decide) : NOs K m' n' H a xs := fun x hx => (h x hx).mono hm hn
theorem NOs.nil : NOs K m n H a [] := fun x h => nomatch h
theorem NOs.cons (h : NO K m n H a x) (g : NOs K m n H a xs) : NOs K m n H a (x :: xs) := fun y hy => (List.mem_cons.mp hy).elim (fun e => e ▸ h) (g y)
theorem NOs.one (h : NO K m n H a x) : NOs K m n H a [x] := .cons h .nil
theorem NOs.app (h : NOs K m n H a xs) (g : NOs K m n H a ys) : NOs K m n H a (xs ++ ys) := fun y hy => (List.mem_append.mp hy).elim (h y) (g y)
theorem NOs.take (h : NOs K m n H a xs) (k : Nat) : NOs K m n H a (xs.take k) := fun y hy => h y (List.mem_of_mem_take hy)
theorem NOs.drop (h : NOs K m n H a xs) (k : Nat) : NOs K m n H a (xs.drop k) := fun y hy => h y (List.mem_of_mem_drop hy)
theorem NOs.obs (h : NOs K m n H a xs) : ∃ ds, ObAll K H a xs ds ∧ ∀ d ∈ ds, Nw m n d := by
  induction xs with
  | nil => exact ⟨[], .nil, fun d h => nomatch h⟩
  | cons x xs ih =>
    obtain ⟨d, o, r⟩ := h x List.mem_cons_self
    obtain ⟨ds, os, rs⟩ := ih fun y hy => h y (List.mem_cons_of_mem _ hy)
    exact ⟨d :: ds, .cons o os, fun e he => (List.mem_cons.mp he).elim (fun z => z ▸ r) (rs e)⟩
theorem no_tup {p : Addr} (s : SqT K H p xs) (h : NOs K m n H a xs) {k : Nat} (hl : xs.length ≤ k) : NO K (m + 1) ((n + 1) * k) H a (.ref p) := by
  obtain ⟨ds, os, rs⟩ := h.obs
  exact ⟨.tuple ds, .tup s os, nw_tup rs (by rw [← os.len]; exact hl)⟩
theorem no_list {p : Addr} (s : H p = some (.lst xs)) (d : p ≠ a) (h : NOs K m n H a xs) {k : Nat} (hl : xs.length ≤ k) : NO K (m + 1) ((n + 1) * k) H a (.ref p) := by
  obtain ⟨ds, os, rs⟩ := h.obs
  exact ⟨.list ds, .lst s d os, nw_list rs (by rw [← os.len]; exact hl)⟩
theorem no_str {z : Str} (h : PyData.strOk z = true) (hl : z.cps.size ≤ 20) : NO K 0 20 H a (.str z) := ⟨_, .str z, nw_str h hl (by decide)⟩
theorem no_name {z : Str} (h : nmOk z = true) : NO K 0 20 H a (.str z) := no_str (nmOk_str h) (by have := nm_size h; omega)
theorem no_none : NO K 0 20 H a .non := ⟨_, .non, nw_none.mono (by decide) (by decide)⟩
theorem no_bool (b : Bool) : NO K 0 20 H a (.bl b) := ⟨_, .bl b, (nw_bool b).mono (by decide) (by decide)⟩
theorem no_int {i : Int} (h0 : -5 ≤ i) (h1 : i < 395) : NO K 0 20 H a (.int i) := ⟨_, .int i, (nw_int h0 h1).mono (by decide) (by decide)⟩
theorem no_names {l : List Str} (h : ∀ z ∈ l, nmOk z = true) : NOs K 0 20 H a (l.map V.str) := fun x hx => by
  obtain ⟨z, hz, rfl⟩ := List.mem_map.mp hx
  exact no_name (h z hz)
theorem NO.nz (h : NO K m n H a x) (hm : m ≤ 4 := by decide) (hn : n ≤ 19251 := by decide) : NZ K H a x := .inl (h.mono hm hn)
theorem nz_dict {p : Addr} (e : H p = some (.dK [])) (d : p ≠ a) : NZ K H a (.ref p) := .inr ⟨p, rfl, e, d⟩
theorem NZ.same (h : NZ K H a x) (k : Same H H') : NZ K H' a x := h.elim (fun h => .inl (h.same k)) fun ⟨p, e, h1, h2⟩ => .inr ⟨p, e, k _ _ h1, h2⟩
theorem NZ.ch (h : NZ K H a x) (k : Ch a H H') (f : Fd H a c) : NZ K H' a x := h.elim (fun h => .inl (h.ch k f)) fun ⟨p, e, h1, h2⟩ => .inr ⟨p, e, k _ _ h2 h1, h2⟩
theorem road_getW {xs : List V} {l : List (Str × Str)} {i : Nat} {x : V} (d : DpAll K H xs (l.map roadD)) (hx : xs[i]? = some x) : ∃ r t, l[i]? = some r ∧ x = .ref t ∧ SqT K H t [.str r.1, .str r.2] := by
  obtain ⟨e, he, de⟩ := DpAll.get d hx
  rw [List.getElem?_map] at he
  cases c : l[i]? with
  | none => rw [c] at he; cases he
  | some r =>
    rw [c] at he
    obtain rfl : roadD r = e := Option.some.inj he
    obtain ⟨t, e1, e2⟩ := road_parts de
    exact ⟨r, t, rfl, e1, e2⟩
theorem at_state {t : TS} {D : Ends} {σ τ : L2.St} {H : Hp} (e : σ = τ) (h : t D τ H) : t D σ H := e ▸ h
theorem no_roads {xs : List V} {rs : List (Str × Str)} (h : DpAll K H xs (rs.map roadD)) (nm : ∀ r ∈ rs, nmOk r.1 = true ∧ nmOk r.2 = true) : NOs K 1 42 H a xs := by
  induction rs generalizing xs with
  | nil => cases h; exact .nil
  | cons r rs ih =>
    cases h with
    | cons h1 h2 =>
      obtain ⟨n1, n2⟩ := nm r List.mem_cons_self
      refine .cons ?_ (ih h2 fun q hq => nm q (List.mem_cons_of_mem _ hq))
      refine ⟨_, Ob.of _ _ rfl h1, ?_⟩
      refine nw_tup (m := 0) (n := 20) (k := 2) (fun d hd => ?_) (Nat.le_refl 2)
      rcases List.mem_cons.mp hd with e | hd
      · rw [e]
        exact (nw_name n1).mono (by decide) (by decide)
      · rw [List.mem_singleton.mp hd]
        exact (nw_name n2).mono (by decide) (by decide)
theorem no_road {x : V} {r : Str × Str} (h : Dp K H x (roadD r)) (n1 : nmOk r.1 = true) (n2 : nmOk r.2 = true) : NO K 1 42 H a x := no_roads (rs := [r]) (.cons h .nil) (fun q hq => by rw [List.mem_singleton.mp hq]; exact ⟨n1, n2⟩) x List.mem_cons_self
end
def spNearW (K : PySem.W.Frag) : Sp := fun vs H Q _ => ∃ (a : Addr) (v : V) (c : Int) (ps : List Str) (rs : List (Str × Str)), vs = [.ref a, v] ∧ Fd H a c ∧ c < 10 ^ 13 ∧ Dp K H v (webD ps rs) ∧ IsWeb ps rs ∧
  ∀ (y : V) (H' : Hp), NZ K H' a y → Fd H' a (c + 100) → Ch a H H' → Q y H'
section
variable {base : Heap} {P : Program} {w : World} {K : PySem.W.Frag} {mg : Str → Option Value}
theorem ok_oneT (D : Dn K mg "_law_one" s__law_one ["_law_feed_here", "_law_things"]) (B : Bn mg) (C__law_draw : Cl P w K mg base 1 "_law_draw" ["_law_feed_here", "_law_many"] spDraw) : Cl P w K mg base 2 "_law_one" ["_law_feed_here", "_law_things"] (spOneT K) := by
  refine D.cl sc__law_one (fun vs H Q E h => ?_) (fun f cdv A outer s H vs Q E hr h => ?_)
  · obtain ⟨a, p, c, xs, rfl, _⟩ := h
    rfl
  · obtain ⟨a, p, c, xs, rfl, hf, hp, h0, hz, hc, q⟩ := h
    refine ⟨_, (pss_one (ps_ret (pe_ix (k_ixT (K := K)) (pv 1) (pe_c C__law_draw hr (pa_cons (pv 0) (pa_cons (pe_callB (k_len (K := K)) rfl B.len_ (by decide +kernel) (pa_cons (pv 1) pa_nil)) pa_nil))) (fun _ _ => rfl)))), ?_⟩
    repeat' (walk_at "jv")
    refine ⟨a, xs.length, c, rfl, hf, by omega, by omega, hc, fun r H1 r0 r1 f1 k1 => ?_⟩
    obtain ⟨k, rfl⟩ := Int.eq_ofNat_of_zero_le r0
    have hk : k < xs.length := by omega
    refine i_ixT (TK.ch k1 hf _ _ hp) (atI_nat (List.getElem?_eq_getElem hk)) ?_
    repeat' (walk_at "jv")
    exact q _ _ (List.getElem_mem hk) f1 k1
theorem ok_near_web (D : Dn K mg "_law_near_web" s__law_near_web ["_law_feed_here", "_law_web_here"]) (B : Bn mg) (C__law_draw : Cl P w K mg base 1 "_law_draw" ["_law_feed_here", "_law_many"] spDraw) (C__law_one : Cl P w K mg base 2 "_law_one" ["_law_feed_here", "_law_things"] (spOne K)) (C__law_oneT : Cl P w K mg base 2 "_law_one" ["_law_feed_here", "_law_things"] (spOneT K)) : Cl P w K mg base 3 "_law_near_web" ["_law_feed_here", "_law_web_here"] (spNearW K) := by
  refine D.cl sc__law_near_web (fun vs H Q E h => ?_) (fun f cdv A outer s H vs Q E hr h => ?_)
  · obtain ⟨a, v, c, ps, rs, rfl, _⟩ := h
    rfl
  · obtain ⟨a, v, c, ps, rs, rfl, f1, hc, hd, W, q⟩ := h
    obtain ⟨wt, tp, tr, xs, rfl, s1, s2, s3, d3, dr, dpl⟩ := web_parts hd
    clear dr dpl hd
    have h8 := W.le8
    have h0 := W.pos
    have h14 := W.le14
    have hmp : (ps.map V.str).length = ps.length := List.length_map ..
    have hxl : xs.length = rs.length := by rw [DpAll.len d3, List.length_map]
    have nmr : ∀ r ∈ rs, nmOk r.1 = true ∧ nmOk r.2 = true := fun r hr => ⟨W.names.2 _ (W.ends r hr).1, W.names.2 _ (W.ends r hr).2.1⟩
    have kk : Ch a H H := Ch.of_same (Same.refl _)
    refine ⟨_, (pss_cons (ps_asg (pv 1) (kpg_tup (K := K) (n := 2) rfl (pgs_cons (pg_name (i := 2) sc__law_near_web.nd rfl (by first | exact Or.inl rfl | exact Or.inr rfl)) (pgs_cons (pg_name (i := 3) sc__law_near_web.nd rfl (by first | exact Or.inl rfl | exact Or.inr rfl)) pgs_nil))))
      (pss_cons (ps_par (i := 4) (j := 5) rfl sc__law_near_web.nd rfl rfl (by decide) rfl rfl (pa_cons (pe_c C__law_draw hr (pa_cons (pv 0) (pa_cons (pe_callB (k_len (K := K)) rfl B.len_ (by decide +kernel) (pa_cons (pv 2) pa_nil)) pa_nil))) (pa_cons (pe_c C__law_draw hr (pa_cons (pv 0) (pa_cons (pe_op op_add (pe_callB (k_len (K := K)) rfl B.len_ (by decide +kernel) (pa_cons (pv 3) pa_nil)) pe_int) pa_nil))) pa_nil)) (by rfl))
      (pss_cons (ps_asg (pe_tup (pa_cons (pe_ix (k_ixT (K := K)) (pv 2) (pv 4) (fun _ _ => rfl)) (pa_cons (pe_ix (k_ixT (K := K)) (pv 2) (pe_op op_sub (pv 4) pe_int) (fun _ _ => rfl)) pa_nil))) (kpg_tup (K := K) (n := 2) rfl (pgs_cons (pg_name (i := 6) sc__law_near_web.nd rfl (by first | exact Or.inl rfl | exact Or.inr rfl)) (pgs_cons (pg_name (i := 7) sc__law_near_web.nd rfl (by first | exact Or.inl rfl | exact Or.inr rfl)) pgs_nil))))
      (pss_cons (ps_par (i := 8) (j := 9) rfl sc__law_near_web.nd rfl rfl (by decide) rfl rfl (pa_cons (pe_c C__law_one hr (pa_cons (pv 0) (pa_cons (pe_lst (pa_cons pe_str (pa_cons pe_str (pa_cons pe_str (pa_cons pe_str (pa_cons pe_str (pa_cons pe_str (pa_cons pe_str (pa_cons pe_str pa_nil))))))))) pa_nil))) (pa_cons (pe_c C__law_draw hr (pa_cons (pv 0) (pa_cons (pe_op op_add (pe_callB (call_len_str) rfl B.len_ (by decide +kernel) (pa_cons (pv 6) pa_nil)) pe_int) pa_nil))) pa_nil)) (by rfl))
      (pss_cons (ps_set (i := 10) sc__law_near_web.nd rfl (by first | exact Or.inl rfl | exact Or.inr rfl) (pe_lst (pa_cons pe_str (pa_cons pe_str (pa_cons pe_str (pa_cons pe_str (pa_cons pe_str (pa_cons pe_str (pa_cons pe_non (pa_cons pe_int (pa_cons pe_bl (pa_cons (pe_tup (pa_cons pe_str pa_nil)) (pa_cons (pe_lst (pa_cons pe_str pa_nil)) (pa_cons (pe_op o_addS (pv 6) pe_str) (pa_cons (pv 7) (pa_cons (pe_c C__law_oneT hr (pa_cons (pv 0) (pa_cons (pv 2) pa_nil))) pa_nil))))))))))))))))
      (pss_cons (ps_set (i := 10) sc__law_near_web.nd rfl (by first | exact Or.inl rfl | exact Or.inr rfl) (pe_op op_cat (pv 10) (pe_lst (pa_cons (pe_op o_addS (pe_op o_addS (pe_slice sl_str (pv 6) po_none (po_some (pv 9))) (pv 8)) (pe_slice sl_str (pv 6) (po_some (pe_op op_add (pv 9) pe_int)) po_none)) (pa_cons (pe_op o_addS (pe_op o_addS (pe_slice sl_str (pv 6) po_none (po_some (pv 9))) (pv 8)) (pe_slice sl_str (pv 6) (po_some (pv 9)) po_none)) (pa_cons (pe_op o_addS (pv 6) pe_str) pa_nil))))))
      (pss_cons (ps_set (i := 11) sc__law_near_web.nd rfl (by first | exact Or.inl rfl | exact Or.inr rfl) (pe_lst (pa_cons (pe_tup (pa_cons (pv 6) pa_nil)) (pa_cons (pe_tup (pa_cons (pv 6) (pa_cons (pv 7) (pa_cons (pv 6) pa_nil)))) (pa_cons (pe_lst (pa_cons (pv 6) (pa_cons (pv 7) pa_nil))) (pa_cons (pe_tup (pa_cons (pv 6) (pa_cons (pv 6) pa_nil))) (pa_cons (pe_tup (pa_cons (pv 6) (pa_cons pe_str pa_nil))) (pa_cons (pe_tup (pa_cons pe_str (pa_cons (pv 6) pa_nil))) (pa_cons (pe_tup (pa_cons (pv 6) (pa_cons pe_non pa_nil))) (pa_cons pe_non (pa_cons (pv 6) (pa_cons (pe_tup (pa_cons (pv 6) (pa_cons (pv 7) pa_nil))) (pa_cons (pe_tup (pa_cons (pv 7) (pa_cons (pv 6) pa_nil))) (pa_cons (pe_tup (pa_cons (pv 6) (pa_cons (pe_lst (pa_cons (pv 7) pa_nil)) pa_nil))) (pa_cons pe_int pa_nil)))))))))))))))
      (pss_cons (ps_set (i := 12) sc__law_near_web.nd rfl (by first | exact Or.inl rfl | exact Or.inr rfl) (pe_c C__law_draw hr (pa_cons (pv 0) (pa_cons pe_int pa_nil))))
      (pss_cons (ps_if (pt_cmpR op_eq (pv 12) pe_int (nomark _)) (pss_one (ps_ret (pe_c C__law_one hr (pa_cons (pv 0) (pa_cons (pe_lst (pa_cons (pv 1) (pa_cons (pe_callTy (k_list (K := K)) rfl B.list_ (by decide +kernel) (pa_cons (pv 1) pa_nil)) (pa_cons (pe_slice sl_tupA (pv 1) po_none (po_some pe_int)) (pa_cons (pe_op op_catA (pv 1) (pe_tup (pa_cons (pe_tup pa_nil) pa_nil))) (pa_cons (pe_tup (pa_cons (pe_callTy (k_list (K := K)) rfl B.list_ (by decide +kernel) (pa_cons (pv 2) pa_nil)) (pa_cons (pv 3) pa_nil))) (pa_cons (pe_tup (pa_cons (pv 2) (pa_cons (pe_callTy (k_list (K := K)) rfl B.list_ (by decide +kernel) (pa_cons (pv 3) pa_nil)) pa_nil))) (pa_cons (pe_tup (pa_cons (pe_tup pa_nil) (pa_cons (pe_tup pa_nil) pa_nil))) (pa_cons pe_non (pa_cons pe_str (pa_cons pe_int (pa_cons (pe_tup pa_nil) (pa_cons (pe_tup (pa_cons (pv 3) (pa_cons (pv 2) pa_nil))) (pa_cons pe_dnewK (pa_cons (pe_tup (pa_cons (pv 2) (pa_cons pe_non pa_nil))) (pa_cons (pe_tup (pa_cons pe_non (pa_cons (pv 3) pa_nil))) pa_nil)))))))))))))))) pa_nil))))) pss_nil)
      (pss_cons (ps_if (pt_cmpR op_lt (pv 12) pe_int (nomark _)) (pss_one (ps_ret (pe_tup (pa_cons (pe_op op_catA (pe_op op_catA (pe_slice sl_tupA (pv 2) po_none (po_some (pv 4))) (pe_tup (pa_cons (pe_c C__law_one hr (pa_cons (pv 0) (pa_cons (pv 10) pa_nil))) pa_nil))) (pe_slice sl_tupA (pv 2) (po_some (pe_op op_add (pv 4) pe_int)) po_none)) (pa_cons (pe_callTy (k_tuple (K := K)) rfl B.tuple_ (by decide +kernel) (pa_cons (pe_lc (own := [("_law_road", 13)]) rfl sc__law_near_web.nd (kpi_tup (K := K) (pv 3)) (blkOk_by (N := ["_law_feed_here", "_law_web_here", "_law_places", "_law_roads", "_law_at", "_law_spot", "_law_one_here", "_law_other", "_law_sign", "_law_cut", "_law_odd", "_law_ends", "_law_way", "_law_road", "_law_more"]) (sc := defScope s__law_near_web) (by decide +kernel)) (fun _ _ _ _ _ => (pg_name (i := 13) sc__law_near_web.nd rfl (by first | exact Or.inl rfl | exact Or.inr rfl))) (fun _ _ _ _ _ => pts_one (pt_cmpR (k_notInS (K := K)) (pv 6) (pv 13) (by rfl))) (fun _ _ _ _ _ => (pv 13))) pa_nil)) pa_nil))))) pss_nil)
      (pss_cons (ps_if (pt_cmpR op_eq (pv 12) pe_int (nomark _)) (pss_one (ps_ret (pe_tup (pa_cons (pe_op op_catA (pe_op op_catA (pe_slice sl_tupA (pv 2) po_none (po_some (pv 4))) (pe_tup (pa_cons (pe_c C__law_one hr (pa_cons (pv 0) (pa_cons (pe_op op_cat (pv 10) (pe_lst (pa_cons pe_str (pa_cons pe_str pa_nil)))) pa_nil))) pa_nil))) (pe_slice sl_tupA (pv 2) (po_some (pv 4)) po_none)) (pa_cons (pv 3) pa_nil))))) pss_nil)
      (pss_cons (ps_if (pt_cmpR op_eq (pv 12) pe_int (nomark _)) (pss_one (ps_ret (pe_tup (pa_cons (pe_op op_catA (pv 2) (pe_callTy (k_tuple (K := K)) rfl B.tuple_ (by decide +kernel) (pa_cons (pe_lc (own := [("_law_more", 14)]) rfl sc__law_near_web.nd (pi_range1 rfl B.range_ (pa_cons (pe_c C__law_draw hr (pa_cons (pv 0) (pa_cons pe_int pa_nil))) pa_nil)) (blkOk_by (N := ["_law_feed_here", "_law_web_here", "_law_places", "_law_roads", "_law_at", "_law_spot", "_law_one_here", "_law_other", "_law_sign", "_law_cut", "_law_odd", "_law_ends", "_law_way", "_law_road", "_law_more"]) (sc := defScope s__law_near_web) (by decide +kernel)) (fun _ _ _ _ _ => (pg_name (i := 14) sc__law_near_web.nd rfl (by first | exact Or.inl rfl | exact Or.inr rfl))) (fun _ _ _ _ _ => pts_nil) (fun _ _ _ _ _ => (pe_op o_addS pe_str (pe_callTy (j_str) rfl B.str_ (by decide +kernel) (pa_cons (pv 14) pa_nil))))) pa_nil))) (pa_cons (pv 3) pa_nil))))) pss_nil)
      (pss_cons (ps_if (PW.pt (pw_and (pt_cmpR op_eq (pv 12) pe_int (nomark _)) (pw_and1 (pt_cmpR (k_neD (K := K) hr.units) (pv 3) (pe_tup pa_nil) (nomark _))))) (pss_cons (ps_set (i := 13) sc__law_near_web.nd rfl (by first | exact Or.inl rfl | exact Or.inr rfl) (pe_c C__law_oneT hr (pa_cons (pv 0) (pa_cons (pv 3) pa_nil))))
      (pss_one (ps_ret (pe_tup (pa_cons (pv 2) (pa_cons (pe_op op_catA (pe_op op_catA (pe_slice sl_tupA (pv 3) po_none (po_some (pv 5))) (pe_tup (pa_cons (pe_c C__law_one hr (pa_cons (pv 0) (pa_cons (pe_lst (pa_cons (pv 13) (pa_cons (pe_revT (K := K) (pv 13)) (pa_cons (pe_callTy (k_list (K := K)) rfl B.list_ (by decide +kernel) (pa_cons (pv 13) pa_nil)) (pa_cons (pe_op op_catA (pv 13) (pe_tup (pa_cons (pv 6) pa_nil))) (pa_cons (pe_slice sl_tupA (pv 13) po_none (po_some pe_int)) pa_nil)))))) pa_nil))) pa_nil))) (pe_slice sl_tupA (pv 3) (po_some (pv 5)) po_none)) pa_nil)))))) pss_nil)
      (pss_one (ps_ret (pe_tup (pa_cons (pv 2) (pa_cons (pe_op op_catA (pe_op op_catA (pe_slice sl_tupA (pv 3) po_none (po_some (pv 5))) (pe_tup (pa_cons (pe_c C__law_one hr (pa_cons (pv 0) (pa_cons (pv 11) pa_nil))) pa_nil))) (pe_slice sl_tupA (pv 3) (po_some (pe_op op_add (pv 5) (pe_callTy (j_int) rfl B.int_ (by decide +kernel) (pa_cons (pe_cmpR op_eq (pv 12) pe_int (nomark _)) pa_nil)))) po_none)) pa_nil)))))))))))))))))), ?_⟩
    --@@
    repeat' (walk_at "jv")
    refine ⟨a, ((ps.map V.str).length : Nat), c, rfl, f1, by omega, by omega, by omega, fun jv Y1 jv0 jv1 f2 k2 => ?_⟩
    replace s1 := TK.ch k2 f1 _ _ s1
    replace s2 := TK.ch k2 f1 _ _ s2
    replace s3 := TK.ch k2 f1 _ _ s3
    replace d3 := DpAll.tk (TK.ch k2 f1) _ _ (roads_only _) d3
    replace kk := Ch.trans kk k2
    clear f1 k2
    have f1 := f2
    clear f2
    obtain ⟨j, rfl⟩ := Int.eq_ofNat_of_zero_le jv0
    have hj : j < ps.length := by omega
    repeat' (walk_at "jv")
    refine ⟨a, ((xs.length : Nat) : Int) + 1, c + 1, rfl, f1, by omega, by omega, by omega, fun sv Y2 sv0 sv1 f2 k2 => ?_⟩
    replace s1 := TK.ch k2 f1 _ _ s1
    replace s2 := TK.ch k2 f1 _ _ s2
    replace s3 := TK.ch k2 f1 _ _ s3
    replace d3 := DpAll.tk (TK.ch k2 f1) _ _ (roads_only _) d3
    replace kk := Ch.trans kk k2
    clear f1 k2
    have f1 := f2
    clear f2
    obtain ⟨sp, rfl⟩ := Int.eq_ofNat_of_zero_le sv0
    have hsp : sp ≤ rs.length := by omega
    repeat' (walk_at "jv")
    have hjv : j < (ps.map V.str).length := by omega
    have hpv := prv_lt hj
    have a1 : atI (ps.map V.str) ((j : Nat) : Int) = some (.str ps[j]) := atI_nat (by rw [List.getElem?_map, List.getElem?_eq_getElem hj]; rfl)
    have a2 : atI (ps.map V.str) (((j : Nat) : Int) - 1) = some (.str ps[prv ps.length j]) := by rw [at_prv hjv, hmp, List.getElem?_map, List.getElem?_eq_getElem hpv]; rfl
    have n1 := W.names.2 _ (List.getElem_mem hj)
    have n2 := W.names.2 _ (List.getElem_mem hpv)
    generalize ps[j] = z1 at *
    generalize ps[prv ps.length j] = z2 at *
    have z1s := nm_size n1
    have z1o := nmOk_str n1
    repeat' (walk_at "jv")
    intro TP nTP
    have dTP := f1.ne nTP
    have kTP := Same.upd_new (o := .tup ([.str z1, .str z2])) nTP
    have eTP : SqT K (upd Y2 TP (.tup ([.str z1, .str z2]))) TP ([.str z1, .str z2]) := sq_tup upd_same
    generalize upd Y2 TP (.tup ([.str z1, .str z2])) = X1 at *
    replace s1 := TK.same kTP _ _ s1
    replace s2 := TK.same kTP _ _ s2
    replace s3 := TK.same kTP _ _ s3
    replace d3 := DpAll.same kTP _ _ d3
    replace f1 := Fd.same f1 kTP
    replace kk := Ch.trans kk (Ch.of_same kTP)
    clear kTP nTP
    repeat' (walk_at "jv")
    intro SG nSG
    have dSG := f1.ne nSG
    have kSG := Same.upd_new (o := .lst ([.str "B", .str "_", .str ".", .str "-", .str " ", .str "Z", .str "0", .str "q"])) nSG
    have eSG : (upd X1 SG (.lst ([.str "B", .str "_", .str ".", .str "-", .str " ", .str "Z", .str "0", .str "q"]))) SG = some (.lst ([.str "B", .str "_", .str ".", .str "-", .str " ", .str "Z", .str "0", .str "q"])) := upd_same
    generalize upd X1 SG (.lst ([.str "B", .str "_", .str ".", .str "-", .str " ", .str "Z", .str "0", .str "q"])) = X2 at *
    replace s1 := TK.same kSG _ _ s1
    replace s2 := TK.same kSG _ _ s2
    replace s3 := TK.same kSG _ _ s3
    replace d3 := DpAll.same kSG _ _ d3
    replace f1 := Fd.same f1 kSG
    replace kk := Ch.trans kk (Ch.of_same kSG)
    clear kSG nSG
    repeat' (walk_at "jv")
    refine ⟨a, SG, _, _, rfl, f1, SqA.l (sq_lst eSG), dSG, by show 0 < 8; decide, by show 8 < 1000000; decide, by omega, fun sgv Y3 hsg f2 k2 => ?_⟩
    obtain ⟨sg, rfl, osg, lsg⟩ : ∃ z : Str, sgv = .str z ∧ PyData.strOk z = true ∧ z.cps.size ≤ 1 := by
      simp only [List.mem_cons, List.not_mem_nil, or_false] at hsg
      rcases hsg with rfl | rfl | rfl | rfl | rfl | rfl | rfl | rfl <;> exact ⟨_, rfl, by decide +kernel, by decide +kernel⟩
    replace s1 := TK.ch k2 f1 _ _ s1
    replace s2 := TK.ch k2 f1 _ _ s2
    replace s3 := TK.ch k2 f1 _ _ s3
    replace d3 := DpAll.tk (TK.ch k2 f1) _ _ (roads_only _) d3
    replace kk := Ch.trans kk k2
    clear f1 k2
    have f1 := f2
    clear f2
    repeat' (walk_at "jv")
    refine ⟨z1, rfl, by rw [sizeLine_eq]; show z1.cps.size ≤ _; omega, ?_⟩
    have hz1 : (z1.length : Int) = z1.cps.size := rfl
    repeat' (walk_at "jv")
    refine ⟨a, (z1.length : Int) + 1, c + 1 + 1 + 1, rfl, f1, by omega, by omega, by omega, fun cv Y4 cv0 cv1 f2 k2 => ?_⟩
    replace s1 := TK.ch k2 f1 _ _ s1
    replace s2 := TK.ch k2 f1 _ _ s2
    replace s3 := TK.ch k2 f1 _ _ s3
    replace d3 := DpAll.tk (TK.ch k2 f1) _ _ (roads_only _) d3
    replace kk := Ch.trans kk k2
    clear f1 k2
    have f1 := f2
    clear f2
    obtain ⟨ct, rfl⟩ := Int.eq_ofNat_of_zero_le cv0
    repeat' (walk_at "jv")
    intro TA nTA
    have dTA := f1.ne nTA
    have kTA := Same.upd_new (o := .tup ([.str "a"])) nTA
    have eTA : SqT K (upd Y4 TA (.tup ([.str "a"]))) TA ([.str "a"]) := sq_tup upd_same
    generalize upd Y4 TA (.tup ([.str "a"])) = X3 at *
    replace s1 := TK.same kTA _ _ s1
    replace s2 := TK.same kTA _ _ s2
    replace s3 := TK.same kTA _ _ s3
    replace d3 := DpAll.same kTA _ _ d3
    replace f1 := Fd.same f1 kTA
    replace kk := Ch.trans kk (Ch.of_same kTA)
    clear kTA nTA
    have gTA : NO K 1 100 X3 a (.ref TA) := (no_tup eTA (.one (no_str (by decide +kernel) (by decide +kernel))) (k := 1) (by decide)).mono
    repeat' (walk_at "jv")
    intro LA nLA
    have dLA := f1.ne nLA
    have kLA := Same.upd_new (o := .lst ([.str "a"])) nLA
    have eLA : (upd X3 LA (.lst ([.str "a"]))) LA = some (.lst ([.str "a"])) := upd_same
    generalize upd X3 LA (.lst ([.str "a"])) = X4 at *
    replace s1 := TK.same kLA _ _ s1
    replace s2 := TK.same kLA _ _ s2
    replace s3 := TK.same kLA _ _ s3
    replace d3 := DpAll.same kLA _ _ d3
    replace f1 := Fd.same f1 kLA
    replace kk := Ch.trans kk (Ch.of_same kLA)
    replace gTA := NO.same gTA kLA
    clear kLA nLA
    have gLA : NO K 1 100 X4 a (.ref LA) := (no_list eLA dLA (.one (no_str (by decide +kernel) (by decide +kernel))) (k := 1) (by decide)).mono
    repeat' (walk_at "jv")
    refine ⟨z1, _, rfl, rfl, by rw [sizeLine_eq]; show _ + 1 ≤ _; omega, ?_⟩
    repeat' (walk_at "jv")
    refine ⟨a, tp, c + 1 + 1 + 1 + 1, _, rfl, f1, s2, by omega, by omega, by omega, fun ov Y5 hov f2 k2 => ?_⟩
    obtain ⟨z3, hz3, rfl⟩ := List.mem_map.mp hov
    replace s1 := TK.ch k2 f1 _ _ s1
    replace s2 := TK.ch k2 f1 _ _ s2
    replace s3 := TK.ch k2 f1 _ _ s3
    replace d3 := DpAll.tk (TK.ch k2 f1) _ _ (roads_only _) d3
    replace kk := Ch.trans kk k2
    replace gTA := NO.ch gTA k2 f1
    replace gLA := NO.ch gLA k2 f1
    clear f1 k2
    have f1 := f2
    clear f2
    have n3 := W.names.2 _ hz3
    repeat' (walk_at "jv")
    intro OD nOD
    have dOD := f1.ne nOD
    have kOD := Same.upd_new (o := .lst ([.str "", .str "A", .str "9a", .str "abcdefghi", .str "abcdefgh", .str "z9", .non, .int 5, .bl true, .ref TA, .ref LA, .str (z1 ++ Str.ofString "0"), .str z2, .str z3])) nOD
    have eOD : (upd Y5 OD (.lst ([.str "", .str "A", .str "9a", .str "abcdefghi", .str "abcdefgh", .str "z9", .non, .int 5, .bl true, .ref TA, .ref LA, .str (z1 ++ Str.ofString "0"), .str z2, .str z3]))) OD = some (.lst ([.str "", .str "A", .str "9a", .str "abcdefghi", .str "abcdefgh", .str "z9", .non, .int 5, .bl true, .ref TA, .ref LA, .str (z1 ++ Str.ofString "0"), .str z2, .str z3])) := upd_same
    generalize upd Y5 OD (.lst ([.str "", .str "A", .str "9a", .str "abcdefghi", .str "abcdefgh", .str "z9", .non, .int 5, .bl true, .ref TA, .ref LA, .str (z1 ++ Str.ofString "0"), .str z2, .str z3])) = X5 at *
    replace s1 := TK.same kOD _ _ s1
    replace s2 := TK.same kOD _ _ s2
    replace s3 := TK.same kOD _ _ s3
    replace d3 := DpAll.same kOD _ _ d3
    replace f1 := Fd.same f1 kOD
    replace kk := Ch.trans kk (Ch.of_same kOD)
    replace gTA := NO.same gTA kOD
    replace gLA := NO.same gLA kOD
    clear kOD nOD
    have gOD : NOs K 1 100 X5 a [.str "", .str "A", .str "9a", .str "abcdefghi", .str "abcdefgh", .str "z9", .non, .int 5, .bl true, .ref TA, .ref LA, .str (z1 ++ Str.ofString "0"), .str z2, .str z3] := .cons (no_str (by decide +kernel) (by decide +kernel)).mono <| .cons (no_str (by decide +kernel) (by decide +kernel)).mono <| .cons (no_str (by decide +kernel) (by decide +kernel)).mono <| .cons (no_str (by decide +kernel) (by decide +kernel)).mono <| .cons (no_str (by decide +kernel) (by decide +kernel)).mono <| .cons (no_str (by decide +kernel) (by decide +kernel)).mono <| .cons no_none.mono <| .cons (no_int (by decide) (by decide)).mono <| .cons (no_bool true).mono <| .cons gTA <| .cons gLA <| .cons (no_str (strOk_add z1o (by decide +kernel)) (by rw [size_add]; show _ + 1 ≤ 20; omega)).mono <| .cons (no_name n2).mono <| .cons (no_name n3).mono .nil
    repeat' (walk_at "jv")
    have hz1l : z1.length ≤ sizeLine := by rw [sizeLine_eq]; show z1.cps.size ≤ _; omega
    refine ⟨z1, rfl, hz1l, ?_⟩
    obtain ⟨oq1, lq1⟩ := cut_ok z1o none (some ((ct : Nat) : Int))
    generalize cutS z1 none (some ((ct : Nat) : Int)) = q1 at *
    repeat' (walk_at "jv")
    refine ⟨q1, sg, rfl, rfl, by rw [sizeLine_eq]; show q1.cps.size + sg.cps.size ≤ _; omega, ?_⟩
    obtain ⟨os1, ls1⟩ : PyData.strOk (q1 ++ sg) = true ∧ (q1 ++ sg).cps.size ≤ 9 := ⟨strOk_add oq1 osg, by rw [size_add]; omega⟩
    generalize q1 ++ sg = t1 at *
    repeat' (walk_at "jv")
    refine ⟨z1, rfl, hz1l, ?_⟩
    obtain ⟨oq2, lq2⟩ := cut_ok z1o (some (((ct : Nat) : Int) + 1)) none
    generalize cutS z1 (some (((ct : Nat) : Int) + 1)) none = q2 at *
    repeat' (walk_at "jv")
    refine ⟨t1, q2, rfl, rfl, by rw [sizeLine_eq]; show t1.cps.size + q2.cps.size ≤ _; omega, ?_⟩
    obtain ⟨os2, ls2⟩ : PyData.strOk (t1 ++ q2) = true ∧ (t1 ++ q2).cps.size ≤ 17 := ⟨strOk_add os1 oq2, by rw [size_add]; omega⟩
    generalize t1 ++ q2 = t2 at *
    repeat' (walk_at "jv")
    refine ⟨z1, rfl, hz1l, ?_⟩
    obtain ⟨oq3, lq3⟩ := cut_ok z1o none (some ((ct : Nat) : Int))
    generalize cutS z1 none (some ((ct : Nat) : Int)) = q3 at *
    repeat' (walk_at "jv")
    refine ⟨q3, sg, rfl, rfl, by rw [sizeLine_eq]; show q3.cps.size + sg.cps.size ≤ _; omega, ?_⟩
    obtain ⟨os3, ls3⟩ : PyData.strOk (q3 ++ sg) = true ∧ (q3 ++ sg).cps.size ≤ 9 := ⟨strOk_add oq3 osg, by rw [size_add]; omega⟩
    generalize q3 ++ sg = t3 at *
    repeat' (walk_at "jv")
    refine ⟨z1, rfl, hz1l, ?_⟩
    obtain ⟨oq4, lq4⟩ := cut_ok z1o (some ((ct : Nat) : Int)) none
    generalize cutS z1 (some ((ct : Nat) : Int)) none = q4 at *
    repeat' (walk_at "jv")
    refine ⟨t3, q4, rfl, rfl, by rw [sizeLine_eq]; show t3.cps.size + q4.cps.size ≤ _; omega, ?_⟩
    obtain ⟨os4, ls4⟩ : PyData.strOk (t3 ++ q4) = true ∧ (t3 ++ q4).cps.size ≤ 17 := ⟨strOk_add os3 oq4, by rw [size_add]; omega⟩
    generalize t3 ++ q4 = t4 at *
    repeat' (walk_at "jv")
    refine ⟨z1, _, rfl, rfl, by rw [sizeLine_eq]; show _ + 1 ≤ _; omega, ?_⟩
    obtain ⟨os5, ls5⟩ : PyData.strOk (z1 ++ Str.ofString "B") = true ∧ (z1 ++ Str.ofString "B").cps.size ≤ 9 := ⟨strOk_add z1o (by decide +kernel), by rw [size_add]; show _ + 1 ≤ 9; omega⟩
    generalize z1 ++ Str.ofString "B" = t5 at *
    repeat' (walk_at "jv")
    intro OE nOE
    have dOE := f1.ne nOE
    have kOE := Same.upd_new (o := .lst ([.str t2, .str t4, .str t5])) nOE
    have eOE : (upd X5 OE (.lst ([.str t2, .str t4, .str t5]))) OE = some (.lst ([.str t2, .str t4, .str t5])) := upd_same
    generalize upd X5 OE (.lst ([.str t2, .str t4, .str t5])) = X6 at *
    replace s1 := TK.same kOE _ _ s1
    replace s2 := TK.same kOE _ _ s2
    replace s3 := TK.same kOE _ _ s3
    replace d3 := DpAll.same kOE _ _ d3
    replace f1 := Fd.same f1 kOE
    replace kk := Ch.trans kk (Ch.of_same kOE)
    replace eOD := kOE _ _ eOD
    replace gOD := NOs.same gOD kOE
    clear kOE nOE
    repeat' (walk_at "jv")
    refine i_catL eOD eOE (by rw [sizeLine_eq]; show 14 + 3 ≤ _; omega) fun OF nOF => ?_
    have dOF := f1.ne nOF
    have kOF := Same.upd_new (o := .lst (([.str "", .str "A", .str "9a", .str "abcdefghi", .str "abcdefgh", .str "z9", .non, .int 5, .bl true, .ref TA, .ref LA, .str (z1 ++ Str.ofString "0"), .str z2, .str z3] ++ [.str t2, .str t4, .str t5] : List V))) nOF
    have eOF : (upd X6 OF (.lst (([.str "", .str "A", .str "9a", .str "abcdefghi", .str "abcdefgh", .str "z9", .non, .int 5, .bl true, .ref TA, .ref LA, .str (z1 ++ Str.ofString "0"), .str z2, .str z3] ++ [.str t2, .str t4, .str t5] : List V)))) OF = some (.lst (([.str "", .str "A", .str "9a", .str "abcdefghi", .str "abcdefgh", .str "z9", .non, .int 5, .bl true, .ref TA, .ref LA, .str (z1 ++ Str.ofString "0"), .str z2, .str z3] ++ [.str t2, .str t4, .str t5] : List V))) := upd_same
    generalize upd X6 OF (.lst (([.str "", .str "A", .str "9a", .str "abcdefghi", .str "abcdefgh", .str "z9", .non, .int 5, .bl true, .ref TA, .ref LA, .str (z1 ++ Str.ofString "0"), .str z2, .str z3] ++ [.str t2, .str t4, .str t5] : List V))) = X7 at *
    replace s1 := TK.same kOF _ _ s1
    replace s2 := TK.same kOF _ _ s2
    replace s3 := TK.same kOF _ _ s3
    replace d3 := DpAll.same kOF _ _ d3
    replace f1 := Fd.same f1 kOF
    replace kk := Ch.trans kk (Ch.of_same kOF)
    replace gOD := NOs.same gOD kOF
    clear kOF nOF
    have gOF : NOs K 1 100 X7 a ([.str "", .str "A", .str "9a", .str "abcdefghi", .str "abcdefgh", .str "z9", .non, .int 5, .bl true, .ref TA, .ref LA, .str (z1 ++ Str.ofString "0"), .str z2, .str z3] ++ [.str t2, .str t4, .str t5] : List V) := gOD.app (.cons (no_str os2 (by omega)).mono <| .cons (no_str os4 (by omega)).mono <| .cons (no_str os5 (by omega)).mono .nil)
    have lOF : ([.str "", .str "A", .str "9a", .str "abcdefghi", .str "abcdefgh", .str "z9", .non, .int 5, .bl true, .ref TA, .ref LA, .str (z1 ++ Str.ofString "0"), .str z2, .str z3] ++ [.str t2, .str t4, .str t5] : List V).length = 17 := rfl
    generalize ([.str "", .str "A", .str "9a", .str "abcdefghi", .str "abcdefgh", .str "z9", .non, .int 5, .bl true, .ref TA, .ref LA, .str (z1 ++ Str.ofString "0"), .str z2, .str z3] ++ [.str t2, .str t4, .str t5] : List V) = od at *
    clear gOD
    repeat' (walk_at "jv")
    intro E1 nE1
    have dE1 := f1.ne nE1
    have kE1 := Same.upd_new (o := .tup ([.str z1])) nE1
    have eE1 : SqT K (upd X7 E1 (.tup ([.str z1]))) E1 ([.str z1]) := sq_tup upd_same
    generalize upd X7 E1 (.tup ([.str z1])) = X8 at *
    replace s1 := TK.same kE1 _ _ s1
    replace s2 := TK.same kE1 _ _ s2
    replace s3 := TK.same kE1 _ _ s3
    replace d3 := DpAll.same kE1 _ _ d3
    replace f1 := Fd.same f1 kE1
    replace kk := Ch.trans kk (Ch.of_same kE1)
    replace gOF := NOs.same gOF kE1
    replace eOF := kE1 _ _ eOF
    clear kE1 nE1
    have gE1 : NO K 2 400 X8 a (.ref E1) := (no_tup (m := 1) (n := 100) eE1 (.cons ((no_name n1).mono) <| .nil) (k := 3) (by show 1 ≤ 3; decide)).mono
    repeat' (walk_at "jv")
    intro E2 nE2
    have dE2 := f1.ne nE2
    have kE2 := Same.upd_new (o := .tup ([.str z1, .str z2, .str z1])) nE2
    have eE2 : SqT K (upd X8 E2 (.tup ([.str z1, .str z2, .str z1]))) E2 ([.str z1, .str z2, .str z1]) := sq_tup upd_same
    generalize upd X8 E2 (.tup ([.str z1, .str z2, .str z1])) = X9 at *
    replace s1 := TK.same kE2 _ _ s1
    replace s2 := TK.same kE2 _ _ s2
    replace s3 := TK.same kE2 _ _ s3
    replace d3 := DpAll.same kE2 _ _ d3
    replace f1 := Fd.same f1 kE2
    replace kk := Ch.trans kk (Ch.of_same kE2)
    replace gOF := NOs.same gOF kE2
    replace eOF := kE2 _ _ eOF
    replace gE1 := NO.same gE1 kE2
    clear kE2 nE2
    have gE2 : NO K 2 400 X9 a (.ref E2) := (no_tup (m := 1) (n := 100) eE2 (.cons ((no_name n1).mono) <| .cons ((no_name n2).mono) <| .cons ((no_name n1).mono) <| .nil) (k := 3) (by show 3 ≤ 3; decide)).mono
    repeat' (walk_at "jv")
    intro LM nLM
    have dLM := f1.ne nLM
    have kLM := Same.upd_new (o := .lst ([.str z1, .str z2])) nLM
    have eLM : (upd X9 LM (.lst ([.str z1, .str z2]))) LM = some (.lst ([.str z1, .str z2])) := upd_same
    generalize upd X9 LM (.lst ([.str z1, .str z2])) = X10 at *
    replace s1 := TK.same kLM _ _ s1
    replace s2 := TK.same kLM _ _ s2
    replace s3 := TK.same kLM _ _ s3
    replace d3 := DpAll.same kLM _ _ d3
    replace f1 := Fd.same f1 kLM
    replace kk := Ch.trans kk (Ch.of_same kLM)
    replace gOF := NOs.same gOF kLM
    replace eOF := kLM _ _ eOF
    replace gE1 := NO.same gE1 kLM
    replace gE2 := NO.same gE2 kLM
    clear kLM nLM
    have gLM : NO K 2 400 X10 a (.ref LM) := (no_list (m := 1) (n := 100) eLM dLM (.cons (no_name n1).mono <| .cons (no_name n2).mono .nil) (k := 3) (by show 2 ≤ 3; decide)).mono
    repeat' (walk_at "jv")
    intro E3 nE3
    have dE3 := f1.ne nE3
    have kE3 := Same.upd_new (o := .tup ([.str z1, .str z1])) nE3
    have eE3 : SqT K (upd X10 E3 (.tup ([.str z1, .str z1]))) E3 ([.str z1, .str z1]) := sq_tup upd_same
    generalize upd X10 E3 (.tup ([.str z1, .str z1])) = X11 at *
    replace s1 := TK.same kE3 _ _ s1
    replace s2 := TK.same kE3 _ _ s2
    replace s3 := TK.same kE3 _ _ s3
    replace d3 := DpAll.same kE3 _ _ d3
    replace f1 := Fd.same f1 kE3
    replace kk := Ch.trans kk (Ch.of_same kE3)
    replace gOF := NOs.same gOF kE3
    replace eOF := kE3 _ _ eOF
    replace gE1 := NO.same gE1 kE3
    replace gE2 := NO.same gE2 kE3
    replace gLM := NO.same gLM kE3
    clear kE3 nE3
    have gE3 : NO K 2 400 X11 a (.ref E3) := (no_tup (m := 1) (n := 100) eE3 (.cons ((no_name n1).mono) <| .cons ((no_name n1).mono) <| .nil) (k := 3) (by show 2 ≤ 3; decide)).mono
    repeat' (walk_at "jv")
    intro E4 nE4
    have dE4 := f1.ne nE4
    have kE4 := Same.upd_new (o := .tup ([.str z1, .str "nowhere9"])) nE4
    have eE4 : SqT K (upd X11 E4 (.tup ([.str z1, .str "nowhere9"]))) E4 ([.str z1, .str "nowhere9"]) := sq_tup upd_same
    generalize upd X11 E4 (.tup ([.str z1, .str "nowhere9"])) = X12 at *
    replace s1 := TK.same kE4 _ _ s1
    replace s2 := TK.same kE4 _ _ s2
    replace s3 := TK.same kE4 _ _ s3
    replace d3 := DpAll.same kE4 _ _ d3
    replace f1 := Fd.same f1 kE4
    replace kk := Ch.trans kk (Ch.of_same kE4)
    replace gOF := NOs.same gOF kE4
    replace eOF := kE4 _ _ eOF
    replace gE1 := NO.same gE1 kE4
    replace gE2 := NO.same gE2 kE4
    replace gLM := NO.same gLM kE4
    replace gE3 := NO.same gE3 kE4
    clear kE4 nE4
    have gE4 : NO K 2 400 X12 a (.ref E4) := (no_tup (m := 1) (n := 100) eE4 (.cons ((no_name n1).mono) <| .cons ((no_str (by decide +kernel) (by decide +kernel)).mono) <| .nil) (k := 3) (by show 2 ≤ 3; decide)).mono
    repeat' (walk_at "jv")
    intro E5 nE5
    have dE5 := f1.ne nE5
    have kE5 := Same.upd_new (o := .tup ([.str "nowhere9", .str z1])) nE5
    have eE5 : SqT K (upd X12 E5 (.tup ([.str "nowhere9", .str z1]))) E5 ([.str "nowhere9", .str z1]) := sq_tup upd_same
    generalize upd X12 E5 (.tup ([.str "nowhere9", .str z1])) = X13 at *
    replace s1 := TK.same kE5 _ _ s1
    replace s2 := TK.same kE5 _ _ s2
    replace s3 := TK.same kE5 _ _ s3
    replace d3 := DpAll.same kE5 _ _ d3
    replace f1 := Fd.same f1 kE5
    replace kk := Ch.trans kk (Ch.of_same kE5)
    replace gOF := NOs.same gOF kE5
    replace eOF := kE5 _ _ eOF
    replace gE1 := NO.same gE1 kE5
    replace gE2 := NO.same gE2 kE5
    replace gLM := NO.same gLM kE5
    replace gE3 := NO.same gE3 kE5
    replace gE4 := NO.same gE4 kE5
    clear kE5 nE5
    have gE5 : NO K 2 400 X13 a (.ref E5) := (no_tup (m := 1) (n := 100) eE5 (.cons ((no_str (by decide +kernel) (by decide +kernel)).mono) <| .cons ((no_name n1).mono) <| .nil) (k := 3) (by show 2 ≤ 3; decide)).mono
    repeat' (walk_at "jv")
    intro E6 nE6
    have dE6 := f1.ne nE6
    have kE6 := Same.upd_new (o := .tup ([.str z1, .non])) nE6
    have eE6 : SqT K (upd X13 E6 (.tup ([.str z1, .non]))) E6 ([.str z1, .non]) := sq_tup upd_same
    generalize upd X13 E6 (.tup ([.str z1, .non])) = X14 at *
    replace s1 := TK.same kE6 _ _ s1
    replace s2 := TK.same kE6 _ _ s2
    replace s3 := TK.same kE6 _ _ s3
    replace d3 := DpAll.same kE6 _ _ d3
    replace f1 := Fd.same f1 kE6
    replace kk := Ch.trans kk (Ch.of_same kE6)
    replace gOF := NOs.same gOF kE6
    replace eOF := kE6 _ _ eOF
    replace gE1 := NO.same gE1 kE6
    replace gE2 := NO.same gE2 kE6
    replace gLM := NO.same gLM kE6
    replace gE3 := NO.same gE3 kE6
    replace gE4 := NO.same gE4 kE6
    replace gE5 := NO.same gE5 kE6
    clear kE6 nE6
    have gE6 : NO K 2 400 X14 a (.ref E6) := (no_tup (m := 1) (n := 100) eE6 (.cons ((no_name n1).mono) <| .cons (no_none.mono) <| .nil) (k := 3) (by show 2 ≤ 3; decide)).mono
    repeat' (walk_at "jv")
    intro E7 nE7
    have dE7 := f1.ne nE7
    have kE7 := Same.upd_new (o := .tup ([.str z1, .str z2])) nE7
    have eE7 : SqT K (upd X14 E7 (.tup ([.str z1, .str z2]))) E7 ([.str z1, .str z2]) := sq_tup upd_same
    generalize upd X14 E7 (.tup ([.str z1, .str z2])) = X15 at *
    replace s1 := TK.same kE7 _ _ s1
    replace s2 := TK.same kE7 _ _ s2
    replace s3 := TK.same kE7 _ _ s3
    replace d3 := DpAll.same kE7 _ _ d3
    replace f1 := Fd.same f1 kE7
    replace kk := Ch.trans kk (Ch.of_same kE7)
    replace gOF := NOs.same gOF kE7
    replace eOF := kE7 _ _ eOF
    replace gE1 := NO.same gE1 kE7
    replace gE2 := NO.same gE2 kE7
    replace gLM := NO.same gLM kE7
    replace gE3 := NO.same gE3 kE7
    replace gE4 := NO.same gE4 kE7
    replace gE5 := NO.same gE5 kE7
    replace gE6 := NO.same gE6 kE7
    clear kE7 nE7
    have gE7 : NO K 2 400 X15 a (.ref E7) := (no_tup (m := 1) (n := 100) eE7 (.cons ((no_name n1).mono) <| .cons ((no_name n2).mono) <| .nil) (k := 3) (by show 2 ≤ 3; decide)).mono
    repeat' (walk_at "jv")
    intro E8 nE8
    have dE8 := f1.ne nE8
    have kE8 := Same.upd_new (o := .tup ([.str z2, .str z1])) nE8
    have eE8 : SqT K (upd X15 E8 (.tup ([.str z2, .str z1]))) E8 ([.str z2, .str z1]) := sq_tup upd_same
    generalize upd X15 E8 (.tup ([.str z2, .str z1])) = X16 at *
    replace s1 := TK.same kE8 _ _ s1
    replace s2 := TK.same kE8 _ _ s2
    replace s3 := TK.same kE8 _ _ s3
    replace d3 := DpAll.same kE8 _ _ d3
    replace f1 := Fd.same f1 kE8
    replace kk := Ch.trans kk (Ch.of_same kE8)
    replace gOF := NOs.same gOF kE8
    replace eOF := kE8 _ _ eOF
    replace gE1 := NO.same gE1 kE8
    replace gE2 := NO.same gE2 kE8
    replace gLM := NO.same gLM kE8
    replace gE3 := NO.same gE3 kE8
    replace gE4 := NO.same gE4 kE8
    replace gE5 := NO.same gE5 kE8
    replace gE6 := NO.same gE6 kE8
    replace gE7 := NO.same gE7 kE8
    clear kE8 nE8
    have gE8 : NO K 2 400 X16 a (.ref E8) := (no_tup (m := 1) (n := 100) eE8 (.cons ((no_name n2).mono) <| .cons ((no_name n1).mono) <| .nil) (k := 3) (by show 2 ≤ 3; decide)).mono
    repeat' (walk_at "jv")
    intro LN nLN
    have dLN := f1.ne nLN
    have kLN := Same.upd_new (o := .lst ([.str z2])) nLN
    have eLN : (upd X16 LN (.lst ([.str z2]))) LN = some (.lst ([.str z2])) := upd_same
    generalize upd X16 LN (.lst ([.str z2])) = X17 at *
    replace s1 := TK.same kLN _ _ s1
    replace s2 := TK.same kLN _ _ s2
    replace s3 := TK.same kLN _ _ s3
    replace d3 := DpAll.same kLN _ _ d3
    replace f1 := Fd.same f1 kLN
    replace kk := Ch.trans kk (Ch.of_same kLN)
    replace gOF := NOs.same gOF kLN
    replace eOF := kLN _ _ eOF
    replace gE1 := NO.same gE1 kLN
    replace gE2 := NO.same gE2 kLN
    replace gLM := NO.same gLM kLN
    replace gE3 := NO.same gE3 kLN
    replace gE4 := NO.same gE4 kLN
    replace gE5 := NO.same gE5 kLN
    replace gE6 := NO.same gE6 kLN
    replace gE7 := NO.same gE7 kLN
    replace gE8 := NO.same gE8 kLN
    clear kLN nLN
    have gLN : NO K 1 100 X17 a (.ref LN) := (no_list eLN dLN (.one (no_name n2)) (k := 1) (by show 1 ≤ 1; decide)).mono
    repeat' (walk_at "jv")
    intro E9 nE9
    have dE9 := f1.ne nE9
    have kE9 := Same.upd_new (o := .tup ([.str z1, .ref LN])) nE9
    have eE9 : SqT K (upd X17 E9 (.tup ([.str z1, .ref LN]))) E9 ([.str z1, .ref LN]) := sq_tup upd_same
    generalize upd X17 E9 (.tup ([.str z1, .ref LN])) = X18 at *
    replace s1 := TK.same kE9 _ _ s1
    replace s2 := TK.same kE9 _ _ s2
    replace s3 := TK.same kE9 _ _ s3
    replace d3 := DpAll.same kE9 _ _ d3
    replace f1 := Fd.same f1 kE9
    replace kk := Ch.trans kk (Ch.of_same kE9)
    replace gOF := NOs.same gOF kE9
    replace eOF := kE9 _ _ eOF
    replace gE1 := NO.same gE1 kE9
    replace gE2 := NO.same gE2 kE9
    replace gLM := NO.same gLM kE9
    replace gE3 := NO.same gE3 kE9
    replace gE4 := NO.same gE4 kE9
    replace gE5 := NO.same gE5 kE9
    replace gE6 := NO.same gE6 kE9
    replace gE7 := NO.same gE7 kE9
    replace gE8 := NO.same gE8 kE9
    replace gLN := NO.same gLN kE9
    clear kE9 nE9
    have gE9 : NO K 2 400 X18 a (.ref E9) := (no_tup (m := 1) (n := 100) eE9 (.cons ((no_name n1).mono) <| .cons (gLN) <| .nil) (k := 3) (by show 2 ≤ 3; decide)).mono
    repeat' (walk_at "jv")
    intro EN nEN
    have dEN := f1.ne nEN
    have kEN := Same.upd_new (o := .lst ([.ref E1, .ref E2, .ref LM, .ref E3, .ref E4, .ref E5, .ref E6, .non, .str z1, .ref E7, .ref E8, .ref E9, .int 0])) nEN
    have eEN : (upd X18 EN (.lst ([.ref E1, .ref E2, .ref LM, .ref E3, .ref E4, .ref E5, .ref E6, .non, .str z1, .ref E7, .ref E8, .ref E9, .int 0]))) EN = some (.lst ([.ref E1, .ref E2, .ref LM, .ref E3, .ref E4, .ref E5, .ref E6, .non, .str z1, .ref E7, .ref E8, .ref E9, .int 0])) := upd_same
    generalize upd X18 EN (.lst ([.ref E1, .ref E2, .ref LM, .ref E3, .ref E4, .ref E5, .ref E6, .non, .str z1, .ref E7, .ref E8, .ref E9, .int 0])) = X19 at *
    replace s1 := TK.same kEN _ _ s1
    replace s2 := TK.same kEN _ _ s2
    replace s3 := TK.same kEN _ _ s3
    replace d3 := DpAll.same kEN _ _ d3
    replace f1 := Fd.same f1 kEN
    replace kk := Ch.trans kk (Ch.of_same kEN)
    replace gOF := NOs.same gOF kEN
    replace eOF := kEN _ _ eOF
    replace gE1 := NO.same gE1 kEN
    replace gE2 := NO.same gE2 kEN
    replace gLM := NO.same gLM kEN
    replace gE3 := NO.same gE3 kEN
    replace gE4 := NO.same gE4 kEN
    replace gE5 := NO.same gE5 kEN
    replace gE6 := NO.same gE6 kEN
    replace gE7 := NO.same gE7 kEN
    replace gE8 := NO.same gE8 kEN
    replace gLN := NO.same gLN kEN
    replace gE9 := NO.same gE9 kEN
    clear kEN nEN
    have gEN : NOs K 2 400 X19 a [.ref E1, .ref E2, .ref LM, .ref E3, .ref E4, .ref E5, .ref E6, .non, .str z1, .ref E7, .ref E8, .ref E9, .int 0] := .cons gE1 <| .cons gE2 <| .cons gLM <| .cons gE3 <| .cons gE4 <| .cons gE5 <| .cons gE6 <| .cons no_none.mono <| .cons (no_name n1).mono <| .cons gE7 <| .cons gE8 <| .cons gE9 <| .cons (no_int (by decide) (by decide)).mono .nil
    clear gE1
    clear gE2
    clear gE3
    clear gE4
    clear gE5
    clear gE6
    clear gE7
    clear gE8
    clear gE9
    clear gLM
    clear gLN
    have lEN : ([.ref E1, .ref E2, .ref LM, .ref E3, .ref E4, .ref E5, .ref E6, .non, .str z1, .ref E7, .ref E8, .ref E9, .int 0] : List V).length = 13 := rfl
    generalize ([.ref E1, .ref E2, .ref LM, .ref E3, .ref E4, .ref E5, .ref E6, .non, .str z1, .ref E7, .ref E8, .ref E9, .int 0] : List V) = en at *
    repeat' (walk_at "jv")
    refine ⟨a, 8, c + 1 + 1 + 1 + 1 + 1, rfl, f1, by omega, by omega, by omega, fun wy Y6 wy0 wy1 f2 k2 => ?_⟩
    replace s1 := TK.ch k2 f1 _ _ s1
    replace s2 := TK.ch k2 f1 _ _ s2
    replace s3 := TK.ch k2 f1 _ _ s3
    replace d3 := DpAll.tk (TK.ch k2 f1) _ _ (roads_only _) d3
    replace kk := Ch.trans kk k2
    replace gOF := NOs.ch gOF k2 f1
    replace gEN := NOs.ch gEN k2 f1
    replace eOF := k2 _ _ dOF eOF
    replace eEN := k2 _ _ dEN eEN
    clear f1 k2
    have f1 := f2
    clear f2
    iterate 2 (first | (refine at_state (τ := [some (.ref a), some (.ref wt), some (.ref tp), some (.ref tr), some (.int (j : Nat)), some (.int (sp : Nat)), some (.str z1), some (.str z2), some (.str sg), some (.int (ct : Nat)), some (.ref OF), some (.ref EN), some (.int wy), none, none]) rfl ?_) | walk_at "jv")
    clear eLN eLM eE1 eE2 eE3 eE4 eE5 eE6 eE7 eE8 eE9 eTA eLA eTP eSG eOE a1 a2 hpv hjv n3 oq1 oq2 oq3 oq4 lq1 lq2 lq3 lq4 os1 os2 os3 os4 os5 ls1 ls2 ls3 ls4 ls5 osg lsg jv0 jv1 sv0 sv1 cv0 cv1 dTP dSG dTA dLA dOD dOE dLM dLN dE1 dE2 dE3 dE4 dE5 dE6 dE7 dE8 dE9
    have gr : NOs K 2 400 Y6 a xs := (no_roads d3 nmr).mono
    have gp : NOs K 2 400 Y6 a (ps.map V.str) := (no_names W.names.2).mono
    have gP : NO K 3 6416 Y6 a (.ref tp) := no_tup s2 gp (k := 16) (by omega)
    have gR : NO K 3 6416 Y6 a (.ref tr) := no_tup s3 gr (k := 16) (by omega)
    clear hsg hov hz3
    repeat' (walk_at "jv")
    · skip
      intro B1 nB1
      have dB1 := f1.ne nB1
      have kB1 := Same.upd_new (o := .lst ([.ref tp, .ref tr])) nB1
      have eB1 : (upd Y6 B1 (.lst ([.ref tp, .ref tr]))) B1 = some (.lst ([.ref tp, .ref tr])) := upd_same
      generalize upd Y6 B1 (.lst ([.ref tp, .ref tr])) = X20 at *
      replace s1 := TK.same kB1 _ _ s1
      replace s2 := TK.same kB1 _ _ s2
      replace s3 := TK.same kB1 _ _ s3
      replace d3 := DpAll.same kB1 _ _ d3
      replace f1 := Fd.same f1 kB1
      replace kk := Ch.trans kk (Ch.of_same kB1)
      replace gOF := NOs.same gOF kB1
      replace eOF := kB1 _ _ eOF
      replace gEN := NOs.same gEN kB1
      replace eEN := kB1 _ _ eEN
      replace gr := NOs.same gr kB1
      replace gp := NOs.same gp kB1
      replace gP := NO.same gP kB1
      replace gR := NO.same gR kB1
      clear kB1 nB1
      have gB1 : NO K 4 19251 X20 a (.ref B1) := no_list (m := 3) (n := 6416) eB1 dB1 (.cons gP <| .cons gR .nil) (k := 3) (by show 2 ≤ 3; decide)
      repeat' (walk_at "jv")
      refine i_slG s1 fun B2 X21 kB2 sB2 => ?_
      rw [show (1 : Int) = ((1 : Nat) : Int) from rfl, cut_take] at sB2
      replace sB2 : SqT K X21 B2 [.ref tp] := sB2
      replace s1 := TK.same kB2 _ _ s1
      replace s2 := TK.same kB2 _ _ s2
      replace s3 := TK.same kB2 _ _ s3
      replace d3 := DpAll.same kB2 _ _ d3
      replace f1 := Fd.same f1 kB2
      replace kk := Ch.trans kk (Ch.of_same kB2)
      replace gOF := NOs.same gOF kB2
      replace eOF := kB2 _ _ eOF
      replace gEN := NOs.same gEN kB2
      replace eEN := kB2 _ _ eEN
      replace gr := NOs.same gr kB2
      replace gp := NOs.same gp kB2
      replace gP := NO.same gP kB2
      replace gR := NO.same gR kB2
      replace gB1 := NO.same gB1 kB2
      clear kB2
      have gB2 : NO K 4 19251 X21 a (.ref B2) := no_tup (m := 3) (n := 6416) sB2 (.one gP) (k := 3) (by show 1 ≤ 3; decide)
      repeat' (walk_at "jv")
      intro B3 nB3
      have dB3 := f1.ne nB3
      have kB3 := Same.upd_new (o := .tup ([])) nB3
      have eB3 : SqT K (upd X21 B3 (.tup ([]))) B3 ([]) := sq_tup upd_same
      generalize upd X21 B3 (.tup ([])) = X22 at *
      replace s1 := TK.same kB3 _ _ s1
      replace s2 := TK.same kB3 _ _ s2
      replace s3 := TK.same kB3 _ _ s3
      replace d3 := DpAll.same kB3 _ _ d3
      replace f1 := Fd.same f1 kB3
      replace kk := Ch.trans kk (Ch.of_same kB3)
      replace gOF := NOs.same gOF kB3
      replace eOF := kB3 _ _ eOF
      replace gEN := NOs.same gEN kB3
      replace eEN := kB3 _ _ eEN
      replace gr := NOs.same gr kB3
      replace gp := NOs.same gp kB3
      replace gP := NO.same gP kB3
      replace gR := NO.same gR kB3
      replace gB1 := NO.same gB1 kB3
      replace gB2 := NO.same gB2 kB3
      clear kB3 nB3
      have gB3 : NO K 3 6416 X22 a (.ref B3) := no_tup (m := 2) (n := 400) eB3 .nil (k := 16) (by show 0 ≤ 16; decide)
      repeat' (walk_at "jv")
      intro B4 nB4
      have dB4 := f1.ne nB4
      have kB4 := Same.upd_new (o := .tup ([.ref B3])) nB4
      have eB4 : SqT K (upd X22 B4 (.tup ([.ref B3]))) B4 ([.ref B3]) := sq_tup upd_same
      generalize upd X22 B4 (.tup ([.ref B3])) = X23 at *
      replace s1 := TK.same kB4 _ _ s1
      replace s2 := TK.same kB4 _ _ s2
      replace s3 := TK.same kB4 _ _ s3
      replace d3 := DpAll.same kB4 _ _ d3
      replace f1 := Fd.same f1 kB4
      replace kk := Ch.trans kk (Ch.of_same kB4)
      replace gOF := NOs.same gOF kB4
      replace eOF := kB4 _ _ eOF
      replace gEN := NOs.same gEN kB4
      replace eEN := kB4 _ _ eEN
      replace gr := NOs.same gr kB4
      replace gp := NOs.same gp kB4
      replace gP := NO.same gP kB4
      replace gR := NO.same gR kB4
      replace gB1 := NO.same gB1 kB4
      replace gB2 := NO.same gB2 kB4
      replace gB3 := NO.same gB3 kB4
      clear kB4 nB4
      repeat' (walk_at "jv")
      refine i_catG s1 eB4 (by rw [sizeLine_eq]; show 2 + 1 ≤ _; omega) fun B5 X24 kB5 sB5 => ?_
      replace sB5 : SqT K X24 B5 [.ref tp, .ref tr, .ref B3] := sB5
      replace s1 := TK.same kB5 _ _ s1
      replace s2 := TK.same kB5 _ _ s2
      replace s3 := TK.same kB5 _ _ s3
      replace d3 := DpAll.same kB5 _ _ d3
      replace f1 := Fd.same f1 kB5
      replace kk := Ch.trans kk (Ch.of_same kB5)
      replace gOF := NOs.same gOF kB5
      replace eOF := kB5 _ _ eOF
      replace gEN := NOs.same gEN kB5
      replace eEN := kB5 _ _ eEN
      replace gr := NOs.same gr kB5
      replace gp := NOs.same gp kB5
      replace gP := NO.same gP kB5
      replace gR := NO.same gR kB5
      replace gB1 := NO.same gB1 kB5
      replace gB2 := NO.same gB2 kB5
      replace gB3 := NO.same gB3 kB5
      clear kB5
      have gB5 : NO K 4 19251 X24 a (.ref B5) := no_tup (m := 3) (n := 6416) sB5 (.cons gP <| .cons gR <| .cons gB3 .nil) (k := 3) (by show 3 ≤ 3; decide)
      repeat' (walk_at "jv")
      intro B6 nB6
      have dB6 := f1.ne nB6
      have kB6 := Same.upd_new (o := .lst (ps.map V.str)) nB6
      have eB6 : (upd X24 B6 (.lst (ps.map V.str))) B6 = some (.lst (ps.map V.str)) := upd_same
      generalize upd X24 B6 (.lst (ps.map V.str)) = X25 at *
      replace s1 := TK.same kB6 _ _ s1
      replace s2 := TK.same kB6 _ _ s2
      replace s3 := TK.same kB6 _ _ s3
      replace d3 := DpAll.same kB6 _ _ d3
      replace f1 := Fd.same f1 kB6
      replace kk := Ch.trans kk (Ch.of_same kB6)
      replace gOF := NOs.same gOF kB6
      replace eOF := kB6 _ _ eOF
      replace gEN := NOs.same gEN kB6
      replace eEN := kB6 _ _ eEN
      replace gr := NOs.same gr kB6
      replace gp := NOs.same gp kB6
      replace gP := NO.same gP kB6
      replace gR := NO.same gR kB6
      replace gB1 := NO.same gB1 kB6
      replace gB2 := NO.same gB2 kB6
      replace gB5 := NO.same gB5 kB6
      clear kB6 nB6
      have gB6 : NO K 3 6416 X25 a (.ref B6) := no_list (m := 2) (n := 400) eB6 dB6 gp (k := 16) (by omega)
      repeat' (walk_at "jv")
      intro B7 nB7
      have dB7 := f1.ne nB7
      have kB7 := Same.upd_new (o := .tup ([.ref B6, .ref tr])) nB7
      have eB7 : SqT K (upd X25 B7 (.tup ([.ref B6, .ref tr]))) B7 ([.ref B6, .ref tr]) := sq_tup upd_same
      generalize upd X25 B7 (.tup ([.ref B6, .ref tr])) = X26 at *
      replace s1 := TK.same kB7 _ _ s1
      replace s2 := TK.same kB7 _ _ s2
      replace s3 := TK.same kB7 _ _ s3
      replace d3 := DpAll.same kB7 _ _ d3
      replace f1 := Fd.same f1 kB7
      replace kk := Ch.trans kk (Ch.of_same kB7)
      replace gOF := NOs.same gOF kB7
      replace eOF := kB7 _ _ eOF
      replace gEN := NOs.same gEN kB7
      replace eEN := kB7 _ _ eEN
      replace gr := NOs.same gr kB7
      replace gp := NOs.same gp kB7
      replace gP := NO.same gP kB7
      replace gR := NO.same gR kB7
      replace gB1 := NO.same gB1 kB7
      replace gB2 := NO.same gB2 kB7
      replace gB5 := NO.same gB5 kB7
      replace gB6 := NO.same gB6 kB7
      clear kB7 nB7
      have gB7 : NO K 4 19251 X26 a (.ref B7) := no_tup (m := 3) (n := 6416) eB7 (.cons gB6 <| .cons gR .nil) (k := 3) (by show 2 ≤ 3; decide)
      repeat' (walk_at "jv")
      intro B8 nB8
      have dB8 := f1.ne nB8
      have kB8 := Same.upd_new (o := .lst (xs)) nB8
      have eB8 : (upd X26 B8 (.lst (xs))) B8 = some (.lst (xs)) := upd_same
      generalize upd X26 B8 (.lst (xs)) = X27 at *
      replace s1 := TK.same kB8 _ _ s1
      replace s2 := TK.same kB8 _ _ s2
      replace s3 := TK.same kB8 _ _ s3
      replace d3 := DpAll.same kB8 _ _ d3
      replace f1 := Fd.same f1 kB8
      replace kk := Ch.trans kk (Ch.of_same kB8)
      replace gOF := NOs.same gOF kB8
      replace eOF := kB8 _ _ eOF
      replace gEN := NOs.same gEN kB8
      replace eEN := kB8 _ _ eEN
      replace gr := NOs.same gr kB8
      replace gp := NOs.same gp kB8
      replace gP := NO.same gP kB8
      replace gR := NO.same gR kB8
      replace gB1 := NO.same gB1 kB8
      replace gB2 := NO.same gB2 kB8
      replace gB5 := NO.same gB5 kB8
      replace gB7 := NO.same gB7 kB8
      clear kB8 nB8
      have gB8 : NO K 3 6416 X27 a (.ref B8) := no_list (m := 2) (n := 400) eB8 dB8 gr (k := 16) (by omega)
      repeat' (walk_at "jv")
      intro B9 nB9
      have dB9 := f1.ne nB9
      have kB9 := Same.upd_new (o := .tup ([.ref tp, .ref B8])) nB9
      have eB9 : SqT K (upd X27 B9 (.tup ([.ref tp, .ref B8]))) B9 ([.ref tp, .ref B8]) := sq_tup upd_same
      generalize upd X27 B9 (.tup ([.ref tp, .ref B8])) = X28 at *
      replace s1 := TK.same kB9 _ _ s1
      replace s2 := TK.same kB9 _ _ s2
      replace s3 := TK.same kB9 _ _ s3
      replace d3 := DpAll.same kB9 _ _ d3
      replace f1 := Fd.same f1 kB9
      replace kk := Ch.trans kk (Ch.of_same kB9)
      replace gOF := NOs.same gOF kB9
      replace eOF := kB9 _ _ eOF
      replace gEN := NOs.same gEN kB9
      replace eEN := kB9 _ _ eEN
      replace gr := NOs.same gr kB9
      replace gp := NOs.same gp kB9
      replace gP := NO.same gP kB9
      replace gR := NO.same gR kB9
      replace gB1 := NO.same gB1 kB9
      replace gB2 := NO.same gB2 kB9
      replace gB5 := NO.same gB5 kB9
      replace gB7 := NO.same gB7 kB9
      replace gB8 := NO.same gB8 kB9
      clear kB9 nB9
      have gB9 : NO K 4 19251 X28 a (.ref B9) := no_tup (m := 3) (n := 6416) eB9 (.cons gP <| .cons gB8 .nil) (k := 3) (by show 2 ≤ 3; decide)
      repeat' (walk_at "jv")
      intro C1 nC1
      have dC1 := f1.ne nC1
      have kC1 := Same.upd_new (o := .tup ([])) nC1
      have eC1 : SqT K (upd X28 C1 (.tup ([]))) C1 ([]) := sq_tup upd_same
      generalize upd X28 C1 (.tup ([])) = X29 at *
      replace s1 := TK.same kC1 _ _ s1
      replace s2 := TK.same kC1 _ _ s2
      replace s3 := TK.same kC1 _ _ s3
      replace d3 := DpAll.same kC1 _ _ d3
      replace f1 := Fd.same f1 kC1
      replace kk := Ch.trans kk (Ch.of_same kC1)
      replace gOF := NOs.same gOF kC1
      replace eOF := kC1 _ _ eOF
      replace gEN := NOs.same gEN kC1
      replace eEN := kC1 _ _ eEN
      replace gr := NOs.same gr kC1
      replace gp := NOs.same gp kC1
      replace gP := NO.same gP kC1
      replace gR := NO.same gR kC1
      replace gB1 := NO.same gB1 kC1
      replace gB2 := NO.same gB2 kC1
      replace gB5 := NO.same gB5 kC1
      replace gB7 := NO.same gB7 kC1
      replace gB9 := NO.same gB9 kC1
      clear kC1 nC1
      have gC1 : NO K 3 6416 X29 a (.ref C1) := no_tup (m := 2) (n := 400) eC1 .nil (k := 16) (by show 0 ≤ 16; decide)
      repeat' (walk_at "jv")
      intro C2 nC2
      have dC2 := f1.ne nC2
      have kC2 := Same.upd_new (o := .tup ([])) nC2
      have eC2 : SqT K (upd X29 C2 (.tup ([]))) C2 ([]) := sq_tup upd_same
      generalize upd X29 C2 (.tup ([])) = X30 at *
      replace s1 := TK.same kC2 _ _ s1
      replace s2 := TK.same kC2 _ _ s2
      replace s3 := TK.same kC2 _ _ s3
      replace d3 := DpAll.same kC2 _ _ d3
      replace f1 := Fd.same f1 kC2
      replace kk := Ch.trans kk (Ch.of_same kC2)
      replace gOF := NOs.same gOF kC2
      replace eOF := kC2 _ _ eOF
      replace gEN := NOs.same gEN kC2
      replace eEN := kC2 _ _ eEN
      replace gr := NOs.same gr kC2
      replace gp := NOs.same gp kC2
      replace gP := NO.same gP kC2
      replace gR := NO.same gR kC2
      replace gB1 := NO.same gB1 kC2
      replace gB2 := NO.same gB2 kC2
      replace gB5 := NO.same gB5 kC2
      replace gB7 := NO.same gB7 kC2
      replace gB9 := NO.same gB9 kC2
      replace gC1 := NO.same gC1 kC2
      clear kC2 nC2
      have gC2 : NO K 3 6416 X30 a (.ref C2) := no_tup (m := 2) (n := 400) eC2 .nil (k := 16) (by show 0 ≤ 16; decide)
      repeat' (walk_at "jv")
      intro C3 nC3
      have dC3 := f1.ne nC3
      have kC3 := Same.upd_new (o := .tup ([.ref C1, .ref C2])) nC3
      have eC3 : SqT K (upd X30 C3 (.tup ([.ref C1, .ref C2]))) C3 ([.ref C1, .ref C2]) := sq_tup upd_same
      generalize upd X30 C3 (.tup ([.ref C1, .ref C2])) = X31 at *
      replace s1 := TK.same kC3 _ _ s1
      replace s2 := TK.same kC3 _ _ s2
      replace s3 := TK.same kC3 _ _ s3
      replace d3 := DpAll.same kC3 _ _ d3
      replace f1 := Fd.same f1 kC3
      replace kk := Ch.trans kk (Ch.of_same kC3)
      replace gOF := NOs.same gOF kC3
      replace eOF := kC3 _ _ eOF
      replace gEN := NOs.same gEN kC3
      replace eEN := kC3 _ _ eEN
      replace gr := NOs.same gr kC3
      replace gp := NOs.same gp kC3
      replace gP := NO.same gP kC3
      replace gR := NO.same gR kC3
      replace gB1 := NO.same gB1 kC3
      replace gB2 := NO.same gB2 kC3
      replace gB5 := NO.same gB5 kC3
      replace gB7 := NO.same gB7 kC3
      replace gB9 := NO.same gB9 kC3
      replace gC1 := NO.same gC1 kC3
      replace gC2 := NO.same gC2 kC3
      clear kC3 nC3
      have gC3 : NO K 4 19251 X31 a (.ref C3) := no_tup (m := 3) (n := 6416) eC3 (.cons gC1 <| .cons gC2 .nil) (k := 3) (by show 2 ≤ 3; decide)
      repeat' (walk_at "jv")
      intro C4 nC4
      have dC4 := f1.ne nC4
      have kC4 := Same.upd_new (o := .tup ([])) nC4
      have eC4 : SqT K (upd X31 C4 (.tup ([]))) C4 ([]) := sq_tup upd_same
      generalize upd X31 C4 (.tup ([])) = X32 at *
      replace s1 := TK.same kC4 _ _ s1
      replace s2 := TK.same kC4 _ _ s2
      replace s3 := TK.same kC4 _ _ s3
      replace d3 := DpAll.same kC4 _ _ d3
      replace f1 := Fd.same f1 kC4
      replace kk := Ch.trans kk (Ch.of_same kC4)
      replace gOF := NOs.same gOF kC4
      replace eOF := kC4 _ _ eOF
      replace gEN := NOs.same gEN kC4
      replace eEN := kC4 _ _ eEN
      replace gr := NOs.same gr kC4
      replace gp := NOs.same gp kC4
      replace gP := NO.same gP kC4
      replace gR := NO.same gR kC4
      replace gB1 := NO.same gB1 kC4
      replace gB2 := NO.same gB2 kC4
      replace gB5 := NO.same gB5 kC4
      replace gB7 := NO.same gB7 kC4
      replace gB9 := NO.same gB9 kC4
      replace gC3 := NO.same gC3 kC4
      clear kC4 nC4
      have gC4 : NO K 4 19251 X32 a (.ref C4) := (no_tup (m := 2) (n := 400) eC4 .nil (k := 16) (by show 0 ≤ 16; decide)).mono
      repeat' (walk_at "jv")
      intro C5 nC5
      have dC5 := f1.ne nC5
      have kC5 := Same.upd_new (o := .tup ([.ref tr, .ref tp])) nC5
      have eC5 : SqT K (upd X32 C5 (.tup ([.ref tr, .ref tp]))) C5 ([.ref tr, .ref tp]) := sq_tup upd_same
      generalize upd X32 C5 (.tup ([.ref tr, .ref tp])) = X33 at *
      replace s1 := TK.same kC5 _ _ s1
      replace s2 := TK.same kC5 _ _ s2
      replace s3 := TK.same kC5 _ _ s3
      replace d3 := DpAll.same kC5 _ _ d3
      replace f1 := Fd.same f1 kC5
      replace kk := Ch.trans kk (Ch.of_same kC5)
      replace gOF := NOs.same gOF kC5
      replace eOF := kC5 _ _ eOF
      replace gEN := NOs.same gEN kC5
      replace eEN := kC5 _ _ eEN
      replace gr := NOs.same gr kC5
      replace gp := NOs.same gp kC5
      replace gP := NO.same gP kC5
      replace gR := NO.same gR kC5
      replace gB1 := NO.same gB1 kC5
      replace gB2 := NO.same gB2 kC5
      replace gB5 := NO.same gB5 kC5
      replace gB7 := NO.same gB7 kC5
      replace gB9 := NO.same gB9 kC5
      replace gC3 := NO.same gC3 kC5
      replace gC4 := NO.same gC4 kC5
      clear kC5 nC5
      have gC5 : NO K 4 19251 X33 a (.ref C5) := no_tup (m := 3) (n := 6416) eC5 (.cons gR <| .cons gP .nil) (k := 3) (by show 2 ≤ 3; decide)
      repeat' (walk_at "jv")
      intro C6 nC6
      have dC6 := f1.ne nC6
      have kC6 := Same.upd_new (o := .dK []) nC6
      have eC6 : (upd X33 C6 (.dK [])) C6 = some (.dK []) := upd_same
      generalize upd X33 C6 (.dK []) = X34 at *
      replace s1 := TK.same kC6 _ _ s1
      replace s2 := TK.same kC6 _ _ s2
      replace s3 := TK.same kC6 _ _ s3
      replace d3 := DpAll.same kC6 _ _ d3
      replace f1 := Fd.same f1 kC6
      replace kk := Ch.trans kk (Ch.of_same kC6)
      replace gOF := NOs.same gOF kC6
      replace eOF := kC6 _ _ eOF
      replace gEN := NOs.same gEN kC6
      replace eEN := kC6 _ _ eEN
      replace gr := NOs.same gr kC6
      replace gp := NOs.same gp kC6
      replace gP := NO.same gP kC6
      replace gR := NO.same gR kC6
      replace gB1 := NO.same gB1 kC6
      replace gB2 := NO.same gB2 kC6
      replace gB5 := NO.same gB5 kC6
      replace gB7 := NO.same gB7 kC6
      replace gB9 := NO.same gB9 kC6
      replace gC3 := NO.same gC3 kC6
      replace gC4 := NO.same gC4 kC6
      replace gC5 := NO.same gC5 kC6
      clear kC6 nC6
      have gC6 : NZ K X34 a (.ref C6) := nz_dict eC6 dC6
      repeat' (walk_at "jv")
      intro C7 nC7
      have dC7 := f1.ne nC7
      have kC7 := Same.upd_new (o := .tup ([.ref tp, .non])) nC7
      have eC7 : SqT K (upd X34 C7 (.tup ([.ref tp, .non]))) C7 ([.ref tp, .non]) := sq_tup upd_same
      generalize upd X34 C7 (.tup ([.ref tp, .non])) = X35 at *
      replace s1 := TK.same kC7 _ _ s1
      replace s2 := TK.same kC7 _ _ s2
      replace s3 := TK.same kC7 _ _ s3
      replace d3 := DpAll.same kC7 _ _ d3
      replace f1 := Fd.same f1 kC7
      replace kk := Ch.trans kk (Ch.of_same kC7)
      replace gOF := NOs.same gOF kC7
      replace eOF := kC7 _ _ eOF
      replace gEN := NOs.same gEN kC7
      replace eEN := kC7 _ _ eEN
      replace gr := NOs.same gr kC7
      replace gp := NOs.same gp kC7
      replace gP := NO.same gP kC7
      replace gR := NO.same gR kC7
      replace gB1 := NO.same gB1 kC7
      replace gB2 := NO.same gB2 kC7
      replace gB5 := NO.same gB5 kC7
      replace gB7 := NO.same gB7 kC7
      replace gB9 := NO.same gB9 kC7
      replace gC3 := NO.same gC3 kC7
      replace gC4 := NO.same gC4 kC7
      replace gC5 := NO.same gC5 kC7
      replace gC6 := NZ.same gC6 kC7
      clear kC7 nC7
      have gC7 : NO K 4 19251 X35 a (.ref C7) := no_tup (m := 3) (n := 6416) eC7 (.cons gP <| .cons no_none.mono .nil) (k := 3) (by show 2 ≤ 3; decide)
      repeat' (walk_at "jv")
      intro C8 nC8
      have dC8 := f1.ne nC8
      have kC8 := Same.upd_new (o := .tup ([.non, .ref tr])) nC8
      have eC8 : SqT K (upd X35 C8 (.tup ([.non, .ref tr]))) C8 ([.non, .ref tr]) := sq_tup upd_same
      generalize upd X35 C8 (.tup ([.non, .ref tr])) = X36 at *
      replace s1 := TK.same kC8 _ _ s1
      replace s2 := TK.same kC8 _ _ s2
      replace s3 := TK.same kC8 _ _ s3
      replace d3 := DpAll.same kC8 _ _ d3
      replace f1 := Fd.same f1 kC8
      replace kk := Ch.trans kk (Ch.of_same kC8)
      replace gOF := NOs.same gOF kC8
      replace eOF := kC8 _ _ eOF
      replace gEN := NOs.same gEN kC8
      replace eEN := kC8 _ _ eEN
      replace gr := NOs.same gr kC8
      replace gp := NOs.same gp kC8
      replace gP := NO.same gP kC8
      replace gR := NO.same gR kC8
      replace gB1 := NO.same gB1 kC8
      replace gB2 := NO.same gB2 kC8
      replace gB5 := NO.same gB5 kC8
      replace gB7 := NO.same gB7 kC8
      replace gB9 := NO.same gB9 kC8
      replace gC3 := NO.same gC3 kC8
      replace gC4 := NO.same gC4 kC8
      replace gC5 := NO.same gC5 kC8
      replace gC6 := NZ.same gC6 kC8
      replace gC7 := NO.same gC7 kC8
      clear kC8 nC8
      have gC8 : NO K 4 19251 X36 a (.ref C8) := no_tup (m := 3) (n := 6416) eC8 (.cons no_none.mono <| .cons gR .nil) (k := 3) (by show 2 ≤ 3; decide)
      repeat' (walk_at "jv")
      intro BL nBL
      have dBL := f1.ne nBL
      have kBL := Same.upd_new (o := .lst ([.ref wt, .ref B1, .ref B2, .ref B5, .ref B7, .ref B9, .ref C3, .non, .str "web", .int 5, .ref C4, .ref C5, .ref C6, .ref C7, .ref C8])) nBL
      have eBL : (upd X36 BL (.lst ([.ref wt, .ref B1, .ref B2, .ref B5, .ref B7, .ref B9, .ref C3, .non, .str "web", .int 5, .ref C4, .ref C5, .ref C6, .ref C7, .ref C8]))) BL = some (.lst ([.ref wt, .ref B1, .ref B2, .ref B5, .ref B7, .ref B9, .ref C3, .non, .str "web", .int 5, .ref C4, .ref C5, .ref C6, .ref C7, .ref C8])) := upd_same
      generalize upd X36 BL (.lst ([.ref wt, .ref B1, .ref B2, .ref B5, .ref B7, .ref B9, .ref C3, .non, .str "web", .int 5, .ref C4, .ref C5, .ref C6, .ref C7, .ref C8])) = X37 at *
      replace s1 := TK.same kBL _ _ s1
      replace s2 := TK.same kBL _ _ s2
      replace s3 := TK.same kBL _ _ s3
      replace d3 := DpAll.same kBL _ _ d3
      replace f1 := Fd.same f1 kBL
      replace kk := Ch.trans kk (Ch.of_same kBL)
      replace gOF := NOs.same gOF kBL
      replace eOF := kBL _ _ eOF
      replace gEN := NOs.same gEN kBL
      replace eEN := kBL _ _ eEN
      replace gr := NOs.same gr kBL
      replace gp := NOs.same gp kBL
      replace gP := NO.same gP kBL
      replace gR := NO.same gR kBL
      replace gB1 := NO.same gB1 kBL
      replace gB2 := NO.same gB2 kBL
      replace gB5 := NO.same gB5 kBL
      replace gB7 := NO.same gB7 kBL
      replace gB9 := NO.same gB9 kBL
      replace gC3 := NO.same gC3 kBL
      replace gC4 := NO.same gC4 kBL
      replace gC5 := NO.same gC5 kBL
      replace gC6 := NZ.same gC6 kBL
      replace gC7 := NO.same gC7 kBL
      replace gC8 := NO.same gC8 kBL
      clear kBL nBL
      have gW : NO K 4 19251 X37 a (.ref wt) := no_tup (m := 3) (n := 6416) s1 (.cons gP <| .cons gR .nil) (k := 3) (by show 2 ≤ 3; decide)
      have gBL : ∀ x ∈ ([.ref wt, .ref B1, .ref B2, .ref B5, .ref B7, .ref B9, .ref C3, .non, .str "web", .int 5, .ref C4, .ref C5, .ref C6, .ref C7, .ref C8] : List V), NZ K X37 a x := fun x hx => by
        simp only [List.mem_cons, List.not_mem_nil, or_false] at hx
        rcases hx with rfl | rfl | rfl | rfl | rfl | rfl | rfl | rfl | rfl | rfl | rfl | rfl | rfl | rfl | rfl
        · exact gW.nz
        · exact gB1.nz
        · exact gB2.nz
        · exact gB5.nz
        · exact gB7.nz
        · exact gB9.nz
        · exact gC3.nz
        · exact no_none.nz
        · exact (no_str (by decide +kernel) (by decide +kernel)).nz
        · exact (no_int (by decide) (by decide)).nz
        · exact gC4.nz
        · exact gC5.nz
        · exact gC6
        · exact gC7.nz
        · exact gC8.nz
      repeat' (walk_at "jv")
      refine ⟨a, BL, _, _, rfl, f1, SqA.l (sq_lst eBL), dBL, by show 0 < 15; decide, by show 15 < 1000000; decide, by omega, fun y Y7 hy f2 k2 => ?_⟩
      exact q y Y7 ((gBL y hy).ch k2 f1) (f2.mono (by omega)) (kk.trans k2)
    · skip
      refine i_slG s2 fun P1 X38 kP1 sP1 => ?_
      rw [cut_take] at sP1
      replace s1 := TK.same kP1 _ _ s1
      replace s2 := TK.same kP1 _ _ s2
      replace s3 := TK.same kP1 _ _ s3
      replace d3 := DpAll.same kP1 _ _ d3
      replace f1 := Fd.same f1 kP1
      replace kk := Ch.trans kk (Ch.of_same kP1)
      replace gOF := NOs.same gOF kP1
      replace eOF := kP1 _ _ eOF
      replace gEN := NOs.same gEN kP1
      replace eEN := kP1 _ _ eEN
      replace gr := NOs.same gr kP1
      replace gp := NOs.same gp kP1
      replace gP := NO.same gP kP1
      replace gR := NO.same gR kP1
      clear kP1
      repeat' (walk_at "jv")
      refine ⟨a, OF, _, od, rfl, f1, SqA.l (sq_lst eOF), dOF, by omega, by omega, by omega, fun y Y7 hy f2 k2 => ?_⟩
      have gy := gOF y hy
      clear hy
      replace s1 := TK.ch k2 f1 _ _ s1
      replace s2 := TK.ch k2 f1 _ _ s2
      replace s3 := TK.ch k2 f1 _ _ s3
      replace d3 := DpAll.tk (TK.ch k2 f1) _ _ (roads_only _) d3
      replace kk := Ch.trans kk k2
      replace gOF := NOs.ch gOF k2 f1
      replace gEN := NOs.ch gEN k2 f1
      replace gr := NOs.ch gr k2 f1
      replace gp := NOs.ch gp k2 f1
      replace gP := NO.ch gP k2 f1
      replace gR := NO.ch gR k2 f1
      replace sP1 := TK.ch k2 f1 _ _ sP1
      replace gy := NO.ch gy k2 f1
      replace eOF := k2 _ _ dOF eOF
      replace eEN := k2 _ _ dEN eEN
      clear f1 k2
      have f1 := f2
      clear f2
      repeat' (walk_at "jv")
      intro PT nPT
      have dPT := f1.ne nPT
      have kPT := Same.upd_new (o := .tup ([y])) nPT
      have ePT : SqT K (upd Y7 PT (.tup ([y]))) PT ([y]) := sq_tup upd_same
      generalize upd Y7 PT (.tup ([y])) = X39 at *
      replace s1 := TK.same kPT _ _ s1
      replace s2 := TK.same kPT _ _ s2
      replace s3 := TK.same kPT _ _ s3
      replace d3 := DpAll.same kPT _ _ d3
      replace f1 := Fd.same f1 kPT
      replace kk := Ch.trans kk (Ch.of_same kPT)
      replace gOF := NOs.same gOF kPT
      replace gEN := NOs.same gEN kPT
      replace gr := NOs.same gr kPT
      replace gp := NOs.same gp kPT
      replace gP := NO.same gP kPT
      replace gR := NO.same gR kPT
      replace sP1 := TK.same kPT _ _ sP1
      replace gy := NO.same gy kPT
      clear kPT nPT
      repeat' (walk_at "jv")
      refine i_catG sP1 ePT (by rw [List.length_take, sizeLine_eq]; show _ + 1 ≤ _; omega) fun P2 X40 kP2 sP2 => ?_
      replace s1 := TK.same kP2 _ _ s1
      replace s2 := TK.same kP2 _ _ s2
      replace s3 := TK.same kP2 _ _ s3
      replace d3 := DpAll.same kP2 _ _ d3
      replace f1 := Fd.same f1 kP2
      replace kk := Ch.trans kk (Ch.of_same kP2)
      replace gOF := NOs.same gOF kP2
      replace gEN := NOs.same gEN kP2
      replace gr := NOs.same gr kP2
      replace gp := NOs.same gp kP2
      replace gP := NO.same gP kP2
      replace gR := NO.same gR kP2
      replace gy := NO.same gy kP2
      clear kP2
      repeat' (walk_at "jv")
      rw [show ((j : Nat) : Int) + 1 = ((j + 1 : Nat) : Int) by omega]
      refine i_slG s2 fun P3 X41 kP3 sP3 => ?_
      rw [cut_from] at sP3
      replace s1 := TK.same kP3 _ _ s1
      replace s2 := TK.same kP3 _ _ s2
      replace s3 := TK.same kP3 _ _ s3
      replace d3 := DpAll.same kP3 _ _ d3
      replace f1 := Fd.same f1 kP3
      replace kk := Ch.trans kk (Ch.of_same kP3)
      replace gOF := NOs.same gOF kP3
      replace gEN := NOs.same gEN kP3
      replace gr := NOs.same gr kP3
      replace gp := NOs.same gp kP3
      replace gP := NO.same gP kP3
      replace gR := NO.same gR kP3
      replace gy := NO.same gy kP3
      replace sP2 := TK.same kP3 _ _ sP2
      clear kP3
      repeat' (walk_at "jv")
      refine i_catG sP2 sP3 (by rw [List.length_append, List.length_take, List.length_drop, sizeLine_eq]; show _ + 1 + _ ≤ _; omega) fun P4 X42 kP4 sP4 => ?_
      replace s1 := TK.same kP4 _ _ s1
      replace s2 := TK.same kP4 _ _ s2
      replace s3 := TK.same kP4 _ _ s3
      replace d3 := DpAll.same kP4 _ _ d3
      replace f1 := Fd.same f1 kP4
      replace kk := Ch.trans kk (Ch.of_same kP4)
      replace gOF := NOs.same gOF kP4
      replace gEN := NOs.same gEN kP4
      replace gr := NOs.same gr kP4
      replace gp := NOs.same gp kP4
      replace gP := NO.same gP kP4
      replace gR := NO.same gR kP4
      replace gy := NO.same gy kP4
      clear kP4
      have gP4 : NO K 3 6416 X42 a (.ref P4) := no_tup sP4 (((gp.take j).app (.one gy.mono)).app (gp.drop (j + 1))) (k := 16) (by rw [List.length_append, List.length_append, List.length_take, List.length_drop]; show _ + 1 + _ ≤ 16; omega)
      repeat' (walk_at "jv")
      refine c_tup xs (fun D i H' => X42 D = none ∧ Same X42 H' ∧ ∃ ys : List V, H' D = some (.lst ys) ∧ ys.length ≤ i ∧ ∀ x ∈ ys, x ∈ xs) (fun D nD => ⟨nD, Same.upd_new nD, [], upd_same, Nat.le_refl _, fun x h => nomatch h⟩) (fun D i H' _ h => TK.same h.2.1 _ _ s3) (fun D i x H' hx h => ?_) (fun D H' h => ?_)
      · obtain ⟨nD, kD, ys, eD, hyl, hys⟩ := h
        obtain ⟨r, t, hr2, rfl, st⟩ := road_getW d3 hx
        have hi : i < rs.length := (List.getElem?_eq_some_iff.mp hr2).1
        have st' : SqT K H' t ([r.1, r.2].map V.str) := TK.same (K := K) kD _ _ st
        repeat' (walk_at "jv")
        refine i_notInS (SqA.t st') ?_
        refine ⟨_, rfl, i_iteB (fun h1 => ?_) (fun h1 => ?_)⟩
        · skip
          repeat' (walk_at "jv")
          refine ⟨nD, fun c oc z => (upd_ne (ne_of_none z nD)).trans (kD _ _ z), ys ++ [.ref t], upd_same, by rw [List.length_append]; show _ + 1 ≤ _; omega, fun x h => (List.mem_append.mp h).elim (hys x) fun h => by rw [List.mem_singleton.mp h]; exact List.mem_of_getElem? hx⟩
        · exact ⟨nD, kD, ys, eD, by omega, hys⟩
      · obtain ⟨nD, kD, ys, eD, hyl, hys⟩ := h
        replace s1 := TK.same kD _ _ s1
        replace s2 := TK.same kD _ _ s2
        replace s3 := TK.same kD _ _ s3
        replace d3 := DpAll.same kD _ _ d3
        replace f1 := Fd.same f1 kD
        replace kk := Ch.trans kk (Ch.of_same kD)
        replace gOF := NOs.same gOF kD
        replace gEN := NOs.same gEN kD
        replace gr := NOs.same gr kD
        replace gp := NOs.same gp kD
        replace gP := NO.same gP kD
        replace gR := NO.same gR kD
        replace gy := NO.same gy kD
        replace gP4 := NO.same gP4 kD
        clear kD
        have gys : NOs K 2 400 H' a ys := fun x hx => gr x (hys x hx)
        repeat' (walk_at "jv")
        intro RT nRT
        have dRT := f1.ne nRT
        have kRT := Same.upd_new (o := .tup (ys)) nRT
        have eRT : SqT K (upd H' RT (.tup (ys))) RT (ys) := sq_tup upd_same
        generalize upd H' RT (.tup (ys)) = X43 at *
        replace s1 := TK.same kRT _ _ s1
        replace s2 := TK.same kRT _ _ s2
        replace s3 := TK.same kRT _ _ s3
        replace d3 := DpAll.same kRT _ _ d3
        replace f1 := Fd.same f1 kRT
        replace kk := Ch.trans kk (Ch.of_same kRT)
        replace gOF := NOs.same gOF kRT
        replace gEN := NOs.same gEN kRT
        replace gr := NOs.same gr kRT
        replace gp := NOs.same gp kRT
        replace gP := NO.same gP kRT
        replace gR := NO.same gR kRT
        replace gy := NO.same gy kRT
        replace gP4 := NO.same gP4 kRT
        replace gys := NOs.same gys kRT
        replace eD := kRT _ _ eD
        clear kRT nRT
        have gRT : NO K 3 6416 X43 a (.ref RT) := no_tup eRT gys (k := 16) (by omega)
        repeat' (walk_at "jv")
        intro TH nTH
        have dTH := f1.ne nTH
        have kTH := Same.upd_new (o := .tup ([.ref P4, .ref RT])) nTH
        have eTH : SqT K (upd X43 TH (.tup ([.ref P4, .ref RT]))) TH ([.ref P4, .ref RT]) := sq_tup upd_same
        generalize upd X43 TH (.tup ([.ref P4, .ref RT])) = X44 at *
        replace s1 := TK.same kTH _ _ s1
        replace s2 := TK.same kTH _ _ s2
        replace s3 := TK.same kTH _ _ s3
        replace d3 := DpAll.same kTH _ _ d3
        replace f1 := Fd.same f1 kTH
        replace kk := Ch.trans kk (Ch.of_same kTH)
        replace gOF := NOs.same gOF kTH
        replace gEN := NOs.same gEN kTH
        replace gr := NOs.same gr kTH
        replace gp := NOs.same gp kTH
        replace gP := NO.same gP kTH
        replace gR := NO.same gR kTH
        replace gy := NO.same gy kTH
        replace gP4 := NO.same gP4 kTH
        replace gys := NOs.same gys kTH
        replace eD := kTH _ _ eD
        replace gRT := NO.same gRT kTH
        clear kTH nTH
        have gTH : NO K 4 19251 X44 a (.ref TH) := no_tup (m := 3) (n := 6416) eTH (.cons gP4 <| .cons gRT .nil) (k := 3) (by show 2 ≤ 3; decide)
        exact q _ _ (NO.nz gTH) (f1.mono (by omega)) kk
    · skip
      refine i_slG s2 fun P1 X45 kP1 sP1 => ?_
      rw [cut_take] at sP1
      replace s1 := TK.same kP1 _ _ s1
      replace s2 := TK.same kP1 _ _ s2
      replace s3 := TK.same kP1 _ _ s3
      replace d3 := DpAll.same kP1 _ _ d3
      replace f1 := Fd.same f1 kP1
      replace kk := Ch.trans kk (Ch.of_same kP1)
      replace gOF := NOs.same gOF kP1
      replace eOF := kP1 _ _ eOF
      replace gEN := NOs.same gEN kP1
      replace eEN := kP1 _ _ eEN
      replace gr := NOs.same gr kP1
      replace gp := NOs.same gp kP1
      replace gP := NO.same gP kP1
      replace gR := NO.same gR kP1
      clear kP1
      repeat' (walk_at "jv")
      intro KL nKL
      have dKL := f1.ne nKL
      have kKL := Same.upd_new (o := .lst ([.str "k9", .str "k8"])) nKL
      have eKL : (upd X45 KL (.lst ([.str "k9", .str "k8"]))) KL = some (.lst ([.str "k9", .str "k8"])) := upd_same
      generalize upd X45 KL (.lst ([.str "k9", .str "k8"])) = X46 at *
      replace s1 := TK.same kKL _ _ s1
      replace s2 := TK.same kKL _ _ s2
      replace s3 := TK.same kKL _ _ s3
      replace d3 := DpAll.same kKL _ _ d3
      replace f1 := Fd.same f1 kKL
      replace kk := Ch.trans kk (Ch.of_same kKL)
      replace gOF := NOs.same gOF kKL
      replace eOF := kKL _ _ eOF
      replace gEN := NOs.same gEN kKL
      replace eEN := kKL _ _ eEN
      replace gr := NOs.same gr kKL
      replace gp := NOs.same gp kKL
      replace gP := NO.same gP kKL
      replace gR := NO.same gR kKL
      replace sP1 := TK.same kKL _ _ sP1
      clear kKL nKL
      have gKL : NOs K 1 100 X46 a [.str "k9", .str "k8"] := .cons (no_str (by decide +kernel) (by decide +kernel)).mono <| .cons (no_str (by decide +kernel) (by decide +kernel)).mono .nil
      repeat' (walk_at "jv")
      refine i_catL eOF eKL (by rw [lOF, sizeLine_eq]; show 17 + 2 ≤ _; omega) fun OG nOG => ?_
      have dOG := f1.ne nOG
      have kOG := Same.upd_new (o := .lst ((od ++ [.str "k9", .str "k8"] : List V))) nOG
      have eOG : (upd X46 OG (.lst ((od ++ [.str "k9", .str "k8"] : List V)))) OG = some (.lst ((od ++ [.str "k9", .str "k8"] : List V))) := upd_same
      generalize upd X46 OG (.lst ((od ++ [.str "k9", .str "k8"] : List V))) = X47 at *
      replace s1 := TK.same kOG _ _ s1
      replace s2 := TK.same kOG _ _ s2
      replace s3 := TK.same kOG _ _ s3
      replace d3 := DpAll.same kOG _ _ d3
      replace f1 := Fd.same f1 kOG
      replace kk := Ch.trans kk (Ch.of_same kOG)
      replace gOF := NOs.same gOF kOG
      replace eOF := kOG _ _ eOF
      replace gEN := NOs.same gEN kOG
      replace eEN := kOG _ _ eEN
      replace gr := NOs.same gr kOG
      replace gp := NOs.same gp kOG
      replace gP := NO.same gP kOG
      replace gR := NO.same gR kOG
      replace sP1 := TK.same kOG _ _ sP1
      replace gKL := NOs.same gKL kOG
      clear kOG nOG
      have gOG : NOs K 1 100 X47 a (od ++ [.str "k9", .str "k8"] : List V) := gOF.app gKL
      have lOG : (od ++ [.str "k9", .str "k8"] : List V).length = 19 := by rw [List.length_append, lOF]; rfl
      generalize (od ++ [.str "k9", .str "k8"] : List V) = og at *
      repeat' (walk_at "jv")
      refine ⟨a, OG, _, og, rfl, f1, SqA.l (sq_lst eOG), dOG, by omega, by omega, by omega, fun y Y7 hy f2 k2 => ?_⟩
      have gy := gOG y hy
      clear hy
      replace s1 := TK.ch k2 f1 _ _ s1
      replace s2 := TK.ch k2 f1 _ _ s2
      replace s3 := TK.ch k2 f1 _ _ s3
      replace d3 := DpAll.tk (TK.ch k2 f1) _ _ (roads_only _) d3
      replace kk := Ch.trans kk k2
      replace gOF := NOs.ch gOF k2 f1
      replace gEN := NOs.ch gEN k2 f1
      replace gr := NOs.ch gr k2 f1
      replace gp := NOs.ch gp k2 f1
      replace gP := NO.ch gP k2 f1
      replace gR := NO.ch gR k2 f1
      replace sP1 := TK.ch k2 f1 _ _ sP1
      replace gOG := NOs.ch gOG k2 f1
      replace gy := NO.ch gy k2 f1
      clear f1 k2
      have f1 := f2
      clear f2
      repeat' (walk_at "jv")
      intro PT nPT
      have dPT := f1.ne nPT
      have kPT := Same.upd_new (o := .tup ([y])) nPT
      have ePT : SqT K (upd Y7 PT (.tup ([y]))) PT ([y]) := sq_tup upd_same
      generalize upd Y7 PT (.tup ([y])) = X48 at *
      replace s1 := TK.same kPT _ _ s1
      replace s2 := TK.same kPT _ _ s2
      replace s3 := TK.same kPT _ _ s3
      replace d3 := DpAll.same kPT _ _ d3
      replace f1 := Fd.same f1 kPT
      replace kk := Ch.trans kk (Ch.of_same kPT)
      replace gOF := NOs.same gOF kPT
      replace gEN := NOs.same gEN kPT
      replace gr := NOs.same gr kPT
      replace gp := NOs.same gp kPT
      replace gP := NO.same gP kPT
      replace gR := NO.same gR kPT
      replace sP1 := TK.same kPT _ _ sP1
      replace gy := NO.same gy kPT
      clear kPT nPT
      repeat' (walk_at "jv")
      refine i_catG sP1 ePT (by rw [List.length_take, sizeLine_eq]; show _ + 1 ≤ _; omega) fun P2 X49 kP2 sP2 => ?_
      replace s1 := TK.same kP2 _ _ s1
      replace s2 := TK.same kP2 _ _ s2
      replace s3 := TK.same kP2 _ _ s3
      replace d3 := DpAll.same kP2 _ _ d3
      replace f1 := Fd.same f1 kP2
      replace kk := Ch.trans kk (Ch.of_same kP2)
      replace gOF := NOs.same gOF kP2
      replace gEN := NOs.same gEN kP2
      replace gr := NOs.same gr kP2
      replace gp := NOs.same gp kP2
      replace gP := NO.same gP kP2
      replace gR := NO.same gR kP2
      replace gy := NO.same gy kP2
      clear kP2
      repeat' (walk_at "jv")
      refine i_slG s2 fun P3 X50 kP3 sP3 => ?_
      rw [cut_from] at sP3
      replace s1 := TK.same kP3 _ _ s1
      replace s2 := TK.same kP3 _ _ s2
      replace s3 := TK.same kP3 _ _ s3
      replace d3 := DpAll.same kP3 _ _ d3
      replace f1 := Fd.same f1 kP3
      replace kk := Ch.trans kk (Ch.of_same kP3)
      replace gOF := NOs.same gOF kP3
      replace gEN := NOs.same gEN kP3
      replace gr := NOs.same gr kP3
      replace gp := NOs.same gp kP3
      replace gP := NO.same gP kP3
      replace gR := NO.same gR kP3
      replace gy := NO.same gy kP3
      replace sP2 := TK.same kP3 _ _ sP2
      clear kP3
      repeat' (walk_at "jv")
      refine i_catG sP2 sP3 (by rw [List.length_append, List.length_take, List.length_drop, sizeLine_eq]; show _ + 1 + _ ≤ _; omega) fun P4 X51 kP4 sP4 => ?_
      replace s1 := TK.same kP4 _ _ s1
      replace s2 := TK.same kP4 _ _ s2
      replace s3 := TK.same kP4 _ _ s3
      replace d3 := DpAll.same kP4 _ _ d3
      replace f1 := Fd.same f1 kP4
      replace kk := Ch.trans kk (Ch.of_same kP4)
      replace gOF := NOs.same gOF kP4
      replace gEN := NOs.same gEN kP4
      replace gr := NOs.same gr kP4
      replace gp := NOs.same gp kP4
      replace gP := NO.same gP kP4
      replace gR := NO.same gR kP4
      replace gy := NO.same gy kP4
      clear kP4
      have gP4 : NO K 3 6416 X51 a (.ref P4) := no_tup sP4 (((gp.take j).app (.one gy.mono)).app (gp.drop j)) (k := 16) (by rw [List.length_append, List.length_append, List.length_take, List.length_drop]; show _ + 1 + _ ≤ 16; omega)
      repeat' (walk_at "jv")
      intro TH nTH
      have dTH := f1.ne nTH
      have kTH := Same.upd_new (o := .tup ([.ref P4, .ref tr])) nTH
      have eTH : SqT K (upd X51 TH (.tup ([.ref P4, .ref tr]))) TH ([.ref P4, .ref tr]) := sq_tup upd_same
      generalize upd X51 TH (.tup ([.ref P4, .ref tr])) = X52 at *
      replace s1 := TK.same kTH _ _ s1
      replace s2 := TK.same kTH _ _ s2
      replace s3 := TK.same kTH _ _ s3
      replace d3 := DpAll.same kTH _ _ d3
      replace f1 := Fd.same f1 kTH
      replace kk := Ch.trans kk (Ch.of_same kTH)
      replace gOF := NOs.same gOF kTH
      replace gEN := NOs.same gEN kTH
      replace gr := NOs.same gr kTH
      replace gp := NOs.same gp kTH
      replace gP := NO.same gP kTH
      replace gR := NO.same gR kTH
      replace gy := NO.same gy kTH
      replace gP4 := NO.same gP4 kTH
      clear kTH nTH
      have gTH : NO K 4 19251 X52 a (.ref TH) := no_tup (m := 3) (n := 6416) eTH (.cons gP4 <| .cons gR .nil) (k := 3) (by show 2 ≤ 3; decide)
      exact q _ _ (NO.nz gTH) (f1.mono (by omega)) kk
    · skip
      refine ⟨a, 6, c + 1 + 1 + 1 + 1 + 1 + 1, rfl, f1, by omega, by omega, by omega, fun mv Y7 mv0 mv1 f2 k2 => ?_⟩
      replace s1 := TK.ch k2 f1 _ _ s1
      replace s2 := TK.ch k2 f1 _ _ s2
      replace s3 := TK.ch k2 f1 _ _ s3
      replace d3 := DpAll.tk (TK.ch k2 f1) _ _ (roads_only _) d3
      replace kk := Ch.trans kk k2
      replace gOF := NOs.ch gOF k2 f1
      replace gEN := NOs.ch gEN k2 f1
      replace gr := NOs.ch gr k2 f1
      replace gp := NOs.ch gp k2 f1
      replace gP := NO.ch gP k2 f1
      replace gR := NO.ch gR k2 f1
      clear f1 k2
      have f1 := f2
      clear f2
      obtain ⟨mo, rfl⟩ := Int.eq_ofNat_of_zero_le mv0
      repeat' (walk_at "jv")
      refine c_range (fun D i H' => Y7 D = none ∧ Same Y7 H' ∧ ∃ zs : List Str, H' D = some (.lst (zs.map V.str)) ∧ zs.length = i ∧ ∀ z ∈ zs, PyData.strOk z = true ∧ z.cps.size ≤ 20) (fun D nD => ⟨nD, Same.upd_new nD, [], upd_same, rfl, fun z h => nomatch h⟩) (fun D i H' hi h => ?_) (fun D H' h => ?_)
      · obtain ⟨nD, kD, zs, eD, hzl, hzs⟩ := h
        have e0 : (0 : Int) + (i : Int) = (i : Int) := by omega
        rw [e0]
        repeat' (walk_at "jv")
        have hi6 : i < 6 := by omega
        obtain ⟨ko, ks, ts⟩ := k_names ⟨i, hi6⟩
        refine ⟨(i : Int), rfl, Nat.lt_of_le_of_lt (Nat.log2_le_self _) (by omega), ?_⟩
        replace ts : (Str.ofString (toString (i : Int))).cps.size ≤ 5 := ts
        refine ⟨_, _, rfl, rfl, by rw [sizeLine_eq]; show 1 + (Str.ofString (toString (i : Int))).cps.size ≤ _; omega, ?_⟩
        refine i_lcE eD (by rw [List.length_map, sizeLine_eq]; omega) ?_
        refine ⟨nD, fun c oc z => (upd_ne (ne_of_none z nD)).trans (kD _ _ z), zs ++ [Str.ofString "k" ++ Str.ofString (toString (i : Int))], by rw [upd_same, List.map_append]; rfl, by rw [List.length_append, hzl]; rfl, fun z hz => (List.mem_append.mp hz).elim (hzs z) fun h => by rw [List.mem_singleton.mp h]; exact ⟨ko, ks⟩⟩
      · obtain ⟨nD, kD, zs, eD, hzl, hzs⟩ := h
        replace s1 := TK.same kD _ _ s1
        replace s2 := TK.same kD _ _ s2
        replace s3 := TK.same kD _ _ s3
        replace d3 := DpAll.same kD _ _ d3
        replace f1 := Fd.same f1 kD
        replace kk := Ch.trans kk (Ch.of_same kD)
        replace gOF := NOs.same gOF kD
        replace gEN := NOs.same gEN kD
        replace gr := NOs.same gr kD
        replace gp := NOs.same gp kD
        replace gP := NO.same gP kD
        replace gR := NO.same gR kD
        clear kD
        repeat' (walk_at "jv")
        intro KT nKT
        have dKT := f1.ne nKT
        have kKT := Same.upd_new (o := .tup (zs.map V.str)) nKT
        have eKT : SqT K (upd H' KT (.tup (zs.map V.str))) KT (zs.map V.str) := sq_tup upd_same
        generalize upd H' KT (.tup (zs.map V.str)) = X53 at *
        replace s1 := TK.same kKT _ _ s1
        replace s2 := TK.same kKT _ _ s2
        replace s3 := TK.same kKT _ _ s3
        replace d3 := DpAll.same kKT _ _ d3
        replace f1 := Fd.same f1 kKT
        replace kk := Ch.trans kk (Ch.of_same kKT)
        replace gOF := NOs.same gOF kKT
        replace gEN := NOs.same gEN kKT
        replace gr := NOs.same gr kKT
        replace gp := NOs.same gp kKT
        replace gP := NO.same gP kKT
        replace gR := NO.same gR kKT
        replace eD := kKT _ _ eD
        clear kKT nKT
        have gKT : NOs K 2 400 X53 a (zs.map V.str) := fun x hx => by
          obtain ⟨z, hz, rfl⟩ := List.mem_map.mp hx
          exact (no_str (hzs z hz).1 (hzs z hz).2).mono
        repeat' (walk_at "jv")
        refine i_catG s2 eKT (by rw [List.length_map, List.length_map, sizeLine_eq]; omega) fun P4 X54 kP4 sP4 => ?_
        replace s1 := TK.same kP4 _ _ s1
        replace s2 := TK.same kP4 _ _ s2
        replace s3 := TK.same kP4 _ _ s3
        replace d3 := DpAll.same kP4 _ _ d3
        replace f1 := Fd.same f1 kP4
        replace kk := Ch.trans kk (Ch.of_same kP4)
        replace gOF := NOs.same gOF kP4
        replace gEN := NOs.same gEN kP4
        replace gr := NOs.same gr kP4
        replace gp := NOs.same gp kP4
        replace gP := NO.same gP kP4
        replace gR := NO.same gR kP4
        replace eD := kP4 _ _ eD
        replace gKT := NOs.same gKT kP4
        clear kP4
        have gP4 : NO K 3 6416 X54 a (.ref P4) := no_tup sP4 (gp.app gKT) (k := 16) (by rw [List.length_append, List.length_map, List.length_map]; omega)
        repeat' (walk_at "jv")
        intro TH nTH
        have dTH := f1.ne nTH
        have kTH := Same.upd_new (o := .tup ([.ref P4, .ref tr])) nTH
        have eTH : SqT K (upd X54 TH (.tup ([.ref P4, .ref tr]))) TH ([.ref P4, .ref tr]) := sq_tup upd_same
        generalize upd X54 TH (.tup ([.ref P4, .ref tr])) = X55 at *
        replace s1 := TK.same kTH _ _ s1
        replace s2 := TK.same kTH _ _ s2
        replace s3 := TK.same kTH _ _ s3
        replace d3 := DpAll.same kTH _ _ d3
        replace f1 := Fd.same f1 kTH
        replace kk := Ch.trans kk (Ch.of_same kTH)
        replace gOF := NOs.same gOF kTH
        replace gEN := NOs.same gEN kTH
        replace gr := NOs.same gr kTH
        replace gp := NOs.same gp kTH
        replace gP := NO.same gP kTH
        replace gR := NO.same gR kTH
        replace eD := kTH _ _ eD
        replace gKT := NOs.same gKT kTH
        replace gP4 := NO.same gP4 kTH
        clear kTH nTH
        have gTH : NO K 4 19251 X55 a (.ref TH) := no_tup (m := 3) (n := 6416) eTH (.cons gP4 <| .cons gR .nil) (k := 3) (by show 2 ≤ 3; decide)
        exact q _ _ (NO.nz gTH) (f1.mono (by omega)) kk
    · skip
      intro E0 nE0
      have kE0 := Same.upd_new (o := .tup []) nE0
      have eE0 : SqT K (upd Y6 E0 (.tup [])) E0 [] := sq_tup upd_same
      generalize upd Y6 E0 (.tup []) = Z1 at *
      replace s1 := TK.same kE0 _ _ s1
      replace s2 := TK.same kE0 _ _ s2
      replace s3 := TK.same kE0 _ _ s3
      replace d3 := DpAll.same kE0 _ _ d3
      replace f1 := Fd.same f1 kE0
      replace kk := Ch.trans kk (Ch.of_same kE0)
      replace gOF := NOs.same gOF kE0
      replace eOF := kE0 _ _ eOF
      replace gEN := NOs.same gEN kE0
      replace eEN := kE0 _ _ eEN
      replace gr := NOs.same gr kE0
      replace gp := NOs.same gp kE0
      replace gP := NO.same gP kE0
      replace gR := NO.same gR kE0
      clear kE0
      refine ⟨rsD rs, .tuple [], .tup s3 d3, .tup eE0 .nil, rs_shaped nmr, rfl, ?_⟩
      clear eE0
      rcases hrs : rs with _ | ⟨r0, rs0⟩
      · refine ⟨false, rfl, ?_⟩
        rw [if_neg (by decide)]
        repeat' (walk_at "jv")
        refine i_slG s3 fun P1 X56 kP1 sP1 => ?_
        rw [cut_take] at sP1
        replace s1 := TK.same kP1 _ _ s1
        replace s2 := TK.same kP1 _ _ s2
        replace s3 := TK.same kP1 _ _ s3
        replace d3 := DpAll.same kP1 _ _ d3
        replace f1 := Fd.same f1 kP1
        replace kk := Ch.trans kk (Ch.of_same kP1)
        replace gOF := NOs.same gOF kP1
        replace eOF := kP1 _ _ eOF
        replace gEN := NOs.same gEN kP1
        replace eEN := kP1 _ _ eEN
        replace gr := NOs.same gr kP1
        replace gp := NOs.same gp kP1
        replace gP := NO.same gP kP1
        replace gR := NO.same gR kP1
        clear kP1
        repeat' (walk_at "jv")
        refine ⟨a, EN, _, en, rfl, f1, SqA.l (sq_lst eEN), dEN, by omega, by omega, by omega, fun y Y7 hy f2 k2 => ?_⟩
        have gy := gEN y hy
        clear hy
        replace s1 := TK.ch k2 f1 _ _ s1
        replace s2 := TK.ch k2 f1 _ _ s2
        replace s3 := TK.ch k2 f1 _ _ s3
        replace d3 := DpAll.tk (TK.ch k2 f1) _ _ (roads_only _) d3
        replace kk := Ch.trans kk k2
        replace gOF := NOs.ch gOF k2 f1
        replace gEN := NOs.ch gEN k2 f1
        replace gr := NOs.ch gr k2 f1
        replace gp := NOs.ch gp k2 f1
        replace gP := NO.ch gP k2 f1
        replace gR := NO.ch gR k2 f1
        replace sP1 := TK.ch k2 f1 _ _ sP1
        replace gy := NO.ch gy k2 f1
        replace eOF := k2 _ _ dOF eOF
        replace eEN := k2 _ _ dEN eEN
        clear f1 k2
        have f1 := f2
        clear f2
        repeat' (walk_at "jv")
        intro PT nPT
        have dPT := f1.ne nPT
        have kPT := Same.upd_new (o := .tup ([y])) nPT
        have ePT : SqT K (upd Y7 PT (.tup ([y]))) PT ([y]) := sq_tup upd_same
        generalize upd Y7 PT (.tup ([y])) = X57 at *
        replace s1 := TK.same kPT _ _ s1
        replace s2 := TK.same kPT _ _ s2
        replace s3 := TK.same kPT _ _ s3
        replace d3 := DpAll.same kPT _ _ d3
        replace f1 := Fd.same f1 kPT
        replace kk := Ch.trans kk (Ch.of_same kPT)
        replace gOF := NOs.same gOF kPT
        replace gEN := NOs.same gEN kPT
        replace gr := NOs.same gr kPT
        replace gp := NOs.same gp kPT
        replace gP := NO.same gP kPT
        replace gR := NO.same gR kPT
        replace sP1 := TK.same kPT _ _ sP1
        replace gy := NO.same gy kPT
        clear kPT nPT
        repeat' (walk_at "jv")
        refine i_catG sP1 ePT (by rw [List.length_take, sizeLine_eq]; show _ + 1 ≤ _; omega) fun P2 X58 kP2 sP2 => ?_
        replace s1 := TK.same kP2 _ _ s1
        replace s2 := TK.same kP2 _ _ s2
        replace s3 := TK.same kP2 _ _ s3
        replace d3 := DpAll.same kP2 _ _ d3
        replace f1 := Fd.same f1 kP2
        replace kk := Ch.trans kk (Ch.of_same kP2)
        replace gOF := NOs.same gOF kP2
        replace gEN := NOs.same gEN kP2
        replace gr := NOs.same gr kP2
        replace gp := NOs.same gp kP2
        replace gP := NO.same gP kP2
        replace gR := NO.same gR kP2
        replace gy := NO.same gy kP2
        clear kP2
        repeat' (walk_at "jv")
        obtain ⟨e, he, hse⟩ : ∃ e : Nat, ((sp : Nat) : Int) + (if decide (wy = 6) = true then 1 else 0) = (e : Int) ∧ sp ≤ e := ⟨if decide (wy = 6) = true then sp + 1 else sp, by split <;> omega, by split <;> omega⟩
        rw [he]
        refine i_slG s3 fun P3 X59 kP3 sP3 => ?_
        rw [cut_from] at sP3
        replace s1 := TK.same kP3 _ _ s1
        replace s2 := TK.same kP3 _ _ s2
        replace s3 := TK.same kP3 _ _ s3
        replace d3 := DpAll.same kP3 _ _ d3
        replace f1 := Fd.same f1 kP3
        replace kk := Ch.trans kk (Ch.of_same kP3)
        replace gOF := NOs.same gOF kP3
        replace gEN := NOs.same gEN kP3
        replace gr := NOs.same gr kP3
        replace gp := NOs.same gp kP3
        replace gP := NO.same gP kP3
        replace gR := NO.same gR kP3
        replace gy := NO.same gy kP3
        replace sP2 := TK.same kP3 _ _ sP2
        clear kP3
        repeat' (walk_at "jv")
        refine i_catG sP2 sP3 (by rw [List.length_append, List.length_take, List.length_drop, sizeLine_eq]; show _ + 1 + _ ≤ _; omega) fun P4 X60 kP4 sP4 => ?_
        replace s1 := TK.same kP4 _ _ s1
        replace s2 := TK.same kP4 _ _ s2
        replace s3 := TK.same kP4 _ _ s3
        replace d3 := DpAll.same kP4 _ _ d3
        replace f1 := Fd.same f1 kP4
        replace kk := Ch.trans kk (Ch.of_same kP4)
        replace gOF := NOs.same gOF kP4
        replace gEN := NOs.same gEN kP4
        replace gr := NOs.same gr kP4
        replace gp := NOs.same gp kP4
        replace gP := NO.same gP kP4
        replace gR := NO.same gR kP4
        replace gy := NO.same gy kP4
        clear kP4
        have gP4 : NO K 3 6416 X60 a (.ref P4) := no_tup sP4 (((gr.take sp).app (.one gy.mono)).app (gr.drop e)) (k := 16) (by rw [List.length_append, List.length_append, List.length_take, List.length_drop]; show _ + 1 + _ ≤ 16; omega)
        repeat' (walk_at "jv")
        intro TH nTH
        have dTH := f1.ne nTH
        have kTH := Same.upd_new (o := .tup ([.ref tp, .ref P4])) nTH
        have eTH : SqT K (upd X60 TH (.tup ([.ref tp, .ref P4]))) TH ([.ref tp, .ref P4]) := sq_tup upd_same
        generalize upd X60 TH (.tup ([.ref tp, .ref P4])) = X61 at *
        replace s1 := TK.same kTH _ _ s1
        replace s2 := TK.same kTH _ _ s2
        replace s3 := TK.same kTH _ _ s3
        replace d3 := DpAll.same kTH _ _ d3
        replace f1 := Fd.same f1 kTH
        replace kk := Ch.trans kk (Ch.of_same kTH)
        replace gOF := NOs.same gOF kTH
        replace gEN := NOs.same gEN kTH
        replace gr := NOs.same gr kTH
        replace gp := NOs.same gp kTH
        replace gP := NO.same gP kTH
        replace gR := NO.same gR kTH
        replace gy := NO.same gy kTH
        replace gP4 := NO.same gP4 kTH
        clear kTH nTH
        have gTH : NO K 4 19251 X61 a (.ref TH) := no_tup (m := 3) (n := 6416) eTH (.cons gP <| .cons gP4 .nil) (k := 3) (by show 2 ≤ 3; decide)
        exact q _ _ (NO.nz gTH) (f1.mono (by omega)) kk
      · refine ⟨true, rfl, ?_⟩
        rw [if_pos rfl]
        have hx0 : 0 < xs.length := by rw [hxl, hrs]; exact Nat.succ_pos _
        repeat' (walk_at "jv")
        refine ⟨a, tr, c + 1 + 1 + 1 + 1 + 1 + 1, xs, rfl, f1, s3, hx0, by omega, by omega, fun rv Y7 hrv f2 k2 => ?_⟩
        replace s1 := TK.ch k2 f1 _ _ s1
        replace s2 := TK.ch k2 f1 _ _ s2
        replace s3 := TK.ch k2 f1 _ _ s3
        replace d3 := DpAll.tk (TK.ch k2 f1) _ _ (roads_only _) d3
        replace kk := Ch.trans kk k2
        replace gOF := NOs.ch gOF k2 f1
        replace gEN := NOs.ch gEN k2 f1
        replace gr := NOs.ch gr k2 f1
        replace gp := NOs.ch gp k2 f1
        replace gP := NO.ch gP k2 f1
        replace gR := NO.ch gR k2 f1
        replace eOF := k2 _ _ dOF eOF
        replace eEN := k2 _ _ dEN eEN
        clear f1 k2
        have f1 := f2
        clear f2
        obtain ⟨i0, hi0⟩ := List.getElem?_of_mem hrv
        obtain ⟨r, rt, hr2, rfl, st⟩ := road_getW d3 hi0
        obtain ⟨m1, m2⟩ := nmr r (List.mem_of_getElem? hr2)
        clear hrv hi0
        repeat' (walk_at "jv")
        refine i_slG s3 fun P1 X62 kP1 sP1 => ?_
        rw [cut_take] at sP1
        replace s1 := TK.same kP1 _ _ s1
        replace s2 := TK.same kP1 _ _ s2
        replace s3 := TK.same kP1 _ _ s3
        replace d3 := DpAll.same kP1 _ _ d3
        replace f1 := Fd.same f1 kP1
        replace kk := Ch.trans kk (Ch.of_same kP1)
        replace gOF := NOs.same gOF kP1
        replace gEN := NOs.same gEN kP1
        replace gr := NOs.same gr kP1
        replace gp := NOs.same gp kP1
        replace gP := NO.same gP kP1
        replace gR := NO.same gR kP1
        replace st := TK.same kP1 _ _ st
        clear kP1
        repeat' (walk_at "jv")
        have rdA : Dp K X62 (.ref rt) (roadD r) := .tup st (.cons (.str _) (.cons (.str _) .nil))
        refine rev_road (r := r) (fun Q' h => by repeat' (first | exact h | walk_at "jv")) rdA (fun yr X63 kR dyr => ?_)
        clear rdA
        replace s1 := TK.same kR _ _ s1
        replace s2 := TK.same kR _ _ s2
        replace s3 := TK.same kR _ _ s3
        replace d3 := DpAll.same kR _ _ d3
        replace f1 := Fd.same f1 kR
        replace kk := Ch.trans kk (Ch.of_same kR)
        replace gOF := NOs.same gOF kR
        replace gEN := NOs.same gEN kR
        replace gr := NOs.same gr kR
        replace gp := NOs.same gp kR
        replace gP := NO.same gP kR
        replace gR := NO.same gR kR
        replace st := TK.same kR _ _ st
        replace sP1 := TK.same kR _ _ sP1
        clear kR
        have gyr : NO K 2 400 X63 a yr := (no_road dyr m2 m1).mono
        repeat' (walk_at "jv")
        intro LR nLR
        have dLR := f1.ne nLR
        have kLR := Same.upd_new (o := .lst ([.str r.1, .str r.2])) nLR
        have eLR : (upd X63 LR (.lst ([.str r.1, .str r.2]))) LR = some (.lst ([.str r.1, .str r.2])) := upd_same
        generalize upd X63 LR (.lst ([.str r.1, .str r.2])) = X64 at *
        replace s1 := TK.same kLR _ _ s1
        replace s2 := TK.same kLR _ _ s2
        replace s3 := TK.same kLR _ _ s3
        replace d3 := DpAll.same kLR _ _ d3
        replace f1 := Fd.same f1 kLR
        replace kk := Ch.trans kk (Ch.of_same kLR)
        replace gOF := NOs.same gOF kLR
        replace gEN := NOs.same gEN kLR
        replace gr := NOs.same gr kLR
        replace gp := NOs.same gp kLR
        replace gP := NO.same gP kLR
        replace gR := NO.same gR kLR
        replace st := TK.same kLR _ _ st
        replace sP1 := TK.same kLR _ _ sP1
        replace gyr := NO.same gyr kLR
        clear kLR nLR
        have gLR : NO K 2 400 X64 a (.ref LR) := (no_list eLR dLR (.cons (no_name m1) <| .cons (no_name m2) .nil) (k := 2) (by show 2 ≤ 2; decide)).mono
        repeat' (walk_at "jv")
        intro TZ nTZ
        have dTZ := f1.ne nTZ
        have kTZ := Same.upd_new (o := .tup ([.str z1])) nTZ
        have eTZ : SqT K (upd X64 TZ (.tup ([.str z1]))) TZ ([.str z1]) := sq_tup upd_same
        generalize upd X64 TZ (.tup ([.str z1])) = X65 at *
        replace s1 := TK.same kTZ _ _ s1
        replace s2 := TK.same kTZ _ _ s2
        replace s3 := TK.same kTZ _ _ s3
        replace d3 := DpAll.same kTZ _ _ d3
        replace f1 := Fd.same f1 kTZ
        replace kk := Ch.trans kk (Ch.of_same kTZ)
        replace gOF := NOs.same gOF kTZ
        replace gEN := NOs.same gEN kTZ
        replace gr := NOs.same gr kTZ
        replace gp := NOs.same gp kTZ
        replace gP := NO.same gP kTZ
        replace gR := NO.same gR kTZ
        replace st := TK.same kTZ _ _ st
        replace sP1 := TK.same kTZ _ _ sP1
        replace gyr := NO.same gyr kTZ
        replace gLR := NO.same gLR kTZ
        clear kTZ nTZ
        repeat' (walk_at "jv")
        refine i_catG st eTZ (by rw [sizeLine_eq]; show 2 + 1 ≤ _; omega) fun RC X66 kRC sRC => ?_
        replace s1 := TK.same kRC _ _ s1
        replace s2 := TK.same kRC _ _ s2
        replace s3 := TK.same kRC _ _ s3
        replace d3 := DpAll.same kRC _ _ d3
        replace f1 := Fd.same f1 kRC
        replace kk := Ch.trans kk (Ch.of_same kRC)
        replace gOF := NOs.same gOF kRC
        replace gEN := NOs.same gEN kRC
        replace gr := NOs.same gr kRC
        replace gp := NOs.same gp kRC
        replace gP := NO.same gP kRC
        replace gR := NO.same gR kRC
        replace st := TK.same kRC _ _ st
        replace sP1 := TK.same kRC _ _ sP1
        replace gyr := NO.same gyr kRC
        replace gLR := NO.same gLR kRC
        clear kRC
        have gRC : NO K 2 400 X66 a (.ref RC) := (no_tup sRC (.cons (no_name m1) <| .cons (no_name m2) <| .cons (no_name n1) .nil) (k := 3) (by show 3 ≤ 3; decide)).mono
        repeat' (walk_at "jv")
        refine i_slG st fun RS X67 kRS sRS => ?_
        rw [show (1 : Int) = ((1 : Nat) : Int) from rfl, cut_take] at sRS
        replace sRS : SqT K X67 RS [.str r.1] := sRS
        replace s1 := TK.same kRS _ _ s1
        replace s2 := TK.same kRS _ _ s2
        replace s3 := TK.same kRS _ _ s3
        replace d3 := DpAll.same kRS _ _ d3
        replace f1 := Fd.same f1 kRS
        replace kk := Ch.trans kk (Ch.of_same kRS)
        replace gOF := NOs.same gOF kRS
        replace gEN := NOs.same gEN kRS
        replace gr := NOs.same gr kRS
        replace gp := NOs.same gp kRS
        replace gP := NO.same gP kRS
        replace gR := NO.same gR kRS
        replace st := TK.same kRS _ _ st
        replace sP1 := TK.same kRS _ _ sP1
        replace gyr := NO.same gyr kRS
        replace gLR := NO.same gLR kRS
        replace gRC := NO.same gRC kRS
        clear kRS
        have gRS : NO K 2 400 X67 a (.ref RS) := (no_tup sRS (.one (no_name m1)) (k := 1) (by show 1 ≤ 1; decide)).mono
        repeat' (walk_at "jv")
        intro RL nRL
        have dRL := f1.ne nRL
        have kRL := Same.upd_new (o := .lst ([.ref rt, yr, .ref LR, .ref RC, .ref RS])) nRL
        have eRL : (upd X67 RL (.lst ([.ref rt, yr, .ref LR, .ref RC, .ref RS]))) RL = some (.lst ([.ref rt, yr, .ref LR, .ref RC, .ref RS])) := upd_same
        generalize upd X67 RL (.lst ([.ref rt, yr, .ref LR, .ref RC, .ref RS])) = X68 at *
        replace s1 := TK.same kRL _ _ s1
        replace s2 := TK.same kRL _ _ s2
        replace s3 := TK.same kRL _ _ s3
        replace d3 := DpAll.same kRL _ _ d3
        replace f1 := Fd.same f1 kRL
        replace kk := Ch.trans kk (Ch.of_same kRL)
        replace gOF := NOs.same gOF kRL
        replace gEN := NOs.same gEN kRL
        replace gr := NOs.same gr kRL
        replace gp := NOs.same gp kRL
        replace gP := NO.same gP kRL
        replace gR := NO.same gR kRL
        replace st := TK.same kRL _ _ st
        replace sP1 := TK.same kRL _ _ sP1
        replace gyr := NO.same gyr kRL
        replace gLR := NO.same gLR kRL
        replace gRC := NO.same gRC kRL
        replace gRS := NO.same gRS kRL
        clear kRL nRL
        have gRD : NO K 2 400 X68 a (.ref rt) := (no_road (.tup st (.cons (.str _) (.cons (.str _) .nil))) m1 m2).mono
        have gRL : NOs K 2 400 X68 a [.ref rt, yr, .ref LR, .ref RC, .ref RS] := .cons gRD <| .cons gyr <| .cons gLR <| .cons gRC <| .cons gRS .nil
        repeat' (walk_at "jv")
        refine ⟨a, RL, _, _, rfl, f1, SqA.l (sq_lst eRL), dRL, by show 0 < 5; decide, by show 5 < 1000000; decide, by omega, fun y Y8 hy f2 k2 => ?_⟩
        have gy := gRL y hy
        clear hy gRL gRD
        replace s1 := TK.ch k2 f1 _ _ s1
        replace s2 := TK.ch k2 f1 _ _ s2
        replace s3 := TK.ch k2 f1 _ _ s3
        replace d3 := DpAll.tk (TK.ch k2 f1) _ _ (roads_only _) d3
        replace kk := Ch.trans kk k2
        replace gOF := NOs.ch gOF k2 f1
        replace gEN := NOs.ch gEN k2 f1
        replace gr := NOs.ch gr k2 f1
        replace gp := NOs.ch gp k2 f1
        replace gP := NO.ch gP k2 f1
        replace gR := NO.ch gR k2 f1
        replace st := TK.ch k2 f1 _ _ st
        replace sP1 := TK.ch k2 f1 _ _ sP1
        replace gy := NO.ch gy k2 f1
        clear f1 k2
        have f1 := f2
        clear f2
        repeat' (walk_at "jv")
        intro PT nPT
        have dPT := f1.ne nPT
        have kPT := Same.upd_new (o := .tup ([y])) nPT
        have ePT : SqT K (upd Y8 PT (.tup ([y]))) PT ([y]) := sq_tup upd_same
        generalize upd Y8 PT (.tup ([y])) = X69 at *
        replace s1 := TK.same kPT _ _ s1
        replace s2 := TK.same kPT _ _ s2
        replace s3 := TK.same kPT _ _ s3
        replace d3 := DpAll.same kPT _ _ d3
        replace f1 := Fd.same f1 kPT
        replace kk := Ch.trans kk (Ch.of_same kPT)
        replace gOF := NOs.same gOF kPT
        replace gEN := NOs.same gEN kPT
        replace gr := NOs.same gr kPT
        replace gp := NOs.same gp kPT
        replace gP := NO.same gP kPT
        replace gR := NO.same gR kPT
        replace st := TK.same kPT _ _ st
        replace sP1 := TK.same kPT _ _ sP1
        replace gy := NO.same gy kPT
        clear kPT nPT
        repeat' (walk_at "jv")
        refine i_catG sP1 ePT (by rw [List.length_take, sizeLine_eq]; show _ + 1 ≤ _; omega) fun P2 X70 kP2 sP2 => ?_
        replace s1 := TK.same kP2 _ _ s1
        replace s2 := TK.same kP2 _ _ s2
        replace s3 := TK.same kP2 _ _ s3
        replace d3 := DpAll.same kP2 _ _ d3
        replace f1 := Fd.same f1 kP2
        replace kk := Ch.trans kk (Ch.of_same kP2)
        replace gOF := NOs.same gOF kP2
        replace gEN := NOs.same gEN kP2
        replace gr := NOs.same gr kP2
        replace gp := NOs.same gp kP2
        replace gP := NO.same gP kP2
        replace gR := NO.same gR kP2
        replace st := TK.same kP2 _ _ st
        replace gy := NO.same gy kP2
        clear kP2
        repeat' (walk_at "jv")
        refine i_slG s3 fun P3 X71 kP3 sP3 => ?_
        rw [cut_from] at sP3
        replace s1 := TK.same kP3 _ _ s1
        replace s2 := TK.same kP3 _ _ s2
        replace s3 := TK.same kP3 _ _ s3
        replace d3 := DpAll.same kP3 _ _ d3
        replace f1 := Fd.same f1 kP3
        replace kk := Ch.trans kk (Ch.of_same kP3)
        replace gOF := NOs.same gOF kP3
        replace gEN := NOs.same gEN kP3
        replace gr := NOs.same gr kP3
        replace gp := NOs.same gp kP3
        replace gP := NO.same gP kP3
        replace gR := NO.same gR kP3
        replace st := TK.same kP3 _ _ st
        replace gy := NO.same gy kP3
        replace sP2 := TK.same kP3 _ _ sP2
        clear kP3
        repeat' (walk_at "jv")
        refine i_catG sP2 sP3 (by rw [List.length_append, List.length_take, List.length_drop, sizeLine_eq]; show _ + 1 + _ ≤ _; omega) fun P4 X72 kP4 sP4 => ?_
        replace s1 := TK.same kP4 _ _ s1
        replace s2 := TK.same kP4 _ _ s2
        replace s3 := TK.same kP4 _ _ s3
        replace d3 := DpAll.same kP4 _ _ d3
        replace f1 := Fd.same f1 kP4
        replace kk := Ch.trans kk (Ch.of_same kP4)
        replace gOF := NOs.same gOF kP4
        replace gEN := NOs.same gEN kP4
        replace gr := NOs.same gr kP4
        replace gp := NOs.same gp kP4
        replace gP := NO.same gP kP4
        replace gR := NO.same gR kP4
        replace st := TK.same kP4 _ _ st
        replace gy := NO.same gy kP4
        clear kP4
        have gP4 : NO K 3 6416 X72 a (.ref P4) := no_tup sP4 (((gr.take sp).app (.one gy.mono)).app (gr.drop sp)) (k := 16) (by rw [List.length_append, List.length_append, List.length_take, List.length_drop]; show _ + 1 + _ ≤ 16; omega)
        repeat' (walk_at "jv")
        intro TH nTH
        have dTH := f1.ne nTH
        have kTH := Same.upd_new (o := .tup ([.ref tp, .ref P4])) nTH
        have eTH : SqT K (upd X72 TH (.tup ([.ref tp, .ref P4]))) TH ([.ref tp, .ref P4]) := sq_tup upd_same
        generalize upd X72 TH (.tup ([.ref tp, .ref P4])) = X73 at *
        replace s1 := TK.same kTH _ _ s1
        replace s2 := TK.same kTH _ _ s2
        replace s3 := TK.same kTH _ _ s3
        replace d3 := DpAll.same kTH _ _ d3
        replace f1 := Fd.same f1 kTH
        replace kk := Ch.trans kk (Ch.of_same kTH)
        replace gOF := NOs.same gOF kTH
        replace gEN := NOs.same gEN kTH
        replace gr := NOs.same gr kTH
        replace gp := NOs.same gp kTH
        replace gP := NO.same gP kTH
        replace gR := NO.same gR kTH
        replace st := TK.same kTH _ _ st
        replace gy := NO.same gy kTH
        replace gP4 := NO.same gP4 kTH
        clear kTH nTH
        have gTH : NO K 4 19251 X73 a (.ref TH) := no_tup (m := 3) (n := 6416) eTH (.cons gP <| .cons gP4 .nil) (k := 3) (by show 2 ≤ 3; decide)
        exact q _ _ (NO.nz gTH) (f1.mono (by omega)) kk
    · skip
      refine i_slG s3 fun P1 X74 kP1 sP1 => ?_
      rw [cut_take] at sP1
      replace s1 := TK.same kP1 _ _ s1
      replace s2 := TK.same kP1 _ _ s2
      replace s3 := TK.same kP1 _ _ s3
      replace d3 := DpAll.same kP1 _ _ d3
      replace f1 := Fd.same f1 kP1
      replace kk := Ch.trans kk (Ch.of_same kP1)
      replace gOF := NOs.same gOF kP1
      replace eOF := kP1 _ _ eOF
      replace gEN := NOs.same gEN kP1
      replace eEN := kP1 _ _ eEN
      replace gr := NOs.same gr kP1
      replace gp := NOs.same gp kP1
      replace gP := NO.same gP kP1
      replace gR := NO.same gR kP1
      clear kP1
      repeat' (walk_at "jv")
      refine ⟨a, EN, _, en, rfl, f1, SqA.l (sq_lst eEN), dEN, by omega, by omega, by omega, fun y Y7 hy f2 k2 => ?_⟩
      have gy := gEN y hy
      clear hy
      replace s1 := TK.ch k2 f1 _ _ s1
      replace s2 := TK.ch k2 f1 _ _ s2
      replace s3 := TK.ch k2 f1 _ _ s3
      replace d3 := DpAll.tk (TK.ch k2 f1) _ _ (roads_only _) d3
      replace kk := Ch.trans kk k2
      replace gOF := NOs.ch gOF k2 f1
      replace gEN := NOs.ch gEN k2 f1
      replace gr := NOs.ch gr k2 f1
      replace gp := NOs.ch gp k2 f1
      replace gP := NO.ch gP k2 f1
      replace gR := NO.ch gR k2 f1
      replace sP1 := TK.ch k2 f1 _ _ sP1
      replace gy := NO.ch gy k2 f1
      replace eOF := k2 _ _ dOF eOF
      replace eEN := k2 _ _ dEN eEN
      clear f1 k2
      have f1 := f2
      clear f2
      repeat' (walk_at "jv")
      intro PT nPT
      have dPT := f1.ne nPT
      have kPT := Same.upd_new (o := .tup ([y])) nPT
      have ePT : SqT K (upd Y7 PT (.tup ([y]))) PT ([y]) := sq_tup upd_same
      generalize upd Y7 PT (.tup ([y])) = X75 at *
      replace s1 := TK.same kPT _ _ s1
      replace s2 := TK.same kPT _ _ s2
      replace s3 := TK.same kPT _ _ s3
      replace d3 := DpAll.same kPT _ _ d3
      replace f1 := Fd.same f1 kPT
      replace kk := Ch.trans kk (Ch.of_same kPT)
      replace gOF := NOs.same gOF kPT
      replace gEN := NOs.same gEN kPT
      replace gr := NOs.same gr kPT
      replace gp := NOs.same gp kPT
      replace gP := NO.same gP kPT
      replace gR := NO.same gR kPT
      replace sP1 := TK.same kPT _ _ sP1
      replace gy := NO.same gy kPT
      clear kPT nPT
      repeat' (walk_at "jv")
      refine i_catG sP1 ePT (by rw [List.length_take, sizeLine_eq]; show _ + 1 ≤ _; omega) fun P2 X76 kP2 sP2 => ?_
      replace s1 := TK.same kP2 _ _ s1
      replace s2 := TK.same kP2 _ _ s2
      replace s3 := TK.same kP2 _ _ s3
      replace d3 := DpAll.same kP2 _ _ d3
      replace f1 := Fd.same f1 kP2
      replace kk := Ch.trans kk (Ch.of_same kP2)
      replace gOF := NOs.same gOF kP2
      replace gEN := NOs.same gEN kP2
      replace gr := NOs.same gr kP2
      replace gp := NOs.same gp kP2
      replace gP := NO.same gP kP2
      replace gR := NO.same gR kP2
      replace gy := NO.same gy kP2
      clear kP2
      repeat' (walk_at "jv")
      obtain ⟨e, he, hse⟩ : ∃ e : Nat, ((sp : Nat) : Int) + (if decide (wy = 6) = true then 1 else 0) = (e : Int) ∧ sp ≤ e := ⟨if decide (wy = 6) = true then sp + 1 else sp, by split <;> omega, by split <;> omega⟩
      rw [he]
      refine i_slG s3 fun P3 X77 kP3 sP3 => ?_
      rw [cut_from] at sP3
      replace s1 := TK.same kP3 _ _ s1
      replace s2 := TK.same kP3 _ _ s2
      replace s3 := TK.same kP3 _ _ s3
      replace d3 := DpAll.same kP3 _ _ d3
      replace f1 := Fd.same f1 kP3
      replace kk := Ch.trans kk (Ch.of_same kP3)
      replace gOF := NOs.same gOF kP3
      replace gEN := NOs.same gEN kP3
      replace gr := NOs.same gr kP3
      replace gp := NOs.same gp kP3
      replace gP := NO.same gP kP3
      replace gR := NO.same gR kP3
      replace gy := NO.same gy kP3
      replace sP2 := TK.same kP3 _ _ sP2
      clear kP3
      repeat' (walk_at "jv")
      refine i_catG sP2 sP3 (by rw [List.length_append, List.length_take, List.length_drop, sizeLine_eq]; show _ + 1 + _ ≤ _; omega) fun P4 X78 kP4 sP4 => ?_
      replace s1 := TK.same kP4 _ _ s1
      replace s2 := TK.same kP4 _ _ s2
      replace s3 := TK.same kP4 _ _ s3
      replace d3 := DpAll.same kP4 _ _ d3
      replace f1 := Fd.same f1 kP4
      replace kk := Ch.trans kk (Ch.of_same kP4)
      replace gOF := NOs.same gOF kP4
      replace gEN := NOs.same gEN kP4
      replace gr := NOs.same gr kP4
      replace gp := NOs.same gp kP4
      replace gP := NO.same gP kP4
      replace gR := NO.same gR kP4
      replace gy := NO.same gy kP4
      clear kP4
      have gP4 : NO K 3 6416 X78 a (.ref P4) := no_tup sP4 (((gr.take sp).app (.one gy.mono)).app (gr.drop e)) (k := 16) (by rw [List.length_append, List.length_append, List.length_take, List.length_drop]; show _ + 1 + _ ≤ 16; omega)
      repeat' (walk_at "jv")
      intro TH nTH
      have dTH := f1.ne nTH
      have kTH := Same.upd_new (o := .tup ([.ref tp, .ref P4])) nTH
      have eTH : SqT K (upd X78 TH (.tup ([.ref tp, .ref P4]))) TH ([.ref tp, .ref P4]) := sq_tup upd_same
      generalize upd X78 TH (.tup ([.ref tp, .ref P4])) = X79 at *
      replace s1 := TK.same kTH _ _ s1
      replace s2 := TK.same kTH _ _ s2
      replace s3 := TK.same kTH _ _ s3
      replace d3 := DpAll.same kTH _ _ d3
      replace f1 := Fd.same f1 kTH
      replace kk := Ch.trans kk (Ch.of_same kTH)
      replace gOF := NOs.same gOF kTH
      replace gEN := NOs.same gEN kTH
      replace gr := NOs.same gr kTH
      replace gp := NOs.same gp kTH
      replace gP := NO.same gP kTH
      replace gR := NO.same gR kTH
      replace gy := NO.same gy kTH
      replace gP4 := NO.same gP4 kTH
      clear kTH nTH
      have gTH : NO K 4 19251 X79 a (.ref TH) := no_tup (m := 3) (n := 6416) eTH (.cons gP <| .cons gP4 .nil) (k := 3) (by show 2 ≤ 3; decide)
      exact q _ _ (NO.nz gTH) (f1.mono (by omega)) kk
end
end
section
open L2 PySem PySem.Spec PyProof.Rows
abbrev s__law_near_rule : Stmt := topS 48
theorem sc__law_near_rule : FnScope ["_law_feed_here", "_law_k", "_law_others", "_law_rule_here", "_law_size", "_law_row", "_law_at", "_law_spot", "_law_wrong", "_law_way", "_law_cells", "_law_table", "_law_some", "_law_rows", "_law_line", "_law_odd", "_law_bent", "_law_turn"] ["_law_feed_here", "_law_k", "_law_others", "_law_rule_here"] (defScope s__law_near_rule) := ⟨rfl, rfl, rfl, by decide +kernel, rfl, by decide +kernel, by decide +kernel⟩
theorem Nzs.split {b : Bool} {m n : Nat} : ∀ {ds es : List PyData}, Nzs b m n (ds ++ es) → Nzs b m n ds ∧ Nzs b m n es
  | [], es, h => ⟨Nzs.nil.mono (Nat.le_refl _) (Nat.zero_le _), h⟩
  | d :: ds, es, h => by
    have e1 : (d.showable && PyData.showableAll (ds ++ es)) = true := h.sho
    have e4 : max d.depth (PyData.depthAll (ds ++ es)) ≤ m := h.dep
    have e5 : (d.leavesShort 40 && PyData.leavesShortAll 40 (ds ++ es)) = true := h.lea
    have e6 : d.weight + 1 + PyData.weightAll (ds ++ es) ≤ n := h.wei
    have e7 : (okD d && okAll (ds ++ es)) = true := h.ok
    rw [Bool.and_eq_true] at e1 e5 e7
    have hd : Nz b m d.weight d := ⟨e1.1, fun e => by
      have : (d.hasDict || PyData.hasDictAll (ds ++ es)) = false := h.dct e
      rw [Bool.or_eq_false_iff] at this
      exact this.1, fun e => by
      have : (noL d && noLs (ds ++ es)) = true := h.nol e
      rw [Bool.and_eq_true] at this
      exact this.1, by omega, e5.1, Nat.le_refl _, e7.1⟩
    have ht : Nzs b m (n - (d.weight + 1)) (ds ++ es) := ⟨e1.2, fun e => by
      have : (d.hasDict || PyData.hasDictAll (ds ++ es)) = false := h.dct e
      rw [Bool.or_eq_false_iff] at this
      exact this.2, fun e => by
      have : (noL d && noLs (ds ++ es)) = true := h.nol e
      rw [Bool.and_eq_true] at this
      exact this.2, by omega, e5.2, by omega, e7.2⟩
    obtain ⟨i1, i2⟩ := ht.split
    exact ⟨(Nzs.cons hd i1).mono (Nat.le_refl _) (by omega), i2.mono (Nat.le_refl _) (by omega)⟩
def NB (K : PySem.W.Frag) (m n : Nat) (H : Hp) (a : Addr) (x : V) : Prop := ∀ b, NQ K b m n H a x
def NBs (K : PySem.W.Frag) (m n : Nat) (H : Hp) (a : Addr) (xs : List V) : Prop := ∀ b, NQs K b m n H a xs
section
variable {K : PySem.W.Frag} {b : Bool} {m n m' n' : Nat} {H H' : Hp} {a : Addr} {x : V} {xs ys : List V} {c : Int}
theorem NB.same (h : NB K m n H a x) (k : Same H H') : NB K m n H' a x := fun b => (h b).same k
theorem NB.ch (h : NB K m n H a x) (k : Ch a H H') (f : Fd H a c) : NB K m n H' a x := fun b => (h b).ch k f
theorem NBs.same (h : NBs K m n H a xs) (k : Same H H') : NBs K m n H' a xs := fun b => (h b).same k
theorem NBs.ch (h : NBs K m n H a xs) (k : Ch a H H') (f : Fd H a c) : NBs K m n H' a xs := fun b => (h b).ch k f
theorem NB.mono (h : NB K m n H a x) (hm : m ≤ m' := by decide) (hn : n ≤ n' := by decide) : NB K m' n' H a x := fun b => (h b).mono hm hn
theorem NBs.mono (h : NBs K m n H a xs) (hm : m ≤ m' := by decide) (hn : n ≤ n' := by decide) : NBs K m' n' H a xs := fun b => (h b).mono hm hn
theorem NB.nx (h : NB K m n H a x) : NX' K m n H a x := ⟨false, h false⟩
theorem NBs.cons (h : NB K m n H a x) (g : NBs K m n' H a xs) : NBs K m (n + 1 + n') H a (x :: xs) := fun b => NQs.cons (h b) (g b)
theorem NBs.nil : NBs K m 0 H a [] := fun _ => .nil
theorem NBs.app (h : NBs K m n H a xs) (g : NBs K m n' H a ys) : NBs K m (n + n') H a (xs ++ ys) := fun b => (h b).app (g b)
theorem NBs.tup {p : Addr} (s : SqT K H p xs) (h : NBs K m n H a xs) : NB K (m + 1) n H a (.ref p) := fun b => (h b).tup s
theorem NQs.take (h : NQs K b m n H a xs) (k : Nat) : NQs K b m n H a (xs.take k) := by
  obtain ⟨ds, os, rs⟩ := h
  rw [← List.take_append_drop k ds] at rs
  exact ⟨ds.take k, ObAll.take k os, rs.split.1⟩
theorem NQs.drop (h : NQs K b m n H a xs) (k : Nat) : NQs K b m n H a (xs.drop k) := by
  obtain ⟨ds, os, rs⟩ := h
  rw [← List.take_append_drop k ds] at rs
  exact ⟨ds.drop k, ObAll.drop k os, rs.split.2⟩
theorem nq_ints {t : List Nat} (h : ∀ x ∈ t, x < 3) : NQs K b 0 (3 * t.length) H a (natsV t) := ⟨_, ObAll.nats t, nz_ints h⟩
theorem NBs.take (h : NBs K m n H a xs) (k : Nat) : NBs K m n H a (xs.take k) := fun b => (h b).take k
theorem NBs.drop (h : NBs K m n H a xs) (k : Nat) : NBs K m n H a (xs.drop k) := fun b => (h b).drop k
theorem nb_str {z : Str} (h : PyData.strOk z = true) (hl : z.cps.size ≤ 20) : NB K 0 20 H a (.str z) := fun _ => nq_str h hl
theorem nb_none : NB K 0 20 H a .non := fun _ => nq_none.mono
theorem nb_bool (e : Bool) : NB K 0 20 H a (.bl e) := fun _ => (nq_bool e).mono
theorem nb_int {i : Int} (h0 : -5 ≤ i) (h1 : i < 395) : NB K 0 20 H a (.int i) := fun _ => (nq_int h0 h1).mono
theorem nb_far : NB K 0 110 H a (.int (10 ^ 30)) := fun _ => nq_far
theorem nb_ints {t : List Nat} (h : ∀ x ∈ t, x < 3) : NBs K 0 (3 * t.length) H a (natsV t) := fun _ => nq_ints h
theorem nb_name {z : Str} (h : nmOk z = true) : NB K 0 20 H a (.str z) := fun b => NQ.mono (n := 8) ⟨_, .str z, nz_name h⟩
theorem NX'.pair {p : Addr} {z : Str} (h : PyData.strOk z = true) (hl : z.cps.size ≤ 20) (s : SqT K H p [.str z, x]) (g : NX' K m n H a x) : NX' K (m + 1) (21 + (n + 1 + 0)) H a (.ref p) := by
  obtain ⟨b, g⟩ := g
  exact (NQs.tup s (NQs.cons ((nq_str h hl : NQ K b 0 20 H a _).mono (Nat.zero_le m) (Nat.le_refl _)) (.cons g .nil))).nx
theorem NX'.one {p : Addr} (s : SqT K H p [x]) (g : NX' K m n H a x) : NX' K (m + 1) (n + 1 + 0) H a (.ref p) := by
  obtain ⟨b, g⟩ := g
  exact (NQs.tup s (NQs.cons g .nil)).nx
theorem obl : ∀ {xs : List V} {ds : List PyData}, ObAll K H a xs ds → xs.length = ds.length
  | [], _, .nil => rfl
  | _ :: _, _, .cons _ h => congrArg (· + 1) (obl h)
theorem len_wei : ∀ ds : List PyData, ds.length ≤ PyData.weightAll ds
  | [] => Nat.zero_le _
  | d :: ds => by
    have := len_wei ds
    show ds.length + 1 ≤ d.weight + 1 + PyData.weightAll ds
    omega
theorem NQs.len (h : NQs K b m n H a xs) : xs.length ≤ n := by
  obtain ⟨ds, o, z⟩ := h
  rw [obl o]
  exact Nat.le_trans (len_wei ds) z.wei
theorem NBs.cut (h : NBs K m n H a xs) (lo hi : Option Int) : NBs K m n H a (cutV xs lo hi) := (h.drop _).take _
theorem cut_le {xs : List V} {lo hi : Option Int} : (cutV xs lo hi).length ≤ xs.length := by
  unfold cutV
  rw [List.length_take, List.length_drop]
  omega
theorem NBs.rep (h : NB K m n H a x) : ∀ k : Nat, NBs K m ((n + 1) * k) H a (List.replicate k x)
  | 0 => .nil
  | k + 1 => by
    rw [List.replicate_succ]
    exact (NBs.cons h (NBs.rep h k)).mono (Nat.le_refl _) (by rw [Nat.mul_succ]; omega)
theorem NX'.mid {n1 n2 : Nat} {p : Addr} (s : SqT K H p (xs ++ [x] ++ ys)) (h1 : NBs K m n1 H a xs) (g : NX' K m n H a x) (h2 : NBs K m n2 H a ys) : NX' K (m + 1) (n1 + (n + 1 + 0) + n2) H a (.ref p) := by
  obtain ⟨b, g⟩ := g
  exact (NQs.tup s (((h1 b).app (.cons g .nil)).app (h2 b))).nx
theorem fa_nil : ∀ x ∈ ([] : List V), NX' K m n H a x := fun _ h => nomatch h
theorem fa_cons (h : NX' K m n H a x) (t : ∀ y ∈ xs, NX' K m n H a y) : ∀ y ∈ x :: xs, NX' K m n H a y := fun y hy => by
  rcases List.mem_cons.mp hy with e | hy
  · rw [e]; exact h
  · exact t y hy
end
def spNearRule (K : PySem.W.Frag) : Sp := fun vs H Q _ => ∃ (a po rt : Addr) (c : Int) (k : Nat) (near : List Str) (es : List PyData), vs = [.ref a, .int (k : Int), .ref po, .ref rt] ∧ Fd H a c ∧ c < 10 ^ 13 ∧ H po = some (.lst (near.map V.str)) ∧ po ≠ a ∧ near.length ≤ 7 ∧ 2 ≤ k ∧ k ≤ 3 ∧ k ^ (near.length + 1) ≤ 256 ∧ (∀ z ∈ near, nmOk z = true) ∧ Dp K H (.ref rt) (.tuple es) ∧ RuleD k near (.tuple es) ∧
  ∀ (y : V) (H' : Hp), NX' K 5 100000 H' a y → Fd H' a (c + 2000) → Ch a H H' → Q y H'
section
variable {base : Heap} {P : Program} {w : World} {K : PySem.W.Frag} {mg : Str → Option Value}
theorem ok_near_rule (D : Dn K mg "_law_near_rule" s__law_near_rule ["_law_feed_here", "_law_k", "_law_others", "_law_rule_here"]) (B : Bn mg) (C__law_power : Cl P w K mg base 1 "_law_power" ["_law_k", "_law_many"] spPower) (C__law_draw : Cl P w K mg base 1 "_law_draw" ["_law_feed_here", "_law_many"] spDraw) (C__law_one : Cl P w K mg base 2 "_law_one" ["_law_feed_here", "_law_things"] (spOne K)) : Cl P w K mg base 3 "_law_near_rule" ["_law_feed_here", "_law_k", "_law_others", "_law_rule_here"] (spNearRule K) := by
  refine D.cl sc__law_near_rule (fun vs H Q E h => ?_) (fun f cdv A outer s H vs Q E hr h => ?_)
  · obtain ⟨a, po, rt, c, k, near, es, rfl, _⟩ := h
    rfl
  · obtain ⟨a, po, rt, c, k, near, es, rfl, f1, hc, ePO, dPO, hn, hk2, hk3, hb, nmn, dR, hR, q⟩ := h
    have hmn : (near.map V.str).length = near.length := List.length_map ..
    have zr := fun b => nz_rule (b := b) hR hk3 hn hb nmn
    have hw15 : near.length * (k - 1) + 1 ≤ 15 := by
      have := Nat.mul_le_mul hn (show k - 1 ≤ 2 by omega)
      omega
    have hme : (1 : Int) + (near.length : Int) * ((k : Int) - 1) = ((near.length * (k - 1) + 1 : Nat) : Int) := by
      rw [show (k : Int) - 1 = ((k - 1 : Nat) : Int) by omega, Int.natCast_add, Int.natCast_mul, Int.add_comm]
      rfl
    have hwd : 0 < near.length * (k - 1) + 1 := Nat.succ_pos _
    generalize near.length * (k - 1) + 1 = wd at *
    have hsz0 : 0 < k ^ (near.length + 1) := Nat.pow_pos (by omega)
    cases dR with
    | @tup _ rx _ sR aR =>
    have gR : NBs K 2 800 H a rx := fun b => by
      have z := zr b
      exact ⟨es, ObAll.of es rx (rule_only hR) aR, ⟨z.sho, z.dct, z.nol, Nat.le_of_succ_le_succ z.dep, z.lea, z.wei, z.ok⟩⟩
    have kk : Ch a H H := Ch.of_same (Same.refl _)
    refine ⟨_, (pss_cons (ps_set (i := 4) sc__law_near_rule.nd rfl (by first | exact Or.inl rfl | exact Or.inr rfl) (pe_c C__law_power hr (pa_cons (pv 1) (pa_cons (pe_op op_add pe_int (pe_callB (k_len (K := K)) rfl B.len_ (by decide +kernel) (pa_cons (pv 2) pa_nil))) pa_nil))))
      (pss_cons (ps_set (i := 5) sc__law_near_rule.nd rfl (by first | exact Or.inl rfl | exact Or.inr rfl) (pe_callTy (k_tuple (K := K)) rfl B.tuple_ (by decide +kernel) (pa_cons (pe_lc (own := [("_law_turn", 17)]) rfl sc__law_near_rule.nd (pi_range1 rfl B.range_ (pa_cons (pe_op op_add pe_int (pe_op op_mul (pe_callB (k_len (K := K)) rfl B.len_ (by decide +kernel) (pa_cons (pv 2) pa_nil)) (pe_op op_sub (pv 1) pe_int))) pa_nil)) (blkOk_by (N := ["_law_feed_here", "_law_k", "_law_others", "_law_rule_here", "_law_size", "_law_row", "_law_at", "_law_spot", "_law_wrong", "_law_way", "_law_cells", "_law_table", "_law_some", "_law_rows", "_law_line", "_law_odd", "_law_bent", "_law_turn"]) (sc := defScope s__law_near_rule) (by decide +kernel)) (fun _ _ _ _ _ => (pg_name (i := 17) sc__law_near_rule.nd rfl (by first | exact Or.inl rfl | exact Or.inr rfl))) (fun _ _ _ _ _ => pts_nil) (fun _ _ _ _ _ => (pe_c C__law_draw hr (pa_cons (pv 0) (pa_cons (pv 1) pa_nil))))) pa_nil)))
      (pss_cons (ps_par (i := 6) (j := 7) rfl sc__law_near_rule.nd rfl rfl (by decide) rfl rfl (pa_cons (pe_c C__law_draw hr (pa_cons (pv 0) (pa_cons (pv 4) pa_nil))) (pa_cons (pe_c C__law_draw hr (pa_cons (pv 0) (pa_cons (pe_callB (k_len (K := K)) rfl B.len_ (by decide +kernel) (pa_cons (pv 5) pa_nil)) pa_nil))) pa_nil)) (by rfl))
      (pss_cons (ps_set (i := 8) sc__law_near_rule.nd rfl (by first | exact Or.inl rfl | exact Or.inr rfl) (pe_c C__law_one hr (pa_cons (pv 0) (pa_cons (pe_lst (pa_cons (pv 1) (pa_cons (pe_un un_neg pe_int) (pa_cons pe_bl (pa_cons pe_bl (pa_cons pe_non (pa_cons pe_str (pa_cons (pe_tup (pa_cons pe_int pa_nil)) (pa_cons (pe_op op_pow pe_int pe_int) pa_nil))))))))) pa_nil))))
      (pss_cons (ps_set (i := 9) sc__law_near_rule.nd rfl (by first | exact Or.inl rfl | exact Or.inr rfl) (pe_c C__law_draw hr (pa_cons (pv 0) (pa_cons pe_int pa_nil))))
      (pss_cons (ps_if (pt_cmpR op_eq (pv 9) pe_int (nomark _)) (pss_cons (ps_setLc (i := 10) (own := [("_law_turn", 17)]) rfl sc__law_near_rule.nd rfl rfl (sw_true rfl rfl rfl (by decide +kernel)) (pi_range1 rfl B.range_ (pa_cons (pv 4) pa_nil)) (blkOk_by (N := ["_law_feed_here", "_law_k", "_law_others", "_law_rule_here", "_law_size", "_law_row", "_law_at", "_law_spot", "_law_wrong", "_law_way", "_law_cells", "_law_table", "_law_some", "_law_rows", "_law_line", "_law_odd", "_law_bent", "_law_turn"]) (sc := defScope s__law_near_rule) (by decide +kernel)) (fun _ _ _ _ _ => (pg_name (i := 17) sc__law_near_rule.nd rfl (by first | exact Or.inl rfl | exact Or.inr rfl))) (fun _ _ _ _ _ => pts_nil) (fun _ _ _ _ _ => (pe_c C__law_draw hr (pa_cons (pv 0) (pa_cons (pv 1) pa_nil)))))
      (pss_cons (ps_set (i := 11) sc__law_near_rule.nd rfl (by first | exact Or.inl rfl | exact Or.inr rfl) (pe_callTy (k_tuple (K := K)) rfl B.tuple_ (by decide +kernel) (pa_cons (pv 10) pa_nil)))
      (pss_cons (ps_set (i := 12) sc__law_near_rule.nd rfl (by first | exact Or.inl rfl | exact Or.inr rfl) (pe_lst (pa_cons (pe_tup (pa_cons pe_str (pa_cons (pv 11) pa_nil))) (pa_cons (pe_tup (pa_cons pe_str (pa_cons (pe_slice sl_tupA (pv 11) (po_some pe_int) po_none) pa_nil))) (pa_cons (pe_tup (pa_cons pe_str (pa_cons (pe_op op_catA (pv 11) (pe_tup (pa_cons pe_int pa_nil))) pa_nil))) (pa_cons (pe_tup (pa_cons pe_str (pa_cons (pv 10) pa_nil))) (pa_cons (pe_lst (pa_cons pe_str (pa_cons (pv 11) pa_nil))) (pa_cons (pe_tup (pa_cons pe_str pa_nil)) pa_nil))))))))
      (pss_one (ps_ret (pe_c C__law_one hr (pa_cons (pv 0) (pa_cons (pe_op op_cat (pv 12) (pe_lst (pa_cons (pe_tup (pa_cons pe_str (pa_cons (pe_op op_catA (pe_op op_catA (pe_slice sl_tupA (pv 11) po_none (po_some (pv 6))) (pe_tup (pa_cons (pv 8) pa_nil))) (pe_slice sl_tupA (pv 11) (po_some (pe_op op_add (pv 6) pe_int)) po_none)) pa_nil))) (pa_cons (pe_tup (pa_cons pe_str (pa_cons (pv 11) (pa_cons pe_int pa_nil)))) (pa_cons (pv 11) pa_nil))))) pa_nil)))))))) pss_nil)
      (pss_cons (ps_if (pt_cmpR op_eq (pv 9) pe_int (nomark _)) (pss_cons (ps_par (i := 13) (j := 14) rfl sc__law_near_rule.nd rfl rfl (by decide) rfl rfl (pa_cons (pe_op op_rep (pe_lst (pa_cons (pv 5) pa_nil)) (pv 1)) (pa_cons (pe_c C__law_draw hr (pa_cons (pv 0) (pa_cons (pv 1) pa_nil))) pa_nil)) (by rfl))
      (pss_cons (ps_set (i := 15) sc__law_near_rule.nd rfl (by first | exact Or.inl rfl | exact Or.inr rfl) (pe_op op_catA (pe_op op_catA (pe_slice sl_tupA (pv 5) po_none (po_some (pv 7))) (pe_tup (pa_cons (pv 8) pa_nil))) (pe_slice sl_tupA (pv 5) (po_some (pe_op op_add (pv 7) pe_int)) po_none)))
      (pss_cons (ps_set (i := 16) sc__law_near_rule.nd rfl (by first | exact Or.inl rfl | exact Or.inr rfl) (pe_c C__law_one hr (pa_cons (pv 0) (pa_cons (pe_lst (pa_cons (pe_slice sl_tupA (pv 5) (po_some pe_int) po_none) (pa_cons (pe_op op_catA (pv 5) (pe_tup (pa_cons pe_int pa_nil))) (pa_cons (pe_callTy (k_list (K := K)) rfl B.list_ (by decide +kernel) (pa_cons (pv 5) pa_nil)) (pa_cons (pv 15) (pa_cons (pv 15) (pa_cons pe_non (pa_cons pe_int pa_nil)))))))) pa_nil))))
      (pss_cons (ps_set (i := 12) sc__law_near_rule.nd rfl (by first | exact Or.inl rfl | exact Or.inr rfl) (pe_lst (pa_cons (pe_callTy (k_tuple (K := K)) rfl B.tuple_ (by decide +kernel) (pa_cons (pv 13) pa_nil)) (pa_cons (pe_callTy (k_tuple (K := K)) rfl B.tuple_ (by decide +kernel) (pa_cons (pe_slice (k_slL (K := K)) (pv 13) (po_some pe_int) po_none) pa_nil)) (pa_cons (pe_callTy (k_tuple (K := K)) rfl B.tuple_ (by decide +kernel) (pa_cons (pe_op op_cat (pv 13) (pe_lst (pa_cons (pv 5) pa_nil))) pa_nil)) (pa_cons (pv 13) (pa_cons (pv 5) (pa_cons pe_non pa_nil))))))))
      (pss_one (ps_ret (pe_tup (pa_cons pe_str (pa_cons (pe_c C__law_one hr (pa_cons (pv 0) (pa_cons (pe_op op_cat (pv 12) (pe_op op_rep (pe_lst (pa_cons (pe_callTy (k_tuple (K := K)) rfl B.tuple_ (by decide +kernel) (pa_cons (pe_op op_cat (pe_op op_cat (pe_slice (k_slL (K := K)) (pv 13) po_none (po_some (pv 14))) (pe_lst (pa_cons (pv 16) pa_nil))) (pe_slice (k_slL (K := K)) (pv 13) (po_some (pe_op op_add (pv 14) pe_int)) po_none)) pa_nil)) pa_nil)) pe_int)) pa_nil))) pa_nil))))))))) pss_nil)
      (pss_cons (ps_if (pt_cmpR op_eq (pv 9) pe_int (nomark _)) (pss_one (ps_ret (pe_tup (pa_cons pe_str (pa_cons (pe_c C__law_one hr (pa_cons (pv 0) (pa_cons (pe_lst (pa_cons pe_int (pa_cons pe_int (pa_cons pe_int (pa_cons (pe_un un_neg pe_int) (pa_cons pe_bl (pa_cons pe_bl (pa_cons pe_non (pa_cons pe_str (pa_cons (pe_tup (pa_cons pe_int pa_nil)) (pa_cons pe_int (pa_cons (pe_op op_pow pe_int pe_int) pa_nil)))))))))))) pa_nil))) pa_nil))))) pss_nil)
      (pss_cons (ps_if (pt_cmpR op_eq (pv 9) pe_int (nomark _)) (pss_one (ps_ret (pe_tup (pa_cons pe_str (pa_cons (pe_c C__law_one hr (pa_cons (pv 0) (pa_cons (pe_op op_cat (pe_op op_cat (pv 2) (pv 2)) (pe_lst (pa_cons pe_str (pa_cons pe_non (pa_cons pe_int (pa_cons pe_str (pa_cons (pe_tup (pa_cons pe_str pa_nil)) (pa_cons (pe_lst (pa_cons pe_str pa_nil)) (pa_cons pe_dnewK pa_nil))))))))) pa_nil))) pa_nil))))) pss_nil)
      (pss_cons (ps_if (pt_cmpR op_eq (pv 9) pe_int (nomark _)) (pss_cons (ps_set (i := 12) sc__law_near_rule.nd rfl (by first | exact Or.inl rfl | exact Or.inr rfl) (pe_lst (pa_cons (pe_tup (pa_cons pe_str pa_nil)) (pa_cons (pe_tup (pa_cons pe_str pa_nil)) (pa_cons (pe_tup (pa_cons pe_str pa_nil)) (pa_cons (pe_tup (pa_cons pe_str pa_nil)) (pa_cons (pe_tup (pa_cons pe_str pa_nil)) (pa_cons (pe_tup (pa_cons pe_str (pa_cons pe_int pa_nil))) (pa_cons (pe_tup (pa_cons pe_str (pa_cons (pe_tup pa_nil) pa_nil))) (pa_cons (pe_tup (pa_cons pe_str (pa_cons pe_non pa_nil))) (pa_cons (pe_lst (pa_cons pe_str pa_nil)) pa_nil)))))))))))
      (pss_one (ps_ret (pe_c C__law_one hr (pa_cons (pv 0) (pa_cons (pe_op op_cat (pv 12) (pe_lst (pa_cons pe_str (pa_cons (pe_tup pa_nil) (pa_cons pe_non (pa_cons (pe_tup (pa_cons pe_str pa_nil)) (pa_cons (pe_tup (pa_cons pe_str pa_nil)) (pa_cons (pe_tup (pa_cons pe_str pa_nil)) (pa_cons (pe_tup (pa_cons pe_non pa_nil)) (pa_cons (pe_tup (pa_cons pe_int pa_nil)) (pa_cons (pe_tup (pa_cons pe_str pa_nil)) (pa_cons (pe_tup (pa_cons pe_str pa_nil)) (pa_cons (pe_tup (pa_cons (pe_lst (pa_cons pe_str pa_nil)) pa_nil)) (pa_cons (pe_tup (pa_cons pe_dnewK pa_nil)) (pa_cons (pe_tup (pa_cons (pe_lst pa_nil) pa_nil)) pa_nil))))))))))))))) pa_nil)))))) pss_nil)
      (pss_one (ps_ret (pe_c C__law_one hr (pa_cons (pv 0) (pa_cons (pe_lst (pa_cons (pv 3) (pa_cons (pe_callTy (k_list (K := K)) rfl B.list_ (by decide +kernel) (pa_cons (pv 3) pa_nil)) (pa_cons (pe_op op_catA (pv 3) (pe_tup (pa_cons pe_int pa_nil))) (pa_cons (pe_slice sl_tupA (pv 3) po_none (po_some pe_int)) (pa_cons (pe_slice sl_tupA (pv 3) (po_some pe_int) po_none) (pa_cons (pe_tup (pa_cons (pv 3) pa_nil)) (pa_cons pe_non pa_nil)))))))) pa_nil))))))))))))))), ?_⟩
    --@@
    repeat' (walk_at "jv")
    refine ⟨k, near.length + 1, by rw [hmn, Int.add_comm]; rfl, hk3, by omega, ?_⟩
    repeat' (walk_at "jv")
    rw [hmn, hme]
    repeat' (walk_at "jv")
    refine c_range (fun D i H' => D ≠ a ∧ H D = none ∧ Fd H' a (c + (i : Int)) ∧ Ch a H H' ∧ ∃ t : List Nat, H' D = some (.lst (natsV t)) ∧ t.length = i ∧ ∀ x ∈ t, x < k) (fun D nD => ⟨f1.ne nD, nD, (f1.upd (q := D) (o := .lst []) (Ne.symm (f1.ne nD))).mono (by omega), Ch.upd_new nD, [], upd_same, rfl, fun x h => nomatch h⟩) (fun D i H' hi h => ?_) (fun RL HRL h => ?_)
    · obtain ⟨dD, nD, fX, cX, t, eD, tl, tk⟩ := h
      repeat' (walk_at "jv")
      refine ⟨a, (k : Int), c + (i : Int), rfl, fX, by omega, by omega, by omega, fun n H1 n0 n1 f2 k2 => ?_⟩
      obtain ⟨x, rfl⟩ := Int.eq_ofNat_of_zero_le n0
      have eD1 := k2 _ _ dD eD
      have htl : (natsV t).length = t.length := List.length_map ..
      refine i_lcE eD1 (by rw [htl, sizeLine_eq]; omega) ?_
      exact ⟨dD, nD, (f2.upd (q := D) (Ne.symm dD)).mono (by omega), (cX.trans k2).upd_l nD, t ++ [x], by rw [upd_same]; exact congrArg (fun l => some (HO.lst l)) (List.map_append (f := fun n : Nat => V.int ((n : Nat) : Int)) (l₁ := t) (l₂ := [x])).symm, by rw [List.length_append, tl]; rfl, fun y hy => (List.mem_append.mp hy).elim (tk y) fun h => by rw [List.mem_singleton.mp h]; omega⟩
    obtain ⟨dRL, _, fX, cX, tr, eRL, tlRL, tkRL⟩ := h
    replace sR := TK.ch cX f1 _ _ sR
    replace gR := NBs.ch gR cX f1
    replace kk := Ch.trans kk cX
    replace ePO := cX _ _ dPO ePO
    clear f1 cX
    have f1 := fX.mono (show _ ≤ c + 15 by omega)
    clear fX
    have htRL : tr.length ≤ 15 := by omega
    repeat' (walk_at "jv")
    intro RW nRW
    have dRW := f1.ne nRW
    have kRW := Same.upd_new (o := .tup (natsV tr)) nRW
    have eRW : SqT K (upd HRL RW (.tup (natsV tr))) RW (natsV tr) := sq_tup upd_same
    generalize upd HRL RW (.tup (natsV tr)) = X1 at *
    replace sR := TK.same kRW _ _ sR
    replace gR := NBs.same gR kRW
    replace f1 := Fd.same f1 kRW
    replace kk := Ch.trans kk (Ch.of_same kRW)
    replace ePO := kRW _ _ ePO
    clear kRW nRW
    have hnr : (natsV tr).length = tr.length := List.length_map ..
    have hwd0 : 0 < tr.length := by rw [tlRL]; have : 0 < wd := hwd; omega
    clear eRL dRL
    repeat' (walk_at "jv")
    refine ⟨a, ((k ^ (near.length + 1) : Nat) : Int), c + 15, rfl, f1, by omega, by omega, by omega, fun av Y1 av0 av1 f2 k2 => ?_⟩
    replace sR := TK.ch k2 f1 _ _ sR
    replace gR := NBs.ch gR k2 f1
    replace kk := Ch.trans kk k2
    replace eRW := TK.ch k2 f1 _ _ eRW
    replace ePO := k2 _ _ dPO ePO
    clear f1 k2
    have f1 := f2
    clear f2
    obtain ⟨av, rfl⟩ := Int.eq_ofNat_of_zero_le av0
    repeat' (walk_at "jv")
    refine ⟨a, ((natsV tr).length : Nat), c + 15 + 1, rfl, f1, by omega, by omega, by omega, fun sv Y2 sv0 sv1 f2 k2 => ?_⟩
    replace sR := TK.ch k2 f1 _ _ sR
    replace gR := NBs.ch gR k2 f1
    replace kk := Ch.trans kk k2
    replace eRW := TK.ch k2 f1 _ _ eRW
    replace ePO := k2 _ _ dPO ePO
    clear f1 k2
    have f1 := f2
    clear f2
    obtain ⟨sv, rfl⟩ := Int.eq_ofNat_of_zero_le sv0
    repeat' (walk_at "jv")
    intro T1 nT1
    have dT1 := f1.ne nT1
    have kT1 := Same.upd_new (o := .tup ([.int 1])) nT1
    have eT1 : SqT K (upd Y2 T1 (.tup ([.int 1]))) T1 ([.int 1]) := sq_tup upd_same
    generalize upd Y2 T1 (.tup ([.int 1])) = X2 at *
    replace sR := TK.same kT1 _ _ sR
    replace gR := NBs.same gR kT1
    replace f1 := Fd.same f1 kT1
    replace kk := Ch.trans kk (Ch.of_same kT1)
    replace ePO := kT1 _ _ ePO
    replace eRW := TK.same kT1 _ _ eRW
    clear kT1 nT1
    have gT1 : NB K 1 120 X2 a (.ref T1) := (NBs.tup eT1 (.cons (nb_int (by decide) (by decide)) .nil)).mono
    repeat' (walk_at "jv")
    intro WL nWL
    have dWL := f1.ne nWL
    have kWL := Same.upd_new (o := .lst ([.int (k : Int), .int (-1), .bl true, .bl false, .non, .str "1", .ref T1, .int (10 ^ (30 : Int).toNat)])) nWL
    have eWL : (upd X2 WL (.lst ([.int (k : Int), .int (-1), .bl true, .bl false, .non, .str "1", .ref T1, .int (10 ^ (30 : Int).toNat)]))) WL = some (.lst ([.int (k : Int), .int (-1), .bl true, .bl false, .non, .str "1", .ref T1, .int (10 ^ (30 : Int).toNat)])) := upd_same
    generalize upd X2 WL (.lst ([.int (k : Int), .int (-1), .bl true, .bl false, .non, .str "1", .ref T1, .int (10 ^ (30 : Int).toNat)])) = X3 at *
    replace sR := TK.same kWL _ _ sR
    replace gR := NBs.same gR kWL
    replace f1 := Fd.same f1 kWL
    replace kk := Ch.trans kk (Ch.of_same kWL)
    replace ePO := kWL _ _ ePO
    replace eRW := TK.same kWL _ _ eRW
    replace gT1 := NB.same gT1 kWL
    clear kWL nWL
    have gWL : ∀ x ∈ ([.int (k : Int), .int (-1), .bl true, .bl false, .non, .str "1", .ref T1, .int (10 ^ (30 : Int).toNat)] : List V), NB K 1 120 X3 a x := fun x hx => by
      simp only [List.mem_cons, List.not_mem_nil, or_false] at hx
      rcases hx with rfl | rfl | rfl | rfl | rfl | rfl | rfl | rfl
      · exact (nb_int (by omega) (by omega)).mono
      · exact (nb_int (by decide) (by decide)).mono
      · exact (nb_bool true).mono
      · exact (nb_bool false).mono
      · exact nb_none.mono
      · exact (nb_str (by decide +kernel) (by decide +kernel)).mono
      · exact gT1
      · exact (nb_far : NB K 0 110 _ a (.int (10 ^ 30))).mono
    repeat' (walk_at "jv")
    refine ⟨a, WL, _, _, rfl, f1, SqA.l (sq_lst eWL), dWL, by show 0 < 8; decide, by show 8 < 1000000; decide, by omega, fun wv Y3 hwv f2 k2 => ?_⟩
    have gw := gWL wv hwv
    clear hwv gWL gT1
    replace sR := TK.ch k2 f1 _ _ sR
    replace gR := NBs.ch gR k2 f1
    replace kk := Ch.trans kk k2
    replace eRW := TK.ch k2 f1 _ _ eRW
    replace gw := NB.ch gw k2 f1
    replace ePO := k2 _ _ dPO ePO
    clear f1 k2
    have f1 := f2
    clear f2
    repeat' (walk_at "jv")
    refine ⟨a, 6, c + 15 + 1 + 1 + 1, rfl, f1, by omega, by omega, by omega, fun wy Y4 wy0 wy1 f2 k2 => ?_⟩
    replace sR := TK.ch k2 f1 _ _ sR
    replace gR := NBs.ch gR k2 f1
    replace kk := Ch.trans kk k2
    replace eRW := TK.ch k2 f1 _ _ eRW
    replace gw := NB.ch gw k2 f1
    replace ePO := k2 _ _ dPO ePO
    clear f1 k2
    have f1 := f2
    clear f2
    iterate 2 (first | (refine at_state (τ := [some (.ref a), some (.int (k : Int)), some (.ref po), some (.ref rt), some (.int ((k ^ (near.length + 1) : Nat) : Int)), some (.ref RW), some (.int (av : Nat)), some (.int (sv : Nat)), some wv, some (.int wy), none, none, none, none, none, none, none, none]) rfl ?_) | walk_at "jv")
    clear eWL eT1 hwd0 tlRL av0 sv0
    have hk3n : ∀ x ∈ tr, x < 3 := fun x hx => by have := tkRL x hx; omega
    have gr : NBs K 0 45 Y4 a (natsV tr) := fun b => by
      obtain ⟨ds, o, z⟩ := nb_ints (K := K) (H := Y4) (a := a) hk3n b
      exact ⟨ds, o, z.mono (Nat.le_refl _) (by omega)⟩
    repeat' (walk_at "jv")
    · skip
      clear ePO
      refine c_range (fun D i H' => D ≠ a ∧ Y4 D = none ∧ Fd H' a (c + 15 + 1 + 1 + 1 + 1 + (i : Int)) ∧ Ch a Y4 H' ∧ ∃ t : List Nat, H' D = some (.lst (natsV t)) ∧ t.length = i ∧ ∀ x ∈ t, x < k) (fun D nD => ⟨f1.ne nD, nD, (f1.upd (q := D) (o := .lst []) (Ne.symm (f1.ne nD))).mono (by omega), Ch.upd_new nD, [], upd_same, rfl, fun x h => nomatch h⟩) (fun D i H' hi h => ?_) (fun CL HCL h => ?_)
      · obtain ⟨dD, nD, fX, cX, t, eD, tl, tk⟩ := h
        repeat' (walk_at "jv")
        refine ⟨a, (k : Int), c + 15 + 1 + 1 + 1 + 1 + (i : Int), rfl, fX, by omega, by omega, by omega, fun n H1 n0 n1 f2 k2 => ?_⟩
        obtain ⟨x, rfl⟩ := Int.eq_ofNat_of_zero_le n0
        have eD1 := k2 _ _ dD eD
        have htl : (natsV t).length = t.length := List.length_map ..
        refine i_lcE eD1 (by rw [htl, sizeLine_eq]; omega) ?_
        exact ⟨dD, nD, (f2.upd (q := D) (Ne.symm dD)).mono (by omega), (cX.trans k2).upd_l nD, t ++ [x], by rw [upd_same]; exact congrArg (fun l => some (HO.lst l)) (List.map_append (f := fun n : Nat => V.int ((n : Nat) : Int)) (l₁ := t) (l₂ := [x])).symm, by rw [List.length_append, tl]; rfl, fun y hy => (List.mem_append.mp hy).elim (tk y) fun h => by rw [List.mem_singleton.mp h]; omega⟩
      obtain ⟨dCL, _, fX, cX, tc, eCL, tlCL, tkCL⟩ := h
      replace sR := TK.ch cX f1 _ _ sR
      replace gR := NBs.ch gR cX f1
      replace kk := Ch.trans kk cX
      replace eRW := TK.ch cX f1 _ _ eRW
      replace gw := NB.ch gw cX f1
      replace gr := NBs.ch gr cX f1
      clear f1 cX
      have f1 := fX.mono (show _ ≤ c + 15 + 1 + 1 + 1 + 1 + 256 by omega)
      clear fX
      have htCL : tc.length ≤ 256 := by omega
      have hk3c : ∀ x ∈ tc, x < 3 := fun x hx => by have := tkCL x hx; omega
      have hnc : (natsV tc).length = tc.length := List.length_map ..
      repeat' (walk_at "jv")
      intro TB nTB
      have dTB := f1.ne nTB
      have kTB := Same.upd_new (o := .tup (natsV tc)) nTB
      have eTB : SqT K (upd HCL TB (.tup (natsV tc))) TB (natsV tc) := sq_tup upd_same
      generalize upd HCL TB (.tup (natsV tc)) = X4 at *
      replace sR := TK.same kTB _ _ sR
      replace gR := NBs.same gR kTB
      replace f1 := Fd.same f1 kTB
      replace kk := Ch.trans kk (Ch.of_same kTB)
      replace eRW := TK.same kTB _ _ eRW
      replace gw := NB.same gw kTB
      replace gr := NBs.same gr kTB
      replace eCL := kTB _ _ eCL
      clear kTB nTB
      have gT : NBs K 0 768 X4 a (natsV tc) := fun b => by
        obtain ⟨ds, o, z⟩ := nb_ints (K := K) (H := X4) (a := a) hk3c b
        exact ⟨ds, o, z.mono (Nat.le_refl _) (by omega)⟩
      have gTB : NX' K 1 768 X4 a (.ref TB) := (NBs.tup eTB gT).nx
      have gCL : NX' K 1 768 X4 a (.ref CL) := (NQs.lst eCL dCL (gT false)).nx
      clear eCL
      repeat' (walk_at "jv")
      intro P1 nP1
      have dP1 := f1.ne nP1
      have kP1 := Same.upd_new (o := .tup ([.str "table", .ref TB])) nP1
      have eP1 : SqT K (upd X4 P1 (.tup ([.str "table", .ref TB]))) P1 ([.str "table", .ref TB]) := sq_tup upd_same
      generalize upd X4 P1 (.tup ([.str "table", .ref TB])) = X5 at *
      replace sR := TK.same kP1 _ _ sR
      replace gR := NBs.same gR kP1
      replace f1 := Fd.same f1 kP1
      replace kk := Ch.trans kk (Ch.of_same kP1)
      replace eRW := TK.same kP1 _ _ eRW
      replace gw := NB.same gw kP1
      replace gr := NBs.same gr kP1
      replace eTB := TK.same kP1 _ _ eTB
      replace gT := NBs.same gT kP1
      replace gTB := NX'.same gTB kP1
      replace gCL := NX'.same gCL kP1
      clear kP1 nP1
      have gP1 : NX' K 3 2000 X5 a (.ref P1) := (NX'.pair (by decide +kernel) (by decide +kernel) eP1 (gTB)).mono
      clear eP1 dP1
      repeat' (walk_at "jv")
      refine i_slG eTB fun T2 X6 kT2 sT2 => ?_
      rw [show (1 : Int) = ((1 : Nat) : Int) from rfl, cut_from] at sT2
      replace sR := TK.same kT2 _ _ sR
      replace gR := NBs.same gR kT2
      replace f1 := Fd.same f1 kT2
      replace kk := Ch.trans kk (Ch.of_same kT2)
      replace eRW := TK.same kT2 _ _ eRW
      replace gw := NB.same gw kT2
      replace gr := NBs.same gr kT2
      replace eTB := TK.same kT2 _ _ eTB
      replace gT := NBs.same gT kT2
      replace gTB := NX'.same gTB kT2
      replace gCL := NX'.same gCL kT2
      replace gP1 := NX'.same gP1 kT2
      clear kT2
      have gT2 : NX' K 2 1700 X6 a (.ref T2) := (NBs.tup sT2 (gT.drop 1)).nx.mono
      clear sT2
      repeat' (walk_at "jv")
      intro P2 nP2
      have dP2 := f1.ne nP2
      have kP2 := Same.upd_new (o := .tup ([.str "table", .ref T2])) nP2
      have eP2 : SqT K (upd X6 P2 (.tup ([.str "table", .ref T2]))) P2 ([.str "table", .ref T2]) := sq_tup upd_same
      generalize upd X6 P2 (.tup ([.str "table", .ref T2])) = X7 at *
      replace sR := TK.same kP2 _ _ sR
      replace gR := NBs.same gR kP2
      replace f1 := Fd.same f1 kP2
      replace kk := Ch.trans kk (Ch.of_same kP2)
      replace eRW := TK.same kP2 _ _ eRW
      replace gw := NB.same gw kP2
      replace gr := NBs.same gr kP2
      replace eTB := TK.same kP2 _ _ eTB
      replace gT := NBs.same gT kP2
      replace gTB := NX'.same gTB kP2
      replace gCL := NX'.same gCL kP2
      replace gP1 := NX'.same gP1 kP2
      replace gT2 := NX'.same gT2 kP2
      clear kP2 nP2
      have gP2 : NX' K 3 2000 X7 a (.ref P2) := (NX'.pair (by decide +kernel) (by decide +kernel) eP2 (gT2)).mono
      clear eP2 dP2
      repeat' (walk_at "jv")
      clear gT2
      intro Z0 nZ0
      have dZ0 := f1.ne nZ0
      have kZ0 := Same.upd_new (o := .tup ([.int 0])) nZ0
      have eZ0 : SqT K (upd X7 Z0 (.tup ([.int 0]))) Z0 ([.int 0]) := sq_tup upd_same
      generalize upd X7 Z0 (.tup ([.int 0])) = X8 at *
      replace sR := TK.same kZ0 _ _ sR
      replace gR := NBs.same gR kZ0
      replace f1 := Fd.same f1 kZ0
      replace kk := Ch.trans kk (Ch.of_same kZ0)
      replace eRW := TK.same kZ0 _ _ eRW
      replace gw := NB.same gw kZ0
      replace gr := NBs.same gr kZ0
      replace eTB := TK.same kZ0 _ _ eTB
      replace gT := NBs.same gT kZ0
      replace gTB := NX'.same gTB kZ0
      replace gCL := NX'.same gCL kZ0
      replace gP1 := NX'.same gP1 kZ0
      replace gP2 := NX'.same gP2 kZ0
      clear kZ0 nZ0
      repeat' (walk_at "jv")
      refine i_catG eTB eZ0 (by rw [hnc, sizeLine_eq]; show _ + 1 ≤ _; omega) fun T3 X9 kT3 sT3 => ?_
      replace sR := TK.same kT3 _ _ sR
      replace gR := NBs.same gR kT3
      replace f1 := Fd.same f1 kT3
      replace kk := Ch.trans kk (Ch.of_same kT3)
      replace eRW := TK.same kT3 _ _ eRW
      replace gw := NB.same gw kT3
      replace gr := NBs.same gr kT3
      replace eTB := TK.same kT3 _ _ eTB
      replace gT := NBs.same gT kT3
      replace gTB := NX'.same gTB kT3
      replace gCL := NX'.same gCL kT3
      replace gP1 := NX'.same gP1 kT3
      replace gP2 := NX'.same gP2 kT3
      replace eZ0 := TK.same kT3 _ _ eZ0
      clear kT3
      clear eZ0
      have gT3 : NX' K 2 1700 X9 a (.ref T3) := (NBs.tup sT3 (gT.app (.cons (nb_int (by decide) (by decide)) (.nil : NBs K 0 0 _ a [])))).nx.mono
      clear sT3
      repeat' (walk_at "jv")
      intro P3 nP3
      have dP3 := f1.ne nP3
      have kP3 := Same.upd_new (o := .tup ([.str "table", .ref T3])) nP3
      have eP3 : SqT K (upd X9 P3 (.tup ([.str "table", .ref T3]))) P3 ([.str "table", .ref T3]) := sq_tup upd_same
      generalize upd X9 P3 (.tup ([.str "table", .ref T3])) = X10 at *
      replace sR := TK.same kP3 _ _ sR
      replace gR := NBs.same gR kP3
      replace f1 := Fd.same f1 kP3
      replace kk := Ch.trans kk (Ch.of_same kP3)
      replace eRW := TK.same kP3 _ _ eRW
      replace gw := NB.same gw kP3
      replace gr := NBs.same gr kP3
      replace eTB := TK.same kP3 _ _ eTB
      replace gT := NBs.same gT kP3
      replace gTB := NX'.same gTB kP3
      replace gCL := NX'.same gCL kP3
      replace gP1 := NX'.same gP1 kP3
      replace gP2 := NX'.same gP2 kP3
      replace gT3 := NX'.same gT3 kP3
      clear kP3 nP3
      have gP3 : NX' K 3 2000 X10 a (.ref P3) := (NX'.pair (by decide +kernel) (by decide +kernel) eP3 (gT3)).mono
      clear eP3 dP3
      repeat' (walk_at "jv")
      clear gT3
      intro P4 nP4
      have dP4 := f1.ne nP4
      have kP4 := Same.upd_new (o := .tup ([.str "table", .ref CL])) nP4
      have eP4 : SqT K (upd X10 P4 (.tup ([.str "table", .ref CL]))) P4 ([.str "table", .ref CL]) := sq_tup upd_same
      generalize upd X10 P4 (.tup ([.str "table", .ref CL])) = X11 at *
      replace sR := TK.same kP4 _ _ sR
      replace gR := NBs.same gR kP4
      replace f1 := Fd.same f1 kP4
      replace kk := Ch.trans kk (Ch.of_same kP4)
      replace eRW := TK.same kP4 _ _ eRW
      replace gw := NB.same gw kP4
      replace gr := NBs.same gr kP4
      replace eTB := TK.same kP4 _ _ eTB
      replace gT := NBs.same gT kP4
      replace gTB := NX'.same gTB kP4
      replace gCL := NX'.same gCL kP4
      replace gP1 := NX'.same gP1 kP4
      replace gP2 := NX'.same gP2 kP4
      replace gP3 := NX'.same gP3 kP4
      clear kP4 nP4
      have gP4 : NX' K 3 2000 X11 a (.ref P4) := (NX'.pair (by decide +kernel) (by decide +kernel) eP4 (gCL)).mono
      clear eP4 dP4
      repeat' (walk_at "jv")
      clear gCL
      intro P5 nP5
      have dP5 := f1.ne nP5
      have kP5 := Same.upd_new (o := .lst ([.str "table", .ref TB])) nP5
      have eP5 : (upd X11 P5 (.lst ([.str "table", .ref TB]))) P5 = some (.lst ([.str "table", .ref TB])) := upd_same
      generalize upd X11 P5 (.lst ([.str "table", .ref TB])) = X12 at *
      replace sR := TK.same kP5 _ _ sR
      replace gR := NBs.same gR kP5
      replace f1 := Fd.same f1 kP5
      replace kk := Ch.trans kk (Ch.of_same kP5)
      replace eRW := TK.same kP5 _ _ eRW
      replace gw := NB.same gw kP5
      replace gr := NBs.same gr kP5
      replace eTB := TK.same kP5 _ _ eTB
      replace gT := NBs.same gT kP5
      replace gTB := NX'.same gTB kP5
      replace gP1 := NX'.same gP1 kP5
      replace gP2 := NX'.same gP2 kP5
      replace gP3 := NX'.same gP3 kP5
      replace gP4 := NX'.same gP4 kP5
      clear kP5 nP5
      have gP5 : NX' K 3 2000 X12 a (.ref P5) := (NQs.lst eP5 dP5 (NQs.cons ((nq_str (by decide +kernel) (by decide +kernel)).mono (m' := 1) (n' := 20)) (.cons (NQs.tup eTB (gT false)) .nil))).nx.mono
      clear eP5 dP5
      repeat' (walk_at "jv")
      intro P6 nP6
      have dP6 := f1.ne nP6
      have kP6 := Same.upd_new (o := .tup ([.str "table"])) nP6
      have eP6 : SqT K (upd X12 P6 (.tup ([.str "table"]))) P6 ([.str "table"]) := sq_tup upd_same
      generalize upd X12 P6 (.tup ([.str "table"])) = X13 at *
      replace sR := TK.same kP6 _ _ sR
      replace gR := NBs.same gR kP6
      replace f1 := Fd.same f1 kP6
      replace kk := Ch.trans kk (Ch.of_same kP6)
      replace eRW := TK.same kP6 _ _ eRW
      replace gw := NB.same gw kP6
      replace gr := NBs.same gr kP6
      replace eTB := TK.same kP6 _ _ eTB
      replace gT := NBs.same gT kP6
      replace gTB := NX'.same gTB kP6
      replace gP1 := NX'.same gP1 kP6
      replace gP2 := NX'.same gP2 kP6
      replace gP3 := NX'.same gP3 kP6
      replace gP4 := NX'.same gP4 kP6
      replace gP5 := NX'.same gP5 kP6
      clear kP6 nP6
      have gP6 : NX' K 3 2000 X13 a (.ref P6) := (NX'.one eP6 ((nb_str (by decide +kernel) (by decide +kernel)).nx)).mono
      clear eP6 dP6
      repeat' (walk_at "jv")
      intro LS nLS
      have dLS := f1.ne nLS
      have kLS := Same.upd_new (o := .lst ([.ref P1, .ref P2, .ref P3, .ref P4, .ref P5, .ref P6])) nLS
      have eLS : (upd X13 LS (.lst ([.ref P1, .ref P2, .ref P3, .ref P4, .ref P5, .ref P6]))) LS = some (.lst ([.ref P1, .ref P2, .ref P3, .ref P4, .ref P5, .ref P6])) := upd_same
      generalize upd X13 LS (.lst ([.ref P1, .ref P2, .ref P3, .ref P4, .ref P5, .ref P6])) = X14 at *
      replace sR := TK.same kLS _ _ sR
      replace gR := NBs.same gR kLS
      replace f1 := Fd.same f1 kLS
      replace kk := Ch.trans kk (Ch.of_same kLS)
      replace eRW := TK.same kLS _ _ eRW
      replace gw := NB.same gw kLS
      replace gr := NBs.same gr kLS
      replace eTB := TK.same kLS _ _ eTB
      replace gT := NBs.same gT kLS
      replace gTB := NX'.same gTB kLS
      replace gP1 := NX'.same gP1 kLS
      replace gP2 := NX'.same gP2 kLS
      replace gP3 := NX'.same gP3 kLS
      replace gP4 := NX'.same gP4 kLS
      replace gP5 := NX'.same gP5 kLS
      replace gP6 := NX'.same gP6 kLS
      clear kLS nLS
      repeat' (walk_at "jv")
      refine i_slG eTB fun U1 X15 kU1 sU1 => ?_
      rw [cut_take] at sU1
      replace sR := TK.same kU1 _ _ sR
      replace gR := NBs.same gR kU1
      replace f1 := Fd.same f1 kU1
      replace kk := Ch.trans kk (Ch.of_same kU1)
      replace eRW := TK.same kU1 _ _ eRW
      replace gw := NB.same gw kU1
      replace gr := NBs.same gr kU1
      replace eTB := TK.same kU1 _ _ eTB
      replace gT := NBs.same gT kU1
      replace gTB := NX'.same gTB kU1
      replace gP1 := NX'.same gP1 kU1
      replace gP2 := NX'.same gP2 kU1
      replace gP3 := NX'.same gP3 kU1
      replace gP4 := NX'.same gP4 kU1
      replace gP5 := NX'.same gP5 kU1
      replace gP6 := NX'.same gP6 kU1
      replace eLS := kU1 _ _ eLS
      clear kU1
      repeat' (walk_at "jv")
      intro U2 nU2
      have dU2 := f1.ne nU2
      have kU2 := Same.upd_new (o := .tup ([wv])) nU2
      have eU2 : SqT K (upd X15 U2 (.tup ([wv]))) U2 ([wv]) := sq_tup upd_same
      generalize upd X15 U2 (.tup ([wv])) = X16 at *
      replace sR := TK.same kU2 _ _ sR
      replace gR := NBs.same gR kU2
      replace f1 := Fd.same f1 kU2
      replace kk := Ch.trans kk (Ch.of_same kU2)
      replace eRW := TK.same kU2 _ _ eRW
      replace gw := NB.same gw kU2
      replace gr := NBs.same gr kU2
      replace eTB := TK.same kU2 _ _ eTB
      replace gT := NBs.same gT kU2
      replace gTB := NX'.same gTB kU2
      replace gP1 := NX'.same gP1 kU2
      replace gP2 := NX'.same gP2 kU2
      replace gP3 := NX'.same gP3 kU2
      replace gP4 := NX'.same gP4 kU2
      replace gP5 := NX'.same gP5 kU2
      replace gP6 := NX'.same gP6 kU2
      replace eLS := kU2 _ _ eLS
      replace sU1 := TK.same kU2 _ _ sU1
      clear kU2 nU2
      repeat' (walk_at "jv")
      refine i_catG sU1 eU2 (by rw [List.length_take, hnc, sizeLine_eq]; show _ + 1 ≤ _; omega) fun U3 X17 kU3 sU3 => ?_
      replace sR := TK.same kU3 _ _ sR
      replace gR := NBs.same gR kU3
      replace f1 := Fd.same f1 kU3
      replace kk := Ch.trans kk (Ch.of_same kU3)
      replace eRW := TK.same kU3 _ _ eRW
      replace gw := NB.same gw kU3
      replace gr := NBs.same gr kU3
      replace eTB := TK.same kU3 _ _ eTB
      replace gT := NBs.same gT kU3
      replace gTB := NX'.same gTB kU3
      replace gP1 := NX'.same gP1 kU3
      replace gP2 := NX'.same gP2 kU3
      replace gP3 := NX'.same gP3 kU3
      replace gP4 := NX'.same gP4 kU3
      replace gP5 := NX'.same gP5 kU3
      replace gP6 := NX'.same gP6 kU3
      replace eLS := kU3 _ _ eLS
      replace sU1 := TK.same kU3 _ _ sU1
      replace eU2 := TK.same kU3 _ _ eU2
      clear kU3
      clear sU1 eU2
      repeat' (walk_at "jv")
      refine i_slG eTB fun U4 X18 kU4 sU4 => ?_
      rw [show ((av : Nat) : Int) + 1 = ((av + 1 : Nat) : Int) from rfl, cut_from] at sU4
      replace sR := TK.same kU4 _ _ sR
      replace gR := NBs.same gR kU4
      replace f1 := Fd.same f1 kU4
      replace kk := Ch.trans kk (Ch.of_same kU4)
      replace eRW := TK.same kU4 _ _ eRW
      replace gw := NB.same gw kU4
      replace gr := NBs.same gr kU4
      replace eTB := TK.same kU4 _ _ eTB
      replace gT := NBs.same gT kU4
      replace gTB := NX'.same gTB kU4
      replace gP1 := NX'.same gP1 kU4
      replace gP2 := NX'.same gP2 kU4
      replace gP3 := NX'.same gP3 kU4
      replace gP4 := NX'.same gP4 kU4
      replace gP5 := NX'.same gP5 kU4
      replace gP6 := NX'.same gP6 kU4
      replace eLS := kU4 _ _ eLS
      replace sU3 := TK.same kU4 _ _ sU3
      clear kU4
      repeat' (walk_at "jv")
      refine i_catG sU3 sU4 (by rw [List.length_append, List.length_take, List.length_drop, hnc, sizeLine_eq]; show _ + 1 + _ ≤ _; omega) fun U5 X19 kU5 sU5 => ?_
      replace sR := TK.same kU5 _ _ sR
      replace gR := NBs.same gR kU5
      replace f1 := Fd.same f1 kU5
      replace kk := Ch.trans kk (Ch.of_same kU5)
      replace eRW := TK.same kU5 _ _ eRW
      replace gw := NB.same gw kU5
      replace gr := NBs.same gr kU5
      replace eTB := TK.same kU5 _ _ eTB
      replace gT := NBs.same gT kU5
      replace gTB := NX'.same gTB kU5
      replace gP1 := NX'.same gP1 kU5
      replace gP2 := NX'.same gP2 kU5
      replace gP3 := NX'.same gP3 kU5
      replace gP4 := NX'.same gP4 kU5
      replace gP5 := NX'.same gP5 kU5
      replace gP6 := NX'.same gP6 kU5
      replace eLS := kU5 _ _ eLS
      replace sU3 := TK.same kU5 _ _ sU3
      replace sU4 := TK.same kU5 _ _ sU4
      clear kU5
      clear sU3 sU4
      have gU5 : NX' K 2 1700 X19 a (.ref U5) := (NBs.tup sU5 ((((gT.take av).mono (m' := 1) (n' := 768)).app (.cons gw (.nil : NBs K 1 0 _ a []))).app ((gT.drop (av + 1)).mono (m' := 1) (n' := 768)))).nx.mono
      clear sU5
      repeat' (walk_at "jv")
      intro P7 nP7
      have dP7 := f1.ne nP7
      have kP7 := Same.upd_new (o := .tup ([.str "table", .ref U5])) nP7
      have eP7 : SqT K (upd X19 P7 (.tup ([.str "table", .ref U5]))) P7 ([.str "table", .ref U5]) := sq_tup upd_same
      generalize upd X19 P7 (.tup ([.str "table", .ref U5])) = X20 at *
      replace sR := TK.same kP7 _ _ sR
      replace gR := NBs.same gR kP7
      replace f1 := Fd.same f1 kP7
      replace kk := Ch.trans kk (Ch.of_same kP7)
      replace eRW := TK.same kP7 _ _ eRW
      replace gw := NB.same gw kP7
      replace gr := NBs.same gr kP7
      replace eTB := TK.same kP7 _ _ eTB
      replace gT := NBs.same gT kP7
      replace gTB := NX'.same gTB kP7
      replace gP1 := NX'.same gP1 kP7
      replace gP2 := NX'.same gP2 kP7
      replace gP3 := NX'.same gP3 kP7
      replace gP4 := NX'.same gP4 kP7
      replace gP5 := NX'.same gP5 kP7
      replace gP6 := NX'.same gP6 kP7
      replace eLS := kP7 _ _ eLS
      replace gU5 := NX'.same gU5 kP7
      clear kP7 nP7
      have gP7 : NX' K 3 2000 X20 a (.ref P7) := (NX'.pair (by decide +kernel) (by decide +kernel) eP7 (gU5)).mono
      clear eP7 dP7
      repeat' (walk_at "jv")
      clear gU5
      intro P8 nP8
      have dP8 := f1.ne nP8
      have kP8 := Same.upd_new (o := .tup ([.str "table", .ref TB, .int 0])) nP8
      have eP8 : SqT K (upd X20 P8 (.tup ([.str "table", .ref TB, .int 0]))) P8 ([.str "table", .ref TB, .int 0]) := sq_tup upd_same
      generalize upd X20 P8 (.tup ([.str "table", .ref TB, .int 0])) = X21 at *
      replace sR := TK.same kP8 _ _ sR
      replace gR := NBs.same gR kP8
      replace f1 := Fd.same f1 kP8
      replace kk := Ch.trans kk (Ch.of_same kP8)
      replace eRW := TK.same kP8 _ _ eRW
      replace gw := NB.same gw kP8
      replace gr := NBs.same gr kP8
      replace eTB := TK.same kP8 _ _ eTB
      replace gT := NBs.same gT kP8
      replace gTB := NX'.same gTB kP8
      replace gP1 := NX'.same gP1 kP8
      replace gP2 := NX'.same gP2 kP8
      replace gP3 := NX'.same gP3 kP8
      replace gP4 := NX'.same gP4 kP8
      replace gP5 := NX'.same gP5 kP8
      replace gP6 := NX'.same gP6 kP8
      replace eLS := kP8 _ _ eLS
      replace gP7 := NX'.same gP7 kP8
      clear kP8 nP8
      have gP8 : NX' K 3 2000 X21 a (.ref P8) := (NBs.tup eP8 (NBs.cons ((nb_str (by decide +kernel) (by decide +kernel)).mono (m' := 1) (n' := 20)) (.cons (NBs.tup eTB gT) (.cons ((nb_int (by decide) (by decide)).mono (m' := 1) (n' := 20)) (.nil : NBs K 1 0 _ a []))))).nx.mono
      clear eP8 dP8
      repeat' (walk_at "jv")
      intro LZ nLZ
      have dLZ := f1.ne nLZ
      have kLZ := Same.upd_new (o := .lst ([.ref P7, .ref P8, .ref TB])) nLZ
      have eLZ : (upd X21 LZ (.lst ([.ref P7, .ref P8, .ref TB]))) LZ = some (.lst ([.ref P7, .ref P8, .ref TB])) := upd_same
      generalize upd X21 LZ (.lst ([.ref P7, .ref P8, .ref TB])) = X22 at *
      replace sR := TK.same kLZ _ _ sR
      replace gR := NBs.same gR kLZ
      replace f1 := Fd.same f1 kLZ
      replace kk := Ch.trans kk (Ch.of_same kLZ)
      replace eRW := TK.same kLZ _ _ eRW
      replace gw := NB.same gw kLZ
      replace gr := NBs.same gr kLZ
      replace eTB := TK.same kLZ _ _ eTB
      replace gT := NBs.same gT kLZ
      replace gTB := NX'.same gTB kLZ
      replace gP1 := NX'.same gP1 kLZ
      replace gP2 := NX'.same gP2 kLZ
      replace gP3 := NX'.same gP3 kLZ
      replace gP4 := NX'.same gP4 kLZ
      replace gP5 := NX'.same gP5 kLZ
      replace gP6 := NX'.same gP6 kLZ
      replace eLS := kLZ _ _ eLS
      replace gP7 := NX'.same gP7 kLZ
      replace gP8 := NX'.same gP8 kLZ
      clear kLZ nLZ
      repeat' (walk_at "jv")
      refine i_catL eLS eLZ (by rw [sizeLine_eq]; show 6 + 3 ≤ _; omega) fun LC nLC => ?_
      have dLC := f1.ne nLC
      have kLC := Same.upd_new (o := .lst ([.ref P1, .ref P2, .ref P3, .ref P4, .ref P5, .ref P6] ++ [.ref P7, .ref P8, .ref TB])) nLC
      have eLC : (upd X22 LC (.lst ([.ref P1, .ref P2, .ref P3, .ref P4, .ref P5, .ref P6] ++ [.ref P7, .ref P8, .ref TB]))) LC = some (.lst ([.ref P1, .ref P2, .ref P3, .ref P4, .ref P5, .ref P6] ++ [.ref P7, .ref P8, .ref TB])) := upd_same
      generalize upd X22 LC (.lst ([.ref P1, .ref P2, .ref P3, .ref P4, .ref P5, .ref P6] ++ [.ref P7, .ref P8, .ref TB])) = X23 at *
      replace sR := TK.same kLC _ _ sR
      replace gR := NBs.same gR kLC
      replace f1 := Fd.same f1 kLC
      replace kk := Ch.trans kk (Ch.of_same kLC)
      replace eRW := TK.same kLC _ _ eRW
      replace gw := NB.same gw kLC
      replace gr := NBs.same gr kLC
      replace eTB := TK.same kLC _ _ eTB
      replace gT := NBs.same gT kLC
      replace gTB := NX'.same gTB kLC
      replace gP1 := NX'.same gP1 kLC
      replace gP2 := NX'.same gP2 kLC
      replace gP3 := NX'.same gP3 kLC
      replace gP4 := NX'.same gP4 kLC
      replace gP5 := NX'.same gP5 kLC
      replace gP6 := NX'.same gP6 kLC
      replace gP7 := NX'.same gP7 kLC
      replace gP8 := NX'.same gP8 kLC
      clear kLC nLC
      replace eLC : X23 LC = some (.lst ([.ref P1, .ref P2, .ref P3, .ref P4, .ref P5, .ref P6, .ref P7, .ref P8, .ref TB])) := eLC
      have glLC : ∀ x ∈ ([.ref P1, .ref P2, .ref P3, .ref P4, .ref P5, .ref P6, .ref P7, .ref P8, .ref TB] : List V), NX' K 4 50000 X23 a x :=
        fa_cons (gP1).mono <|
        fa_cons (gP2).mono <|
        fa_cons (gP3).mono <|
        fa_cons (gP4).mono <|
        fa_cons (gP5).mono <|
        fa_cons (gP6).mono <|
        fa_cons (gP7).mono <|
        fa_cons (gP8).mono <|
        fa_cons (gTB).mono <|
        fa_nil
      clear gP1 gP2 gP3 gP4 gP5 gP6 gP7 gP8
      clear gTB gT eTB
      repeat' (walk_at "jv")
      refine ⟨a, LC, c + 15 + 1 + 1 + 1 + 1 + 256, [.ref P1, .ref P2, .ref P3, .ref P4, .ref P5, .ref P6, .ref P7, .ref P8, .ref TB], rfl, f1, SqA.l (sq_lst eLC), dLC, by show 0 < 9; decide, by show 9 < 1000000; decide, by omega, fun y Z0 hy f2 k2 => ?_⟩
      have gy := glLC y hy
      clear hy glLC eLC
      replace sR := TK.ch k2 f1 _ _ sR
      replace gR := NBs.ch gR k2 f1
      replace kk := Ch.trans kk k2
      replace eRW := TK.ch k2 f1 _ _ eRW
      replace gw := NB.ch gw k2 f1
      replace gr := NBs.ch gr k2 f1
      replace gy := NX'.ch gy k2 f1
      clear f1 k2
      have f1 := f2
      clear f2
      exact q _ _ (gy.mono) (f1.mono (by omega)) kk
    · skip
      clear ePO
      intro LR nLR
      have dLR := f1.ne nLR
      have kLR := Same.upd_new (o := .lst ([.ref RW])) nLR
      have eLR : (upd Y4 LR (.lst ([.ref RW]))) LR = some (.lst ([.ref RW])) := upd_same
      generalize upd Y4 LR (.lst ([.ref RW])) = X24 at *
      replace sR := TK.same kLR _ _ sR
      replace gR := NBs.same gR kLR
      replace f1 := Fd.same f1 kLR
      replace kk := Ch.trans kk (Ch.of_same kLR)
      replace eRW := TK.same kLR _ _ eRW
      replace gw := NB.same gw kLR
      replace gr := NBs.same gr kLR
      clear kLR nLR
      repeat' (walk_at "jv")
      refine i_rep eLR (by omega) fun RR nRR => ?_
      have dRR := f1.ne nRR
      have kRR := Same.upd_new (o := .lst (List.replicate k (V.ref RW))) nRR
      have eRR : (upd X24 RR (.lst (List.replicate k (V.ref RW)))) RR = some (.lst (List.replicate k (V.ref RW))) := upd_same
      generalize upd X24 RR (.lst (List.replicate k (V.ref RW))) = X25 at *
      replace sR := TK.same kRR _ _ sR
      replace gR := NBs.same gR kRR
      replace f1 := Fd.same f1 kRR
      replace kk := Ch.trans kk (Ch.of_same kRR)
      replace eRW := TK.same kRR _ _ eRW
      replace gw := NB.same gw kRR
      replace gr := NBs.same gr kRR
      clear kRR nRR
      clear eLR dLR
      have grr : NBs K 1 138 X25 a (List.replicate k (V.ref RW)) := (NBs.rep (NBs.tup eRW gr) k).mono (Nat.le_refl _) (by omega)
      repeat' (walk_at "jv")
      refine ⟨a, ((k : Nat) : Int), c + 15 + 1 + 1 + 1 + 1, rfl, f1, by omega, by omega, by omega, fun lv W1 lv0 lv1 f2 k2 => ?_⟩
      replace sR := TK.ch k2 f1 _ _ sR
      replace gR := NBs.ch gR k2 f1
      replace kk := Ch.trans kk k2
      replace eRW := TK.ch k2 f1 _ _ eRW
      replace gw := NB.ch gw k2 f1
      replace gr := NBs.ch gr k2 f1
      replace grr := NBs.ch grr k2 f1
      replace eRR := k2 _ _ dRR eRR
      clear f1 k2
      have f1 := f2
      clear f2
      obtain ⟨lv, rfl⟩ := Int.eq_ofNat_of_zero_le lv0
      repeat' (walk_at "jv")
      refine i_slG eRW fun O1 X26 kO1 sO1 => ?_
      rw [cut_take] at sO1
      replace sR := TK.same kO1 _ _ sR
      replace gR := NBs.same gR kO1
      replace f1 := Fd.same f1 kO1
      replace kk := Ch.trans kk (Ch.of_same kO1)
      replace eRW := TK.same kO1 _ _ eRW
      replace gw := NB.same gw kO1
      replace gr := NBs.same gr kO1
      replace eRR := kO1 _ _ eRR
      replace grr := NBs.same grr kO1
      clear kO1
      repeat' (walk_at "jv")
      intro O2 nO2
      have dO2 := f1.ne nO2
      have kO2 := Same.upd_new (o := .tup ([wv])) nO2
      have eO2 : SqT K (upd X26 O2 (.tup ([wv]))) O2 ([wv]) := sq_tup upd_same
      generalize upd X26 O2 (.tup ([wv])) = X27 at *
      replace sR := TK.same kO2 _ _ sR
      replace gR := NBs.same gR kO2
      replace f1 := Fd.same f1 kO2
      replace kk := Ch.trans kk (Ch.of_same kO2)
      replace eRW := TK.same kO2 _ _ eRW
      replace gw := NB.same gw kO2
      replace gr := NBs.same gr kO2
      replace eRR := kO2 _ _ eRR
      replace grr := NBs.same grr kO2
      replace sO1 := TK.same kO2 _ _ sO1
      clear kO2 nO2
      repeat' (walk_at "jv")
      refine i_catG sO1 eO2 (by rw [List.length_take, hnr, sizeLine_eq]; show _ + 1 ≤ _; omega) fun O3 X28 kO3 sO3 => ?_
      replace sR := TK.same kO3 _ _ sR
      replace gR := NBs.same gR kO3
      replace f1 := Fd.same f1 kO3
      replace kk := Ch.trans kk (Ch.of_same kO3)
      replace eRW := TK.same kO3 _ _ eRW
      replace gw := NB.same gw kO3
      replace gr := NBs.same gr kO3
      replace eRR := kO3 _ _ eRR
      replace grr := NBs.same grr kO3
      replace sO1 := TK.same kO3 _ _ sO1
      replace eO2 := TK.same kO3 _ _ eO2
      clear kO3
      clear sO1 eO2
      repeat' (walk_at "jv")
      refine i_slG eRW fun O4 X29 kO4 sO4 => ?_
      rw [show ((sv : Nat) : Int) + 1 = ((sv + 1 : Nat) : Int) from rfl, cut_from] at sO4
      replace sR := TK.same kO4 _ _ sR
      replace gR := NBs.same gR kO4
      replace f1 := Fd.same f1 kO4
      replace kk := Ch.trans kk (Ch.of_same kO4)
      replace eRW := TK.same kO4 _ _ eRW
      replace gw := NB.same gw kO4
      replace gr := NBs.same gr kO4
      replace eRR := kO4 _ _ eRR
      replace grr := NBs.same grr kO4
      replace sO3 := TK.same kO4 _ _ sO3
      clear kO4
      repeat' (walk_at "jv")
      refine i_catG sO3 sO4 (by rw [List.length_append, List.length_take, List.length_drop, hnr, sizeLine_eq]; show _ + 1 + _ ≤ _; omega) fun O5 X30 kO5 sO5 => ?_
      replace sR := TK.same kO5 _ _ sR
      replace gR := NBs.same gR kO5
      replace f1 := Fd.same f1 kO5
      replace kk := Ch.trans kk (Ch.of_same kO5)
      replace eRW := TK.same kO5 _ _ eRW
      replace gw := NB.same gw kO5
      replace gr := NBs.same gr kO5
      replace eRR := kO5 _ _ eRR
      replace grr := NBs.same grr kO5
      replace sO3 := TK.same kO5 _ _ sO3
      replace sO4 := TK.same kO5 _ _ sO4
      clear kO5
      clear sO3 sO4
      have gO5 : NX' K 3 2000 X30 a (.ref O5) := (NBs.tup sO5 ((((gr.take sv).mono (m' := 1) (n' := 45)).app (.cons gw (.nil : NBs K 1 0 _ a []))).app ((gr.drop (sv + 1)).mono (m' := 1) (n' := 45)))).nx.mono
      clear sO5
      repeat' (walk_at "jv")
      refine i_slG eRW fun B1 X31 kB1 sB1 => ?_
      rw [show (1 : Int) = ((1 : Nat) : Int) from rfl, cut_from] at sB1
      replace sR := TK.same kB1 _ _ sR
      replace gR := NBs.same gR kB1
      replace f1 := Fd.same f1 kB1
      replace kk := Ch.trans kk (Ch.of_same kB1)
      replace eRW := TK.same kB1 _ _ eRW
      replace gw := NB.same gw kB1
      replace gr := NBs.same gr kB1
      replace eRR := kB1 _ _ eRR
      replace grr := NBs.same grr kB1
      replace gO5 := NX'.same gO5 kB1
      clear kB1
      have gB1 : NX' K 3 2000 X31 a (.ref B1) := (NBs.tup sB1 (gr.drop 1)).nx.mono
      clear sB1
      repeat' (walk_at "jv")
      intro B2 nB2
      have dB2 := f1.ne nB2
      have kB2 := Same.upd_new (o := .tup ([.int 0])) nB2
      have eB2 : SqT K (upd X31 B2 (.tup ([.int 0]))) B2 ([.int 0]) := sq_tup upd_same
      generalize upd X31 B2 (.tup ([.int 0])) = X32 at *
      replace sR := TK.same kB2 _ _ sR
      replace gR := NBs.same gR kB2
      replace f1 := Fd.same f1 kB2
      replace kk := Ch.trans kk (Ch.of_same kB2)
      replace eRW := TK.same kB2 _ _ eRW
      replace gw := NB.same gw kB2
      replace gr := NBs.same gr kB2
      replace eRR := kB2 _ _ eRR
      replace grr := NBs.same grr kB2
      replace gO5 := NX'.same gO5 kB2
      replace gB1 := NX'.same gB1 kB2
      clear kB2 nB2
      repeat' (walk_at "jv")
      refine i_catG eRW eB2 (by rw [hnr, sizeLine_eq]; show _ + 1 ≤ _; omega) fun B3 X33 kB3 sB3 => ?_
      replace sR := TK.same kB3 _ _ sR
      replace gR := NBs.same gR kB3
      replace f1 := Fd.same f1 kB3
      replace kk := Ch.trans kk (Ch.of_same kB3)
      replace eRW := TK.same kB3 _ _ eRW
      replace gw := NB.same gw kB3
      replace gr := NBs.same gr kB3
      replace eRR := kB3 _ _ eRR
      replace grr := NBs.same grr kB3
      replace gO5 := NX'.same gO5 kB3
      replace gB1 := NX'.same gB1 kB3
      replace eB2 := TK.same kB3 _ _ eB2
      clear kB3
      clear eB2
      have gB3 : NX' K 3 2000 X33 a (.ref B3) := (NBs.tup sB3 (gr.app (.cons (nb_int (by decide) (by decide)) (.nil : NBs K 0 0 _ a [])))).nx.mono
      clear sB3
      repeat' (walk_at "jv")
      intro B4 nB4
      have dB4 := f1.ne nB4
      have kB4 := Same.upd_new (o := .lst (natsV tr)) nB4
      have eB4 : (upd X33 B4 (.lst (natsV tr))) B4 = some (.lst (natsV tr)) := upd_same
      generalize upd X33 B4 (.lst (natsV tr)) = X34 at *
      replace sR := TK.same kB4 _ _ sR
      replace gR := NBs.same gR kB4
      replace f1 := Fd.same f1 kB4
      replace kk := Ch.trans kk (Ch.of_same kB4)
      replace eRW := TK.same kB4 _ _ eRW
      replace gw := NB.same gw kB4
      replace gr := NBs.same gr kB4
      replace eRR := kB4 _ _ eRR
      replace grr := NBs.same grr kB4
      replace gO5 := NX'.same gO5 kB4
      replace gB1 := NX'.same gB1 kB4
      replace gB3 := NX'.same gB3 kB4
      clear kB4 nB4
      have gB4 : NX' K 3 2000 X34 a (.ref B4) := (NQs.lst eB4 dB4 (gr false)).nx.mono
      clear eB4 dB4
      repeat' (walk_at "jv")
      intro LB nLB
      have dLB := f1.ne nLB
      have kLB := Same.upd_new (o := .lst ([.ref B1, .ref B3, .ref B4, .ref O5, .ref O5, .non, .int 1])) nLB
      have eLB : (upd X34 LB (.lst ([.ref B1, .ref B3, .ref B4, .ref O5, .ref O5, .non, .int 1]))) LB = some (.lst ([.ref B1, .ref B3, .ref B4, .ref O5, .ref O5, .non, .int 1])) := upd_same
      generalize upd X34 LB (.lst ([.ref B1, .ref B3, .ref B4, .ref O5, .ref O5, .non, .int 1])) = X35 at *
      replace sR := TK.same kLB _ _ sR
      replace gR := NBs.same gR kLB
      replace f1 := Fd.same f1 kLB
      replace kk := Ch.trans kk (Ch.of_same kLB)
      replace eRW := TK.same kLB _ _ eRW
      replace gw := NB.same gw kLB
      replace gr := NBs.same gr kLB
      replace eRR := kLB _ _ eRR
      replace grr := NBs.same grr kLB
      replace gO5 := NX'.same gO5 kLB
      replace gB1 := NX'.same gB1 kLB
      replace gB3 := NX'.same gB3 kLB
      replace gB4 := NX'.same gB4 kLB
      clear kLB nLB
      have glLB : ∀ x ∈ ([.ref B1, .ref B3, .ref B4, .ref O5, .ref O5, .non, .int 1] : List V), NX' K 3 2000 X35 a x :=
        fa_cons (gB1).mono <|
        fa_cons (gB3).mono <|
        fa_cons (gB4).mono <|
        fa_cons (gO5).mono <|
        fa_cons (gO5).mono <|
        fa_cons (nb_none.nx).mono <|
        fa_cons ((nb_int (i := 1) (by decide) (by decide)).nx).mono <|
        fa_nil
      clear gB1 gB3 gB4 gO5
      repeat' (walk_at "jv")
      refine ⟨a, LB, c + 15 + 1 + 1 + 1 + 1 + 1, [.ref B1, .ref B3, .ref B4, .ref O5, .ref O5, .non, .int 1], rfl, f1, SqA.l (sq_lst eLB), dLB, by show 0 < 7; decide, by show 7 < 1000000; decide, by omega, fun bt W2 hy f2 k2 => ?_⟩
      have gbt := glLB bt hy
      clear hy glLB eLB
      replace sR := TK.ch k2 f1 _ _ sR
      replace gR := NBs.ch gR k2 f1
      replace kk := Ch.trans kk k2
      replace eRW := TK.ch k2 f1 _ _ eRW
      replace gw := NB.ch gw k2 f1
      replace gr := NBs.ch gr k2 f1
      replace grr := NBs.ch grr k2 f1
      replace gbt := NX'.ch gbt k2 f1
      replace eRR := k2 _ _ dRR eRR
      clear f1 k2
      have f1 := f2
      clear f2
      repeat' (walk_at "jv")
      intro S1 nS1
      have dS1 := f1.ne nS1
      have kS1 := Same.upd_new (o := .tup (List.replicate k (V.ref RW))) nS1
      have eS1 : SqT K (upd W2 S1 (.tup (List.replicate k (V.ref RW)))) S1 (List.replicate k (V.ref RW)) := sq_tup upd_same
      generalize upd W2 S1 (.tup (List.replicate k (V.ref RW))) = X36 at *
      replace sR := TK.same kS1 _ _ sR
      replace gR := NBs.same gR kS1
      replace f1 := Fd.same f1 kS1
      replace kk := Ch.trans kk (Ch.of_same kS1)
      replace eRW := TK.same kS1 _ _ eRW
      replace gw := NB.same gw kS1
      replace gr := NBs.same gr kS1
      replace eRR := kS1 _ _ eRR
      replace grr := NBs.same grr kS1
      replace gbt := NX'.same gbt kS1
      clear kS1 nS1
      have gS1 : NX' K 3 2000 X36 a (.ref S1) := (NBs.tup eS1 grr).nx.mono
      clear eS1 dS1
      repeat' (walk_at "jv")
      intro S2 nS2
      have dS2 := f1.ne nS2
      have kS2 := Same.upd_new (o := .lst (cutV (List.replicate k (V.ref RW)) (some 1) none)) nS2
      have eS2 : (upd X36 S2 (.lst (cutV (List.replicate k (V.ref RW)) (some 1) none))) S2 = some (.lst (cutV (List.replicate k (V.ref RW)) (some 1) none)) := upd_same
      generalize upd X36 S2 (.lst (cutV (List.replicate k (V.ref RW)) (some 1) none)) = X37 at *
      replace sR := TK.same kS2 _ _ sR
      replace gR := NBs.same gR kS2
      replace f1 := Fd.same f1 kS2
      replace kk := Ch.trans kk (Ch.of_same kS2)
      replace eRW := TK.same kS2 _ _ eRW
      replace gw := NB.same gw kS2
      replace gr := NBs.same gr kS2
      replace eRR := kS2 _ _ eRR
      replace grr := NBs.same grr kS2
      replace gbt := NX'.same gbt kS2
      replace gS1 := NX'.same gS1 kS2
      clear kS2 nS2
      repeat' (walk_at "jv")
      intro S3 nS3
      have dS3 := f1.ne nS3
      have kS3 := Same.upd_new (o := .tup (cutV (List.replicate k (V.ref RW)) (some 1) none)) nS3
      have eS3 : SqT K (upd X37 S3 (.tup (cutV (List.replicate k (V.ref RW)) (some 1) none))) S3 (cutV (List.replicate k (V.ref RW)) (some 1) none) := sq_tup upd_same
      generalize upd X37 S3 (.tup (cutV (List.replicate k (V.ref RW)) (some 1) none)) = X38 at *
      replace sR := TK.same kS3 _ _ sR
      replace gR := NBs.same gR kS3
      replace f1 := Fd.same f1 kS3
      replace kk := Ch.trans kk (Ch.of_same kS3)
      replace eRW := TK.same kS3 _ _ eRW
      replace gw := NB.same gw kS3
      replace gr := NBs.same gr kS3
      replace eRR := kS3 _ _ eRR
      replace grr := NBs.same grr kS3
      replace gbt := NX'.same gbt kS3
      replace gS1 := NX'.same gS1 kS3
      replace eS2 := kS3 _ _ eS2
      clear kS3 nS3
      clear eS2
      have gS3 : NX' K 3 2000 X38 a (.ref S3) := (NBs.tup eS3 (grr.cut _ _)).nx.mono
      clear eS3 dS3
      repeat' (walk_at "jv")
      intro S4 nS4
      have dS4 := f1.ne nS4
      have kS4 := Same.upd_new (o := .lst ([.ref RW])) nS4
      have eS4 : (upd X38 S4 (.lst ([.ref RW]))) S4 = some (.lst ([.ref RW])) := upd_same
      generalize upd X38 S4 (.lst ([.ref RW])) = X39 at *
      replace sR := TK.same kS4 _ _ sR
      replace gR := NBs.same gR kS4
      replace f1 := Fd.same f1 kS4
      replace kk := Ch.trans kk (Ch.of_same kS4)
      replace eRW := TK.same kS4 _ _ eRW
      replace gw := NB.same gw kS4
      replace gr := NBs.same gr kS4
      replace eRR := kS4 _ _ eRR
      replace grr := NBs.same grr kS4
      replace gbt := NX'.same gbt kS4
      replace gS1 := NX'.same gS1 kS4
      replace gS3 := NX'.same gS3 kS4
      clear kS4 nS4
      repeat' (walk_at "jv")
      refine i_catL eRR eS4 (by rw [List.length_replicate, sizeLine_eq]; show _ + 1 ≤ _; omega) fun S5 nS5 => ?_
      have dS5 := f1.ne nS5
      have kS5 := Same.upd_new (o := .lst (List.replicate k (V.ref RW) ++ [.ref RW])) nS5
      have eS5 : (upd X39 S5 (.lst (List.replicate k (V.ref RW) ++ [.ref RW]))) S5 = some (.lst (List.replicate k (V.ref RW) ++ [.ref RW])) := upd_same
      generalize upd X39 S5 (.lst (List.replicate k (V.ref RW) ++ [.ref RW])) = X40 at *
      replace sR := TK.same kS5 _ _ sR
      replace gR := NBs.same gR kS5
      replace f1 := Fd.same f1 kS5
      replace kk := Ch.trans kk (Ch.of_same kS5)
      replace eRW := TK.same kS5 _ _ eRW
      replace gw := NB.same gw kS5
      replace gr := NBs.same gr kS5
      replace eRR := kS5 _ _ eRR
      replace grr := NBs.same grr kS5
      replace gbt := NX'.same gbt kS5
      replace gS1 := NX'.same gS1 kS5
      replace gS3 := NX'.same gS3 kS5
      replace eS4 := kS5 _ _ eS4
      clear kS5 nS5
      clear eS4
      repeat' (walk_at "jv")
      intro S6 nS6
      have dS6 := f1.ne nS6
      have kS6 := Same.upd_new (o := .tup (List.replicate k (V.ref RW) ++ [.ref RW])) nS6
      have eS6 : SqT K (upd X40 S6 (.tup (List.replicate k (V.ref RW) ++ [.ref RW]))) S6 (List.replicate k (V.ref RW) ++ [.ref RW]) := sq_tup upd_same
      generalize upd X40 S6 (.tup (List.replicate k (V.ref RW) ++ [.ref RW])) = X41 at *
      replace sR := TK.same kS6 _ _ sR
      replace gR := NBs.same gR kS6
      replace f1 := Fd.same f1 kS6
      replace kk := Ch.trans kk (Ch.of_same kS6)
      replace eRW := TK.same kS6 _ _ eRW
      replace gw := NB.same gw kS6
      replace gr := NBs.same gr kS6
      replace eRR := kS6 _ _ eRR
      replace grr := NBs.same grr kS6
      replace gbt := NX'.same gbt kS6
      replace gS1 := NX'.same gS1 kS6
      replace gS3 := NX'.same gS3 kS6
      replace eS5 := kS6 _ _ eS5
      clear kS6 nS6
      clear eS5
      have gS6 : NX' K 3 2000 X41 a (.ref S6) := (NBs.tup eS6 (grr.app (.cons (NBs.tup eRW gr) (.nil : NBs K 1 0 _ a [])))).nx.mono
      clear eS6 dS6
      repeat' (walk_at "jv")
      intro LS nLS
      have dLS := f1.ne nLS
      have kLS := Same.upd_new (o := .lst ([.ref S1, .ref S3, .ref S6, .ref RR, .ref RW, .non])) nLS
      have eLS : (upd X41 LS (.lst ([.ref S1, .ref S3, .ref S6, .ref RR, .ref RW, .non]))) LS = some (.lst ([.ref S1, .ref S3, .ref S6, .ref RR, .ref RW, .non])) := upd_same
      generalize upd X41 LS (.lst ([.ref S1, .ref S3, .ref S6, .ref RR, .ref RW, .non])) = X42 at *
      replace sR := TK.same kLS _ _ sR
      replace gR := NBs.same gR kLS
      replace f1 := Fd.same f1 kLS
      replace kk := Ch.trans kk (Ch.of_same kLS)
      replace eRW := TK.same kLS _ _ eRW
      replace gw := NB.same gw kLS
      replace gr := NBs.same gr kLS
      replace eRR := kLS _ _ eRR
      replace grr := NBs.same grr kLS
      replace gbt := NX'.same gbt kLS
      replace gS1 := NX'.same gS1 kLS
      replace gS3 := NX'.same gS3 kLS
      replace gS6 := NX'.same gS6 kLS
      clear kLS nLS
      repeat' (walk_at "jv")
      intro V1 nV1
      have dV1 := f1.ne nV1
      have kV1 := Same.upd_new (o := .lst (cutV (List.replicate k (V.ref RW)) none (some ((lv : Nat) : Int)))) nV1
      have eV1 : (upd X42 V1 (.lst (cutV (List.replicate k (V.ref RW)) none (some ((lv : Nat) : Int))))) V1 = some (.lst (cutV (List.replicate k (V.ref RW)) none (some ((lv : Nat) : Int)))) := upd_same
      generalize upd X42 V1 (.lst (cutV (List.replicate k (V.ref RW)) none (some ((lv : Nat) : Int)))) = X43 at *
      replace sR := TK.same kV1 _ _ sR
      replace gR := NBs.same gR kV1
      replace f1 := Fd.same f1 kV1
      replace kk := Ch.trans kk (Ch.of_same kV1)
      replace eRW := TK.same kV1 _ _ eRW
      replace gw := NB.same gw kV1
      replace gr := NBs.same gr kV1
      replace eRR := kV1 _ _ eRR
      replace grr := NBs.same grr kV1
      replace gbt := NX'.same gbt kV1
      replace gS1 := NX'.same gS1 kV1
      replace gS3 := NX'.same gS3 kV1
      replace gS6 := NX'.same gS6 kV1
      replace eLS := kV1 _ _ eLS
      clear kV1 nV1
      repeat' (walk_at "jv")
      intro V2 nV2
      have dV2 := f1.ne nV2
      have kV2 := Same.upd_new (o := .lst ([bt])) nV2
      have eV2 : (upd X43 V2 (.lst ([bt]))) V2 = some (.lst ([bt])) := upd_same
      generalize upd X43 V2 (.lst ([bt])) = X44 at *
      replace sR := TK.same kV2 _ _ sR
      replace gR := NBs.same gR kV2
      replace f1 := Fd.same f1 kV2
      replace kk := Ch.trans kk (Ch.of_same kV2)
      replace eRW := TK.same kV2 _ _ eRW
      replace gw := NB.same gw kV2
      replace gr := NBs.same gr kV2
      replace eRR := kV2 _ _ eRR
      replace grr := NBs.same grr kV2
      replace gbt := NX'.same gbt kV2
      replace gS1 := NX'.same gS1 kV2
      replace gS3 := NX'.same gS3 kV2
      replace gS6 := NX'.same gS6 kV2
      replace eLS := kV2 _ _ eLS
      replace eV1 := kV2 _ _ eV1
      clear kV2 nV2
      repeat' (walk_at "jv")
      have cA : (cutV (List.replicate k (V.ref RW)) none (some ((lv : Nat) : Int))).length ≤ k := Nat.le_trans cut_le (Nat.le_of_eq List.length_replicate)
      have cB : (cutV (List.replicate k (V.ref RW)) (some (((lv : Nat) : Int) + 1)) none).length ≤ k := Nat.le_trans cut_le (Nat.le_of_eq List.length_replicate)
      refine i_catL eV1 eV2 (by rw [sizeLine_eq]; show _ + 1 ≤ _; omega) fun V3 nV3 => ?_
      have dV3 := f1.ne nV3
      have kV3 := Same.upd_new (o := .lst (cutV (List.replicate k (V.ref RW)) none (some ((lv : Nat) : Int)) ++ [bt])) nV3
      have eV3 : (upd X44 V3 (.lst (cutV (List.replicate k (V.ref RW)) none (some ((lv : Nat) : Int)) ++ [bt]))) V3 = some (.lst (cutV (List.replicate k (V.ref RW)) none (some ((lv : Nat) : Int)) ++ [bt])) := upd_same
      generalize upd X44 V3 (.lst (cutV (List.replicate k (V.ref RW)) none (some ((lv : Nat) : Int)) ++ [bt])) = X45 at *
      replace sR := TK.same kV3 _ _ sR
      replace gR := NBs.same gR kV3
      replace f1 := Fd.same f1 kV3
      replace kk := Ch.trans kk (Ch.of_same kV3)
      replace eRW := TK.same kV3 _ _ eRW
      replace gw := NB.same gw kV3
      replace gr := NBs.same gr kV3
      replace eRR := kV3 _ _ eRR
      replace grr := NBs.same grr kV3
      replace gbt := NX'.same gbt kV3
      replace gS1 := NX'.same gS1 kV3
      replace gS3 := NX'.same gS3 kV3
      replace gS6 := NX'.same gS6 kV3
      replace eLS := kV3 _ _ eLS
      replace eV1 := kV3 _ _ eV1
      replace eV2 := kV3 _ _ eV2
      clear kV3 nV3
      clear eV1 eV2
      repeat' (walk_at "jv")
      intro V4 nV4
      have dV4 := f1.ne nV4
      have kV4 := Same.upd_new (o := .lst (cutV (List.replicate k (V.ref RW)) (some (((lv : Nat) : Int) + 1)) none)) nV4
      have eV4 : (upd X45 V4 (.lst (cutV (List.replicate k (V.ref RW)) (some (((lv : Nat) : Int) + 1)) none))) V4 = some (.lst (cutV (List.replicate k (V.ref RW)) (some (((lv : Nat) : Int) + 1)) none)) := upd_same
      generalize upd X45 V4 (.lst (cutV (List.replicate k (V.ref RW)) (some (((lv : Nat) : Int) + 1)) none)) = X46 at *
      replace sR := TK.same kV4 _ _ sR
      replace gR := NBs.same gR kV4
      replace f1 := Fd.same f1 kV4
      replace kk := Ch.trans kk (Ch.of_same kV4)
      replace eRW := TK.same kV4 _ _ eRW
      replace gw := NB.same gw kV4
      replace gr := NBs.same gr kV4
      replace eRR := kV4 _ _ eRR
      replace grr := NBs.same grr kV4
      replace gbt := NX'.same gbt kV4
      replace gS1 := NX'.same gS1 kV4
      replace gS3 := NX'.same gS3 kV4
      replace gS6 := NX'.same gS6 kV4
      replace eLS := kV4 _ _ eLS
      replace eV3 := kV4 _ _ eV3
      clear kV4 nV4
      repeat' (walk_at "jv")
      refine i_catL eV3 eV4 (by rw [List.length_append, sizeLine_eq]; show _ + 1 + _ ≤ _; omega) fun V5 nV5 => ?_
      have dV5 := f1.ne nV5
      have kV5 := Same.upd_new (o := .lst (cutV (List.replicate k (V.ref RW)) none (some ((lv : Nat) : Int)) ++ [bt] ++ cutV (List.replicate k (V.ref RW)) (some (((lv : Nat) : Int) + 1)) none)) nV5
      have eV5 : (upd X46 V5 (.lst (cutV (List.replicate k (V.ref RW)) none (some ((lv : Nat) : Int)) ++ [bt] ++ cutV (List.replicate k (V.ref RW)) (some (((lv : Nat) : Int) + 1)) none))) V5 = some (.lst (cutV (List.replicate k (V.ref RW)) none (some ((lv : Nat) : Int)) ++ [bt] ++ cutV (List.replicate k (V.ref RW)) (some (((lv : Nat) : Int) + 1)) none)) := upd_same
      generalize upd X46 V5 (.lst (cutV (List.replicate k (V.ref RW)) none (some ((lv : Nat) : Int)) ++ [bt] ++ cutV (List.replicate k (V.ref RW)) (some (((lv : Nat) : Int) + 1)) none)) = X47 at *
      replace sR := TK.same kV5 _ _ sR
      replace gR := NBs.same gR kV5
      replace f1 := Fd.same f1 kV5
      replace kk := Ch.trans kk (Ch.of_same kV5)
      replace eRW := TK.same kV5 _ _ eRW
      replace gw := NB.same gw kV5
      replace gr := NBs.same gr kV5
      replace eRR := kV5 _ _ eRR
      replace grr := NBs.same grr kV5
      replace gbt := NX'.same gbt kV5
      replace gS1 := NX'.same gS1 kV5
      replace gS3 := NX'.same gS3 kV5
      replace gS6 := NX'.same gS6 kV5
      replace eLS := kV5 _ _ eLS
      replace eV3 := kV5 _ _ eV3
      replace eV4 := kV5 _ _ eV4
      clear kV5 nV5
      clear eV3 eV4
      repeat' (walk_at "jv")
      intro V6 nV6
      have dV6 := f1.ne nV6
      have kV6 := Same.upd_new (o := .tup (cutV (List.replicate k (V.ref RW)) none (some ((lv : Nat) : Int)) ++ [bt] ++ cutV (List.replicate k (V.ref RW)) (some (((lv : Nat) : Int) + 1)) none)) nV6
      have eV6 : SqT K (upd X47 V6 (.tup (cutV (List.replicate k (V.ref RW)) none (some ((lv : Nat) : Int)) ++ [bt] ++ cutV (List.replicate k (V.ref RW)) (some (((lv : Nat) : Int) + 1)) none))) V6 (cutV (List.replicate k (V.ref RW)) none (some ((lv : Nat) : Int)) ++ [bt] ++ cutV (List.replicate k (V.ref RW)) (some (((lv : Nat) : Int) + 1)) none) := sq_tup upd_same
      generalize upd X47 V6 (.tup (cutV (List.replicate k (V.ref RW)) none (some ((lv : Nat) : Int)) ++ [bt] ++ cutV (List.replicate k (V.ref RW)) (some (((lv : Nat) : Int) + 1)) none)) = X48 at *
      replace sR := TK.same kV6 _ _ sR
      replace gR := NBs.same gR kV6
      replace f1 := Fd.same f1 kV6
      replace kk := Ch.trans kk (Ch.of_same kV6)
      replace eRW := TK.same kV6 _ _ eRW
      replace gw := NB.same gw kV6
      replace gr := NBs.same gr kV6
      replace eRR := kV6 _ _ eRR
      replace grr := NBs.same grr kV6
      replace gbt := NX'.same gbt kV6
      replace gS1 := NX'.same gS1 kV6
      replace gS3 := NX'.same gS3 kV6
      replace gS6 := NX'.same gS6 kV6
      replace eLS := kV6 _ _ eLS
      replace eV5 := kV6 _ _ eV5
      clear kV6 nV6
      clear eV5
      have gV6 : NX' K 4 40000 X48 a (.ref V6) := (NX'.mid eV6 ((grr.cut _ _).mono (m' := 3) (n' := 138)) gbt ((grr.cut _ _).mono (m' := 3) (n' := 138))).mono
      clear eV6 dV6
      have gRR : NX' K 3 2000 X48 a (.ref RR) := (NQs.lst eRR dRR (grr false)).nx.mono
      have gRW : NX' K 3 2000 X48 a (.ref RW) := (NBs.tup eRW gr).nx.mono
      clear gbt grr
      repeat' (walk_at "jv")
      intro V7 nV7
      have dV7 := f1.ne nV7
      have kV7 := Same.upd_new (o := .lst ([.ref V6])) nV7
      have eV7 : (upd X48 V7 (.lst ([.ref V6]))) V7 = some (.lst ([.ref V6])) := upd_same
      generalize upd X48 V7 (.lst ([.ref V6])) = X49 at *
      replace sR := TK.same kV7 _ _ sR
      replace gR := NBs.same gR kV7
      replace f1 := Fd.same f1 kV7
      replace kk := Ch.trans kk (Ch.of_same kV7)
      replace eRW := TK.same kV7 _ _ eRW
      replace gw := NB.same gw kV7
      replace gr := NBs.same gr kV7
      replace eRR := kV7 _ _ eRR
      replace gS1 := NX'.same gS1 kV7
      replace gS3 := NX'.same gS3 kV7
      replace gS6 := NX'.same gS6 kV7
      replace eLS := kV7 _ _ eLS
      replace gV6 := NX'.same gV6 kV7
      replace gRR := NX'.same gRR kV7
      replace gRW := NX'.same gRW kV7
      clear kV7 nV7
      repeat' (walk_at "jv")
      refine i_rep (k := 6) eV7 (by decide) fun V8 nV8 => ?_
      have dV8 := f1.ne nV8
      have kV8 := Same.upd_new (o := .lst (List.replicate 6 (V.ref V6))) nV8
      have eV8 : (upd X49 V8 (.lst (List.replicate 6 (V.ref V6)))) V8 = some (.lst (List.replicate 6 (V.ref V6))) := upd_same
      generalize upd X49 V8 (.lst (List.replicate 6 (V.ref V6))) = X50 at *
      replace sR := TK.same kV8 _ _ sR
      replace gR := NBs.same gR kV8
      replace f1 := Fd.same f1 kV8
      replace kk := Ch.trans kk (Ch.of_same kV8)
      replace eRW := TK.same kV8 _ _ eRW
      replace gw := NB.same gw kV8
      replace gr := NBs.same gr kV8
      replace eRR := kV8 _ _ eRR
      replace gS1 := NX'.same gS1 kV8
      replace gS3 := NX'.same gS3 kV8
      replace gS6 := NX'.same gS6 kV8
      replace eLS := kV8 _ _ eLS
      replace gV6 := NX'.same gV6 kV8
      replace gRR := NX'.same gRR kV8
      replace gRW := NX'.same gRW kV8
      replace eV7 := kV8 _ _ eV7
      clear kV8 nV8
      clear eV7
      repeat' (walk_at "jv")
      refine i_catL eLS eV8 (by rw [sizeLine_eq]; show 6 + 6 ≤ _; omega) fun LC nLC => ?_
      have dLC := f1.ne nLC
      have kLC := Same.upd_new (o := .lst ([.ref S1, .ref S3, .ref S6, .ref RR, .ref RW, .non] ++ List.replicate 6 (V.ref V6))) nLC
      have eLC : (upd X50 LC (.lst ([.ref S1, .ref S3, .ref S6, .ref RR, .ref RW, .non] ++ List.replicate 6 (V.ref V6)))) LC = some (.lst ([.ref S1, .ref S3, .ref S6, .ref RR, .ref RW, .non] ++ List.replicate 6 (V.ref V6))) := upd_same
      generalize upd X50 LC (.lst ([.ref S1, .ref S3, .ref S6, .ref RR, .ref RW, .non] ++ List.replicate 6 (V.ref V6))) = X51 at *
      replace sR := TK.same kLC _ _ sR
      replace gR := NBs.same gR kLC
      replace f1 := Fd.same f1 kLC
      replace kk := Ch.trans kk (Ch.of_same kLC)
      replace eRW := TK.same kLC _ _ eRW
      replace gw := NB.same gw kLC
      replace gr := NBs.same gr kLC
      replace eRR := kLC _ _ eRR
      replace gS1 := NX'.same gS1 kLC
      replace gS3 := NX'.same gS3 kLC
      replace gS6 := NX'.same gS6 kLC
      replace gV6 := NX'.same gV6 kLC
      replace gRR := NX'.same gRR kLC
      replace gRW := NX'.same gRW kLC
      clear kLC nLC
      replace eLC : X51 LC = some (.lst ([.ref S1, .ref S3, .ref S6, .ref RR, .ref RW, .non, .ref V6, .ref V6, .ref V6, .ref V6, .ref V6, .ref V6])) := eLC
      have glLC : ∀ x ∈ ([.ref S1, .ref S3, .ref S6, .ref RR, .ref RW, .non, .ref V6, .ref V6, .ref V6, .ref V6, .ref V6, .ref V6] : List V), NX' K 4 50000 X51 a x :=
        fa_cons (gS1).mono <|
        fa_cons (gS3).mono <|
        fa_cons (gS6).mono <|
        fa_cons (gRR).mono <|
        fa_cons (gRW).mono <|
        fa_cons (nb_none.nx).mono <|
        fa_cons (gV6).mono <|
        fa_cons (gV6).mono <|
        fa_cons (gV6).mono <|
        fa_cons (gV6).mono <|
        fa_cons (gV6).mono <|
        fa_cons (gV6).mono <|
        fa_nil
      clear gS1 gS3 gS6 gRR gRW gV6
      clear eRR
      repeat' (walk_at "jv")
      refine ⟨a, LC, c + 15 + 1 + 1 + 1 + 1 + 1 + 1, [.ref S1, .ref S3, .ref S6, .ref RR, .ref RW, .non, .ref V6, .ref V6, .ref V6, .ref V6, .ref V6, .ref V6], rfl, f1, SqA.l (sq_lst eLC), dLC, by show 0 < 12; decide, by show 12 < 1000000; decide, by omega, fun y W3 hy f2 k2 => ?_⟩
      have gy := glLC y hy
      clear hy glLC eLC
      replace sR := TK.ch k2 f1 _ _ sR
      replace gR := NBs.ch gR k2 f1
      replace kk := Ch.trans kk k2
      replace eRW := TK.ch k2 f1 _ _ eRW
      replace gw := NB.ch gw k2 f1
      replace gr := NBs.ch gr k2 f1
      replace gy := NX'.ch gy k2 f1
      clear f1 k2
      have f1 := f2
      clear f2
      repeat' (walk_at "jv")
      intro PT nPT
      have dPT := f1.ne nPT
      have kPT := Same.upd_new (o := .tup ([.str "sum", y])) nPT
      have ePT : SqT K (upd W3 PT (.tup ([.str "sum", y]))) PT ([.str "sum", y]) := sq_tup upd_same
      generalize upd W3 PT (.tup ([.str "sum", y])) = X52 at *
      replace sR := TK.same kPT _ _ sR
      replace gR := NBs.same gR kPT
      replace f1 := Fd.same f1 kPT
      replace kk := Ch.trans kk (Ch.of_same kPT)
      replace eRW := TK.same kPT _ _ eRW
      replace gw := NB.same gw kPT
      replace gr := NBs.same gr kPT
      replace gy := NX'.same gy kPT
      clear kPT nPT
      exact q _ _ ((NX'.pair (by decide +kernel) (by decide +kernel) ePT gy).mono) (f1.mono (by omega)) kk
    · skip
      intro T3 nT3
      have dT3 := f1.ne nT3
      have kT3 := Same.upd_new (o := .tup ([.int 3])) nT3
      have eT3 : SqT K (upd Y4 T3 (.tup ([.int 3]))) T3 ([.int 3]) := sq_tup upd_same
      generalize upd Y4 T3 (.tup ([.int 3])) = X53 at *
      replace sR := TK.same kT3 _ _ sR
      replace gR := NBs.same gR kT3
      replace f1 := Fd.same f1 kT3
      replace kk := Ch.trans kk (Ch.of_same kT3)
      replace ePO := kT3 _ _ ePO
      replace eRW := TK.same kT3 _ _ eRW
      replace gw := NB.same gw kT3
      replace gr := NBs.same gr kT3
      clear kT3 nT3
      have gT3 : NB K 1 120 X53 a (.ref T3) := (NBs.tup eT3 (.cons (nb_int (by decide) (by decide)) .nil)).mono
      repeat' (walk_at "jv")
      intro ML nML
      have dML := f1.ne nML
      have kML := Same.upd_new (o := .lst ([.int 0, .int 9, .int 10, .int (-1), .bl true, .bl false, .non, .str "3", .ref T3, .int 5, .int (10 ^ (30 : Int).toNat)])) nML
      have eML : (upd X53 ML (.lst ([.int 0, .int 9, .int 10, .int (-1), .bl true, .bl false, .non, .str "3", .ref T3, .int 5, .int (10 ^ (30 : Int).toNat)]))) ML = some (.lst ([.int 0, .int 9, .int 10, .int (-1), .bl true, .bl false, .non, .str "3", .ref T3, .int 5, .int (10 ^ (30 : Int).toNat)])) := upd_same
      generalize upd X53 ML (.lst ([.int 0, .int 9, .int 10, .int (-1), .bl true, .bl false, .non, .str "3", .ref T3, .int 5, .int (10 ^ (30 : Int).toNat)])) = X54 at *
      replace sR := TK.same kML _ _ sR
      replace gR := NBs.same gR kML
      replace f1 := Fd.same f1 kML
      replace kk := Ch.trans kk (Ch.of_same kML)
      replace ePO := kML _ _ ePO
      replace eRW := TK.same kML _ _ eRW
      replace gw := NB.same gw kML
      replace gr := NBs.same gr kML
      replace gT3 := NB.same gT3 kML
      clear kML nML
      have glML : ∀ x ∈ ([.int 0, .int 9, .int 10, .int (-1), .bl true, .bl false, .non, .str "3", .ref T3, .int 5, .int (10 ^ (30 : Int).toNat)] : List V), NX' K 4 50000 X54 a x :=
        fa_cons ((nb_int (i := 0) (by decide) (by decide)).nx).mono <|
        fa_cons ((nb_int (i := 9) (by decide) (by decide)).nx).mono <|
        fa_cons ((nb_int (i := 10) (by decide) (by decide)).nx).mono <|
        fa_cons ((nb_int (i := -1) (by decide) (by decide)).nx).mono <|
        fa_cons ((nb_bool true).nx).mono <|
        fa_cons ((nb_bool false).nx).mono <|
        fa_cons (nb_none.nx).mono <|
        fa_cons ((nb_str (by decide +kernel) (by decide +kernel)).nx).mono <|
        fa_cons (gT3.nx).mono <|
        fa_cons ((nb_int (i := 5) (by decide) (by decide)).nx).mono <|
        fa_cons ((nb_far : NB K 0 110 _ a (.int (10 ^ 30))).nx).mono <|
        fa_nil
      repeat' (walk_at "jv")
      refine ⟨a, ML, c + 15 + 1 + 1 + 1 + 1, [.int 0, .int 9, .int 10, .int (-1), .bl true, .bl false, .non, .str "3", .ref T3, .int 5, .int (10 ^ (30 : Int).toNat)], rfl, f1, SqA.l (sq_lst eML), dML, by show 0 < 11; decide, by show 11 < 1000000; decide, by omega, fun y Z1 hy f2 k2 => ?_⟩
      have gy := glML y hy
      clear hy glML eML
      replace sR := TK.ch k2 f1 _ _ sR
      replace gR := NBs.ch gR k2 f1
      replace kk := Ch.trans kk k2
      replace eRW := TK.ch k2 f1 _ _ eRW
      replace gw := NB.ch gw k2 f1
      replace gr := NBs.ch gr k2 f1
      replace gy := NX'.ch gy k2 f1
      replace ePO := k2 _ _ dPO ePO
      clear f1 k2
      have f1 := f2
      clear f2
      repeat' (walk_at "jv")
      intro PT nPT
      have dPT := f1.ne nPT
      have kPT := Same.upd_new (o := .tup ([.str "most", y])) nPT
      have ePT : SqT K (upd Z1 PT (.tup ([.str "most", y]))) PT ([.str "most", y]) := sq_tup upd_same
      generalize upd Z1 PT (.tup ([.str "most", y])) = X55 at *
      replace sR := TK.same kPT _ _ sR
      replace gR := NBs.same gR kPT
      replace f1 := Fd.same f1 kPT
      replace kk := Ch.trans kk (Ch.of_same kPT)
      replace ePO := kPT _ _ ePO
      replace eRW := TK.same kPT _ _ eRW
      replace gw := NB.same gw kPT
      replace gr := NBs.same gr kPT
      replace gy := NX'.same gy kPT
      clear kPT nPT
      exact q _ _ ((NX'.pair (by decide +kernel) (by decide +kernel) ePT gy).mono) (f1.mono (by omega)) kk
    · skip
      refine i_catL ePO ePO (by rw [hmn, sizeLine_eq]; omega) fun OF nOF => ?_
      have dOF := f1.ne nOF
      have kOF := Same.upd_new (o := .lst ((near.map V.str ++ near.map V.str))) nOF
      have eOF : (upd Y4 OF (.lst ((near.map V.str ++ near.map V.str)))) OF = some (.lst ((near.map V.str ++ near.map V.str))) := upd_same
      generalize upd Y4 OF (.lst ((near.map V.str ++ near.map V.str))) = X56 at *
      replace sR := TK.same kOF _ _ sR
      replace gR := NBs.same gR kOF
      replace f1 := Fd.same f1 kOF
      replace kk := Ch.trans kk (Ch.of_same kOF)
      replace ePO := kOF _ _ ePO
      replace eRW := TK.same kOF _ _ eRW
      replace gw := NB.same gw kOF
      replace gr := NBs.same gr kOF
      clear kOF nOF
      repeat' (walk_at "jv")
      intro TA nTA
      have dTA := f1.ne nTA
      have kTA := Same.upd_new (o := .tup ([.str "a"])) nTA
      have eTA : SqT K (upd X56 TA (.tup ([.str "a"]))) TA ([.str "a"]) := sq_tup upd_same
      generalize upd X56 TA (.tup ([.str "a"])) = X57 at *
      replace sR := TK.same kTA _ _ sR
      replace gR := NBs.same gR kTA
      replace f1 := Fd.same f1 kTA
      replace kk := Ch.trans kk (Ch.of_same kTA)
      replace ePO := kTA _ _ ePO
      replace eRW := TK.same kTA _ _ eRW
      replace gw := NB.same gw kTA
      replace gr := NBs.same gr kTA
      replace eOF := kTA _ _ eOF
      clear kTA nTA
      have gTA : NB K 1 120 X57 a (.ref TA) := (NBs.tup eTA (.cons (nb_str (by decide +kernel) (by decide +kernel)) .nil)).mono
      repeat' (walk_at "jv")
      intro LB nLB
      have dLB := f1.ne nLB
      have kLB := Same.upd_new (o := .lst ([.str "b"])) nLB
      have eLB : (upd X57 LB (.lst ([.str "b"]))) LB = some (.lst ([.str "b"])) := upd_same
      generalize upd X57 LB (.lst ([.str "b"])) = X58 at *
      replace sR := TK.same kLB _ _ sR
      replace gR := NBs.same gR kLB
      replace f1 := Fd.same f1 kLB
      replace kk := Ch.trans kk (Ch.of_same kLB)
      replace ePO := kLB _ _ ePO
      replace eRW := TK.same kLB _ _ eRW
      replace gw := NB.same gw kLB
      replace gr := NBs.same gr kLB
      replace eOF := kLB _ _ eOF
      replace gTA := NB.same gTA kLB
      clear kLB nLB
      have gLB : NX' K 1 120 X58 a (.ref LB) := (NQs.lst eLB dLB (.cons (nq_str (by decide +kernel) (by decide +kernel)) .nil)).nx.mono
      repeat' (walk_at "jv")
      intro DE nDE
      have dDE := f1.ne nDE
      have kDE := Same.upd_new (o := .dK []) nDE
      have eDE : (upd X58 DE (.dK [])) DE = some (.dK []) := upd_same
      generalize upd X58 DE (.dK []) = X59 at *
      replace sR := TK.same kDE _ _ sR
      replace gR := NBs.same gR kDE
      replace f1 := Fd.same f1 kDE
      replace kk := Ch.trans kk (Ch.of_same kDE)
      replace ePO := kDE _ _ ePO
      replace eRW := TK.same kDE _ _ eRW
      replace gw := NB.same gw kDE
      replace gr := NBs.same gr kDE
      replace eOF := kDE _ _ eOF
      replace gTA := NB.same gTA kDE
      replace gLB := NX'.same gLB kDE
      clear kDE nDE
      have gDE : NX' K 1 120 X59 a (.ref DE) := (nq_dict eDE dDE).nx.mono
      repeat' (walk_at "jv")
      intro OL nOL
      have dOL := f1.ne nOL
      have kOL := Same.upd_new (o := .lst ([.str "nowhere9", .non, .int 0, .str "", .ref TA, .ref LB, .ref DE])) nOL
      have eOL : (upd X59 OL (.lst ([.str "nowhere9", .non, .int 0, .str "", .ref TA, .ref LB, .ref DE]))) OL = some (.lst ([.str "nowhere9", .non, .int 0, .str "", .ref TA, .ref LB, .ref DE])) := upd_same
      generalize upd X59 OL (.lst ([.str "nowhere9", .non, .int 0, .str "", .ref TA, .ref LB, .ref DE])) = X60 at *
      replace sR := TK.same kOL _ _ sR
      replace gR := NBs.same gR kOL
      replace f1 := Fd.same f1 kOL
      replace kk := Ch.trans kk (Ch.of_same kOL)
      replace ePO := kOL _ _ ePO
      replace eRW := TK.same kOL _ _ eRW
      replace gw := NB.same gw kOL
      replace gr := NBs.same gr kOL
      replace eOF := kOL _ _ eOF
      replace gTA := NB.same gTA kOL
      replace gLB := NX'.same gLB kOL
      replace gDE := NX'.same gDE kOL
      clear kOL nOL
      have glOL : ∀ x ∈ ([.str "nowhere9", .non, .int 0, .str "", .ref TA, .ref LB, .ref DE] : List V), NX' K 4 50000 X60 a x :=
        fa_cons ((nb_str (by decide +kernel) (by decide +kernel)).nx).mono <|
        fa_cons (nb_none.nx).mono <|
        fa_cons ((nb_int (i := 0) (by decide) (by decide)).nx).mono <|
        fa_cons ((nb_str (by decide +kernel) (by decide +kernel)).nx).mono <|
        fa_cons (gTA.nx).mono <|
        fa_cons (gLB).mono <|
        fa_cons (gDE).mono <|
        fa_nil
      clear eTA eLB eDE gTA gLB gDE
      repeat' (walk_at "jv")
      refine i_catL eOF eOL (by rw [List.length_append, hmn, sizeLine_eq]; show _ + 7 ≤ _; omega) fun OA nOA => ?_
      have hOL := glOL
      have glOA : ∀ x ∈ ((near.map V.str ++ near.map V.str) ++ [.str "nowhere9", .non, .int 0, .str "", .ref TA, .ref LB, .ref DE] : List V), NX' K 4 50000 (upd X60 OA (.lst ((near.map V.str ++ near.map V.str) ++ [.str "nowhere9", .non, .int 0, .str "", .ref TA, .ref LB, .ref DE]))) a x := fun x hx => by
        rcases List.mem_append.mp hx with hx | hx
        · obtain ⟨z, hz, rfl⟩ : ∃ z ∈ near, V.str z = x := (List.mem_append.mp hx).elim List.mem_map.mp List.mem_map.mp
          exact (nb_name (nmn z hz)).nx.mono
        · exact (glOL x hx).same (Same.upd_new nOA)
      clear glOL hOL
      have dOA := f1.ne nOA
      have kOA := Same.upd_new (o := .lst ((near.map V.str ++ near.map V.str) ++ [.str "nowhere9", .non, .int 0, .str "", .ref TA, .ref LB, .ref DE])) nOA
      have eOA : (upd X60 OA (.lst ((near.map V.str ++ near.map V.str) ++ [.str "nowhere9", .non, .int 0, .str "", .ref TA, .ref LB, .ref DE]))) OA = some (.lst ((near.map V.str ++ near.map V.str) ++ [.str "nowhere9", .non, .int 0, .str "", .ref TA, .ref LB, .ref DE])) := upd_same
      generalize upd X60 OA (.lst ((near.map V.str ++ near.map V.str) ++ [.str "nowhere9", .non, .int 0, .str "", .ref TA, .ref LB, .ref DE])) = X61 at *
      replace sR := TK.same kOA _ _ sR
      replace gR := NBs.same gR kOA
      replace f1 := Fd.same f1 kOA
      replace kk := Ch.trans kk (Ch.of_same kOA)
      replace ePO := kOA _ _ ePO
      replace eRW := TK.same kOA _ _ eRW
      replace gw := NB.same gw kOA
      replace gr := NBs.same gr kOA
      clear kOA nOA
      repeat' (walk_at "jv")
      refine ⟨a, OA, c + 15 + 1 + 1 + 1 + 1, (near.map V.str ++ near.map V.str) ++ [.str "nowhere9", .non, .int 0, .str "", .ref TA, .ref LB, .ref DE], rfl, f1, SqA.l (sq_lst eOA), dOA, by rw [List.length_append]; show 0 < _ + 7; omega, by rw [List.length_append, List.length_append, hmn]; show _ + 7 < _; omega, by omega, fun y Z2 hy f2 k2 => ?_⟩
      have gy := glOA y hy
      clear hy glOA eOA
      replace sR := TK.ch k2 f1 _ _ sR
      replace gR := NBs.ch gR k2 f1
      replace kk := Ch.trans kk k2
      replace eRW := TK.ch k2 f1 _ _ eRW
      replace gw := NB.ch gw k2 f1
      replace gr := NBs.ch gr k2 f1
      replace gy := NX'.ch gy k2 f1
      replace ePO := k2 _ _ dPO ePO
      clear f1 k2
      have f1 := f2
      clear f2
      repeat' (walk_at "jv")
      intro PT nPT
      have dPT := f1.ne nPT
      have kPT := Same.upd_new (o := .tup ([.str "copy", y])) nPT
      have ePT : SqT K (upd Z2 PT (.tup ([.str "copy", y]))) PT ([.str "copy", y]) := sq_tup upd_same
      generalize upd Z2 PT (.tup ([.str "copy", y])) = X62 at *
      replace sR := TK.same kPT _ _ sR
      replace gR := NBs.same gR kPT
      replace f1 := Fd.same f1 kPT
      replace kk := Ch.trans kk (Ch.of_same kPT)
      replace ePO := kPT _ _ ePO
      replace eRW := TK.same kPT _ _ eRW
      replace gw := NB.same gw kPT
      replace gr := NBs.same gr kPT
      replace gy := NX'.same gy kPT
      clear kPT nPT
      exact q _ _ ((NX'.pair (by decide +kernel) (by decide +kernel) ePT gy).mono) (f1.mono (by omega)) kk
    · skip
      intro A1 nA1
      have dA1 := f1.ne nA1
      have kA1 := Same.upd_new (o := .tup ([.str "keep"])) nA1
      have eA1 : SqT K (upd Y4 A1 (.tup ([.str "keep"]))) A1 ([.str "keep"]) := sq_tup upd_same
      generalize upd Y4 A1 (.tup ([.str "keep"])) = X63 at *
      replace sR := TK.same kA1 _ _ sR
      replace gR := NBs.same gR kA1
      replace f1 := Fd.same f1 kA1
      replace kk := Ch.trans kk (Ch.of_same kA1)
      replace ePO := kA1 _ _ ePO
      replace eRW := TK.same kA1 _ _ eRW
      replace gw := NB.same gw kA1
      replace gr := NBs.same gr kA1
      clear kA1 nA1
      have gA1 : NX' K 3 2000 X63 a (.ref A1) := (NX'.one eA1 ((nb_str (by decide +kernel) (by decide +kernel)).nx)).mono
      clear eA1 dA1
      repeat' (walk_at "jv")
      intro A2 nA2
      have dA2 := f1.ne nA2
      have kA2 := Same.upd_new (o := .tup ([.str "least"])) nA2
      have eA2 : SqT K (upd X63 A2 (.tup ([.str "least"]))) A2 ([.str "least"]) := sq_tup upd_same
      generalize upd X63 A2 (.tup ([.str "least"])) = X64 at *
      replace sR := TK.same kA2 _ _ sR
      replace gR := NBs.same gR kA2
      replace f1 := Fd.same f1 kA2
      replace kk := Ch.trans kk (Ch.of_same kA2)
      replace ePO := kA2 _ _ ePO
      replace eRW := TK.same kA2 _ _ eRW
      replace gw := NB.same gw kA2
      replace gr := NBs.same gr kA2
      replace gA1 := NX'.same gA1 kA2
      clear kA2 nA2
      have gA2 : NX' K 3 2000 X64 a (.ref A2) := (NX'.one eA2 ((nb_str (by decide +kernel) (by decide +kernel)).nx)).mono
      clear eA2 dA2
      repeat' (walk_at "jv")
      intro A3 nA3
      have dA3 := f1.ne nA3
      have kA3 := Same.upd_new (o := .tup ([.str "greatest"])) nA3
      have eA3 : SqT K (upd X64 A3 (.tup ([.str "greatest"]))) A3 ([.str "greatest"]) := sq_tup upd_same
      generalize upd X64 A3 (.tup ([.str "greatest"])) = X65 at *
      replace sR := TK.same kA3 _ _ sR
      replace gR := NBs.same gR kA3
      replace f1 := Fd.same f1 kA3
      replace kk := Ch.trans kk (Ch.of_same kA3)
      replace ePO := kA3 _ _ ePO
      replace eRW := TK.same kA3 _ _ eRW
      replace gw := NB.same gw kA3
      replace gr := NBs.same gr kA3
      replace gA1 := NX'.same gA1 kA3
      replace gA2 := NX'.same gA2 kA3
      clear kA3 nA3
      have gA3 : NX' K 3 2000 X65 a (.ref A3) := (NX'.one eA3 ((nb_str (by decide +kernel) (by decide +kernel)).nx)).mono
      clear eA3 dA3
      repeat' (walk_at "jv")
      intro A4 nA4
      have dA4 := f1.ne nA4
      have kA4 := Same.upd_new (o := .tup ([.str "odd"])) nA4
      have eA4 : SqT K (upd X65 A4 (.tup ([.str "odd"]))) A4 ([.str "odd"]) := sq_tup upd_same
      generalize upd X65 A4 (.tup ([.str "odd"])) = X66 at *
      replace sR := TK.same kA4 _ _ sR
      replace gR := NBs.same gR kA4
      replace f1 := Fd.same f1 kA4
      replace kk := Ch.trans kk (Ch.of_same kA4)
      replace ePO := kA4 _ _ ePO
      replace eRW := TK.same kA4 _ _ eRW
      replace gw := NB.same gw kA4
      replace gr := NBs.same gr kA4
      replace gA1 := NX'.same gA1 kA4
      replace gA2 := NX'.same gA2 kA4
      replace gA3 := NX'.same gA3 kA4
      clear kA4 nA4
      have gA4 : NX' K 3 2000 X66 a (.ref A4) := (NX'.one eA4 ((nb_str (by decide +kernel) (by decide +kernel)).nx)).mono
      clear eA4 dA4
      repeat' (walk_at "jv")
      intro A5 nA5
      have dA5 := f1.ne nA5
      have kA5 := Same.upd_new (o := .tup ([.str "Keep"])) nA5
      have eA5 : SqT K (upd X66 A5 (.tup ([.str "Keep"]))) A5 ([.str "Keep"]) := sq_tup upd_same
      generalize upd X66 A5 (.tup ([.str "Keep"])) = X67 at *
      replace sR := TK.same kA5 _ _ sR
      replace gR := NBs.same gR kA5
      replace f1 := Fd.same f1 kA5
      replace kk := Ch.trans kk (Ch.of_same kA5)
      replace ePO := kA5 _ _ ePO
      replace eRW := TK.same kA5 _ _ eRW
      replace gw := NB.same gw kA5
      replace gr := NBs.same gr kA5
      replace gA1 := NX'.same gA1 kA5
      replace gA2 := NX'.same gA2 kA5
      replace gA3 := NX'.same gA3 kA5
      replace gA4 := NX'.same gA4 kA5
      clear kA5 nA5
      have gA5 : NX' K 3 2000 X67 a (.ref A5) := (NX'.one eA5 ((nb_str (by decide +kernel) (by decide +kernel)).nx)).mono
      clear eA5 dA5
      repeat' (walk_at "jv")
      intro A6 nA6
      have dA6 := f1.ne nA6
      have kA6 := Same.upd_new (o := .tup ([.str "keep", .int 0])) nA6
      have eA6 : SqT K (upd X67 A6 (.tup ([.str "keep", .int 0]))) A6 ([.str "keep", .int 0]) := sq_tup upd_same
      generalize upd X67 A6 (.tup ([.str "keep", .int 0])) = X68 at *
      replace sR := TK.same kA6 _ _ sR
      replace gR := NBs.same gR kA6
      replace f1 := Fd.same f1 kA6
      replace kk := Ch.trans kk (Ch.of_same kA6)
      replace ePO := kA6 _ _ ePO
      replace eRW := TK.same kA6 _ _ eRW
      replace gw := NB.same gw kA6
      replace gr := NBs.same gr kA6
      replace gA1 := NX'.same gA1 kA6
      replace gA2 := NX'.same gA2 kA6
      replace gA3 := NX'.same gA3 kA6
      replace gA4 := NX'.same gA4 kA6
      replace gA5 := NX'.same gA5 kA6
      clear kA6 nA6
      have gA6 : NX' K 3 2000 X68 a (.ref A6) := (NX'.pair (by decide +kernel) (by decide +kernel) eA6 ((nb_int (i := 0) (by decide) (by decide)).nx)).mono
      clear eA6 dA6
      repeat' (walk_at "jv")
      intro A0 nA0
      have dA0 := f1.ne nA0
      have kA0 := Same.upd_new (o := .tup ([])) nA0
      have eA0 : SqT K (upd X68 A0 (.tup ([]))) A0 ([]) := sq_tup upd_same
      generalize upd X68 A0 (.tup ([])) = X69 at *
      replace sR := TK.same kA0 _ _ sR
      replace gR := NBs.same gR kA0
      replace f1 := Fd.same f1 kA0
      replace kk := Ch.trans kk (Ch.of_same kA0)
      replace ePO := kA0 _ _ ePO
      replace eRW := TK.same kA0 _ _ eRW
      replace gw := NB.same gw kA0
      replace gr := NBs.same gr kA0
      replace gA1 := NX'.same gA1 kA0
      replace gA2 := NX'.same gA2 kA0
      replace gA3 := NX'.same gA3 kA0
      replace gA4 := NX'.same gA4 kA0
      replace gA5 := NX'.same gA5 kA0
      replace gA6 := NX'.same gA6 kA0
      clear kA0 nA0
      have gA0 : NX' K 1 120 X69 a (.ref A0) := (NBs.tup eA0 (.nil : NBs K 0 0 _ a [])).nx.mono
      repeat' (walk_at "jv")
      intro A7 nA7
      have dA7 := f1.ne nA7
      have kA7 := Same.upd_new (o := .tup ([.str "odd", .ref A0])) nA7
      have eA7 : SqT K (upd X69 A7 (.tup ([.str "odd", .ref A0]))) A7 ([.str "odd", .ref A0]) := sq_tup upd_same
      generalize upd X69 A7 (.tup ([.str "odd", .ref A0])) = X70 at *
      replace sR := TK.same kA7 _ _ sR
      replace gR := NBs.same gR kA7
      replace f1 := Fd.same f1 kA7
      replace kk := Ch.trans kk (Ch.of_same kA7)
      replace ePO := kA7 _ _ ePO
      replace eRW := TK.same kA7 _ _ eRW
      replace gw := NB.same gw kA7
      replace gr := NBs.same gr kA7
      replace gA1 := NX'.same gA1 kA7
      replace gA2 := NX'.same gA2 kA7
      replace gA3 := NX'.same gA3 kA7
      replace gA4 := NX'.same gA4 kA7
      replace gA5 := NX'.same gA5 kA7
      replace gA6 := NX'.same gA6 kA7
      replace gA0 := NX'.same gA0 kA7
      clear kA7 nA7
      have gA7 : NX' K 3 2000 X70 a (.ref A7) := (NX'.pair (by decide +kernel) (by decide +kernel) eA7 (gA0)).mono
      clear eA7 dA7
      repeat' (walk_at "jv")
      intro A8 nA8
      have dA8 := f1.ne nA8
      have kA8 := Same.upd_new (o := .tup ([.str "least", .non])) nA8
      have eA8 : SqT K (upd X70 A8 (.tup ([.str "least", .non]))) A8 ([.str "least", .non]) := sq_tup upd_same
      generalize upd X70 A8 (.tup ([.str "least", .non])) = X71 at *
      replace sR := TK.same kA8 _ _ sR
      replace gR := NBs.same gR kA8
      replace f1 := Fd.same f1 kA8
      replace kk := Ch.trans kk (Ch.of_same kA8)
      replace ePO := kA8 _ _ ePO
      replace eRW := TK.same kA8 _ _ eRW
      replace gw := NB.same gw kA8
      replace gr := NBs.same gr kA8
      replace gA1 := NX'.same gA1 kA8
      replace gA2 := NX'.same gA2 kA8
      replace gA3 := NX'.same gA3 kA8
      replace gA4 := NX'.same gA4 kA8
      replace gA5 := NX'.same gA5 kA8
      replace gA6 := NX'.same gA6 kA8
      replace gA0 := NX'.same gA0 kA8
      replace gA7 := NX'.same gA7 kA8
      clear kA8 nA8
      have gA8 : NX' K 3 2000 X71 a (.ref A8) := (NX'.pair (by decide +kernel) (by decide +kernel) eA8 (nb_none.nx)).mono
      clear eA8 dA8
      repeat' (walk_at "jv")
      intro A9 nA9
      have dA9 := f1.ne nA9
      have kA9 := Same.upd_new (o := .lst ([.str "keep"])) nA9
      have eA9 : (upd X71 A9 (.lst ([.str "keep"]))) A9 = some (.lst ([.str "keep"])) := upd_same
      generalize upd X71 A9 (.lst ([.str "keep"])) = X72 at *
      replace sR := TK.same kA9 _ _ sR
      replace gR := NBs.same gR kA9
      replace f1 := Fd.same f1 kA9
      replace kk := Ch.trans kk (Ch.of_same kA9)
      replace ePO := kA9 _ _ ePO
      replace eRW := TK.same kA9 _ _ eRW
      replace gw := NB.same gw kA9
      replace gr := NBs.same gr kA9
      replace gA1 := NX'.same gA1 kA9
      replace gA2 := NX'.same gA2 kA9
      replace gA3 := NX'.same gA3 kA9
      replace gA4 := NX'.same gA4 kA9
      replace gA5 := NX'.same gA5 kA9
      replace gA6 := NX'.same gA6 kA9
      replace gA0 := NX'.same gA0 kA9
      replace gA7 := NX'.same gA7 kA9
      replace gA8 := NX'.same gA8 kA9
      clear kA9 nA9
      have gA9 : NX' K 1 120 X72 a (.ref A9) := (NQs.lst eA9 dA9 (.cons (nq_str (by decide +kernel) (by decide +kernel)) .nil)).nx.mono
      clear eA9 dA9
      repeat' (walk_at "jv")
      intro LA nLA
      have dLA := f1.ne nLA
      have kLA := Same.upd_new (o := .lst ([.ref A1, .ref A2, .ref A3, .ref A4, .ref A5, .ref A6, .ref A7, .ref A8, .ref A9])) nLA
      have eLA : (upd X72 LA (.lst ([.ref A1, .ref A2, .ref A3, .ref A4, .ref A5, .ref A6, .ref A7, .ref A8, .ref A9]))) LA = some (.lst ([.ref A1, .ref A2, .ref A3, .ref A4, .ref A5, .ref A6, .ref A7, .ref A8, .ref A9])) := upd_same
      generalize upd X72 LA (.lst ([.ref A1, .ref A2, .ref A3, .ref A4, .ref A5, .ref A6, .ref A7, .ref A8, .ref A9])) = X73 at *
      replace sR := TK.same kLA _ _ sR
      replace gR := NBs.same gR kLA
      replace f1 := Fd.same f1 kLA
      replace kk := Ch.trans kk (Ch.of_same kLA)
      replace ePO := kLA _ _ ePO
      replace eRW := TK.same kLA _ _ eRW
      replace gw := NB.same gw kLA
      replace gr := NBs.same gr kLA
      replace gA1 := NX'.same gA1 kLA
      replace gA2 := NX'.same gA2 kLA
      replace gA3 := NX'.same gA3 kLA
      replace gA4 := NX'.same gA4 kLA
      replace gA5 := NX'.same gA5 kLA
      replace gA6 := NX'.same gA6 kLA
      replace gA0 := NX'.same gA0 kLA
      replace gA7 := NX'.same gA7 kLA
      replace gA8 := NX'.same gA8 kLA
      replace gA9 := NX'.same gA9 kLA
      clear kLA nLA
      repeat' (walk_at "jv")
      intro B0 nB0
      have dB0 := f1.ne nB0
      have kB0 := Same.upd_new (o := .tup ([])) nB0
      have eB0 : SqT K (upd X73 B0 (.tup ([]))) B0 ([]) := sq_tup upd_same
      generalize upd X73 B0 (.tup ([])) = X74 at *
      replace sR := TK.same kB0 _ _ sR
      replace gR := NBs.same gR kB0
      replace f1 := Fd.same f1 kB0
      replace kk := Ch.trans kk (Ch.of_same kB0)
      replace ePO := kB0 _ _ ePO
      replace eRW := TK.same kB0 _ _ eRW
      replace gw := NB.same gw kB0
      replace gr := NBs.same gr kB0
      replace gA1 := NX'.same gA1 kB0
      replace gA2 := NX'.same gA2 kB0
      replace gA3 := NX'.same gA3 kB0
      replace gA4 := NX'.same gA4 kB0
      replace gA5 := NX'.same gA5 kB0
      replace gA6 := NX'.same gA6 kB0
      replace gA0 := NX'.same gA0 kB0
      replace gA7 := NX'.same gA7 kB0
      replace gA8 := NX'.same gA8 kB0
      replace gA9 := NX'.same gA9 kB0
      replace eLA := kB0 _ _ eLA
      clear kB0 nB0
      have gB0 : NX' K 1 120 X74 a (.ref B0) := (NBs.tup eB0 (.nil : NBs K 0 0 _ a [])).nx.mono
      repeat' (walk_at "jv")
      intro B1 nB1
      have dB1 := f1.ne nB1
      have kB1 := Same.upd_new (o := .tup ([.str "most"])) nB1
      have eB1 : SqT K (upd X74 B1 (.tup ([.str "most"]))) B1 ([.str "most"]) := sq_tup upd_same
      generalize upd X74 B1 (.tup ([.str "most"])) = X75 at *
      replace sR := TK.same kB1 _ _ sR
      replace gR := NBs.same gR kB1
      replace f1 := Fd.same f1 kB1
      replace kk := Ch.trans kk (Ch.of_same kB1)
      replace ePO := kB1 _ _ ePO
      replace eRW := TK.same kB1 _ _ eRW
      replace gw := NB.same gw kB1
      replace gr := NBs.same gr kB1
      replace gA1 := NX'.same gA1 kB1
      replace gA2 := NX'.same gA2 kB1
      replace gA3 := NX'.same gA3 kB1
      replace gA4 := NX'.same gA4 kB1
      replace gA5 := NX'.same gA5 kB1
      replace gA6 := NX'.same gA6 kB1
      replace gA0 := NX'.same gA0 kB1
      replace gA7 := NX'.same gA7 kB1
      replace gA8 := NX'.same gA8 kB1
      replace gA9 := NX'.same gA9 kB1
      replace eLA := kB1 _ _ eLA
      replace gB0 := NX'.same gB0 kB1
      clear kB1 nB1
      have gB1 : NX' K 3 2000 X75 a (.ref B1) := (NX'.one eB1 ((nb_str (by decide +kernel) (by decide +kernel)).nx)).mono
      clear eB1 dB1
      repeat' (walk_at "jv")
      intro B2 nB2
      have dB2 := f1.ne nB2
      have kB2 := Same.upd_new (o := .tup ([.str "copy"])) nB2
      have eB2 : SqT K (upd X75 B2 (.tup ([.str "copy"]))) B2 ([.str "copy"]) := sq_tup upd_same
      generalize upd X75 B2 (.tup ([.str "copy"])) = X76 at *
      replace sR := TK.same kB2 _ _ sR
      replace gR := NBs.same gR kB2
      replace f1 := Fd.same f1 kB2
      replace kk := Ch.trans kk (Ch.of_same kB2)
      replace ePO := kB2 _ _ ePO
      replace eRW := TK.same kB2 _ _ eRW
      replace gw := NB.same gw kB2
      replace gr := NBs.same gr kB2
      replace gA1 := NX'.same gA1 kB2
      replace gA2 := NX'.same gA2 kB2
      replace gA3 := NX'.same gA3 kB2
      replace gA4 := NX'.same gA4 kB2
      replace gA5 := NX'.same gA5 kB2
      replace gA6 := NX'.same gA6 kB2
      replace gA0 := NX'.same gA0 kB2
      replace gA7 := NX'.same gA7 kB2
      replace gA8 := NX'.same gA8 kB2
      replace gA9 := NX'.same gA9 kB2
      replace eLA := kB2 _ _ eLA
      replace gB0 := NX'.same gB0 kB2
      replace gB1 := NX'.same gB1 kB2
      clear kB2 nB2
      have gB2 : NX' K 3 2000 X76 a (.ref B2) := (NX'.one eB2 ((nb_str (by decide +kernel) (by decide +kernel)).nx)).mono
      clear eB2 dB2
      repeat' (walk_at "jv")
      intro B3 nB3
      have dB3 := f1.ne nB3
      have kB3 := Same.upd_new (o := .tup ([.str "sum"])) nB3
      have eB3 : SqT K (upd X76 B3 (.tup ([.str "sum"]))) B3 ([.str "sum"]) := sq_tup upd_same
      generalize upd X76 B3 (.tup ([.str "sum"])) = X77 at *
      replace sR := TK.same kB3 _ _ sR
      replace gR := NBs.same gR kB3
      replace f1 := Fd.same f1 kB3
      replace kk := Ch.trans kk (Ch.of_same kB3)
      replace ePO := kB3 _ _ ePO
      replace eRW := TK.same kB3 _ _ eRW
      replace gw := NB.same gw kB3
      replace gr := NBs.same gr kB3
      replace gA1 := NX'.same gA1 kB3
      replace gA2 := NX'.same gA2 kB3
      replace gA3 := NX'.same gA3 kB3
      replace gA4 := NX'.same gA4 kB3
      replace gA5 := NX'.same gA5 kB3
      replace gA6 := NX'.same gA6 kB3
      replace gA0 := NX'.same gA0 kB3
      replace gA7 := NX'.same gA7 kB3
      replace gA8 := NX'.same gA8 kB3
      replace gA9 := NX'.same gA9 kB3
      replace eLA := kB3 _ _ eLA
      replace gB0 := NX'.same gB0 kB3
      replace gB1 := NX'.same gB1 kB3
      replace gB2 := NX'.same gB2 kB3
      clear kB3 nB3
      have gB3 : NX' K 3 2000 X77 a (.ref B3) := (NX'.one eB3 ((nb_str (by decide +kernel) (by decide +kernel)).nx)).mono
      clear eB3 dB3
      repeat' (walk_at "jv")
      intro B4 nB4
      have dB4 := f1.ne nB4
      have kB4 := Same.upd_new (o := .tup ([.non])) nB4
      have eB4 : SqT K (upd X77 B4 (.tup ([.non]))) B4 ([.non]) := sq_tup upd_same
      generalize upd X77 B4 (.tup ([.non])) = X78 at *
      replace sR := TK.same kB4 _ _ sR
      replace gR := NBs.same gR kB4
      replace f1 := Fd.same f1 kB4
      replace kk := Ch.trans kk (Ch.of_same kB4)
      replace ePO := kB4 _ _ ePO
      replace eRW := TK.same kB4 _ _ eRW
      replace gw := NB.same gw kB4
      replace gr := NBs.same gr kB4
      replace gA1 := NX'.same gA1 kB4
      replace gA2 := NX'.same gA2 kB4
      replace gA3 := NX'.same gA3 kB4
      replace gA4 := NX'.same gA4 kB4
      replace gA5 := NX'.same gA5 kB4
      replace gA6 := NX'.same gA6 kB4
      replace gA0 := NX'.same gA0 kB4
      replace gA7 := NX'.same gA7 kB4
      replace gA8 := NX'.same gA8 kB4
      replace gA9 := NX'.same gA9 kB4
      replace eLA := kB4 _ _ eLA
      replace gB0 := NX'.same gB0 kB4
      replace gB1 := NX'.same gB1 kB4
      replace gB2 := NX'.same gB2 kB4
      replace gB3 := NX'.same gB3 kB4
      clear kB4 nB4
      have gB4 : NX' K 3 2000 X78 a (.ref B4) := (NX'.one eB4 (nb_none.nx)).mono
      clear eB4 dB4
      repeat' (walk_at "jv")
      intro B5 nB5
      have dB5 := f1.ne nB5
      have kB5 := Same.upd_new (o := .tup ([.int 0])) nB5
      have eB5 : SqT K (upd X78 B5 (.tup ([.int 0]))) B5 ([.int 0]) := sq_tup upd_same
      generalize upd X78 B5 (.tup ([.int 0])) = X79 at *
      replace sR := TK.same kB5 _ _ sR
      replace gR := NBs.same gR kB5
      replace f1 := Fd.same f1 kB5
      replace kk := Ch.trans kk (Ch.of_same kB5)
      replace ePO := kB5 _ _ ePO
      replace eRW := TK.same kB5 _ _ eRW
      replace gw := NB.same gw kB5
      replace gr := NBs.same gr kB5
      replace gA1 := NX'.same gA1 kB5
      replace gA2 := NX'.same gA2 kB5
      replace gA3 := NX'.same gA3 kB5
      replace gA4 := NX'.same gA4 kB5
      replace gA5 := NX'.same gA5 kB5
      replace gA6 := NX'.same gA6 kB5
      replace gA0 := NX'.same gA0 kB5
      replace gA7 := NX'.same gA7 kB5
      replace gA8 := NX'.same gA8 kB5
      replace gA9 := NX'.same gA9 kB5
      replace eLA := kB5 _ _ eLA
      replace gB0 := NX'.same gB0 kB5
      replace gB1 := NX'.same gB1 kB5
      replace gB2 := NX'.same gB2 kB5
      replace gB3 := NX'.same gB3 kB5
      replace gB4 := NX'.same gB4 kB5
      clear kB5 nB5
      have gB5 : NX' K 3 2000 X79 a (.ref B5) := (NX'.one eB5 ((nb_int (i := 0) (by decide) (by decide)).nx)).mono
      clear eB5 dB5
      repeat' (walk_at "jv")
      intro B6 nB6
      have dB6 := f1.ne nB6
      have kB6 := Same.upd_new (o := .tup ([.str ""])) nB6
      have eB6 : SqT K (upd X79 B6 (.tup ([.str ""]))) B6 ([.str ""]) := sq_tup upd_same
      generalize upd X79 B6 (.tup ([.str ""])) = X80 at *
      replace sR := TK.same kB6 _ _ sR
      replace gR := NBs.same gR kB6
      replace f1 := Fd.same f1 kB6
      replace kk := Ch.trans kk (Ch.of_same kB6)
      replace ePO := kB6 _ _ ePO
      replace eRW := TK.same kB6 _ _ eRW
      replace gw := NB.same gw kB6
      replace gr := NBs.same gr kB6
      replace gA1 := NX'.same gA1 kB6
      replace gA2 := NX'.same gA2 kB6
      replace gA3 := NX'.same gA3 kB6
      replace gA4 := NX'.same gA4 kB6
      replace gA5 := NX'.same gA5 kB6
      replace gA6 := NX'.same gA6 kB6
      replace gA0 := NX'.same gA0 kB6
      replace gA7 := NX'.same gA7 kB6
      replace gA8 := NX'.same gA8 kB6
      replace gA9 := NX'.same gA9 kB6
      replace eLA := kB6 _ _ eLA
      replace gB0 := NX'.same gB0 kB6
      replace gB1 := NX'.same gB1 kB6
      replace gB2 := NX'.same gB2 kB6
      replace gB3 := NX'.same gB3 kB6
      replace gB4 := NX'.same gB4 kB6
      replace gB5 := NX'.same gB5 kB6
      clear kB6 nB6
      have gB6 : NX' K 3 2000 X80 a (.ref B6) := (NX'.one eB6 ((nb_str (by decide +kernel) (by decide +kernel)).nx)).mono
      clear eB6 dB6
      repeat' (walk_at "jv")
      intro B7 nB7
      have dB7 := f1.ne nB7
      have kB7 := Same.upd_new (o := .tup ([.str "own"])) nB7
      have eB7 : SqT K (upd X80 B7 (.tup ([.str "own"]))) B7 ([.str "own"]) := sq_tup upd_same
      generalize upd X80 B7 (.tup ([.str "own"])) = X81 at *
      replace sR := TK.same kB7 _ _ sR
      replace gR := NBs.same gR kB7
      replace f1 := Fd.same f1 kB7
      replace kk := Ch.trans kk (Ch.of_same kB7)
      replace ePO := kB7 _ _ ePO
      replace eRW := TK.same kB7 _ _ eRW
      replace gw := NB.same gw kB7
      replace gr := NBs.same gr kB7
      replace gA1 := NX'.same gA1 kB7
      replace gA2 := NX'.same gA2 kB7
      replace gA3 := NX'.same gA3 kB7
      replace gA4 := NX'.same gA4 kB7
      replace gA5 := NX'.same gA5 kB7
      replace gA6 := NX'.same gA6 kB7
      replace gA0 := NX'.same gA0 kB7
      replace gA7 := NX'.same gA7 kB7
      replace gA8 := NX'.same gA8 kB7
      replace gA9 := NX'.same gA9 kB7
      replace eLA := kB7 _ _ eLA
      replace gB0 := NX'.same gB0 kB7
      replace gB1 := NX'.same gB1 kB7
      replace gB2 := NX'.same gB2 kB7
      replace gB3 := NX'.same gB3 kB7
      replace gB4 := NX'.same gB4 kB7
      replace gB5 := NX'.same gB5 kB7
      replace gB6 := NX'.same gB6 kB7
      clear kB7 nB7
      have gB7 : NX' K 3 2000 X81 a (.ref B7) := (NX'.one eB7 ((nb_str (by decide +kernel) (by decide +kernel)).nx)).mono
      clear eB7 dB7
      repeat' (walk_at "jv")
      intro C1 nC1
      have dC1 := f1.ne nC1
      have kC1 := Same.upd_new (o := .lst ([.str "odd"])) nC1
      have eC1 : (upd X81 C1 (.lst ([.str "odd"]))) C1 = some (.lst ([.str "odd"])) := upd_same
      generalize upd X81 C1 (.lst ([.str "odd"])) = X82 at *
      replace sR := TK.same kC1 _ _ sR
      replace gR := NBs.same gR kC1
      replace f1 := Fd.same f1 kC1
      replace kk := Ch.trans kk (Ch.of_same kC1)
      replace ePO := kC1 _ _ ePO
      replace eRW := TK.same kC1 _ _ eRW
      replace gw := NB.same gw kC1
      replace gr := NBs.same gr kC1
      replace gA1 := NX'.same gA1 kC1
      replace gA2 := NX'.same gA2 kC1
      replace gA3 := NX'.same gA3 kC1
      replace gA4 := NX'.same gA4 kC1
      replace gA5 := NX'.same gA5 kC1
      replace gA6 := NX'.same gA6 kC1
      replace gA0 := NX'.same gA0 kC1
      replace gA7 := NX'.same gA7 kC1
      replace gA8 := NX'.same gA8 kC1
      replace gA9 := NX'.same gA9 kC1
      replace eLA := kC1 _ _ eLA
      replace gB0 := NX'.same gB0 kC1
      replace gB1 := NX'.same gB1 kC1
      replace gB2 := NX'.same gB2 kC1
      replace gB3 := NX'.same gB3 kC1
      replace gB4 := NX'.same gB4 kC1
      replace gB5 := NX'.same gB5 kC1
      replace gB6 := NX'.same gB6 kC1
      replace gB7 := NX'.same gB7 kC1
      clear kC1 nC1
      have gC1 : NX' K 1 120 X82 a (.ref C1) := (NQs.lst eC1 dC1 (.cons (nq_str (by decide +kernel) (by decide +kernel)) .nil)).nx.mono
      clear eC1 dC1
      repeat' (walk_at "jv")
      intro B8 nB8
      have dB8 := f1.ne nB8
      have kB8 := Same.upd_new (o := .tup ([.ref C1])) nB8
      have eB8 : SqT K (upd X82 B8 (.tup ([.ref C1]))) B8 ([.ref C1]) := sq_tup upd_same
      generalize upd X82 B8 (.tup ([.ref C1])) = X83 at *
      replace sR := TK.same kB8 _ _ sR
      replace gR := NBs.same gR kB8
      replace f1 := Fd.same f1 kB8
      replace kk := Ch.trans kk (Ch.of_same kB8)
      replace ePO := kB8 _ _ ePO
      replace eRW := TK.same kB8 _ _ eRW
      replace gw := NB.same gw kB8
      replace gr := NBs.same gr kB8
      replace gA1 := NX'.same gA1 kB8
      replace gA2 := NX'.same gA2 kB8
      replace gA3 := NX'.same gA3 kB8
      replace gA4 := NX'.same gA4 kB8
      replace gA5 := NX'.same gA5 kB8
      replace gA6 := NX'.same gA6 kB8
      replace gA0 := NX'.same gA0 kB8
      replace gA7 := NX'.same gA7 kB8
      replace gA8 := NX'.same gA8 kB8
      replace gA9 := NX'.same gA9 kB8
      replace eLA := kB8 _ _ eLA
      replace gB0 := NX'.same gB0 kB8
      replace gB1 := NX'.same gB1 kB8
      replace gB2 := NX'.same gB2 kB8
      replace gB3 := NX'.same gB3 kB8
      replace gB4 := NX'.same gB4 kB8
      replace gB5 := NX'.same gB5 kB8
      replace gB6 := NX'.same gB6 kB8
      replace gB7 := NX'.same gB7 kB8
      replace gC1 := NX'.same gC1 kB8
      clear kB8 nB8
      have gB8 : NX' K 3 2000 X83 a (.ref B8) := (NX'.one eB8 (gC1)).mono
      clear eB8 dB8
      repeat' (walk_at "jv")
      intro C2 nC2
      have dC2 := f1.ne nC2
      have kC2 := Same.upd_new (o := .dK []) nC2
      have eC2 : (upd X83 C2 (.dK [])) C2 = some (.dK []) := upd_same
      generalize upd X83 C2 (.dK []) = X84 at *
      replace sR := TK.same kC2 _ _ sR
      replace gR := NBs.same gR kC2
      replace f1 := Fd.same f1 kC2
      replace kk := Ch.trans kk (Ch.of_same kC2)
      replace ePO := kC2 _ _ ePO
      replace eRW := TK.same kC2 _ _ eRW
      replace gw := NB.same gw kC2
      replace gr := NBs.same gr kC2
      replace gA1 := NX'.same gA1 kC2
      replace gA2 := NX'.same gA2 kC2
      replace gA3 := NX'.same gA3 kC2
      replace gA4 := NX'.same gA4 kC2
      replace gA5 := NX'.same gA5 kC2
      replace gA6 := NX'.same gA6 kC2
      replace gA0 := NX'.same gA0 kC2
      replace gA7 := NX'.same gA7 kC2
      replace gA8 := NX'.same gA8 kC2
      replace gA9 := NX'.same gA9 kC2
      replace eLA := kC2 _ _ eLA
      replace gB0 := NX'.same gB0 kC2
      replace gB1 := NX'.same gB1 kC2
      replace gB2 := NX'.same gB2 kC2
      replace gB3 := NX'.same gB3 kC2
      replace gB4 := NX'.same gB4 kC2
      replace gB5 := NX'.same gB5 kC2
      replace gB6 := NX'.same gB6 kC2
      replace gB7 := NX'.same gB7 kC2
      replace gC1 := NX'.same gC1 kC2
      replace gB8 := NX'.same gB8 kC2
      clear kC2 nC2
      have gC2 : NX' K 1 120 X84 a (.ref C2) := (nq_dict eC2 dC2).nx.mono
      repeat' (walk_at "jv")
      intro B9 nB9
      have dB9 := f1.ne nB9
      have kB9 := Same.upd_new (o := .tup ([.ref C2])) nB9
      have eB9 : SqT K (upd X84 B9 (.tup ([.ref C2]))) B9 ([.ref C2]) := sq_tup upd_same
      generalize upd X84 B9 (.tup ([.ref C2])) = X85 at *
      replace sR := TK.same kB9 _ _ sR
      replace gR := NBs.same gR kB9
      replace f1 := Fd.same f1 kB9
      replace kk := Ch.trans kk (Ch.of_same kB9)
      replace ePO := kB9 _ _ ePO
      replace eRW := TK.same kB9 _ _ eRW
      replace gw := NB.same gw kB9
      replace gr := NBs.same gr kB9
      replace gA1 := NX'.same gA1 kB9
      replace gA2 := NX'.same gA2 kB9
      replace gA3 := NX'.same gA3 kB9
      replace gA4 := NX'.same gA4 kB9
      replace gA5 := NX'.same gA5 kB9
      replace gA6 := NX'.same gA6 kB9
      replace gA0 := NX'.same gA0 kB9
      replace gA7 := NX'.same gA7 kB9
      replace gA8 := NX'.same gA8 kB9
      replace gA9 := NX'.same gA9 kB9
      replace eLA := kB9 _ _ eLA
      replace gB0 := NX'.same gB0 kB9
      replace gB1 := NX'.same gB1 kB9
      replace gB2 := NX'.same gB2 kB9
      replace gB3 := NX'.same gB3 kB9
      replace gB4 := NX'.same gB4 kB9
      replace gB5 := NX'.same gB5 kB9
      replace gB6 := NX'.same gB6 kB9
      replace gB7 := NX'.same gB7 kB9
      replace gC1 := NX'.same gC1 kB9
      replace gB8 := NX'.same gB8 kB9
      replace gC2 := NX'.same gC2 kB9
      clear kB9 nB9
      have gB9 : NX' K 3 2000 X85 a (.ref B9) := (NX'.one eB9 (gC2)).mono
      clear eB9 dB9
      repeat' (walk_at "jv")
      intro C3 nC3
      have dC3 := f1.ne nC3
      have kC3 := Same.upd_new (o := .lst ([])) nC3
      have eC3 : (upd X85 C3 (.lst ([]))) C3 = some (.lst ([])) := upd_same
      generalize upd X85 C3 (.lst ([])) = X86 at *
      replace sR := TK.same kC3 _ _ sR
      replace gR := NBs.same gR kC3
      replace f1 := Fd.same f1 kC3
      replace kk := Ch.trans kk (Ch.of_same kC3)
      replace ePO := kC3 _ _ ePO
      replace eRW := TK.same kC3 _ _ eRW
      replace gw := NB.same gw kC3
      replace gr := NBs.same gr kC3
      replace gA1 := NX'.same gA1 kC3
      replace gA2 := NX'.same gA2 kC3
      replace gA3 := NX'.same gA3 kC3
      replace gA4 := NX'.same gA4 kC3
      replace gA5 := NX'.same gA5 kC3
      replace gA6 := NX'.same gA6 kC3
      replace gA0 := NX'.same gA0 kC3
      replace gA7 := NX'.same gA7 kC3
      replace gA8 := NX'.same gA8 kC3
      replace gA9 := NX'.same gA9 kC3
      replace eLA := kC3 _ _ eLA
      replace gB0 := NX'.same gB0 kC3
      replace gB1 := NX'.same gB1 kC3
      replace gB2 := NX'.same gB2 kC3
      replace gB3 := NX'.same gB3 kC3
      replace gB4 := NX'.same gB4 kC3
      replace gB5 := NX'.same gB5 kC3
      replace gB6 := NX'.same gB6 kC3
      replace gB7 := NX'.same gB7 kC3
      replace gC1 := NX'.same gC1 kC3
      replace gB8 := NX'.same gB8 kC3
      replace gC2 := NX'.same gC2 kC3
      replace gB9 := NX'.same gB9 kC3
      clear kC3 nC3
      have gC3 : NX' K 1 120 X86 a (.ref C3) := (NQs.lst eC3 dC3 (.nil : NQs K false 0 0 _ a [])).nx.mono
      repeat' (walk_at "jv")
      intro BB nBB
      have dBB := f1.ne nBB
      have kBB := Same.upd_new (o := .tup ([.ref C3])) nBB
      have eBB : SqT K (upd X86 BB (.tup ([.ref C3]))) BB ([.ref C3]) := sq_tup upd_same
      generalize upd X86 BB (.tup ([.ref C3])) = X87 at *
      replace sR := TK.same kBB _ _ sR
      replace gR := NBs.same gR kBB
      replace f1 := Fd.same f1 kBB
      replace kk := Ch.trans kk (Ch.of_same kBB)
      replace ePO := kBB _ _ ePO
      replace eRW := TK.same kBB _ _ eRW
      replace gw := NB.same gw kBB
      replace gr := NBs.same gr kBB
      replace gA1 := NX'.same gA1 kBB
      replace gA2 := NX'.same gA2 kBB
      replace gA3 := NX'.same gA3 kBB
      replace gA4 := NX'.same gA4 kBB
      replace gA5 := NX'.same gA5 kBB
      replace gA6 := NX'.same gA6 kBB
      replace gA0 := NX'.same gA0 kBB
      replace gA7 := NX'.same gA7 kBB
      replace gA8 := NX'.same gA8 kBB
      replace gA9 := NX'.same gA9 kBB
      replace eLA := kBB _ _ eLA
      replace gB0 := NX'.same gB0 kBB
      replace gB1 := NX'.same gB1 kBB
      replace gB2 := NX'.same gB2 kBB
      replace gB3 := NX'.same gB3 kBB
      replace gB4 := NX'.same gB4 kBB
      replace gB5 := NX'.same gB5 kBB
      replace gB6 := NX'.same gB6 kBB
      replace gB7 := NX'.same gB7 kBB
      replace gC1 := NX'.same gC1 kBB
      replace gB8 := NX'.same gB8 kBB
      replace gC2 := NX'.same gC2 kBB
      replace gB9 := NX'.same gB9 kBB
      replace gC3 := NX'.same gC3 kBB
      clear kBB nBB
      have gBB : NX' K 3 2000 X87 a (.ref BB) := (NX'.one eBB (gC3)).mono
      clear eBB dBB
      repeat' (walk_at "jv")
      intro LB nLB
      have dLB := f1.ne nLB
      have kLB := Same.upd_new (o := .lst ([.str "keep", .ref B0, .non, .ref B1, .ref B2, .ref B3, .ref B4, .ref B5, .ref B6, .ref B7, .ref B8, .ref B9, .ref BB])) nLB
      have eLB : (upd X87 LB (.lst ([.str "keep", .ref B0, .non, .ref B1, .ref B2, .ref B3, .ref B4, .ref B5, .ref B6, .ref B7, .ref B8, .ref B9, .ref BB]))) LB = some (.lst ([.str "keep", .ref B0, .non, .ref B1, .ref B2, .ref B3, .ref B4, .ref B5, .ref B6, .ref B7, .ref B8, .ref B9, .ref BB])) := upd_same
      generalize upd X87 LB (.lst ([.str "keep", .ref B0, .non, .ref B1, .ref B2, .ref B3, .ref B4, .ref B5, .ref B6, .ref B7, .ref B8, .ref B9, .ref BB])) = X88 at *
      replace sR := TK.same kLB _ _ sR
      replace gR := NBs.same gR kLB
      replace f1 := Fd.same f1 kLB
      replace kk := Ch.trans kk (Ch.of_same kLB)
      replace ePO := kLB _ _ ePO
      replace eRW := TK.same kLB _ _ eRW
      replace gw := NB.same gw kLB
      replace gr := NBs.same gr kLB
      replace gA1 := NX'.same gA1 kLB
      replace gA2 := NX'.same gA2 kLB
      replace gA3 := NX'.same gA3 kLB
      replace gA4 := NX'.same gA4 kLB
      replace gA5 := NX'.same gA5 kLB
      replace gA6 := NX'.same gA6 kLB
      replace gA0 := NX'.same gA0 kLB
      replace gA7 := NX'.same gA7 kLB
      replace gA8 := NX'.same gA8 kLB
      replace gA9 := NX'.same gA9 kLB
      replace eLA := kLB _ _ eLA
      replace gB0 := NX'.same gB0 kLB
      replace gB1 := NX'.same gB1 kLB
      replace gB2 := NX'.same gB2 kLB
      replace gB3 := NX'.same gB3 kLB
      replace gB4 := NX'.same gB4 kLB
      replace gB5 := NX'.same gB5 kLB
      replace gB6 := NX'.same gB6 kLB
      replace gB7 := NX'.same gB7 kLB
      replace gC1 := NX'.same gC1 kLB
      replace gB8 := NX'.same gB8 kLB
      replace gC2 := NX'.same gC2 kLB
      replace gB9 := NX'.same gB9 kLB
      replace gC3 := NX'.same gC3 kLB
      replace gBB := NX'.same gBB kLB
      clear kLB nLB
      repeat' (walk_at "jv")
      refine i_catL eLA eLB (by rw [sizeLine_eq]; show 9 + 13 ≤ _; omega) fun LC nLC => ?_
      have dLC := f1.ne nLC
      have kLC := Same.upd_new (o := .lst ([.ref A1, .ref A2, .ref A3, .ref A4, .ref A5, .ref A6, .ref A7, .ref A8, .ref A9] ++ [.str "keep", .ref B0, .non, .ref B1, .ref B2, .ref B3, .ref B4, .ref B5, .ref B6, .ref B7, .ref B8, .ref B9, .ref BB])) nLC
      have eLC : (upd X88 LC (.lst ([.ref A1, .ref A2, .ref A3, .ref A4, .ref A5, .ref A6, .ref A7, .ref A8, .ref A9] ++ [.str "keep", .ref B0, .non, .ref B1, .ref B2, .ref B3, .ref B4, .ref B5, .ref B6, .ref B7, .ref B8, .ref B9, .ref BB]))) LC = some (.lst ([.ref A1, .ref A2, .ref A3, .ref A4, .ref A5, .ref A6, .ref A7, .ref A8, .ref A9] ++ [.str "keep", .ref B0, .non, .ref B1, .ref B2, .ref B3, .ref B4, .ref B5, .ref B6, .ref B7, .ref B8, .ref B9, .ref BB])) := upd_same
      generalize upd X88 LC (.lst ([.ref A1, .ref A2, .ref A3, .ref A4, .ref A5, .ref A6, .ref A7, .ref A8, .ref A9] ++ [.str "keep", .ref B0, .non, .ref B1, .ref B2, .ref B3, .ref B4, .ref B5, .ref B6, .ref B7, .ref B8, .ref B9, .ref BB])) = X89 at *
      replace sR := TK.same kLC _ _ sR
      replace gR := NBs.same gR kLC
      replace f1 := Fd.same f1 kLC
      replace kk := Ch.trans kk (Ch.of_same kLC)
      replace ePO := kLC _ _ ePO
      replace eRW := TK.same kLC _ _ eRW
      replace gw := NB.same gw kLC
      replace gr := NBs.same gr kLC
      replace gA1 := NX'.same gA1 kLC
      replace gA2 := NX'.same gA2 kLC
      replace gA3 := NX'.same gA3 kLC
      replace gA4 := NX'.same gA4 kLC
      replace gA5 := NX'.same gA5 kLC
      replace gA6 := NX'.same gA6 kLC
      replace gA0 := NX'.same gA0 kLC
      replace gA7 := NX'.same gA7 kLC
      replace gA8 := NX'.same gA8 kLC
      replace gA9 := NX'.same gA9 kLC
      replace gB0 := NX'.same gB0 kLC
      replace gB1 := NX'.same gB1 kLC
      replace gB2 := NX'.same gB2 kLC
      replace gB3 := NX'.same gB3 kLC
      replace gB4 := NX'.same gB4 kLC
      replace gB5 := NX'.same gB5 kLC
      replace gB6 := NX'.same gB6 kLC
      replace gB7 := NX'.same gB7 kLC
      replace gC1 := NX'.same gC1 kLC
      replace gB8 := NX'.same gB8 kLC
      replace gC2 := NX'.same gC2 kLC
      replace gB9 := NX'.same gB9 kLC
      replace gC3 := NX'.same gC3 kLC
      replace gBB := NX'.same gBB kLC
      clear kLC nLC
      replace eLC : X89 LC = some (.lst ([.ref A1, .ref A2, .ref A3, .ref A4, .ref A5, .ref A6, .ref A7, .ref A8, .ref A9, .str "keep", .ref B0, .non, .ref B1, .ref B2, .ref B3, .ref B4, .ref B5, .ref B6, .ref B7, .ref B8, .ref B9, .ref BB])) := eLC
      have glLC : ∀ x ∈ ([.ref A1, .ref A2, .ref A3, .ref A4, .ref A5, .ref A6, .ref A7, .ref A8, .ref A9, .str "keep", .ref B0, .non, .ref B1, .ref B2, .ref B3, .ref B4, .ref B5, .ref B6, .ref B7, .ref B8, .ref B9, .ref BB] : List V), NX' K 4 50000 X89 a x :=
        fa_cons (gA1).mono <|
        fa_cons (gA2).mono <|
        fa_cons (gA3).mono <|
        fa_cons (gA4).mono <|
        fa_cons (gA5).mono <|
        fa_cons (gA6).mono <|
        fa_cons (gA7).mono <|
        fa_cons (gA8).mono <|
        fa_cons (gA9).mono <|
        fa_cons ((nb_str (by decide +kernel) (by decide +kernel)).nx).mono <|
        fa_cons (gB0).mono <|
        fa_cons (nb_none.nx).mono <|
        fa_cons (gB1).mono <|
        fa_cons (gB2).mono <|
        fa_cons (gB3).mono <|
        fa_cons (gB4).mono <|
        fa_cons (gB5).mono <|
        fa_cons (gB6).mono <|
        fa_cons (gB7).mono <|
        fa_cons (gB8).mono <|
        fa_cons (gB9).mono <|
        fa_cons (gBB).mono <|
        fa_nil
      clear gA1
      clear gA2
      clear gA3
      clear gA4
      clear gA5
      clear gA6
      clear gA0
      clear gA7
      clear gA8
      clear gA9
      clear gB0
      clear gB1
      clear gB2
      clear gB3
      clear gB4
      clear gB5
      clear gB6
      clear gB7
      clear gC1
      clear gB8
      clear gC2
      clear gB9
      clear gC3
      clear gBB
      repeat' (walk_at "jv")
      refine ⟨a, LC, c + 15 + 1 + 1 + 1 + 1, [.ref A1, .ref A2, .ref A3, .ref A4, .ref A5, .ref A6, .ref A7, .ref A8, .ref A9, .str "keep", .ref B0, .non, .ref B1, .ref B2, .ref B3, .ref B4, .ref B5, .ref B6, .ref B7, .ref B8, .ref B9, .ref BB], rfl, f1, SqA.l (sq_lst eLC), dLC, by show 0 < 22; decide, by show 22 < 1000000; decide, by omega, fun y Z3 hy f2 k2 => ?_⟩
      have gy := glLC y hy
      clear hy glLC eLC
      replace sR := TK.ch k2 f1 _ _ sR
      replace gR := NBs.ch gR k2 f1
      replace kk := Ch.trans kk k2
      replace eRW := TK.ch k2 f1 _ _ eRW
      replace gw := NB.ch gw k2 f1
      replace gr := NBs.ch gr k2 f1
      replace gy := NX'.ch gy k2 f1
      replace ePO := k2 _ _ dPO ePO
      clear f1 k2
      have f1 := f2
      clear f2
      exact q _ _ (gy.mono) (f1.mono (by omega)) kk
    · skip
      have hrx := (gR false).len
      intro QL nQL
      have dQL := f1.ne nQL
      have kQL := Same.upd_new (o := .lst (rx)) nQL
      have eQL : (upd Y4 QL (.lst (rx))) QL = some (.lst (rx)) := upd_same
      generalize upd Y4 QL (.lst (rx)) = X90 at *
      replace sR := TK.same kQL _ _ sR
      replace gR := NBs.same gR kQL
      replace f1 := Fd.same f1 kQL
      replace kk := Ch.trans kk (Ch.of_same kQL)
      replace ePO := kQL _ _ ePO
      replace eRW := TK.same kQL _ _ eRW
      replace gw := NB.same gw kQL
      replace gr := NBs.same gr kQL
      clear kQL nQL
      have gQL : NX' K 3 2000 X90 a (.ref QL) := (NQs.lst eQL dQL (gR false)).nx.mono
      repeat' (walk_at "jv")
      intro Q0 nQ0
      have dQ0 := f1.ne nQ0
      have kQ0 := Same.upd_new (o := .tup ([.int 0])) nQ0
      have eQ0 : SqT K (upd X90 Q0 (.tup ([.int 0]))) Q0 ([.int 0]) := sq_tup upd_same
      generalize upd X90 Q0 (.tup ([.int 0])) = X91 at *
      replace sR := TK.same kQ0 _ _ sR
      replace gR := NBs.same gR kQ0
      replace f1 := Fd.same f1 kQ0
      replace kk := Ch.trans kk (Ch.of_same kQ0)
      replace ePO := kQ0 _ _ ePO
      replace eRW := TK.same kQ0 _ _ eRW
      replace gw := NB.same gw kQ0
      replace gr := NBs.same gr kQ0
      replace gQL := NX'.same gQL kQ0
      clear kQ0 nQ0
      repeat' (walk_at "jv")
      refine i_catG sR eQ0 (by rw [sizeLine_eq]; show _ + 1 ≤ _; omega) fun Q1 X92 kQ1 sQ1 => ?_
      replace sR := TK.same kQ1 _ _ sR
      replace gR := NBs.same gR kQ1
      replace f1 := Fd.same f1 kQ1
      replace kk := Ch.trans kk (Ch.of_same kQ1)
      replace ePO := kQ1 _ _ ePO
      replace eRW := TK.same kQ1 _ _ eRW
      replace gw := NB.same gw kQ1
      replace gr := NBs.same gr kQ1
      replace gQL := NX'.same gQL kQ1
      replace eQ0 := TK.same kQ1 _ _ eQ0
      clear kQ1
      have gQ1 : NX' K 3 2000 X92 a (.ref Q1) := (NBs.tup sQ1 (gR.app (.cons ((nb_int (by decide) (by decide)).mono (m' := 2) (n' := 20)) (.nil : NBs K 2 0 _ a [])))).nx.mono
      repeat' (walk_at "jv")
      refine i_slG sR fun Q2 X93 kQ2 sQ2 => ?_
      rw [show (1 : Int) = ((1 : Nat) : Int) from rfl, cut_take] at sQ2
      replace sR := TK.same kQ2 _ _ sR
      replace gR := NBs.same gR kQ2
      replace f1 := Fd.same f1 kQ2
      replace kk := Ch.trans kk (Ch.of_same kQ2)
      replace ePO := kQ2 _ _ ePO
      replace eRW := TK.same kQ2 _ _ eRW
      replace gw := NB.same gw kQ2
      replace gr := NBs.same gr kQ2
      replace gQL := NX'.same gQL kQ2
      replace gQ1 := NX'.same gQ1 kQ2
      clear kQ2
      have gQ2 : NX' K 3 2000 X93 a (.ref Q2) := (NBs.tup sQ2 (gR.take 1)).nx.mono
      repeat' (walk_at "jv")
      refine i_slG sR fun Q3 X94 kQ3 sQ3 => ?_
      rw [show (1 : Int) = ((1 : Nat) : Int) from rfl, cut_from] at sQ3
      replace sR := TK.same kQ3 _ _ sR
      replace gR := NBs.same gR kQ3
      replace f1 := Fd.same f1 kQ3
      replace kk := Ch.trans kk (Ch.of_same kQ3)
      replace ePO := kQ3 _ _ ePO
      replace eRW := TK.same kQ3 _ _ eRW
      replace gw := NB.same gw kQ3
      replace gr := NBs.same gr kQ3
      replace gQL := NX'.same gQL kQ3
      replace gQ1 := NX'.same gQ1 kQ3
      replace gQ2 := NX'.same gQ2 kQ3
      clear kQ3
      have gQ3 : NX' K 3 2000 X94 a (.ref Q3) := (NBs.tup sQ3 (gR.drop 1)).nx.mono
      repeat' (walk_at "jv")
      intro Q4 nQ4
      have dQ4 := f1.ne nQ4
      have kQ4 := Same.upd_new (o := .tup ([.ref rt])) nQ4
      have eQ4 : SqT K (upd X94 Q4 (.tup ([.ref rt]))) Q4 ([.ref rt]) := sq_tup upd_same
      generalize upd X94 Q4 (.tup ([.ref rt])) = X95 at *
      replace sR := TK.same kQ4 _ _ sR
      replace gR := NBs.same gR kQ4
      replace f1 := Fd.same f1 kQ4
      replace kk := Ch.trans kk (Ch.of_same kQ4)
      replace ePO := kQ4 _ _ ePO
      replace eRW := TK.same kQ4 _ _ eRW
      replace gw := NB.same gw kQ4
      replace gr := NBs.same gr kQ4
      replace gQL := NX'.same gQL kQ4
      replace gQ1 := NX'.same gQ1 kQ4
      replace gQ2 := NX'.same gQ2 kQ4
      replace gQ3 := NX'.same gQ3 kQ4
      clear kQ4 nQ4
      have gQ4 : NX' K 4 2000 X95 a (.ref Q4) := (NX'.one eQ4 (NBs.tup sR gR).nx).mono
      repeat' (walk_at "jv")
      intro LQ nLQ
      have dLQ := f1.ne nLQ
      have kLQ := Same.upd_new (o := .lst ([.ref rt, .ref QL, .ref Q1, .ref Q2, .ref Q3, .ref Q4, .non])) nLQ
      have eLQ : (upd X95 LQ (.lst ([.ref rt, .ref QL, .ref Q1, .ref Q2, .ref Q3, .ref Q4, .non]))) LQ = some (.lst ([.ref rt, .ref QL, .ref Q1, .ref Q2, .ref Q3, .ref Q4, .non])) := upd_same
      generalize upd X95 LQ (.lst ([.ref rt, .ref QL, .ref Q1, .ref Q2, .ref Q3, .ref Q4, .non])) = X96 at *
      replace sR := TK.same kLQ _ _ sR
      replace gR := NBs.same gR kLQ
      replace f1 := Fd.same f1 kLQ
      replace kk := Ch.trans kk (Ch.of_same kLQ)
      replace ePO := kLQ _ _ ePO
      replace eRW := TK.same kLQ _ _ eRW
      replace gw := NB.same gw kLQ
      replace gr := NBs.same gr kLQ
      replace gQL := NX'.same gQL kLQ
      replace gQ1 := NX'.same gQ1 kLQ
      replace gQ2 := NX'.same gQ2 kLQ
      replace gQ3 := NX'.same gQ3 kLQ
      replace gQ4 := NX'.same gQ4 kLQ
      clear kLQ nLQ
      have glLQ : ∀ x ∈ ([.ref rt, .ref QL, .ref Q1, .ref Q2, .ref Q3, .ref Q4, .non] : List V), NX' K 4 50000 X96 a x :=
        fa_cons ((NBs.tup sR gR).nx).mono <|
        fa_cons (gQL).mono <|
        fa_cons (gQ1).mono <|
        fa_cons (gQ2).mono <|
        fa_cons (gQ3).mono <|
        fa_cons (gQ4).mono <|
        fa_cons (nb_none.nx).mono <|
        fa_nil
      clear gQL
      clear gQ1
      clear gQ2
      clear gQ3
      clear gQ4
      repeat' (walk_at "jv")
      refine ⟨a, LQ, c + 15 + 1 + 1 + 1 + 1, [.ref rt, .ref QL, .ref Q1, .ref Q2, .ref Q3, .ref Q4, .non], rfl, f1, SqA.l (sq_lst eLQ), dLQ, by show 0 < 7; decide, by show 7 < 1000000; decide, by omega, fun y Z4 hy f2 k2 => ?_⟩
      have gy := glLQ y hy
      clear hy glLQ eLQ
      replace sR := TK.ch k2 f1 _ _ sR
      replace gR := NBs.ch gR k2 f1
      replace kk := Ch.trans kk k2
      replace eRW := TK.ch k2 f1 _ _ eRW
      replace gw := NB.ch gw k2 f1
      replace gr := NBs.ch gr k2 f1
      replace gy := NX'.ch gy k2 f1
      replace ePO := k2 _ _ dPO ePO
      clear f1 k2
      have f1 := f2
      clear f2
      repeat' (walk_at "jv")
      exact q _ _ (gy.mono) (f1.mono (by omega)) kk
end
end
section
open L2 PySem PySem.Spec PyProof.Rows
abbrev s__law_near_hall : Stmt := topS 49
theorem sc__law_near_hall : FnScope ["_law_feed_here", "_law_hall_here", "_law_k", "_law_web_here", "_law_rules", "_law_at", "_law_way", "_law_some", "_law_more", "_law_rule_here", "_law_one_here"] ["_law_feed_here", "_law_hall_here"] (defScope s__law_near_hall) := ⟨rfl, rfl, rfl, by decide +kernel, rfl, by decide +kernel, by decide +kernel⟩
section
variable {K : PySem.W.Frag} {m n m' n' n1 n2 : Nat} {H H' : Hp} {a : Addr} {x y z : V} {xs ys : List V} {c : Int}
theorem nz_nx (h : NZ K H a x) : NX' K 4 19251 H a x := by
  rcases h with ⟨d, o, w⟩ | ⟨p, rfl, e, n⟩
  · exact ⟨false, d, o, w.sho, fun _ => w.dct, fun e => (nomatch e), w.dep, w.lea, w.wei, w.ok⟩
  · exact (nq_dict e n).nx.mono
theorem nx_fst {p : Addr} (s : SqT K H p [x, y, z]) (hx : NX' K m n H a x) (hy : NB K m n1 H a y) (hz : NB K m n2 H a z) : NX' K (m + 1) (n + 1 + (n1 + 1 + (n2 + 1 + 0))) H a (.ref p) := by
  obtain ⟨b, g⟩ := hx
  exact (NQs.tup s (NQs.cons g (.cons (hy b) (.cons (hz b) .nil)))).nx
theorem nx_snd {p : Addr} (s : SqT K H p [x, y, z]) (hx : NB K m n H a x) (hy : NX' K m n1 H a y) (hz : NB K m n2 H a z) : NX' K (m + 1) (n + 1 + (n1 + 1 + (n2 + 1 + 0))) H a (.ref p) := by
  obtain ⟨b, g⟩ := hy
  exact (NQs.tup s (NQs.cons (hx b) (.cons g (.cons (hz b) .nil)))).nx
theorem nx_thd {p : Addr} (s : SqT K H p [x, y, z]) (hx : NB K m n H a x) (hy : NB K m n1 H a y) (hz : NX' K m n2 H a z) : NX' K (m + 1) (n + 1 + (n1 + 1 + (n2 + 1 + 0))) H a (.ref p) := by
  obtain ⟨b, g⟩ := hz
  exact (NQs.tup s (NQs.cons (hx b) (.cons (hy b) (.cons g .nil)))).nx
theorem NBs.flat (h : NBs K m n H a xs) : ∀ k : Nat, NBs K m (n * k) H a (List.replicate k xs).flatten
  | 0 => NBs.nil
  | k + 1 => by
    rw [List.replicate_succ, List.flatten_cons]
    exact (NBs.app h (NBs.flat h k)).mono (Nat.le_refl _) (by rw [Nat.mul_succ]; omega)
theorem rule_tup {k : Nat} {near : List Str} {d : PyData} (h : RuleD k near d) : ∃ es, d = .tuple es := by
  cases h <;> exact ⟨_, rfl⟩
end
def spNearHall (K : PySem.W.Frag) : Sp := fun vs H Q _ => ∃ (a : Addr) (v : V) (c : Int) (k : Nat) (ps : List Str) (rs : List (Str × Str)) (ds : List PyData), vs = [.ref a, v] ∧ Fd H a c ∧ c < 10 ^ 12 ∧ HF K H v k ps rs ds ∧ IsHall k ps rs ds ∧
  ∀ (y : V) (H' : Hp), NX' K 8 390000 H' a y → Fd H' a (c + 3000) → Ch a H H' → Q y H'
section
variable {base : Heap} {P : Program} {w : World} {K : PySem.W.Frag} {mg : Str → Option Value}
theorem ok_near_hall (D : Dn K mg "_law_near_hall" s__law_near_hall ["_law_feed_here", "_law_hall_here"]) (B : Bn mg) (C__law_draw : Cl P w K mg base 1 "_law_draw" ["_law_feed_here", "_law_many"] spDraw) (C__law_one : Cl P w K mg base 2 "_law_one" ["_law_feed_here", "_law_things"] (spOne K)) (C__law_oneT : Cl P w K mg base 2 "_law_one" ["_law_feed_here", "_law_things"] (spOneT K)) (C__law_near_web : Cl P w K mg base 3 "_law_near_web" ["_law_feed_here", "_law_web_here"] (spNearW K)) (C__law_near_rule : Cl P w K mg base 3 "_law_near_rule" ["_law_feed_here", "_law_k", "_law_others", "_law_rule_here"] (spNearRule K)) (C__law_neighbours : Cl P w K mg base 1 "_law_neighbours" ["_law_web_here", "_law_place"] (spNear K)) : Cl P w K mg base 4 "_law_near_hall" ["_law_feed_here", "_law_hall_here"] (spNearHall K) := by
  refine D.cl sc__law_near_hall (fun vs H Q E h => ?_) (fun f cdv A outer s H vs Q E hr h => ?_)
  · obtain ⟨a, v, c, k, ps, rs, ds, rfl, _⟩ := h
    rfl
  · obtain ⟨a, v, c, k, ps, rs, ds, rfl, f1, hc, hh, hH, q⟩ := h
    have W := hH.web
    have h8 := W.le8
    have h0 := W.pos
    have hk2 : 2 ≤ k := by rcases hH.two with e | e <;> omega
    have hk3 : k ≤ 3 := by rcases hH.two with e | e <;> omega
    have hmp : (ps.map V.str).length = ps.length := List.length_map ..
    obtain ⟨t, T, wv, rfl, sH, hw, dT, uT⟩ := hh
    have dW := hw.dp
    have gW : NB K 4 340 H a wv := fun b => ⟨_, Ob.of _ _ (web_only ps rs) dW, (nz_web W).mono (by decide) (Nat.le_refl _)⟩
    have hrul : ∀ d ∈ ds, Nz true 3 800 d ∧ Nz false 3 800 d := fun d hd => by
      obtain ⟨i, hi⟩ := List.mem_iff_getElem?.mp hd
      have hil : i < ps.length := by rw [← hH.len]; exact (List.getElem?_eq_some_iff.mp hi).1
      have hR := hH.rules i ps[i] d (List.getElem?_eq_getElem hil) hi
      have hm := List.getElem_mem hil
      have hf : k ^ ((nearL ps rs ps[i]).length + 1) ≤ 256 := Nat.le_trans (Nat.pow_le_pow_right (by omega) (near_lt W hm)) hH.few
      have hnn : ∀ z ∈ nearL ps rs ps[i], nmOk z = true := fun z hz => W.names.2 z (near_ix W hm hz).1
      exact ⟨nz_rule hR hk3 (near_len W hm) hf hnn, nz_rule hR hk3 (near_len W hm) hf hnn⟩
    cases dT with
    | @tup _ rx _ sT aT =>
    have hrx : rx.length = ps.length := by rw [DpAll.len aT, hH.len]
    have gR : NBs K 3 6408 H a rx := fun b => ⟨ds, ObAll.of ds rx uT aT, (nzs_of (b := b) (n := 800) fun d hd => by cases b with | true => exact (hrul d hd).1 | false => exact (hrul d hd).2).mono (Nat.le_refl _) (by rw [hH.len]; omega)⟩
    obtain ⟨t2, tp, tr, rfl, sW, fP, dR⟩ := hw
    have sP := fP.sq (K := K)
    have gP : NB K 2 72 H a (.ref tp) := fun b => ⟨.tuple (ps.map .str), Ob.of _ _ (strs_only ps) (ts_dp sP), ((nz_names W.names.2).tup.mono (by decide) (by omega))⟩
    have gQ : NB K 2 266 H a (.ref tr) := fun b => ⟨.tuple (rs.map roadD), Ob.of _ _ (roads_only rs) dR, ((nz_roads (b := b) fun r hr => ⟨W.names.2 _ (W.ends r hr).1, W.names.2 _ (W.ends r hr).2.1⟩).tup.mono (Nat.le_refl _) (by have := W.le14; omega))⟩
    clear fP dR hrul
    have kk : Ch a H H := Ch.of_same (Same.refl _)
    have hf1 := f1
    refine ⟨_, (pss_cons (ps_asg (pv 1) (kpg_tup (K := K) (n := 3) rfl (pgs_cons (pg_name (i := 2) sc__law_near_hall.nd rfl (by first | exact Or.inl rfl | exact Or.inr rfl)) (pgs_cons (pg_name (i := 3) sc__law_near_hall.nd rfl (by first | exact Or.inl rfl | exact Or.inr rfl)) (pgs_cons (pg_name (i := 4) sc__law_near_hall.nd rfl (by first | exact Or.inl rfl | exact Or.inr rfl)) pgs_nil)))))
      (pss_cons (ps_par (i := 5) (j := 6) rfl sc__law_near_hall.nd rfl rfl (by decide) rfl rfl (pa_cons (pe_c C__law_draw hr (pa_cons (pv 0) (pa_cons (pe_callB (k_len (K := K)) rfl B.len_ (by decide +kernel) (pa_cons (pv 4) pa_nil)) pa_nil))) (pa_cons (pe_c C__law_draw hr (pa_cons (pv 0) (pa_cons pe_int pa_nil))) pa_nil)) (by rfl))
      (pss_cons (ps_if (pt_cmpR op_eq (pv 6) pe_int (nomark _)) (pss_cons (ps_set (i := 7) sc__law_near_hall.nd rfl (by first | exact Or.inl rfl | exact Or.inr rfl) (pe_lst (pa_cons (pe_callTy (k_list (K := K)) rfl B.list_ (by decide +kernel) (pa_cons (pv 1) pa_nil)) (pa_cons (pe_slice sl_tupA (pv 1) po_none (po_some pe_int)) (pa_cons (pe_op op_catA (pv 1) (pe_tup (pa_cons (pe_tup pa_nil) pa_nil))) (pa_cons (pe_tup (pa_cons (pv 2) (pa_cons (pv 3) (pa_cons (pe_callTy (k_list (K := K)) rfl B.list_ (by decide +kernel) (pa_cons (pv 4) pa_nil)) pa_nil)))) (pa_cons (pe_tup (pa_cons (pv 2) (pa_cons (pv 3) (pa_cons (pe_slice sl_tupA (pv 4) (po_some pe_int) po_none) pa_nil)))) (pa_cons (pe_tup (pa_cons (pv 2) (pa_cons (pv 3) (pa_cons (pe_op op_catA (pv 4) (pe_slice sl_tupA (pv 4) po_none (po_some pe_int))) pa_nil)))) (pa_cons pe_non (pa_cons pe_str (pa_cons pe_int pa_nil)))))))))))
      (pss_one (ps_ret (pe_c C__law_one hr (pa_cons (pv 0) (pa_cons (pe_op op_cat (pv 7) (pe_lst (pa_cons (pe_tup (pa_cons (pv 3) (pa_cons (pv 2) (pa_cons (pv 4) pa_nil)))) (pa_cons (pe_tup (pa_cons (pv 2) (pa_cons (pv 4) (pa_cons (pv 3) pa_nil)))) (pa_cons (pe_tup (pa_cons (pv 2) (pa_cons (pv 3) (pa_cons (pe_tup pa_nil) pa_nil)))) (pa_cons (pe_tup (pa_cons (pv 2) (pa_cons (pv 3) (pa_cons pe_non pa_nil)))) (pa_cons (pe_tup (pa_cons (pv 2) (pa_cons pe_non (pa_cons (pv 4) pa_nil)))) pa_nil))))))) pa_nil)))))) pss_nil)
      (pss_cons (ps_if (pt_cmpR op_eq (pv 6) pe_int (nomark _)) (pss_one (ps_ret (pe_tup (pa_cons (pe_c C__law_one hr (pa_cons (pv 0) (pa_cons (pe_lst (pa_cons pe_int (pa_cons pe_int (pa_cons pe_int (pa_cons pe_int (pa_cons pe_int (pa_cons (pe_un un_neg pe_int) (pa_cons pe_bl (pa_cons pe_non (pa_cons pe_str (pa_cons (pe_tup (pa_cons pe_int pa_nil)) (pa_cons (pe_lst (pa_cons pe_int pa_nil)) (pa_cons pe_dnewK (pa_cons (pe_op op_pow pe_int pe_int) pa_nil)))))))))))))) pa_nil))) (pa_cons (pv 3) (pa_cons (pv 4) pa_nil)))))) pss_nil)
      (pss_cons (ps_if (pt_cmpR op_eq (pv 6) pe_int (nomark _)) (pss_one (ps_ret (pe_tup (pa_cons (pv 2) (pa_cons (pe_c C__law_near_web hr (pa_cons (pv 0) (pa_cons (pv 3) pa_nil))) (pa_cons (pv 4) pa_nil)))))) pss_nil)
      (pss_cons (ps_if (pt_cmpR op_eq (pv 6) pe_int (nomark _)) (pss_cons (ps_set (i := 8) sc__law_near_hall.nd rfl (by first | exact Or.inl rfl | exact Or.inr rfl) (pe_callTy (k_tuple (K := K)) rfl B.tuple_ (by decide +kernel) (pa_cons (pe_lc (own := [("_law_one_here", 10)]) rfl sc__law_near_hall.nd (pi_range1 rfl B.range_ (pa_cons (pe_c C__law_draw hr (pa_cons (pv 0) (pa_cons pe_int pa_nil))) pa_nil)) (blkOk_by (N := ["_law_feed_here", "_law_hall_here", "_law_k", "_law_web_here", "_law_rules", "_law_at", "_law_way", "_law_some", "_law_more", "_law_rule_here", "_law_one_here"]) (sc := defScope s__law_near_hall) (by decide +kernel)) (fun _ _ _ _ _ => (pg_name (i := 10) sc__law_near_hall.nd rfl (by first | exact Or.inl rfl | exact Or.inr rfl))) (fun _ _ _ _ _ => pts_nil) (fun _ _ _ _ _ => (pe_op o_addS pe_str (pe_callTy (j_str) rfl B.str_ (by decide +kernel) (pa_cons (pv 10) pa_nil))))) pa_nil)))
      (pss_one (ps_ret (pe_tup (pa_cons (pv 2) (pa_cons (pe_tup (pa_cons (pe_op op_catA (pe_ix (k_ixT (K := K)) (pv 3) pe_int (fun _ _ => rfl)) (pv 8)) (pa_cons (pe_ix (k_ixT (K := K)) (pv 3) pe_int (fun _ _ => rfl)) pa_nil))) (pa_cons (pe_op op_catA (pv 4) (pe_op (k_repZ (K := K)) (pe_tup (pa_cons (pe_tup (pa_cons pe_str pa_nil)) pa_nil)) (pe_callB (k_len (K := K)) rfl B.len_ (by decide +kernel) (pa_cons (pv 8) pa_nil)))) pa_nil))))))) pss_nil)
      (pss_cons (ps_set (i := 9) sc__law_near_hall.nd rfl (by first | exact Or.inl rfl | exact Or.inr rfl) (pe_c C__law_near_rule hr (pa_cons (pv 0) (pa_cons (pv 2) (pa_cons (pe_c C__law_neighbours hr (pa_cons (pv 3) (pa_cons (pe_ix (k_ixT (K := K)) (pe_ix (k_ixT (K := K)) (pv 3) pe_int (fun _ _ => rfl)) (pv 5) (fun _ _ => rfl)) pa_nil))) (pa_cons (pe_ix (k_ixT (K := K)) (pv 4) (pv 5) (fun _ _ => rfl)) pa_nil))))))
      (pss_cons (ps_if (PW.pt (pw_and (pt_cmpR op_eq (pv 6) pe_int (nomark _)) (pw_and1 (pt_cmpR op_ne (pe_ix (k_ixT (K := K)) (pe_ix (k_ixT (K := K)) (pv 3) pe_int (fun _ _ => rfl)) (pv 5) (fun _ _ => rfl)) (pe_ix (k_ixT (K := K)) (pe_ix (k_ixT (K := K)) (pv 3) pe_int (fun _ _ => rfl)) (pe_un un_neg pe_int) (fun _ _ => rfl)) (nomark _))))) (pss_one (ps_set (i := 9) sc__law_near_hall.nd rfl (by first | exact Or.inl rfl | exact Or.inr rfl) (pe_tup (pa_cons pe_str (pa_cons (pe_c C__law_oneT hr (pa_cons (pv 0) (pa_cons (pe_ix (k_ixT (K := K)) (pv 3) pe_int (fun _ _ => rfl)) pa_nil))) pa_nil))))) pss_nil)
      (pss_one (ps_ret (pe_tup (pa_cons (pv 2) (pa_cons (pv 3) (pa_cons (pe_op op_catA (pe_op op_catA (pe_slice sl_tupA (pv 4) po_none (po_some (pv 5))) (pe_tup (pa_cons (pv 9) pa_nil))) (pe_slice sl_tupA (pv 4) (po_some (pe_op op_add (pv 5) pe_int)) po_none)) pa_nil)))))))))))))), ?_⟩
    --@@
    repeat' (walk_at "jv")
    refine ⟨a, ((rx.length : Nat) : Int), c, rfl, f1, by omega, by omega, by omega, fun jv Y1 jv0 jv1 f2 k2 => ?_⟩
    replace sH := TK.ch k2 f1 _ _ sH
    replace sW := TK.ch k2 f1 _ _ sW
    replace sT := TK.ch k2 f1 _ _ sT
    replace sP := TK.ch k2 f1 _ _ sP
    replace gW := NB.ch gW k2 f1
    replace gR := NBs.ch gR k2 f1
    replace gP := NB.ch gP k2 f1
    replace gQ := NB.ch gQ k2 f1
    replace kk := Ch.trans kk k2
    replace dW := Dp.tk (TK.ch k2 f1) _ _ (web_only _ _) dW
    clear f1 k2
    have f1 := f2
    clear f2
    obtain ⟨j, rfl⟩ := Int.eq_ofNat_of_zero_le jv0
    have hj : j < ps.length := by omega
    repeat' (walk_at "jv")
    refine ⟨a, 7, c + 1, rfl, f1, by omega, by omega, by omega, fun wy Y2 wy0 wy1 f2 k2 => ?_⟩
    replace sH := TK.ch k2 f1 _ _ sH
    replace sW := TK.ch k2 f1 _ _ sW
    replace sT := TK.ch k2 f1 _ _ sT
    replace sP := TK.ch k2 f1 _ _ sP
    replace gW := NB.ch gW k2 f1
    replace gR := NBs.ch gR k2 f1
    replace gP := NB.ch gP k2 f1
    replace gQ := NB.ch gQ k2 f1
    replace kk := Ch.trans kk k2
    replace dW := Dp.tk (TK.ch k2 f1) _ _ (web_only _ _) dW
    clear f1 k2
    have f1 := f2
    clear f2
    iterate 2 (first | (refine at_state (τ := [some (.ref a), some (.ref t), some (.int (k : Int)), some (.ref t2), some (.ref T), some (.int (j : Nat)), some (.int wy), none, none, none, none]) rfl ?_) | walk_at "jv")
    repeat' (walk_at "jv")
    · skip
      clear sP gP gQ sW dW
      have gH : NBs K 4 6800 Y2 a [.int (k : Int), .ref t2, .ref T] := (NBs.cons (((nb_int (i := (k : Int)) (by omega) (by omega)).mono (m' := 4) (n' := 20))) (.cons (gW) (.cons ((NBs.tup sT gR)) (.nil : NBs K 4 0 _ a [])))).mono
      intro S1 nS1
      have dS1 := f1.ne nS1
      have kS1 := Same.upd_new (o := .lst ([.int (k : Int), .ref t2, .ref T])) nS1
      have eS1 : (upd Y2 S1 (.lst ([.int (k : Int), .ref t2, .ref T]))) S1 = some (.lst ([.int (k : Int), .ref t2, .ref T])) := upd_same
      generalize upd Y2 S1 (.lst ([.int (k : Int), .ref t2, .ref T])) = X1 at *
      replace sH := TK.same kS1 _ _ sH
      replace sT := TK.same kS1 _ _ sT
      replace gW := NB.same gW kS1
      replace gR := NBs.same gR kS1
      replace f1 := Fd.same f1 kS1
      replace kk := Ch.trans kk (Ch.of_same kS1)
      replace gH := NBs.same gH kS1
      clear kS1 nS1
      have gS1 : NX' K 5 60000 X1 a (.ref S1) := (NQs.lst eS1 dS1 (gH false)).nx.mono
      clear eS1 dS1
      repeat' (walk_at "jv")
      refine i_slG sH fun S2 X2 kS2 sS2 => ?_
      rw [show (2 : Int) = ((2 : Nat) : Int) from rfl, cut_take] at sS2
      replace sH := TK.same kS2 _ _ sH
      replace sT := TK.same kS2 _ _ sT
      replace gW := NB.same gW kS2
      replace gR := NBs.same gR kS2
      replace f1 := Fd.same f1 kS2
      replace kk := Ch.trans kk (Ch.of_same kS2)
      replace gH := NBs.same gH kS2
      replace gS1 := NX'.same gS1 kS2
      clear kS2
      have gS2 : NX' K 5 60000 X2 a (.ref S2) := (NBs.tup sS2 (gH.take 2)).nx.mono
      clear sS2
      repeat' (walk_at "jv")
      intro E0 nE0
      have dE0 := f1.ne nE0
      have kE0 := Same.upd_new (o := .tup ([])) nE0
      have eE0 : SqT K (upd X2 E0 (.tup ([]))) E0 ([]) := sq_tup upd_same
      generalize upd X2 E0 (.tup ([])) = X3 at *
      replace sH := TK.same kE0 _ _ sH
      replace sT := TK.same kE0 _ _ sT
      replace gW := NB.same gW kE0
      replace gR := NBs.same gR kE0
      replace f1 := Fd.same f1 kE0
      replace kk := Ch.trans kk (Ch.of_same kE0)
      replace gH := NBs.same gH kE0
      replace gS1 := NX'.same gS1 kE0
      replace gS2 := NX'.same gS2 kE0
      clear kE0 nE0
      repeat' (walk_at "jv")
      intro E1 nE1
      have dE1 := f1.ne nE1
      have kE1 := Same.upd_new (o := .tup ([.ref E0])) nE1
      have eE1 : SqT K (upd X3 E1 (.tup ([.ref E0]))) E1 ([.ref E0]) := sq_tup upd_same
      generalize upd X3 E1 (.tup ([.ref E0])) = X4 at *
      replace sH := TK.same kE1 _ _ sH
      replace sT := TK.same kE1 _ _ sT
      replace gW := NB.same gW kE1
      replace gR := NBs.same gR kE1
      replace f1 := Fd.same f1 kE1
      replace kk := Ch.trans kk (Ch.of_same kE1)
      replace gH := NBs.same gH kE1
      replace gS1 := NX'.same gS1 kE1
      replace gS2 := NX'.same gS2 kE1
      replace eE0 := TK.same kE1 _ _ eE0
      clear kE1 nE1
      repeat' (walk_at "jv")
      refine i_catG sH eE1 (by rw [sizeLine_eq]; show 3 + 1 ≤ _; omega) fun S3 X5 kS3 sS3 => ?_
      replace sH := TK.same kS3 _ _ sH
      replace sT := TK.same kS3 _ _ sT
      replace gW := NB.same gW kS3
      replace gR := NBs.same gR kS3
      replace f1 := Fd.same f1 kS3
      replace kk := Ch.trans kk (Ch.of_same kS3)
      replace gH := NBs.same gH kS3
      replace gS1 := NX'.same gS1 kS3
      replace gS2 := NX'.same gS2 kS3
      replace eE0 := TK.same kS3 _ _ eE0
      replace eE1 := TK.same kS3 _ _ eE1
      clear kS3
      have gS3 : NX' K 5 60000 X5 a (.ref S3) := (NBs.tup sS3 (gH.app (NBs.cons ((NBs.tup eE0 (.nil : NBs K 0 0 _ a [])).mono (m' := 4) (n' := 20)) (.nil : NBs K 4 0 _ a [])))).nx.mono
      clear eE0 eE1
      clear sS3
      repeat' (walk_at "jv")
      intro RL nRL
      have dRL := f1.ne nRL
      have kRL := Same.upd_new (o := .lst (rx)) nRL
      have eRL : (upd X5 RL (.lst (rx))) RL = some (.lst (rx)) := upd_same
      generalize upd X5 RL (.lst (rx)) = X6 at *
      replace sH := TK.same kRL _ _ sH
      replace sT := TK.same kRL _ _ sT
      replace gW := NB.same gW kRL
      replace gR := NBs.same gR kRL
      replace f1 := Fd.same f1 kRL
      replace kk := Ch.trans kk (Ch.of_same kRL)
      replace gH := NBs.same gH kRL
      replace gS1 := NX'.same gS1 kRL
      replace gS2 := NX'.same gS2 kRL
      replace gS3 := NX'.same gS3 kRL
      clear kRL nRL
      have gRL : NX' K 4 6408 X6 a (.ref RL) := (NQs.lst eRL dRL (gR false)).nx
      clear eRL dRL
      repeat' (walk_at "jv")
      intro S4 nS4
      have dS4 := f1.ne nS4
      have kS4 := Same.upd_new (o := .tup ([.int (k : Int), .ref t2, .ref RL])) nS4
      have eS4 : SqT K (upd X6 S4 (.tup ([.int (k : Int), .ref t2, .ref RL]))) S4 ([.int (k : Int), .ref t2, .ref RL]) := sq_tup upd_same
      generalize upd X6 S4 (.tup ([.int (k : Int), .ref t2, .ref RL])) = X7 at *
      replace sH := TK.same kS4 _ _ sH
      replace sT := TK.same kS4 _ _ sT
      replace gW := NB.same gW kS4
      replace gR := NBs.same gR kS4
      replace f1 := Fd.same f1 kS4
      replace kk := Ch.trans kk (Ch.of_same kS4)
      replace gH := NBs.same gH kS4
      replace gS1 := NX'.same gS1 kS4
      replace gS2 := NX'.same gS2 kS4
      replace gS3 := NX'.same gS3 kS4
      replace gRL := NX'.same gRL kS4
      clear kS4 nS4
      have gS4 : NX' K 5 60000 X7 a (.ref S4) := (nx_thd eS4 (((nb_int (i := (k : Int)) (by omega) (by omega)).mono (m' := 4) (n' := 20))) (gW) (gRL)).mono
      clear eS4 dS4
      clear gRL
      repeat' (walk_at "jv")
      refine i_slG sT fun RS X8 kRS sRS => ?_
      rw [show (1 : Int) = ((1 : Nat) : Int) from rfl, cut_from] at sRS
      replace sH := TK.same kRS _ _ sH
      replace sT := TK.same kRS _ _ sT
      replace gW := NB.same gW kRS
      replace gR := NBs.same gR kRS
      replace f1 := Fd.same f1 kRS
      replace kk := Ch.trans kk (Ch.of_same kRS)
      replace gH := NBs.same gH kRS
      replace gS1 := NX'.same gS1 kRS
      replace gS2 := NX'.same gS2 kRS
      replace gS3 := NX'.same gS3 kRS
      replace gS4 := NX'.same gS4 kRS
      clear kRS
      have gRS : NB K 4 6408 X8 a (.ref RS) := NBs.tup sRS (gR.drop 1)
      clear sRS
      repeat' (walk_at "jv")
      intro S5 nS5
      have dS5 := f1.ne nS5
      have kS5 := Same.upd_new (o := .tup ([.int (k : Int), .ref t2, .ref RS])) nS5
      have eS5 : SqT K (upd X8 S5 (.tup ([.int (k : Int), .ref t2, .ref RS]))) S5 ([.int (k : Int), .ref t2, .ref RS]) := sq_tup upd_same
      generalize upd X8 S5 (.tup ([.int (k : Int), .ref t2, .ref RS])) = X9 at *
      replace sH := TK.same kS5 _ _ sH
      replace sT := TK.same kS5 _ _ sT
      replace gW := NB.same gW kS5
      replace gR := NBs.same gR kS5
      replace f1 := Fd.same f1 kS5
      replace kk := Ch.trans kk (Ch.of_same kS5)
      replace gH := NBs.same gH kS5
      replace gS1 := NX'.same gS1 kS5
      replace gS2 := NX'.same gS2 kS5
      replace gS3 := NX'.same gS3 kS5
      replace gS4 := NX'.same gS4 kS5
      replace gRS := NB.same gRS kS5
      clear kS5 nS5
      have gS5 : NX' K 5 60000 X9 a (.ref S5) := (NBs.tup eS5 (NBs.cons (((nb_int (i := (k : Int)) (by omega) (by omega)).mono (m' := 4) (n' := 20))) (.cons (gW) (.cons (gRS) (.nil : NBs K 4 0 _ a []))))).nx.mono
      clear eS5 dS5
      clear gRS
      repeat' (walk_at "jv")
      refine i_slG sT fun R1 X10 kR1 sR1 => ?_
      rw [show (1 : Int) = ((1 : Nat) : Int) from rfl, cut_take] at sR1
      replace sH := TK.same kR1 _ _ sH
      replace sT := TK.same kR1 _ _ sT
      replace gW := NB.same gW kR1
      replace gR := NBs.same gR kR1
      replace f1 := Fd.same f1 kR1
      replace kk := Ch.trans kk (Ch.of_same kR1)
      replace gH := NBs.same gH kR1
      replace gS1 := NX'.same gS1 kR1
      replace gS2 := NX'.same gS2 kR1
      replace gS3 := NX'.same gS3 kR1
      replace gS4 := NX'.same gS4 kR1
      replace gS5 := NX'.same gS5 kR1
      clear kR1
      repeat' (walk_at "jv")
      refine i_catG sT sR1 (by rw [List.length_take, hrx, sizeLine_eq]; omega) fun R2 X11 kR2 sR2 => ?_
      replace sH := TK.same kR2 _ _ sH
      replace sT := TK.same kR2 _ _ sT
      replace gW := NB.same gW kR2
      replace gR := NBs.same gR kR2
      replace f1 := Fd.same f1 kR2
      replace kk := Ch.trans kk (Ch.of_same kR2)
      replace gH := NBs.same gH kR2
      replace gS1 := NX'.same gS1 kR2
      replace gS2 := NX'.same gS2 kR2
      replace gS3 := NX'.same gS3 kR2
      replace gS4 := NX'.same gS4 kR2
      replace gS5 := NX'.same gS5 kR2
      replace sR1 := TK.same kR2 _ _ sR1
      clear kR2
      have gR2 : NB K 4 12900 X11 a (.ref R2) := (NBs.tup sR2 (gR.app (gR.take 1))).mono
      clear sR2
      clear sR1
      repeat' (walk_at "jv")
      intro S6 nS6
      have dS6 := f1.ne nS6
      have kS6 := Same.upd_new (o := .tup ([.int (k : Int), .ref t2, .ref R2])) nS6
      have eS6 : SqT K (upd X11 S6 (.tup ([.int (k : Int), .ref t2, .ref R2]))) S6 ([.int (k : Int), .ref t2, .ref R2]) := sq_tup upd_same
      generalize upd X11 S6 (.tup ([.int (k : Int), .ref t2, .ref R2])) = X12 at *
      replace sH := TK.same kS6 _ _ sH
      replace sT := TK.same kS6 _ _ sT
      replace gW := NB.same gW kS6
      replace gR := NBs.same gR kS6
      replace f1 := Fd.same f1 kS6
      replace kk := Ch.trans kk (Ch.of_same kS6)
      replace gH := NBs.same gH kS6
      replace gS1 := NX'.same gS1 kS6
      replace gS2 := NX'.same gS2 kS6
      replace gS3 := NX'.same gS3 kS6
      replace gS4 := NX'.same gS4 kS6
      replace gS5 := NX'.same gS5 kS6
      replace gR2 := NB.same gR2 kS6
      clear kS6 nS6
      have gS6 : NX' K 5 60000 X12 a (.ref S6) := (NBs.tup eS6 (NBs.cons (((nb_int (i := (k : Int)) (by omega) (by omega)).mono (m' := 4) (n' := 20))) (.cons (gW) (.cons (gR2) (.nil : NBs K 4 0 _ a []))))).nx.mono
      clear eS6 dS6
      clear gR2
      repeat' (walk_at "jv")
      intro LS nLS
      have dLS := f1.ne nLS
      have kLS := Same.upd_new (o := .lst ([.ref S1, .ref S2, .ref S3, .ref S4, .ref S5, .ref S6, .non, .str "hall", .int 5])) nLS
      have eLS : (upd X12 LS (.lst ([.ref S1, .ref S2, .ref S3, .ref S4, .ref S5, .ref S6, .non, .str "hall", .int 5]))) LS = some (.lst ([.ref S1, .ref S2, .ref S3, .ref S4, .ref S5, .ref S6, .non, .str "hall", .int 5])) := upd_same
      generalize upd X12 LS (.lst ([.ref S1, .ref S2, .ref S3, .ref S4, .ref S5, .ref S6, .non, .str "hall", .int 5])) = X13 at *
      replace sH := TK.same kLS _ _ sH
      replace sT := TK.same kLS _ _ sT
      replace gW := NB.same gW kLS
      replace gR := NBs.same gR kLS
      replace f1 := Fd.same f1 kLS
      replace kk := Ch.trans kk (Ch.of_same kLS)
      replace gH := NBs.same gH kLS
      replace gS1 := NX'.same gS1 kLS
      replace gS2 := NX'.same gS2 kLS
      replace gS3 := NX'.same gS3 kLS
      replace gS4 := NX'.same gS4 kLS
      replace gS5 := NX'.same gS5 kLS
      replace gS6 := NX'.same gS6 kLS
      clear kLS nLS
      repeat' (walk_at "jv")
      intro V1 nV1
      have dV1 := f1.ne nV1
      have kV1 := Same.upd_new (o := .tup ([.ref t2, .int (k : Int), .ref T])) nV1
      have eV1 : SqT K (upd X13 V1 (.tup ([.ref t2, .int (k : Int), .ref T]))) V1 ([.ref t2, .int (k : Int), .ref T]) := sq_tup upd_same
      generalize upd X13 V1 (.tup ([.ref t2, .int (k : Int), .ref T])) = X14 at *
      replace sH := TK.same kV1 _ _ sH
      replace sT := TK.same kV1 _ _ sT
      replace gW := NB.same gW kV1
      replace gR := NBs.same gR kV1
      replace f1 := Fd.same f1 kV1
      replace kk := Ch.trans kk (Ch.of_same kV1)
      replace gH := NBs.same gH kV1
      replace gS1 := NX'.same gS1 kV1
      replace gS2 := NX'.same gS2 kV1
      replace gS3 := NX'.same gS3 kV1
      replace gS4 := NX'.same gS4 kV1
      replace gS5 := NX'.same gS5 kV1
      replace gS6 := NX'.same gS6 kV1
      replace eLS := kV1 _ _ eLS
      clear kV1 nV1
      have gV1 : NX' K 5 60000 X14 a (.ref V1) := (NBs.tup eV1 (NBs.cons (gW) (.cons (((nb_int (i := (k : Int)) (by omega) (by omega)).mono (m' := 4) (n' := 20))) (.cons ((NBs.tup sT gR)) (.nil : NBs K 4 0 _ a []))))).nx.mono
      clear eV1 dV1
      repeat' (walk_at "jv")
      intro V2 nV2
      have dV2 := f1.ne nV2
      have kV2 := Same.upd_new (o := .tup ([.int (k : Int), .ref T, .ref t2])) nV2
      have eV2 : SqT K (upd X14 V2 (.tup ([.int (k : Int), .ref T, .ref t2]))) V2 ([.int (k : Int), .ref T, .ref t2]) := sq_tup upd_same
      generalize upd X14 V2 (.tup ([.int (k : Int), .ref T, .ref t2])) = X15 at *
      replace sH := TK.same kV2 _ _ sH
      replace sT := TK.same kV2 _ _ sT
      replace gW := NB.same gW kV2
      replace gR := NBs.same gR kV2
      replace f1 := Fd.same f1 kV2
      replace kk := Ch.trans kk (Ch.of_same kV2)
      replace gH := NBs.same gH kV2
      replace gS1 := NX'.same gS1 kV2
      replace gS2 := NX'.same gS2 kV2
      replace gS3 := NX'.same gS3 kV2
      replace gS4 := NX'.same gS4 kV2
      replace gS5 := NX'.same gS5 kV2
      replace gS6 := NX'.same gS6 kV2
      replace eLS := kV2 _ _ eLS
      replace gV1 := NX'.same gV1 kV2
      clear kV2 nV2
      have gV2 : NX' K 5 60000 X15 a (.ref V2) := (NBs.tup eV2 (NBs.cons (((nb_int (i := (k : Int)) (by omega) (by omega)).mono (m' := 4) (n' := 20))) (.cons ((NBs.tup sT gR)) (.cons (gW) (.nil : NBs K 4 0 _ a []))))).nx.mono
      clear eV2 dV2
      repeat' (walk_at "jv")
      intro E2 nE2
      have dE2 := f1.ne nE2
      have kE2 := Same.upd_new (o := .tup ([])) nE2
      have eE2 : SqT K (upd X15 E2 (.tup ([]))) E2 ([]) := sq_tup upd_same
      generalize upd X15 E2 (.tup ([])) = X16 at *
      replace sH := TK.same kE2 _ _ sH
      replace sT := TK.same kE2 _ _ sT
      replace gW := NB.same gW kE2
      replace gR := NBs.same gR kE2
      replace f1 := Fd.same f1 kE2
      replace kk := Ch.trans kk (Ch.of_same kE2)
      replace gH := NBs.same gH kE2
      replace gS1 := NX'.same gS1 kE2
      replace gS2 := NX'.same gS2 kE2
      replace gS3 := NX'.same gS3 kE2
      replace gS4 := NX'.same gS4 kE2
      replace gS5 := NX'.same gS5 kE2
      replace gS6 := NX'.same gS6 kE2
      replace eLS := kE2 _ _ eLS
      replace gV1 := NX'.same gV1 kE2
      replace gV2 := NX'.same gV2 kE2
      clear kE2 nE2
      have gE2 : NB K 4 20 X16 a (.ref E2) := (NBs.tup eE2 (.nil : NBs K 0 0 _ a [])).mono (m' := 4) (n' := 20)
      clear eE2 dE2
      repeat' (walk_at "jv")
      intro V3 nV3
      have dV3 := f1.ne nV3
      have kV3 := Same.upd_new (o := .tup ([.int (k : Int), .ref t2, .ref E2])) nV3
      have eV3 : SqT K (upd X16 V3 (.tup ([.int (k : Int), .ref t2, .ref E2]))) V3 ([.int (k : Int), .ref t2, .ref E2]) := sq_tup upd_same
      generalize upd X16 V3 (.tup ([.int (k : Int), .ref t2, .ref E2])) = X17 at *
      replace sH := TK.same kV3 _ _ sH
      replace sT := TK.same kV3 _ _ sT
      replace gW := NB.same gW kV3
      replace gR := NBs.same gR kV3
      replace f1 := Fd.same f1 kV3
      replace kk := Ch.trans kk (Ch.of_same kV3)
      replace gH := NBs.same gH kV3
      replace gS1 := NX'.same gS1 kV3
      replace gS2 := NX'.same gS2 kV3
      replace gS3 := NX'.same gS3 kV3
      replace gS4 := NX'.same gS4 kV3
      replace gS5 := NX'.same gS5 kV3
      replace gS6 := NX'.same gS6 kV3
      replace eLS := kV3 _ _ eLS
      replace gV1 := NX'.same gV1 kV3
      replace gV2 := NX'.same gV2 kV3
      replace gE2 := NB.same gE2 kV3
      clear kV3 nV3
      have gV3 : NX' K 5 60000 X17 a (.ref V3) := (NBs.tup eV3 (NBs.cons (((nb_int (i := (k : Int)) (by omega) (by omega)).mono (m' := 4) (n' := 20))) (.cons (gW) (.cons (gE2) (.nil : NBs K 4 0 _ a []))))).nx.mono
      clear eV3 dV3
      clear gE2
      repeat' (walk_at "jv")
      intro V4 nV4
      have dV4 := f1.ne nV4
      have kV4 := Same.upd_new (o := .tup ([.int (k : Int), .ref t2, .non])) nV4
      have eV4 : SqT K (upd X17 V4 (.tup ([.int (k : Int), .ref t2, .non]))) V4 ([.int (k : Int), .ref t2, .non]) := sq_tup upd_same
      generalize upd X17 V4 (.tup ([.int (k : Int), .ref t2, .non])) = X18 at *
      replace sH := TK.same kV4 _ _ sH
      replace sT := TK.same kV4 _ _ sT
      replace gW := NB.same gW kV4
      replace gR := NBs.same gR kV4
      replace f1 := Fd.same f1 kV4
      replace kk := Ch.trans kk (Ch.of_same kV4)
      replace gH := NBs.same gH kV4
      replace gS1 := NX'.same gS1 kV4
      replace gS2 := NX'.same gS2 kV4
      replace gS3 := NX'.same gS3 kV4
      replace gS4 := NX'.same gS4 kV4
      replace gS5 := NX'.same gS5 kV4
      replace gS6 := NX'.same gS6 kV4
      replace eLS := kV4 _ _ eLS
      replace gV1 := NX'.same gV1 kV4
      replace gV2 := NX'.same gV2 kV4
      replace gV3 := NX'.same gV3 kV4
      clear kV4 nV4
      have gV4 : NX' K 5 60000 X18 a (.ref V4) := (NBs.tup eV4 (NBs.cons (((nb_int (i := (k : Int)) (by omega) (by omega)).mono (m' := 4) (n' := 20))) (.cons (gW) (.cons ((nb_none.mono (m' := 4) (n' := 20))) (.nil : NBs K 4 0 _ a []))))).nx.mono
      clear eV4 dV4
      repeat' (walk_at "jv")
      intro V5 nV5
      have dV5 := f1.ne nV5
      have kV5 := Same.upd_new (o := .tup ([.int (k : Int), .non, .ref T])) nV5
      have eV5 : SqT K (upd X18 V5 (.tup ([.int (k : Int), .non, .ref T]))) V5 ([.int (k : Int), .non, .ref T]) := sq_tup upd_same
      generalize upd X18 V5 (.tup ([.int (k : Int), .non, .ref T])) = X19 at *
      replace sH := TK.same kV5 _ _ sH
      replace sT := TK.same kV5 _ _ sT
      replace gW := NB.same gW kV5
      replace gR := NBs.same gR kV5
      replace f1 := Fd.same f1 kV5
      replace kk := Ch.trans kk (Ch.of_same kV5)
      replace gH := NBs.same gH kV5
      replace gS1 := NX'.same gS1 kV5
      replace gS2 := NX'.same gS2 kV5
      replace gS3 := NX'.same gS3 kV5
      replace gS4 := NX'.same gS4 kV5
      replace gS5 := NX'.same gS5 kV5
      replace gS6 := NX'.same gS6 kV5
      replace eLS := kV5 _ _ eLS
      replace gV1 := NX'.same gV1 kV5
      replace gV2 := NX'.same gV2 kV5
      replace gV3 := NX'.same gV3 kV5
      replace gV4 := NX'.same gV4 kV5
      clear kV5 nV5
      have gV5 : NX' K 5 60000 X19 a (.ref V5) := (NBs.tup eV5 (NBs.cons (((nb_int (i := (k : Int)) (by omega) (by omega)).mono (m' := 4) (n' := 20))) (.cons ((nb_none.mono (m' := 4) (n' := 20))) (.cons ((NBs.tup sT gR)) (.nil : NBs K 4 0 _ a []))))).nx.mono
      clear eV5 dV5
      repeat' (walk_at "jv")
      intro LZ nLZ
      have dLZ := f1.ne nLZ
      have kLZ := Same.upd_new (o := .lst ([.ref V1, .ref V2, .ref V3, .ref V4, .ref V5])) nLZ
      have eLZ : (upd X19 LZ (.lst ([.ref V1, .ref V2, .ref V3, .ref V4, .ref V5]))) LZ = some (.lst ([.ref V1, .ref V2, .ref V3, .ref V4, .ref V5])) := upd_same
      generalize upd X19 LZ (.lst ([.ref V1, .ref V2, .ref V3, .ref V4, .ref V5])) = X20 at *
      replace sH := TK.same kLZ _ _ sH
      replace sT := TK.same kLZ _ _ sT
      replace gW := NB.same gW kLZ
      replace gR := NBs.same gR kLZ
      replace f1 := Fd.same f1 kLZ
      replace kk := Ch.trans kk (Ch.of_same kLZ)
      replace gH := NBs.same gH kLZ
      replace gS1 := NX'.same gS1 kLZ
      replace gS2 := NX'.same gS2 kLZ
      replace gS3 := NX'.same gS3 kLZ
      replace gS4 := NX'.same gS4 kLZ
      replace gS5 := NX'.same gS5 kLZ
      replace gS6 := NX'.same gS6 kLZ
      replace eLS := kLZ _ _ eLS
      replace gV1 := NX'.same gV1 kLZ
      replace gV2 := NX'.same gV2 kLZ
      replace gV3 := NX'.same gV3 kLZ
      replace gV4 := NX'.same gV4 kLZ
      replace gV5 := NX'.same gV5 kLZ
      clear kLZ nLZ
      repeat' (walk_at "jv")
      refine i_catL eLS eLZ (by rw [sizeLine_eq]; show 9 + 5 ≤ _; omega) fun LC nLC => ?_
      have dLC := f1.ne nLC
      have kLC := Same.upd_new (o := .lst ([.ref S1, .ref S2, .ref S3, .ref S4, .ref S5, .ref S6, .non, .str "hall", .int 5] ++ [.ref V1, .ref V2, .ref V3, .ref V4, .ref V5])) nLC
      have eLC : (upd X20 LC (.lst ([.ref S1, .ref S2, .ref S3, .ref S4, .ref S5, .ref S6, .non, .str "hall", .int 5] ++ [.ref V1, .ref V2, .ref V3, .ref V4, .ref V5]))) LC = some (.lst ([.ref S1, .ref S2, .ref S3, .ref S4, .ref S5, .ref S6, .non, .str "hall", .int 5] ++ [.ref V1, .ref V2, .ref V3, .ref V4, .ref V5])) := upd_same
      generalize upd X20 LC (.lst ([.ref S1, .ref S2, .ref S3, .ref S4, .ref S5, .ref S6, .non, .str "hall", .int 5] ++ [.ref V1, .ref V2, .ref V3, .ref V4, .ref V5])) = X21 at *
      replace sH := TK.same kLC _ _ sH
      replace sT := TK.same kLC _ _ sT
      replace gW := NB.same gW kLC
      replace gR := NBs.same gR kLC
      replace f1 := Fd.same f1 kLC
      replace kk := Ch.trans kk (Ch.of_same kLC)
      replace gH := NBs.same gH kLC
      replace gS1 := NX'.same gS1 kLC
      replace gS2 := NX'.same gS2 kLC
      replace gS3 := NX'.same gS3 kLC
      replace gS4 := NX'.same gS4 kLC
      replace gS5 := NX'.same gS5 kLC
      replace gS6 := NX'.same gS6 kLC
      replace gV1 := NX'.same gV1 kLC
      replace gV2 := NX'.same gV2 kLC
      replace gV3 := NX'.same gV3 kLC
      replace gV4 := NX'.same gV4 kLC
      replace gV5 := NX'.same gV5 kLC
      clear kLC nLC
      replace eLC : X21 LC = some (.lst ([.ref S1, .ref S2, .ref S3, .ref S4, .ref S5, .ref S6, .non, .str "hall", .int 5, .ref V1, .ref V2, .ref V3, .ref V4, .ref V5])) := eLC
      have glLC : ∀ x ∈ ([.ref S1, .ref S2, .ref S3, .ref S4, .ref S5, .ref S6, .non, .str "hall", .int 5, .ref V1, .ref V2, .ref V3, .ref V4, .ref V5] : List V), NX' K 7 200000 X21 a x :=
        fa_cons (gS1).mono <|
        fa_cons (gS2).mono <|
        fa_cons (gS3).mono <|
        fa_cons (gS4).mono <|
        fa_cons (gS5).mono <|
        fa_cons (gS6).mono <|
        fa_cons (nb_none.nx).mono <|
        fa_cons ((nb_str (by decide +kernel) (by decide +kernel)).nx).mono <|
        fa_cons ((nb_int (i := 5) (by decide) (by decide)).nx).mono <|
        fa_cons (gV1).mono <|
        fa_cons (gV2).mono <|
        fa_cons (gV3).mono <|
        fa_cons (gV4).mono <|
        fa_cons (gV5).mono <|
        fa_nil
      clear gS1 gS2 gS3 gS4 gS5 gS6 gV1 gV2 gV3 gV4 gV5 gH
      repeat' (walk_at "jv")
      refine ⟨a, LC, c + 1 + 1, [.ref S1, .ref S2, .ref S3, .ref S4, .ref S5, .ref S6, .non, .str "hall", .int 5, .ref V1, .ref V2, .ref V3, .ref V4, .ref V5], rfl, f1, SqA.l (sq_lst eLC), dLC, by show 0 < 14; decide, by show 14 < 1000000; decide, by omega, fun y Z0 hy f2 k2 => ?_⟩
      have gy := glLC y hy
      clear hy glLC eLC
      replace sH := TK.ch k2 f1 _ _ sH
      replace sT := TK.ch k2 f1 _ _ sT
      replace gW := NB.ch gW k2 f1
      replace gR := NBs.ch gR k2 f1
      replace kk := Ch.trans kk k2
      replace gy := NX'.ch gy k2 f1
      clear f1 k2
      have f1 := f2
      clear f2
      exact q _ _ (gy.mono) (f1.mono (by omega)) kk
    · skip
      clear sP gP gQ sW dW sH
      intro T2 nT2
      have dT2 := f1.ne nT2
      have kT2 := Same.upd_new (o := .tup ([.int 2])) nT2
      have eT2 : SqT K (upd Y2 T2 (.tup ([.int 2]))) T2 ([.int 2]) := sq_tup upd_same
      generalize upd Y2 T2 (.tup ([.int 2])) = X22 at *
      replace sT := TK.same kT2 _ _ sT
      replace gW := NB.same gW kT2
      replace gR := NBs.same gR kT2
      replace f1 := Fd.same f1 kT2
      replace kk := Ch.trans kk (Ch.of_same kT2)
      clear kT2 nT2
      have gT2 : NB K 1 120 X22 a (.ref T2) := (NBs.tup eT2 (.cons (nb_int (by decide) (by decide)) .nil)).mono
      clear eT2 dT2
      repeat' (walk_at "jv")
      intro L2 nL2
      have dL2 := f1.ne nL2
      have kL2 := Same.upd_new (o := .lst ([.int 2])) nL2
      have eL2 : (upd X22 L2 (.lst ([.int 2]))) L2 = some (.lst ([.int 2])) := upd_same
      generalize upd X22 L2 (.lst ([.int 2])) = X23 at *
      replace sT := TK.same kL2 _ _ sT
      replace gW := NB.same gW kL2
      replace gR := NBs.same gR kL2
      replace f1 := Fd.same f1 kL2
      replace kk := Ch.trans kk (Ch.of_same kL2)
      replace gT2 := NB.same gT2 kL2
      clear kL2 nL2
      have gL2 : NX' K 1 120 X23 a (.ref L2) := (NQs.lst eL2 dL2 (.cons (nq_int (by decide) (by decide)) .nil)).nx.mono
      clear eL2 dL2
      repeat' (walk_at "jv")
      intro D2 nD2
      have dD2 := f1.ne nD2
      have kD2 := Same.upd_new (o := .dK []) nD2
      have eD2 : (upd X23 D2 (.dK [])) D2 = some (.dK []) := upd_same
      generalize upd X23 D2 (.dK []) = X24 at *
      replace sT := TK.same kD2 _ _ sT
      replace gW := NB.same gW kD2
      replace gR := NBs.same gR kD2
      replace f1 := Fd.same f1 kD2
      replace kk := Ch.trans kk (Ch.of_same kD2)
      replace gT2 := NB.same gT2 kD2
      replace gL2 := NX'.same gL2 kD2
      clear kD2 nD2
      have gD2 : NX' K 1 120 X24 a (.ref D2) := (nq_dict eD2 dD2).nx.mono
      clear eD2 dD2
      repeat' (walk_at "jv")
      intro LA nLA
      have dLA := f1.ne nLA
      have kLA := Same.upd_new (o := .lst ([.int 0, .int 1, .int 2, .int 3, .int 4, .int (-2), .bl true, .non, .str "2", .ref T2, .ref L2, .ref D2, .int (10 ^ (30 : Int).toNat)])) nLA
      have eLA : (upd X24 LA (.lst ([.int 0, .int 1, .int 2, .int 3, .int 4, .int (-2), .bl true, .non, .str "2", .ref T2, .ref L2, .ref D2, .int (10 ^ (30 : Int).toNat)]))) LA = some (.lst ([.int 0, .int 1, .int 2, .int 3, .int 4, .int (-2), .bl true, .non, .str "2", .ref T2, .ref L2, .ref D2, .int (10 ^ (30 : Int).toNat)])) := upd_same
      generalize upd X24 LA (.lst ([.int 0, .int 1, .int 2, .int 3, .int 4, .int (-2), .bl true, .non, .str "2", .ref T2, .ref L2, .ref D2, .int (10 ^ (30 : Int).toNat)])) = X25 at *
      replace sT := TK.same kLA _ _ sT
      replace gW := NB.same gW kLA
      replace gR := NBs.same gR kLA
      replace f1 := Fd.same f1 kLA
      replace kk := Ch.trans kk (Ch.of_same kLA)
      replace gT2 := NB.same gT2 kLA
      replace gL2 := NX'.same gL2 kLA
      replace gD2 := NX'.same gD2 kLA
      clear kLA nLA
      have glLA : ∀ x ∈ ([.int 0, .int 1, .int 2, .int 3, .int 4, .int (-2), .bl true, .non, .str "2", .ref T2, .ref L2, .ref D2, .int (10 ^ (30 : Int).toNat)] : List V), NX' K 4 2000 X25 a x :=
        fa_cons ((nb_int (i := 0) (by decide) (by decide)).nx).mono <|
        fa_cons ((nb_int (i := 1) (by decide) (by decide)).nx).mono <|
        fa_cons ((nb_int (i := 2) (by decide) (by decide)).nx).mono <|
        fa_cons ((nb_int (i := 3) (by decide) (by decide)).nx).mono <|
        fa_cons ((nb_int (i := 4) (by decide) (by decide)).nx).mono <|
        fa_cons ((nb_int (i := -2) (by decide) (by decide)).nx).mono <|
        fa_cons ((nb_bool true).nx).mono <|
        fa_cons (nb_none.nx).mono <|
        fa_cons ((nb_str (by decide +kernel) (by decide +kernel)).nx).mono <|
        fa_cons (gT2.nx).mono <|
        fa_cons (gL2).mono <|
        fa_cons (gD2).mono <|
        fa_cons ((nb_far : NB K 0 110 _ a (.int (10 ^ 30))).nx).mono <|
        fa_nil
      clear gT2 gL2 gD2
      repeat' (walk_at "jv")
      refine ⟨a, LA, c + 1 + 1, [.int 0, .int 1, .int 2, .int 3, .int 4, .int (-2), .bl true, .non, .str "2", .ref T2, .ref L2, .ref D2, .int (10 ^ (30 : Int).toNat)], rfl, f1, SqA.l (sq_lst eLA), dLA, by show 0 < 13; decide, by show 13 < 1000000; decide, by omega, fun y Z1 hy f2 k2 => ?_⟩
      have gy := glLA y hy
      clear hy glLA eLA
      replace sT := TK.ch k2 f1 _ _ sT
      replace gW := NB.ch gW k2 f1
      replace gR := NBs.ch gR k2 f1
      replace kk := Ch.trans kk k2
      replace gy := NX'.ch gy k2 f1
      clear f1 k2
      have f1 := f2
      clear f2
      repeat' (walk_at "jv")
      intro PT nPT
      have dPT := f1.ne nPT
      have kPT := Same.upd_new (o := .tup ([y, .ref t2, .ref T])) nPT
      have ePT : SqT K (upd Z1 PT (.tup ([y, .ref t2, .ref T]))) PT ([y, .ref t2, .ref T]) := sq_tup upd_same
      generalize upd Z1 PT (.tup ([y, .ref t2, .ref T])) = X26 at *
      replace sT := TK.same kPT _ _ sT
      replace gW := NB.same gW kPT
      replace gR := NBs.same gR kPT
      replace f1 := Fd.same f1 kPT
      replace kk := Ch.trans kk (Ch.of_same kPT)
      replace gy := NX'.same gy kPT
      clear kPT nPT
      exact q _ _ ((nx_fst ePT gy gW (NBs.tup sT gR)).mono) (f1.mono (by omega)) kk
    · skip
      clear sP gP gQ sW sH
      refine ⟨a, .ref t2, c + 1 + 1, ps, rs, rfl, f1, by omega, dW, W, fun y Z2 nz f2 k2 => ?_⟩
      have gy := nz_nx nz
      clear nz
      replace sT := TK.ch k2 f1 _ _ sT
      replace gW := NB.ch gW k2 f1
      replace gR := NBs.ch gR k2 f1
      replace kk := Ch.trans kk k2
      replace dW := Dp.tk (TK.ch k2 f1) _ _ (web_only _ _) dW
      clear f1 k2
      have f1 := f2
      clear f2
      repeat' (walk_at "jv")
      intro PT nPT
      have dPT := f1.ne nPT
      have kPT := Same.upd_new (o := .tup ([.int (k : Int), y, .ref T])) nPT
      have ePT : SqT K (upd Z2 PT (.tup ([.int (k : Int), y, .ref T]))) PT ([.int (k : Int), y, .ref T]) := sq_tup upd_same
      generalize upd Z2 PT (.tup ([.int (k : Int), y, .ref T])) = X27 at *
      replace sT := TK.same kPT _ _ sT
      replace gW := NB.same gW kPT
      replace gR := NBs.same gR kPT
      replace f1 := Fd.same f1 kPT
      replace kk := Ch.trans kk (Ch.of_same kPT)
      replace dW := Dp.same kPT _ _ dW
      replace gy := NX'.same gy kPT
      clear kPT nPT
      exact q _ _ ((nx_snd ePT (((nb_int (i := (k : Int)) (by omega) (by omega)).mono (m' := 4) (n' := 20))) gy (NBs.tup sT gR)).mono) (f1.mono (by omega)) kk
    · skip
      clear sH dW gW
      refine ⟨a, 5, c + 1 + 1, rfl, f1, by omega, by omega, by omega, fun mv Y7 mv0 mv1 f2 k2 => ?_⟩
      replace sW := TK.ch k2 f1 _ _ sW
      replace sT := TK.ch k2 f1 _ _ sT
      replace sP := TK.ch k2 f1 _ _ sP
      replace gR := NBs.ch gR k2 f1
      replace gP := NB.ch gP k2 f1
      replace gQ := NB.ch gQ k2 f1
      replace kk := Ch.trans kk k2
      clear f1 k2
      have f1 := f2
      clear f2
      obtain ⟨mo, rfl⟩ := Int.eq_ofNat_of_zero_le mv0
      repeat' (walk_at "jv")
      refine c_range (fun D i H' => Y7 D = none ∧ Same Y7 H' ∧ ∃ zs : List Str, H' D = some (.lst (zs.map V.str)) ∧ zs.length = i ∧ ∀ z ∈ zs, PyData.strOk z = true ∧ z.cps.size ≤ 20) (fun D nD => ⟨nD, Same.upd_new nD, [], upd_same, rfl, fun z h => nomatch h⟩) (fun D i H' hi h => ?_) (fun D H' h => ?_)
      · obtain ⟨nD, kD, zs, eD, hzl, hzs⟩ := h
        have e0 : (0 : Int) + (i : Int) = (i : Int) := by omega
        rw [e0]
        repeat' (walk_at "jv")
        have hi6 : i < 6 := by omega
        obtain ⟨ko, ks, ts⟩ := k_names ⟨i, hi6⟩
        refine ⟨(i : Int), rfl, Nat.lt_of_le_of_lt (Nat.log2_le_self _) (by omega), ?_⟩
        replace ts : (Str.ofString (toString (i : Int))).cps.size ≤ 5 := ts
        refine ⟨_, _, rfl, rfl, by rw [sizeLine_eq]; show 1 + (Str.ofString (toString (i : Int))).cps.size ≤ _; omega, ?_⟩
        refine i_lcE eD (by rw [List.length_map, sizeLine_eq]; omega) ?_
        refine ⟨nD, fun c oc z => (upd_ne (ne_of_none z nD)).trans (kD _ _ z), zs ++ [Str.ofString "k" ++ Str.ofString (toString (i : Int))], by rw [upd_same, List.map_append]; rfl, by rw [List.length_append, hzl]; rfl, fun z hz => (List.mem_append.mp hz).elim (hzs z) fun h => by rw [List.mem_singleton.mp h]; exact ⟨ko, ks⟩⟩
      · obtain ⟨nD, kD, zs, eD, hzl, hzs⟩ := h
        replace sW := TK.same kD _ _ sW
        replace sT := TK.same kD _ _ sT
        replace sP := TK.same kD _ _ sP
        replace gR := NBs.same gR kD
        replace gP := NB.same gP kD
        replace gQ := NB.same gQ kD
        replace f1 := Fd.same f1 kD
        replace kk := Ch.trans kk (Ch.of_same kD)
        clear kD
        repeat' (walk_at "jv")
        intro KT nKT
        have dKT := f1.ne nKT
        have kKT := Same.upd_new (o := .tup (zs.map V.str)) nKT
        have eKT : SqT K (upd H' KT (.tup (zs.map V.str))) KT (zs.map V.str) := sq_tup upd_same
        generalize upd H' KT (.tup (zs.map V.str)) = X28 at *
        replace sW := TK.same kKT _ _ sW
        replace sT := TK.same kKT _ _ sT
        replace sP := TK.same kKT _ _ sP
        replace gR := NBs.same gR kKT
        replace gP := NB.same gP kKT
        replace gQ := NB.same gQ kKT
        replace f1 := Fd.same f1 kKT
        replace kk := Ch.trans kk (Ch.of_same kKT)
        replace eD := kKT _ _ eD
        clear kKT nKT
        have hzm : (zs.map V.str).length = zs.length := List.length_map ..
        have gKT : NBs K 2 84 X28 a (zs.map V.str) := fun b => by
          have z9 := nzs_of (b := b) (m := 0) (n := 20) (ds := zs.map PyData.str) fun d hd => by
            obtain ⟨z, hz, rfl⟩ := List.mem_map.mp hd
            exact nz_str (hzs z hz).1 (hzs z hz).2
          rw [List.length_map] at z9
          exact ⟨_, ObAll.of _ _ (strs_only zs) (DpAll.strs zs), z9.mono (by decide) (by omega)⟩
        clear eD
        repeat' (walk_at "jv")
        refine i_catG sP eKT (by rw [hmp, hzm, sizeLine_eq]; omega) fun P4 X29 kP4 sP4 => ?_
        replace sW := TK.same kP4 _ _ sW
        replace sT := TK.same kP4 _ _ sT
        replace sP := TK.same kP4 _ _ sP
        replace gR := NBs.same gR kP4
        replace gP := NB.same gP kP4
        replace gQ := NB.same gQ kP4
        replace f1 := Fd.same f1 kP4
        replace kk := Ch.trans kk (Ch.of_same kP4)
        replace eKT := TK.same kP4 _ _ eKT
        replace gKT := NBs.same gKT kP4
        clear kP4
        have gP4 : NB K 2 200 X29 a (.ref P4) := (NBs.tup sP4 (NBs.app (m := 1) (n := 72) (n' := 84) (fun b => ⟨_, ObAll.of _ _ (strs_only ps) (DpAll.strs ps), (nz_names W.names.2).mono (by decide) (by omega)⟩) (fun b => by
          have z9 := nzs_of (b := b) (m := 0) (n := 20) (ds := zs.map PyData.str) fun d hd => by
            obtain ⟨z, hz, rfl⟩ := List.mem_map.mp hd
            exact nz_str (hzs z hz).1 (hzs z hz).2
          rw [List.length_map] at z9
          exact ⟨_, ObAll.of _ _ (strs_only zs) (DpAll.strs zs), z9.mono (by decide) (by omega)⟩))).mono (by decide) (by decide)
        clear sP4
        repeat' (walk_at "jv")
        intro TW nTW
        have dTW := f1.ne nTW
        have kTW := Same.upd_new (o := .tup ([.ref P4, .ref tr])) nTW
        have eTW : SqT K (upd X29 TW (.tup ([.ref P4, .ref tr]))) TW ([.ref P4, .ref tr]) := sq_tup upd_same
        generalize upd X29 TW (.tup ([.ref P4, .ref tr])) = X30 at *
        replace sW := TK.same kTW _ _ sW
        replace sT := TK.same kTW _ _ sT
        replace sP := TK.same kTW _ _ sP
        replace gR := NBs.same gR kTW
        replace gP := NB.same gP kTW
        replace gQ := NB.same gQ kTW
        replace f1 := Fd.same f1 kTW
        replace kk := Ch.trans kk (Ch.of_same kTW)
        replace eKT := TK.same kTW _ _ eKT
        replace gKT := NBs.same gKT kTW
        replace gP4 := NB.same gP4 kTW
        clear kTW nTW
        have gTW : NB K 4 600 X30 a (.ref TW) := (NBs.tup eTW (NBs.cons gP4 (.cons gQ (.nil : NBs K 2 0 _ a [])))).mono
        clear eTW dTW
        clear gP4
        repeat' (walk_at "jv")
        intro K1 nK1
        have dK1 := f1.ne nK1
        have kK1 := Same.upd_new (o := .tup ([.str "keep"])) nK1
        have eK1 : SqT K (upd X30 K1 (.tup ([.str "keep"]))) K1 ([.str "keep"]) := sq_tup upd_same
        generalize upd X30 K1 (.tup ([.str "keep"])) = X31 at *
        replace sW := TK.same kK1 _ _ sW
        replace sT := TK.same kK1 _ _ sT
        replace sP := TK.same kK1 _ _ sP
        replace gR := NBs.same gR kK1
        replace gP := NB.same gP kK1
        replace gQ := NB.same gQ kK1
        replace f1 := Fd.same f1 kK1
        replace kk := Ch.trans kk (Ch.of_same kK1)
        replace eKT := TK.same kK1 _ _ eKT
        replace gKT := NBs.same gKT kK1
        replace gTW := NB.same gTW kK1
        clear kK1 nK1
        have gK1 : NB K 3 40 X31 a (.ref K1) := (NBs.tup eK1 (.cons (nb_str (by decide +kernel) (by decide +kernel)) .nil)).mono
        clear eK1 dK1
        repeat' (walk_at "jv")
        intro K2 nK2
        have dK2 := f1.ne nK2
        have kK2 := Same.upd_new (o := .tup ([.ref K1])) nK2
        have eK2 : SqT K (upd X31 K2 (.tup ([.ref K1]))) K2 ([.ref K1]) := sq_tup upd_same
        generalize upd X31 K2 (.tup ([.ref K1])) = X32 at *
        replace sW := TK.same kK2 _ _ sW
        replace sT := TK.same kK2 _ _ sT
        replace sP := TK.same kK2 _ _ sP
        replace gR := NBs.same gR kK2
        replace gP := NB.same gP kK2
        replace gQ := NB.same gQ kK2
        replace f1 := Fd.same f1 kK2
        replace kk := Ch.trans kk (Ch.of_same kK2)
        replace eKT := TK.same kK2 _ _ eKT
        replace gKT := NBs.same gKT kK2
        replace gTW := NB.same gTW kK2
        replace gK1 := NB.same gK1 kK2
        clear kK2 nK2
        repeat' (walk_at "jv")
        rw [hzm]
        refine ⟨K2, zs.length, [.ref K1], rfl, rfl, eK2, (fun e => nomatch e), by omega, by show 1 ≤ 1000; decide, fun RZ X33 kRZ sRZ => ?_⟩
        replace sW := TK.same kRZ _ _ sW
        replace sT := TK.same kRZ _ _ sT
        replace sP := TK.same kRZ _ _ sP
        replace gR := NBs.same gR kRZ
        replace gP := NB.same gP kRZ
        replace gQ := NB.same gQ kRZ
        replace f1 := Fd.same f1 kRZ
        replace kk := Ch.trans kk (Ch.of_same kRZ)
        replace eKT := TK.same kRZ _ _ eKT
        replace gKT := NBs.same gKT kRZ
        replace gTW := NB.same gTW kRZ
        replace gK1 := NB.same gK1 kRZ
        replace eK2 := TK.same kRZ _ _ eK2
        clear kRZ
        have gRZ : NBs K 3 200 X33 a (List.replicate zs.length [V.ref K1]).flatten := (NBs.flat (NBs.cons gK1 (.nil : NBs K 3 0 _ a [])) zs.length).mono (Nat.le_refl _) (by omega)
        repeat' (walk_at "jv")
        refine i_catG sT sRZ (by rw [hrx, List.length_flatten, List.map_replicate, List.sum_replicate_nat, sizeLine_eq]; show _ + _ * 1 ≤ _; omega) fun RA X34 kRA sRA => ?_
        replace sW := TK.same kRA _ _ sW
        replace sT := TK.same kRA _ _ sT
        replace sP := TK.same kRA _ _ sP
        replace gR := NBs.same gR kRA
        replace gP := NB.same gP kRA
        replace gQ := NB.same gQ kRA
        replace f1 := Fd.same f1 kRA
        replace kk := Ch.trans kk (Ch.of_same kRA)
        replace eKT := TK.same kRA _ _ eKT
        replace gKT := NBs.same gKT kRA
        replace gTW := NB.same gTW kRA
        replace gK1 := NB.same gK1 kRA
        replace eK2 := TK.same kRA _ _ eK2
        replace sRZ := TK.same kRA _ _ sRZ
        replace gRZ := NBs.same gRZ kRA
        clear kRA
        have gRA : NB K 4 6608 X34 a (.ref RA) := NBs.tup sRA (gR.app gRZ)
        clear sRA
        repeat' (walk_at "jv")
        intro PT nPT
        have dPT := f1.ne nPT
        have kPT := Same.upd_new (o := .tup ([.int (k : Int), .ref TW, .ref RA])) nPT
        have ePT : SqT K (upd X34 PT (.tup ([.int (k : Int), .ref TW, .ref RA]))) PT ([.int (k : Int), .ref TW, .ref RA]) := sq_tup upd_same
        generalize upd X34 PT (.tup ([.int (k : Int), .ref TW, .ref RA])) = X35 at *
        replace sW := TK.same kPT _ _ sW
        replace sT := TK.same kPT _ _ sT
        replace sP := TK.same kPT _ _ sP
        replace gR := NBs.same gR kPT
        replace gP := NB.same gP kPT
        replace gQ := NB.same gQ kPT
        replace f1 := Fd.same f1 kPT
        replace kk := Ch.trans kk (Ch.of_same kPT)
        replace eKT := TK.same kPT _ _ eKT
        replace gKT := NBs.same gKT kPT
        replace gTW := NB.same gTW kPT
        replace gK1 := NB.same gK1 kPT
        replace eK2 := TK.same kPT _ _ eK2
        replace sRZ := TK.same kPT _ _ sRZ
        replace gRZ := NBs.same gRZ kPT
        replace gRA := NB.same gRA kPT
        clear kPT nPT
        exact q _ _ ((NBs.tup ePT (NBs.cons (((nb_int (i := (k : Int)) (by omega) (by omega)).mono (m' := 4) (n' := 20))) (.cons gTW (.cons gRA (.nil : NBs K 4 0 _ a []))))).nx.mono) (f1.mono (by omega)) kk
    · skip
      clear sH
      have hjm : j < (ps.map V.str).length := by omega
      have hj8 : j < rx.length := by omega
      have a1 : atI (ps.map V.str) ((j : Nat) : Int) = some (.str ps[j]) := atI_nat (by rw [List.getElem?_map, List.getElem?_eq_getElem hj]; rfl)
      have hpv := prv_lt h0
      have a2 : atI (ps.map V.str) (-1) = some (.str ps[prv ps.length 0]) := by
        have z := at_prv (xs := ps.map V.str) (i := 0) (by omega)
        rw [hmp, List.getElem?_map, List.getElem?_eq_getElem hpv] at z
        exact z
      have hzm := List.getElem_mem hj
      have a3 : atI rx ((j : Nat) : Int) = some rx[j] := atI_nat (List.getElem?_eq_getElem hj8)
      obtain ⟨d, hd, dx⟩ := DpAll.get aT (List.getElem?_eq_getElem hj8)
      have hR := hH.rules j ps[j] d (List.getElem?_eq_getElem hj) hd
      obtain ⟨es, rfl⟩ := rule_tup hR
      have hf : k ^ ((nearL ps rs ps[j]).length + 1) ≤ 256 := Nat.le_trans (Nat.pow_le_pow_right (by omega) (near_lt W hzm)) hH.few
      have hnn : ∀ z ∈ nearL ps rs ps[j], nmOk z = true := fun z hz => W.names.2 z (near_ix W hzm hz).1
      have hl7 := near_len W hzm (rs := rs)
      generalize ps[j] = z1 at *
      generalize ps[prv ps.length 0] = z2 at *
      obtain ⟨rt, us9, e9, s9, a9⟩ := tup_parts dx
      rw [e9] at a3 dx
      clear e9 s9 a9 hd
      replace dx := Dp.tk (TK.ch (kk) hf1) _ _ (rule_only hR) dx
      repeat' (walk_at "jv")
      refine ⟨.ref t2, z1, ps, rs, rfl, dW, W, hzm, fun po Z3 npo kpo epo => ?_⟩
      have dpo := f1.ne npo
      replace sW := TK.same kpo _ _ sW
      replace sT := TK.same kpo _ _ sT
      replace sP := TK.same kpo _ _ sP
      replace gW := NB.same gW kpo
      replace gR := NBs.same gR kpo
      replace gP := NB.same gP kpo
      replace gQ := NB.same gQ kpo
      replace f1 := Fd.same f1 kpo
      replace kk := Ch.trans kk (Ch.of_same kpo)
      replace dW := Dp.same kpo _ _ dW
      replace dx := Dp.same kpo _ _ dx
      clear kpo
      clear npo
      repeat' (walk_at "jv")
      refine ⟨a, po, rt, c + 1 + 1, k, nearL ps rs z1, es, rfl, f1, by omega, epo, dpo, hl7, hk2, hk3, hf, hnn, dx, hR, fun y Z4 gy f2 k2 => ?_⟩
      clear epo dpo
      clear dx
      replace sW := TK.ch k2 f1 _ _ sW
      replace sT := TK.ch k2 f1 _ _ sT
      replace sP := TK.ch k2 f1 _ _ sP
      replace gW := NB.ch gW k2 f1
      replace gR := NBs.ch gR k2 f1
      replace gP := NB.ch gP k2 f1
      replace gQ := NB.ch gQ k2 f1
      replace kk := Ch.trans kk k2
      replace dW := Dp.tk (TK.ch k2 f1) _ _ (web_only _ _) dW
      clear f1 k2
      have f1 := f2
      clear f2
      clear hR hnn hf a3
      repeat' (walk_at "jv")
      · skip
        refine ⟨a, tp, c + 1 + 1 + 2000, _, rfl, f1, sP, by omega, by omega, by omega, fun ov Z5 hov f2 k2 => ?_⟩
        obtain ⟨z3, hz3, rfl⟩ := List.mem_map.mp hov
        clear gy hov
        replace sW := TK.ch k2 f1 _ _ sW
        replace sT := TK.ch k2 f1 _ _ sT
        replace sP := TK.ch k2 f1 _ _ sP
        replace gW := NB.ch gW k2 f1
        replace gR := NBs.ch gR k2 f1
        replace gP := NB.ch gP k2 f1
        replace gQ := NB.ch gQ k2 f1
        replace kk := Ch.trans kk k2
        replace dW := Dp.tk (TK.ch k2 f1) _ _ (web_only _ _) dW
        clear f1 k2
        have f1 := f2
        clear f2
        have n3 := W.names.2 _ hz3
        repeat' (walk_at "jv")
        intro CP nCP
        have dCP := f1.ne nCP
        have kCP := Same.upd_new (o := .tup ([.str "copy", .str z3])) nCP
        have eCP : SqT K (upd Z5 CP (.tup ([.str "copy", .str z3]))) CP ([.str "copy", .str z3]) := sq_tup upd_same
        generalize upd Z5 CP (.tup ([.str "copy", .str z3])) = X36 at *
        replace sW := TK.same kCP _ _ sW
        replace sT := TK.same kCP _ _ sT
        replace sP := TK.same kCP _ _ sP
        replace gW := NB.same gW kCP
        replace gR := NBs.same gR kCP
        replace gP := NB.same gP kCP
        replace gQ := NB.same gQ kCP
        replace f1 := Fd.same f1 kCP
        replace kk := Ch.trans kk (Ch.of_same kCP)
        replace dW := Dp.same kCP _ _ dW
        clear kCP nCP
        have gyc : NX' K 5 100000 X36 a (.ref CP) := (NX'.pair (by decide +kernel) (by decide +kernel) eCP ((nb_name n3).mono (m' := 3) (n' := 20)).nx).mono
        clear eCP dCP
        repeat' (walk_at "jv")
        refine i_slG sT fun A1 X37 kA1 sA1 => ?_
        rw [cut_take] at sA1
        replace sW := TK.same kA1 _ _ sW
        replace sT := TK.same kA1 _ _ sT
        replace sP := TK.same kA1 _ _ sP
        replace gW := NB.same gW kA1
        replace gR := NBs.same gR kA1
        replace gP := NB.same gP kA1
        replace gQ := NB.same gQ kA1
        replace f1 := Fd.same f1 kA1
        replace kk := Ch.trans kk (Ch.of_same kA1)
        replace dW := Dp.same kA1 _ _ dW
        replace gyc := NX'.same gyc kA1
        clear kA1
        repeat' (walk_at "jv")
        intro A2 nA2
        have dA2 := f1.ne nA2
        have kA2 := Same.upd_new (o := .tup ([.ref CP])) nA2
        have eA2 : SqT K (upd X37 A2 (.tup ([.ref CP]))) A2 ([.ref CP]) := sq_tup upd_same
        generalize upd X37 A2 (.tup ([.ref CP])) = X38 at *
        replace sW := TK.same kA2 _ _ sW
        replace sT := TK.same kA2 _ _ sT
        replace sP := TK.same kA2 _ _ sP
        replace gW := NB.same gW kA2
        replace gR := NBs.same gR kA2
        replace gP := NB.same gP kA2
        replace gQ := NB.same gQ kA2
        replace f1 := Fd.same f1 kA2
        replace kk := Ch.trans kk (Ch.of_same kA2)
        replace dW := Dp.same kA2 _ _ dW
        replace gyc := NX'.same gyc kA2
        replace sA1 := TK.same kA2 _ _ sA1
        clear kA2 nA2
        repeat' (walk_at "jv")
        refine i_catG sA1 eA2 (by rw [List.length_take, hrx, sizeLine_eq]; show _ + 1 ≤ _; omega) fun A3 X39 kA3 sA3 => ?_
        replace sW := TK.same kA3 _ _ sW
        replace sT := TK.same kA3 _ _ sT
        replace sP := TK.same kA3 _ _ sP
        replace gW := NB.same gW kA3
        replace gR := NBs.same gR kA3
        replace gP := NB.same gP kA3
        replace gQ := NB.same gQ kA3
        replace f1 := Fd.same f1 kA3
        replace kk := Ch.trans kk (Ch.of_same kA3)
        replace dW := Dp.same kA3 _ _ dW
        replace gyc := NX'.same gyc kA3
        replace sA1 := TK.same kA3 _ _ sA1
        replace eA2 := TK.same kA3 _ _ eA2
        clear kA3
        clear sA1 eA2
        repeat' (walk_at "jv")
        refine i_slG sT fun A4 X40 kA4 sA4 => ?_
        rw [show ((j : Nat) : Int) + 1 = ((j + 1 : Nat) : Int) from rfl, cut_from] at sA4
        replace sW := TK.same kA4 _ _ sW
        replace sT := TK.same kA4 _ _ sT
        replace sP := TK.same kA4 _ _ sP
        replace gW := NB.same gW kA4
        replace gR := NBs.same gR kA4
        replace gP := NB.same gP kA4
        replace gQ := NB.same gQ kA4
        replace f1 := Fd.same f1 kA4
        replace kk := Ch.trans kk (Ch.of_same kA4)
        replace dW := Dp.same kA4 _ _ dW
        replace gyc := NX'.same gyc kA4
        replace sA3 := TK.same kA4 _ _ sA3
        clear kA4
        repeat' (walk_at "jv")
        refine i_catG sA3 sA4 (by rw [List.length_append, List.length_take, List.length_drop, hrx, sizeLine_eq]; show _ + 1 + _ ≤ _; omega) fun A5 X41 kA5 sA5 => ?_
        replace sW := TK.same kA5 _ _ sW
        replace sT := TK.same kA5 _ _ sT
        replace sP := TK.same kA5 _ _ sP
        replace gW := NB.same gW kA5
        replace gR := NBs.same gR kA5
        replace gP := NB.same gP kA5
        replace gQ := NB.same gQ kA5
        replace f1 := Fd.same f1 kA5
        replace kk := Ch.trans kk (Ch.of_same kA5)
        replace dW := Dp.same kA5 _ _ dW
        replace gyc := NX'.same gyc kA5
        replace sA3 := TK.same kA5 _ _ sA3
        replace sA4 := TK.same kA5 _ _ sA4
        clear kA5
        clear sA3 sA4
        have gA5 : NX' K 7 150000 X41 a (.ref A5) := (NX'.mid sA5 ((gR.take j).mono (m' := 6) (n' := 6408)) (gyc.mono (m' := 6) (n' := 100000)) ((gR.drop (j + 1)).mono (m' := 6) (n' := 6408))).mono
        clear sA5
        repeat' (walk_at "jv")
        intro PT nPT
        have dPT := f1.ne nPT
        have kPT := Same.upd_new (o := .tup ([.int (k : Int), .ref t2, .ref A5])) nPT
        have ePT : SqT K (upd X41 PT (.tup ([.int (k : Int), .ref t2, .ref A5]))) PT ([.int (k : Int), .ref t2, .ref A5]) := sq_tup upd_same
        generalize upd X41 PT (.tup ([.int (k : Int), .ref t2, .ref A5])) = X42 at *
        replace sW := TK.same kPT _ _ sW
        replace sT := TK.same kPT _ _ sT
        replace sP := TK.same kPT _ _ sP
        replace gW := NB.same gW kPT
        replace gR := NBs.same gR kPT
        replace gP := NB.same gP kPT
        replace gQ := NB.same gQ kPT
        replace f1 := Fd.same f1 kPT
        replace kk := Ch.trans kk (Ch.of_same kPT)
        replace dW := Dp.same kPT _ _ dW
        replace gyc := NX'.same gyc kPT
        replace gA5 := NX'.same gA5 kPT
        clear kPT nPT
        exact q _ _ ((nx_thd ePT (((nb_int (i := (k : Int)) (by omega) (by omega)).mono (m' := 7) (n' := 20))) (gW.mono (m' := 7) (n' := 340)) gA5).mono) (f1.mono (by omega)) kk
      · skip
        refine i_slG sT fun A1 X43 kA1 sA1 => ?_
        rw [cut_take] at sA1
        replace sW := TK.same kA1 _ _ sW
        replace sT := TK.same kA1 _ _ sT
        replace sP := TK.same kA1 _ _ sP
        replace gW := NB.same gW kA1
        replace gR := NBs.same gR kA1
        replace gP := NB.same gP kA1
        replace gQ := NB.same gQ kA1
        replace f1 := Fd.same f1 kA1
        replace kk := Ch.trans kk (Ch.of_same kA1)
        replace dW := Dp.same kA1 _ _ dW
        replace gy := NX'.same gy kA1
        clear kA1
        repeat' (walk_at "jv")
        intro A2 nA2
        have dA2 := f1.ne nA2
        have kA2 := Same.upd_new (o := .tup ([y])) nA2
        have eA2 : SqT K (upd X43 A2 (.tup ([y]))) A2 ([y]) := sq_tup upd_same
        generalize upd X43 A2 (.tup ([y])) = X44 at *
        replace sW := TK.same kA2 _ _ sW
        replace sT := TK.same kA2 _ _ sT
        replace sP := TK.same kA2 _ _ sP
        replace gW := NB.same gW kA2
        replace gR := NBs.same gR kA2
        replace gP := NB.same gP kA2
        replace gQ := NB.same gQ kA2
        replace f1 := Fd.same f1 kA2
        replace kk := Ch.trans kk (Ch.of_same kA2)
        replace dW := Dp.same kA2 _ _ dW
        replace gy := NX'.same gy kA2
        replace sA1 := TK.same kA2 _ _ sA1
        clear kA2 nA2
        repeat' (walk_at "jv")
        refine i_catG sA1 eA2 (by rw [List.length_take, hrx, sizeLine_eq]; show _ + 1 ≤ _; omega) fun A3 X45 kA3 sA3 => ?_
        replace sW := TK.same kA3 _ _ sW
        replace sT := TK.same kA3 _ _ sT
        replace sP := TK.same kA3 _ _ sP
        replace gW := NB.same gW kA3
        replace gR := NBs.same gR kA3
        replace gP := NB.same gP kA3
        replace gQ := NB.same gQ kA3
        replace f1 := Fd.same f1 kA3
        replace kk := Ch.trans kk (Ch.of_same kA3)
        replace dW := Dp.same kA3 _ _ dW
        replace gy := NX'.same gy kA3
        replace sA1 := TK.same kA3 _ _ sA1
        replace eA2 := TK.same kA3 _ _ eA2
        clear kA3
        clear sA1 eA2
        repeat' (walk_at "jv")
        refine i_slG sT fun A4 X46 kA4 sA4 => ?_
        rw [show ((j : Nat) : Int) + 1 = ((j + 1 : Nat) : Int) from rfl, cut_from] at sA4
        replace sW := TK.same kA4 _ _ sW
        replace sT := TK.same kA4 _ _ sT
        replace sP := TK.same kA4 _ _ sP
        replace gW := NB.same gW kA4
        replace gR := NBs.same gR kA4
        replace gP := NB.same gP kA4
        replace gQ := NB.same gQ kA4
        replace f1 := Fd.same f1 kA4
        replace kk := Ch.trans kk (Ch.of_same kA4)
        replace dW := Dp.same kA4 _ _ dW
        replace gy := NX'.same gy kA4
        replace sA3 := TK.same kA4 _ _ sA3
        clear kA4
        repeat' (walk_at "jv")
        refine i_catG sA3 sA4 (by rw [List.length_append, List.length_take, List.length_drop, hrx, sizeLine_eq]; show _ + 1 + _ ≤ _; omega) fun A5 X47 kA5 sA5 => ?_
        replace sW := TK.same kA5 _ _ sW
        replace sT := TK.same kA5 _ _ sT
        replace sP := TK.same kA5 _ _ sP
        replace gW := NB.same gW kA5
        replace gR := NBs.same gR kA5
        replace gP := NB.same gP kA5
        replace gQ := NB.same gQ kA5
        replace f1 := Fd.same f1 kA5
        replace kk := Ch.trans kk (Ch.of_same kA5)
        replace dW := Dp.same kA5 _ _ dW
        replace gy := NX'.same gy kA5
        replace sA3 := TK.same kA5 _ _ sA3
        replace sA4 := TK.same kA5 _ _ sA4
        clear kA5
        clear sA3 sA4
        have gA5 : NX' K 7 150000 X47 a (.ref A5) := (NX'.mid sA5 ((gR.take j).mono (m' := 6) (n' := 6408)) (gy.mono (m' := 6) (n' := 100000)) ((gR.drop (j + 1)).mono (m' := 6) (n' := 6408))).mono
        clear sA5
        repeat' (walk_at "jv")
        intro PT nPT
        have dPT := f1.ne nPT
        have kPT := Same.upd_new (o := .tup ([.int (k : Int), .ref t2, .ref A5])) nPT
        have ePT : SqT K (upd X47 PT (.tup ([.int (k : Int), .ref t2, .ref A5]))) PT ([.int (k : Int), .ref t2, .ref A5]) := sq_tup upd_same
        generalize upd X47 PT (.tup ([.int (k : Int), .ref t2, .ref A5])) = X48 at *
        replace sW := TK.same kPT _ _ sW
        replace sT := TK.same kPT _ _ sT
        replace sP := TK.same kPT _ _ sP
        replace gW := NB.same gW kPT
        replace gR := NBs.same gR kPT
        replace gP := NB.same gP kPT
        replace gQ := NB.same gQ kPT
        replace f1 := Fd.same f1 kPT
        replace kk := Ch.trans kk (Ch.of_same kPT)
        replace dW := Dp.same kPT _ _ dW
        replace gy := NX'.same gy kPT
        replace gA5 := NX'.same gA5 kPT
        clear kPT nPT
        exact q _ _ ((nx_thd ePT (((nb_int (i := (k : Int)) (by omega) (by omega)).mono (m' := 7) (n' := 20))) (gW.mono (m' := 7) (n' := 340)) gA5).mono) (f1.mono (by omega)) kk
      · skip
        refine i_slG sT fun A1 X49 kA1 sA1 => ?_
        rw [cut_take] at sA1
        replace sW := TK.same kA1 _ _ sW
        replace sT := TK.same kA1 _ _ sT
        replace sP := TK.same kA1 _ _ sP
        replace gW := NB.same gW kA1
        replace gR := NBs.same gR kA1
        replace gP := NB.same gP kA1
        replace gQ := NB.same gQ kA1
        replace f1 := Fd.same f1 kA1
        replace kk := Ch.trans kk (Ch.of_same kA1)
        replace dW := Dp.same kA1 _ _ dW
        replace gy := NX'.same gy kA1
        clear kA1
        repeat' (walk_at "jv")
        intro A2 nA2
        have dA2 := f1.ne nA2
        have kA2 := Same.upd_new (o := .tup ([y])) nA2
        have eA2 : SqT K (upd X49 A2 (.tup ([y]))) A2 ([y]) := sq_tup upd_same
        generalize upd X49 A2 (.tup ([y])) = X50 at *
        replace sW := TK.same kA2 _ _ sW
        replace sT := TK.same kA2 _ _ sT
        replace sP := TK.same kA2 _ _ sP
        replace gW := NB.same gW kA2
        replace gR := NBs.same gR kA2
        replace gP := NB.same gP kA2
        replace gQ := NB.same gQ kA2
        replace f1 := Fd.same f1 kA2
        replace kk := Ch.trans kk (Ch.of_same kA2)
        replace dW := Dp.same kA2 _ _ dW
        replace gy := NX'.same gy kA2
        replace sA1 := TK.same kA2 _ _ sA1
        clear kA2 nA2
        repeat' (walk_at "jv")
        refine i_catG sA1 eA2 (by rw [List.length_take, hrx, sizeLine_eq]; show _ + 1 ≤ _; omega) fun A3 X51 kA3 sA3 => ?_
        replace sW := TK.same kA3 _ _ sW
        replace sT := TK.same kA3 _ _ sT
        replace sP := TK.same kA3 _ _ sP
        replace gW := NB.same gW kA3
        replace gR := NBs.same gR kA3
        replace gP := NB.same gP kA3
        replace gQ := NB.same gQ kA3
        replace f1 := Fd.same f1 kA3
        replace kk := Ch.trans kk (Ch.of_same kA3)
        replace dW := Dp.same kA3 _ _ dW
        replace gy := NX'.same gy kA3
        replace sA1 := TK.same kA3 _ _ sA1
        replace eA2 := TK.same kA3 _ _ eA2
        clear kA3
        clear sA1 eA2
        repeat' (walk_at "jv")
        refine i_slG sT fun A4 X52 kA4 sA4 => ?_
        rw [show ((j : Nat) : Int) + 1 = ((j + 1 : Nat) : Int) from rfl, cut_from] at sA4
        replace sW := TK.same kA4 _ _ sW
        replace sT := TK.same kA4 _ _ sT
        replace sP := TK.same kA4 _ _ sP
        replace gW := NB.same gW kA4
        replace gR := NBs.same gR kA4
        replace gP := NB.same gP kA4
        replace gQ := NB.same gQ kA4
        replace f1 := Fd.same f1 kA4
        replace kk := Ch.trans kk (Ch.of_same kA4)
        replace dW := Dp.same kA4 _ _ dW
        replace gy := NX'.same gy kA4
        replace sA3 := TK.same kA4 _ _ sA3
        clear kA4
        repeat' (walk_at "jv")
        refine i_catG sA3 sA4 (by rw [List.length_append, List.length_take, List.length_drop, hrx, sizeLine_eq]; show _ + 1 + _ ≤ _; omega) fun A5 X53 kA5 sA5 => ?_
        replace sW := TK.same kA5 _ _ sW
        replace sT := TK.same kA5 _ _ sT
        replace sP := TK.same kA5 _ _ sP
        replace gW := NB.same gW kA5
        replace gR := NBs.same gR kA5
        replace gP := NB.same gP kA5
        replace gQ := NB.same gQ kA5
        replace f1 := Fd.same f1 kA5
        replace kk := Ch.trans kk (Ch.of_same kA5)
        replace dW := Dp.same kA5 _ _ dW
        replace gy := NX'.same gy kA5
        replace sA3 := TK.same kA5 _ _ sA3
        replace sA4 := TK.same kA5 _ _ sA4
        clear kA5
        clear sA3 sA4
        have gA5 : NX' K 7 150000 X53 a (.ref A5) := (NX'.mid sA5 ((gR.take j).mono (m' := 6) (n' := 6408)) (gy.mono (m' := 6) (n' := 100000)) ((gR.drop (j + 1)).mono (m' := 6) (n' := 6408))).mono
        clear sA5
        repeat' (walk_at "jv")
        intro PT nPT
        have dPT := f1.ne nPT
        have kPT := Same.upd_new (o := .tup ([.int (k : Int), .ref t2, .ref A5])) nPT
        have ePT : SqT K (upd X53 PT (.tup ([.int (k : Int), .ref t2, .ref A5]))) PT ([.int (k : Int), .ref t2, .ref A5]) := sq_tup upd_same
        generalize upd X53 PT (.tup ([.int (k : Int), .ref t2, .ref A5])) = X54 at *
        replace sW := TK.same kPT _ _ sW
        replace sT := TK.same kPT _ _ sT
        replace sP := TK.same kPT _ _ sP
        replace gW := NB.same gW kPT
        replace gR := NBs.same gR kPT
        replace gP := NB.same gP kPT
        replace gQ := NB.same gQ kPT
        replace f1 := Fd.same f1 kPT
        replace kk := Ch.trans kk (Ch.of_same kPT)
        replace dW := Dp.same kPT _ _ dW
        replace gy := NX'.same gy kPT
        replace gA5 := NX'.same gA5 kPT
        clear kPT nPT
        exact q _ _ ((nx_thd ePT (((nb_int (i := (k : Int)) (by omega) (by omega)).mono (m' := 7) (n' := 20))) (gW.mono (m' := 7) (n' := 340)) gA5).mono) (f1.mono (by omega)) kk
end
end
section
open L2 PySem PySem.Spec PyProof.Rows
abbrev s_law : Stmt := topS 50
theorem sc_law : FnScope ["_law_script", "_law_k", "_law_feed_here", "_law_hall_here", "_law_turn", "_law_thing", "_law_held", "_law_due"] ["_law_script"] (defScope s_law) := ⟨rfl, rfl, rfl, by decide +kernel, rfl, by decide +kernel, by decide +kernel⟩
def spLaw (K : PySem.W.Frag) : Sp := fun vs H Q _ => ∃ (a : Addr) (ns : List Int), vs = [.ref a] ∧ SqL K H a (ns.map V.int) ∧ ns.length ≤ 63 ∧ ∀ H', Q (.bl true) H'
theorem ok_hallD {k : Nat} {ps : List Str} {rs : List (Str × Str)} {ds : List PyData} (hH : IsHall k ps rs ds) : okD (hallD k ps rs ds) = true := by
  have W := hH.web
  have hk3 : k ≤ 3 := by rcases hH.two with e | e <;> omega
  have hk2 : 2 ≤ k := by rcases hH.two with e | e <;> omega
  have hr : ∀ d ∈ ds, Nz true 3 800 d := fun d hd => by
    obtain ⟨i, hi⟩ := List.mem_iff_getElem?.mp hd
    have hil : i < ps.length := by rw [← hH.len]; exact (List.getElem?_eq_some_iff.mp hi).1
    have hR := hH.rules i ps[i] d (List.getElem?_eq_getElem hil) hi
    have hm := List.getElem_mem hil
    have hf : k ^ ((nearL ps rs ps[i]).length + 1) ≤ 256 := Nat.le_trans (Nat.pow_le_pow_right (by omega) (near_lt W hm)) hH.few
    exact nz_rule hR hk3 (near_len W hm) hf fun z hz => W.names.2 z (near_ix W hm hz).1
  exact ((Nzs.cons ((nz_int (b := true) (i := (k : Int)) (by omega) (by omega)).mono (m' := 4) (by decide) (Nat.le_refl _)) (Nzs.cons ((nz_web (b := true) W).mono (m' := 4) (by decide) (Nat.le_refl _)) (Nzs.cons (nzs_of hr).tup .nil))).tup).ok
theorem sh_two : ShO (.list [.bool true, .bool true]) := sh_list (fun d hd => by
  rcases List.mem_cons.mp hd with rfl | hd
  · exact sml_bool true
  · obtain rfl := List.mem_singleton.mp hd
    exact sml_bool true) (by decide)
section
variable {base : Heap} {P : Program} {w : World} {K : PySem.W.Frag} {mg : Str → Option Value}
theorem ok_law {fL : Addr} {fdL : FuncData} (F : Fun K "law" "law" s_law fL fdL) (B : Bn mg) (C__law_feed : Cl P w K mg base 1 "_law_feed" ["_law_script", "_law_k"] (spFeed K)) (C__law_any_hall : Cl P w K mg base 6 "_law_any_hall" ["_law_feed_here"] (spAnyHG K))
    (C_is_hall : Cl P w K mg base 7 "is_hall" ["thing"] (spIsHallO K)) (K_is_hall : ClK P w K mg base 7 "is_hall" ["thing"] ["thing"] (spIsHallO K)) (C__law_is_hall : ClG P w K mg base 3 "_law_is_hall" ["_law_thing"] (spLHallO K)) (C__law_near_hall : Cl P w K mg base 4 "_law_near_hall" ["_law_feed_here", "_law_hall_here"] (spNearHall K)) : FnG P w K mg base 9 fL fdL ["_law_script"] (spLaw K) := by
  refine okG F sc_law (fun vs H Q E h => ?_) (fun cdv A outer s H vs Q E hgd hr h => ?_)
  · obtain ⟨a, ns, rfl, _⟩ := h
    rfl
  · obtain ⟨a, ns, rfl, ha, hl, q⟩ := h
    refine ⟨_, (pss_cons (ps_for PassesOwn.never rfl (pi_range1 rfl B.range_ (pa_cons pe_int pa_nil)) (pg_name (i := 1) sc_law.nd rfl (by first | exact Or.inl rfl | exact Or.inr rfl)) (pss_cons (ps_set (i := 2) sc_law.nd rfl (by first | exact Or.inl rfl | exact Or.inr rfl) (pe_c C__law_feed hr (pa_cons (pv 0) (pa_cons (pv 1) pa_nil))))
      (pss_cons (ps_set (i := 3) sc_law.nd rfl (by first | exact Or.inl rfl | exact Or.inr rfl) (pe_c C__law_any_hall hr (pa_cons (pv 2) pa_nil)))
      (pss_cons (ps_if (pt_cmpR op_ne (pe_callB (k_showO (K := K) hgd hr.units) rfl B.repr_ (by decide +kernel) (pa_cons (pe_lst (pa_cons (pe_c C_is_hall hr (pa_cons (pv 3) pa_nil)) (pa_cons (pe_ck K_is_hall hr (pk_cons (pv 3) pk_nil)) pa_nil))) pa_nil)) (pe_callB (k_showO (K := K) hgd hr.units) rfl B.repr_ (by decide +kernel) (pa_cons (pe_lst (pa_cons pe_bl (pa_cons pe_bl pa_nil))) pa_nil)) (nomark _)) (pss_one (ps_ret pe_bl)) pss_nil)
      (pss_one (ps_for PassesOwn.never rfl (pi_range1 rfl B.range_ (pa_cons pe_int pa_nil)) (pg_name (i := 4) sc_law.nd rfl (by first | exact Or.inl rfl | exact Or.inr rfl)) (pss_cons (ps_set (i := 5) sc_law.nd rfl (by first | exact Or.inl rfl | exact Or.inr rfl) (pe_c C__law_near_hall hr (pa_cons (pv 2) (pa_cons (pv 3) pa_nil))))
      (pss_cons (ps_par (i := 6) (j := 7) rfl sc_law.nd rfl rfl (by decide) rfl rfl (pa_cons (pe_callB (k_showY (K := K) hgd hr.units) rfl B.repr_ (by decide +kernel) (pa_cons (pv 5) pa_nil)) (pa_cons (pe_cG C__law_is_hall hgd hr (pa_cons (pv 5) pa_nil)) pa_nil)) (by rfl))
      (pss_one (ps_if (PW.pt (pw_or (pt_cmpR op_ne (pe_callB (k_reprB) rfl B.repr_ (by decide +kernel) (pa_cons (pe_c C_is_hall hr (pa_cons (pv 5) pa_nil)) pa_nil)) (pe_callB (k_reprB) rfl B.repr_ (by decide +kernel) (pa_cons (pv 7) pa_nil)) (nomark _)) (pw_or (pt_cmpR op_ne (pe_callB (k_reprB) rfl B.repr_ (by decide +kernel) (pa_cons (pe_ck K_is_hall hr (pk_cons (pv 5) pk_nil)) pa_nil)) (pe_callB (k_reprB) rfl B.repr_ (by decide +kernel) (pa_cons (pv 7) pa_nil)) (nomark _)) (pw_or1 (pt_cmpR op_ne (pe_callB (k_showY (K := K) hgd hr.units) rfl B.repr_ (by decide +kernel) (pa_cons (pv 5) pa_nil)) (pv 6) (nomark _)))))) (pss_one (ps_ret pe_bl)) pss_nil))))))))))
      (pss_one (ps_ret pe_bl))), ?_⟩
    repeat' (walk_at "jv")
    refine f_range (fun i σ H' => ∃ y1 y2 y3 y4 y5 y6 y7, σ = [some (.ref a), y1, y2, y3, y4, y5, y6, y7] ∧ SqL K H' a (ns.map V.int)) ⟨none, none, none, none, none, none, none, rfl, ha⟩ (fun i σ H0 hi h => ?_) (fun σ H0 h => ?_)
    · obtain ⟨y1, y2, y3, y4, y5, y6, y7, rfl, ha0⟩ := h
      have e0 : (0 : Int) + (i : Int) = (i : Int) := by omega
      rw [e0]
      repeat' (walk_at "jv")
      refine ⟨a, ns, (i : Int), rfl, ha0, hl, by omega, by omega, fun q1 H1 nq f1 s1 => ?_⟩
      have k1 : Ch q1 H0 H1 := Ch.of_same s1
      repeat' (walk_at "jv")
      refine ⟨q1, 0, rfl, f1, by omega, fun v k ps rs ds H2 hH hh f2 k2 => ?_⟩
      replace k1 := k1.trans k2
      clear k2 f1 s1 H1
      have iw := is_hallB hH
      have okw := ok_hallD hH
      have ow : ∀ H', HF K H' v k ps rs ds → Ob K H' q1 v (hallD k ps rs ds) := fun H' h => by
        obtain ⟨t, T, wv, rfl, sH, hw, dT, uT⟩ := id h
        exact Ob.of _ _ (hall_only uT) h.dp
      have dv := ow _ hh
      repeat' (walk_at "jv")
      refine ⟨q1, v, hallD k ps rs ds, rfl, dv, okw, fun H3 k3 => ?_⟩
      rw [iw]
      first | replace hh := HF.same hh k3 | replace hh := WF.same hh k3 | replace hh := FT.same hh k3 | replace hh := Fd.same hh k3 | replace hh := LsD.same hh k3 | replace hh := TK.same k3 _ _ hh | replace hh := KeysT.tk hh (TK.same k3) | replace hh := KeysU.tk hh (TK.same k3) | replace hh := KeysN.tk hh (TK.same k3) | replace hh := DayV.tk hh (TK.same k3) | replace hh := Dp.same k3 _ _ hh | replace hh := DpAll.same k3 _ _ hh | replace hh := k3 _ _ hh | replace hh := Ch.trans hh (Ch.of_same k3) | replace hh := Same.trans hh k3 | replace hh := stepsAt.same hh k3 | replace hh := DpT.same hh k3 | replace hh := LOr.same hh k3 | replace hh := Ob.same hh k3 | replace hh := Gds.same hh k3 | replace hh := Gd2.same hh k3 | replace hh := Ob2.same hh k3 | replace hh := NE.same hh k3 | replace hh := NT.same hh k3 | replace hh := NEs.same hh k3 | replace hh := NX.same hh k3 | replace hh := EMs.same hh k3 | replace hh := EOs.same hh k3 | replace hh := EO.same hh k3 | replace hh := GT.same hh k3 | replace hh := GTs.same hh k3 | replace hh := RB.same hh k3 | replace hh := RBs.same hh k3 | replace hh := RB2s.same hh k3 | replace hh := GR.same hh k3 | replace hh := GRs.same hh k3 | replace hh := NO.same hh k3 | replace hh := NOs.same hh k3 | replace hh := NZ.same hh k3 | replace hh := NB.same hh k3 | replace hh := NBs.same hh k3 | replace hh := NQ.same hh k3 | replace hh := NQs.same hh k3 | replace hh := NX'.same hh k3
      first | replace f2 := HF.same f2 k3 | replace f2 := WF.same f2 k3 | replace f2 := FT.same f2 k3 | replace f2 := Fd.same f2 k3 | replace f2 := LsD.same f2 k3 | replace f2 := TK.same k3 _ _ f2 | replace f2 := KeysT.tk f2 (TK.same k3) | replace f2 := KeysU.tk f2 (TK.same k3) | replace f2 := KeysN.tk f2 (TK.same k3) | replace f2 := DayV.tk f2 (TK.same k3) | replace f2 := Dp.same k3 _ _ f2 | replace f2 := DpAll.same k3 _ _ f2 | replace f2 := k3 _ _ f2 | replace f2 := Ch.trans f2 (Ch.of_same k3) | replace f2 := Same.trans f2 k3 | replace f2 := stepsAt.same f2 k3 | replace f2 := DpT.same f2 k3 | replace f2 := LOr.same f2 k3 | replace f2 := Ob.same f2 k3 | replace f2 := Gds.same f2 k3 | replace f2 := Gd2.same f2 k3 | replace f2 := Ob2.same f2 k3 | replace f2 := NE.same f2 k3 | replace f2 := NT.same f2 k3 | replace f2 := NEs.same f2 k3 | replace f2 := NX.same f2 k3 | replace f2 := EMs.same f2 k3 | replace f2 := EOs.same f2 k3 | replace f2 := EO.same f2 k3 | replace f2 := GT.same f2 k3 | replace f2 := GTs.same f2 k3 | replace f2 := RB.same f2 k3 | replace f2 := RBs.same f2 k3 | replace f2 := RB2s.same f2 k3 | replace f2 := GR.same f2 k3 | replace f2 := GRs.same f2 k3 | replace f2 := NO.same f2 k3 | replace f2 := NOs.same f2 k3 | replace f2 := NZ.same f2 k3 | replace f2 := NB.same f2 k3 | replace f2 := NBs.same f2 k3 | replace f2 := NQ.same f2 k3 | replace f2 := NQs.same f2 k3 | replace f2 := NX'.same f2 k3
      first | replace k1 := HF.same k1 k3 | replace k1 := WF.same k1 k3 | replace k1 := FT.same k1 k3 | replace k1 := Fd.same k1 k3 | replace k1 := LsD.same k1 k3 | replace k1 := TK.same k3 _ _ k1 | replace k1 := KeysT.tk k1 (TK.same k3) | replace k1 := KeysU.tk k1 (TK.same k3) | replace k1 := KeysN.tk k1 (TK.same k3) | replace k1 := DayV.tk k1 (TK.same k3) | replace k1 := Dp.same k3 _ _ k1 | replace k1 := DpAll.same k3 _ _ k1 | replace k1 := k3 _ _ k1 | replace k1 := Ch.trans k1 (Ch.of_same k3) | replace k1 := Same.trans k1 k3 | replace k1 := stepsAt.same k1 k3 | replace k1 := DpT.same k1 k3 | replace k1 := LOr.same k1 k3 | replace k1 := Ob.same k1 k3 | replace k1 := Gds.same k1 k3 | replace k1 := Gd2.same k1 k3 | replace k1 := Ob2.same k1 k3 | replace k1 := NE.same k1 k3 | replace k1 := NT.same k1 k3 | replace k1 := NEs.same k1 k3 | replace k1 := NX.same k1 k3 | replace k1 := EMs.same k1 k3 | replace k1 := EOs.same k1 k3 | replace k1 := EO.same k1 k3 | replace k1 := GT.same k1 k3 | replace k1 := GTs.same k1 k3 | replace k1 := RB.same k1 k3 | replace k1 := RBs.same k1 k3 | replace k1 := RB2s.same k1 k3 | replace k1 := GR.same k1 k3 | replace k1 := GRs.same k1 k3 | replace k1 := NO.same k1 k3 | replace k1 := NOs.same k1 k3 | replace k1 := NZ.same k1 k3 | replace k1 := NB.same k1 k3 | replace k1 := NBs.same k1 k3 | replace k1 := NQ.same k1 k3 | replace k1 := NQs.same k1 k3 | replace k1 := NX'.same k1 k3
      clear k3 dv
      have dv := ow _ hh
      repeat' (walk_at "jv")
      refine i_ck ?_
      repeat' (walk_at "jv")
      refine ⟨q1, v, hallD k ps rs ds, rfl, dv, okw, fun H4 k4 => ?_⟩
      rw [iw]
      first | replace hh := HF.same hh k4 | replace hh := WF.same hh k4 | replace hh := FT.same hh k4 | replace hh := Fd.same hh k4 | replace hh := LsD.same hh k4 | replace hh := TK.same k4 _ _ hh | replace hh := KeysT.tk hh (TK.same k4) | replace hh := KeysU.tk hh (TK.same k4) | replace hh := KeysN.tk hh (TK.same k4) | replace hh := DayV.tk hh (TK.same k4) | replace hh := Dp.same k4 _ _ hh | replace hh := DpAll.same k4 _ _ hh | replace hh := k4 _ _ hh | replace hh := Ch.trans hh (Ch.of_same k4) | replace hh := Same.trans hh k4 | replace hh := stepsAt.same hh k4 | replace hh := DpT.same hh k4 | replace hh := LOr.same hh k4 | replace hh := Ob.same hh k4 | replace hh := Gds.same hh k4 | replace hh := Gd2.same hh k4 | replace hh := Ob2.same hh k4 | replace hh := NE.same hh k4 | replace hh := NT.same hh k4 | replace hh := NEs.same hh k4 | replace hh := NX.same hh k4 | replace hh := EMs.same hh k4 | replace hh := EOs.same hh k4 | replace hh := EO.same hh k4 | replace hh := GT.same hh k4 | replace hh := GTs.same hh k4 | replace hh := RB.same hh k4 | replace hh := RBs.same hh k4 | replace hh := RB2s.same hh k4 | replace hh := GR.same hh k4 | replace hh := GRs.same hh k4 | replace hh := NO.same hh k4 | replace hh := NOs.same hh k4 | replace hh := NZ.same hh k4 | replace hh := NB.same hh k4 | replace hh := NBs.same hh k4 | replace hh := NQ.same hh k4 | replace hh := NQs.same hh k4 | replace hh := NX'.same hh k4
      first | replace f2 := HF.same f2 k4 | replace f2 := WF.same f2 k4 | replace f2 := FT.same f2 k4 | replace f2 := Fd.same f2 k4 | replace f2 := LsD.same f2 k4 | replace f2 := TK.same k4 _ _ f2 | replace f2 := KeysT.tk f2 (TK.same k4) | replace f2 := KeysU.tk f2 (TK.same k4) | replace f2 := KeysN.tk f2 (TK.same k4) | replace f2 := DayV.tk f2 (TK.same k4) | replace f2 := Dp.same k4 _ _ f2 | replace f2 := DpAll.same k4 _ _ f2 | replace f2 := k4 _ _ f2 | replace f2 := Ch.trans f2 (Ch.of_same k4) | replace f2 := Same.trans f2 k4 | replace f2 := stepsAt.same f2 k4 | replace f2 := DpT.same f2 k4 | replace f2 := LOr.same f2 k4 | replace f2 := Ob.same f2 k4 | replace f2 := Gds.same f2 k4 | replace f2 := Gd2.same f2 k4 | replace f2 := Ob2.same f2 k4 | replace f2 := NE.same f2 k4 | replace f2 := NT.same f2 k4 | replace f2 := NEs.same f2 k4 | replace f2 := NX.same f2 k4 | replace f2 := EMs.same f2 k4 | replace f2 := EOs.same f2 k4 | replace f2 := EO.same f2 k4 | replace f2 := GT.same f2 k4 | replace f2 := GTs.same f2 k4 | replace f2 := RB.same f2 k4 | replace f2 := RBs.same f2 k4 | replace f2 := RB2s.same f2 k4 | replace f2 := GR.same f2 k4 | replace f2 := GRs.same f2 k4 | replace f2 := NO.same f2 k4 | replace f2 := NOs.same f2 k4 | replace f2 := NZ.same f2 k4 | replace f2 := NB.same f2 k4 | replace f2 := NBs.same f2 k4 | replace f2 := NQ.same f2 k4 | replace f2 := NQs.same f2 k4 | replace f2 := NX'.same f2 k4
      first | replace k1 := HF.same k1 k4 | replace k1 := WF.same k1 k4 | replace k1 := FT.same k1 k4 | replace k1 := Fd.same k1 k4 | replace k1 := LsD.same k1 k4 | replace k1 := TK.same k4 _ _ k1 | replace k1 := KeysT.tk k1 (TK.same k4) | replace k1 := KeysU.tk k1 (TK.same k4) | replace k1 := KeysN.tk k1 (TK.same k4) | replace k1 := DayV.tk k1 (TK.same k4) | replace k1 := Dp.same k4 _ _ k1 | replace k1 := DpAll.same k4 _ _ k1 | replace k1 := k4 _ _ k1 | replace k1 := Ch.trans k1 (Ch.of_same k4) | replace k1 := Same.trans k1 k4 | replace k1 := stepsAt.same k1 k4 | replace k1 := DpT.same k1 k4 | replace k1 := LOr.same k1 k4 | replace k1 := Ob.same k1 k4 | replace k1 := Gds.same k1 k4 | replace k1 := Gd2.same k1 k4 | replace k1 := Ob2.same k1 k4 | replace k1 := NE.same k1 k4 | replace k1 := NT.same k1 k4 | replace k1 := NEs.same k1 k4 | replace k1 := NX.same k1 k4 | replace k1 := EMs.same k1 k4 | replace k1 := EOs.same k1 k4 | replace k1 := EO.same k1 k4 | replace k1 := GT.same k1 k4 | replace k1 := GTs.same k1 k4 | replace k1 := RB.same k1 k4 | replace k1 := RBs.same k1 k4 | replace k1 := RB2s.same k1 k4 | replace k1 := GR.same k1 k4 | replace k1 := GRs.same k1 k4 | replace k1 := NO.same k1 k4 | replace k1 := NOs.same k1 k4 | replace k1 := NZ.same k1 k4 | replace k1 := NB.same k1 k4 | replace k1 := NBs.same k1 k4 | replace k1 := NQ.same k1 k4 | replace k1 := NQs.same k1 k4 | replace k1 := NX'.same k1 k4
      clear k4 dv
      repeat' (walk_at "jv")
      intro LA nLA
      have dLA := f2.ne nLA
      have kLA := Same.upd_new (o := .lst [.bl true, .bl true]) nLA
      have eLA : (upd H4 LA (.lst [.bl true, .bl true])) LA = some (.lst [.bl true, .bl true]) := upd_same
      generalize upd H4 LA (.lst [.bl true, .bl true]) = H5 at *
      first | replace hh := HF.same hh kLA | replace hh := WF.same hh kLA | replace hh := FT.same hh kLA | replace hh := Fd.same hh kLA | replace hh := LsD.same hh kLA | replace hh := TK.same kLA _ _ hh | replace hh := KeysT.tk hh (TK.same kLA) | replace hh := KeysU.tk hh (TK.same kLA) | replace hh := KeysN.tk hh (TK.same kLA) | replace hh := DayV.tk hh (TK.same kLA) | replace hh := Dp.same kLA _ _ hh | replace hh := DpAll.same kLA _ _ hh | replace hh := kLA _ _ hh | replace hh := Ch.trans hh (Ch.of_same kLA) | replace hh := Same.trans hh kLA | replace hh := stepsAt.same hh kLA | replace hh := DpT.same hh kLA | replace hh := LOr.same hh kLA | replace hh := Ob.same hh kLA | replace hh := Gds.same hh kLA | replace hh := Gd2.same hh kLA | replace hh := Ob2.same hh kLA | replace hh := NE.same hh kLA | replace hh := NT.same hh kLA | replace hh := NEs.same hh kLA | replace hh := NX.same hh kLA | replace hh := EMs.same hh kLA | replace hh := EOs.same hh kLA | replace hh := EO.same hh kLA | replace hh := GT.same hh kLA | replace hh := GTs.same hh kLA | replace hh := RB.same hh kLA | replace hh := RBs.same hh kLA | replace hh := RB2s.same hh kLA | replace hh := GR.same hh kLA | replace hh := GRs.same hh kLA | replace hh := NO.same hh kLA | replace hh := NOs.same hh kLA | replace hh := NZ.same hh kLA | replace hh := NB.same hh kLA | replace hh := NBs.same hh kLA | replace hh := NQ.same hh kLA | replace hh := NQs.same hh kLA | replace hh := NX'.same hh kLA
      first | replace f2 := HF.same f2 kLA | replace f2 := WF.same f2 kLA | replace f2 := FT.same f2 kLA | replace f2 := Fd.same f2 kLA | replace f2 := LsD.same f2 kLA | replace f2 := TK.same kLA _ _ f2 | replace f2 := KeysT.tk f2 (TK.same kLA) | replace f2 := KeysU.tk f2 (TK.same kLA) | replace f2 := KeysN.tk f2 (TK.same kLA) | replace f2 := DayV.tk f2 (TK.same kLA) | replace f2 := Dp.same kLA _ _ f2 | replace f2 := DpAll.same kLA _ _ f2 | replace f2 := kLA _ _ f2 | replace f2 := Ch.trans f2 (Ch.of_same kLA) | replace f2 := Same.trans f2 kLA | replace f2 := stepsAt.same f2 kLA | replace f2 := DpT.same f2 kLA | replace f2 := LOr.same f2 kLA | replace f2 := Ob.same f2 kLA | replace f2 := Gds.same f2 kLA | replace f2 := Gd2.same f2 kLA | replace f2 := Ob2.same f2 kLA | replace f2 := NE.same f2 kLA | replace f2 := NT.same f2 kLA | replace f2 := NEs.same f2 kLA | replace f2 := NX.same f2 kLA | replace f2 := EMs.same f2 kLA | replace f2 := EOs.same f2 kLA | replace f2 := EO.same f2 kLA | replace f2 := GT.same f2 kLA | replace f2 := GTs.same f2 kLA | replace f2 := RB.same f2 kLA | replace f2 := RBs.same f2 kLA | replace f2 := RB2s.same f2 kLA | replace f2 := GR.same f2 kLA | replace f2 := GRs.same f2 kLA | replace f2 := NO.same f2 kLA | replace f2 := NOs.same f2 kLA | replace f2 := NZ.same f2 kLA | replace f2 := NB.same f2 kLA | replace f2 := NBs.same f2 kLA | replace f2 := NQ.same f2 kLA | replace f2 := NQs.same f2 kLA | replace f2 := NX'.same f2 kLA
      first | replace k1 := HF.same k1 kLA | replace k1 := WF.same k1 kLA | replace k1 := FT.same k1 kLA | replace k1 := Fd.same k1 kLA | replace k1 := LsD.same k1 kLA | replace k1 := TK.same kLA _ _ k1 | replace k1 := KeysT.tk k1 (TK.same kLA) | replace k1 := KeysU.tk k1 (TK.same kLA) | replace k1 := KeysN.tk k1 (TK.same kLA) | replace k1 := DayV.tk k1 (TK.same kLA) | replace k1 := Dp.same kLA _ _ k1 | replace k1 := DpAll.same kLA _ _ k1 | replace k1 := kLA _ _ k1 | replace k1 := Ch.trans k1 (Ch.of_same kLA) | replace k1 := Same.trans k1 kLA | replace k1 := stepsAt.same k1 kLA | replace k1 := DpT.same k1 kLA | replace k1 := LOr.same k1 kLA | replace k1 := Ob.same k1 kLA | replace k1 := Gds.same k1 kLA | replace k1 := Gd2.same k1 kLA | replace k1 := Ob2.same k1 kLA | replace k1 := NE.same k1 kLA | replace k1 := NT.same k1 kLA | replace k1 := NEs.same k1 kLA | replace k1 := NX.same k1 kLA | replace k1 := EMs.same k1 kLA | replace k1 := EOs.same k1 kLA | replace k1 := EO.same k1 kLA | replace k1 := GT.same k1 kLA | replace k1 := GTs.same k1 kLA | replace k1 := RB.same k1 kLA | replace k1 := RBs.same k1 kLA | replace k1 := RB2s.same k1 kLA | replace k1 := GR.same k1 kLA | replace k1 := GRs.same k1 kLA | replace k1 := NO.same k1 kLA | replace k1 := NOs.same k1 kLA | replace k1 := NZ.same k1 kLA | replace k1 := NB.same k1 kLA | replace k1 := NBs.same k1 kLA | replace k1 := NQ.same k1 kLA | replace k1 := NQs.same k1 kLA | replace k1 := NX'.same k1 kLA
      clear kLA nLA
      repeat' (walk_at "jv")
      refine ⟨.ref LA, _, q1, rfl, .lst eLA dLA (.cons (.bl true) (.cons (.bl true) .nil)), sh_two, ?_⟩
      repeat' (walk_at "jv")
      intro LB nLB
      have dLB := f2.ne nLB
      have kLB := Same.upd_new (o := .lst [.bl true, .bl true]) nLB
      have eLB : (upd H5 LB (.lst [.bl true, .bl true])) LB = some (.lst [.bl true, .bl true]) := upd_same
      generalize upd H5 LB (.lst [.bl true, .bl true]) = H6 at *
      first | replace hh := HF.same hh kLB | replace hh := WF.same hh kLB | replace hh := FT.same hh kLB | replace hh := Fd.same hh kLB | replace hh := LsD.same hh kLB | replace hh := TK.same kLB _ _ hh | replace hh := KeysT.tk hh (TK.same kLB) | replace hh := KeysU.tk hh (TK.same kLB) | replace hh := KeysN.tk hh (TK.same kLB) | replace hh := DayV.tk hh (TK.same kLB) | replace hh := Dp.same kLB _ _ hh | replace hh := DpAll.same kLB _ _ hh | replace hh := kLB _ _ hh | replace hh := Ch.trans hh (Ch.of_same kLB) | replace hh := Same.trans hh kLB | replace hh := stepsAt.same hh kLB | replace hh := DpT.same hh kLB | replace hh := LOr.same hh kLB | replace hh := Ob.same hh kLB | replace hh := Gds.same hh kLB | replace hh := Gd2.same hh kLB | replace hh := Ob2.same hh kLB | replace hh := NE.same hh kLB | replace hh := NT.same hh kLB | replace hh := NEs.same hh kLB | replace hh := NX.same hh kLB | replace hh := EMs.same hh kLB | replace hh := EOs.same hh kLB | replace hh := EO.same hh kLB | replace hh := GT.same hh kLB | replace hh := GTs.same hh kLB | replace hh := RB.same hh kLB | replace hh := RBs.same hh kLB | replace hh := RB2s.same hh kLB | replace hh := GR.same hh kLB | replace hh := GRs.same hh kLB | replace hh := NO.same hh kLB | replace hh := NOs.same hh kLB | replace hh := NZ.same hh kLB | replace hh := NB.same hh kLB | replace hh := NBs.same hh kLB | replace hh := NQ.same hh kLB | replace hh := NQs.same hh kLB | replace hh := NX'.same hh kLB
      first | replace f2 := HF.same f2 kLB | replace f2 := WF.same f2 kLB | replace f2 := FT.same f2 kLB | replace f2 := Fd.same f2 kLB | replace f2 := LsD.same f2 kLB | replace f2 := TK.same kLB _ _ f2 | replace f2 := KeysT.tk f2 (TK.same kLB) | replace f2 := KeysU.tk f2 (TK.same kLB) | replace f2 := KeysN.tk f2 (TK.same kLB) | replace f2 := DayV.tk f2 (TK.same kLB) | replace f2 := Dp.same kLB _ _ f2 | replace f2 := DpAll.same kLB _ _ f2 | replace f2 := kLB _ _ f2 | replace f2 := Ch.trans f2 (Ch.of_same kLB) | replace f2 := Same.trans f2 kLB | replace f2 := stepsAt.same f2 kLB | replace f2 := DpT.same f2 kLB | replace f2 := LOr.same f2 kLB | replace f2 := Ob.same f2 kLB | replace f2 := Gds.same f2 kLB | replace f2 := Gd2.same f2 kLB | replace f2 := Ob2.same f2 kLB | replace f2 := NE.same f2 kLB | replace f2 := NT.same f2 kLB | replace f2 := NEs.same f2 kLB | replace f2 := NX.same f2 kLB | replace f2 := EMs.same f2 kLB | replace f2 := EOs.same f2 kLB | replace f2 := EO.same f2 kLB | replace f2 := GT.same f2 kLB | replace f2 := GTs.same f2 kLB | replace f2 := RB.same f2 kLB | replace f2 := RBs.same f2 kLB | replace f2 := RB2s.same f2 kLB | replace f2 := GR.same f2 kLB | replace f2 := GRs.same f2 kLB | replace f2 := NO.same f2 kLB | replace f2 := NOs.same f2 kLB | replace f2 := NZ.same f2 kLB | replace f2 := NB.same f2 kLB | replace f2 := NBs.same f2 kLB | replace f2 := NQ.same f2 kLB | replace f2 := NQs.same f2 kLB | replace f2 := NX'.same f2 kLB
      first | replace k1 := HF.same k1 kLB | replace k1 := WF.same k1 kLB | replace k1 := FT.same k1 kLB | replace k1 := Fd.same k1 kLB | replace k1 := LsD.same k1 kLB | replace k1 := TK.same kLB _ _ k1 | replace k1 := KeysT.tk k1 (TK.same kLB) | replace k1 := KeysU.tk k1 (TK.same kLB) | replace k1 := KeysN.tk k1 (TK.same kLB) | replace k1 := DayV.tk k1 (TK.same kLB) | replace k1 := Dp.same kLB _ _ k1 | replace k1 := DpAll.same kLB _ _ k1 | replace k1 := kLB _ _ k1 | replace k1 := Ch.trans k1 (Ch.of_same kLB) | replace k1 := Same.trans k1 kLB | replace k1 := stepsAt.same k1 kLB | replace k1 := DpT.same k1 kLB | replace k1 := LOr.same k1 kLB | replace k1 := Ob.same k1 kLB | replace k1 := Gds.same k1 kLB | replace k1 := Gd2.same k1 kLB | replace k1 := Ob2.same k1 kLB | replace k1 := NE.same k1 kLB | replace k1 := NT.same k1 kLB | replace k1 := NEs.same k1 kLB | replace k1 := NX.same k1 kLB | replace k1 := EMs.same k1 kLB | replace k1 := EOs.same k1 kLB | replace k1 := EO.same k1 kLB | replace k1 := GT.same k1 kLB | replace k1 := GTs.same k1 kLB | replace k1 := RB.same k1 kLB | replace k1 := RBs.same k1 kLB | replace k1 := RB2s.same k1 kLB | replace k1 := GR.same k1 kLB | replace k1 := GRs.same k1 kLB | replace k1 := NO.same k1 kLB | replace k1 := NOs.same k1 kLB | replace k1 := NZ.same k1 kLB | replace k1 := NB.same k1 kLB | replace k1 := NBs.same k1 kLB | replace k1 := NQ.same k1 kLB | replace k1 := NQs.same k1 kLB | replace k1 := NX'.same k1 kLB
      clear kLB nLB eLA
      repeat' (walk_at "jv")
      refine ⟨.ref LB, _, q1, rfl, .lst eLB dLB (.cons (.bl true) (.cons (.bl true) .nil)), sh_two, ?_⟩
      repeat' (walk_at "jv")
      · rename_i hne
        exact absurd rfl hne
      clear eLB
      refine f_range (fun j σ H' => ∃ y4 y5 y6 y7, σ = [some (.ref a), some (.int i), some (.ref q1), some v, y4, y5, y6, y7] ∧ HF K H' v k ps rs ds ∧ Fd H' q1 (0 + 2000000000 + 3000 * j) ∧ Ch q1 H0 H') ⟨_, _, _, _, rfl, hh, f2.mono (by omega), k1⟩ (fun j σ H7 hj h => ?_) (fun σ H7 h => ?_)
      · clear hh f2 k1
        obtain ⟨y4, y5, y6, y7, rfl, hh, f2, k1⟩ := h
        repeat' (walk_at "jv")
        refine ⟨q1, v, _, k, ps, rs, ds, rfl, f2, by omega, hh, hH, fun y H8 nx f3 k3 => ?_⟩
        first | replace hh := HF.ch hh k3 f2 | replace hh := WF.ch hh k3 f2 | replace hh := FT.ch hh k3 f2 | replace hh := TK.ch k3 f2 _ _ hh | replace hh := KeysT.tk hh (TK.ch k3 f2) | replace hh := DayV.tk hh (TK.ch k3 f2) | replace hh := KeysU.tk hh (TK.ch k3 f2) | replace hh := KeysN.tk hh (TK.ch k3 f2) | replace hh := Ch.trans hh k3 | replace hh := LsD.ch hh k3 f2 (by assumption) | replace hh := DpT.ch hh k3 f2 | replace hh := Dp.tk (TK.ch k3 f2) _ _ (web_only _ _) hh | replace hh := Dp.tk (TK.ch k3 f2) _ _ (roads_only _) hh | replace hh := LOr.ch hh k3 f2 (by assumption) | replace hh := Ob.ch hh k3 f2 | replace hh := Gds.ch hh k3 f2 | replace hh := Gd2.ch hh k3 f2 | replace hh := Ob2.ch hh k3 f2 | replace hh := NE.ch hh k3 f2 | replace hh := NT.ch hh k3 f2 | replace hh := NEs.ch hh k3 f2 | replace hh := EMs.ch hh k3 f2 | replace hh := EOs.ch hh k3 f2 | replace hh := EO.ch hh k3 f2 | replace hh := GT.ch hh k3 f2 | replace hh := GTs.ch hh k3 f2 | replace hh := RB.ch hh k3 f2 | replace hh := RBs.ch hh k3 f2 | replace hh := RB2s.ch hh k3 f2 | replace hh := GR.ch hh k3 f2 | replace hh := GRs.ch hh k3 f2 | replace hh := NO.ch hh k3 f2 | replace hh := NOs.ch hh k3 f2 | replace hh := NZ.ch hh k3 f2 | replace hh := NB.ch hh k3 f2 | replace hh := NBs.ch hh k3 f2 | replace hh := NQ.ch hh k3 f2 | replace hh := NQs.ch hh k3 f2 | replace hh := NX'.ch hh k3 f2 | replace hh := DpAll.tk (TK.ch k3 f2) _ _ (roads_only _) hh | replace hh := k3 _ _ (by assumption) hh
        first | replace k1 := HF.ch k1 k3 f2 | replace k1 := WF.ch k1 k3 f2 | replace k1 := FT.ch k1 k3 f2 | replace k1 := TK.ch k3 f2 _ _ k1 | replace k1 := KeysT.tk k1 (TK.ch k3 f2) | replace k1 := DayV.tk k1 (TK.ch k3 f2) | replace k1 := KeysU.tk k1 (TK.ch k3 f2) | replace k1 := KeysN.tk k1 (TK.ch k3 f2) | replace k1 := Ch.trans k1 k3 | replace k1 := LsD.ch k1 k3 f2 (by assumption) | replace k1 := DpT.ch k1 k3 f2 | replace k1 := Dp.tk (TK.ch k3 f2) _ _ (web_only _ _) k1 | replace k1 := Dp.tk (TK.ch k3 f2) _ _ (roads_only _) k1 | replace k1 := LOr.ch k1 k3 f2 (by assumption) | replace k1 := Ob.ch k1 k3 f2 | replace k1 := Gds.ch k1 k3 f2 | replace k1 := Gd2.ch k1 k3 f2 | replace k1 := Ob2.ch k1 k3 f2 | replace k1 := NE.ch k1 k3 f2 | replace k1 := NT.ch k1 k3 f2 | replace k1 := NEs.ch k1 k3 f2 | replace k1 := EMs.ch k1 k3 f2 | replace k1 := EOs.ch k1 k3 f2 | replace k1 := EO.ch k1 k3 f2 | replace k1 := GT.ch k1 k3 f2 | replace k1 := GTs.ch k1 k3 f2 | replace k1 := RB.ch k1 k3 f2 | replace k1 := RBs.ch k1 k3 f2 | replace k1 := RB2s.ch k1 k3 f2 | replace k1 := GR.ch k1 k3 f2 | replace k1 := GRs.ch k1 k3 f2 | replace k1 := NO.ch k1 k3 f2 | replace k1 := NOs.ch k1 k3 f2 | replace k1 := NZ.ch k1 k3 f2 | replace k1 := NB.ch k1 k3 f2 | replace k1 := NBs.ch k1 k3 f2 | replace k1 := NQ.ch k1 k3 f2 | replace k1 := NQs.ch k1 k3 f2 | replace k1 := NX'.ch k1 k3 f2 | replace k1 := DpAll.tk (TK.ch k3 f2) _ _ (roads_only _) k1 | replace k1 := k3 _ _ (by assumption) k1
        clear f2 k3 H7
        obtain ⟨b, d, oy, nz⟩ := nx
        have sh5 := nz.all (by decide) (Nat.le_refl _) 5
        have sh := sh5.top
        have ok := nz.ok
        clear nz
        repeat' (walk_at "jv")
        refine ⟨y, d, q1, rfl, oy, sh, ?_⟩
        repeat' (walk_at "jv")
        refine ⟨q1, y, d, rfl, oy, ok, sh5, fun H9 k9 => ?_⟩
        first | replace hh := HF.same hh k9 | replace hh := WF.same hh k9 | replace hh := FT.same hh k9 | replace hh := Fd.same hh k9 | replace hh := LsD.same hh k9 | replace hh := TK.same k9 _ _ hh | replace hh := KeysT.tk hh (TK.same k9) | replace hh := KeysU.tk hh (TK.same k9) | replace hh := KeysN.tk hh (TK.same k9) | replace hh := DayV.tk hh (TK.same k9) | replace hh := Dp.same k9 _ _ hh | replace hh := DpAll.same k9 _ _ hh | replace hh := k9 _ _ hh | replace hh := Ch.trans hh (Ch.of_same k9) | replace hh := Same.trans hh k9 | replace hh := stepsAt.same hh k9 | replace hh := DpT.same hh k9 | replace hh := LOr.same hh k9 | replace hh := Ob.same hh k9 | replace hh := Gds.same hh k9 | replace hh := Gd2.same hh k9 | replace hh := Ob2.same hh k9 | replace hh := NE.same hh k9 | replace hh := NT.same hh k9 | replace hh := NEs.same hh k9 | replace hh := NX.same hh k9 | replace hh := EMs.same hh k9 | replace hh := EOs.same hh k9 | replace hh := EO.same hh k9 | replace hh := GT.same hh k9 | replace hh := GTs.same hh k9 | replace hh := RB.same hh k9 | replace hh := RBs.same hh k9 | replace hh := RB2s.same hh k9 | replace hh := GR.same hh k9 | replace hh := GRs.same hh k9 | replace hh := NO.same hh k9 | replace hh := NOs.same hh k9 | replace hh := NZ.same hh k9 | replace hh := NB.same hh k9 | replace hh := NBs.same hh k9 | replace hh := NQ.same hh k9 | replace hh := NQs.same hh k9 | replace hh := NX'.same hh k9
        first | replace f3 := HF.same f3 k9 | replace f3 := WF.same f3 k9 | replace f3 := FT.same f3 k9 | replace f3 := Fd.same f3 k9 | replace f3 := LsD.same f3 k9 | replace f3 := TK.same k9 _ _ f3 | replace f3 := KeysT.tk f3 (TK.same k9) | replace f3 := KeysU.tk f3 (TK.same k9) | replace f3 := KeysN.tk f3 (TK.same k9) | replace f3 := DayV.tk f3 (TK.same k9) | replace f3 := Dp.same k9 _ _ f3 | replace f3 := DpAll.same k9 _ _ f3 | replace f3 := k9 _ _ f3 | replace f3 := Ch.trans f3 (Ch.of_same k9) | replace f3 := Same.trans f3 k9 | replace f3 := stepsAt.same f3 k9 | replace f3 := DpT.same f3 k9 | replace f3 := LOr.same f3 k9 | replace f3 := Ob.same f3 k9 | replace f3 := Gds.same f3 k9 | replace f3 := Gd2.same f3 k9 | replace f3 := Ob2.same f3 k9 | replace f3 := NE.same f3 k9 | replace f3 := NT.same f3 k9 | replace f3 := NEs.same f3 k9 | replace f3 := NX.same f3 k9 | replace f3 := EMs.same f3 k9 | replace f3 := EOs.same f3 k9 | replace f3 := EO.same f3 k9 | replace f3 := GT.same f3 k9 | replace f3 := GTs.same f3 k9 | replace f3 := RB.same f3 k9 | replace f3 := RBs.same f3 k9 | replace f3 := RB2s.same f3 k9 | replace f3 := GR.same f3 k9 | replace f3 := GRs.same f3 k9 | replace f3 := NO.same f3 k9 | replace f3 := NOs.same f3 k9 | replace f3 := NZ.same f3 k9 | replace f3 := NB.same f3 k9 | replace f3 := NBs.same f3 k9 | replace f3 := NQ.same f3 k9 | replace f3 := NQs.same f3 k9 | replace f3 := NX'.same f3 k9
        first | replace k1 := HF.same k1 k9 | replace k1 := WF.same k1 k9 | replace k1 := FT.same k1 k9 | replace k1 := Fd.same k1 k9 | replace k1 := LsD.same k1 k9 | replace k1 := TK.same k9 _ _ k1 | replace k1 := KeysT.tk k1 (TK.same k9) | replace k1 := KeysU.tk k1 (TK.same k9) | replace k1 := KeysN.tk k1 (TK.same k9) | replace k1 := DayV.tk k1 (TK.same k9) | replace k1 := Dp.same k9 _ _ k1 | replace k1 := DpAll.same k9 _ _ k1 | replace k1 := k9 _ _ k1 | replace k1 := Ch.trans k1 (Ch.of_same k9) | replace k1 := Same.trans k1 k9 | replace k1 := stepsAt.same k1 k9 | replace k1 := DpT.same k1 k9 | replace k1 := LOr.same k1 k9 | replace k1 := Ob.same k1 k9 | replace k1 := Gds.same k1 k9 | replace k1 := Gd2.same k1 k9 | replace k1 := Ob2.same k1 k9 | replace k1 := NE.same k1 k9 | replace k1 := NT.same k1 k9 | replace k1 := NEs.same k1 k9 | replace k1 := NX.same k1 k9 | replace k1 := EMs.same k1 k9 | replace k1 := EOs.same k1 k9 | replace k1 := EO.same k1 k9 | replace k1 := GT.same k1 k9 | replace k1 := GTs.same k1 k9 | replace k1 := RB.same k1 k9 | replace k1 := RBs.same k1 k9 | replace k1 := RB2s.same k1 k9 | replace k1 := GR.same k1 k9 | replace k1 := GRs.same k1 k9 | replace k1 := NO.same k1 k9 | replace k1 := NOs.same k1 k9 | replace k1 := NZ.same k1 k9 | replace k1 := NB.same k1 k9 | replace k1 := NBs.same k1 k9 | replace k1 := NQ.same k1 k9 | replace k1 := NQs.same k1 k9 | replace k1 := NX'.same k1 k9
        first | replace oy := HF.same oy k9 | replace oy := WF.same oy k9 | replace oy := FT.same oy k9 | replace oy := Fd.same oy k9 | replace oy := LsD.same oy k9 | replace oy := TK.same k9 _ _ oy | replace oy := KeysT.tk oy (TK.same k9) | replace oy := KeysU.tk oy (TK.same k9) | replace oy := KeysN.tk oy (TK.same k9) | replace oy := DayV.tk oy (TK.same k9) | replace oy := Dp.same k9 _ _ oy | replace oy := DpAll.same k9 _ _ oy | replace oy := k9 _ _ oy | replace oy := Ch.trans oy (Ch.of_same k9) | replace oy := Same.trans oy k9 | replace oy := stepsAt.same oy k9 | replace oy := DpT.same oy k9 | replace oy := LOr.same oy k9 | replace oy := Ob.same oy k9 | replace oy := Gds.same oy k9 | replace oy := Gd2.same oy k9 | replace oy := Ob2.same oy k9 | replace oy := NE.same oy k9 | replace oy := NT.same oy k9 | replace oy := NEs.same oy k9 | replace oy := NX.same oy k9 | replace oy := EMs.same oy k9 | replace oy := EOs.same oy k9 | replace oy := EO.same oy k9 | replace oy := GT.same oy k9 | replace oy := GTs.same oy k9 | replace oy := RB.same oy k9 | replace oy := RBs.same oy k9 | replace oy := RB2s.same oy k9 | replace oy := GR.same oy k9 | replace oy := GRs.same oy k9 | replace oy := NO.same oy k9 | replace oy := NOs.same oy k9 | replace oy := NZ.same oy k9 | replace oy := NB.same oy k9 | replace oy := NBs.same oy k9 | replace oy := NQ.same oy k9 | replace oy := NQs.same oy k9 | replace oy := NX'.same oy k9
        clear k9
        repeat' (walk_at "jv")
        refine ⟨q1, y, d, rfl, oy, ok, fun H10 k10 => ?_⟩
        first | replace hh := HF.same hh k10 | replace hh := WF.same hh k10 | replace hh := FT.same hh k10 | replace hh := Fd.same hh k10 | replace hh := LsD.same hh k10 | replace hh := TK.same k10 _ _ hh | replace hh := KeysT.tk hh (TK.same k10) | replace hh := KeysU.tk hh (TK.same k10) | replace hh := KeysN.tk hh (TK.same k10) | replace hh := DayV.tk hh (TK.same k10) | replace hh := Dp.same k10 _ _ hh | replace hh := DpAll.same k10 _ _ hh | replace hh := k10 _ _ hh | replace hh := Ch.trans hh (Ch.of_same k10) | replace hh := Same.trans hh k10 | replace hh := stepsAt.same hh k10 | replace hh := DpT.same hh k10 | replace hh := LOr.same hh k10 | replace hh := Ob.same hh k10 | replace hh := Gds.same hh k10 | replace hh := Gd2.same hh k10 | replace hh := Ob2.same hh k10 | replace hh := NE.same hh k10 | replace hh := NT.same hh k10 | replace hh := NEs.same hh k10 | replace hh := NX.same hh k10 | replace hh := EMs.same hh k10 | replace hh := EOs.same hh k10 | replace hh := EO.same hh k10 | replace hh := GT.same hh k10 | replace hh := GTs.same hh k10 | replace hh := RB.same hh k10 | replace hh := RBs.same hh k10 | replace hh := RB2s.same hh k10 | replace hh := GR.same hh k10 | replace hh := GRs.same hh k10 | replace hh := NO.same hh k10 | replace hh := NOs.same hh k10 | replace hh := NZ.same hh k10 | replace hh := NB.same hh k10 | replace hh := NBs.same hh k10 | replace hh := NQ.same hh k10 | replace hh := NQs.same hh k10 | replace hh := NX'.same hh k10
        first | replace f3 := HF.same f3 k10 | replace f3 := WF.same f3 k10 | replace f3 := FT.same f3 k10 | replace f3 := Fd.same f3 k10 | replace f3 := LsD.same f3 k10 | replace f3 := TK.same k10 _ _ f3 | replace f3 := KeysT.tk f3 (TK.same k10) | replace f3 := KeysU.tk f3 (TK.same k10) | replace f3 := KeysN.tk f3 (TK.same k10) | replace f3 := DayV.tk f3 (TK.same k10) | replace f3 := Dp.same k10 _ _ f3 | replace f3 := DpAll.same k10 _ _ f3 | replace f3 := k10 _ _ f3 | replace f3 := Ch.trans f3 (Ch.of_same k10) | replace f3 := Same.trans f3 k10 | replace f3 := stepsAt.same f3 k10 | replace f3 := DpT.same f3 k10 | replace f3 := LOr.same f3 k10 | replace f3 := Ob.same f3 k10 | replace f3 := Gds.same f3 k10 | replace f3 := Gd2.same f3 k10 | replace f3 := Ob2.same f3 k10 | replace f3 := NE.same f3 k10 | replace f3 := NT.same f3 k10 | replace f3 := NEs.same f3 k10 | replace f3 := NX.same f3 k10 | replace f3 := EMs.same f3 k10 | replace f3 := EOs.same f3 k10 | replace f3 := EO.same f3 k10 | replace f3 := GT.same f3 k10 | replace f3 := GTs.same f3 k10 | replace f3 := RB.same f3 k10 | replace f3 := RBs.same f3 k10 | replace f3 := RB2s.same f3 k10 | replace f3 := GR.same f3 k10 | replace f3 := GRs.same f3 k10 | replace f3 := NO.same f3 k10 | replace f3 := NOs.same f3 k10 | replace f3 := NZ.same f3 k10 | replace f3 := NB.same f3 k10 | replace f3 := NBs.same f3 k10 | replace f3 := NQ.same f3 k10 | replace f3 := NQs.same f3 k10 | replace f3 := NX'.same f3 k10
        first | replace k1 := HF.same k1 k10 | replace k1 := WF.same k1 k10 | replace k1 := FT.same k1 k10 | replace k1 := Fd.same k1 k10 | replace k1 := LsD.same k1 k10 | replace k1 := TK.same k10 _ _ k1 | replace k1 := KeysT.tk k1 (TK.same k10) | replace k1 := KeysU.tk k1 (TK.same k10) | replace k1 := KeysN.tk k1 (TK.same k10) | replace k1 := DayV.tk k1 (TK.same k10) | replace k1 := Dp.same k10 _ _ k1 | replace k1 := DpAll.same k10 _ _ k1 | replace k1 := k10 _ _ k1 | replace k1 := Ch.trans k1 (Ch.of_same k10) | replace k1 := Same.trans k1 k10 | replace k1 := stepsAt.same k1 k10 | replace k1 := DpT.same k1 k10 | replace k1 := LOr.same k1 k10 | replace k1 := Ob.same k1 k10 | replace k1 := Gds.same k1 k10 | replace k1 := Gd2.same k1 k10 | replace k1 := Ob2.same k1 k10 | replace k1 := NE.same k1 k10 | replace k1 := NT.same k1 k10 | replace k1 := NEs.same k1 k10 | replace k1 := NX.same k1 k10 | replace k1 := EMs.same k1 k10 | replace k1 := EOs.same k1 k10 | replace k1 := EO.same k1 k10 | replace k1 := GT.same k1 k10 | replace k1 := GTs.same k1 k10 | replace k1 := RB.same k1 k10 | replace k1 := RBs.same k1 k10 | replace k1 := RB2s.same k1 k10 | replace k1 := GR.same k1 k10 | replace k1 := GRs.same k1 k10 | replace k1 := NO.same k1 k10 | replace k1 := NOs.same k1 k10 | replace k1 := NZ.same k1 k10 | replace k1 := NB.same k1 k10 | replace k1 := NBs.same k1 k10 | replace k1 := NQ.same k1 k10 | replace k1 := NQs.same k1 k10 | replace k1 := NX'.same k1 k10
        first | replace oy := HF.same oy k10 | replace oy := WF.same oy k10 | replace oy := FT.same oy k10 | replace oy := Fd.same oy k10 | replace oy := LsD.same oy k10 | replace oy := TK.same k10 _ _ oy | replace oy := KeysT.tk oy (TK.same k10) | replace oy := KeysU.tk oy (TK.same k10) | replace oy := KeysN.tk oy (TK.same k10) | replace oy := DayV.tk oy (TK.same k10) | replace oy := Dp.same k10 _ _ oy | replace oy := DpAll.same k10 _ _ oy | replace oy := k10 _ _ oy | replace oy := Ch.trans oy (Ch.of_same k10) | replace oy := Same.trans oy k10 | replace oy := stepsAt.same oy k10 | replace oy := DpT.same oy k10 | replace oy := LOr.same oy k10 | replace oy := Ob.same oy k10 | replace oy := Gds.same oy k10 | replace oy := Gd2.same oy k10 | replace oy := Ob2.same oy k10 | replace oy := NE.same oy k10 | replace oy := NT.same oy k10 | replace oy := NEs.same oy k10 | replace oy := NX.same oy k10 | replace oy := EMs.same oy k10 | replace oy := EOs.same oy k10 | replace oy := EO.same oy k10 | replace oy := GT.same oy k10 | replace oy := GTs.same oy k10 | replace oy := RB.same oy k10 | replace oy := RBs.same oy k10 | replace oy := RB2s.same oy k10 | replace oy := GR.same oy k10 | replace oy := GRs.same oy k10 | replace oy := NO.same oy k10 | replace oy := NOs.same oy k10 | replace oy := NZ.same oy k10 | replace oy := NB.same oy k10 | replace oy := NBs.same oy k10 | replace oy := NQ.same oy k10 | replace oy := NQs.same oy k10 | replace oy := NX'.same oy k10
        clear k10
        repeat' (walk_at "jv")
        refine ⟨_, rfl, ?_⟩
        repeat' (walk_at "jv")
        refine ⟨_, rfl, ?_⟩
        repeat' (walk_at "jv")
        · rename_i hne
          exact absurd rfl hne
        refine i_ck ?_
        repeat' (walk_at "jv")
        refine ⟨q1, y, d, rfl, oy, ok, fun H11 k11 => ?_⟩
        first | replace hh := HF.same hh k11 | replace hh := WF.same hh k11 | replace hh := FT.same hh k11 | replace hh := Fd.same hh k11 | replace hh := LsD.same hh k11 | replace hh := TK.same k11 _ _ hh | replace hh := KeysT.tk hh (TK.same k11) | replace hh := KeysU.tk hh (TK.same k11) | replace hh := KeysN.tk hh (TK.same k11) | replace hh := DayV.tk hh (TK.same k11) | replace hh := Dp.same k11 _ _ hh | replace hh := DpAll.same k11 _ _ hh | replace hh := k11 _ _ hh | replace hh := Ch.trans hh (Ch.of_same k11) | replace hh := Same.trans hh k11 | replace hh := stepsAt.same hh k11 | replace hh := DpT.same hh k11 | replace hh := LOr.same hh k11 | replace hh := Ob.same hh k11 | replace hh := Gds.same hh k11 | replace hh := Gd2.same hh k11 | replace hh := Ob2.same hh k11 | replace hh := NE.same hh k11 | replace hh := NT.same hh k11 | replace hh := NEs.same hh k11 | replace hh := NX.same hh k11 | replace hh := EMs.same hh k11 | replace hh := EOs.same hh k11 | replace hh := EO.same hh k11 | replace hh := GT.same hh k11 | replace hh := GTs.same hh k11 | replace hh := RB.same hh k11 | replace hh := RBs.same hh k11 | replace hh := RB2s.same hh k11 | replace hh := GR.same hh k11 | replace hh := GRs.same hh k11 | replace hh := NO.same hh k11 | replace hh := NOs.same hh k11 | replace hh := NZ.same hh k11 | replace hh := NB.same hh k11 | replace hh := NBs.same hh k11 | replace hh := NQ.same hh k11 | replace hh := NQs.same hh k11 | replace hh := NX'.same hh k11
        first | replace f3 := HF.same f3 k11 | replace f3 := WF.same f3 k11 | replace f3 := FT.same f3 k11 | replace f3 := Fd.same f3 k11 | replace f3 := LsD.same f3 k11 | replace f3 := TK.same k11 _ _ f3 | replace f3 := KeysT.tk f3 (TK.same k11) | replace f3 := KeysU.tk f3 (TK.same k11) | replace f3 := KeysN.tk f3 (TK.same k11) | replace f3 := DayV.tk f3 (TK.same k11) | replace f3 := Dp.same k11 _ _ f3 | replace f3 := DpAll.same k11 _ _ f3 | replace f3 := k11 _ _ f3 | replace f3 := Ch.trans f3 (Ch.of_same k11) | replace f3 := Same.trans f3 k11 | replace f3 := stepsAt.same f3 k11 | replace f3 := DpT.same f3 k11 | replace f3 := LOr.same f3 k11 | replace f3 := Ob.same f3 k11 | replace f3 := Gds.same f3 k11 | replace f3 := Gd2.same f3 k11 | replace f3 := Ob2.same f3 k11 | replace f3 := NE.same f3 k11 | replace f3 := NT.same f3 k11 | replace f3 := NEs.same f3 k11 | replace f3 := NX.same f3 k11 | replace f3 := EMs.same f3 k11 | replace f3 := EOs.same f3 k11 | replace f3 := EO.same f3 k11 | replace f3 := GT.same f3 k11 | replace f3 := GTs.same f3 k11 | replace f3 := RB.same f3 k11 | replace f3 := RBs.same f3 k11 | replace f3 := RB2s.same f3 k11 | replace f3 := GR.same f3 k11 | replace f3 := GRs.same f3 k11 | replace f3 := NO.same f3 k11 | replace f3 := NOs.same f3 k11 | replace f3 := NZ.same f3 k11 | replace f3 := NB.same f3 k11 | replace f3 := NBs.same f3 k11 | replace f3 := NQ.same f3 k11 | replace f3 := NQs.same f3 k11 | replace f3 := NX'.same f3 k11
        first | replace k1 := HF.same k1 k11 | replace k1 := WF.same k1 k11 | replace k1 := FT.same k1 k11 | replace k1 := Fd.same k1 k11 | replace k1 := LsD.same k1 k11 | replace k1 := TK.same k11 _ _ k1 | replace k1 := KeysT.tk k1 (TK.same k11) | replace k1 := KeysU.tk k1 (TK.same k11) | replace k1 := KeysN.tk k1 (TK.same k11) | replace k1 := DayV.tk k1 (TK.same k11) | replace k1 := Dp.same k11 _ _ k1 | replace k1 := DpAll.same k11 _ _ k1 | replace k1 := k11 _ _ k1 | replace k1 := Ch.trans k1 (Ch.of_same k11) | replace k1 := Same.trans k1 k11 | replace k1 := stepsAt.same k1 k11 | replace k1 := DpT.same k1 k11 | replace k1 := LOr.same k1 k11 | replace k1 := Ob.same k1 k11 | replace k1 := Gds.same k1 k11 | replace k1 := Gd2.same k1 k11 | replace k1 := Ob2.same k1 k11 | replace k1 := NE.same k1 k11 | replace k1 := NT.same k1 k11 | replace k1 := NEs.same k1 k11 | replace k1 := NX.same k1 k11 | replace k1 := EMs.same k1 k11 | replace k1 := EOs.same k1 k11 | replace k1 := EO.same k1 k11 | replace k1 := GT.same k1 k11 | replace k1 := GTs.same k1 k11 | replace k1 := RB.same k1 k11 | replace k1 := RBs.same k1 k11 | replace k1 := RB2s.same k1 k11 | replace k1 := GR.same k1 k11 | replace k1 := GRs.same k1 k11 | replace k1 := NO.same k1 k11 | replace k1 := NOs.same k1 k11 | replace k1 := NZ.same k1 k11 | replace k1 := NB.same k1 k11 | replace k1 := NBs.same k1 k11 | replace k1 := NQ.same k1 k11 | replace k1 := NQs.same k1 k11 | replace k1 := NX'.same k1 k11
        first | replace oy := HF.same oy k11 | replace oy := WF.same oy k11 | replace oy := FT.same oy k11 | replace oy := Fd.same oy k11 | replace oy := LsD.same oy k11 | replace oy := TK.same k11 _ _ oy | replace oy := KeysT.tk oy (TK.same k11) | replace oy := KeysU.tk oy (TK.same k11) | replace oy := KeysN.tk oy (TK.same k11) | replace oy := DayV.tk oy (TK.same k11) | replace oy := Dp.same k11 _ _ oy | replace oy := DpAll.same k11 _ _ oy | replace oy := k11 _ _ oy | replace oy := Ch.trans oy (Ch.of_same k11) | replace oy := Same.trans oy k11 | replace oy := stepsAt.same oy k11 | replace oy := DpT.same oy k11 | replace oy := LOr.same oy k11 | replace oy := Ob.same oy k11 | replace oy := Gds.same oy k11 | replace oy := Gd2.same oy k11 | replace oy := Ob2.same oy k11 | replace oy := NE.same oy k11 | replace oy := NT.same oy k11 | replace oy := NEs.same oy k11 | replace oy := NX.same oy k11 | replace oy := EMs.same oy k11 | replace oy := EOs.same oy k11 | replace oy := EO.same oy k11 | replace oy := GT.same oy k11 | replace oy := GTs.same oy k11 | replace oy := RB.same oy k11 | replace oy := RBs.same oy k11 | replace oy := RB2s.same oy k11 | replace oy := GR.same oy k11 | replace oy := GRs.same oy k11 | replace oy := NO.same oy k11 | replace oy := NOs.same oy k11 | replace oy := NZ.same oy k11 | replace oy := NB.same oy k11 | replace oy := NBs.same oy k11 | replace oy := NQ.same oy k11 | replace oy := NQs.same oy k11 | replace oy := NX'.same oy k11
        clear k11
        repeat' (walk_at "jv")
        refine ⟨_, rfl, ?_⟩
        repeat' (walk_at "jv")
        refine ⟨_, rfl, ?_⟩
        repeat' (walk_at "jv")
        · rename_i hne
          exact absurd rfl hne
        refine ⟨y, d, q1, rfl, oy, sh, ?_⟩
        repeat' (walk_at "jv")
        · rename_i hne
          exact absurd rfl hne
        exact ⟨_, _, _, _, rfl, hh, f3.mono (by omega), k1⟩
      · obtain ⟨y4, y5, y6, y7, rfl, hh, f2, k1⟩ := h
        repeat' (walk_at "jv")
        exact ⟨_, _, _, _, _, _, _, rfl, sqL_ch ha0 nq k1⟩
    · obtain ⟨y1, y2, y3, y4, y5, y6, y7, rfl, ha0⟩ := h
      repeat' (walk_at "jv")
      exact q _
end
end
section
open L2 PySem PySem.Spec PyProof.Rows
section
variable {base : Heap} {P : Program} {w : World} {K : PySem.W.Frag} {mg : Str → Option Value}
theorem ok_feed (D : Dn K mg "_law_feed" s__law_feed ["_law_script", "_law_k"]) (B : Bn mg) : Cl P w K mg base 1 "_law_feed" ["_law_script", "_law_k"] (spFeed K) := by
  refine D.cl sc__law_feed (fun vs H Q E h => ?_) (fun f cdv A outer s H vs Q E hr h => ?_)
  · obtain ⟨a, ns, k, rfl, _⟩ := h
    rfl
  · obtain ⟨a, ns, k, rfl, hs, hl, hk0, hk1, q⟩ := h
    refine ⟨_, (pss_cons (ps_set (i := 2) sc__law_feed.nd rfl (by first | exact Or.inl rfl | exact Or.inr rfl) (pe_op op_add (pe_op op_mul pe_int (pv 1)) (pe_callB (cr_sum rfl) rfl B.sum_ (by decide +kernel) (pa_cons (pe_slice (k_slL (K := K)) (pv 0) po_none (po_some pe_int)) pa_nil))))
      (pss_cons (ps_if (pt_cmpR op_lt (pv 1) (pe_callB (k_len (K := K)) rfl B.len_ (by decide +kernel) (pa_cons (pv 0) pa_nil)) (nomark _)) (pss_one (ps_set (i := 2) sc__law_feed.nd rfl (by first | exact Or.inl rfl | exact Or.inr rfl) (pe_ix (k_ixL (K := K)) (pv 0) (pv 1) (fun _ _ => rfl)))) pss_nil)
      (pss_one (ps_ret (pe_lst (pa_cons (pe_callB (j_max rfl) rfl B.max_ (by decide +kernel) (pa_cons pe_int (pa_cons (pe_op op_sub (pv 2) (pe_op op_pow pe_int pe_int)) pa_nil))) (pa_cons (pe_op op_mod (pe_callTy (j_int) rfl B.int_ (by decide +kernel) (pa_cons (pe_op op_add (pe_op op_mul (pv 2) pe_int) (pe_op op_mul pe_int (pv 1))) pa_nil)) (pe_op op_add (pe_op op_pow pe_int pe_int) pe_int)) (pa_cons pe_int pa_nil)))))))), ?_⟩
    repeat' (walk_at "jv")
    intro L nL
    have sL := Same.upd_new (o := .lst (cutV (ns.map V.int) none (some 1))) nL
    have e1 : cutV (ns.map V.int) none (some ((1 : Nat) : Int)) = (ns.take 1).map V.int := by
      unfold cutV
      rw [HT.sIx_none, HT.sIx_nat, List.drop_zero, Nat.sub_zero, List.length_map, List.map_take]
      cases ns <;> simp
    refine i_nil ?_
    refine i_sum (ns := ns.take 1) (sq_lst (by rw [← e1]; exact upd_same)) ?_
    have hs1 := sL.seq hs
    have fin : ∀ x : Int, ∀ p : Addr, upd H L (.lst (cutV (ns.map V.int) none (some 1))) p = none →
        Q (.ref p) (upd (upd H L (.lst (cutV (ns.map V.int) none (some 1)))) p (.lst [.int (max 0 (x - 10 ^ Int.toNat 18)), .int ((x * 19 + 7 * k) % (10 ^ Int.toNat 39 + 23)), .int 0])) := fun x p np => by
      refine q p _ ?_ ⟨_, _, _, upd_same, by omega, Int.emod_nonneg _ (by decide), Int.emod_lt_of_pos _ (by decide), by omega, by omega⟩ (sL.trans (Same.upd_new np))
      cases z : H p with
      | none => rfl
      | some o =>
        have := sL p o z
        rw [np] at this
        cases this
    repeat' (walk_at "jv")
    · rename_i lt
      obtain ⟨j, rfl⟩ := Int.eq_ofNat_of_zero_le hk0
      have hj : j < ns.length := by rw [List.length_map] at lt; omega
      refine i_ixL hs1 (atI_nat (by rw [List.getElem?_map, List.getElem?_eq_getElem hj]; rfl)) ?_
      repeat' (walk_at "jv")
      exact fin _
    · exact fin _
end
end
section
open L2 PySem PySem.Spec PyProof.Rows
def frees : List Str := ["int", "str", "tuple", "list", "bool", "len", "isinstance", "all", "any", "max", "min", "sum", "sorted", "repr", "range", "enumerate", "zip", "set", "dict"]
def freeB (K : PySem.W.Frag) : Bool := frees.all fun x => decide (PySem.W.nsIn K mainGlobals x = some none)
theorem bn_of {K : PySem.W.Frag} {mg : Str → Option Value} {h : Heap} (X : K.In h) (G : h.Ns mainGlobals mg) (b : freeB K = true) : Bn mg := by
  have z : ∀ x ∈ frees, mg x = none := fun x hx => PySem.W.mg_none_of X G (of_decide_eq_true (List.all_eq_true.mp b x hx))
  exact ⟨z _ (by simp [frees]), z _ (by simp [frees]), z _ (by simp [frees]), z _ (by simp [frees]), z _ (by simp [frees]), z _ (by simp [frees]), z _ (by simp [frees]), z _ (by simp [frees]), z _ (by simp [frees]), z _ (by simp [frees]), z _ (by simp [frees]), z _ (by simp [frees]), z _ (by simp [frees]), z _ (by simp [frees]), z _ (by simp [frees]), z _ (by simp [frees]), z _ (by simp [frees]), z _ (by simp [frees])⟩
theorem bd_of {K : PySem.W.Frag} {mg : Str → Option Value} {h : Heap} (X : K.In h) (G : h.Ns mainGlobals mg) (b : freeB K = true) : mg "dict" = none :=
  PySem.W.mg_none_of X G (of_decide_eq_true (List.all_eq_true.mp b "dict" (by simp [frees])))
theorem bare_sq {K : PySem.W.Frag} {T : Addr} {oc : Value} {od : Option Addr} {nB : Nat} {sl : Array (Option Value)} {t0 t1 t2 t3 : Tok} (h : K.lookup T = some ⟨.type "tuple", od, .seq #[.str "keep" t0, .str "least" t1, .str "greatest" t2, .str "odd" t3] nB, sl⟩) (H : Hp) :
    SqT K H T ((["keep", "least", "greatest", "odd"] : List Str).map V.str) :=
  .inr ⟨_, _, _, h, rfl, rfl, by rw [sizeLine_eq]; show 4 ≤ _; omega, .cons ⟨_, rfl⟩ (.cons ⟨_, rfl⟩ (.cons ⟨_, rfl⟩ (.cons ⟨_, rfl⟩ .nil)))⟩
theorem all_mk {P : Program} {w : World} {K : PySem.W.Frag} {h : Heap} {mg : Str → Option Value} {fa : Addr} (X : K.In h) (G : h.Ns mainGlobals mg) (hfa : mg "law" = some (.ref fa)) (b : freeB K = true)
    {f0 f1 f2 f3 f4 f5 f6 f7 f8 f9 f10 f11 f12 f13 f14 f15 f16 f17 f18 f19 f20 f21 f22 f23 f24 f25 f26 f27 f28 f29 f30 f31 f32 f33 f34 f35 f36 f37 f38 f39 fB : Addr} {od0 an0 od1 an1 od2 an2 od3 an3 od4 an4 od5 an5 od6 an6 od7 an7 od8 an8 od9 an9 od10 an10 od11 an11 od12 an12 od13 an13 od14 an14 od15 an15 od16 an16 od17 an17 od18 an18 od19 an19 od20 an20 od21 an21 od22 an22 od23 an23 od24 an24 od25 an25 od26 an26 od27 an27 od28 an28 od29 an29 od30 an30 od31 an31 od32 an32 od33 an33 od34 an34 od35 an35 od36 an36 od37 an37 od38 an38 od39 an39 odB : Option Addr} {sl0 sl1 sl2 sl3 sl4 sl5 sl6 sl7 sl8 sl9 sl10 sl11 sl12 sl13 sl14 sl15 sl16 sl17 sl18 sl19 sl20 sl21 sl22 sl23 sl24 sl25 sl26 sl27 sl28 sl29 sl30 sl31 sl32 sl33 sl34 sl35 sl36 sl37 sl38 sl39 slB : Array (Option Value)} {oc0 kV0 dc0 pm0 cd0 ct0 oc1 kV1 dc1 pm1 cd1 ct1 oc2 kV2 dc2 pm2 cd2 ct2 oc3 kV3 dc3 pm3 cd3 ct3 oc4 kV4 dc4 pm4 cd4 ct4 oc5 kV5 dc5 pm5 cd5 ct5 oc6 kV6 dc6 pm6 cd6 ct6 oc7 kV7 dc7 pm7 cd7 ct7 oc8 kV8 dc8 pm8 cd8 ct8 oc9 kV9 dc9 pm9 cd9 ct9 oc10 kV10 dc10 pm10 cd10 ct10 oc11 kV11 dc11 pm11 cd11 ct11 oc12 kV12 dc12 pm12 cd12 ct12 oc13 kV13 dc13 pm13 cd13 ct13 oc14 kV14 dc14 pm14 cd14 ct14 oc15 kV15 dc15 pm15 cd15 ct15 oc16 kV16 dc16 pm16 cd16 ct16 oc17 kV17 dc17 pm17 cd17 ct17 oc18 kV18 dc18 pm18 cd18 ct18 oc19 kV19 dc19 pm19 cd19 ct19 oc20 kV20 dc20 pm20 cd20 ct20 oc21 kV21 dc21 pm21 cd21 ct21 oc22 kV22 dc22 pm22 cd22 ct22 oc23 kV23 dc23 pm23 cd23 ct23 oc24 kV24 dc24 pm24 cd24 ct24 oc25 kV25 dc25 pm25 cd25 ct25 oc26 kV26 dc26 pm26 cd26 ct26 oc27 kV27 dc27 pm27 cd27 ct27 oc28 kV28 dc28 pm28 cd28 ct28 oc29 kV29 dc29 pm29 cd29 ct29 oc30 kV30 dc30 pm30 cd30 ct30 oc31 kV31 dc31 pm31 cd31 ct31 oc32 kV32 dc32 pm32 cd32 ct32 oc33 kV33 dc33 pm33 cd33 ct33 oc34 kV34 dc34 pm34 cd34 ct34 oc35 kV35 dc35 pm35 cd35 ct35 oc36 kV36 dc36 pm36 cd36 ct36 oc37 kV37 dc37 pm37 cd37 ct37 oc38 kV38 dc38 pm38 cd38 ct38 oc39 kV39 dc39 pm39 cd39 ct39 : Value} {t0 t1 t2 t3 t4 t5 t6 tB0 tB1 tB2 tB3 : Tok} {nB : Nat}
    (g0 : PySem.W.nsIn K mainGlobals "LONGEST_NAME" = some (some (.int 8 t0)))
    (g1 : PySem.W.nsIn K mainGlobals "MOST_PLACES" = some (some (.int 8 t1)))
    (g2 : PySem.W.nsIn K mainGlobals "MOST_ROADS" = some (some (.int 14 t2)))
    (g3 : PySem.W.nsIn K mainGlobals "LETTERS" = some (some (.str "abcdefghijklmnopqrstuvwxyz" t3)))
    (g4 : PySem.W.nsIn K mainGlobals "NAME_SIGNS" = some (some (.str "abcdefghijklmnopqrstuvwxyz0123456789" t4)))
    (g5 : PySem.W.nsIn K mainGlobals "MOST_STATES" = some (some (.int 256 t5)))
    (g6 : PySem.W.nsIn K mainGlobals "GREATEST_MOST" = some (some (.int 9 t6)))
    (aB : PySem.W.nsIn K mainGlobals "BARE_SORTS" = some (some (.ref fB))) (lB : K.lookup fB = some ⟨.type "tuple", odB, .seq #[.str "keep" tB0, .str "least" tB1, .str "greatest" tB2, .str "odd" tB3] nB, slB⟩)
    (a0 : PySem.W.nsIn K mainGlobals "is_integer" = some (some (.ref f0))) (l0 : K.lookup f0 = some ⟨oc0, od0, .func (PySem.W.fnOf "is_integer" "is_integer" (defArgs s_is_integer) (defBody s_is_integer) (defScope s_is_integer) .none kV0 dc0 pm0 an0 cd0 ct0), sl0⟩) (c0 : PySem.W.codeIn K cd0 "is_integer" = true) (k0 : PySem.W.keepIn K (.ref f0) = true)
    (a1 : PySem.W.nsIn K mainGlobals "power" = some (some (.ref f1))) (l1 : K.lookup f1 = some ⟨oc1, od1, .func (PySem.W.fnOf "power" "power" (defArgs s_power) (defBody s_power) (defScope s_power) .none kV1 dc1 pm1 an1 cd1 ct1), sl1⟩) (c1 : PySem.W.codeIn K cd1 "power" = true) (k1 : PySem.W.keepIn K (.ref f1) = true)
    (a2 : PySem.W.nsIn K mainGlobals "are_states" = some (some (.ref f2))) (l2 : K.lookup f2 = some ⟨oc2, od2, .func (PySem.W.fnOf "are_states" "are_states" (defArgs s_are_states) (defBody s_are_states) (defScope s_are_states) .none kV2 dc2 pm2 an2 cd2 ct2), sl2⟩) (c2 : PySem.W.codeIn K cd2 "are_states" = true) (k2 : PySem.W.keepIn K (.ref f2) = true)
    (a3 : PySem.W.nsIn K mainGlobals "table_length" = some (some (.ref f3))) (l3 : K.lookup f3 = some ⟨oc3, od3, .func (PySem.W.fnOf "table_length" "table_length" (defArgs s_table_length) (defBody s_table_length) (defScope s_table_length) .none kV3 dc3 pm3 an3 cd3 ct3), sl3⟩) (c3 : PySem.W.codeIn K cd3 "table_length" = true) (k3 : PySem.W.keepIn K (.ref f3) = true)
    (a4 : PySem.W.nsIn K mainGlobals "sum_length" = some (some (.ref f4))) (l4 : K.lookup f4 = some ⟨oc4, od4, .func (PySem.W.fnOf "sum_length" "sum_length" (defArgs s_sum_length) (defBody s_sum_length) (defScope s_sum_length) .none kV4 dc4 pm4 an4 cd4 ct4), sl4⟩) (c4 : PySem.W.codeIn K cd4 "sum_length" = true) (k4 : PySem.W.keepIn K (.ref f4) = true)
    (a5 : PySem.W.nsIn K mainGlobals "is_rule" = some (some (.ref f5))) (l5 : K.lookup f5 = some ⟨oc5, od5, .func (PySem.W.fnOf "is_rule" "is_rule" (defArgs s_is_rule) (defBody s_is_rule) (defScope s_is_rule) .none kV5 dc5 pm5 an5 cd5 ct5), sl5⟩) (c5 : PySem.W.codeIn K cd5 "is_rule" = true) (k5 : PySem.W.keepIn K (.ref f5) = true)
    (a6 : PySem.W.nsIn K mainGlobals "_is_worth" = some (some (.ref f6))) (l6 : K.lookup f6 = some ⟨oc6, od6, .func (PySem.W.fnOf "_is_worth" "_is_worth" (defArgs s__is_worth) (defBody s__is_worth) (defScope s__is_worth) .none kV6 dc6 pm6 an6 cd6 ct6), sl6⟩) (c6 : PySem.W.codeIn K cd6 "_is_worth" = true) (k6 : PySem.W.keepIn K (.ref f6) = true)
    (a7 : PySem.W.nsIn K mainGlobals "_are_sums" = some (some (.ref f7))) (l7 : K.lookup f7 = some ⟨oc7, od7, .func (PySem.W.fnOf "_are_sums" "_are_sums" (defArgs s__are_sums) (defBody s__are_sums) (defScope s__are_sums) .none kV7 dc7 pm7 an7 cd7 ct7), sl7⟩) (c7 : PySem.W.codeIn K cd7 "_are_sums" = true) (k7 : PySem.W.keepIn K (.ref f7) = true)
    (a8 : PySem.W.nsIn K mainGlobals "is_name" = some (some (.ref f8))) (l8 : K.lookup f8 = some ⟨oc8, od8, .func (PySem.W.fnOf "is_name" "is_name" (defArgs s_is_name) (defBody s_is_name) (defScope s_is_name) .none kV8 dc8 pm8 an8 cd8 ct8), sl8⟩) (c8 : PySem.W.codeIn K cd8 "is_name" = true) (k8 : PySem.W.keepIn K (.ref f8) = true)
    (a9 : PySem.W.nsIn K mainGlobals "is_web" = some (some (.ref f9))) (l9 : K.lookup f9 = some ⟨oc9, od9, .func (PySem.W.fnOf "is_web" "is_web" (defArgs s_is_web) (defBody s_is_web) (defScope s_is_web) .none kV9 dc9 pm9 an9 cd9 ct9), sl9⟩) (c9 : PySem.W.codeIn K cd9 "is_web" = true) (k9 : PySem.W.keepIn K (.ref f9) = true)
    (a10 : PySem.W.nsIn K mainGlobals "_are_places" = some (some (.ref f10))) (l10 : K.lookup f10 = some ⟨oc10, od10, .func (PySem.W.fnOf "_are_places" "_are_places" (defArgs s__are_places) (defBody s__are_places) (defScope s__are_places) .none kV10 dc10 pm10 an10 cd10 ct10), sl10⟩) (c10 : PySem.W.codeIn K cd10 "_are_places" = true) (k10 : PySem.W.keepIn K (.ref f10) = true)
    (a11 : PySem.W.nsIn K mainGlobals "_are_roads" = some (some (.ref f11))) (l11 : K.lookup f11 = some ⟨oc11, od11, .func (PySem.W.fnOf "_are_roads" "_are_roads" (defArgs s__are_roads) (defBody s__are_roads) (defScope s__are_roads) .none kV11 dc11 pm11 an11 cd11 ct11), sl11⟩) (c11 : PySem.W.codeIn K cd11 "_are_roads" = true) (k11 : PySem.W.keepIn K (.ref f11) = true)
    (a12 : PySem.W.nsIn K mainGlobals "_is_road" = some (some (.ref f12))) (l12 : K.lookup f12 = some ⟨oc12, od12, .func (PySem.W.fnOf "_is_road" "_is_road" (defArgs s__is_road) (defBody s__is_road) (defScope s__is_road) .none kV12 dc12 pm12 an12 cd12 ct12), sl12⟩) (c12 : PySem.W.codeIn K cd12 "_is_road" = true) (k12 : PySem.W.keepIn K (.ref f12) = true)
    (a13 : PySem.W.nsIn K mainGlobals "is_one_of" = some (some (.ref f13))) (l13 : K.lookup f13 = some ⟨oc13, od13, .func (PySem.W.fnOf "is_one_of" "is_one_of" (defArgs s_is_one_of) (defBody s_is_one_of) (defScope s_is_one_of) .none kV13 dc13 pm13 an13 cd13 ct13), sl13⟩) (c13 : PySem.W.codeIn K cd13 "is_one_of" = true) (k13 : PySem.W.keepIn K (.ref f13) = true)
    (a14 : PySem.W.nsIn K mainGlobals "are_joined" = some (some (.ref f14))) (l14 : K.lookup f14 = some ⟨oc14, od14, .func (PySem.W.fnOf "are_joined" "are_joined" (defArgs s_are_joined) (defBody s_are_joined) (defScope s_are_joined) .none kV14 dc14 pm14 an14 cd14 ct14), sl14⟩) (c14 : PySem.W.codeIn K cd14 "are_joined" = true) (k14 : PySem.W.keepIn K (.ref f14) = true)
    (a15 : PySem.W.nsIn K mainGlobals "near_of" = some (some (.ref f15))) (l15 : K.lookup f15 = some ⟨oc15, od15, .func (PySem.W.fnOf "near_of" "near_of" (defArgs s_near_of) (defBody s_near_of) (defScope s_near_of) .none kV15 dc15 pm15 an15 cd15 ct15), sl15⟩) (c15 : PySem.W.codeIn K cd15 "near_of" = true) (k15 : PySem.W.keepIn K (.ref f15) = true)
    (a16 : PySem.W.nsIn K mainGlobals "is_hall" = some (some (.ref f16))) (l16 : K.lookup f16 = some ⟨oc16, od16, .func (PySem.W.fnOf "is_hall" "is_hall" (defArgs s_is_hall) (defBody s_is_hall) (defScope s_is_hall) .none kV16 dc16 pm16 an16 cd16 ct16), sl16⟩) (c16 : PySem.W.codeIn K cd16 "is_hall" = true) (k16 : PySem.W.keepIn K (.ref f16) = true)
    (a17 : PySem.W.nsIn K mainGlobals "_are_rules" = some (some (.ref f17))) (l17 : K.lookup f17 = some ⟨oc17, od17, .func (PySem.W.fnOf "_are_rules" "_are_rules" (defArgs s__are_rules) (defBody s__are_rules) (defScope s__are_rules) .none kV17 dc17 pm17 an17 cd17 ct17), sl17⟩) (c17 : PySem.W.codeIn K cd17 "_are_rules" = true) (k17 : PySem.W.keepIn K (.ref f17) = true)
    (a18 : PySem.W.nsIn K mainGlobals "_law_power" = some (some (.ref f18))) (l18 : K.lookup f18 = some ⟨oc18, od18, .func (PySem.W.fnOf "_law_power" "_law_power" (defArgs s__law_power) (defBody s__law_power) (defScope s__law_power) .none kV18 dc18 pm18 an18 cd18 ct18), sl18⟩) (c18 : PySem.W.codeIn K cd18 "_law_power" = true) (k18 : PySem.W.keepIn K (.ref f18) = true)
    (a19 : PySem.W.nsIn K mainGlobals "_law_feed" = some (some (.ref f19))) (l19 : K.lookup f19 = some ⟨oc19, od19, .func (PySem.W.fnOf "_law_feed" "_law_feed" (defArgs s__law_feed) (defBody s__law_feed) (defScope s__law_feed) .none kV19 dc19 pm19 an19 cd19 ct19), sl19⟩) (c19 : PySem.W.codeIn K cd19 "_law_feed" = true) (k19 : PySem.W.keepIn K (.ref f19) = true)
    (a20 : PySem.W.nsIn K mainGlobals "_law_draw" = some (some (.ref f20))) (l20 : K.lookup f20 = some ⟨oc20, od20, .func (PySem.W.fnOf "_law_draw" "_law_draw" (defArgs s__law_draw) (defBody s__law_draw) (defScope s__law_draw) .none kV20 dc20 pm20 an20 cd20 ct20), sl20⟩) (c20 : PySem.W.codeIn K cd20 "_law_draw" = true) (k20 : PySem.W.keepIn K (.ref f20) = true)
    (a21 : PySem.W.nsIn K mainGlobals "_law_one" = some (some (.ref f21))) (l21 : K.lookup f21 = some ⟨oc21, od21, .func (PySem.W.fnOf "_law_one" "_law_one" (defArgs s__law_one) (defBody s__law_one) (defScope s__law_one) .none kV21 dc21 pm21 an21 cd21 ct21), sl21⟩) (c21 : PySem.W.codeIn K cd21 "_law_one" = true) (k21 : PySem.W.keepIn K (.ref f21) = true)
    (a22 : PySem.W.nsIn K mainGlobals "_law_mixed" = some (some (.ref f22))) (l22 : K.lookup f22 = some ⟨oc22, od22, .func (PySem.W.fnOf "_law_mixed" "_law_mixed" (defArgs s__law_mixed) (defBody s__law_mixed) (defScope s__law_mixed) .none kV22 dc22 pm22 an22 cd22 ct22), sl22⟩) (c22 : PySem.W.codeIn K cd22 "_law_mixed" = true) (k22 : PySem.W.keepIn K (.ref f22) = true)
    (a23 : PySem.W.nsIn K mainGlobals "_law_names" = some (some (.ref f23))) (l23 : K.lookup f23 = some ⟨oc23, od23, .func (PySem.W.fnOf "_law_names" "_law_names" (defArgs s__law_names) (defBody s__law_names) (defScope s__law_names) .none kV23 dc23 pm23 an23 cd23 ct23), sl23⟩) (c23 : PySem.W.codeIn K cd23 "_law_names" = true) (k23 : PySem.W.keepIn K (.ref f23) = true)
    (a24 : PySem.W.nsIn K mainGlobals "_law_web" = some (some (.ref f24))) (l24 : K.lookup f24 = some ⟨oc24, od24, .func (PySem.W.fnOf "_law_web" "_law_web" (defArgs s__law_web) (defBody s__law_web) (defScope s__law_web) .none kV24 dc24 pm24 an24 cd24 ct24), sl24⟩) (c24 : PySem.W.codeIn K cd24 "_law_web" = true) (k24 : PySem.W.keepIn K (.ref f24) = true)
    (a25 : PySem.W.nsIn K mainGlobals "_law_neighbours" = some (some (.ref f25))) (l25 : K.lookup f25 = some ⟨oc25, od25, .func (PySem.W.fnOf "_law_neighbours" "_law_neighbours" (defArgs s__law_neighbours) (defBody s__law_neighbours) (defScope s__law_neighbours) .none kV25 dc25 pm25 an25 cd25 ct25), sl25⟩) (c25 : PySem.W.codeIn K cd25 "_law_neighbours" = true) (k25 : PySem.W.keepIn K (.ref f25) = true)
    (a26 : PySem.W.nsIn K mainGlobals "_law_rule" = some (some (.ref f26))) (l26 : K.lookup f26 = some ⟨oc26, od26, .func (PySem.W.fnOf "_law_rule" "_law_rule" (defArgs s__law_rule) (defBody s__law_rule) (defScope s__law_rule) .none kV26 dc26 pm26 an26 cd26 ct26), sl26⟩) (c26 : PySem.W.codeIn K cd26 "_law_rule" = true) (k26 : PySem.W.keepIn K (.ref f26) = true)
    (a27 : PySem.W.nsIn K mainGlobals "_law_hall" = some (some (.ref f27))) (l27 : K.lookup f27 = some ⟨oc27, od27, .func (PySem.W.fnOf "_law_hall" "_law_hall" (defArgs s__law_hall) (defBody s__law_hall) (defScope s__law_hall) .none kV27 dc27 pm27 an27 cd27 ct27), sl27⟩) (c27 : PySem.W.codeIn K cd27 "_law_hall" = true) (k27 : PySem.W.keepIn K (.ref f27) = true)
    (a28 : PySem.W.nsIn K mainGlobals "_law_great_web" = some (some (.ref f28))) (l28 : K.lookup f28 = some ⟨oc28, od28, .func (PySem.W.fnOf "_law_great_web" "_law_great_web" (defArgs s__law_great_web) (defBody s__law_great_web) (defScope s__law_great_web) .none kV28 dc28 pm28 an28 cd28 ct28), sl28⟩) (c28 : PySem.W.codeIn K cd28 "_law_great_web" = true) (k28 : PySem.W.keepIn K (.ref f28) = true)
    (a29 : PySem.W.nsIn K mainGlobals "_law_great_hall" = some (some (.ref f29))) (l29 : K.lookup f29 = some ⟨oc29, od29, .func (PySem.W.fnOf "_law_great_hall" "_law_great_hall" (defArgs s__law_great_hall) (defBody s__law_great_hall) (defScope s__law_great_hall) .none kV29 dc29 pm29 an29 cd29 ct29), sl29⟩) (c29 : PySem.W.codeIn K cd29 "_law_great_hall" = true) (k29 : PySem.W.keepIn K (.ref f29) = true)
    (a30 : PySem.W.nsIn K mainGlobals "_law_any_hall" = some (some (.ref f30))) (l30 : K.lookup f30 = some ⟨oc30, od30, .func (PySem.W.fnOf "_law_any_hall" "_law_any_hall" (defArgs s__law_any_hall) (defBody s__law_any_hall) (defScope s__law_any_hall) .none kV30 dc30 pm30 an30 cd30 ct30), sl30⟩) (c30 : PySem.W.codeIn K cd30 "_law_any_hall" = true) (k30 : PySem.W.keepIn K (.ref f30) = true)
    (a31 : PySem.W.nsIn K mainGlobals "_law_is_name" = some (some (.ref f31))) (l31 : K.lookup f31 = some ⟨oc31, od31, .func (PySem.W.fnOf "_law_is_name" "_law_is_name" (defArgs s__law_is_name) (defBody s__law_is_name) (defScope s__law_is_name) .none kV31 dc31 pm31 an31 cd31 ct31), sl31⟩) (c31 : PySem.W.codeIn K cd31 "_law_is_name" = true) (k31 : PySem.W.keepIn K (.ref f31) = true)
    (a32 : PySem.W.nsIn K mainGlobals "_law_is_web" = some (some (.ref f32))) (l32 : K.lookup f32 = some ⟨oc32, od32, .func (PySem.W.fnOf "_law_is_web" "_law_is_web" (defArgs s__law_is_web) (defBody s__law_is_web) (defScope s__law_is_web) .none kV32 dc32 pm32 an32 cd32 ct32), sl32⟩) (c32 : PySem.W.codeIn K cd32 "_law_is_web" = true) (k32 : PySem.W.keepIn K (.ref f32) = true)
    (a33 : PySem.W.nsIn K mainGlobals "_law_are_states" = some (some (.ref f33))) (l33 : K.lookup f33 = some ⟨oc33, od33, .func (PySem.W.fnOf "_law_are_states" "_law_are_states" (defArgs s__law_are_states) (defBody s__law_are_states) (defScope s__law_are_states) .none kV33 dc33 pm33 an33 cd33 ct33), sl33⟩) (c33 : PySem.W.codeIn K cd33 "_law_are_states" = true) (k33 : PySem.W.keepIn K (.ref f33) = true)
    (a34 : PySem.W.nsIn K mainGlobals "_law_is_rule" = some (some (.ref f34))) (l34 : K.lookup f34 = some ⟨oc34, od34, .func (PySem.W.fnOf "_law_is_rule" "_law_is_rule" (defArgs s__law_is_rule) (defBody s__law_is_rule) (defScope s__law_is_rule) .none kV34 dc34 pm34 an34 cd34 ct34), sl34⟩) (c34 : PySem.W.codeIn K cd34 "_law_is_rule" = true) (k34 : PySem.W.keepIn K (.ref f34) = true)
    (a35 : PySem.W.nsIn K mainGlobals "_law_is_hall" = some (some (.ref f35))) (l35 : K.lookup f35 = some ⟨oc35, od35, .func (PySem.W.fnOf "_law_is_hall" "_law_is_hall" (defArgs s__law_is_hall) (defBody s__law_is_hall) (defScope s__law_is_hall) .none kV35 dc35 pm35 an35 cd35 ct35), sl35⟩) (c35 : PySem.W.codeIn K cd35 "_law_is_hall" = true) (k35 : PySem.W.keepIn K (.ref f35) = true)
    (a36 : PySem.W.nsIn K mainGlobals "_law_near_web" = some (some (.ref f36))) (l36 : K.lookup f36 = some ⟨oc36, od36, .func (PySem.W.fnOf "_law_near_web" "_law_near_web" (defArgs s__law_near_web) (defBody s__law_near_web) (defScope s__law_near_web) .none kV36 dc36 pm36 an36 cd36 ct36), sl36⟩) (c36 : PySem.W.codeIn K cd36 "_law_near_web" = true) (k36 : PySem.W.keepIn K (.ref f36) = true)
    (a37 : PySem.W.nsIn K mainGlobals "_law_near_rule" = some (some (.ref f37))) (l37 : K.lookup f37 = some ⟨oc37, od37, .func (PySem.W.fnOf "_law_near_rule" "_law_near_rule" (defArgs s__law_near_rule) (defBody s__law_near_rule) (defScope s__law_near_rule) .none kV37 dc37 pm37 an37 cd37 ct37), sl37⟩) (c37 : PySem.W.codeIn K cd37 "_law_near_rule" = true) (k37 : PySem.W.keepIn K (.ref f37) = true)
    (a38 : PySem.W.nsIn K mainGlobals "_law_near_hall" = some (some (.ref f38))) (l38 : K.lookup f38 = some ⟨oc38, od38, .func (PySem.W.fnOf "_law_near_hall" "_law_near_hall" (defArgs s__law_near_hall) (defBody s__law_near_hall) (defScope s__law_near_hall) .none kV38 dc38 pm38 an38 cd38 ct38), sl38⟩) (c38 : PySem.W.codeIn K cd38 "_law_near_hall" = true) (k38 : PySem.W.keepIn K (.ref f38) = true)
    (a39 : PySem.W.nsIn K mainGlobals "law" = some (some (.ref f39))) (l39 : K.lookup f39 = some ⟨oc39, od39, .func (PySem.W.fnOf "law" "law" (defArgs s_law) (defBody s_law) (defScope s_law) .none kV39 dc39 pm39 an39 cd39 ct39), sl39⟩) (c39 : PySem.W.codeIn K cd39 "law" = true) (k39 : PySem.W.keepIn K (.ref f39) = true)
    : ∃ fd : FuncData, (∀ (s : Shared) (u : Value), BindsTo s fd ⟨[u], []⟩ [("_law_script", u)]) ∧ ∀ bs : Heap, K.In bs → bs.Ns mainGlobals mg → FnG P w K mg bs 9 fa fd ["_law_script"] (spLaw K) := by
  have B := bn_of X G b
  have Bd := bd_of X G b
  have Gg : Gn mg := ⟨⟨_, PySem.W.mg_of X G g0⟩, ⟨_, PySem.W.mg_of X G g1⟩, ⟨_, PySem.W.mg_of X G g2⟩, ⟨_, PySem.W.mg_of X G g3⟩, ⟨_, PySem.W.mg_of X G g4⟩⟩
  have hm : ∃ t, mg "MOST_STATES" = some (.int 256 t) := ⟨_, PySem.W.mg_of X G g5⟩
  have Gr0 : Gr K mg := ⟨⟨_, PySem.W.mg_of X G aB, bare_sq lB (oc := .none)⟩, ⟨_, PySem.W.mg_of X G g6⟩⟩
  have F0 := fun_mk (st := s_is_integer) l0 c0 k0
  have h0 := PySem.W.mg_of X G a0
  have D0 : Dn K mg "is_integer" s_is_integer ["thing"] := ⟨_, _, F0, h0, F0.binds fun _ _ _ _ _ _ us hl => match us, hl with | [_], _ => rfl⟩
  have F1 := fun_mk (st := s_power) l1 c1 k1
  have h1 := PySem.W.mg_of X G a1
  have D1 : Dn K mg "power" s_power ["base", "exponent"] := ⟨_, _, F1, h1, F1.binds fun _ _ _ _ _ _ us hl => match us, hl with | [_, _], _ => rfl⟩
  have F2 := fun_mk (st := s_are_states) l2 c2 k2
  have h2 := PySem.W.mg_of X G a2
  have D2 : Dn K mg "are_states" s_are_states ["thing", "k", "many"] := ⟨_, _, F2, h2, F2.binds fun _ _ _ _ _ _ us hl => match us, hl with | [_, _, _], _ => rfl⟩
  have F3 := fun_mk (st := s_table_length) l3 c3 k3
  have h3 := PySem.W.mg_of X G a3
  have D3 : Dn K mg "table_length" s_table_length ["k", "near"] := ⟨_, _, F3, h3, F3.binds fun _ _ _ _ _ _ us hl => match us, hl with | [_, _], _ => rfl⟩
  have F4 := fun_mk (st := s_sum_length) l4 c4 k4
  have h4 := PySem.W.mg_of X G a4
  have D4 : Dn K mg "sum_length" s_sum_length ["k", "near"] := ⟨_, _, F4, h4, F4.binds fun _ _ _ _ _ _ us hl => match us, hl with | [_, _], _ => rfl⟩
  have F5 := fun_mk (st := s_is_rule) l5 c5 k5
  have h5 := PySem.W.mg_of X G a5
  have D5 : Dn K mg "is_rule" s_is_rule ["thing", "k", "near"] := ⟨_, _, F5, h5, F5.binds fun _ _ _ _ _ _ us hl => match us, hl with | [_, _, _], _ => rfl⟩
  have F6 := fun_mk (st := s__is_worth) l6 c6 k6
  have h6 := PySem.W.mg_of X G a6
  have D6 : Dn K mg "_is_worth" s__is_worth ["sort", "worth", "k", "near"] := ⟨_, _, F6, h6, F6.binds fun _ _ _ _ _ _ us hl => match us, hl with | [_, _, _, _], _ => rfl⟩
  have F7 := fun_mk (st := s__are_sums) l7 c7 k7
  have h7 := PySem.W.mg_of X G a7
  have D7 : Dn K mg "_are_sums" s__are_sums ["worth", "k", "near"] := ⟨_, _, F7, h7, F7.binds fun _ _ _ _ _ _ us hl => match us, hl with | [_, _, _], _ => rfl⟩
  have F8 := fun_mk (st := s_is_name) l8 c8 k8
  have h8 := PySem.W.mg_of X G a8
  have D8 : Dn K mg "is_name" s_is_name ["thing"] := ⟨_, _, F8, h8, F8.binds fun _ _ _ _ _ _ us hl => match us, hl with | [_], _ => rfl⟩
  have F9 := fun_mk (st := s_is_web) l9 c9 k9
  have h9 := PySem.W.mg_of X G a9
  have D9 : Dn K mg "is_web" s_is_web ["thing"] := ⟨_, _, F9, h9, F9.binds fun _ _ _ _ _ _ us hl => match us, hl with | [_], _ => rfl⟩
  have F10 := fun_mk (st := s__are_places) l10 c10 k10
  have h10 := PySem.W.mg_of X G a10
  have D10 : Dn K mg "_are_places" s__are_places ["thing"] := ⟨_, _, F10, h10, F10.binds fun _ _ _ _ _ _ us hl => match us, hl with | [_], _ => rfl⟩
  have F11 := fun_mk (st := s__are_roads) l11 c11 k11
  have h11 := PySem.W.mg_of X G a11
  have D11 : Dn K mg "_are_roads" s__are_roads ["thing", "places"] := ⟨_, _, F11, h11, F11.binds fun _ _ _ _ _ _ us hl => match us, hl with | [_, _], _ => rfl⟩
  have F12 := fun_mk (st := s__is_road) l12 c12 k12
  have h12 := PySem.W.mg_of X G a12
  have D12 : Dn K mg "_is_road" s__is_road ["thing", "places"] := ⟨_, _, F12, h12, F12.binds fun _ _ _ _ _ _ us hl => match us, hl with | [_, _], _ => rfl⟩
  have F13 := fun_mk (st := s_is_one_of) l13 c13 k13
  have h13 := PySem.W.mg_of X G a13
  have D13 : Dn K mg "is_one_of" s_is_one_of ["thing", "places"] := ⟨_, _, F13, h13, F13.binds fun _ _ _ _ _ _ us hl => match us, hl with | [_, _], _ => rfl⟩
  have F14 := fun_mk (st := s_are_joined) l14 c14 k14
  have h14 := PySem.W.mg_of X G a14
  have D14 : Dn K mg "are_joined" s_are_joined ["web", "one", "other"] := ⟨_, _, F14, h14, F14.binds fun _ _ _ _ _ _ us hl => match us, hl with | [_, _, _], _ => rfl⟩
  have F15 := fun_mk (st := s_near_of) l15 c15 k15
  have h15 := PySem.W.mg_of X G a15
  have D15 : Dn K mg "near_of" s_near_of ["web", "place"] := ⟨_, _, F15, h15, F15.binds fun _ _ _ _ _ _ us hl => match us, hl with | [_, _], _ => rfl⟩
  have F16 := fun_mk (st := s_is_hall) l16 c16 k16
  have h16 := PySem.W.mg_of X G a16
  have D16 : Dn K mg "is_hall" s_is_hall ["thing"] := ⟨_, _, F16, h16, F16.binds fun _ _ _ _ _ _ us hl => match us, hl with | [_], _ => rfl⟩
  have F17 := fun_mk (st := s__are_rules) l17 c17 k17
  have h17 := PySem.W.mg_of X G a17
  have D17 : Dn K mg "_are_rules" s__are_rules ["thing", "k", "web"] := ⟨_, _, F17, h17, F17.binds fun _ _ _ _ _ _ us hl => match us, hl with | [_, _, _], _ => rfl⟩
  have F18 := fun_mk (st := s__law_power) l18 c18 k18
  have h18 := PySem.W.mg_of X G a18
  have D18 : Dn K mg "_law_power" s__law_power ["_law_k", "_law_many"] := ⟨_, _, F18, h18, F18.binds fun _ _ _ _ _ _ us hl => match us, hl with | [_, _], _ => rfl⟩
  have F19 := fun_mk (st := s__law_feed) l19 c19 k19
  have h19 := PySem.W.mg_of X G a19
  have D19 : Dn K mg "_law_feed" s__law_feed ["_law_script", "_law_k"] := ⟨_, _, F19, h19, F19.binds fun _ _ _ _ _ _ us hl => match us, hl with | [_, _], _ => rfl⟩
  have F20 := fun_mk (st := s__law_draw) l20 c20 k20
  have h20 := PySem.W.mg_of X G a20
  have D20 : Dn K mg "_law_draw" s__law_draw ["_law_feed_here", "_law_many"] := ⟨_, _, F20, h20, F20.binds fun _ _ _ _ _ _ us hl => match us, hl with | [_, _], _ => rfl⟩
  have F21 := fun_mk (st := s__law_one) l21 c21 k21
  have h21 := PySem.W.mg_of X G a21
  have D21 : Dn K mg "_law_one" s__law_one ["_law_feed_here", "_law_things"] := ⟨_, _, F21, h21, F21.binds fun _ _ _ _ _ _ us hl => match us, hl with | [_, _], _ => rfl⟩
  have F22 := fun_mk (st := s__law_mixed) l22 c22 k22
  have h22 := PySem.W.mg_of X G a22
  have D22 : Dn K mg "_law_mixed" s__law_mixed ["_law_feed_here", "_law_things"] := ⟨_, _, F22, h22, F22.binds fun _ _ _ _ _ _ us hl => match us, hl with | [_, _], _ => rfl⟩
  have F23 := fun_mk (st := s__law_names) l23 c23 k23
  have h23 := PySem.W.mg_of X G a23
  have D23 : Dn K mg "_law_names" s__law_names ["_law_feed_here", "_law_many"] := ⟨_, _, F23, h23, F23.binds fun _ _ _ _ _ _ us hl => match us, hl with | [_, _], _ => rfl⟩
  have F24 := fun_mk (st := s__law_web) l24 c24 k24
  have h24 := PySem.W.mg_of X G a24
  have D24 : Dn K mg "_law_web" s__law_web ["_law_feed_here", "_law_way", "_law_most"] := ⟨_, _, F24, h24, F24.binds fun _ _ _ _ _ _ us hl => match us, hl with | [_, _, _], _ => rfl⟩
  have F25 := fun_mk (st := s__law_neighbours) l25 c25 k25
  have h25 := PySem.W.mg_of X G a25
  have D25 : Dn K mg "_law_neighbours" s__law_neighbours ["_law_web_here", "_law_place"] := ⟨_, _, F25, h25, F25.binds fun _ _ _ _ _ _ us hl => match us, hl with | [_, _], _ => rfl⟩
  have F26 := fun_mk (st := s__law_rule) l26 c26 k26
  have h26 := PySem.W.mg_of X G a26
  have D26 : Dn K mg "_law_rule" s__law_rule ["_law_feed_here", "_law_k", "_law_others", "_law_sort"] := ⟨_, _, F26, h26, F26.binds fun _ _ _ _ _ _ us hl => match us, hl with | [_, _, _, _], _ => rfl⟩
  have F27 := fun_mk (st := s__law_hall) l27 c27 k27
  have h27 := PySem.W.mg_of X G a27
  have D27 : Dn K mg "_law_hall" s__law_hall ["_law_feed_here", "_law_way", "_law_sort", "_law_most"] := ⟨_, _, F27, h27, F27.binds fun _ _ _ _ _ _ us hl => match us, hl with | [_, _, _, _], _ => rfl⟩
  have F28 := fun_mk (st := s__law_great_web) l28 c28 k28
  have h28 := PySem.W.mg_of X G a28
  have D28 : Dn K mg "_law_great_web" s__law_great_web ["_law_feed_here"] := ⟨_, _, F28, h28, F28.binds fun _ _ _ _ _ _ us hl => match us, hl with | [_], _ => rfl⟩
  have F29 := fun_mk (st := s__law_great_hall) l29 c29 k29
  have h29 := PySem.W.mg_of X G a29
  have D29 : Dn K mg "_law_great_hall" s__law_great_hall ["_law_feed_here"] := ⟨_, _, F29, h29, F29.binds fun _ _ _ _ _ _ us hl => match us, hl with | [_], _ => rfl⟩
  have F30 := fun_mk (st := s__law_any_hall) l30 c30 k30
  have h30 := PySem.W.mg_of X G a30
  have D30 : Dn K mg "_law_any_hall" s__law_any_hall ["_law_feed_here"] := ⟨_, _, F30, h30, F30.binds fun _ _ _ _ _ _ us hl => match us, hl with | [_], _ => rfl⟩
  have F31 := fun_mk (st := s__law_is_name) l31 c31 k31
  have h31 := PySem.W.mg_of X G a31
  have D31 : Dn K mg "_law_is_name" s__law_is_name ["_law_thing"] := ⟨_, _, F31, h31, F31.binds fun _ _ _ _ _ _ us hl => match us, hl with | [_], _ => rfl⟩
  have F32 := fun_mk (st := s__law_is_web) l32 c32 k32
  have h32 := PySem.W.mg_of X G a32
  have D32 : Dn K mg "_law_is_web" s__law_is_web ["_law_thing"] := ⟨_, _, F32, h32, F32.binds fun _ _ _ _ _ _ us hl => match us, hl with | [_], _ => rfl⟩
  have F33 := fun_mk (st := s__law_are_states) l33 c33 k33
  have h33 := PySem.W.mg_of X G a33
  have D33 : Dn K mg "_law_are_states" s__law_are_states ["_law_thing", "_law_many", "_law_k"] := ⟨_, _, F33, h33, F33.binds fun _ _ _ _ _ _ us hl => match us, hl with | [_, _, _], _ => rfl⟩
  have F34 := fun_mk (st := s__law_is_rule) l34 c34 k34
  have h34 := PySem.W.mg_of X G a34
  have D34 : Dn K mg "_law_is_rule" s__law_is_rule ["_law_k", "_law_others", "_law_thing"] := ⟨_, _, F34, h34, F34.binds fun _ _ _ _ _ _ us hl => match us, hl with | [_, _, _], _ => rfl⟩
  have F35 := fun_mk (st := s__law_is_hall) l35 c35 k35
  have h35 := PySem.W.mg_of X G a35
  have D35 : Dn K mg "_law_is_hall" s__law_is_hall ["_law_thing"] := ⟨_, _, F35, h35, F35.binds fun _ _ _ _ _ _ us hl => match us, hl with | [_], _ => rfl⟩
  have F36 := fun_mk (st := s__law_near_web) l36 c36 k36
  have h36 := PySem.W.mg_of X G a36
  have D36 : Dn K mg "_law_near_web" s__law_near_web ["_law_feed_here", "_law_web_here"] := ⟨_, _, F36, h36, F36.binds fun _ _ _ _ _ _ us hl => match us, hl with | [_, _], _ => rfl⟩
  have F37 := fun_mk (st := s__law_near_rule) l37 c37 k37
  have h37 := PySem.W.mg_of X G a37
  have D37 : Dn K mg "_law_near_rule" s__law_near_rule ["_law_feed_here", "_law_k", "_law_others", "_law_rule_here"] := ⟨_, _, F37, h37, F37.binds fun _ _ _ _ _ _ us hl => match us, hl with | [_, _, _, _], _ => rfl⟩
  have F38 := fun_mk (st := s__law_near_hall) l38 c38 k38
  have h38 := PySem.W.mg_of X G a38
  have D38 : Dn K mg "_law_near_hall" s__law_near_hall ["_law_feed_here", "_law_hall_here"] := ⟨_, _, F38, h38, F38.binds fun _ _ _ _ _ _ us hl => match us, hl with | [_, _], _ => rfl⟩
  have F39 := fun_mk (st := s_law) l39 c39 k39
  have h39 := PySem.W.mg_of X G a39
  have e := hfa.symm.trans h39
  cases e
  have DK_is_web : Dk K mg "is_web" s_is_web ["thing"] ["thing"] := ⟨_, _, F9, h9, kb1 rfl fun _ => rfl⟩
  have DK_is_hall : Dk K mg "is_hall" s_is_hall ["thing"] ["thing"] := ⟨_, _, F16, h16, kb1 rfl fun _ => rfl⟩
  refine ⟨PySem.W.fnOf "law" "law" (defArgs s_law) (defBody s_law) (defScope s_law) .none kV39 dc39 pm39 an39 cd39 ct39, fun s u => .of_eq rfl, fun bs _ _ => ?_⟩
  have r_C__law_draw := ok_draw (P := P) (w := w) (base := bs)  D20 B
  have r_C__law_one := ok_one (P := P) (w := w) (base := bs)  D21 B r_C__law_draw
  have r_C__law_mixed := ok_mixed (P := P) (w := w) (base := bs)  D22 B r_C__law_draw
  have r_C__law_names := ok_names (P := P) (w := w) (base := bs)  D23 B r_C__law_mixed
  have r_C__law_web := ok_web (P := P) (w := w) (base := bs)  D24 B r_C__law_draw r_C__law_mixed r_C__law_names
  have r_C__law_neighbours := ok_near (P := P) (w := w) (base := bs)  D25 B
  have r_C__law_rule := ok_rule (P := P) (w := w) (base := bs)  D26 B r_C__law_draw r_C__law_mixed r_C__law_one
  have r_C__law_hall := ok_hall (P := P) (w := w) (base := bs)  D27 B r_C__law_one r_C__law_web r_C__law_neighbours r_C__law_rule
  have r_C__law_great_web := ok_great_web (P := P) (w := w) (base := bs)  D28 B r_C__law_draw r_C__law_mixed r_C__law_one
  have r_C__law_great_hall := ok_great_hall (P := P) (w := w) (base := bs)  D29 B r_C__law_draw r_C__law_great_web r_C__law_neighbours r_C__law_rule
  have r_C__law_any_hall := ok_any_hall (P := P) (w := w) (base := bs)  D30 B r_C__law_draw r_C__law_one r_C__law_hall r_C__law_great_hall
  have r_C_is_integer := ok_is_intO (P := P) (w := w) (base := bs)  D0 B
  have r_C_power := ok_power (P := P) (w := w) (base := bs)  D1 B
  have r_C_table_length := ok_table_length (P := P) (w := w) (base := bs)  D3 B r_C_power
  have r_C_sum_length := ok_sum_length (P := P) (w := w) (base := bs)  D4 B
  have r_C_are_states := ok_are_statesO (P := P) (w := w) (base := bs)  D2 B r_C_is_integer
  have r_C__are_sums := ok_are_sumsO (P := P) (w := w) (base := bs)  D7 B r_C_sum_length r_C_are_states
  have r_C_is_name := ok_is_nameO (P := P) (w := w) (base := bs)  D8 B Gg
  have r_C_is_one_of := ok_is_oneO (P := P) (w := w) (base := bs)  D13 B
  have r_C__is_road := ok_is_roadO (P := P) (w := w) (base := bs)  D12 B r_C_is_one_of
  have r_C__are_places := ok_are_placesO (P := P) (w := w) (base := bs)  D10 B Gg r_C_is_name
  have r_C__are_roads := ok_are_roadsO (P := P) (w := w) (base := bs)  D11 B Gg r_C__is_road
  have r_C_is_web := ok_is_webO (P := P) (w := w) (base := bs)  D9 B r_C__are_places r_C__are_roads
  have r_K_is_web := ok_is_webOK (P := P) (w := w) (base := bs)  DK_is_web B r_C__are_places r_C__are_roads
  have r_C__law_is_name := ok_law_is_name (P := P) (w := w) (base := bs)  D31 B
  have r_C__law_is_web := ok_law_is_web (P := P) (w := w) (base := bs)  D32 B r_C__law_is_name
  have r_C_are_joined := ok_are_joined (P := P) (w := w) (base := bs)  D14 B
  have r_C_near_of := ok_near_of (P := P) (w := w) (base := bs)  D15 B r_C_are_joined
  have r_C__is_worth := ok_is_worthO (P := P) (w := w) (base := bs)  D6 B Gr0 r_C_table_length r_C_are_states r_C__are_sums r_C_is_integer
  have r_C_is_rule := ok_is_ruleO (P := P) (w := w) (base := bs)  D5 B Gr0 r_C__is_worth
  have r_C__are_rules := ok_are_rulesO (P := P) (w := w) (base := bs)  D17 B r_C_is_rule r_C_near_of
  have r_C_is_hall := ok_is_hallO (P := P) (w := w) (base := bs)  D16 B hm r_C_is_integer r_C_is_web r_C_power r_C__are_rules
  have r_K_is_hall := ok_is_hallOK (P := P) (w := w) (base := bs)  DK_is_hall B hm r_C_is_integer r_C_is_web r_C_power r_C__are_rules
  have r_C__law_power := ok_lpower (P := P) (w := w) (base := bs)  D18 B
  have r_C__law_are_states := ok_law_states (P := P) (w := w) (base := bs)  D33 B
  have r_C__law_is_rule := ok_law_ruleO (P := P) (w := w) (base := bs)  D34 B r_C__law_power r_C__law_are_states
  have r_C__law_is_hall := ok_law_hallO (P := P) (w := w) (base := bs)  D35 B r_C__law_power r_C__law_is_web r_C__law_neighbours r_C__law_is_rule
  have r_C__law_one_spOneT := ok_oneT (P := P) (w := w) (base := bs)  D21 B r_C__law_draw
  have r_C__law_near_web := ok_near_web (P := P) (w := w) (base := bs)  D36 B r_C__law_draw r_C__law_one r_C__law_one_spOneT
  have r_C__law_near_rule := ok_near_rule (P := P) (w := w) (base := bs)  D37 B r_C__law_power r_C__law_draw r_C__law_one
  have r_C__law_near_hall := ok_near_hall (P := P) (w := w) (base := bs)  D38 B r_C__law_draw r_C__law_one r_C__law_one_spOneT r_C__law_near_web r_C__law_near_rule r_C__law_neighbours
  have r_C__law_feed := ok_feed (P := P) (w := w) (base := bs)  D19 B
  exact ok_law (P := P) (w := w) (base := bs)  F39 B r_C__law_feed r_C__law_any_hall r_C_is_hall r_K_is_hall r_C__law_is_hall r_C__law_near_hall
end
end J
open PySem PySem.W PyProof.Rows in
set_option maxRecDepth 100000 in
set_option maxHeartbeats 0 in
theorem PySem.Challenge.cw_eachinturn_k02_what_is_a_hall_holds : PySem.Challenge.rw_eachinturn_k02_what_is_a_hall.Holds := by
  w_on; o_law; k_head; (case hw => w_witness2)
  k_fill
  refine J.walk_ofG (l := PySem.Challenge.rw_eachinturn_k02_what_is_a_hall) (n := 63) (k := 9) (x := "_law_script") (sp := fun K => J.spLaw K) rfl (by decide) rfl ⟨rfl, by decide, by decide⟩ (fun w h Y => PySem.W.kIn_of Y) ?F (fun K H a ns hl _ hS => ⟨a, ns, rfl, hS, hl, fun _ => rfl⟩)
  case F =>
    intro w mg fa h KX G hmg
    refine' J.all_mk KX G hmg ?u_bs ?u_g0 ?u_g1 ?u_g2 ?u_g3 ?u_g4 ?u_g5 ?u_g6 ?u_aB ?u_lB ?u_a0 ?u_l0 ?u_c0 ?u_k0 ?u_a1 ?u_l1 ?u_c1 ?u_k1 ?u_a2 ?u_l2 ?u_c2 ?u_k2 ?u_a3 ?u_l3 ?u_c3 ?u_k3 ?u_a4 ?u_l4 ?u_c4 ?u_k4 ?u_a5 ?u_l5 ?u_c5 ?u_k5 ?u_a6 ?u_l6 ?u_c6 ?u_k6 ?u_a7 ?u_l7 ?u_c7 ?u_k7 ?u_a8 ?u_l8 ?u_c8 ?u_k8 ?u_a9 ?u_l9 ?u_c9 ?u_k9 ?u_a10 ?u_l10 ?u_c10 ?u_k10 ?u_a11 ?u_l11 ?u_c11 ?u_k11 ?u_a12 ?u_l12 ?u_c12 ?u_k12 ?u_a13 ?u_l13 ?u_c13 ?u_k13 ?u_a14 ?u_l14 ?u_c14 ?u_k14 ?u_a15 ?u_l15 ?u_c15 ?u_k15 ?u_a16 ?u_l16 ?u_c16 ?u_k16 ?u_a17 ?u_l17 ?u_c17 ?u_k17 ?u_a18 ?u_l18 ?u_c18 ?u_k18 ?u_a19 ?u_l19 ?u_c19 ?u_k19 ?u_a20 ?u_l20 ?u_c20 ?u_k20 ?u_a21 ?u_l21 ?u_c21 ?u_k21 ?u_a22 ?u_l22 ?u_c22 ?u_k22 ?u_a23 ?u_l23 ?u_c23 ?u_k23 ?u_a24 ?u_l24 ?u_c24 ?u_k24 ?u_a25 ?u_l25 ?u_c25 ?u_k25 ?u_a26 ?u_l26 ?u_c26 ?u_k26 ?u_a27 ?u_l27 ?u_c27 ?u_k27 ?u_a28 ?u_l28 ?u_c28 ?u_k28 ?u_a29 ?u_l29 ?u_c29 ?u_k29 ?u_a30 ?u_l30 ?u_c30 ?u_k30 ?u_a31 ?u_l31 ?u_c31 ?u_k31 ?u_a32 ?u_l32 ?u_c32 ?u_k32 ?u_a33 ?u_l33 ?u_c33 ?u_k33 ?u_a34 ?u_l34 ?u_c34 ?u_k34 ?u_a35 ?u_l35 ?u_c35 ?u_k35 ?u_a36 ?u_l36 ?u_c36 ?u_k36 ?u_a37 ?u_l37 ?u_c37 ?u_k37 ?u_a38 ?u_l38 ?u_c38 ?u_k38 ?u_a39 ?u_l39 ?u_c39 ?u_k39
    (case u_g0 => k_is)
    (case u_g1 => k_is)
    (case u_g2 => k_is)
    (case u_g3 => k_is)
    (case u_g4 => k_is)
    (case u_g5 => k_is)
    (case u_g6 => k_is)
    (case u_aB => k_is)
    (case u_lB => k_is)
    (case u_a0 => k_is)
    (case u_l0 => k_is)
    (case u_c0 => k_is)
    (case u_k0 => k_is)
    (case u_a1 => k_is)
    (case u_l1 => k_is)
    (case u_c1 => k_is)
    (case u_k1 => k_is)
    (case u_a2 => k_is)
    (case u_l2 => k_is)
    (case u_c2 => k_is)
    (case u_k2 => k_is)
    (case u_a3 => k_is)
    (case u_l3 => k_is)
    (case u_c3 => k_is)
    (case u_k3 => k_is)
    (case u_a4 => k_is)
    (case u_l4 => k_is)
    (case u_c4 => k_is)
    (case u_k4 => k_is)
    (case u_a5 => k_is)
    (case u_l5 => k_is)
    (case u_c5 => k_is)
    (case u_k5 => k_is)
    (case u_a6 => k_is)
    (case u_l6 => k_is)
    (case u_c6 => k_is)
    (case u_k6 => k_is)
    (case u_a7 => k_is)
    (case u_l7 => k_is)
    (case u_c7 => k_is)
    (case u_k7 => k_is)
    (case u_a8 => k_is)
    (case u_l8 => k_is)
    (case u_c8 => k_is)
    (case u_k8 => k_is)
    (case u_a9 => k_is)
    (case u_l9 => k_is)
    (case u_c9 => k_is)
    (case u_k9 => k_is)
    (case u_a10 => k_is)
    (case u_l10 => k_is)
    (case u_c10 => k_is)
    (case u_k10 => k_is)
    (case u_a11 => k_is)
    (case u_l11 => k_is)
    (case u_c11 => k_is)
    (case u_k11 => k_is)
    (case u_a12 => k_is)
    (case u_l12 => k_is)
    (case u_c12 => k_is)
    (case u_k12 => k_is)
    (case u_a13 => k_is)
    (case u_l13 => k_is)
    (case u_c13 => k_is)
    (case u_k13 => k_is)
    (case u_a14 => k_is)
    (case u_l14 => k_is)
    (case u_c14 => k_is)
    (case u_k14 => k_is)
    (case u_a15 => k_is)
    (case u_l15 => k_is)
    (case u_c15 => k_is)
    (case u_k15 => k_is)
    (case u_a16 => k_is)
    (case u_l16 => k_is)
    (case u_c16 => k_is)
    (case u_k16 => k_is)
    (case u_a17 => k_is)
    (case u_l17 => k_is)
    (case u_c17 => k_is)
    (case u_k17 => k_is)
    (case u_a18 => k_is)
    (case u_l18 => k_is)
    (case u_c18 => k_is)
    (case u_k18 => k_is)
    (case u_a19 => k_is)
    (case u_l19 => k_is)
    (case u_c19 => k_is)
    (case u_k19 => k_is)
    (case u_a20 => k_is)
    (case u_l20 => k_is)
    (case u_c20 => k_is)
    (case u_k20 => k_is)
    (case u_a21 => k_is)
    (case u_l21 => k_is)
    (case u_c21 => k_is)
    (case u_k21 => k_is)
    (case u_a22 => k_is)
    (case u_l22 => k_is)
    (case u_c22 => k_is)
    (case u_k22 => k_is)
    (case u_a23 => k_is)
    (case u_l23 => k_is)
    (case u_c23 => k_is)
    (case u_k23 => k_is)
    (case u_a24 => k_is)
    (case u_l24 => k_is)
    (case u_c24 => k_is)
    (case u_k24 => k_is)
    (case u_a25 => k_is)
    (case u_l25 => k_is)
    (case u_c25 => k_is)
    (case u_k25 => k_is)
    (case u_a26 => k_is)
    (case u_l26 => k_is)
    (case u_c26 => k_is)
    (case u_k26 => k_is)
    (case u_a27 => k_is)
    (case u_l27 => k_is)
    (case u_c27 => k_is)
    (case u_k27 => k_is)
    (case u_a28 => k_is)
    (case u_l28 => k_is)
    (case u_c28 => k_is)
    (case u_k28 => k_is)
    (case u_a29 => k_is)
    (case u_l29 => k_is)
    (case u_c29 => k_is)
    (case u_k29 => k_is)
    (case u_a30 => k_is)
    (case u_l30 => k_is)
    (case u_c30 => k_is)
    (case u_k30 => k_is)
    (case u_a31 => k_is)
    (case u_l31 => k_is)
    (case u_c31 => k_is)
    (case u_k31 => k_is)
    (case u_a32 => k_is)
    (case u_l32 => k_is)
    (case u_c32 => k_is)
    (case u_k32 => k_is)
    (case u_a33 => k_is)
    (case u_l33 => k_is)
    (case u_c33 => k_is)
    (case u_k33 => k_is)
    (case u_a34 => k_is)
    (case u_l34 => k_is)
    (case u_c34 => k_is)
    (case u_k34 => k_is)
    (case u_a35 => k_is)
    (case u_l35 => k_is)
    (case u_c35 => k_is)
    (case u_k35 => k_is)
    (case u_a36 => k_is)
    (case u_l36 => k_is)
    (case u_c36 => k_is)
    (case u_k36 => k_is)
    (case u_a37 => k_is)
    (case u_l37 => k_is)
    (case u_c37 => k_is)
    (case u_k37 => k_is)
    (case u_a38 => k_is)
    (case u_l38 => k_is)
    (case u_c38 => k_is)
    (case u_k38 => k_is)
    (case u_a39 => k_is)
    (case u_l39 => k_is)
    (case u_c39 => k_is)
    (case u_k39 => k_is)
    (case u_bs => kernel_rfl)
