import PyProof.Rows.All
import Wide.All
import OpenK.AllK
import Wide.FinOn
import PySem.Challenge.RW_eachinturn_k32_rings_of_arrows
import HandS.ForMost
import HandS.Deep
import HandS.Wide
import HandS.IsInst
import HandS.TupAny
import HandS.Style
import PyProof.P3In
import PyProof.Rows.EqDataRows
import HandS.Conv
import HandS.TupSets
import HandS.SetBool
import HandS.Strs
import HandS.ExcOwn
import HandS.ExcValue
import HandS.Text
import PyProof.Rows.SortShellAny
import PyProof.ReprLen
import PyProof.Rows.RegFStrParts
import HandS.Zip
import KE.KSortTupG
import HandS.RaiseMore
import HandS.Walk
import KE.KDictZip
import KE.GoesMore
import KE.KItemsList
import HandS.TupMul
import KE.KDictPairs
import KE.KDictKeyed
import HandS.Flow
import HandS.TupLen
import HandS.DictComp
import HandS.SetFor
import PyProof.Rows.ChunkEnd
import KE.SortData
import KE.KDictDisplayH
import KE.KeyNested
import HandS.List
import KE.KDictCopyH
import KE.DataMinMax
import HandS.WordsExc
import HandS.ExcIs
import HandS.ListItems
import HandS.SortInts
import KE.DatumIndex
import PyProof.NeKinds
set_option Elab.async false
set_option linter.all false
set_option maxRecDepth 100000
set_option maxHeartbeats 8000000
namespace J
section
open L2 PySem PySem.Spec PyProof.Rows
structure FnG (P : Program) (w : World) (K : PySem.W.Frag) (mg : Str → Option Value) (base : Heap) (k : Nat) (f : Addr) (fd : FuncData) (ps : List Str) (sp : Sp) : Prop where
  len : ∀ us H Q E, sp us H Q E → us.length = ps.length
  go : ∀ (A : Around) (fr : List Env) (s : Shared) (H : Hp) (ar : Args) (us : List Value) (vs : List V) (Q : VK) (E : XK), A.guards = some [] → Room k A → Env0 P w K mg base A fr s H → BindsTo s fd ar (ps.zip us) →
    Vals vs us → sp vs H Q E → codeAny (model P w) A (.call (.ref f) ar) (CR CX0 fr P w H s Q E) s
section
variable {base : Heap} {P : Program} {w : World} {K : PySem.W.Frag} {mg : Str → Option Value}
theorem okG {x qual : Str} {st : Stmt} {f : Addr} {fd : FuncData} {N ps : List Str} {k : Nat} {sp : Sp} (F : Fun K x qual st f fd) (S : FnScope N ps (defScope st)) (len : ∀ vs H Q E, sp vs H Q E → vs.length = ps.length)
    (bd : ∀ (cdv : Value) (A : Around) (fr : List Env) (s : Shared) (H : Hp) (vs : List V) (Q : VK) (E : XK), A.guards = some [] → Room k (A.deeper (envOfC qual (defScope st) s.heap.objs.size f cdv)) → sp vs H Q E →
      ∃ t, PSs (cxOf CX0 P w K mg base N qual (defScope st) f cdv A fr s H E).nox (defBody st) t ∧ t { nx := fun _ H' => Q .non H', rt := Q } (start N vs) H) :
    FnG P w K mg base (k + 1) f fd ps sp := by
  obtain ⟨oc, od, kV, doc, pm, an, cdv, ct, osl, rfl, lk, hcd⟩ := F.ex
  refine ⟨len, fun A fr s H ar us vs Q E hg hr e0 hb r hsp => ?_⟩
  have hlen := len _ _ _ _ hsp
  have kin : K.In s.heap := PySem.W.Frag.In.keeps e0.mod.kin (fun b o e => (e0.bs b o e).1)
  have nol : s.heap.NoLimit := Heap.NoLimit.keeps e0.mod.nolimit (fun b o e => (e0.bs b o e).1)
  obtain ⟨t, ht, hq⟩ := bd cdv A fr s H vs Q E hg (hr.deeper _) hsp
  have kd : ∀ z ∈ ps.zip us, (defScope st).names.lookup z.1 = some .local ∨ ((defScope st).names.lookup z.1 = some .cell ∧ ((cellsFrom (s.heap.objs.size + 1) (defScope st).names []).lookup z.1).isSome = true) := by
    rintro ⟨n, v⟩ hz
    cases S.par n (List.of_mem_zip hz).1 with
    | inl q => exact .inl q
    | inr q => exact .inr ⟨q, PySem.W.cellsFrom_some _ _ _ (.inl q)⟩
  refine codeAny_call_function hr.depth (kin _ _ lk) rfl S.co S.gen rfl (PySem.W.codeRec_of kin hcd) (hb _ _ _ _ (wpAny_newFunctionEnv_cells S.kind kd ?_))
  rintro env rfl s1 x
  refine ⟨nol.keeps x.toInCall.keep, codeAny_func (wpAny_mono (ht.nox.run [] s1 (start N vs) H _ (inv_start S hr.hd e0 hlen r x) hq) ?_ fun _ _ z => z)⟩
  rintro (_ | _ | _ | u) s' hs
  · obtain ⟨_, _, J, q⟩ := hs
    exact ⟨V.non, _, J.os, J.bare, J.base, J.hok, rfl, q⟩
  · obtain ⟨_, _, _, q⟩ := hs
    exact q.elim
  · obtain ⟨_, _, _, q⟩ := hs
    exact q.elim
  · obtain ⟨v, _, _, J, rv, q⟩ := hs
    exact ⟨v, _, J.os, J.bare, J.base, J.hok, rv, q⟩
end
section
variable {X : Cx} {k : Nat} {f : Addr} {fd : FuncData} {ps : List Str} {sp : Sp} {dvs : List V} {ds : List Value} {E : XK} {x : Str} {p pos : Pos} {e : Expr} {es : List Expr} {t : TA}
theorem go_fn {pins : List (Addr × Obj)} {σ : L2.St} {H : Hp} {s : Shared} {Q : VK} {us : List Value} {vs : List V} (F : FnG X.prog X.w X.K X.mg X.base k f fd ps sp) (gd : X.A.guards = some []) (hr : Room k X.A) (hb : Binds X.K fd ps ds) (hd : Vals dvs ds) (hx : Passes CX0 X E)
    (I : Inv X pins σ H s) (r : Vals vs us)
    (h : sp (vs ++ dvs) H Q E) : wpAny (model X.prog X.w) X.A (call (.ref f) us) (EP X pins σ Q) X.xe s := by
  have rr : Vals (vs ++ dvs) (us ++ ds) := r.append hd
  have ll : (us ++ ds).length = ps.length := rr.length.symm.trans (F.len _ _ _ _ h)
  have fin := F.go X.A X.stack s H ⟨us, []⟩ (us ++ ds) (vs ++ dvs) Q E gd hr I.env0 (hb s us I.kIn ll) rr h
  refine wpAny_call (codeAny_mono fin ?_)
  rintro (err | (_ | _ | _ | u)) s' hq
  · exact hx pins σ H s err s' I hq
  · exact hq.elim
  · exact hq.elim
  · exact hq.elim
  · exact I.after hq
theorem pe_callG (F : FnG X.prog X.w X.K X.mg X.base k f fd ps sp) (gd : X.A.guards = some []) (hr : Room k X.A) (hg : Gl X x) (hm : X.mg x = some (.ref f)) (hk : PySem.W.keepIn X.K (.ref f) = true) (hb : Binds X.K fd ps ds) (hd : Vals dvs ds) (hx : Passes CX0 X E)
    (ha : PA X (e :: es) t) (h1 : (x == ("__debug__" : Str)) = false := by decide) (h2 : starEach (e :: es) X.env = (false, eval e X.env) :: starEach es X.env := by rfl) (h3 : (backTo pos (starEach es X.env)).any (·.1) = false := by rfl) : PE X (.Call (.Name x p) (e :: es) [] pos) (tCall sp dvs E t) := by
  constructor
  intro pins s σ H Q I h
  refine wpAny_Call_Name_kw (ld_glob I hg hm (PySem.W.callWith_K (h₀ := X.base) I.ok.mod.kin hk (thn (ha.run pos pins s σ H _ I h) ?_) h2 h3) h1)
  rintro us s1 ⟨vs, H1, I1, r, q⟩
  exact ⟨I1.kIn, go_fn F gd hr hb hd hx I1 r q⟩
end
section
variable {P : Program} {w : World} {K : PySem.W.Frag} {mg mb : Str → Option Value} {k : Nat} {fa a : Addr} {fd : FuncData} {x : Str} {sp : Sp} {s₁ : Shared} {vs : List Value} {ns : List Int}
abbrev Told (s₁ : Shared) : Result → Shared → Prop := fun r s' => r = .ok (.ret (.bool true)) ∧ OldK s₁.heap s'.heap ∧ s'.os = s₁.os ∧ AllBare s'.gens
theorem run_core {H : Hp} (KX : K.In s₁.heap) (hns : s₁.heap.Ns mainGlobals mg) (hb : s₁.heap.Ns builtinsNs mb) (hbb : ∀ y : Str, y ≠ "__name__" → mb y = bootBuiltins y) (hlim : s₁.heap.NoLimit) (hg : s₁.gens = #[])
    (ha : s₁.heap.get? a = some { cls := .type "list", data := .seq vs.toArray }) (hr : Room k callerA)
    (F : ∀ bs : Heap, K.In bs → bs.Ns mainGlobals mg → FnG P w K mg bs k fa fd [x] sp) (hbind : ∀ (s : Shared) (u : Value), BindsTo s fd ⟨[u], []⟩ [(x, u)])
    (hO : Only H) (hsp : sp [.ref a] H (fun v _ => v = .bl true) fun _ _ _ => False) (hok : HOk P w H s₁.heap) (hA : ∀ b u, H b = some u → b = a) (hK : ∀ u, H a = some u → K.lookup a = none) :
    codeAny (model P w) callerA (.call (.ref fa) ⟨[.ref a], []⟩) (Told s₁) s₁ := by
  have away : ∀ {b : Addr} {o : Obj}, s₁.heap.get? b = some o → (∀ ws n, o.data ≠ .seq ws n) → H b = none := by
    intro b o e nd
    cases q : H b with
    | none => rfl
    | some u =>
      have eb := hA b u q
      rw [eb, ha] at e
      exact absurd (congrArg Obj.data (Option.some.inj e)).symm (nd _ _)
  have ns' : ∀ {b : Addr} {m : Str → Option Value}, s₁.heap.Ns b m → (hidT s₁.heap H).Ns b m := by
    rintro b m ⟨o, es, ep, e, dt, r⟩
    exact ⟨o, es, ep, hidT_get e (away e fun ws n z => by rw [dt] at z; cases z), dt, r⟩
  have kb : K.In (hidT s₁.heap H) := by
    intro b o e
    refine hidT_get (KX b o e) ?_
    cases q : H b with
    | none => rfl
    | some u =>
      have eb := hA b u q
      subst eb
      rw [hK u q] at e
      cases e
  have mo : Mod K mg (hidT s₁.heap H) := ⟨kb, ns' hns, ⟨mb, ns' hb, hbb⟩, by obtain ⟨mc, l1, l2⟩ := hlim; exact ⟨mc, ns' l1, l2⟩⟩
  have ev : Env0 P w K mg (hidT s₁.heap H) callerA [] s₁ H := ⟨rfl, mo, fun b o z => of_hidT z, Nat.le_of_eq (hidT_size _ _), trivial, by rintro b ⟨⟩, hok, .of_eq hg⟩
  have go := (F _ kb (ns' hns)).go callerA [] s₁ H ⟨[.ref a], []⟩ [.ref a] [.ref a] _ _ rfl hr ev (hbind s₁ (.ref a)) (.cons rfl .nil) hsp
  refine codeAny_mono go ?_
  rintro (err | (_ | _ | _ | u)) s' h
  · exact (show False by simpa [CR, CX0] using h).elim
  · exact h.elim
  · exact h.elim
  · exact h.elim
  · obtain ⟨v, H', os, bare, un, hok', r', q⟩ := h
    obtain rfl : v = .bl true := q
    obtain rfl : u = Value.bool true := r'
    refine ⟨rfl, OldK.of_keep ?_, os, bare⟩
    intro b o e
    rcases hO b with z | ⟨ob, xs, z⟩
    · exact un.keep b o e z (by rintro ⟨⟩) (by simp)
    · have f1 := (hok b _ z).1
      have f2 := (hok' b _ (un.frzs b ob _ z)).1
      rw [e] at f1
      cases f1
      exact f2
theorem law_callG (KX : K.In s₁.heap) (hns : s₁.heap.Ns mainGlobals mg) (hb : s₁.heap.Ns builtinsNs mb) (hbb : ∀ y : Str, y ≠ "__name__" → mb y = bootBuiltins y) (hlim : s₁.heap.NoLimit) (hg : s₁.gens = #[])
    (ha : s₁.heap.get? a = some { cls := .type "list", data := .seq vs.toArray })
    (hi : IntsAre vs ns) (hl : ns.length ≤ sizeLine) (hr : Room k callerA)
    (F : ∀ bs : Heap, K.In bs → bs.Ns mainGlobals mg → FnG P w K mg bs k fa fd [x] sp) (hbind : ∀ (s : Shared) (u : Value), BindsTo s fd ⟨[u], []⟩ [(x, u)])
    (hsp : ∀ H : Hp, Only H → SqL K H a (ns.map V.int) → sp [.ref a] H (fun v _ => v = .bl true) fun _ _ _ => False) :
    codeAny (model P w) callerA (.call (.ref fa) ⟨[.ref a], []⟩) (Told s₁) s₁ := by
  have rv := vals_ints hi
  have ln := hi.length
  by_cases hk : ∃ o, K.lookup a = some o
  · obtain ⟨o, hk⟩ := hk
    have e := KX a o hk
    rw [ha] at e
    cases e
    have hO : Only (fun _ => none) := fun _ => .inl rfl
    refine run_core (H := fun _ => none) KX hns hb hbb hlim hg ha hr F hbind hO (hsp _ hO (.inr ⟨_, vs.toArray, _, hk, rfl, rfl, rfl, ?_, by simpa using rv⟩)) ?_ ?_ ?_
    · rw [List.size_toArray, ln]
      exact hl
    · intro b u z
      cases z
    · intro b u z
      cases z
    · intro u z
      cases z
  · have hk0 : K.lookup a = none := by
      cases q : K.lookup a with
      | none => rfl
      | some o => exact absurd ⟨o, q⟩ hk
    let fz : HO := .frz { cls := .type "list", data := .seq vs.toArray } (.lst (ns.map V.int))
    let H : Hp := upd (fun _ => none) a fz
    have hO : Only H := by
      intro b
      by_cases e : b = a
      · subst e
        exact .inr ⟨_, _, upd_same⟩
      · exact .inl (upd_ne e)
    have one : ∀ b u, H b = some u → b = a := by
      intro b u z
      by_cases e : b = a
      · exact e
      · rw [show H b = none from upd_ne e] at z
        cases z
    refine run_core (H := H) KX hns hb hbb hlim hg ha hr F hbind hO (hsp _ hO (.inl (.inr ⟨_, upd_same⟩))) ?_ one fun _ _ => hk0
    intro b u z
    have eb := one b u z
    subst eb
    rw [show H b = some fz from upd_same] at z
    cases z
    refine ⟨ha, ?_, vs, _, rv, ha⟩
    rw [List.length_map]
    exact hl
end
theorem walk_ofG {l : PySem.W.OpenLaw} {n k : Nat} {q : Program} {loose : List Str} {XP : (Str → Option Value) → Heap → Prop} {YP : World → Heap → Prop} {d : DefRec} {K : Params → PySem.W.Frag} {sp : PySem.W.Frag → Sp} {x : Str}
    (hn : l.most = some n) (hn2 : n ≤ sizeLine)
    (hdf : d.params.defaults = []) (hr : Room k callerA) (hY : ∀ (w : World) (h : Heap), YP w h → (K w.params).In h)
    (F : ∀ (w : World) (mg : Str → Option Value) (fa : Addr) (h : Heap), (K w.params).In h → h.Ns mainGlobals mg →
      mg d.name = some (.ref fa) → ∃ fd : FuncData, (∀ (s : Shared) (u : Value), BindsTo s fd ⟨[u], []⟩ [(x, u)]) ∧ ∀ bs : Heap, (K w.params).In bs → bs.Ns mainGlobals mg → FnG l.prog w (K w.params) mg bs k fa fd [x] (sp (K w.params)))
    (hsp : ∀ (K : PySem.W.Frag) (H : Hp) (a : Addr) (ns : List Int), ns.length ≤ n → Only H → SqL K H a (ns.map V.int) → sp K [.ref a] H (fun v _ => v = .bl true) fun _ _ _ => False) :
    PySem.W.WalkO q loose XP YP l.row.toRowW d []
      (fun f vs => PySem.call f vs) := by
  refine Att.attach_call hn hdf fun w s0 s1 mg mb fa o pm cd doc a vs ns G Y ho hd hcd hmg hobj hints hlen hg => ?_
  have kk := hY w _ Y
  obtain ⟨fd, h1, h2⟩ := F w mg fa _ kk G.T.g hmg
  exact law_callG kk G.T.g G.T.b G.T.builtins G.T.nolimit hg hobj hints (Nat.le_trans hlen hn2) hr h2 h1 fun H hO hS => hsp _ H a ns hlen hO hS
end
section
open L2 PySem PySem.Spec PyProof.Rows
structure Bn (mg : Str → Option Value) : Prop where
  int_ : mg "int" = none
  str_ : mg "str" = none
  tuple_ : mg "tuple" = none
  list_ : mg "list" = none
  bool_ : mg "bool" = none
  len_ : mg "len" = none
  isinstance_ : mg "isinstance" = none
  all_ : mg "all" = none
  any_ : mg "any" = none
  max_ : mg "max" = none
  min_ : mg "min" = none
  sum_ : mg "sum" = none
  sorted_ : mg "sorted" = none
  repr_ : mg "repr" = none
  range_ : mg "range" = none
  enumerate_ : mg "enumerate" = none
  zip_ : mg "zip" = none
  set_ : mg "set" = none
structure Cl (P : Program) (w : World) (K : PySem.W.Frag) (mg : Str → Option Value) (base : Heap) (k : Nat) (x : Str) (ps : List Str) (sp : Sp) : Prop where
  ex : ∃ (f : Addr) (fd : FuncData), FnOk P w K mg base CX0 k f fd ps sp ∧ mg x = some (.ref f) ∧ PySem.W.keepIn K (.ref f) = true ∧ Binds K fd ps []
structure ClG (P : Program) (w : World) (K : PySem.W.Frag) (mg : Str → Option Value) (base : Heap) (k : Nat) (x : Str) (ps : List Str) (sp : Sp) : Prop where
  ex : ∃ (f : Addr) (fd : FuncData), FnG P w K mg base k f fd ps sp ∧ mg x = some (.ref f) ∧ PySem.W.keepIn K (.ref f) = true ∧ Binds K fd ps []
section
variable {X : Cx} {k k' : Nat} {ps : List Str} {sp : Sp} {E : XK} {x : Str} {p pos : Pos} {e : Expr} {es : List Expr} {t : TA}
theorem pe_c (C : Cl X.prog X.w X.K X.mg X.base k x ps sp) (hr : Room k' X.A) (ha : PA X (e :: es) t) (hg : Gl X x := by rfl) (hk : k ≤ k' := by decide) (h1 : (x == ("__debug__" : Str)) = false := by decide)
    (h2 : starEach (e :: es) X.env = (false, eval e X.env) :: starEach es X.env := by rfl) (h3 : (backTo pos (starEach es X.env)).any (·.1) = false := by rfl) :
    PE X (.Call (.Name x p) (e :: es) [] pos) (tCall sp [] (fun _ _ _ => False) t) := by
  obtain ⟨f, fd, F, hm, kp, b⟩ := C.ex
  exact pe_call F (hr.mono hk) hg hm kp b .nil pass0 ha h1 h2 h3
theorem pe_cG (C : ClG X.prog X.w X.K X.mg X.base k x ps sp) (gd : X.A.guards = some []) (hr : Room k' X.A) (ha : PA X (e :: es) t) (hg : Gl X x := by rfl) (hk : k ≤ k' := by decide) (h1 : (x == ("__debug__" : Str)) = false := by decide)
    (h2 : starEach (e :: es) X.env = (false, eval e X.env) :: starEach es X.env := by rfl) (h3 : (backTo pos (starEach es X.env)).any (·.1) = false := by rfl) :
    PE X (.Call (.Name x p) (e :: es) [] pos) (tCall sp [] (fun _ _ _ => False) t) := by
  obtain ⟨f, fd, F, hm, kp, b⟩ := C.ex
  exact pe_callG F gd (hr.mono hk) hg hm kp b .nil pass0 ha h1 h2 h3
end
structure Dn (K : PySem.W.Frag) (mg : Str → Option Value) (x : String) (st : Stmt) (ps : List Str) : Prop where
  ex : ∃ (f : Addr) (fd : FuncData), Fun K x x st f fd ∧ mg x = some (.ref f) ∧ Binds K fd ps []
section
variable {base : Heap} {P : Program} {w : World} {K : PySem.W.Frag} {mg : Str → Option Value}
theorem Dn.cl {x : String} {st : Stmt} {N ps : List Str} {k : Nat} {sp : Sp} (D : Dn K mg x st ps) (S : FnScope N ps (defScope st)) (len : ∀ vs H Q E, sp vs H Q E → vs.length = ps.length)
    (bd : ∀ (f : Addr) (cdv : Value) (A : Around) (fr : List Env) (s : Shared) (H : Hp) (vs : List V) (Q : VK) (E : XK), Room k (A.deeper (envOfC x (defScope st) s.heap.objs.size f cdv)) → sp vs H Q E →
      ∃ t, PSs (cxOf CX0 P w K mg base N x (defScope st) f cdv A fr s H E).nox (defBody st) t ∧ t { nx := fun _ H' => Q .non H', rt := Q } (start N vs) H) : Cl P w K mg base (k + 1) x ps sp := by
  obtain ⟨f, fd, F, hm, b⟩ := D.ex
  exact ⟨f, fd, F.ok S len (bd f), hm, F.kp, b⟩
theorem Dn.clG {x : String} {st : Stmt} {N ps : List Str} {k : Nat} {sp : Sp} (D : Dn K mg x st ps) (S : FnScope N ps (defScope st)) (len : ∀ vs H Q E, sp vs H Q E → vs.length = ps.length)
    (bd : ∀ (f : Addr) (cdv : Value) (A : Around) (fr : List Env) (s : Shared) (H : Hp) (vs : List V) (Q : VK) (E : XK), A.guards = some [] → Room k (A.deeper (envOfC x (defScope st) s.heap.objs.size f cdv)) → sp vs H Q E →
      ∃ t, PSs (cxOf CX0 P w K mg base N x (defScope st) f cdv A fr s H E).nox (defBody st) t ∧ t { nx := fun _ H' => Q .non H', rt := Q } (start N vs) H) : ClG P w K mg base (k + 1) x ps sp := by
  obtain ⟨f, fd, F, hm, b⟩ := D.ex
  exact ⟨f, fd, okG F S len (bd f), hm, F.kp, b⟩
end
end
section
open L2 PySem PySem.Spec PyProof.Rows
section
variable {X : Cx}
def rInt : List V → Hp → VK → Prop := fun xs H Q => (∃ i, xs = [.int i] ∧ Q (.int i) H) ∨ ∃ k, xs = [.bl k] ∧ Q (.int (if k then 1 else 0)) H
theorem j_int : CallR X (.type "int") rInt := call_int1
def rTupleOf (K : PySem.W.Frag) : List V → Hp → VK → Prop := fun xs H Q => ∃ p ys, xs = [.ref p] ∧ ((SqL K H p ys ∧ ∀ l, H l = none → Q (.ref l) (upd H l (.tup ys))) ∨ (SqT K H p ys ∧ Q (.ref p) H))
theorem j_tuple (h : CallR X (.type "tuple") (rTupleOf X.K) := by exact call_tuple_of) : CallR X (.type "tuple") (rTupleOf X.K) := h
def rListOf (K : PySem.W.Frag) : List V → Hp → VK → Prop := fun xs H Q => ∃ p ys, xs = [.ref p] ∧ (SqL K H p ys ∨ SqT K H p ys) ∧ ∀ l, H l = none → Q (.ref l) (upd H l (.lst ys))
theorem j_list (h : CallR X (.type "list") (rListOf X.K) := by exact call_list_of) : CallR X (.type "list") (rListOf X.K) := h
def rLenQ (K : PySem.W.Frag) : List V → Hp → VK → Prop := fun xs H Q => ∃ p ys, xs = [.ref p] ∧ (SqL K H p ys ∨ SqT K H p ys) ∧ Q (.int (ys.length : Nat)) H
theorem j_len (h : CallR X (.builtin "len") (rLenQ X.K) := by exact call_len_seq) : CallR X (.builtin "len") (rLenQ X.K) := h
def rMax : List V → Hp → VK → Prop := fun xs H Q => ∃ i j : Int, xs = [.int i, .int j] ∧ Q (.int (if j > i then j else i)) H
theorem j_max (hc : X.calm = true) : CallR X (.builtin "max") rMax := call_max2 hc
def rMin : List V → Hp → VK → Prop := fun xs H Q => ∃ i j : Int, xs = [.int i, .int j] ∧ Q (.int (if j < i then j else i)) H
theorem j_min (hc : X.calm = true) : CallR X (.builtin "min") rMin := call_min2 hc
def rAddS : R2 := fun x y H Q => ∃ i j : Str, x = .str i ∧ y = .str j ∧ i.length + j.length ≤ sizeLine ∧ Q (.str (i ++ j)) H
theorem o_addS : OpR X (binaryOp .Add) rAddS := op_add_str
end
section
variable {σ : L2.St} {H : Hp} {D : Ends} {Q : VK} {QB : Bool → Hp → Prop} {K : PySem.W.Frag}
theorem i_seq {t u : TS} {n : L2.St → Hp → Prop} {r : VK} {b c : L2.St → Hp → Prop} (h : t ⟨u ⟨n, r, b, c⟩, r, b, c⟩ σ H) : tSeq t u ⟨n, r, b, c⟩ σ H := h
theorem i_next {n : L2.St → Hp → Prop} {r : VK} {b c : L2.St → Hp → Prop} (h : n σ H) : tNext ⟨n, r, b, c⟩ σ H := h
theorem i_asg {te : TE} {g : TG} {n : L2.St → Hp → Prop} {r : VK} {b c : L2.St → Hp → Prop} (h : te σ H fun x H1 => g x σ H1 n) : tAsg te g ⟨n, r, b, c⟩ σ H := h
theorem i_gname {i : Nat} {v : V} {q : L2.St → Hp → Prop} (h : q (σ.set i (some v)) H) : gName i v σ H q := h
theorem i_ret {te : TE} {n : L2.St → Hp → Prop} {r : VK} {b c : L2.St → Hp → Prop} (h : te σ H r) : tRet te ⟨n, r, b, c⟩ σ H := h
theorem i_drop {te : TE} {n : L2.St → Hp → Prop} {r : VK} {b c : L2.St → Hp → Prop} (h : te σ H fun _ H1 => n σ H1) : tDrop te ⟨n, r, b, c⟩ σ H := h
theorem i_ifS {k : TT} {t u : TS} {n : L2.St → Hp → Prop} {r : VK} {b c : L2.St → Hp → Prop} (h : k σ H fun d H1 => if d = true then t ⟨n, r, b, c⟩ σ H1 else u ⟨n, r, b, c⟩ σ H1) : tIfS k t u ⟨n, r, b, c⟩ σ H := h
theorem i_test {t : TE} (h : t σ H fun x H' => ∃ k, x = .bl k ∧ QB k H') : tTest t σ H QB := h
theorem i_tB {t : TE} (h : t σ H fun x H' => ∃ k, x = .bl k ∧ QB k H') : tB t σ H QB := h
theorem i_not {t : TT} (h : t σ H fun c H1 => QB (!c) H1) : tNot t σ H QB := h
theorem i_and {t u : TT} (h : t σ H fun c H1 => if c = true then u σ H1 QB else QB false H1) : tAnd t u σ H QB := h
theorem i_or {t u : TT} (h : t σ H fun c H1 => if c = true then QB true H1 else u σ H1 QB) : tOr t u σ H QB := h
theorem i_andV {t u : TE} (h : t σ H fun x H1 => ∃ c, x = .bl c ∧ if c = true then u σ H1 Q else Q (.bl false) H1) : tAndV t u σ H Q := h
theorem i_blQ {b : Bool} {P : Bool → Prop} (h : P b) : ∃ k, V.bl b = .bl k ∧ P k := ⟨b, rfl, h⟩
theorem i_if {t : TT} {a b : TE} (h : t σ H fun c H1 => if c = true then a σ H1 Q else b σ H1 Q) : tIf t a b σ H Q := h
theorem i_op {r : R2} {a b : TE} (h : a σ H fun x H1 => b σ H1 fun y H2 => r x y H2 Q) : tOp r a b σ H Q := h
theorem i_un {r : V → Hp → VK → Prop} {a : TE} (h : a σ H fun x H1 => r x H1 Q) : tUn r a σ H Q := h
theorem i_chain {r r' : R2} {a b c : TE} (h : a σ H fun x H1 => b σ H1 fun y H2 => r x y H2 fun z H3 => ∃ k, z = .bl k ∧ if k = true then c σ H3 fun w' H4 => r' y w' H4 Q else Q (.bl false) H3) : tChain r r' a b c σ H Q := h
theorem i_var {i : Nat} {v : V} (e : σ[i]? = some (some v)) (h : Q v H) : tVar i σ H Q := ⟨v, e, h⟩
theorem i_c {v : V} (h : Q v H) : tC v σ H Q := h
theorem i_rI0 {g : Int → Int → V} {i j : Int} (h : Q (g i j) H) : rI0 g (.int i) (.int j) H Q := ⟨i, j, rfl, rfl, h⟩
theorem i_rI {C : Int → Int → Prop} {g : Int → Int → V} {i j : Int} (c : C i j) (h : Q (g i j) H) : rI C g (.int i) (.int j) H Q := ⟨i, j, rfl, rfl, c, h⟩
theorem i_rU {g : Int → V} {i : Int} (h : Q (g i) H) : rU g (.int i) H Q := ⟨i, rfl, h⟩
theorem i_eqI {i j : Int} (h : Q (.bl (decide (i = j))) H) : rEq (.int i) (.int j) H Q := ⟨rfl, by
  have e : decide (V.int i = V.int j) = decide (i = j) := by
    by_cases z : i = j
    · subst z
      simp
    · rw [decide_eq_false z, decide_eq_false (fun k => z (V.int.inj k))]
  rw [e]
  exact h⟩
theorem i_neI {i j : Int} (h : Q (.bl (decide (i ≠ j))) H) : rNe (.int i) (.int j) H Q := ⟨rfl, by
  have e : (!decide (V.int i = V.int j)) = decide (i ≠ j) := by
    by_cases z : i = j
    · subst z
      simp
    · rw [decide_eq_true z, decide_eq_false (fun k => z (V.int.inj k))]
      rfl
  rw [e]
  exact h⟩
theorem i_eqS {i j : Str} (h : Q (.bl (decide (i = j))) H) : rEq (.str i) (.str j) H Q := ⟨rfl, by
  have e : decide (V.str i = V.str j) = decide (i = j) := by
    by_cases z : i = j
    · subst z
      simp
    · rw [decide_eq_false z, decide_eq_false (fun k => z (V.str.inj k))]
  rw [e]
  exact h⟩
theorem i_neS {i j : Str} (h : Q (.bl (decide (i ≠ j))) H) : rNe (.str i) (.str j) H Q := ⟨rfl, by
  have e : (!decide (V.str i = V.str j)) = decide (i ≠ j) := by
    by_cases z : i = j
    · subst z
      simp
    · rw [decide_eq_true z, decide_eq_false (fun k => z (V.str.inj k))]
      rfl
  rw [e]
  exact h⟩
theorem i_ixL {p : Addr} {xs : List V} {i : Int} {v : V} (e : SqL K H p xs) (z : atI xs i = some v) (h : Q v H) : rIxL K (.ref p) (.int i) H Q := ⟨p, xs, i, v, rfl, rfl, e, z, h⟩
theorem i_ixT {p : Addr} {xs : List V} {i : Int} {v : V} (e : SqT K H p xs) (z : atI xs i = some v) (h : Q v H) : rIxT K (.ref p) (.int i) H Q := ⟨p, xs, i, v, rfl, rfl, e, z, h⟩
theorem i_setL {p : Addr} {xs : List V} {i : Int} {v : V} {j : Nat} {q : Hp → Prop} (e : H p = some (.lst xs)) (z : ixN xs.length i = some j) (h : q (upd H p (.lst (xs.set j v)))) : rSetL (.ref p) (.int i) v H q := ⟨p, xs, i, j, rfl, rfl, e, z, h⟩
theorem i_gsub {to ti : TE} {t : TSet} {v : V} {q : L2.St → Hp → Prop} (h : to σ H fun o H1 => ti σ H1 fun i H2 => t o i v H2 fun H3 => q σ H3) : gSub to ti t v σ H q := h
theorem i_cons {a : TE} {r : TA} {q : List V → Hp → Prop} (h : a σ H fun x H1 => r σ H1 fun xs H2 => q (x :: xs) H2) : tCons a r σ H q := h
theorem i_nil {q : List V → Hp → Prop} (h : q [] H) : tNil σ H q := h
theorem i_cb {r : List V → Hp → VK → Prop} {t : TA} (h : t σ H fun vs H1 => r vs H1 Q) : tCB r t σ H Q := h
theorem i_call {sp : Sp} {E : XK} {t : TA} (h : t σ H fun vs H1 => sp (vs ++ []) H1 Q E) : tCall sp [] E t σ H Q := h
theorem i_tup {t : TA} (h : t σ H fun xs H1 => xs.length ≤ sizeLine ∧ ∀ p, H1 p = none → Q (.ref p) (upd H1 p (.tup xs))) : tTup t σ H Q := h
theorem i_lst {t : TA} (h : t σ H fun xs H1 => xs.length ≤ sizeLine ∧ ∀ p, H1 p = none → Q (.ref p) (upd H1 p (.lst xs))) : tLst t σ H Q := h
theorem i_par {i j : Nat} {ta : TA} {n : L2.St → Hp → Prop} {r : VK} {b c : L2.St → Hp → Prop} (h : ta σ H fun vs H1 => ∃ v w, vs = [v, w] ∧ n ((σ.set i (some v)).set j (some w)) H1) : tPar i j ta ⟨n, r, b, c⟩ σ H := h
theorem i_par3 {i j l : Nat} {ta : TA} {n : L2.St → Hp → Prop} {r : VK} {b c : L2.St → Hp → Prop} (h : ta σ H fun vs H1 => ∃ u v w, vs = [u, v, w] ∧ n (((σ.set i (some u)).set j (some v)).set l (some w)) H1) : tPar3 i j l ta ⟨n, r, b, c⟩ σ H := h
theorem i_par3' {u v w : V} {P : V → V → V → Prop} (h : P u v w) : ∃ a b c, [u, v, w] = [a, b, c] ∧ P a b c := ⟨u, v, w, rfl, h⟩
theorem i_par' {v w : V} {P : V → V → Prop} (h : P v w) : ∃ a b, [v, w] = [a, b] ∧ P a b := ⟨v, w, rfl, h⟩
theorem i_int {i : Int} (h : Q (.int i) H) : rInt [.int i] H Q := .inl ⟨i, rfl, h⟩
theorem i_intB {b : Bool} (h : Q (.int (if b then 1 else 0)) H) : rInt [.bl b] H Q := .inr ⟨b, rfl, h⟩
theorem i_tupL {p : Addr} {ys : List V} (e : SqL K H p ys) (h : ∀ l, H l = none → Q (.ref l) (upd H l (.tup ys))) : rTupleOf K [.ref p] H Q := ⟨p, ys, rfl, .inl ⟨e, h⟩⟩
theorem i_lstT {p : Addr} {ys : List V} (e : SqT K H p ys) (h : ∀ l, H l = none → Q (.ref l) (upd H l (.lst ys))) : rListOf K [.ref p] H Q := ⟨p, ys, rfl, .inr e, h⟩
theorem i_lenL {p : Addr} {ys : List V} (e : SqL K H p ys) (h : Q (.int (ys.length : Nat)) H) : rLenQ K [.ref p] H Q := ⟨p, ys, rfl, .inl e, h⟩
theorem i_lenT {p : Addr} {ys : List V} (e : SqT K H p ys) (h : Q (.int (ys.length : Nat)) H) : rLenQ K [.ref p] H Q := ⟨p, ys, rfl, .inr e, h⟩
theorem i_all {p : Addr} {bs : List Bool} (e : SqL K H p (bs.map V.bl)) (h : Q (.bl (bs.all id)) H) : rAll K [.ref p] H Q := ⟨p, bs, rfl, e, h⟩
theorem i_max {i j : Int} (h : Q (.int (max i j)) H) : rMax [.int i, .int j] H Q := ⟨i, j, rfl, by
  have e : (if j > i then j else i) = max i j := by
    split <;> omega
  rw [e]
  exact h⟩
theorem i_min {i j : Int} (h : Q (.int (min i j)) H) : rMin [.int i, .int j] H Q := ⟨i, j, rfl, by
  have e : (if j < i then j else i) = min i j := by
    split <;> omega
  rw [e]
  exact h⟩
theorem i_ite {c : Prop} [Decidable c] {A B : Prop} (h1 : c → A) (h2 : ¬ c → B) : if decide c = true then A else B := by
  by_cases z : c
  · rw [decide_eq_true z, if_pos rfl]
    exact h1 z
  · rw [decide_eq_false z, if_neg Bool.false_ne_true]
    exact h2 z
theorem i_iteN {c : Prop} [Decidable c] {A B : Prop} (h1 : ¬ c → A) (h2 : c → B) : if (!decide c) = true then A else B := by
  by_cases z : c
  · rw [decide_eq_true z, if_neg (by decide)]
    exact h2 z
  · rw [decide_eq_false z, if_pos (by decide)]
    exact h1 z
theorem i_iteT {A B : Prop} (h : A) : if true = true then A else B := by rw [if_pos rfl]; exact h
theorem i_iteF {A B : Prop} (h : B) : if false = true then A else B := by rw [if_neg Bool.false_ne_true]; exact h
theorem sq_lst {p : Addr} {xs : List V} (e : H p = some (.lst xs)) : SqL K H p xs := .inl (.inl e)
theorem sq_tup {p : Addr} {xs : List V} (e : H p = some (.tup xs)) : SqT K H p xs := .inl (.inl e)
theorem at0 {α : Type} {x : α} {xs : List α} : atI (x :: xs) 0 = some x := atI_nat (j := 0) rfl
theorem at1 {α : Type} {x y : α} {xs : List α} : atI (x :: y :: xs) 1 = some y := atI_nat (j := 1) rfl
theorem at2 {α : Type} {x y z : α} {xs : List α} : atI (x :: y :: z :: xs) 2 = some z := atI_nat (j := 2) rfl
theorem ix_nat {n k : Nat} (h : k < n) : ixN n (k : Int) = some k := by
  unfold ixN
  rw [if_pos (by omega), if_pos (by omega)]
  simp
end
end
section
open L2 PySem PySem.Spec PyProof.Rows
section
variable {σ : L2.St} {H : Hp} {D : Ends} {Q : VK} {K : PySem.W.Frag}
theorem i_sl {r : V → Option Int → Option Int → Hp → VK → Prop} {te : TE} {tl th : TO} (h : te σ H fun x H1 => tl σ H1 fun l H2 => th σ H2 fun u H3 => r x l u H3 Q) : tSl r te tl th σ H Q := h
theorem i_npart {q : Option Int → Hp → Prop} (h : q none H) : tNoPart σ H q := h
def partK (q : Option Int → Hp → Prop) : VK := fun x H1 => ∃ i, x = .int i ∧ q (some i) H1
theorem i_part {te : TE} {q : Option Int → Hp → Prop} (h : te σ H (partK q)) : tPart te σ H q := h
theorem i_partI {i : Int} {q : Option Int → Hp → Prop} (h : q (some i) H) : partK q (.int i) H := ⟨i, rfl, h⟩
theorem i_slL {p : Addr} {xs : List V} {lo hi : Option Int} (e : SqL K H p xs) (h : ∀ l, H l = none → Q (.ref l) (upd H l (.lst (cutV xs lo hi)))) : rSlL K (.ref p) lo hi H Q := ⟨p, xs, rfl, e, h⟩
theorem i_bm {T : String} {r : V → List V → Hp → VK → Prop} {to : TE} {t : TA} (h : to σ H fun x H1 => tyV K T x H1 ∧ t σ H1 fun xs H2 => r x xs H2 Q) : tBM K T r to t σ H Q := h
theorem i_tyL {p : Addr} {xs : List V} {A : Prop} (e : SqL K H p xs) (h : A) : tyV K "list" (.ref p) H ∧ A := ⟨.inl ⟨rfl, xs, e⟩, h⟩
theorem i_app {p : Addr} {xs : List V} {y : V} (e : H p = some (.lst xs)) (z : xs.length < sizeLine) (h : Q .non (upd H p (.lst (xs ++ [y])))) : rAppend (.ref p) [y] H Q := ⟨p, xs, y, rfl, rfl, e, z, h⟩
theorem i_popAt {p : Addr} {xs : List V} {k : Nat} {y : V} (e : H p = some (.lst xs)) (b : k < 2 ^ 60) (z : xs[k]? = some y) (h : Q y (upd H p (.lst (xs.eraseIdx k)))) : rPopAt (.ref p) [.int (k : Int)] H Q :=
  ⟨p, xs, k, k, y, rfl, rfl, e, by omega, by omega, by
    have hk := (List.getElem?_eq_some_iff.mp z).1
    exact (ixN_seq (ix_nat hk)).1, z, h⟩
theorem i_ext {p q : Addr} {xs zs : List V} (e : H p = some (.lst xs)) (e2 : H q = some (.lst zs)) (z : xs.length + zs.length ≤ sizeLine) (h : Q .non (upd H p (.lst (xs ++ zs)))) : rExtend (.ref p) [.ref q] H Q := ⟨p, q, xs, zs, rfl, rfl, e, e2, z, h⟩
theorem i_gtup {n : Nat} {t : TGs} {p : Addr} {xs : List V} {q : L2.St → Hp → Prop} (e : SqT K H p xs) (z : xs.length = n) (h : t xs σ H q) : gTup K n t (.ref p) σ H q := ⟨p, xs, rfl, e, z, h⟩
theorem i_gcons {t : TG} {u : TGs} {v : V} {r : List V} {q : L2.St → Hp → Prop} (h : t v σ H fun σ' H' => u r σ' H' q) : gCons t u (v :: r) σ H q := ⟨v, r, rfl, h⟩
theorem i_gnil {q : L2.St → Hp → Prop} (h : q σ H) : gNil [] σ H q := ⟨rfl, h⟩
theorem i_sum {p : Addr} {ns : List Int} (e : SqL K H p (ns.map V.int)) (h : Q (.int ns.sum) H) : rSum K [.ref p] H Q := ⟨p, ns, rfl, e, h⟩
def rIxA (K : PySem.W.Frag) : R2 := fun x y H Q => rIxL K x y H Q ∨ rIxT K x y H Q
theorem ix_any {X : Cx} : IxR X (rIxA X.K) := by
  intro e1 e2 ps st sl hp x y v u Q I r1 r2 h hs
  rcases h with h | h
  · exact ix_list e1 e2 ps st sl hp x y v u Q I r1 r2 h hs
  · exact ix_tup e1 e2 ps st sl hp x y v u Q I r1 r2 h hs
def SqA (K : PySem.W.Frag) (H : Hp) (p : Addr) (xs : List V) : Prop := SqL K H p xs ∨ SqT K H p xs
theorem i_ixA {p : Addr} {xs : List V} {i : Int} {v : V} (e : SqA K H p xs) (z : atI xs i = some v) (h : Q v H) : rIxA K (.ref p) (.int i) H Q := by
  rcases e with e | e
  · exact .inl (i_ixL e z h)
  · exact .inr (i_ixT e z h)
theorem i_lenA {p : Addr} {ys : List V} (e : SqA K H p ys) (h : Q (.int (ys.length : Nat)) H) : rLenQ K [.ref p] H Q := ⟨p, ys, rfl, e, h⟩
theorem i_lstA {p : Addr} {ys : List V} (e : SqA K H p ys) (h : ∀ l, H l = none → Q (.ref l) (upd H l (.lst ys))) : rListOf K [.ref p] H Q := ⟨p, ys, rfl, e, h⟩
theorem perm_erase {α : Type} : ∀ (l : List α) (k : Nat) (h : k < l.length), (l[k] :: l.eraseIdx k).Perm l
  | [], _, h => absurd h (Nat.not_lt_zero _)
  | x :: r, 0, _ => List.Perm.refl _
  | x :: r, k + 1, h => by
    have hk : k < r.length := Nat.lt_of_succ_lt_succ h
    have ih := perm_erase r k hk
    show (r[k] :: x :: r.eraseIdx k).Perm (x :: r)
    exact (List.Perm.swap x r[k] _).trans (ih.cons x)
def forK (g : TG) (tb : TS) (D : Ends) (σ : L2.St) : It → Hp → Prop := fun J h => tFor (fun _ h' R => R J h') g tb D σ h
theorem i_for {wi : TI} {g : TG} {tb : TS} (h : wi σ H (forK g tb D σ)) : tFor wi g tb D σ H := h
def lcK (g : TG) (tt : TT) (te : TE) (vs : List Nat) (σ : L2.St) (Q : VK) : It → Hp → Prop := fun J h => tLc (fun _ h' R => R J h') g tt te vs σ h Q
theorem i_lc {wi : TI} {g : TG} {tt : TT} {te : TE} {vs : List Nat} (h : wi σ H (lcK g tt te vs σ Q)) : tLc wi g tt te vs σ H Q := h
section
variable {R : It → Hp → Prop}
def rgK (R : It → Hp → Prop) : List V → Hp → Prop := fun vs H => ∃ j : Int, vs = [.int j] ∧ -(2 ^ 62) ≤ j ∧ j < 2 ^ 62 ∧ R (Itr 0 j.toNat) H
def rgK2 (R : It → Hp → Prop) : List V → Hp → Prop := fun vs H => ∃ i j : Int, vs = [.int i, .int j] ∧ (-(2 ^ 62) ≤ i ∧ i < 2 ^ 62 ∧ -(2 ^ 62) ≤ j ∧ j < 2 ^ 62) ∧ R (Itr i (j - i).toNat) H
theorem i_rng1 {ta : TA} (h : ta σ H (rgK R)) : iRng1 ta σ H R := h
theorem i_rng2 {ta : TA} (h : ta σ H (rgK2 R)) : iRng2 ta σ H R := h
theorem i_rgK {j : Int} (b : -(2 ^ 62) ≤ j ∧ j < 2 ^ 62) (h : R (Itr 0 j.toNat) H) : rgK R [.int j] H := ⟨j, rfl, b.1, b.2, h⟩
theorem i_rgK2 {i j : Int} (b : -(2 ^ 62) ≤ i ∧ i < 2 ^ 62 ∧ -(2 ^ 62) ≤ j ∧ j < 2 ^ 62) (h : R (Itr i (j - i).toNat) H) : rgK2 R [.int i, .int j] H := ⟨i, j, rfl, b, h⟩
def ilK (K : PySem.W.Frag) (R : It → Hp → Prop) : V → Hp → Prop := fun x H1 => ∃ a, x = .ref a ∧ (∃ xs, SqL K H1 a xs) ∧ R (Itl K a) H1
def itK (K : PySem.W.Frag) (R : It → Hp → Prop) : V → Hp → Prop := fun x H1 => ∃ a, x = .ref a ∧ (∃ xs, SqT K H1 a xs) ∧ R (Itt K a) H1
theorem i_ilist {t : TE} (h : t σ H (ilK K R)) : iList K t σ H R := h
theorem i_itup {t : TE} (h : t σ H (itK K R)) : iTup K t σ H R := h
theorem i_ilK {p : Addr} {xs : List V} (e : SqL K H p xs) (h : R (Itl K p) H) : ilK K R (.ref p) H := ⟨p, rfl, ⟨xs, e⟩, h⟩
theorem i_itK {p : Addr} {xs : List V} (e : SqT K H p xs) (h : R (Itt K p) H) : itK K R (.ref p) H := ⟨p, rfl, ⟨xs, e⟩, h⟩
end
section
variable {g : TG} {tb : TS} {a : Addr} {xs : List V}
variable {n : L2.St → Hp → Prop} {r : VK} {b c : L2.St → Hp → Prop}
theorem f_list (xs : List V) (Pv : Nat → L2.St → Hp → Prop) (h0 : Pv 0 σ H) (hl : ∀ i σ H, i ≤ xs.length → Pv i σ H → SqL K H a xs)
    (hs : ∀ i x σ H, xs[i]? = some x → Pv i σ H → g x σ H fun σ2 H2 => tb ⟨Pv (i + 1), r, n, Pv (i + 1)⟩ σ2 H2) (hd : ∀ σ H, Pv xs.length σ H → n σ H) : forK g tb ⟨n, r, b, c⟩ σ (Itl K a) H := for_list Pv h0 hl hs hd
theorem f_tup (xs : List V) (Pv : Nat → L2.St → Hp → Prop) (h0 : Pv 0 σ H) (hl : ∀ i σ H, i ≤ xs.length → Pv i σ H → SqT K H a xs)
    (hs : ∀ i x σ H, xs[i]? = some x → Pv i σ H → g x σ H fun σ2 H2 => tb ⟨Pv (i + 1), r, n, Pv (i + 1)⟩ σ2 H2) (hd : ∀ σ H, Pv xs.length σ H → n σ H) : forK g tb ⟨n, r, b, c⟩ σ (Itt K a) H := for_tup Pv h0 hl hs hd
theorem f_range {lo : Int} {m : Nat} (Pv : Nat → L2.St → Hp → Prop) (h0 : Pv 0 σ H)
    (hs : ∀ i σ H, i < m → Pv i σ H → g (.int (lo + i)) σ H fun σ2 H2 => tb ⟨Pv (i + 1), r, n, Pv (i + 1)⟩ σ2 H2) (hd : ∀ σ H, Pv m σ H → n σ H) : forK g tb ⟨n, r, b, c⟩ σ (Itr lo m) H := for_range Pv h0 hs hd
end
section
variable {g : TG} {tt : TT} {te : TE} {vs : List Nat} {a : Addr}
def lcE (D : Addr) (N : Hp → Prop) : VK := fun y H4 => ∃ acc, H4 D = some (.lst acc) ∧ acc.length < sizeLine ∧ N (upd H4 D (.lst (acc ++ [y])))
theorem c_list (xs : List V) (Pv : Addr → Nat → Hp → Prop) (h0 : ∀ D, H D = none → Pv D 0 (upd H D (.lst []))) (hl : ∀ D i H, i ≤ xs.length → Pv D i H → SqL K H a xs)
    (hs : ∀ D i x H, xs[i]? = some x → Pv D i H → g x (wipe σ vs) H fun σ2 H2 => wipe σ2 vs = wipe σ vs ∧ tt σ2 H2 fun b H3 => if b = true then te σ2 H3 (lcE D (Pv D (i + 1))) else Pv D (i + 1) H3)
    (hd : ∀ D H, Pv D xs.length H → Q (.ref D) H) : lcK g tt te vs σ Q (Itl K a) H := fun D hD => lc_list (Qd := fun H => Q (.ref D) H) (Pv D) (h0 D hD) (hl D) (hs D) (hd D)
theorem c_tup (xs : List V) (Pv : Addr → Nat → Hp → Prop) (h0 : ∀ D, H D = none → Pv D 0 (upd H D (.lst []))) (hl : ∀ D i H, i ≤ xs.length → Pv D i H → SqT K H a xs)
    (hs : ∀ D i x H, xs[i]? = some x → Pv D i H → g x (wipe σ vs) H fun σ2 H2 => wipe σ2 vs = wipe σ vs ∧ tt σ2 H2 fun b H3 => if b = true then te σ2 H3 (lcE D (Pv D (i + 1))) else Pv D (i + 1) H3)
    (hd : ∀ D H, Pv D xs.length H → Q (.ref D) H) : lcK g tt te vs σ Q (Itt K a) H := fun D hD => lc_tup (Qd := fun H => Q (.ref D) H) (Pv D) (h0 D hD) (hl D) (hs D) (hd D)
theorem c_range {lo : Int} {n : Nat} (Pv : Addr → Nat → Hp → Prop) (h0 : ∀ D, H D = none → Pv D 0 (upd H D (.lst [])))
    (hs : ∀ D i H, i < n → Pv D i H → g (.int (lo + i)) (wipe σ vs) H fun σ2 H2 => wipe σ2 vs = wipe σ vs ∧ tt σ2 H2 fun b H3 => if b = true then te σ2 H3 (lcE D (Pv D (i + 1))) else Pv D (i + 1) H3)
    (hd : ∀ D H, Pv D n H → Q (.ref D) H) : lcK g tt te vs σ Q (Itr lo n) H := fun D hD => lc_range (Qd := fun H => Q (.ref D) H) (Pv D) (h0 D hD) (hs D) (hd D)
theorem upd_upd {h : Hp} {a : Addr} {o u : HO} : upd (upd h a o) a u = upd h a u := by
  funext b
  by_cases e : b = a
  · subst e
    rw [upd_same, upd_same]
  · rw [upd_ne e, upd_ne e, upd_ne e]
theorem i_yes {σ : L2.St} {H : Hp} {q : Bool → Hp → Prop} (h : q true H) : tYes σ H q := h
theorem i_wip {σ2 σ1 : L2.St} {vs : List Nat} {A : Prop} (e : wipe σ2 vs = wipe σ1 vs) (h : A) : wipe σ2 vs = wipe σ1 vs ∧ A := ⟨e, h⟩
theorem i_lcE {D : Addr} {N : Hp → Prop} {acc : List V} {y : V} (e : H D = some (.lst acc)) (z : acc.length < sizeLine) (h : N (upd H D (.lst (acc ++ [y])))) : lcE D N y H := ⟨acc, e, z, h⟩
theorem p_tup {v : Nat} (xs : List V) (f : Nat → V) (e : SqT K H a xs) (hz : xs.length ≤ 100000)
    (hs : ∀ D acc i x (N : VK), H D = none → xs[i]? = some x → N (f i) (upd H D (.lst acc)) → te ((wipe σ [v]).set v (some x)) (upd H D (.lst acc)) N)
    (hd : ∀ D, H D = none → Q (.ref D) (upd H D (.lst ((List.range xs.length).map f)))) : lcK (gName v) tYes te [v] σ Q (Itt K a) H := by
  have ke : ∀ D o, H D = none → SqT K (upd H D o) a xs := by
    intro D o hD
    rcases e with (e | ⟨ob, e⟩) | e
    · exact .inl (.inl (by rw [upd_ne (ne_of_none e hD)]; exact e))
    · exact .inl (.inr ⟨ob, by rw [upd_ne (ne_of_none e hD)]; exact e⟩)
    · exact .inr e
  refine c_tup xs (fun D i H' => H D = none ∧ H' = upd H D (.lst ((List.range i).map f))) (fun D hD => ⟨hD, rfl⟩) (fun D i H' _ h => ?_) (fun D i x H' hx h => ?_) (fun D H' h => ?_)
  · obtain ⟨hD, rfl⟩ := h
    exact ke D _ hD
  · obtain ⟨hD, rfl⟩ := h
    have hi := (List.getElem?_eq_some_iff.mp hx).1
    refine ⟨?_, ?_⟩
    · show List.set (List.set (List.set σ v none) v (some x)) v none = List.set σ v none
      rw [List.set_set, List.set_set]
    · show te _ _ _
      refine hs D _ i x _ hD hx (i_lcE upd_same ?_ ⟨hD, ?_⟩)
      · rw [List.length_map, List.length_range, sizeLine_eq]
        omega
      · rw [upd_upd, List.range_succ, List.map_append]
        rfl
  · obtain ⟨hD, rfl⟩ := h
    exact hd D hD
end
end
end
section
open L2 PySem PySem.Spec PyProof.Rows
def Fd (H : Hp) (a : Addr) (c : Int) : Prop := ∃ x y n : Int, H a = some (.lst [.int x, .int y, .int n]) ∧ 0 ≤ x ∧ 0 ≤ y ∧ y < 10 ^ 39 + 23 ∧ 0 ≤ n ∧ n ≤ c
def Ch (a : Addr) (H H' : Hp) : Prop := ∀ b o, b ≠ a → H b = some o → H' b = some o
section
variable {a b p q : Addr} {c d : Int} {H H1 H2 H' : Hp} {o : HO} {K : PySem.W.Frag} {xs : List V}
theorem Fd.mono (h : Fd H a c) (z : c ≤ d) : Fd H a d := by
  obtain ⟨x, y, n, h1, h2, h3, h4, h5, h6⟩ := h
  exact ⟨x, y, n, h1, h2, h3, h4, h5, by omega⟩
theorem Fd.ne (h : Fd H a c) (n : H q = none) : q ≠ a := by
  obtain ⟨x, y, m, h1, _⟩ := h
  exact fun z => by rw [z, h1] at n; cases n
theorem Fd.upd (h : Fd H a c) (n : a ≠ q) : Fd (upd H q o) a c := by
  obtain ⟨x, y, m, h1, r⟩ := h
  exact ⟨x, y, m, (upd_ne n).trans h1, r⟩
theorem Ch.refl (H : Hp) : Ch a H H := fun _ _ _ h => h
theorem Ch.trans (h : Ch a H H1) (k : Ch a H1 H2) : Ch a H H2 := fun b o n e => k b o n (h b o n e)
theorem Ch.of_same (h : Same H H') : Ch a H H' := fun b o _ e => h b o e
theorem Ch.upd_new (n : H q = none) : Ch a H (upd H q o) := fun b u _ e => by
  rw [upd_ne (ne_of_none e n)]
  exact e
theorem Ch.upd_self : Ch a H (upd H a o) := fun b u n e => by
  rw [upd_ne n]
  exact e
theorem Ch.upd_l (C : Ch a H H2) (n : H q = none) : Ch a H (upd H2 q o) := fun b u nb e => by
  rw [upd_ne (ne_of_none e n)]
  exact C b u nb e
theorem Ch.upd_n (C : Ch a H H2) (n : H2 q = none) : Ch a H (upd H2 q o) := fun b u nb e => by
  have z := C b u nb e
  rw [upd_ne (ne_of_none z n)]
  exact z
theorem i_al {n : Nat} {A : Prop} (z : n ≤ sizeLine) (h : A) : n ≤ sizeLine ∧ A := ⟨z, h⟩
theorem Ch.at (C : Ch a H H') (n : b ≠ a) (e : H b = some o) : H' b = some o := C b o n e
theorem Ch.free (C : Ch a H H') (n : q ≠ a) (e : H' q = none) : H q = none := by
  cases z : H q with
  | none => rfl
  | some o =>
    rw [C q o n z] at e
    cases e
theorem Ch.sqL (C : Ch a H H') (n : p ≠ a) (e : SqL K H p xs) : SqL K H' p xs := by
  rcases e with (e | ⟨o, e⟩) | e
  · exact .inl (.inl (C p _ n e))
  · exact .inl (.inr ⟨o, C p _ n e⟩)
  · exact .inr e
theorem Ch.sqT (C : Ch a H H') (n : p ≠ a) (e : SqT K H p xs) : SqT K H' p xs := by
  rcases e with (e | ⟨o, e⟩) | e
  · exact .inl (.inl (C p _ n e))
  · exact .inl (.inr ⟨o, C p _ n e⟩)
  · exact .inr e
theorem Ch.sqA (C : Ch a H H') (n : p ≠ a) (e : SqA K H p xs) : SqA K H' p xs := by
  rcases e with e | e
  · exact .inl (C.sqL n e)
  · exact .inr (C.sqT n e)
theorem SqA.l (e : SqL K H p xs) : SqA K H p xs := .inl e
theorem SqA.t (e : SqT K H p xs) : SqA K H p xs := .inr e
theorem Same.upd_new (n : H q = none) : Same H (upd H q o) := fun b u e => by
  rw [upd_ne (ne_of_none e n)]
  exact e
theorem sqA_same (C : Same H H') (e : SqA K H p xs) : SqA K H' p xs := by
  rcases e with e | (e | ⟨o, e⟩) | e
  · exact .inl (C.seq e)
  · exact .inr (.inl (.inl (C p _ e)))
  · exact .inr (.inl (.inr ⟨o, C p _ e⟩))
  · exact .inr (.inr e)
end
theorem cube_ok {s : Int} (h0 : 0 ≤ s) (h1 : s < 2 ^ 160) : CMulW s s ∧ CMulW (s * s) s := by
  have a : s.natAbs < 2 ^ 160 := by omega
  exact ⟨wide_mul a a (by decide) (by decide) (by decide), wide_mul (wide_lt a a) a (by decide) (by decide) (by decide)⟩
def nmSign (c : Nat) : Bool := (decide (97 ≤ c) && decide (c ≤ 122)) || (decide (48 ≤ c) && decide (c ≤ 57))
def nmOk (z : Str) : Bool := match z.cps.toList with
  | [] => false
  | c :: r => decide (r.length ≤ 7) && (decide (97 ≤ c) && decide (c ≤ 122)) && r.all nmSign
def IsNames (ns : List Str) : Prop := ns.Nodup ∧ ∀ z ∈ ns, nmOk z = true
theorem IsNames.perm {ns ms : List Str} (h : IsNames ns) (p : ms.Perm ns) : IsNames ms := ⟨p.nodup_iff.mpr h.1, fun z hz => h.2 z (p.mem_iff.mp hz)⟩
theorem IsNames.take {ns : List Str} (h : IsNames ns) (k : Nat) : IsNames (ns.take k) := ⟨h.1.sublist (List.take_sublist _ _), fun z hz => h.2 z (List.mem_of_mem_take hz)⟩
def spDraw : Sp := fun vs H Q _ => ∃ (a : Addr) (m c : Int), vs = [.ref a, .int m] ∧ Fd H a c ∧ 0 < m ∧ m < 1000000 ∧ c < 10 ^ 15 ∧ ∀ (r : Int) (H' : Hp), 0 ≤ r → r < m → Fd H' a (c + 1) → Ch a H H' → Q (.int r) H'
def spFeed (K : PySem.W.Frag) : Sp := fun vs H Q _ => ∃ (a : Addr) (ns : List Int) (k : Int), vs = [.ref a, .int k] ∧ SqL K H a (ns.map V.int) ∧ ns.length ≤ 63 ∧ 0 ≤ k ∧ k ≤ 100 ∧ ∀ (q : Addr) (H' : Hp), H q = none → Fd H' q 0 → Same H H' → Q (.ref q) H'
def spOne (K : PySem.W.Frag) : Sp := fun vs H Q _ => ∃ (a p : Addr) (c : Int) (xs : List V), vs = [.ref a, .ref p] ∧ Fd H a c ∧ SqA K H p xs ∧ p ≠ a ∧ 0 < xs.length ∧ xs.length < 1000000 ∧ c < 10 ^ 15 ∧
  ∀ (v : V) (H' : Hp), v ∈ xs → Fd H' a (c + 1) → Ch a H H' → Q v H'
def spMixed (K : PySem.W.Frag) : Sp := fun vs H Q _ => ∃ (a p : Addr) (c : Int) (xs : List V), vs = [.ref a, .ref p] ∧ Fd H a c ∧ SqA K H p xs ∧ p ≠ a ∧ xs.length ≤ 1000 ∧ c < 10 ^ 14 ∧
  ∀ (q : Addr) (ys : List V) (H' : Hp), ys.Perm xs → H q = none → H' q = some (.lst ys) → Fd H' a (c + 1000) → Ch a H H' → Q (.ref q) H'
def spNames : Sp := fun vs H Q _ => ∃ (a : Addr) (m c : Int), vs = [.ref a, .int m] ∧ Fd H a c ∧ 0 ≤ m ∧ m ≤ 12 ∧ c < 10 ^ 14 ∧
  ∀ (q : Addr) (ns : List Str) (H' : Hp), IsNames ns → (ns.length : Int) = m → H q = none → H' q = some (.lst (ns.map V.str)) → Fd H' a (c + 1000) → Ch a H H' → Q (.ref q) H'
end
section
open L2 PySem PySem.Spec PyProof.Rows
mutual
def tupOnly : PyData → Bool
  | .none | .bool _ | .int _ => true
  | .str _ => true
  | .tuple xs => tupOnlyAll xs
  | .list _ | .dict _ => false
def tupOnlyAll : List PyData → Bool
  | [] => true
  | x :: xs => tupOnly x && tupOnlyAll xs
end
def TK (K : PySem.W.Frag) (H H' : Hp) : Prop := ∀ b xs, SqT K H b xs → SqT K H' b xs
section
variable {K : PySem.W.Frag} {H H1 H2 H' : Hp} {a p q : Addr} {o : HO} {c : Int}
theorem TK.trans (h : TK K H H1) (k : TK K H1 H2) : TK K H H2 := fun b xs e => k b xs (h b xs e)
theorem TK.of_at (h : ∀ b xs, H b = some (.tup xs) → H' b = some (.tup xs)) (k : ∀ b ob xs, H b = some (.frz ob (.tup xs)) → H' b = some (.frz ob (.tup xs))) : TK K H H' := fun b xs e => by
  rcases e with (e | ⟨ob, e⟩) | e
  · exact .inl (.inl (h b xs e))
  · exact .inl (.inr ⟨ob, k b ob xs e⟩)
  · exact .inr e
theorem TK.same (h : Same H H') : TK K H H' := TK.of_at (fun b _ e => h b _ e) fun b _ _ e => h b _ e
theorem TK.new (n : H q = none) : TK K H (upd H q o) := TK.same (Same.upd_new n)
theorem TK.lst {xs : List V} (e : H q = some (.lst xs)) : TK K H (upd H q o) := by
  refine TK.of_at (fun b ys z => ?_) fun b ob ys z => ?_
  · rw [upd_ne (fun w => by rw [w, e] at z; cases z)]
    exact z
  · rw [upd_ne (fun w => by rw [w, e] at z; cases z)]
    exact z
theorem TK.ch (h : Ch a H H') (f : Fd H a c) : TK K H H' := by
  obtain ⟨x, y, n, e, _⟩ := f
  refine TK.of_at (fun b ys z => h b _ (fun w => ?_) z) fun b ob ys z => h b _ (fun w => ?_) z
  · rw [w, e] at z; cases z
  · rw [w, e] at z; cases z
mutual
theorem Dp.tk (h : TK K H H') : ∀ (d : PyData) (v : V), tupOnly d = true → Dp K H v d → Dp K H' v d
  | .none, _, _, e => by cases e; exact .non
  | .bool b, _, _, e => by cases e; exact .bl b
  | .int i, _, _, e => by cases e; exact .int i
  | .str s, _, _, e => by cases e; exact .str s
  | .list _, _, t, _ => by simp [tupOnly] at t
  | .dict _, _, t, _ => by simp [tupOnly] at t
  | .tuple ds, _, t, e => by
    cases e with
    | tup hs ha => exact .tup (h _ _ hs) (DpAll.tk h ds _ (by simpa [tupOnly] using t) ha)
theorem DpAll.tk (h : TK K H H') : ∀ (ds : List PyData) (vs : List V), tupOnlyAll ds = true → DpAll K H vs ds → DpAll K H' vs ds
  | [], _, _, e => by cases e; exact .nil
  | d :: ds, _, t, e => by
    have t' : tupOnly d = true ∧ tupOnlyAll ds = true := by simpa [tupOnlyAll] using t
    cases e with
    | cons e1 e2 => exact .cons (Dp.tk h d _ t'.1 e1) (DpAll.tk h ds _ t'.2 e2)
end
mutual
theorem Dp.same (h : Same H H') : ∀ (d : PyData) (v : V), Dp K H v d → Dp K H' v d
  | .none, _, e => by cases e; exact .non
  | .bool b, _, e => by cases e; exact .bl b
  | .int i, _, e => by cases e; exact .int i
  | .str s, _, e => by cases e; exact .str s
  | .list ds, _, e => by
    cases e with
    | lst hs ha => exact .lst (h.seq hs) (DpAll.same h ds _ ha)
  | .dict _, _, e => by cases e
  | .tuple ds, _, e => by
    cases e with
    | tup hs ha => exact .tup (TK.same h _ _ hs) (DpAll.same h ds _ ha)
theorem DpAll.same (h : Same H H') : ∀ (ds : List PyData) (vs : List V), DpAll K H vs ds → DpAll K H' vs ds
  | [], _, e => by cases e; exact .nil
  | d :: ds, _, e => by
    cases e with
    | cons e1 e2 => exact .cons (Dp.same h d _ e1) (DpAll.same h ds _ e2)
end
theorem DpAll.strs : ∀ (ns : List Str), DpAll K H (ns.map V.str) (ns.map PyData.str)
  | [] => .nil
  | z :: r => .cons (.str z) (DpAll.strs r)
theorem DpAll.app : ∀ {vs us : List V} {ds es : List PyData}, DpAll K H vs ds → DpAll K H us es → DpAll K H (vs ++ us) (ds ++ es)
  | _, _, _, _, .nil, k => k
  | _, _, _, _, .cons h t, k => .cons h (DpAll.app t k)
theorem DpAll.len : ∀ {vs : List V} {ds : List PyData}, DpAll K H vs ds → vs.length = ds.length
  | _, _, .nil => rfl
  | _, _, .cons _ t => congrArg (· + 1) (DpAll.len t)
theorem DpAll.get : ∀ {vs : List V} {ds : List PyData} {i : Nat} {v : V}, DpAll K H vs ds → vs[i]? = some v → ∃ d, ds[i]? = some d ∧ Dp K H v d
  | _, _, 0, _, .cons h _, e => by cases e; exact ⟨_, rfl, h⟩
  | _, _, n + 1, _, .cons _ t, e => DpAll.get (i := n) t (by simpa using e)
theorem DpAll.take : ∀ {vs : List V} {ds : List PyData} (k : Nat), DpAll K H vs ds → DpAll K H (vs.take k) (ds.take k)
  | _, _, 0, _ => .nil
  | _, _, k + 1, .nil => .nil
  | _, _, k + 1, .cons h t => .cons h (DpAll.take k t)
theorem DpAll.strs_inv : ∀ {vs : List V} {ns : List Str}, DpAll K H vs (ns.map PyData.str) → vs = ns.map V.str
  | _, [], .nil => rfl
  | _, z :: r, h => by
    cases h with
    | cons h1 h2 =>
      cases h1
      rw [DpAll.strs_inv h2]
      rfl
theorem DpAll.perm {us vs : List V} (pm : us.Perm vs) : ∀ {ds : List PyData}, DpAll K H vs ds → ∃ es, es.Perm ds ∧ DpAll K H us es := by
  induction pm with
  | nil => intro ds h; exact ⟨ds, .refl _, h⟩
  | cons x _ ih =>
    intro ds h
    cases h with
    | cons h1 h2 =>
      obtain ⟨es, p1, p2⟩ := ih h2
      exact ⟨_ :: es, p1.cons _, .cons h1 p2⟩
  | swap x y l =>
    intro ds h
    cases h with
    | cons h1 h2 =>
      cases h2 with
      | cons h2 h3 => exact ⟨_, .swap _ _ _, .cons h2 (.cons h1 h3)⟩
  | trans _ _ ih1 ih2 =>
    intro ds h
    obtain ⟨es, p1, k1⟩ := ih2 h
    obtain ⟨fs, p2, k2⟩ := ih1 k1
    exact ⟨fs, p2.trans p1, k2⟩
end
def LsD (K : PySem.W.Frag) (H : Hp) (L : Addr) (ds : List PyData) : Prop := ∃ vs, H L = some (.lst vs) ∧ DpAll K H vs ds ∧ tupOnlyAll ds = true
theorem tupOnlyAll_app : ∀ (ds es : List PyData), tupOnlyAll ds = true → tupOnlyAll es = true → tupOnlyAll (ds ++ es) = true
  | [], _, _, k => k
  | d :: ds, es, h, k => by
    have h' : tupOnly d = true ∧ tupOnlyAll ds = true := by simpa [tupOnlyAll] using h
    show (tupOnly d && tupOnlyAll (ds ++ es)) = true
    rw [h'.1, tupOnlyAll_app ds es h'.2 k]
    rfl
section
variable {K : PySem.W.Frag} {H H1 H2 H' : Hp} {a p q L : Addr} {o : HO} {c : Int} {ds : List PyData} {d : PyData} {vs : List V} {y : V}
theorem LsD.nil (e : H L = some (.lst [])) : LsD K H L [] := ⟨[], e, .nil, rfl⟩
theorem LsD.tk (h : LsD K H L ds) (t : TK K H H') (e : ∀ vs, H L = some (.lst vs) → H' L = some (.lst vs)) : LsD K H' L ds := by
  obtain ⟨vs, h1, h2, h3⟩ := h
  exact ⟨vs, e vs h1, DpAll.tk t _ _ h3 h2, h3⟩
theorem LsD.ch (h : LsD K H L ds) (k : Ch a H H') (f : Fd H a c) (n : L ≠ a) : LsD K H' L ds := h.tk (TK.ch k f) fun _ e => k _ _ n e
theorem LsD.new (h : LsD K H L ds) (n : H q = none) : LsD K (upd H q o) L ds := h.tk (TK.new n) fun _ e => (upd_ne (ne_of_none e n)).trans e
theorem LsD.push (e : H L = some (.lst vs)) (h : DpAll K H vs ds) (t : tupOnlyAll ds = true) (hy : Dp K H y d) (td : tupOnly d = true) : LsD K (upd H L (.lst (vs ++ [y]))) L (ds ++ [d]) :=
  ⟨vs ++ [y], upd_same, DpAll.tk (TK.lst e) _ _ (tupOnlyAll_app _ _ t (by show (tupOnly d && true) = true; rw [td]; rfl)) (DpAll.app h (.cons hy .nil)), tupOnlyAll_app _ _ t (by show (tupOnly d && true) = true; rw [td]; rfl)⟩
theorem LsD.ext {us : List V} {es : List PyData} (e : H L = some (.lst vs)) (h : DpAll K H vs ds) (t : tupOnlyAll ds = true) (h2 : DpAll K H us es) (t2 : tupOnlyAll es = true) : LsD K (upd H L (.lst (vs ++ us))) L (ds ++ es) :=
  ⟨vs ++ us, upd_same, DpAll.tk (TK.lst e) _ _ (tupOnlyAll_app _ _ t t2) (DpAll.app h h2), tupOnlyAll_app _ _ t t2⟩
theorem LsD.push2 {x z : V} {dx dz : PyData} (e : H L = some (.lst vs)) (h : DpAll K H vs ds) (t : tupOnlyAll ds = true) (n : H p = none) (hx : Dp K H x dx) (hz : Dp K H z dz) (tx : tupOnly dx = true) (tz : tupOnly dz = true) :
    LsD K (upd (upd H p (.tup [x, z])) L (.lst (vs ++ [.ref p]))) L (ds ++ [.tuple [dx, dz]]) := by
  have t1 : TK K H (upd H p (.tup [x, z])) := TK.new n
  refine LsD.push ((upd_ne (ne_of_none e n)).trans e) (DpAll.tk t1 _ _ t h) t (.tup (xs := [x, z]) (.inl (.inl upd_same)) (.cons (Dp.tk t1 _ _ tx hx) (.cons (Dp.tk t1 _ _ tz hz) .nil))) ?_
  show (tupOnly dx && (tupOnly dz && true)) = true
  rw [tx, tz]
  rfl
end
section
variable {X : Cx}
mutual
/-- data without truths -/
def noB : PyData → Bool
  | .none | .int _ | .str _ => true
  | .tuple xs | .list xs => noBAll xs
  | .bool _ | .dict _ => false
def noBAll : List PyData → Bool
  | [] => true
  | x :: xs => noB x && noBAll xs
end
mutual
theorem eqv_dec : ∀ (d e : PyData), noB d = true → noB e = true → (PyData.eqv d e = true ↔ d = e)
  | .none, e, _, k => by cases e <;> simp_all [PyData.eqv, noB]
  | .bool b, _, h, _ => by simp [noB] at h
  | .int i, e, _, k => by cases e <;> simp_all [PyData.eqv, noB]
  | .str s, e, _, k => by cases e <;> simp_all [PyData.eqv, noB]
  | .dict _, _, h, _ => by simp [noB] at h
  | .list xs, e, h, k => by
    cases e with
    | list ys => simpa [PyData.eqv] using eqvAll_dec xs ys (by simpa [noB] using h) (by simpa [noB] using k)
    | _ => simp_all [PyData.eqv, noB]
  | .tuple xs, e, h, k => by
    cases e with
    | tuple ys => simpa [PyData.eqv] using eqvAll_dec xs ys (by simpa [noB] using h) (by simpa [noB] using k)
    | _ => simp_all [PyData.eqv, noB]
theorem eqvAll_dec : ∀ (ds es : List PyData), noBAll ds = true → noBAll es = true → (PyData.eqvAll ds es = true ↔ ds = es)
  | [], [], _, _ => by simp [PyData.eqvAll]
  | [], _ :: _, _, _ => by simp [PyData.eqvAll]
  | _ :: _, [], _, _ => by simp [PyData.eqvAll]
  | d :: ds, e :: es, h, k => by
    have h' : noB d = true ∧ noBAll ds = true := by simpa [noBAll] using h
    have k' : noB e = true ∧ noBAll es = true := by simpa [noBAll] using k
    have h1 := eqv_dec d e h'.1 k'.1
    have h2 := eqvAll_dec ds es h'.2 k'.2
    simp only [PyData.eqvAll, Bool.and_eq_true, h1, h2, List.cons.injEq]
end
def rInQ (K : PySem.W.Frag) (neg : Bool) : R2 := fun x y H Q => ∃ d ds, Dp K H x d ∧ (Dp K H y (.list ds) ∨ Dp K H y (.tuple ds)) ∧ d.canLay0 = true ∧ PyData.canLayAll0 ds = true ∧ d.depth ≤ 60 ∧ Q (.bl (if neg then !(ds.any fun z => PyData.eqv z d) else ds.any fun z => PyData.eqv z d)) H
theorem o_inQ (hu : X.A.units + 64 < cLine) : OpR X (compareOp .In) (rInQ X.K false) := by
  intro pins s σ H x y v u Q I rx ry h
  obtain ⟨d, ds, hd, he | he, sd, se, hz, q⟩ := h
  · obtain ⟨as, r1⟩ := Dp.reads I d x v hd rx
    obtain ⟨bs, r2⟩ := Dp.reads I (.list ds) y u he ry
    exact SeqAt.in_list_reads r2 r1 se sd (by have := Nat.min_le_right (PyData.depthAll ds) d.depth; omega) ⟨.bl _, H, I, rfl, q⟩
  · obtain ⟨as, r1⟩ := Dp.reads I d x v hd rx
    obtain ⟨bs, r2⟩ := Dp.reads I (.tuple ds) y u he ry
    exact SeqAt.in_tuple_reads r2 r1 se sd (by have := Nat.min_le_right (PyData.depthAll ds) d.depth; omega) ⟨.bl _, H, I, rfl, q⟩
theorem o_notInQ (hu : X.A.units + 64 < cLine) : OpR X (compareOp .NotIn) (rInQ X.K true) := by
  intro pins s σ H x y v u Q I rx ry h
  obtain ⟨d, ds, hd, he | he, sd, se, hz, q⟩ := h
  · obtain ⟨as, r1⟩ := Dp.reads I d x v hd rx
    obtain ⟨bs, r2⟩ := Dp.reads I (.list ds) y u he ry
    exact SeqAt.notIn_list_reads r2 r1 se sd (by have := Nat.min_le_right (PyData.depthAll ds) d.depth; omega) ⟨.bl _, H, I, rfl, q⟩
  · obtain ⟨as, r1⟩ := Dp.reads I d x v hd rx
    obtain ⟨bs, r2⟩ := Dp.reads I (.tuple ds) y u he ry
    exact SeqAt.notIn_tuple_reads r2 r1 se sd (by have := Nat.min_le_right (PyData.depthAll ds) d.depth; omega) ⟨.bl _, H, I, rfl, q⟩
end
end
section
open L2 PySem PySem.Spec PyProof.Rows
def roadD (r : Str × Str) : PyData := .tuple [.str r.1, .str r.2]
def webD (ps : List Str) (rs : List (Str × Str)) : PyData := .tuple [.tuple (ps.map .str), .tuple (rs.map roadD)]
structure IsWeb (ps : List Str) (rs : List (Str × Str)) : Prop where
  names : IsNames ps
  pos : 0 < ps.length
  le8 : ps.length ≤ 8
  le14 : rs.length ≤ 14
  ends : ∀ r ∈ rs, r.1 ∈ ps ∧ r.2 ∈ ps ∧ r.1 ≠ r.2
  uniq : rs.Pairwise fun r s => r ≠ s ∧ r ≠ (s.2, s.1)
section
variable {σ : L2.St} {H : Hp} {Q : VK} {K : PySem.W.Frag}
theorem inV_strs {z : Str} {ns : List Str} : inV (.str z) (ns.map V.str) = decide (z ∈ ns) := by
  unfold inV
  induction ns with
  | nil => rfl
  | cons y r ih =>
    rw [List.map_cons, List.any_cons, ih]
    have e : eqV (V.str y) (V.str z) = decide (z = y) := by
      by_cases h : z = y
      · subst h
        simp [eqV]
      · rw [decide_eq_false h]
        simp [eqV]
        exact fun k => h k.symm
    rw [e]
    by_cases h : z = y
    · subst h
      simp
    · simp [h]
theorem flat_str {ns : List Str} : (ns.map V.str).all flatV = true := by
  induction ns with
  | nil => rfl
  | cons y r ih =>
    rw [List.map_cons, List.all_cons, ih]
    rfl
theorem i_inS {z : Str} {p : Addr} {ns : List Str} (e : SqA K H p (ns.map V.str)) (h : Q (.bl (decide (z ∈ ns))) H) : rIn K false (.str z) (.ref p) H Q :=
  ⟨p, ns.map V.str, rfl, e, rfl, flat_str, by
    rw [inV_strs]
    exact h⟩
theorem i_cut {te : TE} (P : V → Hp → Prop) (main : ∀ Q' : VK, (∀ v H', P v H' → Q' v H') → te σ H Q') (rest : ∀ v H', P v H' → Q v H') : te σ H Q := main Q rest
theorem i_cutS {t : TS} {n : L2.St → Hp → Prop} {r : VK} {b c : L2.St → Hp → Prop} (P : L2.St → Hp → Prop) (main : ∀ N : L2.St → Hp → Prop, (∀ σ' H', P σ' H' → N σ' H') → t ⟨N, r, b, c⟩ σ H) (rest : ∀ σ' H', P σ' H' → n σ' H') : t ⟨n, r, b, c⟩ σ H := main n rest
theorem i_iteB {b : Bool} {A B : Prop} (h1 : b = true → A) (h2 : b = false → B) : if b = true then A else B := by
  cases b
  · exact h2 rfl
  · exact h1 rfl
end
def pairD (p : Nat × Nat) : PyData := .tuple [.int p.1, .int p.2]
theorem pairs_any (pl : List (Nat × Nat)) (p : Nat × Nat) : ((pl.map pairD).any fun z => PyData.eqv z (pairD p)) = decide (p ∈ pl) := by
  induction pl with
  | nil => rfl
  | cons x r ih =>
    rw [List.map_cons, List.any_cons, ih]
    have e : PyData.eqv (pairD x) (pairD p) = decide (p = x) := by
      have h := eqv_dec (pairD x) (pairD p) rfl rfl
      by_cases k : p = x
      · subst k
        rw [decide_eq_true rfl]
        exact h.mpr rfl
      · rw [decide_eq_false k]
        cases q : PyData.eqv (pairD x) (pairD p) with
        | false => rfl
        | true =>
          have z := h.mp q
          simp only [pairD, PyData.tuple.injEq, List.cons.injEq, PyData.int.injEq, and_true] at z
          exact absurd (Prod.ext (Int.ofNat.inj z.1.symm) (Int.ofNat.inj z.2.symm)) k
    rw [e]
    by_cases k : p = x
    · subst k
      simp
    · simp [k]
theorem pairs_lay (pl : List (Nat × Nat)) : PyData.canLayAll0 (pl.map pairD) = true := by
  induction pl with
  | nil => rfl
  | cons x r ih =>
    rw [List.map_cons]
    show ((pairD x).canLay0 && PyData.canLayAll0 (r.map pairD)) = true
    rw [ih]
    rfl
theorem pairs_only (pl : List (Nat × Nat)) : tupOnlyAll (pl.map pairD) = true := by
  induction pl with
  | nil => rfl
  | cons x r ih =>
    rw [List.map_cons]
    show (tupOnly (pairD x) && tupOnlyAll (r.map pairD)) = true
    rw [ih]
    rfl
theorem roads_only (rs : List (Str × Str)) : tupOnlyAll (rs.map roadD) = true := by
  induction rs with
  | nil => rfl
  | cons x r ih =>
    rw [List.map_cons]
    show (tupOnly (roadD x) && tupOnlyAll (r.map roadD)) = true
    rw [ih]
    rfl
theorem strs_only (ns : List Str) : tupOnlyAll (ns.map PyData.str) = true := by
  induction ns with
  | nil => rfl
  | cons x r ih =>
    rw [List.map_cons]
    show (tupOnly (.str x) && tupOnlyAll (r.map PyData.str)) = true
    rw [ih]
    rfl
theorem web_only (ps : List Str) (rs : List (Str × Str)) : tupOnly (webD ps rs) = true := by
  show (tupOnlyAll (ps.map PyData.str) && (tupOnlyAll (rs.map roadD) && true)) = true
  rw [strs_only, roads_only]
  rfl
theorem perm_map_inv {α β : Type} {f : α → β} {es ms : List β} (h : es.Perm ms) : ∀ {l : List α}, ms = l.map f → ∃ l' : List α, l'.Perm l ∧ es = l'.map f := by
  induction h with
  | nil => intro l e; exact ⟨[], by rw [List.map_eq_nil_iff.mp e.symm], rfl⟩
  | cons x _ ih =>
    intro l e
    match l, e with
    | y :: r, e =>
      rw [List.map_cons, List.cons.injEq] at e
      obtain ⟨l', p, q⟩ := ih e.2
      exact ⟨y :: l', p.cons y, by rw [List.map_cons, e.1, q]⟩
  | swap x y k =>
    intro l e
    match l, e with
    | u :: v :: r, e =>
      rw [List.map_cons, List.map_cons, List.cons.injEq, List.cons.injEq] at e
      exact ⟨v :: u :: r, .swap _ _ _, by rw [List.map_cons, List.map_cons, e.1, e.2.1, e.2.2]⟩
    | [_], e => cases e
  | trans _ _ ih1 ih2 =>
    intro l e
    obtain ⟨l1, p1, q1⟩ := ih2 e
    obtain ⟨l2, p2, q2⟩ := ih1 q1
    exact ⟨l2, p2.trans p1, q2⟩
def RoadOf (ns : List Str) (p : Nat × Nat) (r : Str × Str) : Prop := (ns[p.1]? = some r.1 ∧ ns[p.2]? = some r.2) ∨ (ns[p.1]? = some r.2 ∧ ns[p.2]? = some r.1)
theorem nodup_at {α : Type} {l : List α} (h : l.Nodup) {i j : Nat} {x : α} (a : l[i]? = some x) (b : l[j]? = some x) : i = j := by
  obtain ⟨ha, ea⟩ := List.getElem?_eq_some_iff.mp a
  obtain ⟨hb, eb⟩ := List.getElem?_eq_some_iff.mp b
  exact (List.getElem_inj h).mp (ea.trans eb.symm)
theorem web_of {ns ps : List Str} {pl : List (Nat × Nat)} {rs : List (Str × Str)} (hn : IsNames ns) (pm : ps.Perm ns) (h0 : 0 < ns.length) (h8 : ns.length ≤ 8) (nd : pl.Nodup) (lt : ∀ p ∈ pl, p.1 < p.2) (l14 : pl.length ≤ 14) (len : rs.length = pl.length)
    (ro : ∀ (k : Nat) p r, pl[k]? = some p → rs[k]? = some r → RoadOf ns p r) : IsWeb ps rs := by
  have at_ : ∀ {k : Nat} {r : Str × Str}, rs[k]? = some r → ∃ p, pl[k]? = some p ∧ RoadOf ns p r := by
    intro k r h
    have hk : k < pl.length := len ▸ (List.getElem?_eq_some_iff.mp h).1
    exact ⟨pl[k], List.getElem?_eq_getElem hk, ro k _ r (List.getElem?_eq_getElem hk) h⟩
  have mem : ∀ {i : Nat} {z : Str}, ns[i]? = some z → z ∈ ps := fun h => pm.mem_iff.mpr (List.mem_of_getElem? h)
  refine ⟨hn.perm pm, by rw [pm.length_eq]; exact h0, by rw [pm.length_eq]; exact h8, by omega, fun r hr => ?_, ?_⟩
  · obtain ⟨k, hk⟩ := List.getElem?_of_mem hr
    obtain ⟨p, hp, q⟩ := at_ hk
    have hlt := lt p (List.mem_of_getElem? hp)
    have ne : ∀ {i j : Nat} {x y : Str}, ns[i]? = some x → ns[j]? = some y → i ≠ j → x ≠ y := fun a b n e => n (nodup_at hn.1 a (e ▸ b))
    rcases q with ⟨q1, q2⟩ | ⟨q1, q2⟩
    · exact ⟨mem q1, mem q2, ne q1 q2 (by omega)⟩
    · exact ⟨mem q2, mem q1, ne q2 q1 (by omega)⟩
  · rw [(List.pairwise_iff_getElem)]
    intro i j hi hj hij
    obtain ⟨p, hp, q⟩ := at_ (List.getElem?_eq_getElem hi)
    obtain ⟨p', hp', q'⟩ := at_ (List.getElem?_eq_getElem hj)
    have hlt := lt p (List.mem_of_getElem? hp)
    have hlt' := lt p' (List.mem_of_getElem? hp')
    have key : p ≠ p' := fun e => by
      have := nodup_at nd hp (e ▸ hp')
      omega
    have inj : ∀ {a b : Nat} {x : Str}, ns[a]? = some x → ns[b]? = some x → a = b := fun a b => nodup_at hn.1 a b
    have cross : ∀ {x y : Str}, (ns[p.1]? = some x ∧ ns[p.2]? = some y) → (ns[p'.1]? = some x ∧ ns[p'.2]? = some y) → False := fun a b => key (Prod.ext (inj a.1 b.1) (inj a.2 b.2))
    have anti : ∀ {x y : Str}, (ns[p.1]? = some x ∧ ns[p.2]? = some y) → (ns[p'.1]? = some y ∧ ns[p'.2]? = some x) → False := fun a b => by
      have h1 := inj a.1 b.2
      have h2 := inj a.2 b.1
      omega
    constructor
    · intro e
      rw [e] at q
      rcases q with q | q <;> rcases q' with q' | q'
      · exact cross q q'
      · exact anti q q'
      · exact anti q q'
      · exact cross q q'
    · intro e
      rw [e] at q
      rcases q with q | q <;> rcases q' with q' | q'
      · exact anti q q'
      · exact cross q q'
      · exact cross q q'
      · exact anti q q'
theorem sl_of {c : Nat} (hc : 97 ≤ c ∧ c ≤ 122) : nmSign c = true := by
  unfold nmSign
  simp only [Bool.or_eq_true, Bool.and_eq_true, decide_eq_true_eq]
  exact .inl hc
def rItS : R2 := fun x y H Q => ∃ (z : Str) (i : Int) (c : Nat), x = .str z ∧ y = .int i ∧ 0 ≤ i ∧ i < 2 ^ 63 ∧ i < z.length ∧ z.cps[i.toNat]? = some c ∧ Q (.str ⟨#[c]⟩) H
theorem pe_its {X : Cx} {e b : Expr} {ta tb : TE} {pos : Pos} (ha : PE X e ta) (hb : PE X b tb) (hs : PlainIxT b) : PE X (.Subscript e b pos) (tOp rItS ta tb) := pe_item_str ha hb hs
def spWeb (K : PySem.W.Frag) : Sp := fun vs H Q _ => ∃ (a : Addr) (way : Str) (most c : Int), vs = [.ref a, .str way, .int most] ∧ Fd H a c ∧ 1 ≤ most ∧ most ≤ 8 ∧ c < 10 ^ 13 ∧
  ∀ (v : V) (ps : List Str) (rs : List (Str × Str)) (H' : Hp), IsWeb ps rs → (ps.length : Int) ≤ max 3 most → Dp K H' v (webD ps rs) → Fd H' a (c + 10000) → Ch a H H' → Q v H'
end
section
open L2 PySem PySem.Spec PyProof.Rows
theorem nmOk_str {z : Str} (h : nmOk z = true) : PyData.strOk z = true := by
  unfold nmOk at h
  split at h
  · cases h
  · rename_i c r e
    simp only [Bool.and_eq_true, decide_eq_true_eq, List.all_eq_true] at h
    unfold PyData.strOk
    rw [← Array.all_toList, e, List.all_eq_true]
    intro x hx
    rcases List.mem_cons.mp hx with rfl | hx
    · simp; omega
    · have := h.2 x hx
      unfold nmSign at this
      simp only [Bool.or_eq_true, Bool.and_eq_true, decide_eq_true_eq] at this
      simp; omega
theorem strs_lay {ns : List Str} (h : ∀ z ∈ ns, nmOk z = true) : PyData.canLayAll0 (ns.map PyData.str) = true := by
  induction ns with
  | nil => rfl
  | cons x r ih =>
    show (PyData.canLay0 (.str x) && PyData.canLayAll0 (r.map PyData.str)) = true
    rw [ih fun z hz => h z (List.mem_cons_of_mem _ hz)]
    show (PyData.strOk x && true) = true
    rw [nmOk_str (h x List.mem_cons_self)]
    rfl
theorem road_lay {r : Str × Str} (h1 : nmOk r.1 = true) (h2 : nmOk r.2 = true) : (roadD r).canLay0 = true := by
  show (PyData.strOk r.1 && (PyData.strOk r.2 && true)) = true
  rw [nmOk_str h1, nmOk_str h2]
  rfl
theorem roads_any (rs : List (Str × Str)) (p : Str × Str) : ((rs.map roadD).any fun z => PyData.eqv z (roadD p)) = decide (p ∈ rs) := by
  induction rs with
  | nil => rfl
  | cons x r ih =>
    rw [List.map_cons, List.any_cons, ih]
    have h := eqv_dec (roadD x) (roadD p) rfl rfl
    have e : PyData.eqv (roadD x) (roadD p) = decide (p = x) := by
      by_cases k : p = x
      · subst k
        rw [decide_eq_true rfl]
        exact h.mpr rfl
      · rw [decide_eq_false k]
        cases q : PyData.eqv (roadD x) (roadD p) with
        | false => rfl
        | true =>
          have z := h.mp q
          simp only [roadD, PyData.tuple.injEq, List.cons.injEq, PyData.str.injEq, and_true] at z
          exact absurd (Prod.ext z.1.symm z.2.symm) k
    rw [e]
    by_cases k : p = x
    · subst k
      simp
    · simp [k]
theorem web_parts {K : PySem.W.Frag} {H : Hp} {v : V} {ps : List Str} {rs : List (Str × Str)} (h : Dp K H v (webD ps rs)) : ∃ (t tp tr : Addr) (xs : List V), v = .ref t ∧ SqT K H t [.ref tp, .ref tr] ∧ SqT K H tp (ps.map V.str) ∧ SqT K H tr xs ∧ DpAll K H xs (rs.map roadD) ∧
    Dp K H (.ref tr) (.tuple (rs.map roadD)) ∧ Dp K H (.ref tp) (.tuple (ps.map .str)) := by
  unfold webD at h
  cases h with
  | tup hs ha =>
    cases ha with
    | cons g1 g2 =>
      cases g2 with
      | cons g3 g4 =>
        cases g4
        have g1' := g1
        have g3' := g3
        cases g1 with
        | tup s1 a1 =>
          cases g3 with
          | tup s3 a3 =>
            have e := DpAll.strs_inv a1
            subst e
            exact ⟨_, _, _, _, rfl, hs, s1, s3, a3, g3', g1'⟩
section
variable {σ : L2.St} {H : Hp} {Q : VK} {K : PySem.W.Frag}
theorem strs_shaped {ns : List Str} (h : ∀ z ∈ ns, nmOk z = true) : SeqAt.shaped (.list (ns.map PyData.str)) = true := by
  have hd : PyData.depth (.list (ns.map PyData.str)) ≤ 64 := by
    show PyData.depthAll (ns.map PyData.str) + 1 ≤ 64
    have : PyData.depthAll (ns.map PyData.str) = 0 := by
      clear h
      induction ns with
      | nil => rfl
      | cons x r ih =>
        show max 0 (PyData.depthAll (r.map PyData.str)) = 0
        rw [ih]
        rfl
    omega
  show (PyData.canLayAll0 (ns.map PyData.str) && decide (PyData.depth (.list (ns.map PyData.str)) ≤ 64)) = true
  rw [strs_lay h, decide_eq_true hd]
  rfl
end
end
section
open L2 PySem PySem.Spec PyProof.Rows
section
variable {X : Cx} {K : PySem.W.Frag}
theorem k_tuple (hK : X.K = K := by rfl) : CallR X (.type "tuple") (rTupleOf K) := by subst hK; exact j_tuple
theorem k_list (hK : X.K = K := by rfl) : CallR X (.type "list") (rListOf K) := by subst hK; exact j_list
theorem k_len (hK : X.K = K := by rfl) : CallR X (.builtin "len") (rLenQ K) := by subst hK; exact j_len
theorem k_all (hc : X.calm = true) (hK : X.K = K := by rfl) : CallR X (.builtin "all") (rAll K) := by subst hK; exact cr_all hc
theorem k_isi (hK : X.K = K := by rfl) : CallR X (.builtin "isinstance") (rIsi K) := by subst hK; exact call_isi
theorem k_ixL (hK : X.K = K := by rfl) : IxR X (rIxL K) := by subst hK; exact ix_list
theorem k_ixT (hK : X.K = K := by rfl) : IxR X (rIxT K) := by subst hK; exact ix_tup
theorem k_slL (hK : X.K = K := by rfl) : SlR X (rSlL K) := by subst hK; exact sl_list
theorem k_inS (hK : X.K = K := by rfl) : OpR X (compareOp .In) (rIn K false) := by subst hK; exact op_in_seq
theorem k_inQ (hu : X.A.units + 64 < cLine) (hK : X.K = K := by rfl) : OpR X (compareOp .In) (rInQ K false) := by subst hK; exact o_inQ hu
theorem k_notInQ (hu : X.A.units + 64 < cLine) (hK : X.K = K := by rfl) : OpR X (compareOp .NotIn) (rInQ K true) := by subst hK; exact o_notInQ hu
theorem k_eqD (hu : X.A.units + 64 < cLine) (hK : X.K = K := by rfl) : OpR X (compareOp .Eq) (rEqD K) := by subst hK; exact op_eqD hu
theorem k_neD (hu : X.A.units + 64 < cLine) (hK : X.K = K := by rfl) : OpR X (compareOp .NotEq) (rNeD K) := by subst hK; exact op_neD hu
variable {e : Expr} {es : List Expr} {t : TE} {tg : Expr} {to : TE} {ta : TA} {name : Str} {apos cpos pos : Pos} {T id : String} {r : V → List V → Hp → VK → Prop} {o : Expr}
theorem kpi_list (h : PE X e t) (hK : X.K = K := by rfl) : PI X tg e (iList K t) := by subst hK; exact pi_list h
theorem kpi_tup (h : PE X e t) (hK : X.K = K := by rfl) : PI X tg e (iTup K t) := by subst hK; exact pi_tup h
theorem kpg_tup {k n : Nat} {u : TGs} (hc : X.calm = true) (h : PGs X es u) (hK : X.K = K := by rfl) (h1 : (assignEach es X.env).length = n := by rfl) (h2 : List.findIdx? (fun x => x.fst) (assignEach es X.env) = none := by rfl) : PG X (.Tuple es k pos) (gTup K n u) := by subst hK; exact pg_tup hc h h1 h2
end
end
section
open L2 PySem PySem.Spec PyProof.Rows
theorem pe_ty {X : Cx} {x : Str} {T : String} {p : Pos} (hm : X.mg x = none) (hv : bootBuiltins x = some (.type T)) (hg : Gl X x := by rfl) (h1 : x ≠ "__name__" := by decide) (h2 : (x == ("__debug__" : Str)) = false := by decide) : PE X (.Name x p) (tC (.ty T)) := pe_bltn (v := .ty T) hg hm hv rfl h1 h2
section
variable {K : PySem.W.Frag} {H : Hp} {Q : VK}
theorem i_isi {x : V} {n T : String} {b : Bool} (ty : TyX K H x (.type n)) (e : kitB n T = some b) (h : Q (.bl b) H) : rIsi K [x, .ty T] H Q :=
  ⟨x, .ty T, .type n, .type T, b, rfl, .ty T, ty, kit_ty e, h⟩
theorem ty_tup {a : Addr} {xs : List V} (s : SqT K H a xs) : TyX K H (.ref a) (.type "tuple") := by
  rcases s with (e | ⟨o, e⟩) | ⟨o, its, n, e, c, _⟩
  · exact .base (.tup e)
  · exact .fTuple e
  · exact .kTuple e c
theorem is_str (z : Str) (h : Q (.bl true) H) : rIsi K [.str z, .ty "str"] H Q := i_isi (.base (.str z)) (by decide +kernel) h
theorem is_tup {a : Addr} {xs : List V} (s : SqT K H a xs) (h : Q (.bl true) H) : rIsi K [.ref a, .ty "tuple"] H Q := i_isi (ty_tup s) (by decide +kernel) h
end
theorem i_iteNT {A B : Prop} (h : B) : if (!true) = true then A else B := h
theorem i_iteNF {A B : Prop} (h : A) : if (!false) = true then A else B := h
theorem all_true {H : Hp} {K : PySem.W.Frag} {Q : VK} {p : Addr} {n : Nat} (e : SqL K H p ((List.range n).map fun _ => V.bl true)) (h : Q (.bl true) H) : rAll K [.ref p] H Q := by
  refine i_all (bs := (List.range n).map fun _ => true) ?_ ?_
  · rw [List.map_map]
    exact e
  · rw [List.all_eq_true.mpr fun x hx => by
      obtain ⟨_, _, rfl⟩ := List.mem_map.mp hx
      rfl]
    exact h
end
section
open L2 PySem PySem.Spec PyProof.Rows
abbrev Tt (P : Program) (w : World) (h : Heap) (k : List Str) (b : Addr) : Prop := IsTupleKey (PySem.strKind P w) h k b
abbrev tx (P : Program) (w : World) (k : List Str) : Int := tupleKeyHash (PySem.strKind P w) k
def trow (P : Program) (w : World) (p : Addr × List Str) : Int × Value := (tx P w p.2, .ref p.1)
abbrev pr (m : Nat) (h : Int) (c : Nat) : SetTable.Probe := nth m (runAt m (SetTable.bits h % (m + 1)) (SetTable.bits h)) c
section
variable {P : Program} {w : World} {A : Around} {E : Value → Shared → Prop} {s : Shared}
theorem texts_of {k : List Str} {vs : List Value} (h : ItemsAre (PySem.strKind P w) k vs) : ∀ v ∈ vs, ∃ z t, v = Value.str z t := by
  induction h with
  | nil => exact fun v hv => nomatch hv
  | cons h1 _ ih =>
    intro v hv
    cases hv with
    | head =>
      obtain ⟨t, e⟩ := Value.isStrOf_shape h1
      exact ⟨_, t, e⟩
    | tail _ hv => exact ih v hv
theorem noClass_str (n : Nat) (z : Str) (t : Tok) : ofAClassStatement n (.str z t) = pure false := by cases n <;> rfl
theorem byVal_str (n : Nat) (z : Str) (t : Tok) : hashByValue n (.str z t) = pure false := hashByValue_scannable n (rfl : (Value.str z t).scannable = true)
theorem noClass_tt {k : List Str} {b : Addr} {Q : Bool → Shared → Prop} (hk : Tt P w s.heap k b) (q : Q false s) : wpAny (model P w) A (ofAClassStatement 8 (.ref b)) Q E s := by
  have ty := hk.typeIs
  obtain ⟨o, its, n, g, _, d, al⟩ := hk
  have al := texts_of al
  unfold ofAClassStatement
  refine wpAny_bind (wpAny_typeOf ty ?_)
  dsimp only
  simp only [show (("tuple" : String) == "tuple") = true from by decide, if_true, Bool.not_true, Bool.false_eq_true, if_false]
  try refine wpAny_bind (wpAny_pure ?_)
  try simp only [Bool.not_true, Bool.false_eq_true, if_false]
  show wpAny _ _ (seqItems? (.ref b) >>= _) _ _ s
  refine wpAny_bind (wpAny_seqItems g d ?_)
  dsimp only
  refine wpAny_bind ?_
  show wpAny _ _ (forIn its _ _) _ _ s
  rw [← Array.forIn_toList]
  refine wpAny_forIn_list _ (fun l r z => (∀ v ∈ l, ∃ y t, v = Value.str y t) ∧ r.1 = none ∧ z = s) _ (fun v l r z => ?_) (fun r z => ?_) _ _ ⟨al, rfl, rfl⟩
  · rintro ⟨h1, h2, rfl⟩
    obtain ⟨y, t, rfl⟩ := h1 v (.head _)
    rw [noClass_str]
    refine wpAny_bind (wpAny_pure ?_)
    simp only [Bool.false_eq_true, if_false]
    exact wpAny_pure ⟨fun u hu => h1 u (.tail _ hu), rfl, rfl⟩
  · obtain ⟨r1, r2⟩ := r
    rintro ⟨_, h2, rfl⟩
    simp only at h2
    subst h2
    exact wpAny_pure q
theorem byVal_tt {k : List Str} {b : Addr} {Q : Bool → Shared → Prop} (hk : Tt P w s.heap k b) (q : ∀ v, Q v s) : wpAny (model P w) A (hashByValue 8 (.ref b)) Q E s := by
  have ty := hk.typeIs
  obtain ⟨o, its, n, g, _, d, al⟩ := hk
  have al := texts_of al
  unfold hashByValue
  refine wpAny_bind (wpAny_specialOf ty F.slot_tuple_hash.lookup ?_)
  show wpAny _ _ (seqItems? (.ref b) >>= _) _ _ s
  refine wpAny_bind (wpAny_seqItems g d (wpAny_bind ?_))
  show wpAny _ _ (forIn its _ _) _ _ s
  rw [← Array.forIn_toList]
  refine wpAny_forIn_list _ (fun l r z => (∀ v ∈ l, ∃ y t, v = Value.str y t) ∧ r.1 = none ∧ z = s) _ (fun v l r z => ?_) (fun r z => ?_) _ _ ⟨al, rfl, rfl⟩
  · rintro ⟨h1, h2, rfl⟩
    obtain ⟨y, t, rfl⟩ := h1 v (.head _)
    rw [byVal_str]
    refine wpAny_bind (wpAny_pure ?_)
    simp only [Bool.not_false, if_true]
    exact wpAny_pure (wpAny_pure (q _))
  · obtain ⟨r1, r2⟩ := r
    rintro ⟨_, h2, rfl⟩
    simp only at h2
    subst h2
    exact wpAny_pure (q _)
theorem unseen_tt {k : List Str} {b : Addr} {Q : Bool → Shared → Prop} (hk : Tt P w s.heap k b) {ys : List Value} (hy : ∀ y ∈ ys, ∃ k' c, y = Value.ref c ∧ Tt P w s.heap k' c) (q : Q false s) :
    wpAny (model P w) A (searchCouldBeSeen (.ref b) ys) Q E s := by
  unfold searchCouldBeSeen
  refine wpAny_bind (wpAny_forIn_list _ (fun l r z => (∀ y ∈ l, ∃ k' c, y = Value.ref c ∧ Tt P w s.heap k' c) ∧ r.1 = none ∧ z = s) _ (fun v l r z => ?_) (fun r z => ?_) _ _ ⟨hy, rfl, rfl⟩)
  · rintro ⟨h1, h2, rfl⟩
    obtain ⟨k', c, rfl, hc⟩ := h1 v (.head _)
    have on : ∀ u ∈ l, ∃ k' c, u = Value.ref c ∧ Tt P w z.heap k' c := fun u hu => h1 u (.tail _ hu)
    dsimp only
    by_cases e : (b == c || (carriedByValue (.ref b) && carriedByValue (.ref c))) = true
    · exact wp_if_pos e (wpAny_pure ⟨on, rfl, rfl⟩)
    · refine wp_if_neg e (wpAny_bind (wpAny_eqIsQuiet_tuple hk ?_))
      simp only [Bool.not_true, Bool.false_eq_true, if_false]
      refine wpAny_bind (wpAny_eqIsQuiet_tuple hc ?_)
      simp only [Bool.not_true, Bool.false_eq_true, if_false]
      refine wpAny_bind (noClass_tt hk ?_)
      simp only [Bool.false_eq_true, if_false]
      refine wpAny_bind (noClass_tt hc ?_)
      simp only [Bool.false_eq_true, if_false]
      exact wpAny_pure ⟨on, rfl, rfl⟩
  · obtain ⟨r1, r2⟩ := r
    rintro ⟨_, h2, rfl⟩
    simp only at h2
    subst h2
    exact wpAny_pure q
structure TxS (P : Program) (w : World) (h : Heap) (a : Addr) (L : List (Addr × List Str)) (es : Array (Int × Value)) (ep : Nat) (t : SetTable) : Prop where
  here : ∃ o, h.get? a = some o ∧ o.ExactSet ∧ o.data = .set es ep t
  rows : es.toList = L.map (trow P w)
  tab : TabOk t (L.map fun p => tx P w p.2)
  led : w.params.followText "set-order" = true ∨ t.led = true
  room : L.length * 5 < t.mask * 3
  few : L.length < 64
variable {a : Addr} {L : List (Addr × List Str)} {es : Array (Int × Value)} {ep : Nat} {t : SetTable}
theorem rows_size (r : es.toList = L.map (trow P w)) : es.size = L.length := by
  simpa using congrArg List.length r
theorem fits_of {hs : List Int} (T : TabOk t hs) (hn : es.size = hs.length) (hm : hs.length ≤ t.mask) : t.fits es.size = true := by
  have z := T.sz
  simp only [SetTable.fits, SetTable.fill, T.dm, Bool.and_eq_true, beq_iff_eq, decide_eq_true_eq]
  exact ⟨by omega, by show t.place.size + 0 ≤ t.mask; omega⟩
theorem TxS.size (R : TxS P w s.heap a L es ep t) : es.size = L.length := rows_size R.rows
theorem TxS.fits (R : TxS P w s.heap a L es ep t) : t.fits es.size = true := by
  refine fits_of R.tab (by rw [R.size, List.length_map]) ?_
  have z := R.room
  rw [List.length_map]
  omega
theorem TxS.entry (R : TxS P w s.heap a L es ep t) {i : Nat} {p : Addr × List Str} (h : L[i]? = some p) : es[i]? = some (trow P w p) := by
  rw [← Array.getElem?_toList, R.rows, List.getElem?_map, h, Option.map_some]
theorem pr_dummy (m : Nat) (h : Int) (c : Nat) : (pr m h c).dummy = none := by
  have z : ∀ n (p : SetTable.Probe), p.dummy = none → (nth m p n).dummy = none := by
    intro n
    induction n with
    | zero => exact fun p e => e
    | succ n ih =>
      intro p e
      exact ih _ (by unfold adv; split <;> exact e)
  exact z c _ rfl
theorem TxS.search (R : TxS P w s.heap a L es ep t) (hT : ∀ p ∈ L, Tt P w s.heap p.2 p.1) {x : Addr} {k : List Str} (hx : Tt P w s.heap k x) (hu : A.units < cLine) (hk : ∀ p ∈ L, p.2 ≠ k) {K : Nat}
    (hKf : K < 10 * SetTable.turns t.mask) (hK : way t.mask (tx P w k) K ∉ t.place.toList) (hKb : ∀ c, c < K → way t.mask (tx P w k) c ∈ t.place.toList) {Q : SetFound → Shared → Prop}
    (q : Q (.free (way t.mask (tx P w k) K) false) s) : ∀ (f c : Nat) (st : Option SetTable.Probe), st.getD (t.probeStart (tx P w k)) = pr t.mask (tx P w k) c → c ≤ K → K - c < f →
      wpAny (model P w) A (setSearchFrom a (.ref x) (tx P w k) true f st) Q E s := by
  obtain ⟨o, g, hex, hd⟩ := R.here
  intro f
  induction f with
  | zero => exact fun c st _ _ z => absurd z (Nat.not_lt_zero _)
  | succ f ih =>
    intro c st hst hc hf
    have on : ∀ n, nth t.mask (pr t.mask (tx P w k) c) n = pr t.mask (tx P w k) (c + n) := fun n => (nth_add t.mask c _ n).symm
    have end_ : (nth t.mask (pr t.mask (tx P w k) c) (K - c)).j = way t.mask (tx P w k) K := by rw [on, Nat.add_sub_cancel' hc]
    rw [setSearchFrom_succ]
    refine wpAny_bind (wpAny_setState_of g hd R.fits ?_)
    dsimp only
    refine wp_if_neg (by unfold SetTable.gaveWay; rw [mask_odd R.tab.mok]; decide) ?_
    try refine wpAny_bind (wpAny_pure ?_)
    rcases go_spec t R.tab.ris R.tab.dm (fun i => (es[i]?.map (·.1)).getD 0) (tx P w k) (10 * SetTable.turns t.mask) (K - c) _ (pr_dummy _ _ c) (by omega)
      (fun n hn => by rw [on]; exact hKb _ (by omega)) (by rw [end_]; exact hK) with ⟨n, i, hn, hi, _, _, e⟩ | ⟨_, e⟩
    · rw [on, on, ← hst] at e
      rw [show t.probe (fun i => (es[i]?.map (·.1)).getD 0) (tx P w k) (st.getD (t.probeStart (tx P w k))) = _ from e]
      dsimp only
      rw [on] at hi
      have hl : i < L.length := by
        have h1 := (List.getElem?_eq_some_iff.mp hi).1
        have h2 := R.tab.sz
        rw [List.length_map] at h2
        rw [Array.length_toList] at h1
        omega
      have hp := List.getElem?_eq_getElem hl
      have me : L[i] ∈ L := List.getElem_mem hl
      have go : wpAny (model P w) A (searchRest a (.ref x) (tx P w k) true f es t (way t.mask (tx P w k) (c + n)) i (pr t.mask (tx P w k) (c + (n + 1)))) Q E s := by
        unfold searchRest
        rw [R.entry hp]
        dsimp only [trow]
        refine wpAny_bind (wpAny_holding (wpAny_eqBool_tuple hu (hT _ me) hx ?_))
        rw [decide_eq_false (hk _ me)]
        refine wpAny_bind (wpAny_setState_of g hd R.fits ?_)
        dsimp only
        refine wp_if_neg (by decide) ?_
        try refine wpAny_bind (wpAny_pure ?_)
        rw [L2.sameMem]
        dsimp only
        simp only [if_true, slot_live R.tab.ris hi, R.entry hp]
        refine wpAny_bind (wpAny_isSame_ref_self (wpAny_bind (wpAny_pure ?_)))
        simp only [if_true]
        refine wp_if_neg Bool.false_ne_true ?_
        exact ih (c + (n + 1)) _ rfl (by omega) (by omega)
      by_cases hl : t.led = true
      · refine wp_if_neg (by simp [hl]) ?_
        try refine wpAny_bind (wpAny_pure ?_)
        exact go
      · refine wp_if_pos (by simp [hl]) (wpAny_bind (unseen_tt hx (fun y hy => ?_) ?_))
        · obtain ⟨u, hu1, hu2⟩ := List.mem_map.mp hy
          have hu3 : u ∈ es ∧ u.1 = tx P w k := by simpa using hu1
          have hu4 : u ∈ es.toList := by simpa using hu3.1
          rw [R.rows] at hu4
          obtain ⟨p, hp1, hp2⟩ := List.mem_map.mp hu4
          exact ⟨p.2, p.1, by rw [← hu2, ← hp2]; rfl, hT p hp1⟩
        · refine wp_if_neg (by decide) ?_
          try refine wpAny_bind (wpAny_pure ?_)
          exact go
    · rw [end_, ← hst] at e
      rw [show t.probe (fun i => (es[i]?.map (·.1)).getD 0) (tx P w k) (st.getD (t.probeStart (tx P w k))) = _ from e]
      dsimp only
      exact wpAny_pure q
theorem TxS.look (R : TxS P w s.heap a L es ep t) (hT : ∀ p ∈ L, Tt P w s.heap p.2 p.1) {x : Addr} {k : List Str} (hx : Tt P w s.heap k x) (hu : A.units < cLine) (hk : ∀ p ∈ L, p.2 ≠ k) {Q : SetFound → Shared → Prop}
    (q : ∀ K, way t.mask (tx P w k) K ∉ t.place.toList → (∀ c, c < K → way t.mask (tx P w k) c ∈ t.place.toList) → Q (.free (way t.mask (tx P w k) K) false) s) :
    wpAny (model P w) A (setSearch a (.ref x) (tx P w k) true) Q E s := by
  have rm := R.room
  obtain ⟨K, h1, h2, h3⟩ := R.tab.first (by rw [List.length_map]; omega) (tx P w k)
  have h4 : K < 100000 := by
    have : 10 * SetTable.turns t.mask ≤ 1420 := by
      unfold SetTable.turns
      rcases R.tab.mok with e | e | e <;> omega
    omega
  unfold setSearch
  exact R.search hT hx hu hk h1 h2 h3 (q K h2 h3) 100000 0 none rfl (Nat.zero_le _) (by omega)
theorem picked {α β : Type} (g : α → β) (d : β) (L : List α) : ∀ l : List Nat, (∀ i ∈ l, i < L.length) → (l.filterMap fun i => L[i]?).map g = l.map fun i => (L.map g).getD i d
  | [], _ => rfl
  | i :: l, h => by
    have hi : i < L.length := h i (.head _)
    rw [List.filterMap_cons_some (List.getElem?_eq_getElem hi), List.map_cons, List.map_cons, picked g d L l fun j hj => h j (.tail _ hj)]
    congr 1
    rw [List.getD_eq_getElem?_getD, List.getElem?_map, List.getElem?_eq_getElem hi]
    rfl
theorem all_picked {α : Type} (L : List α) : ∀ n, n ≤ L.length → (List.range n).filterMap (fun i => L[i]?) = L.take n
  | 0, _ => rfl
  | n + 1, h => by
    rw [List.range_succ, List.filterMap_append, all_picked L n (Nat.le_of_succ_le h), List.take_succ]
    cases e : L[n]? <;> simp [e]
variable {o : Obj}
theorem relay_tx (g : s.heap.get? a = some o) (hex : o.ExactSet) (hd : o.data = .set es ep t) (hr : es.toList = L.map (trow P w)) (T : TabOk t (L.map fun p => tx P w p.2)) (hm : L.length ≤ t.mask) (ld : w.params.followText "set-order" = true ∨ t.led = true) (few : L.length < 64)
    {wd M : Nat} (hw : SetTable.sizeAbove wd - 1 = M) (hM : MaskOk M) (h128 : SetTable.sizeAbove wd ≤ 128) (hn : L.length * 5 < M * 3) {Q : Unit → Shared → Prop}
    (q : ∀ h' L' es' ep' t', Heap.SameBut a s.heap h' → TxS P w h' a L' es' ep' t' → L'.Perm L → Q () { s with heap := h' }) : wpAny (model P w) A (setRelay a wd) Q E s := by
  have sz := rows_size hr
  have ft : t.fits es.size = true := fits_of T (by rw [sz, List.length_map]) (by rw [List.length_map]; exact hm)
  obtain ⟨t', od, e, pm, T', m', l', p', _⟩ := relaid_ok t (hs := es.map (·.1)) (wanted := wd) hw hM (by rw [Array.size_map, sz]; omega)
  rw [Array.size_map, sz] at pm
  have lt : ∀ i ∈ od.toList, i < L.length := fun i hi => List.mem_range.mp (pm.mem_iff.mp hi)
  have eL : (es.map (·.1)).toList = L.map fun p => tx P w p.2 := by
    rw [Array.toList_map, hr, List.map_map]
    rfl
  have e1 : (od.filterMap (es[·]?)).toList = (od.toList.filterMap fun i => L[i]?).map (trow P w) := by
    rw [Array.toList_filterMap, picked (trow P w) (0, .none) L _ lt]
    have : ∀ l : List Nat, (∀ i ∈ l, i < L.length) → l.filterMap (fun i => es[i]?) = l.map fun i => (L.map (trow P w)).getD i (0, .none) := by
      intro l
      induction l with
      | nil => exact fun _ => rfl
      | cons i l ih =>
        intro hl
        have z : es[i]? = some ((L.map (trow P w)).getD i (0, .none)) := by
          rw [← Array.getElem?_toList, hr, List.getD_eq_getElem?_getD, List.getElem?_map, List.getElem?_eq_getElem (hl i (.head _))]
          rfl
        rw [List.filterMap_cons_some z, ih fun j hj => hl j (.tail _ hj), List.map_cons]
    exact this _ lt
  have e2 : (od.toList.filterMap fun i => L[i]?).map (fun p => tx P w p.2) = od.toList.map fun i => (es.map (·.1)).getD i 0 := by
    rw [picked (fun p : Addr × List Str => tx P w p.2) 0 L _ lt]
    refine List.map_congr_left fun i _ => ?_
    rw [← eL]
    simp [List.getD_eq_getElem?_getD, Array.getD_eq_getD_getElem?]
  have e3 : (od.toList.filterMap fun i => L[i]?).Perm L := by
    have z := pm.filterMap fun i => L[i]?
    rw [all_picked L L.length (Nat.le_refl _), List.take_length] at z
    exact z
  rw [← e2] at T'
  generalize (od.toList.filterMap fun i => L[i]?) = L2 at e1 e3 T'
  have s2 := rows_size e1
  rw [e3.length_eq] at s2
  rw [setRelay_eq]
  refine wpAny_bind (wpAny_setState_of g hd ft ?_)
  dsimp only
  refine wp_if_neg (by rw [sizeLine_eq]; omega) ?_
  try refine wpAny_bind (wpAny_pure ?_)
  rw [e]
  dsimp only
  refine wpAny_bind (wp_if_neg (by rw [s2, sz]; simp) ?_)
  try refine wpAny_bind (wpAny_pure ?_)
  refine wpAny_pure ?_
  dsimp only
  refine wpAny_storeSet_of g hd (q _ L2 _ (ep + 1) t' (Heap.SameBut.update ..) ⟨⟨_, store_at g hd, hex, rfl⟩, e1, T', by rw [l']; exact ld, ?_, ?_⟩ e3) (by rw [s2, sizeLine_eq]; omega)
  · rw [e3.length_eq, m']
    exact hn
  · rw [e3.length_eq]
    exact few
theorem TxS.add (R : TxS P w s.heap a L es ep t) (hT : ∀ p ∈ L, Tt P w s.heap p.2 p.1) {x : Addr} {k : List Str} (hx : Tt P w s.heap k x) (hu : A.units < cLine) (hk : ∀ p ∈ L, p.2 ≠ k) (hf : L.length + 1 < 64) {Q : Bool → Shared → Prop}
    (q : ∀ h' L' es' ep' t', Heap.SameBut a s.heap h' → TxS P w h' a L' es' ep' t' → L'.Perm ((x, k) :: L) → Q true { s with heap := h' }) :
    wpAny (model P w) A (setAddHashed a (.ref x) (tx P w k)) Q E s := by
  obtain ⟨o, g, hex, hd⟩ := R.here
  have sz := R.size
  have rm := R.room
  unfold setAddHashed
  refine wpAny_holding ?_
  rw [show (100000 : Nat) = 99999 + 1 from rfl, setAddHashedIn_succ]
  refine wpAny_bind (wpAny_setState_of g hd R.fits ?_)
  dsimp only
  refine wp_if_neg (by simp [byScan, Value.scannable]) ?_
  try refine wpAny_bind (wpAny_pure ?_)
  refine wpAny_bind (R.look hT hx hu hk fun K hK hb => ?_)
  dsimp only
  refine wpAny_bind (wpAny_setState_of g hd R.fits ?_)
  dsimp only
  obtain ⟨q1, q2, q3, q4, q5, q6, q7, q8, q9⟩ := R.tab.put hK hb
  generalize hu1 : t.put (way t.mask (tx P w k) K) = u at q1 q3 q4 q5 q6 q7 q8 q9 ⊢
  obtain ⟨t1, n⟩ := u
  dsimp only at q1 q3 q4 q5 q6 q7 q8 q9 ⊢
  subst q1
  have key : ∀ t2 : SetTable, TabOk t2 ((L.map fun p => tx P w p.2).take (SetTable.below t.place (way t.mask (tx P w k) K)) ++ tx P w k :: (L.map fun p => tx P w p.2).drop (SetTable.below t.place (way t.mask (tx P w k) K))) → t2.mask = t.mask → t2.led = t.led → t2.fill = t1.fill →
      wpAny (model P w) A (do
        storeSet a (SetTable.insertAt es (SetTable.below t.place (way t.mask (tx P w k) K)) (tx P w k, Value.ref x)) t2
        if !false && t2.tooFull then setRelay a (SetTable.grown (es.size + 1))
        return true) Q E s := fun t2 q3 q4 q5 q9' => by
    generalize hn : SetTable.below t.place (way t.mask (tx P w k) K) = n at q2 q3
    have r1 : (SetTable.insertAt es n (tx P w k, Value.ref x)).toList = (L.take n ++ (x, k) :: L.drop n).map (trow P w) := by
      rw [SetTable.toList_insertAt, R.rows, List.map_append, List.map_cons, List.map_take, List.map_drop]
      rfl
    have e3 : (L.take n ++ (x, k) :: L.drop n).map (fun p => tx P w p.2) = (L.map fun p => tx P w p.2).take n ++ tx P w k :: (L.map fun p => tx P w p.2).drop n := by
      rw [List.map_append, List.map_cons, List.map_take, List.map_drop]
    rw [← e3] at q3
    have pm : (L.take n ++ (x, k) :: L.drop n).Perm ((x, k) :: L) := put_perm L n (x, k)
    generalize SetTable.insertAt es n (tx P w k, Value.ref x) = es1 at r1 ⊢
    generalize L.take n ++ (x, k) :: L.drop n = L1 at r1 q3 pm
    have l1 : L1.length = L.length + 1 := pm.length_eq
    have s1 := rows_size r1
    rw [l1] at s1
    refine wpAny_bind (wpAny_storeSet_of g hd ?_ (by rw [s1, sizeLine_eq]; omega))
    have sb : Heap.SameBut a s.heap (s.heap.update a (Obj.putSet es1 t2)) := Heap.SameBut.update ..
    have g1 := store_at (es' := es1) (t' := t2) g hd
    generalize s.heap.update a (Obj.putSet es1 t2) = h1 at sb g1 ⊢
    have ld1 : w.params.followText "set-order" = true ∨ t2.led = true := by rw [q5]; exact R.led
    by_cases hfull : t2.tooFull = true
    · have z := hfull
      unfold SetTable.tooFull at z
      rw [decide_eq_true_eq, q9', q9, List.length_map] at z
      have two : (t.mask = 7 ∧ L.length = 4) ∨ (t.mask = 31 ∧ L.length = 18) := by
        rcases R.tab.mok with e | e | e <;> rw [q4, e] at z <;> rw [e] at rm
        · exact .inl ⟨e, by omega⟩
        · exact .inr ⟨e, by omega⟩
        · omega
      have step : ∀ M, SetTable.sizeAbove (SetTable.grown (L.length + 1)) - 1 = M → MaskOk M → SetTable.sizeAbove (SetTable.grown (L.length + 1)) ≤ 128 → (L.length + 1) * 5 < M * 3 →
          wpAny (model P w) A (setRelay a (SetTable.grown (L.length + 1))) (fun _ s' => wpAny (model P w) A (pure true) Q E s') E { s with heap := h1 } := fun M a1 a2 a3 a4 =>
        relay_tx (s := { s with heap := h1 }) g1 hex rfl r1 q3 (by rw [l1, q4]; rcases two with ⟨e, e2⟩ | ⟨e, e2⟩ <;> omega) ld1 (by rw [l1]; exact hf) a1 a2 a3 (by rw [l1]; exact a4)
          fun h2 L2 es2 ep2 t2 sb2 R2 pm2 => wpAny_pure (q h2 L2 es2 ep2 t2 (sb.trans sb2) R2 (pm2.trans pm))
      first
        | (refine wpAny_bind ?_; refine wp_if_pos (by simp [hfull]) ?_)
        | (refine wp_if_pos (by simp [hfull]) ?_; refine wpAny_bind ?_)
      rw [sz]
      rcases two with ⟨_, e2⟩ | ⟨_, e2⟩
      · exact step 31 (by rw [e2, size_20]) (.inr (.inl rfl)) (by rw [e2, size_20]; decide) (by omega)
      · exact step 127 (by rw [e2, size_76]) (.inr (.inr rfl)) (by rw [e2, size_76]; decide) (by omega)
    · first
        | refine wp_if_neg (by simp [hfull]) ?_
        | (refine wpAny_bind ?_; refine wp_if_neg (by simp [hfull]) ?_; refine wpAny_pure ?_)
      have z := hfull
      unfold SetTable.tooFull at z
      rw [decide_eq_true_eq, q9', q9, List.length_map] at z
      exact wpAny_pure (q h1 L1 es1 (ep + 1) t2 sb ⟨⟨_, g1, hex, rfl⟩, r1, q3, ld1, by rw [l1]; omega, by rw [l1]; exact hf⟩ pm)
  have fin : ∀ b : Bool, wpAny (model P w) A (do
        storeSet a (SetTable.insertAt es (SetTable.below t.place (way t.mask (tx P w k) K)) (tx P w k, Value.ref x)) (if b = true then t1 else { t1 with plain := false })
        if !false && (if b = true then t1 else { t1 with plain := false }).tooFull then setRelay a (SetTable.grown (es.size + 1))
        return true) Q E s := fun b => by
    cases b with
    | true => exact key t1 q3 q4 q5 rfl
    | false => exact key { t1 with plain := false } ⟨q3.ris, q3.dm, q3.sz, q3.mok, q3.bd, q3.reach⟩ q4 q5 rfl
  by_cases p1 : t1.plain = true
  · first
      | (refine wpAny_bind ?_; refine wp_if_pos p1 ?_; refine byVal_tt hx fun b => ?_)
      | refine wp_if_pos p1 (wpAny_bind (byVal_tt hx fun b => ?_))
    exact fin b
  · first
      | (refine wpAny_bind ?_; refine wp_if_neg p1 ?_; refine wpAny_pure ?_)
      | refine wp_if_neg p1 (wpAny_bind (wpAny_pure ?_))
      | refine wp_if_neg p1 ?_
    exact fin true
end
end
section
open L2 PySem PySem.Spec PyProof.Rows
def TsO (P : Program) (w : World) (a : Addr) (L : List (Addr × List Str)) : HO := .ext fun h => ∃ es ep t, TxS P w h a L es ep t
abbrev setObj0 (w : World) : Obj := { cls := .type "set", dict := none, data := .set #[] 0 (.fresh 0 0 (!w.params.followText "set-order")) }
section
variable {P : Program} {w : World} {A : Around} {E : Value → Shared → Prop} {s : Shared}
theorem TxS.keep {h h' : Heap} {a : Addr} {L : List (Addr × List Str)} {es : Array (Int × Value)} {ep : Nat} {t : SetTable} (R : TxS P w h a L es ep t) (k : ∀ o, h.get? a = some o → h'.get? a = some o) : TxS P w h' a L es ep t :=
  let ⟨o, g, r⟩ := R.here
  ⟨⟨o, k o g, r⟩, R.rows, R.tab, R.led, R.room, R.few⟩
theorem txs_fresh {h : Heap} {a : Addr} (g : h.get? a = some (setObj0 w)) : TxS P w h a [] #[] 0 (.fresh 0 0 (!w.params.followText "set-order")) := by
  refine ⟨⟨_, g, ⟨rfl, rfl, rfl⟩, rfl⟩, rfl, ⟨List.Pairwise.nil, rfl, rfl, .inl rfl, fun x hx => (by cases hx), fun i h j hi => (by simp at hi)⟩, ?_, by show 0 * 5 < 7 * 3; decide, by show 0 < 64; decide⟩
  cases e : w.params.followText "set-order"
  · exact .inr rfl
  · exact .inl rfl
theorem ts_obj {H : Hp} {h : Heap} {a : Addr} {L : List (Addr × List Str)} (R : ∃ es ep t, TxS P w h a L es ep t) : ObjOk P w H h a (TsO P w a L) := by
  refine ⟨R, ?_, fun h1 h2 ⟨es, ep, t, z⟩ k => ⟨es, ep, t, z.keep k⟩⟩
  obtain ⟨es, ep, t, z⟩ := R
  obtain ⟨o, g, _⟩ := z.here
  exact ⟨o, g⟩
theorem txs_put {a x : Addr} {L : List (Addr × List Str)} {k : List Str} {es : Array (Int × Value)} {ep : Nat} {t : SetTable} (R : TxS P w s.heap a L es ep t) (hT : ∀ p ∈ L, Tt P w s.heap p.2 p.1) (hx : Tt P w s.heap k x) (hu : A.units + 64 < cLine) (hk : ∀ p ∈ L, p.2 ≠ k) (hf : L.length + 1 < 64) {Q : Value → Shared → Prop}
    (q : ∀ h' L' tk, Heap.SameBut a s.heap h' → (∃ es ep t, TxS P w h' a L' es ep t) → L'.Perm ((x, k) :: L) → Q .none { s with heap := h', toks := tk }) : wpAny (model P w) A (call (.builtin "set.add") [.ref a, .ref x]) Q E s := by
  obtain ⟨o, g, hex, hd⟩ := R.here
  have ty : s.TypeIs (.ref a) "set" := ⟨o, g, hex.1⟩
  refine wpAny_call_entry F.slot_set_add ty F.entry_set_add ?_ (F.args_set_add_2 _ _)
  unfold Builtin.«set.add» Builtin.Frozenset.oneOther
  simp only [List.isEmpty_nil, bind_assoc]
  unfold Builtin.Frozenset.addrOf setAdd
  refine wpAny_bind (wpAny_pure ?_)
  try dsimp only
  refine wpAny_bind (wpAny_pure ?_)
  try dsimp only
  refine wpAny_bind (wpAny_holding (wpAny_bind (wpAny_pyHash_tuple ?hun hx ?_)))
  case hun => first | omega | (show A.units + 1 < cLine; omega) | (show A.units < cLine; omega)
  refine (show TxS P w ({ s with toks := s.toks + (k.length + 1) } : Shared).heap a L es ep t from R).add (s := { s with toks := s.toks + (k.length + 1) }) hT hx ?hun hk hf fun h' L' es' ep' t' sb R' pm => ?_
  case hun => first | omega | (show A.units + 1 < cLine; omega) | (show A.units < cLine; omega)
  show wpAny _ _ (ret Value.none) _ _ _
  exact wpAny_pure ⟨_, rfl, q h' L' _ sb ⟨es', ep', t', R'⟩ pm⟩
end
section
variable {X : Cx}
theorem tt_of {pins : List (Addr × Obj)} {σ : L2.St} {H : Hp} {s : Shared} {b : Addr} {k : List Str} (I : Inv X pins σ H s) (h : SqT X.K H b (k.map V.str)) : Tt X.prog X.w s.heap k b := by
  obtain ⟨its, r, ⟨o, g, c, n, d⟩, _⟩ := I.tuple h
  refine ⟨o, its.toArray, n, g, c, d, ?_⟩
  show ItemsAre _ k its
  have key : ∀ {k : List Str} {us : List Value}, Vals (k.map V.str) us → ItemsAre (PySem.strKind X.prog X.w) k us := by
    intro k
    induction k with
    | nil => intro us v; cases v; exact .nil
    | cons z k ih =>
      intro us v
      cases v with
      | cons r t =>
        obtain ⟨tk, rfl⟩ := r
        exact .cons (PySem.strKind_is _ _ z tk) (ih t)
  exact key r
theorem ts_add {pins : List (Addr × Obj)} {σ : L2.St} {H : Hp} {s : Shared} {E : Value → Shared → Prop} {D x : Addr} {L : List (Addr × List Str)} {k : List Str} {Q : Value → Shared → Prop} (I : Inv X pins σ H s) (hu : X.A.units + 64 < cLine) (hD : H D = some (TsO X.prog X.w D L))
    (hT : ∀ p ∈ L, SqT X.K H p.1 (p.2.map V.str)) (hx : SqT X.K H x (k.map V.str)) (hk : ∀ p ∈ L, p.2 ≠ k) (hf : L.length + 1 < 64)
    (h : ∀ L' s', L'.Perm ((x, k) :: L) → Inv X pins σ (upd H D (TsO X.prog X.w D L')) s' → Q .none s') : wpAny (model X.prog X.w) X.A (call (.builtin "set.add") [.ref D, .ref x]) Q E s := by
  obtain ⟨es, ep, t, R⟩ : ∃ es ep t, TxS X.prog X.w s.heap D L es ep t := (I.hok D _ hD).1
  refine txs_put R (fun p hp => tt_of I (hT p hp)) (tt_of I hx) hu hk hf fun h' L' tk sb R' pm => ?_
  have he : ∃ u, h'.get? D = some u := by
    obtain ⟨_, _, _, z⟩ := R'
    obtain ⟨o, g, _⟩ := z.here
    exact ⟨o, g⟩
  exact h L' _ pm (I.write (e := D) (t' := tk) (by rw [hD]; trivial) (.inl rfl) (fun b u hb hu => (sb.2 b hb).trans hu) he (ts_obj R'))
def tSct (P : Program) (w : World) (K : PySem.W.Frag) (wi : TI) (g : TG) (tt : TT) (te : TE) (vs : List Nat) : TE := fun σ H Q => wi σ H fun J H1 => ∀ D, H1 D = none → ∃ W : Nat → Nat → Hp → Prop, (∃ m, W 0 m (upd H1 D (TsO P w D []))) ∧ ∀ i m H, W i m H →
  (J.stop i H ∧ Q (.ref D) H) ∨ (J.go i H ∧ ∃ Nx : Hp → Prop, (∀ H', Nx H' → ∃ m', m' < m ∧ W (i + 1) m' H') ∧ ∀ x H', J.yld i H x H' → g x (wipe σ vs) H' fun σ2 H2 => wipe σ2 vs = wipe σ vs ∧ tt σ2 H2 fun b H3 =>
    if b = true then te σ2 H3 fun y H4 => ∃ (p : Addr) (k : List Str) (L : List (Addr × List Str)), y = .ref p ∧ SqT K H4 p (k.map V.str) ∧ H4 D = some (TsO P w D L) ∧ (∀ q ∈ L, SqT K H4 q.1 (q.2.map V.str)) ∧ (∀ q ∈ L, q.2 ≠ k) ∧ L.length + 1 < 64 ∧
      ∀ L' : List (Addr × List Str), L'.Perm ((p, k) :: L) → Nx (upd H4 D (TsO P w D L')) else Nx H3)
theorem pe_sct {elt tg iter : Expr} {ifs : List Expr} {scope : Scope} {own : List (PySem.Str × Nat)} {pos : Pos} {wi : TI} {g : TG} {tt : TT} {te : TE} (hc : X.calm = true) (hu : X.A.units + 64 < cLine) (hN : X.N.Nodup) (hi : PI X tg iter wi) (ok : BlkOk X.N X.env.scope scope own)
    (hg : ∀ (s : Shared) (H : Hp) (C : Addr) (cl : List (PySem.Str × Addr)) (fp : List Addr), PG (X.blk s H scope (compEnvC scope cl C X.env) fp) tg g) (ht : ∀ (s : Shared) (H : Hp) (C : Addr) (cl : List (PySem.Str × Addr)) (fp : List Addr), PTs (X.blk s H scope (compEnvC scope cl C X.env) fp) ifs tt)
    (he : ∀ (s : Shared) (H : Hp) (C : Addr) (cl : List (PySem.Str × Addr)) (fp : List Addr), PE (X.blk s H scope (compEnvC scope cl C X.env) fp) elt te) (hs : ∀ x, foldedSetIterable iter X.env x = pure x := by intro _; rfl) :
    PE X (.SetComp elt [⟨tg, iter, ifs, 0⟩] scope pos) (tSct X.prog X.w X.K wi g tt te (own.map (·.2))) := by
  refine ⟨fun pins s σ H Q I h => ?_⟩
  rw [PpSet.eval_SetComp]
  have fr : ∀ y ∈ scope.names, y.2 = .free → ∃ c, X.env.cells.lookup y.1 = some c := fun y hy e => (ok.free y hy e).elim (fun k => I.ok.has _ (.inl k)) fun k => I.ok.has _ (.inr k)
  refine wpAny_comprehension_free rfl hs (closure_ok fr) ok.kind (fun y hy e => by rw [ok.uniq y hy, e]) (thn (hi.run pins s σ H _ I h) fun xv s1 hx => thn hx fun itv s2 ⟨it, fp, tn, J, H2, e, I2, T, st2, f2, q⟩ => ?_)
  subst e
  refine PpSet.newSet_ok (newEnv_comp ?_)
  obtain ⟨D, hD⟩ : ∃ D, D = s2.heap.objs.size := ⟨_, rfl⟩
  rw [← hD]
  have D0 : H2 D = none := I2.hok.fresh (Nat.le_of_eq hD.symm)
  obtain ⟨W, ⟨m0, w0⟩, turn⟩ := q D D0
  generalize es3 : ({ s2 with heap := s2.heap.push (setObj0 X.w) } : Shared) = s3
  have h3 : s3.heap = s2.heap.push (setObj0 X.w) := by rw [← es3]
  have I3 : Inv X pins σ (upd H2 D (TsO X.prog X.w D [])) s3 := by
    rw [← es3]
    refine I2.laid (t' := s2.toks) (fun b o e => Heap.get?_push_of_some _ e) (Nat.le_of_eq hD.symm) (ts_obj ⟨_, _, _, txs_fresh ?_⟩)
    rw [hD]
    exact Heap.get?_push_size _ rfl
  show codeAny _ _ (.compStart (.SetComp elt [⟨tg, iter, ifs, 0⟩] scope pos) 0 (.ref it) (.ref D) (compEnvC scope (cellsFrom (s3.heap.objs.size + 1) scope.names (cloFrom X.env.cells scope.names [])) s3.heap.objs.size X.env)) (compPost (model X.prog X.w) X.A X.xe none (EP X pins σ Q) (.ref D) s3.heap.objs.size) { s3 with heap := pushCells (s3.heap.push { cls := .type "dict", data := .dict #[] }) scope.names }
  have f3 : ∀ b ∈ fp, FpOk X pins (upd H2 D (TsO X.prog X.w D [])) b ∧ b < s3.heap.objs.size := fun b hb => by
    obtain ⟨o, e, _⟩ := T.obj _ _ st2 b hb
    have lt : b < s2.heap.objs.size := Heap.lt_size e
    refine ⟨⟨(upd_ne (by rw [hD]; exact Nat.ne_of_lt lt)).trans (f2 b hb).1, (f2 b hb).2⟩, ?_⟩
    rw [h3, Heap.size_push]
    exact Nat.lt_succ_of_lt lt
  have st3 : tn 0 s3.heap := T.keep _ _ _ st2 fun b _ o e => by rw [h3]; exact Heap.get?_push_of_some _ e
  obtain ⟨H3, eH3⟩ : ∃ H3, H3 = upd H2 D (TsO X.prog X.w D []) := ⟨_, rfl⟩
  rw [← eH3] at I3 f3 w0
  have I4 := block_start I3 ok hN f3
  have pg := hg s3 H3 s3.heap.objs.size (cellsFrom (s3.heap.objs.size + 1) scope.names (cloFrom X.env.cells scope.names [])) fp
  have pt := ht s3 H3 s3.heap.objs.size (cellsFrom (s3.heap.objs.size + 1) scope.names (cloFrom X.env.cells scope.names [])) fp
  have pe := he s3 H3 s3.heap.objs.size (cellsFrom (s3.heap.objs.size + 1) scope.names (cloFrom X.env.cells scope.names [])) fp
  obtain ⟨ce, ece⟩ : ∃ ce, ce = compEnvC scope (cellsFrom (s3.heap.objs.size + 1) scope.names (cloFrom X.env.cells scope.names [])) s3.heap.objs.size X.env := ⟨_, rfl⟩
  rw [← ece] at I4 pg pt pe
  have cL : ce.locals = s3.heap.objs.size := by rw [ece]; rfl
  obtain ⟨s4, es4⟩ : ∃ s4 : Shared, s4 = { s3 with heap := pushCells (s3.heap.push { cls := .type "dict", data := .dict #[] }) scope.names } := ⟨_, rfl⟩
  rw [← es4] at I4 ⊢
  have goal' : codeAny (model X.prog X.w) X.A (.compStart (.SetComp elt [⟨tg, iter, ifs, 0⟩] scope pos) 0 (.ref it) (.ref D) ce) (compPost (model X.prog X.w) X.A X.xe none (EP X pins σ Q) (.ref D) ce.locals) s4 := by
    have st4 : tn 0 s4.heap := T.keep _ _ _ st3 fun b _ o e => by rw [es4]; exact pushCells_keeps _ _ _ _ (Heap.get?_push_of_some _ e)
    have n4 : ∀ b ∈ fp, H3 b = none := fun b hb => (f3 b hb).1.1
    have own' : ∀ {σ' : L2.St} {H' : Hp} {s' : Shared}, Inv (X.blk s3 H3 scope ce fp) [] σ' H' s' → (∀ b ∈ fp, H' b = none) → ∀ b ∈ fp, FpOk (X.blk s3 H3 scope ce fp) [] H' b := fun I' n b hb =>
      ⟨n b hb, (I'.ok.exf b hb).1, I'.ok.exfs b hb, .inl hb, fun x c e => (I'.ok.exf b hb).2 x c e, fun p hp => absurd (show p ∈ ([] : List (Addr × Obj)) ++ [] from hp) (by simp)⟩
    have loop : codeAny (model X.prog X.w) X.A (.compLoop (.SetComp elt [⟨tg, iter, ifs, 0⟩] scope pos) 0 (.ref it) (.ref D) ce) (compPost (model X.prog X.w) X.A X.xe none (EP X pins σ Q) (.ref D) ce.locals) s4 := by
      refine PpSet.compLoopS_any (fun n s' => ∃ i H', W i n H' ∧ (∀ b ∈ fp, H' b = none) ∧ tn i s'.heap ∧ Inv (X.blk s3 H3 scope ce fp) [] (wipe σ (own.map (·.2))) H' s') ?_ m0 ⟨0, H3, w0, n4, st4, I4⟩
      rintro n s5 ⟨i, H5, w5, n5, st5, I5⟩
      rcases turn i n H5 w5 with ⟨stop, qq⟩ | ⟨go, Nx, hNx, step⟩
      · refine thnF (T.done (X.blk s3 H3 scope ce fp) rfl rfl rfl hc i [] s5 _ H5 (fun _ _ => False) I5 (own' I5 n5) st5 stop) fun r s6 ⟨hr, I6⟩ => ?_
        subst hr
        have I7 : Inv X pins σ H5 s6 := I3.call' (ch := fp) I6.os I6.base I6.hok I6.bare fun b hb => ⟨(f3 b hb).1.2.2.2.1, (f3 b hb).1.2.1, (f3 b hb).1.2.2.2.2.1, (f3 b hb).1.2.2.2.2.2⟩
        have nC : H5 s3.heap.objs.size = none := cL ▸ I6.free
        obtain ⟨m, hn, _⟩ := I6.loc
        have hn : s6.heap.Ns ce.locals m := hn
        obtain ⟨g0, g1, g3, g4, g5, g6⟩ := I3.fpOk (Nat.le_refl s3.heap.objs.size) nC
        rw [← cL] at g0 g1 g3 g4 g5 g6
        exact ⟨m, hn, fun h'' sb => ⟨.ref D, H5, I7.turned (t' := s6.toks) (fun b o hb e => (sb.2 b hb).trans e) g0 g1 g4 g5 g6, rfl, qq⟩⟩
      · refine thnF (T.item (X.blk s3 H3 scope ce fp) rfl rfl rfl hc i [] s5 _ H5 (fun _ _ => False) I5 (own' I5 n5) st5 go) fun r s6 ⟨u, hr, h6⟩ => ?_
        subst hr
        refine thnF h6 fun _ s7 ⟨x, H7, I7, r7, y7, st7, n7⟩ => ?_
        have I7' := I7.pinned (own' I7 n7) (T.obj _ _ st7)
        refine thnF (pg.run _ s7 _ H7 x u _ I7' r7 (step x H7 y7)) fun _ s8 ⟨σ8, H8, I8, hw8, q8⟩ => thnF (pt.run _ s8 σ8 H8 _ I8 q8) fun b s9 ⟨H9, I9, q9⟩ => ?_
        have fin : ∀ {s' : Shared} {H' : Hp}, Inv (X.blk s3 H3 scope ce fp) ([] ++ pinsAt fp s7.heap) σ8 H' s' → Nx H' → ∃ m, m < n ∧ ∃ i H', W i m H' ∧ (∀ b ∈ fp, H' b = none) ∧ tn i s'.heap ∧ Inv (X.blk s3 H3 scope ce fp) [] (wipe σ (own.map (·.2))) H' s' := fun {s' H'} I' nx => by
          obtain ⟨m', lt, w'⟩ := hNx H' nx
          have pin' : ∀ b ∈ fp, ∀ o, s7.heap.get? b = some o → s'.heap.get? b = some o ∧ H' b = none := fun b hb o e =>
            have z := I'.pin (b, o) (List.mem_append_right _ (List.mem_append_right _ (mem_pinsAt hb e)))
            ⟨z.1, z.2.1⟩
          refine ⟨m', lt, i + 1, H', w', fun b hb => ?_, T.keep _ _ _ st7 fun b hb o e => (pin' b hb o e).1, (I'.unpinned (pins := [])).weak (by rw [← hw8, wipe_length]) fun j v e => ?_⟩
          · obtain ⟨o, e, _⟩ := T.obj _ _ st7 b hb
            exact (pin' b hb o e).2
          · rw [← hw8] at e
            exact (wipe_some e).1
        cases b with
        | false =>
          simp only [Bool.false_eq_true, if_false] at q9 ⊢
          exact fin I9 q9
        | true =>
          simp only [if_true] at q9 ⊢
          refine thnF (pe.run _ s9 σ8 H9 _ I9 q9) fun z s10 ⟨yv, H10, I10, r10, p, k, L, ey, hp, hD10, hT, hk, hf, nx⟩ => ?_
          subst ey
          cases r10
          exact ts_add (X := X.blk s3 H3 scope ce fp) I10 hu hD10 hT hp hk hf fun L' s11 pm I11 => fin I11 (nx L' pm)
    exact PpSet.codeAny_compStart_set loop (T.self X.A 0 _ _ _ st4 loop)
  rw [cL, ece] at goal'
  exact goal'
def rLenTs (P : Program) (w : World) : List V → Hp → VK → Prop := fun xs H Q => ∃ (D : Addr) (L : List (Addr × List Str)), xs = [.ref D] ∧ H D = some (TsO P w D L) ∧ Q (.int L.length) H
theorem cr_lenTs : CallR X (.builtin "len") (rLenTs X.prog X.w) := by
  intro pins s σ H xs us Q I r h
  obtain ⟨D, L, rfl, hD, q⟩ := h
  rw [Vals.ref1 r]
  obtain ⟨es, ep, t, R⟩ : ∃ es ep t, TxS X.prog X.w s.heap D L es ep t := (I.hok D _ hD).1
  obtain ⟨o, g, hex, hd⟩ := R.here
  refine call_len_set g hex hd R.fits ?_ ⟨.int L.length, H, I.tok _, ⟨_, by rw [R.size]⟩, q⟩
  have := R.few
  rw [R.size]
  omega
end
end
section
open L2 PySem PySem.Spec PyProof.Rows
abbrev TxOf (P : Program) (w : World) (h : Heap) (a : Addr) (xs : List Str) : Prop := h.SetOf (PySem.strKind P w) a (fun k => decide (k ∈ xs)) xs.length
abbrev eset (led : Bool) : Obj := { cls := .type "set", dict := none, data := .set #[] 0 (.fresh 0 0 led) }
theorem TxOf.at {P : Program} {w : World} {h h' : Heap} {a : Addr} {xs : List Str} (z : TxOf P w h a xs) (k : ∀ o, h.get? a = some o → h'.get? a = some o) : TxOf P w h' a xs :=
  let ⟨o, es, ep, t, g, r⟩ := z
  ⟨o, es, ep, t, k o g, r⟩
section
variable {P : Program} {w : World} {A : Around} {R : Result → Shared → Prop} {I : Addr} {fp wr : List Addr} {G : Array GenState → Array GenState → Prop} {n : Nat} {Pv : Nat → Value → Prop} {St : Nat → Shared → Prop}
theorem fill_texts (W : WalksS P w A.in1 I fp wr G n Pv St) (S : Addr) (nS : S ∉ fp) (xs : List Str) (hl : xs.length = n) (nd : xs.Nodup) (hb : n + 1 < scanBound) (hv : ∀ i v, Pv i v → ∃ z t, xs[i]? = some z ∧ v = .str z t) :
    ∀ (m i : Nat) (s : Shared), n - i = m → i ≤ n → St i s → TxOf P w s.heap S (xs.take i) → (∀ s', Moved (S :: wr) G s s' → TxOf P w s'.heap S xs → R (.ok (.ret .none)) s') →
      codeAny (model P w) A (.builtin "set.update.loop" ⟨[.ref S, .ref I], []⟩) R s := by
  have nw : S ∉ wr := fun z => nS (W.sub _ z)
  have up : ∀ b ∈ wr, b ∈ S :: wr := fun b hb => .tail _ hb
  intro m
  induction m with
  | zero =>
    intro i s hm hi st z q
    have e : i = n := by omega
    refine codeAny_builtin PyProof.Rows.F.entry_set_update_loop ?_
    rw [Around.under_plainId PyProof.Rows.F.plain_set_update_loop _]
    show wpAny _ A.in1 (pyNext (.ref I) >>= _) _ _ s
    rw [e] at st z
    refine wpAny_bind (W.done s _ _ st fun s' mv => ?_)
    show wpAny _ A.in1 (ret Value.none) _ _ s'
    rw [← hl, List.take_length] at z
    exact wpAny_pure (q s' (mv.mono up) (z.at fun o g => mv.heap S o nw g))
  | succ m ih =>
    intro i s hm hi st z q
    have lt : i < n := by omega
    refine codeAny_builtin PyProof.Rows.F.entry_set_update_loop ?_
    rw [Around.under_plainId PyProof.Rows.F.plain_set_update_loop _]
    show wpAny _ A.in1 (pyNext (.ref I) >>= _) _ _ s
    refine wpAny_bind (W.item i s _ _ lt st fun v s' pv st' mv => ?_)
    obtain ⟨x, tk, hx, rfl⟩ := hv i v pv
    have z' : TxOf P w s'.heap S (xs.take i) := z.at fun o g => mv.heap S o nw g
    have ln : (xs.take i).length = i := by rw [List.length_take]; omega
    have new : x ∉ xs.take i := fun hm => by
      obtain ⟨j, hj, e⟩ := List.getElem_of_mem hm
      rw [List.length_take] at hj
      obtain ⟨hi2, e2⟩ := List.getElem?_eq_some_iff.mp hx
      rw [List.getElem_take] at e
      have := (List.getElem_inj nd).mp (e.trans e2.symm)
      omega
    show wpAny _ A.in1 (holding [Value.str x tk] (setAdd S (.str x tk)) >>= _) _ _ s'
    refine wpAny_bind (wpAny_holding ?_)
    unfold setAdd
    refine wpAny_holding (wpAny_bind ((PySem.strKind P w).pyHash (k := x) (PySem.strKind_is _ _ _ _) ?_))
    refine wpAny_setAddHashed_of (knd := PySem.strKind P w) (s := { s' with toks := s'.toks + 1 }) (PySem.strKind_is _ _ _ _) rfl z' (by omega) fun h' sb z2 => ?_
    have z3 : TxOf P w h' S (xs.take (i + 1)) := by
      have tk1 : xs.take (i + 1) = xs.take i ++ [x] := by rw [List.take_succ, hx]; rfl
      refine SetOf_congr z2 (fun k => ?_) (by rw [if_neg (by simpa using new), ln, List.length_take]; omega)
      rw [tk1]
      by_cases e : k = x <;> simp [e]
    refine wpAny_pure ⟨plainId_quiet PyProof.Rows.F.plain_set_update_loop _, ih (i + 1) _ (by omega) lt (W.frame _ s' _ _ st' (Nat.le_succ _) fun b hb o e => (sb.2 b fun h => nS (h ▸ hb)).trans e) z3 fun s2 mv2 z4 => q s2 (Moved.trans W.gtrans ((mv.mono up).then_heap (Nat.le_succ _) fun b o hb e => (sb.2 b fun h => hb (h ▸ .head _)).trans e) mv2) z4⟩
end
section
variable {P : Program} {w : World} {A : Around} {E : Value → Shared → Prop} {s : Shared}
theorem call_set_texts {l : Addr} {items : Array Value} {xs : List Str} {Q : Value → Shared → Prop} (hh : A.handled = none) (hl : s.heap.IsTuple l items) (hi : StrsAre items.toList xs) (nd : xs.Nodup) (hb : xs.length + 1 < scanBound)
    (q : ∀ (h' : Heap) (tk : Nat), TxOf P w h' s.heap.objs.size xs → (∀ b o, b < s.heap.objs.size → s.heap.get? b = some o → h'.get? b = some o) → Q (.ref s.heap.objs.size) { s with heap := h', toks := tk }) :
    wpAny (model P w) A (call (.type "set") [.ref l]) Q E s := by
  have c1 := PySem.F.called_set.made
  have c2 := PySem.F.called_set.sub
  have c3 := PySem.F.called_set.notType
  have c4 := PySem.F.called_set.canCreate
  have c5 := PySem.F.typeCall_set_1 (.ref l)
  obtain ⟨_, _, c6⟩ := PySem.F.called_set.mro
  refine wpAny_call (codeAny_of_tree ?_)
  show wpAny _ _ (callAny (.type "set") _) _ _ _
  refine wpAny_pure ⟨Code.quiet_builtin _ (by decide +kernel), codeAny_builtin PySem.F.entry_type_call ?_⟩
  rw [Around.under_plain (weight_type_call_type "set" [.ref l] []) rfl]
  repeat (any_goals (first | assumption | wp_step))
  refine codeAny_mono (code_set_new_1 (.ref l) (E := E) (Q₁ := fun v z => ∃ led : Bool, v = .ref s.heap.objs.size ∧ z = { s with heap := s.heap.push (eset led) }) fun led => ⟨led, rfl, rfl⟩) fun r z hr => ?_
  cases r with
  | error e => exact hr
  | ok fl =>
   cases fl with
   | ret obj =>
    obtain ⟨led, rfl, rfl⟩ := hr
    have g0 : (s.heap.push (eset led)).get? s.heap.objs.size = some (eset led) := Heap.get?_push_size _ rfl
    have ty : Shared.TypeIs { s with heap := s.heap.push (eset led) } (.ref s.heap.objs.size) "set" := ⟨_, g0, rfl⟩
    have d1 := PySem.F.called_set.init.lookup
    have d2 := PySem.F.called_set.init.bind (.ref s.heap.objs.size)
    repeat (any_goals (first | assumption | wp_step))
    refine codeAny_mono (codeAny_call_builtin (R := wants (fun v z => v = .none ∧ ∃ h' tk, z = { s with heap := h', toks := tk } ∧ TxOf P w h' s.heap.objs.size xs ∧ ∀ b o, b < s.heap.objs.size → s.heap.get? b = some o → h'.get? b = some o) E) PySem.F.called_set.init.plain PySem.F.entry_set_init (check_set_init_1 ty ?_)) fun r z hr => ?_
    · obtain ⟨⟨cl, di, da, sl⟩, hol, hcl, nl, hdl⟩ := hl
      simp only at hcl hdl
      subst hcl hdl
      have hol' : (s.heap.push (eset led)).get? l = some { cls := .type "tuple", dict := di, data := .seq items nl, slots := sl } := Heap.get?_push_of_some _ hol
      have f1 := PySem.F.sub_tuple_set
      have f2 := PySem.F.sub_tuple_frozenset
      have f3 : (Value.type "tuple" == Value.type "dict") = false := by decide
      have hl1 : (s.heap.push (eset led)).IsTuple l items := ⟨_, hol', rfl, nl, rfl⟩
      unfold Builtin.«set.__init__» noKeywords Builtin.Frozenset.updateFrom
      generalize hPI : pyIter = PI
      wp_walk
      subst hPI
      refine wpAny_pyIter_tuple hl1 (wpAny_bind (wpAny_runValue ?_))
      have lt : l < s.heap.objs.size := Heap.lt_size hol
      have sz : (s.heap.push (eset led)).objs.size = s.heap.objs.size + 1 := Heap.size_push ..
      have ne : l ≠ (s.heap.push (eset led)).objs.size := by rw [sz]; exact Nat.ne_of_lt (Nat.lt_succ_of_lt lt)
      have nS : s.heap.objs.size ∉ [(s.heap.push (eset led)).objs.size, l] := by
        rw [sz]
        simp only [List.mem_cons, List.not_mem_nil, or_false, not_or]
        exact ⟨Nat.ne_of_lt (Nat.lt_succ_self _), Nat.ne_of_gt lt⟩
      have len : xs.length = items.size := by rw [← StrsAre.len_eq hi, Array.length_toList]
      have at_ : ∀ (i : Nat) (v : Value), items[i]? = some v → ∃ z t, xs[i]? = some z ∧ v = .str z t := fun i v hv => by
        obtain ⟨t, e⟩ := SS.strs_at hi i v (by rw [Array.getElem?_toList]; exact hv)
        have hlt : i < xs.length := by
          rw [len]
          exact (Array.getElem?_eq_some_iff.mp hv).1
        refine ⟨xs[i], t, List.getElem?_eq_getElem hlt, ?_⟩
        rw [e, List.getD_eq_getElem?_getD, List.getElem?_eq_getElem hlt]
        rfl
      refine fill_texts ((Walks.tuple (by simp [hh]) _ l ne items).toS) s.heap.objs.size nS xs len nd (by rw [← len]; exact hb) at_ (items.size - 0) 0 _ (by omega) (Nat.zero_le _) ⟨⟨_, Heap.get?_push_size _ rfl, rfl, rfl⟩, (hl1.push _)⟩ ?_ fun s' mv z => ?_
      · exact SetOf_congr ((setObjOf_fresh (knd := PySem.strKind P w) led).setOf (Heap.get?_push_of_some _ g0) (by unfold scanBound; omega)) (fun _ => by simp) rfl
      · obtain ⟨h', g', d', tk', os'⟩ := s'
        obtain rfl : g' = s.gens := mv.gens
        obtain rfl : d' = s.drawn := mv.drawn
        obtain rfl : os' = s.os := mv.os
        show wpAny _ _ _ _ _ _
        refine wpAny_pure ?_
        show wpAny _ _ (ret Value.none) _ _ _
        refine wpAny_pure ⟨rfl, h', tk', rfl, z, fun b o hb e => mv.heap b o ?_ (Heap.get?_push_of_some _ (Heap.get?_push_of_some _ e))⟩
        rw [sz]
        simp only [List.mem_cons, List.not_mem_nil, or_false, not_or]
        exact ⟨Nat.ne_of_lt hb, Nat.ne_of_lt (Nat.lt_succ_of_lt hb)⟩
    · cases r with
      | error e => exact hr
      | ok fl =>
       cases fl with
       | ret v =>
        obtain ⟨rfl, h', tk, rfl, z, k⟩ := hr
        repeat (any_goals (first | assumption | wp_step))
        exact q _ _ z k
       | _ => exact hr.elim
   | _ => exact hr.elim
end
section
variable {X : Cx}
def TxsO (P : Program) (w : World) (a : Addr) (xs : List Str) : HO := .ext fun h => TxOf P w h a xs
def rSetTexts (K : PySem.W.Frag) (P : Program) (w : World) : List V → Hp → VK → Prop := fun vs H Q => ∃ (l : Addr) (xs : List Str), vs = [.ref l] ∧ SqT K H l (xs.map V.str) ∧ xs.Nodup ∧ xs.length < 60 ∧ ∀ D, H D = none → Q (.ref D) (upd H D (TxsO P w D xs))
theorem cr_setTexts (hc : X.calm = true) : CallR X (.type "set") (rSetTexts X.K X.prog X.w) := by
  intro pins s σ H vs us Q I r h
  obtain ⟨l, xs, rfl, hl, nd, lt, q⟩ := h
  rw [Vals.ref1 r]
  obtain ⟨its, rv, pl, hz⟩ := I.tuple hl
  refine call_set_texts (I.ok.hd hc) pl (by simpa using strsAre_of rv) nd (by unfold scanBound; omega) fun h' tk z k => ?_
  refine ⟨.ref s.heap.objs.size, upd H s.heap.objs.size (TxsO X.prog X.w s.heap.objs.size xs), I.laid (t' := tk) (fun b o e => k b o (Heap.lt_size e) e) (Nat.le_refl _) ⟨z, ?_, fun h1 h2 z k => TxOf.at z k⟩, rfl, q _ (I.hok.fresh (Nat.le_refl _))⟩
  obtain ⟨o, _, _, _, g, _⟩ := z
  exact ⟨o, g⟩
def rLenTexts (P : Program) (w : World) : List V → Hp → VK → Prop := fun vs H Q => ∃ (D : Addr) (xs : List Str), vs = [.ref D] ∧ H D = some (TxsO P w D xs) ∧ Q (.int xs.length) H
theorem cr_lenTexts : CallR X (.builtin "len") (rLenTexts X.prog X.w) := by
  intro pins s σ H vs us Q I r h
  obtain ⟨D, xs, rfl, hD, q⟩ := h
  rw [Vals.ref1 r]
  obtain ⟨o, es, ep, t, ho, hex, hd, _, _, hlt, hf, hn⟩ : TxOf X.prog X.w s.heap D xs := (I.hok D _ hD).1
  refine call_len_set ho hex hd hf ?_ ⟨.int xs.length, H, I.tok _, ⟨_, by rw [hn]⟩, q⟩
  unfold scanBound at hlt
  omega
end
end
section
open L2 PySem PySem.Spec PyProof.Rows
section
variable {P : Program} {w : World} {A : Around} {E : Value → Shared → Prop} {s : Shared}
theorem sorted_texts {l : Addr} {items : Array Value} {ss : List Str} {Q : Value → Shared → Prop} (hl : s.heap.IsTuple l items) (hS : StrsAre items.toList ss) (hL : items.size ≤ sizeLine)
    (q : ∀ (h' : Heap) (a : Addr) (out : Array Value) (e : Nat) (ss' : List Str), (∀ b o, s.heap.get? b = some o → h'.get? b = some o) → s.heap.get? a = none → h'.get? a = some (seqObj "list" out e) → StrsAre out.toList ss' → ss'.Perm ss → sortedS ss' = true → Q (.ref a) { s with heap := h' }) :
    wpAny (model P w) A (call (.builtin "sorted") [.ref l]) Q E s := by
  obtain ⟨o, ho, hc, n, hd⟩ := hl
  refine Calls.call_function_entry kind_sorted plain_sorted entry_sorted (args_sorted1 _) ?_
  unfold Builtin.«sorted»
  refine wpAny_bind (m := checkCount "sorted" 1 1 _) (wpAny_pure (wpAny_bind (wpAny_collect_seq l (.inr rfl) ho hc hd (fun h1 k1 => wpAny_bind (wpAny_newList ?_ ?_)) hL)))
  · have g0 : (h1.push (seqObj "list" items.toList.toArray 0)).get? h1.objs.size = some (seqObj "list" items.toList.toArray 0) := Heap.get?_push_size _ rfl
    show wpAny _ _ _ _ _ { s with heap := h1.push (seqObj "list" items.toList.toArray 0) }
    refine wpAny_bind (wpAny_holding (wpAny_call_entry slot_list_sort ⟨_, g0, rfl⟩ entry_list_sort (list_sort_treeKAny strKind_oneLt g0 hS.keysOf (fun v₁ v₂ rest e => keyKind_strs (by rw [← e]; exact hS)) (by rw [Array.length_toList]; exact hL) fun st a1 a2 => ⟨_, rfl, ?_⟩) (args_list_sort _)))
    refine wpAny_pure ?_
    obtain ⟨ss', b1, b2, b3⟩ := sorted_out_str hS a1 a2
    obtain ⟨e, ge⟩ := sortedHeap_at (vs := items.toList) (out := (arrOf st).map (·.2)) g0
    refine ⟨_, rfl, q _ h1.objs.size _ e ss' (fun b o' z => ?_) ?_ ge b1 b2 b3⟩
    · have lt : b < h1.objs.size := Heap.lt_size (k1 b o' z)
      rw [sortedHeap_old (Nat.ne_of_lt lt) (by rw [size_push']; exact Nat.lt_succ_of_lt lt)]
      exact Heap.get?_push_of_some _ (k1 b o' z)
    · cases z : s.heap.get? h1.objs.size with
      | none => rfl
      | some o' => exact absurd (Heap.lt_size (k1 _ o' z)) (Nat.lt_irrefl _)
  · rw [Array.length_toList]
    exact hL
end
section
variable {X : Cx}
def rSortedTx (K : PySem.W.Frag) : List V → Hp → VK → Prop := fun vs H Q => ∃ (a : Addr) (xs : List Str), vs = [.ref a] ∧ SqT K H a (xs.map V.str) ∧ ∀ (ys : List Str) (p : Addr), ys.Perm xs → sortedS ys = true → H p = none → Q (.ref p) (upd H p (.lst (ys.map V.str)))
theorem cr_sortedTx : CallR X (.builtin "sorted") (rSortedTx X.K) := by
  intro pins s σ H vs us Q I r h
  obtain ⟨a, xs, rfl, hs, q⟩ := h
  obtain ⟨its, rv, pl, hz⟩ := I.tuple hs
  rw [Vals.ref1 r]
  have hz' : its.toArray.size ≤ sizeLine := by
    rw [List.size_toArray, ← rv.length]
    exact hz
  refine sorted_texts (ss := xs) pl (by simpa using rv.strs) hz' fun h' p out e ys k n0 g b1 b2 b3 => ?_
  have hn : H p = none := I.hok.gone n0
  refine ⟨.ref p, upd H p (.lst (ys.map V.str)), I.laidN (t' := s.toks) k n0 hn ⟨?_, out.toList, e, vals_of_strs b1, ?_⟩, rfl, q ys p b2 b3 hn⟩
  · rw [List.length_map, b2.length_eq, ← List.length_map (f := V.str)]
    exact hz
  · rw [g]
end
end
section
open L2 PySem PySem.Spec PyProof.Rows
theorem ps_dead {X : Cx} {st : Stmt} : PS X st (fun _ _ _ => False) := ⟨fun pins s σ H D I h => h.elim⟩
section
variable {X : Cx} {K : PySem.W.Frag}
theorem k_sortedTx (hK : X.K = K := by rfl) : CallR X (.builtin "sorted") (rSortedTx K) := by subst hK; exact cr_sortedTx
def rTIndex (K : PySem.W.Frag) : V → List V → Hp → VK → Prop := fun x xs H Q => ∃ p, ∃ ys : List Str, ∃ z j, x = .ref p ∧ xs = [.str z] ∧ SqT K H p (ys.map V.str) ∧ ys[j]? = some z ∧ (∀ m, m < j → ys[m]? ≠ some z) ∧ Q (.int (j : Nat)) H
theorem k_tindex (hK : X.K = K := by rfl) : MtR X "tuple.index" (rTIndex K) := by subst hK; exact mt_tup_index
end
theorem idx_first {ys : List Str} {z : Str} (h : z ∈ ys) : ys[ys.idxOf z]? = some z ∧ ∀ m, m < ys.idxOf z → ys[m]? ≠ some z := by
  have lt := List.idxOf_lt_length_iff.mpr h
  refine ⟨by rw [List.getElem?_eq_getElem lt, List.getElem_idxOf], fun m hm e => ?_⟩
  obtain ⟨hm2, e2⟩ := List.getElem?_eq_some_iff.mp e
  have := List.not_of_lt_findIdx (p := (· == z)) (xs := ys) hm
  rw [e2] at this
  simp at this
section
variable {σ : L2.St} {H : Hp} {Q : VK} {K : PySem.W.Frag}
theorem i_tix {p : Addr} {ys : List Str} {z : Str} (e : SqT K H p (ys.map V.str)) (h : z ∈ ys) (q : Q (.int ((ys.idxOf z : Nat) : Int)) H) : rTIndex K (.ref p) [.str z] H Q :=
  ⟨p, ys, z, ys.idxOf z, rfl, rfl, e, (idx_first h).1, (idx_first h).2, q⟩
end
end
section
open L2 PySem PySem.Spec PyProof.Rows
def obOk (ob : Obj) : Prop := ob.cls = .type "tuple" ∧ ob.dict = none
def FT (H : Hp) (p : Addr) (xs : List V) : Prop := ∃ ob, H p = some (.frz ob (.tup xs)) ∧ obOk ob
theorem FT.sq {K : PySem.W.Frag} {H : Hp} {p : Addr} {xs : List V} (h : FT H p xs) : SqT K H p xs := let ⟨ob, e, _⟩ := h; .inl (.inr ⟨ob, e⟩)
theorem FT.new {H : Hp} {p : Addr} {xs : List V} {ob : Obj} (h : obOk ob) : FT (upd H p (.frz ob (.tup xs))) p xs := ⟨ob, upd_same, h⟩
theorem FT.same {H H' : Hp} {p : Addr} {xs : List V} (h : FT H p xs) (k : Same H H') : FT H' p xs := let ⟨ob, e, o⟩ := h; ⟨ob, k _ _ e, o⟩
section
variable {X : Cx}
theorem lay_tup {pins : List (Addr × Obj)} {σ : L2.St} {H : Hp} {s : Shared} {xs : List V} {us : List Value} (I : Inv X pins σ H s) (r : Vals xs us) (z : xs.length ≤ sizeLine) :
    ∃ (p : Addr) (ob : Obj), p = s.heap.objs.size ∧ obOk ob ∧ H p = none ∧ Inv X pins σ (upd H p (.frz ob (.tup xs))) { s with heap := s.heap.push { cls := .type "tuple", data := .seq us.toArray } } :=
  ⟨s.heap.objs.size, { cls := .type "tuple", data := .seq us.toArray }, rfl, ⟨rfl, rfl⟩, I.hok.fresh (Nat.le_refl _), I.laid (t' := s.toks) (fun b u e => Heap.get?_push_of_some _ e) (Nat.le_refl _)
    ⟨Heap.get?_push_size _ rfl, z, us, r, ⟨_, Heap.get?_push_size _ rfl, rfl, _, rfl⟩⟩⟩
def tTupF (t : TA) : TE := fun σ H Q => t σ H fun xs H1 => xs.length ≤ sizeLine ∧ ∀ p ob, H1 p = none → obOk ob → Q (.ref p) (upd H1 p (.frz ob (.tup xs)))
theorem pe_tupF {es : List Expr} {t : TA} {k : Nat} {pos : Pos} (h : PA X es t) : PE X (.Tuple es k pos) (tTupF t) := by
  refine ⟨fun pins s σ H Q I hq => ?_⟩
  refine wpAny_Tuple_spliced (thn (h.run pos pins s σ H _ I hq) fun us s1 ⟨xs, H1, I1, r, z, q⟩ => ⟨by rw [← r.length]; exact z, ?_⟩)
  obtain ⟨p, ob, rfl, ok, n, J⟩ := lay_tup I1 r z
  exact ⟨.ref _, _, J, rfl, q _ ob n ok⟩
def rTupleF (K : PySem.W.Frag) : List V → Hp → VK → Prop := fun xs H Q => ∃ p ys, xs = [.ref p] ∧ SqL K H p ys ∧ ∀ l ob, H l = none → obOk ob → Q (.ref l) (upd H l (.frz ob (.tup ys)))
theorem cr_tupleF : CallR X (.type "tuple") (rTupleF X.K) := by
  intro pins s σ H xs us Q I r h
  obtain ⟨p, ys, rfl, hq, q⟩ := h
  rw [Vals.ref1 r]
  obtain ⟨its, r', pl, hz⟩ := I.list hq
  have hl := r'.length
  refine call_tuple_list pl.isList (fun h' kp => ?_) (by simp only [List.size_toArray] <;> omega)
  obtain ⟨p, ob, rfl, ok, n, J⟩ := lay_tup (I.kept (t' := s.toks) kp : Inv X pins σ H { s with heap := h' }) r' hz
  exact ⟨.ref _, _, J, rfl, q _ ob n ok⟩
def rCatF (K : PySem.W.Frag) : R2 := fun x y H Q => ∃ a b xs ys, x = .ref a ∧ y = .ref b ∧ SqT K H a xs ∧ SqT K H b ys ∧ xs.length + ys.length ≤ sizeLine ∧
  (xs = [] → Q (.ref b) H) ∧ (xs ≠ [] → ys = [] → Q (.ref a) H) ∧ (xs ≠ [] → ys ≠ [] → ∀ p ob, H p = none → obOk ob → Q (.ref p) (upd H p (.frz ob (.tup (xs ++ ys)))))
theorem op_catF : OpR X (binaryOp .Add) (rCatF X.K) := by
  intro pins s σ H x y v u Q I rx ry h
  obtain ⟨a, b, xs, ys, rfl, rfl, ha, hb, hz, q0, q1, q2⟩ := h
  cases rx
  cases ry
  obtain ⟨its, r1, p1, _⟩ := I.tuple ha
  obtain ⟨its2, r2, p2, _⟩ := I.tuple hb
  by_cases hx : xs = []
  · subst hx
    cases r1
    exact cat_tup0 p1 p2 ⟨.ref b, H, I, rfl, q0 rfl⟩
  · refine HT.cat_tup p1 p2 (fun z => hx (r1.nil_iff.mp z)) (fun z => ⟨.ref a, H, I, rfl, q1 hx (r2.nil_iff.mp z)⟩) (fun z => ?_) (by rw [← r1.length, ← r2.length]; exact hz)
    obtain ⟨p, ob, rfl, ok, n, J⟩ := lay_tup I (r1.append r2) (by rw [List.length_append]; exact hz)
    exact ⟨.ref _, _, J, rfl, q2 hx (fun w => z (r2.nil_iff.mpr w)) _ ob n ok⟩
end
section
variable {P : Program} {w : World} {A : Around} {E : Value → Shared → Prop} {s : Shared}
theorem applied_back {sl : Addr} {c : Value} {n : Nat} {Q : Int × Int × Nat → Shared → Prop} (hs : s.heap.IsSliceOf sl .none .none c) (pc : IsPart c (some (-1))) (q : Q ((n : Int) - 1, -1, n) s) : wpAny (model P w) A (Builtin.Slice.sliceApplied (.ref sl) (pure (n : Int))) Q E s := by
  obtain ⟨os, hos, hcs, hds⟩ := id hs
  unfold Builtin.Slice.sliceApplied Builtin.Slice.sliceFields
  refine wpAny_bind (wpAny_bind (wpAny_field hos hds (x := .none) rfl (wpAny_bind (wpAny_field hos hds (x := .none) rfl (wpAny_bind (wpAny_field hos hds (x := c) rfl (wpAny_pure ?_)))))))
  refine wpAny_bind (HT.slicePart_ pc ?_)
  show wpAny _ _ (if ((-1 : Int) == 0) = true then _ else _) _ _ s
  rw [if_neg (by decide)]
  refine wpAny_bind (HT.slicePart_ .none (wpAny_bind (HT.slicePart_ .none (wpAny_bind (wpAny_pure ?_)))))
  have e1 : Builtin.Slice.sliceAdjust none none (-1) (n : Int) = ((n : Int) - 1, -1) := by
    unfold Builtin.Slice.sliceAdjust
    simp
  have e2 : Builtin.Slice.slicePlaces ((n : Int) - 1) (-1) (-1) = n := by
    unfold Builtin.Slice.slicePlaces
    have h1 : ¬ ((-1 : Int) > 0) := by decide
    simp only [h1, if_false]
    by_cases h : (n : Int) - 1 > -1
    · rw [if_pos h, show (- -1 : Int) = 1 from by decide, Int.ediv_one]
      omega
    · rw [if_neg h]
      omega
  show wpAny _ _ (match Builtin.Slice.sliceAdjust none none (-1) (n : Int) with | (lo, hi) => pure (lo, (-1 : Int), Builtin.Slice.slicePlaces lo hi (-1))) _ _ s
  rw [e1]
  show wpAny _ _ (pure ((n : Int) - 1, (-1 : Int), Builtin.Slice.slicePlaces ((n : Int) - 1) (-1) (-1))) _ _ s
  rw [e2]
  exact wpAny_pure q
theorem back_pick (xs : Array Value) : ((List.range xs.size).filterMap fun (k : Nat) => xs[(((xs.size : Int) - 1) + (k : Int) * -1).toNat]?) = xs.toList.reverse := by
  rw [show (fun (k : Nat) => xs[(((xs.size : Int) - 1) + (k : Int) * -1).toNat]?) = fun k => xs[xs.size - 1 - k]? from funext fun k => by
    rw [show (((xs.size : Int) - 1) + (k : Int) * -1).toNat = xs.size - 1 - k from by omega]]
  have h := PySem.W.krv_all xs
  have e : (List.range xs.size).filterMap (fun k => xs[xs.size - 1 - k]?) = ((List.range xs.size).map fun k => xs.size - 1 - k).filterMap (xs[·]?) := by
    rw [List.filterMap_map]
    rfl
  rw [e, PySem.W.krv_range, List.filterMap_reverse, h]
theorem getItem_back {t sl : Addr} {items : Array Value} {c : Value} {Q : Value → Shared → Prop} (ht : IsTup s.heap t items) (hs : s.heap.IsSliceOf sl .none .none c) (pc : IsPart c (some (-1)))
    (q : Q (.ref s.heap.objs.size) { s with heap := s.heap.push { cls := .type "tuple", data := .seq items.toList.reverse.toArray } }) (hz : items.size ≤ sizeLine) : wpAny (model P w) A (getItem (.ref t) (.ref sl)) Q E s := by
  obtain ⟨os, hos, hcs, _⟩ := id hs
  have ty : s.TypeIs (.ref sl) "slice" := ⟨os, hos, hcs⟩
  unfold getItem
  try with_reducible refine wpAny_holding ?_
  first | refine wpAny_bind (wpAny_pure ?_) | skip
  refine wpAny_bind (wpAny_sequenceKey ht.typeIs (by decide) ?_)
  refine wpAny_bind (wpAny_callSpecial?_slot (name := Str.ofString "__getitem__") ht.typeIs PyProof.Rows.slot_tuple_getitem (wpAny_call_entry PyProof.Rows.slot_tuple_getitem ht.typeIs entry_tuple_getitem ?_ (args_tuple_getitem _ _)))
  show wpAny _ _ (Builtin.Tuple.tupleItemsOf (.ref t) >>= _) _ _ s
  refine wpAny_bind (tupleItemsOf_ ht (wpAny_bind (wpAny_typeOf ty ?_)))
  rw [if_pos (by decide)]
  refine wpAny_bind (applied_back hs pc ?_)
  have no : ¬ ((((items.size : Int) - 1) == 0 && (-1 : Int) == 1 && items.size == items.size) = true) := by
    simp
  show wpAny _ _ (if (((items.size : Int) - 1) == 0 && (-1 : Int) == 1 && items.size == items.size) = true then _ else _) _ _ s
  rw [if_neg no]
  have fit : sizeOk (.seq items.toList.reverse.toArray) := by
    show items.toList.reverse.toArray.size ≤ sizeLine
    rw [List.size_toArray, List.length_reverse, Array.length_toList]
    exact hz
  rw [back_pick]
  first
    | exact wpAny_bind (m := Builtin.Tuple.tupleExact _) (wpAny_newObj_type (wpAny_pure ⟨_, rfl, wpAny_pure q⟩) fit)
    | exact wpAny_bind (m := Builtin.Tuple.tupleExact _) (wpAny_newObj_type (wpAny_bind (wpAny_pure (wpAny_pure ⟨_, rfl, wpAny_pure q⟩))) fit)
    | exact wpAny_bind (wpAny_bind (m := Builtin.Tuple.tupleExact _) (wpAny_newObj_type (wpAny_pure (wpAny_pure ⟨_, rfl, wpAny_pure q⟩)) fit))
    | exact wpAny_bind (wpAny_bind (m := Builtin.Tuple.tupleExact _) (wpAny_newObj_type (wpAny_pure ⟨_, rfl, wpAny_pure q⟩) fit))
end
section
variable {X : Cx} {K : PySem.W.Frag}
def tRevT (K : PySem.W.Frag) (te : TE) : TE := fun σ H Q => te σ H fun x H1 => ∃ a xs, x = .ref a ∧ SqT K H1 a xs ∧ ∀ p ob, H1 p = none → obOk ob → Q (.ref p) (upd H1 p (.frz ob (.tup xs.reverse)))
theorem pe_revT {e : Expr} {te : TE} {k : Nat} {p1 p2 p3 pos : Pos} (he : PE X e te) (hK : X.K = K := by rfl) : PE X (.Subscript e (.Slice none none (some (.UnaryOp .USub (.Constant (.int 1) k p1) p2)) p3) pos) (tRevT K te) := by
  subst hK
  refine ⟨fun pins s σ H Q I h => ?_⟩
  refine Subscript_ (thn (he.run pins s σ H _ I h) fun v s1 ⟨x, H1, I1, r1, a, xs, ex, hx, q⟩ => ?_)
  subst ex
  cases r1
  have st : PO X (some (.UnaryOp .USub (.Constant (.int 1) k p1) p2)) (tPart (tUn (rU fun i => .int (-i)) (tC (.int 1)))) := po_some (pe_un un_neg pe_int)
  refine wpAny_Slice (thn (po_none.run pins s1 σ H1 (fun o H2 => o = none ∧ H2 = H1) I1 ⟨rfl, rfl⟩) fun vl s2 ⟨l, H2, I2, pl, el, e2⟩ => ?_)
  subst el e2
  refine thn (po_none.run pins s2 σ H2 (fun o H3 => o = none ∧ H3 = H2) I2 ⟨rfl, rfl⟩) fun vu s3 ⟨u, H3, I3, pu, eu, e3⟩ => ?_
  subst eu e3
  refine thn (st.run pins s3 σ H3 (fun o H4 => o = some (-1) ∧ H4 = H3) I3 ⟨1, rfl, -1, rfl, rfl, rfl⟩) fun vs s4 ⟨o, H4, I4, ps, eo, e4⟩ => ?_
  subst eo e4
  cases pl
  cases pu
  have I5 : Inv X pins σ H4 { s4 with heap := s4.heap.push { cls := .type "slice", data := .fields #[.none, .none, vs] } } := I4.kept (t' := s4.toks) fun b ob q => Heap.get?_push_of_some _ q
  obtain ⟨its, r, ht, hz⟩ := I5.tuple hx
  have hl := r.length
  show wpAny (model X.prog X.w) X.A (subscriptTail e (.Slice none none (some (.UnaryOp .USub (.Constant (.int 1) k p1) p2)) p3) (.ref a) (.ref s4.heap.objs.size)) (EP X pins σ Q) X.xe { s4 with heap := s4.heap.push { cls := .type "slice", data := .fields #[.none, .none, vs] } }
  refine tail_any (ops := [.ref a, .ref s4.heap.objs.size]) (T := "tuple") ht.typeIs PyProof.Rows.slot_tuple_getitem.lookup ?_ (by with_unfolding_all rfl)
  refine getItem_back ht (Heap.IsSliceOf.new _ .none .none vs) ps ?_ (by rw [List.size_toArray]; omega)
  obtain ⟨p, ob, rfl, ok, n, J⟩ := lay_tup I5 (xs := xs.reverse) (us := its.toArray.toList.reverse) (by simpa using r.reverse) (by rw [List.length_reverse]; exact hz)
  exact ⟨.ref _, _, J, rfl, q _ ob n ok⟩
theorem k_tupleF (hK : X.K = K := by rfl) : CallR X (.type "tuple") (rTupleF K) := by subst hK; exact cr_tupleF
theorem k_catF (hK : X.K = K := by rfl) : OpR X (binaryOp .Add) (rCatF K) := by subst hK; exact op_catF
def tBMF (r : V → List V → Hp → VK → Prop) (to : TE) (t : TA) : TE := fun σ H Q => to σ H fun x H1 => (∃ p xs, x = .ref p ∧ FT H1 p xs) ∧ t σ H1 fun vs H2 => r x vs H2 Q
variable {o e : Expr} {es : List Expr} {to : TE} {t : TA} {name : Str} {apos cpos : Pos} {id : String} {r : V → List V → Hp → VK → Prop}
theorem pe_bmF (pa : PlainAttrs "tuple") (slot : Slot "tuple" name id) (hty : typeOf (.builtin id) = pure (.type "method_descriptor")) (hm : MtR X id r) (ho : PE X o to) (ha : PA X (e :: es) t)
    (hbase : attributeBase o name X.env (eval o X.env) = eval o X.env := by rfl)
    (hfew : ((backTo cpos (starEach (e :: es) X.env)).all (fun x => !x.1) && (backToKw cpos (keywordEach [] X.env)).all (fun x => x.1.isSome)
      && decide ((e :: es).length + ([] : List Keyword).length + (if ([] : List Keyword).isEmpty then 0 else 1) < 30)) = true := by rfl)
    (hline : (apos.endLine == cpos.line) = true := by rfl) (hs : starEach (e :: es) X.env = (false, eval e X.env) :: starEach es X.env := by rfl) (hplain : (backTo cpos (starEach es X.env)).any (·.1) = false := by rfl) :
    PE X (.Call (.Attribute o name apos) (e :: es) [] cpos) (tBMF r to t) := by
  refine ⟨fun pins s σ H Q I h => ?_⟩
  refine wpAny_Call_method_late hbase hfew hline rfl (thn (ho.run pins s σ H _ I h) fun v s1 ⟨x, H1, I1, r1, ⟨p, xs, ex, ob, hp, oc, od⟩, q1⟩ => ?_)
  subst ex
  obtain rfl : v = Value.ref p := r1
  have g : s1.heap.get? p = some ob := (I1.hok p _ hp).1
  refine ⟨"tuple", id, pa, slot, hty, ⟨ob, g, oc⟩, fun a z => ?_, ?_⟩
  · injection z with z
    subst z
    exact ⟨ob, g, od⟩
  have hA := ha.run cpos pins s1 σ H1 _ I1 q1
  rw [hs] at hA ⊢
  refine Calls.callWith_builtin (by show (false || (backTo cpos (starEach es X.env)).any (·.1)) = false; rw [hplain] <;> rfl) (Calls.evalArgs_plain ?_)
  exact thn hA fun us s2 ⟨vs, H2, I2, r2, q2⟩ => hm pins s2 σ H2 (.ref p) vs (.ref p) us Q I2 rfl r2 q2
end
section
variable {σ : L2.St} {H : Hp} {Q : VK} {K : PySem.W.Frag}
theorem i_bmF {r : V → List V → Hp → VK → Prop} {to : TE} {t : TA} (h : to σ H fun x H1 => (∃ p xs, x = .ref p ∧ FT H1 p xs) ∧ t σ H1 fun vs H2 => r x vs H2 Q) : tBMF r to t σ H Q := h
theorem i_tyF {p : Addr} {xs : List V} {A : Prop} (e : FT H p xs) (h : A) : (∃ q ys, V.ref p = .ref q ∧ FT H q ys) ∧ A := ⟨⟨p, xs, rfl, e⟩, h⟩
theorem i_revT {te : TE} (h : te σ H fun x H1 => ∃ a xs, x = .ref a ∧ SqT K H1 a xs ∧ ∀ p ob, H1 p = none → obOk ob → Q (.ref p) (upd H1 p (.frz ob (.tup xs.reverse)))) : tRevT K te σ H Q := h
end
end
section
open L2 PySem PySem.Spec PyProof.Rows
def arr1 (qs : List Str) (r : Str × Str) : Str × Str := if qs.idxOf r.1 < qs.idxOf r.2 then r else (r.2, r.1)
def arr (qs : List Str) (rs : List (Str × Str)) : List (Str × Str) := rs.map (arr1 qs)
def spIsName : Sp := fun vs H Q _ => ∃ z : Str, vs = [.str z] ∧ nmOk z = true ∧ ∀ H', Same H H' → Q (.bl true) H'
def spArePlaces (K : PySem.W.Frag) : Sp := fun vs H Q _ => ∃ (p : Addr) (ps : List Str), vs = [.ref p] ∧ SqT K H p (ps.map V.str) ∧ IsNames ps ∧ 0 < ps.length ∧ ps.length ≤ 8 ∧ ∀ H', Same H H' → Q (.bl true) H'
def spIsOneOf (K : PySem.W.Frag) : Sp := fun vs H Q _ => ∃ (z : Str) (p : Addr) (ps : List Str), vs = [.str z, .ref p] ∧ SqT K H p (ps.map V.str) ∧ z ∈ ps ∧ Q (.bl true) H
def spIsRoad (K : PySem.W.Frag) : Sp := fun vs H Q _ => ∃ (v : V) (r : Str × Str) (p : Addr) (ps : List Str), vs = [v, .ref p] ∧ Dp K H v (roadD r) ∧ SqT K H p (ps.map V.str) ∧ r.1 ∈ ps ∧ r.2 ∈ ps ∧ r.1 ≠ r.2 ∧ ∀ H', Same H H' → Q (.bl true) H'
def spAreRoads (K : PySem.W.Frag) : Sp := fun vs H Q _ => ∃ (tr tp : Addr) (xs : List V) (ps : List Str) (rs : List (Str × Str)), vs = [.ref tr, .ref tp] ∧ SqT K H tr xs ∧ DpAll K H xs (rs.map roadD) ∧ SqT K H tp (ps.map V.str) ∧ IsWeb ps rs ∧ ∀ H', Same H H' → Q (.bl true) H'
def spIsWeb (K : PySem.W.Frag) : Sp := fun vs H Q _ => ∃ (v : V) (ps : List Str) (rs : List (Str × Str)), vs = [v] ∧ Dp K H v (webD ps rs) ∧ IsWeb ps rs ∧ ∀ H', Same H H' → Q (.bl true) H'
def spNeedWeb (K : PySem.W.Frag) : Sp := fun vs H Q _ => ∃ (v : V) (ps : List Str) (rs : List (Str × Str)), vs = [v] ∧ Dp K H v (webD ps rs) ∧ IsWeb ps rs ∧ ∀ H', Same H H' → Q .non H'
def spArrows (K : PySem.W.Frag) : Sp := fun vs H Q _ => ∃ (v : V) (o : Addr) (qs ps : List Str) (rs : List (Str × Str)), vs = [v, .ref o] ∧ Dp K H v (webD ps rs) ∧ IsWeb ps rs ∧ FT H o (qs.map V.str) ∧ qs.Perm ps ∧ ∀ (T : Addr) (H' : Hp), Same H H' → Dp K H' (.ref T) (.tuple ((arr qs rs).map roadD)) → Q (.ref T) H'
end
section
open L2 PySem PySem.Spec PyProof.Rows
section
variable {σ : L2.St} {H : Hp} {Q : VK} {K : PySem.W.Frag} {te : TE} {R : It → Hp → Prop}
def isK (R : It → Hp → Prop) : V → Hp → Prop := fun x H1 => ∃ z, x = .str z ∧ R (Its z) H1
theorem i_istr {t : TE} (h : t σ H (isK R)) : iStr t σ H R := h
theorem i_isK {z : Str} (h : R (Its z) H) : isK R (.str z) H := ⟨z, rfl, h⟩
theorem p_str {v : Nat} (z : Str) (f : Nat → V) (hz : z.cps.size ≤ 100000)
    (hs : ∀ D acc i c (N : VK), H D = none → z.cps[i]? = some c → N (f i) (upd H D (.lst acc)) → te ((wipe σ [v]).set v (some (.str ⟨#[c]⟩))) (upd H D (.lst acc)) N)
    (hd : ∀ D, H D = none → Q (.ref D) (upd H D (.lst ((List.range z.cps.size).map f)))) : lcK (gName v) tYes te [v] σ Q (Its z) H := by
  intro D nD
  refine ⟨fun i m H' => m = z.cps.size - i ∧ i ≤ z.cps.size ∧ H' = upd H D (.lst ((List.range i).map f)), ⟨z.cps.size, by simp, Nat.zero_le _, rfl⟩, ?_⟩
  rintro i m H' ⟨rfl, hi, rfl⟩
  by_cases lt : i < z.cps.size
  · refine .inr ⟨lt, fun H' => H' = upd H D (.lst ((List.range (i + 1)).map f)), fun H' e => ⟨z.cps.size - (i + 1), by omega, rfl, lt, e⟩, ?_⟩
    rintro x H' ⟨rfl, c, hc, rfl⟩
    refine ⟨?_, ?_⟩
    · show List.set (List.set (List.set σ v none) v (some _)) v none = List.set σ v none
      rw [List.set_set, List.set_set]
    · show te _ _ _
      refine hs D _ i c _ nD hc ⟨_, upd_same, ?_, ?_⟩
      · rw [List.length_map, List.length_range, sizeLine_eq]
        omega
      · rw [upd_upd, List.range_succ, List.map_append]
        rfl
  · have e : i = z.cps.size := by omega
    subst e
    exact .inl ⟨Nat.le_refl _, hd D nD⟩
end
theorem nm_parts {z : Str} (h : nmOk z = true) : ∃ c r, z.cps.toList = c :: r ∧ r.length ≤ 7 ∧ (97 ≤ c ∧ c ≤ 122) ∧ ∀ x ∈ r, nmSign x = true := by
  unfold nmOk at h
  split at h
  · cases h
  · rename_i c r e
    simp only [Bool.and_eq_true, decide_eq_true_eq, List.all_eq_true] at h
    exact ⟨c, r, e, h.1.1, h.1.2, h.2⟩
theorem letter_in : ∀ k : Nat, k < 26 → (97 + k) ∈ (Str.ofString "abcdefghijklmnopqrstuvwxyz").cps.toList := by decide +kernel
theorem letter_in2 : ∀ k : Nat, k < 26 → (97 + k) ∈ (Str.ofString "abcdefghijklmnopqrstuvwxyz0123456789").cps.toList := by decide +kernel
theorem figure_in : ∀ k : Nat, k < 10 → (48 + k) ∈ (Str.ofString "abcdefghijklmnopqrstuvwxyz0123456789").cps.toList := by decide +kernel
theorem sign_in {c : Nat} (h : nmSign c = true) : c ∈ (Str.ofString "abcdefghijklmnopqrstuvwxyz0123456789").cps.toList := by
  unfold nmSign at h
  simp only [Bool.or_eq_true, Bool.and_eq_true, decide_eq_true_eq] at h
  rcases h with h | h
  · have := letter_in2 (c - 97) (by omega)
    rwa [show 97 + (c - 97) = c from by omega] at this
  · have := figure_in (c - 48) (by omega)
    rwa [show 48 + (c - 48) = c from by omega] at this
section
variable {P : Program} {w : World} {σ : L2.St} {H : Hp} {Q : VK} {K : PySem.W.Frag} {g : TG} {tt : TT} {te : TE} {vs : List Nat} {a : Addr}
def sctE (P : Program) (w : World) (K : PySem.W.Frag) (D : Addr) (N : Hp → Prop) : VK := fun y H4 => ∃ (p : Addr) (k : List Str) (L : List (Addr × List Str)), y = .ref p ∧ SqT K H4 p (k.map V.str) ∧ H4 D = some (TsO P w D L) ∧ (∀ q ∈ L, SqT K H4 q.1 (q.2.map V.str)) ∧ (∀ q ∈ L, q.2 ≠ k) ∧ L.length + 1 < 64 ∧
  ∀ L' : List (Addr × List Str), L'.Perm ((p, k) :: L) → N (upd H4 D (TsO P w D L'))
def sctK (P : Program) (w : World) (K : PySem.W.Frag) (g : TG) (tt : TT) (te : TE) (vs : List Nat) (σ : L2.St) (Q : VK) : It → Hp → Prop := fun J h => tSct P w K (fun _ h' R => R J h') g tt te vs σ h Q
theorem i_sct {wi : TI} (h : wi σ H (sctK P w K g tt te vs σ Q)) : tSct P w K wi g tt te vs σ H Q := h
theorem s_tup (xs : List V) (Pv : Addr → Nat → Hp → Prop) (h0 : ∀ D, H D = none → Pv D 0 (upd H D (TsO P w D []))) (hl : ∀ D i H, i ≤ xs.length → Pv D i H → SqT K H a xs)
    (hs : ∀ D i x H, xs[i]? = some x → Pv D i H → g x (wipe σ vs) H fun σ2 H2 => wipe σ2 vs = wipe σ vs ∧ tt σ2 H2 fun b H3 => if b = true then te σ2 H3 (sctE P w K D (Pv D (i + 1))) else Pv D (i + 1) H3)
    (hd : ∀ D H, Pv D xs.length H → Q (.ref D) H) : sctK P w K g tt te vs σ Q (Itt K a) H := by
  intro D nD
  refine ⟨fun i m H => m = xs.length - i ∧ i ≤ xs.length ∧ Pv D i H, ⟨xs.length, by simp, Nat.zero_le _, h0 D nD⟩, ?_⟩
  rintro i m H ⟨rfl, hi, p⟩
  have q := hl D i H hi p
  by_cases lt : i < xs.length
  · refine .inr ⟨⟨xs, xs[i], q, by simp [lt]⟩, Pv D (i + 1), fun H' p' => ⟨xs.length - (i + 1), by omega, rfl, lt, p'⟩, fun x H' y => ?_⟩
    obtain ⟨rfl, y⟩ := y
    exact hs D i x _ (y xs q) p
  · have e : i = xs.length := by omega
    subst e
    exact .inl ⟨⟨xs, q, Nat.le_refl _⟩, hd D H p⟩
end
theorem road_parts {K : PySem.W.Frag} {H : Hp} {v : V} {r : Str × Str} (h : Dp K H v (roadD r)) : ∃ t, v = .ref t ∧ SqT K H t [.str r.1, .str r.2] := by
  cases h with
  | tup s1 a1 =>
    cases a1 with
    | cons g1 g2 =>
      cases g1
      cases g2 with
      | cons g3 g4 =>
        cases g3
        cases g4
        exact ⟨_, rfl, s1⟩
section
variable {H : Hp} {Q : VK} {K : PySem.W.Frag}
theorem i_catF {a b : Addr} {xs ys : List V} (e : FT H a xs) (e2 : FT H b ys) (z : xs.length + ys.length ≤ sizeLine) (h : ∀ p H', Same H H' → FT H' p (xs ++ ys) → Q (.ref p) H') : rCatF K (.ref a) (.ref b) H Q :=
  ⟨a, b, xs, ys, rfl, rfl, e.sq, e2.sq, z, fun w => h b H (fun _ _ z => z) (by rw [w]; exact e2), fun _ w => h a H (fun _ _ z => z) (by rw [w, List.append_nil]; exact e), fun _ _ p ob n ok => h p _ (Same.upd_new n) (FT.new ok)⟩
theorem i_tupF {σ : L2.St} {t : TA} (h : t σ H fun xs H1 => xs.length ≤ sizeLine ∧ ∀ p ob, H1 p = none → obOk ob → Q (.ref p) (upd H1 p (.frz ob (.tup xs)))) : tTupF t σ H Q := h
theorem at_str {qs : List Str} {k : Nat} {z : Str} (h : qs[k]? = some z) : atI (qs.map V.str) (k : Int) = some (.str z) := atI_nat (by rw [List.getElem?_map, h]; rfl)
theorem cut_from {xs : List V} {k : Nat} : cutV xs (some (k : Int)) none = xs.drop k := by
  unfold cutV
  rw [HT.sIx_none, HT.sIx_nat]
  by_cases h : k ≤ xs.length
  · rw [Nat.min_eq_left h, List.take_of_length_le (by rw [List.length_drop]; exact Nat.le_refl _)]
  · rw [Nat.min_eq_right (by omega), List.drop_of_length_le (Nat.le_refl _), List.drop_of_length_le (by omega), List.take_nil]
end
def sw (qs : List Str) (i : Nat) : List Str := match qs[i]?, qs[i + 1]? with
  | some x, some y => qs.take i ++ y :: x :: qs.drop (i + 2)
  | _, _ => qs
end
section
open L2 PySem PySem.Spec PyProof.Rows
def g2 {α : Type} (us ws : List α) : List α := match us, ws with
  | [], [o] => [o]
  | [], [o, w] => [w, o]
  | [], [o, w, z] => [z, w, o]
  | [], [o, w, z, y] => [y, z, w, o]
  | _, _ => []
theorem g2_rel : ∀ {vs : List V} {us : List Value} {zs : List V} {ws : List Value}, Vals vs us → Vals zs ws → Vals (g2 vs zs) (g2 us ws)
  | [], [], [], [], _, _ => .nil
  | [], [], [_], [_], _, .cons x .nil => .cons x .nil
  | [], [], [_, _], [_, _], _, .cons x (.cons y .nil) => .cons y (.cons x .nil)
  | [], [], [_, _, _], [_, _, _], _, .cons x (.cons y (.cons z .nil)) => .cons z (.cons y (.cons x .nil))
  | [], [], [_, _, _, _], [_, _, _, _], _, .cons x (.cons y (.cons z (.cons a .nil))) => .cons a (.cons z (.cons y (.cons x .nil)))
  | [], [], _ :: _ :: _ :: _ :: _ :: _, _ :: _ :: _ :: _ :: _ :: _, _, _ => .nil
  | _ :: _, _ :: _, _, _, _, _ => .nil
theorem kb2 {K : PySem.W.Frag} {fd : FuncData} {ps ks : List Str} (hp : ps.length = 2) (h : ∀ a b : Value, bindArgs fd ⟨[], ks.zip [a, b]⟩ = pure (ps.zip [b, a])) : KBinds K fd ps ks g2 g2 := by
  refine ⟨fun s us ws _ hl => ?_, g2_rel⟩
  rw [hp] at hl
  rcases us with _ | ⟨u, us⟩
  · rcases ws with _ | ⟨a, _ | ⟨b, _ | ⟨c, _ | ⟨d, _ | ⟨e, ws⟩⟩⟩⟩⟩
    · exact absurd hl (by simp [g2])
    · exact absurd hl (by simp [g2])
    · exact .of_eq (h a b)
    · exact absurd hl (by simp [g2])
    · exact absurd hl (by simp [g2])
    · exact absurd hl (by simp [g2])
  · exact absurd hl (by simp [g2])
theorem kb3 {K : PySem.W.Frag} {fd : FuncData} {ps ks : List Str} (hp : ps.length = 3) (h : ∀ a b c : Value, bindArgs fd ⟨[], ks.zip [a, b, c]⟩ = pure (ps.zip [c, b, a])) : KBinds K fd ps ks g2 g2 := by
  refine ⟨fun s us ws _ hl => ?_, g2_rel⟩
  rw [hp] at hl
  rcases us with _ | ⟨u, us⟩
  · rcases ws with _ | ⟨a, _ | ⟨b, _ | ⟨c, _ | ⟨d, _ | ⟨e, ws⟩⟩⟩⟩⟩
    · exact absurd hl (by simp [g2])
    · exact absurd hl (by simp [g2])
    · exact absurd hl (by simp [g2])
    · exact .of_eq (h a b c)
    · exact absurd hl (by simp [g2])
    · exact absurd hl (by simp [g2])
  · exact absurd hl (by simp [g2])
end
section
open L2 PySem PySem.Spec PyProof.Rows
def NmR (r : Str × Str) : Prop := nmOk r.1 = true ∧ nmOk r.2 = true
theorem nm_size {z : Str} (h : nmOk z = true) : z.cps.size ≤ 8 := by
  obtain ⟨c, r, e, h7, _⟩ := nm_parts h
  rw [← Array.length_toList, e, List.length_cons]
  omega
abbrev rsD (l : List (Str × Str)) : PyData := .tuple (l.map roadD)
def swp (r : Str × Str) : Str × Str := (r.2, r.1)
theorem arr1_or (l : List Str) (r : Str × Str) : arr1 l r = r ∨ arr1 l r = swp r := by
  unfold arr1
  split
  · exact .inl rfl
  · exact .inr rfl
end
section
open L2 PySem PySem.Spec PyProof.Rows
section
variable {σ : L2.St} {H : Hp} {Q : VK} {K : PySem.W.Frag} {te : TE}
theorem tup_parts {v : V} {ds : List PyData} (h : Dp K H v (.tuple ds)) : ∃ t xs, v = .ref t ∧ SqT K H t xs ∧ DpAll K H xs ds := by
  cases h with
  | tup s a => exact ⟨_, _, rfl, s, a⟩
theorem sqL_ch {H' : Hp} {a q : Addr} {xs : List V} (h : SqL K H a xs) (n : H q = none) (k : Ch q H H') : SqL K H' a xs := by
  rcases h with (e | ⟨o, e⟩) | e
  · exact .inl (.inl (k a _ (ne_of_none e n) e))
  · exact .inl (.inr ⟨o, k a _ (ne_of_none e n) e⟩)
  · exact .inr e
theorem rev_road {H' : Hp} {x : V} {r : Str × Str} {te0 : TE} {σ' : L2.St} {N : VK} (hv : ∀ Q' : VK, Q' x H' → te0 σ' H' Q') (dx : Dp K H' x (roadD r)) (h : ∀ y H'', Same H' H'' → Dp K H'' y (roadD (swp r)) → N y H'') : tRevT K te0 σ' H' N := by
  obtain ⟨t, rfl, st⟩ := road_parts dx
  refine i_revT (hv _ ⟨t, _, rfl, st, fun p ob n ok => h _ _ (Same.upd_new n) ?_⟩)
  exact .tup (xs := [.str r.2, .str r.1]) (FT.new ok).sq (.cons (.str _) (.cons (.str _) .nil))
end
section
variable {qs ps : List Str} {rs : List (Str × Str)}
theorem arr_len : (arr qs rs).length = rs.length := List.length_map ..
end
end
section
open L2 PySem PySem.Spec PyProof.Rows
section
variable {X : Cx} {σ : L2.St} {H : Hp} {Q : VK} {K : PySem.W.Frag} {g : TG} {tt : TT} {te : TE} {vs : List Nat} {a b : Addr} {R : It → Hp → Prop}
theorem kpi_zip {e e2 : Expr} {ta : TA} {p pos tpos : Pos} {elts : List Expr} {kk : Nat} (hm : X.mg "zip" = none) (ha : PA X [e, e2] ta) (hK : X.K = K := by rfl) (hg : Gl X "zip" := by rfl)
    (hs : starEach [e, e2] X.env = (false, eval e X.env) :: starEach [e2] X.env := by rfl) (hpl : (backTo pos (starEach [e2] X.env)).any (·.1) = false := by rfl) : PI X (.Tuple elts kk tpos) (.Call (.Name "zip" p) [e, e2] [] pos) (RZ.iZipA K ta) := by
  subst hK
  exact RZ.pi_zipA hg hm ha hs hpl
def zipK (K : PySem.W.Frag) (R : It → Hp → Prop) : List V → Hp → Prop := fun us H1 => ∃ a b xs ys, us = [.ref a, .ref b] ∧ ((SqL K H1 a xs ∧ SqL K H1 b ys ∧ R (Itz K a b) H1) ∨ (SqT K H1 a xs ∧ SqT K H1 b ys ∧ R (RZ.ItzT K a b) H1))
theorem i_zip {ta : TA} (h : ta σ H (zipK K R)) : RZ.iZipA K ta σ H R := h
theorem i_zipT {xs ys : List V} (ha : SqT K H a xs) (hb : SqT K H b ys) (h : R (RZ.ItzT K a b) H) : zipK K R [.ref a, .ref b] H := ⟨a, b, xs, ys, rfl, .inr ⟨ha, hb, h⟩⟩
theorem c_zip (xs ys : List V) (hl : xs.length = ys.length) (Pv : Addr → Nat → Hp → Prop) (h0 : ∀ D, H D = none → Pv D 0 (upd H D (.lst []))) (ha : ∀ D i H, Pv D i H → SqT K H a xs ∧ SqT K H b ys)
    (hs : ∀ D i x y H T, xs[i]? = some x → ys[i]? = some y → Pv D i H → H T = none → g (.ref T) (wipe σ vs) (upd H T (.tup [x, y])) fun σ2 H2 => wipe σ2 vs = wipe σ vs ∧ tt σ2 H2 fun c H3 => if c = true then te σ2 H3 (lcE D (Pv D (i + 1))) else Pv D (i + 1) H3)
    (hd : ∀ D H, Pv D xs.length H → Q (.ref D) H) : lcK g tt te vs σ Q (RZ.ItzT K a b) H := by
  intro D nD
  refine ⟨fun i m H => m = xs.length - i ∧ i ≤ xs.length ∧ Pv D i H, ⟨xs.length, by simp, Nat.zero_le _, h0 D nD⟩, ?_⟩
  rintro i m H ⟨rfl, hi, p⟩
  obtain ⟨qa, qb⟩ := ha D i H p
  by_cases lt : i < xs.length
  · have lt2 : i < ys.length := by omega
    refine .inr ⟨⟨xs, ys, xs[i], ys[i], qa, qb, by simp [lt], by simp [lt2]⟩, Pv D (i + 1), fun H' p' => ⟨xs.length - (i + 1), by omega, rfl, lt, p'⟩, fun v H' y => ?_⟩
    obtain ⟨T, x, z, rfl, nT, rfl, hx, hz⟩ := y
    exact hs D i x z H T (hx xs qa) (hz ys qb) p nT
  · have e : i = xs.length := by omega
    subst e
    exact .inl ⟨⟨xs, ys, qa, qb, .inl (Nat.le_refl _)⟩, hd D H p⟩
end
end
section
open L2 PySem PySem.Spec PyProof.Rows
theorem cut_take {xs : List V} {k : Nat} : cutV xs none (some (k : Int)) = xs.take k := by
  unfold cutV
  rw [HT.sIx_none, HT.sIx_nat, List.drop_zero, Nat.sub_zero]
  by_cases z : k ≤ xs.length
  · rw [Nat.min_eq_left z]
  · rw [Nat.min_eq_right (by omega), List.take_of_length_le (Nat.le_refl _), List.take_of_length_le (by omega)]
end
section
open L2 PySem PySem.Spec PyProof.Rows
section
variable {K : PySem.W.Frag} {H : Hp} {Q : VK}
theorem k_revL {X : Cx} {K : PySem.W.Frag} {e : Expr} {te : TE} {k : Nat} {p1 p2 p3 pos : Pos} (he : PE X e te) (hK : X.K = K := by rfl) : PE X (.Subscript e (.Slice none none (some (.UnaryOp .USub (.Constant (.int 1) k p1) p2)) p3) pos) (tRevL K te) := by subst hK; exact pe_revL he
theorem i_revL {σ : L2.St} {te : TE} (h : te σ H fun x H1 => ∃ a xs, x = .ref a ∧ SqL K H1 a xs ∧ ∀ p, H1 p = none → Q (.ref p) (upd H1 p (.lst xs.reverse))) : tRevL K te σ H Q := h
end
end
section
open L2 PySem PySem.Spec PyProof.Rows
theorem cut_all {xs : List V} {lo hi : Option Int} (h : HT.sIx xs.length 0 lo = 0 ∧ HT.sIx xs.length xs.length hi = xs.length) : cutV xs lo hi = xs := by
  unfold cutV
  rw [h.1, h.2, List.drop_zero, Nat.sub_zero, List.take_of_length_le (Nat.le_refl _)]
theorem i_slG {K : PySem.W.Frag} {H : Hp} {Q : VK} {p : Addr} {xs : List V} {lo hi : Option Int} (e : SqT K H p xs) (h : ∀ p' H', Same H H' → SqT K H' p' (cutV xs lo hi) → Q (.ref p') H') : rSlA K (.ref p) lo hi H Q :=
  ⟨p, xs, rfl, e, fun hf => h p H (Same.refl _) (by rw [cut_all hf]; exact e), fun _ p' np' => h p' _ (Same.upd_new np') (sq_tup upd_same)⟩
end
section
open L2 PySem PySem.Spec PyProof.Rows
abbrev tsD (l : List Str) : PyData := .tuple (l.map .str)
theorem texts_data : ∀ l : List Str, (∀ z ∈ l, nmOk z = true) → PyData.canLayAll0 (l.map PyData.str) = true ∧ PyData.showableAll (l.map PyData.str) = true ∧ PyData.hasDictAll (l.map PyData.str) = false ∧ PyData.depthAll (l.map PyData.str) = 0 ∧
    PyData.weightAll (l.map PyData.str) ≤ 20 * l.length ∧ PyData.intsShortAll 13 (l.map PyData.str) = true ∧ noBAll (l.map PyData.str) = true
  | [], _ => ⟨rfl, rfl, rfl, rfl, Nat.le_refl _, rfl, rfl⟩
  | x :: l, h => by
    obtain ⟨a1, a2, a3, a4, a5, a6, a7⟩ := texts_data l fun r hr => h r (List.mem_cons_of_mem _ hr)
    have s1 := nm_size (h x List.mem_cons_self)
    refine ⟨strs_lay h, ?_, ?_, ?_, ?_, ?_, ?_⟩
    · show (true && PyData.showableAll (l.map PyData.str)) = true
      rw [a2]
      rfl
    · show (false || PyData.hasDictAll (l.map PyData.str)) = false
      rw [a3]
      rfl
    · show max 0 (PyData.depthAll (l.map PyData.str)) = 0
      omega
    · show x.cps.size + 1 + PyData.weightAll (l.map PyData.str) ≤ 20 * (l.length + 1)
      omega
    · show (true && PyData.intsShortAll 13 (l.map PyData.str)) = true
      rw [a6]
      rfl
    · show (true && noBAll (l.map PyData.str)) = true
      rw [a7]
      rfl
theorem ts_shown {l : List Str} (h : ∀ z ∈ l, nmOk z = true) (hl : l.length ≤ 14) : (tsD l).showable = true ∧ (tsD l).hasDict = false ∧ (tsD l).depth ≤ 40 ∧ (tsD l).shown.length ≤ sizeLine := by
  obtain ⟨a1, a2, a3, a4, a5, a6, _⟩ := texts_data l h
  refine ⟨a2, a3, by show PyData.depthAll (l.map PyData.str) + 1 ≤ 40; omega, Nat.le_trans (shown_le13 (d := tsD l) ?_ a6) (by rw [sizeLine_eq]; omega)⟩
  show (PyData.canLayAll0 (l.map PyData.str) && decide (PyData.depthAll (l.map PyData.str) + 1 ≤ 64) && decide (PyData.weightAll (l.map PyData.str) ≤ 2 ^ 20)) = true
  have e20 : (2 : Nat) ^ 20 = 1048576 := by decide
  rw [a1, decide_eq_true (by omega), decide_eq_true (by omega)]
  rfl
theorem map_str_inj {l m : List Str} (e : l.map PyData.str = m.map PyData.str) : l = m := by
  induction l generalizing m with
  | nil =>
    cases m with
    | nil => rfl
    | cons y s => simp at e
  | cons x r ih =>
    cases m with
    | nil => simp at e
    | cons y s =>
      rw [List.map_cons, List.map_cons] at e
      injection e with e1 e2
      injection e1 with e3
      rw [e3, ih e2]
theorem ts_dp {K : PySem.W.Frag} {H : Hp} {p : Addr} {l : List Str} (h : SqT K H p (l.map V.str)) : Dp K H (.ref p) (tsD l) := .tup h (DpAll.strs l)
theorem Fd.same {H H' : Hp} {a : Addr} {c : Int} (h : Fd H a c) (s : Same H H') : Fd H' a c := let ⟨x, y, n, h1, h2⟩ := h; ⟨x, y, n, s _ _ h1, h2⟩
theorem i_neB {i j : Bool} {H : Hp} {Q : VK} (h : Q (.bl (!decide (i = j))) H) : rNe (.bl i) (.bl j) H Q := ⟨rfl, by
  have e : (!decide (V.bl i = V.bl j)) = (!decide (i = j)) := by
    by_cases z : i = j
    · subst z
      simp
    · rw [decide_eq_false z, decide_eq_false (fun c => z (by injection c))]
  rw [e]
  exact h⟩
end
section
open L2 PySem PySem.Spec PyProof.Rows
theorem k_reprB {X : Cx} : CallR X (.builtin "repr") (fun xs H Q => ∃ b, xs = [.bl b] ∧ Q (.str (if b then "True" else "False")) H) := by
  intro pins s σ H xs us Q I r h
  obtain ⟨b, rfl, q⟩ := h
  obtain ⟨u, rfl, t, rfl⟩ := vals1 r
  exact PySem.P.repr_of_bool ⟨.str _, H, I.tok _, ⟨_, rfl⟩, q⟩
end
section
open L2 PySem PySem.Spec PyProof.Rows
open PySem PySem.W
section
variable {prog : Program} {w : World} {A : Around} {E : Value → Shared → Prop} {s : Shared} {z TI TO i1 i2 : Addr} {fp1 fp2 : List Addr} {n1 n2 i : Nat} {P1 P2 : Nat → Value → Prop} {St1 St2 : Nat → Heap → Prop}
theorem heldNext {T : Addr} {f : Bool} {oT : Obj} {Q : Value → Shared → Prop} (S : ZipSep2 z TI TO i1 i2 fp1 fp2) (G1 : Draws prog w A i1 fp1 n1 P1 St1) (G2 : Draws prog w A i2 fp2 n2 P2 St2)
    (zH : IsZipHeld s.heap z TI TO T f) (oH : s.heap.get? T = some oT) (iH : IsTupOf2 s.heap TI (.ref i1) (.ref i2)) (a1 : St1 i s.heap) (a2 : St2 i s.heap) (l1 : i < n1) (l2 : i < n2)
    (q : ∀ x y g tk, P1 i x → P2 i y → IsZipHeld g z TI TO T true → St1 (i + 1) g → St2 (i + 1) g → IsTupOf2 g s.heap.objs.size x y → g.objs.size = s.heap.objs.size + 1 →
      (∀ c o, c ≠ z → c ≠ i1 → c ≠ i2 → s.heap.get? c = some o → g.get? c = some o) → Q (.ref s.heap.objs.size) { s with heap := g, toks := tk }) :
    wpAny (model prog w) A (Builtin.«zip.__next__» ⟨[.ref z], []⟩) (fun fin s' => ∃ v, fin = .done (.ret v) ∧ Q v s') E s := by
  obtain ⟨hp, ge, dr, tk0, os⟩ := s
  show wpAny _ _ (field (.ref z) 2 >>= _) _ _ _
  refine wpAny_bind (wpAny_field zH rfl (x := .bool false) rfl ?_)
  show wpAny _ _ (field (.ref z) 3 >>= _) _ _ _
  refine wpAny_bind (wpAny_field zH rfl (x := .ref TI) rfl (wpAny_bind (wpAny_seqItems iH rfl ?_)))
  show wpAny _ _ (Builtin.SmallTypes.ownedTupleIsFree (.ref z) >>= _) _ _ _
  refine wpAny_bind (wpAny_tupleHeld_zip zH oH fun g1 zG1 sG1 => ?_)
  replace sG1 : Heap.SameBut z hp g1 := sG1
  simp only [Bool.false_eq_true, if_false]
  refine wpAny_bind ?_
  rw [← Array.forIn_toList]
  simp only [List.forIn_nil, List.forIn_cons]
  refine wpAny_bind (wpAny_bind (wpAny_holding ?_))
  show wpAny _ _ (Builtin.SmallTypes.nextOf (.ref i1) >>= _) _ _ ⟨g1, ge, dr, tk0, os⟩
  refine wpAny_bind (G1.item i _ _ _ l1 (G1.over a1 sG1 S.zf1) fun x g2 tk1 px b1 sG2 => wpAny_pure (wpAny_pure ?_))
  replace sG2 : Heap.SameBut i1 g1 g2 := sG2
  refine wpAny_bind (wpAny_bind (wpAny_holding ?_))
  show wpAny _ _ (Builtin.SmallTypes.nextOf (.ref i2) >>= _) _ _ ⟨g2, ge, dr, tk1, os⟩
  refine wpAny_bind (G2.item i _ _ _ l2 (G2.over (G2.over a2 sG1 S.zf2) sG2 S.sep1_2) fun y g3 tk2 py b2 sG3 => wpAny_pure (wpAny_pure (wpAny_pure ?_)))
  replace sG3 : Heap.SameBut i2 g2 g3 := sG3
  show wpAny _ _ (newTuple [x, y] >>= _) _ _ ⟨g3, ge, dr, tk2, os⟩
  refine wpAny_bind (wpAny_newTuple (wpAny_pure ⟨_, rfl, ?_⟩))
  have sz : g3.objs.size = hp.objs.size := by rw [sG3.1, sG2.1, sG1.1]
  have up : ∀ c o, c ≠ z → c ≠ i1 → c ≠ i2 → hp.get? c = some o → g3.get? c = some o := fun c o c1 c2 c3 e => sG3.extBut _ _ c3 (sG2.extBut _ _ c2 (sG1.extBut _ _ c1 e))
  have zG3 : IsZipHeld g3 z TI TO T true := sG3.extBut _ _ S.zi2 (sG2.extBut _ _ S.zi1 zG1)
  have c1 : St1 (i + 1) g3 := G1.over b1 sG3 S.sep2_1
  have pN : IsTupOf2 (g3.push { cls := .type "tuple", data := .seq #[x, y] }) g3.objs.size x y := Heap.get?_push_size _ rfl
  have sN : (g3.push { cls := .type "tuple", data := .seq #[x, y] }).objs.size = g3.objs.size + 1 := Heap.size_push ..
  show Q (.ref g3.objs.size) _
  rw [sz] at pN sN ⊢
  exact q x y _ tk2 px py (Heap.get?_push_of_some _ zG3) (G1.frame _ _ _ c1 fun b _ o e => Heap.get?_push_of_some _ e) (G2.frame _ _ _ b2 fun b _ o e => Heap.get?_push_of_some _ e) pN sN fun c o d1 d2 d3 e => Heap.get?_push_of_some _ (up c o d1 d2 d3 e)
theorem heldStop {T : Addr} {f : Bool} {oT : Obj} {Q : Fin → Shared → Prop} (S : ZipSep2 z TI TO i1 i2 fp1 fp2) (G1 : Draws prog w A i1 fp1 n1 P1 St1)
    (zH : IsZipHeld s.heap z TI TO T f) (oH : s.heap.get? T = some oT) (iH : IsTupOf2 s.heap TI (.ref i1) (.ref i2)) (a1 : St1 n1 s.heap)
    (q : ∀ g e, (∀ c o, c ≠ z → c ≠ i1 → s.heap.get? c = some o → g.get? c = some o) → (∃ o, g.get? e = some o ∧ o.cls = .type "StopIteration") → E (.ref e) { s with heap := g }) :
    wpAny (model prog w) A (Builtin.«zip.__next__» ⟨[.ref z], []⟩) Q E s := by
  obtain ⟨hp, ge, dr, tk0, os⟩ := s
  show wpAny _ _ (field (.ref z) 2 >>= _) _ _ _
  refine wpAny_bind (wpAny_field zH rfl (x := .bool false) rfl ?_)
  show wpAny _ _ (field (.ref z) 3 >>= _) _ _ _
  refine wpAny_bind (wpAny_field zH rfl (x := .ref TI) rfl (wpAny_bind (wpAny_seqItems iH rfl ?_)))
  show wpAny _ _ (Builtin.SmallTypes.ownedTupleIsFree (.ref z) >>= _) _ _ _
  refine wpAny_bind (wpAny_tupleHeld_zip zH oH fun g1 zG1 sG1 => ?_)
  replace sG1 : Heap.SameBut z hp g1 := sG1
  simp only [Bool.false_eq_true, if_false]
  refine wpAny_bind ?_
  rw [← Array.forIn_toList]
  simp only [List.forIn_nil, List.forIn_cons]
  refine wpAny_bind (wpAny_bind (wpAny_holding ?_))
  show wpAny _ _ (Builtin.SmallTypes.nextOf (.ref i1) >>= _) _ _ ⟨g1, ge, dr, tk0, os⟩
  exact wpAny_bind (G1.done ⟨g1, ge, dr, tk0, os⟩ _ _ (G1.over a1 sG1 S.zf1) fun g e kG he => q g e (fun c o c1 c2 x => kG _ _ c2 (sG1.extBut _ _ c1 x)) he)
end
def ZKept (z TI TO i1 i2 S : Addr) (St1 St2 : Nat → Heap → Prop) (i : Nat) (h : Heap) : Prop :=
  ((i = 0 ∧ IsZip h z TI TO .none) ∨ ∃ T f oT, IsZipHeld h z TI TO T f ∧ h.get? T = some oT ∧ T ≠ S ∧ T ≠ z ∧ T ≠ i1 ∧ T ≠ i2) ∧ IsTupOf2 h TI (.ref i1) (.ref i2) ∧ (∃ a b, IsTupOf2 h TO a b) ∧ St1 i h ∧ St2 i h
section
variable {prog : Program} {w : World} {A : Around} {E : Value → Shared → Prop} {s : Shared} {z TI TO i1 i2 S : Addr} {fp1 fp2 : List Addr} {n1 n2 i : Nat} {P1 P2 : Nat → Value → Prop} {St1 St2 : Nat → Heap → Prop}
theorem ZKept.over {h g : Heap} (k : ZKept z TI TO i1 i2 S St1 St2 i h) (G1 : Draws prog w A i1 fp1 n1 P1 St1) (G2 : Draws prog w A i2 fp2 n2 P2 St2) (hz : z ≠ S) (hI : TI ≠ S) (hO : TO ≠ S) (h1 : S ∉ fp1) (h2 : S ∉ fp2)
    (up : ∀ b o, b ≠ S → h.get? b = some o → g.get? b = some o) : ZKept z TI TO i1 i2 S St1 St2 i g := by
  obtain ⟨k0, kI, ⟨a, b, kO⟩, k1, k2⟩ := k
  refine ⟨?_, up _ _ hI kI, ⟨a, b, up _ _ hO kO⟩, G1.frame _ _ _ k1 fun b hb o e => up b o (fun z => h1 (z ▸ hb)) e, G2.frame _ _ _ k2 fun b hb o e => up b o (fun z => h2 (z ▸ hb)) e⟩
  rcases k0 with ⟨e, k0⟩ | ⟨T, f, oT, k0, kT, c1, c2⟩
  · exact .inl ⟨e, up _ _ hz k0⟩
  · exact .inr ⟨T, f, oT, up _ _ hz k0, up _ _ c1 kT, c1, c2⟩
theorem keptNext {Q : Option Value → Shared → Prop} (D : ZipSep2 z TI TO i1 i2 fp1 fp2) (G1 : Draws prog w A.in1 i1 fp1 n1 P1 St1) (G2 : Draws prog w A.in1 i2 fp2 n2 P2 St2) (k : ZKept z TI TO i1 i2 S St1 St2 i s.heap) (hS : S < s.heap.objs.size) (l1 : i < n1) (l2 : i < n2)
    (q : ∀ x y g tk, P1 i x → P2 i y → ZKept z TI TO i1 i2 S St1 St2 (i + 1) g → IsTupOf2 g s.heap.objs.size x y → g.objs.size = s.heap.objs.size + 1 →
      (∀ c o, c ≠ z → c ≠ TO → c ≠ i1 → c ≠ i2 → s.heap.get? c = some o → g.get? c = some o) → Q (some (.ref s.heap.objs.size)) { s with heap := g, toks := tk }) : wpAny (model prog w) A (pyNext (.ref z)) Q E s := by
  obtain ⟨k0, kI, ⟨a, b, kO⟩, k1, k2⟩ := k
  have lt : ∀ {c o}, s.heap.get? c = some o → s.heap.objs.size ≠ c := fun e => Nat.ne_of_gt (Heap.lt_size e)
  have u1 : s.heap.objs.size ≠ i1 := let ⟨_, e⟩ := G1.live _ _ k1; lt e
  have u2 : s.heap.objs.size ≠ i2 := let ⟨_, e⟩ := G2.live _ _ k2; lt e
  rcases k0 with ⟨rfl, k0⟩ | ⟨T, f, oT, k0, kT, c1, c2, c3, c4⟩
  · exact wpAny_pyNext_zipD2_item D G1 G2 k0 kI kO k1 k2 l1 l2 fun x y g tk px py gz gO g1 g2 gp gs up =>
      q x y g tk px py ⟨.inr ⟨_, _, _, gz, gp, Nat.ne_of_gt hS, lt k0, u1, u2⟩, up _ _ D.TIz D.TITO D.TIi1 D.TIi2 kI, ⟨_, _, gO⟩, g1, g2⟩ gp gs up
  · have ty : s.TypeIs (.ref z) "zip" := ⟨_, k0, rfl⟩
    unfold pyNext
    exact wpAny_bind (wpAny_attempt (wpAny_callSpecial?_slot (name := Str.ofString "__next__") ty F.slot_zip_next
      (wpAny_call_entry F.slot_zip_next ty F.entry_zip_next (heldNext D G1 G2 k0 kT kI k1 k2 l1 l2 fun x y g tk px py gz g1 g2 gp gs up => wpAny_pure
        (q x y g tk px py ⟨.inr ⟨T, true, oT, gz, up _ _ c2 c3 c4 kT, c1, c2, c3, c4⟩, up _ _ D.TIz D.TIi1 D.TIi2 kI, ⟨a, b, up _ _ D.TOz D.Ti1 D.Ti2 kO⟩, g1, g2⟩ gp gs fun c o d1 _ d3 d4 e => up c o d1 d3 d4 e)) (F.args_zip_next_1 _))))
theorem keptStop {Q : Option Value → Shared → Prop} (D : ZipSep2 z TI TO i1 i2 fp1 fp2) (G1 : Draws prog w A.in1 i1 fp1 n1 P1 St1) (k : ZKept z TI TO i1 i2 S St1 St2 n1 s.heap) (h0 : 0 < n1)
    (q : ∀ g, (∀ c o, c ≠ z → c ≠ i1 → s.heap.get? c = some o → g.get? c = some o) → Q none { s with heap := g }) : wpAny (model prog w) A (pyNext (.ref z)) Q E s := by
  obtain ⟨k0, kI, _, k1, _⟩ := k
  rcases k0 with ⟨e, _⟩ | ⟨T, f, oT, k0, kT, _⟩
  · omega
  have ty : s.TypeIs (.ref z) "zip" := ⟨_, k0, rfl⟩
  unfold pyNext
  refine wpAny_bind (wpAny_attempt (wpAny_callSpecial?_slot (name := Str.ofString "__next__") ty F.slot_zip_next
    (wpAny_call_entry F.slot_zip_next ty F.entry_zip_next (heldStop D G1 k0 kT kI k1 fun g e up ⟨o, ho, hc⟩ => ?_) (F.args_zip_next_1 _))))
  exact wpAny_bind (wpAny_isInstance (T := "StopIteration") (b := true) ⟨o, ho, hc⟩ isSubtype_stop (wpAny_pure (q _ up)))
end
structure PairsAt (P1 P2 : Nat → Value → Prop) (lo : Addr) (h : Heap) (as : List Addr) : Prop where
  rise : as.Pairwise (· < ·)
  above : ∀ a ∈ as, lo < a
  pairs : ∀ (j : Nat) (a : Addr), as[j]? = some a → ∃ x y, P1 j x ∧ P2 j y ∧ IsTupOf2 h a x y
section
variable {prog : Program} {w : World} {A : Around} {s : Shared} {R : Result → Shared → Prop} {z TI TO i1 i2 S : Addr} {fp1 fp2 : List Addr} {n1 n2 : Nat} {P1 P2 : Nat → Value → Prop} {St1 St2 : Nat → Heap → Prop}
theorem keptLoop (D : ZipSep2 z TI TO i1 i2 fp1 fp2) (G1 : Draws prog w A.in1.in1 i1 fp1 n1 P1 St1) (G2 : Draws prog w A.in1.in1 i2 fp2 n2 P2 St2) (h0 : 0 < n1) (h12 : n1 ≤ n2) (hn : n1 ≤ 1000)
    (hz : z < S) (hI : TI < S) (hO : TO < S) (hi1 : i1 < S) (hi2 : i2 < S) (f1 : S ∉ fp1) (f2 : S ∉ fp2) (res : Value) {h1 : Heap}
    (hR : ∀ g tk acc c as, (∀ b o, b ≠ S → b ≠ z → b ≠ TO → b ≠ i1 → b ≠ i2 → h1.get? b = some o → g.get? b = some o) → g.get? S = some { cls := .type "list", dict := none, data := .seq acc c, slots := #[] } → as.length = n1 → PairsAt P1 P2 S g as →
      acc.toList = as.map Value.ref → R (.ok (.ret res)) { s with heap := g, toks := tk }) :
    ∀ (k i : Nat) (h : Heap) (tk c : Nat) (acc : Array Value) (as : List Addr), n1 - i = k → i ≤ n1 → ZKept z TI TO i1 i2 S St1 St2 i h → (∀ b o, b ≠ S → b ≠ z → b ≠ TO → b ≠ i1 → b ≠ i2 → h1.get? b = some o → h.get? b = some o) →
      h.get? S = some { cls := .type "list", dict := none, data := .seq acc c, slots := #[] } → acc.toList = as.map Value.ref → as.length = i → PairsAt P1 P2 S h as →
      codeAny (model prog w) A (.builtin "list.extend.loop" ⟨[.ref S, .ref z, res], []⟩) R { s with heap := h, toks := tk } := by
  intro k
  induction k with
  | zero =>
    intro i h tk c acc as hk hi hZ up hS hacc hal hP
    obtain rfl : i = n1 := by omega
    refine codeAny_builtin F.entry_extend_loop ?_
    rw [Around.under_plainId F.plain_extend_loop _]
    show wpAny _ A.in1 (pyNext (.ref z) >>= _) _ _ _
    refine wpAny_bind (keptStop (s := { s with heap := h, toks := tk }) (A := A.in1) D G1 hZ h0 fun g ug => ?_)
    refine wpAny_pure (hR g tk acc c as (fun b o c1 c2 c3 c4 c5 e => ug b o c2 c4 (up b o c1 c2 c3 c4 c5 e)) (ug S _ (Nat.ne_of_gt hz) (Nat.ne_of_gt hi1) hS) hal ⟨hP.rise, hP.above, fun j a hj => ?_⟩ hacc)
    obtain ⟨x, y, e1, e2, e3⟩ := hP.pairs j a hj
    have ha := hP.above a (List.mem_of_getElem? hj)
    exact ⟨x, y, e1, e2, ug a _ (Nat.ne_of_gt (Nat.lt_trans hz ha)) (Nat.ne_of_gt (Nat.lt_trans hi1 ha)) e3⟩
  | succ k ih =>
    intro i h tk c acc as hk hi hZ up hS hacc hal hP
    have hlt : i < n1 := by omega
    have hsz : acc.size = i := by rw [← Array.length_toList, hacc, List.length_map, hal]
    have hSl : S < h.objs.size := Heap.lt_size hS
    refine codeAny_builtin F.entry_extend_loop ?_
    rw [Around.under_plainId F.plain_extend_loop _]
    show wpAny _ A.in1 (pyNext (.ref z) >>= _) _ _ _
    refine wpAny_bind (keptNext (s := { s with heap := h, toks := tk }) (A := A.in1) D G1 G2 hZ hSl hlt (by omega) fun x y g tk2 px py zg gp gs ug => ?_)
    dsimp only at gp gs ug ⊢
    have hSg := ug S _ (Nat.ne_of_gt hz) (Nat.ne_of_gt hO) (Nat.ne_of_gt hi1) (Nat.ne_of_gt hi2) hS
    have vs : ∀ b o, b ≠ S → g.get? b = some o → (g.update S (Obj.mapSeq (·.push (Value.ref h.objs.size)))).get? b = some o := fun b o hb e => (Heap.get?_update_other _ _ (Ne.symm hb)).trans e
    have old : ∀ b o, S < b → h.get? b = some o → (g.update S (Obj.mapSeq (·.push (Value.ref h.objs.size)))).get? b = some o := fun b o hb e =>
      vs b o (Nat.ne_of_gt hb) (ug b o (Nat.ne_of_gt (Nat.lt_trans hz hb)) (Nat.ne_of_gt (Nat.lt_trans hO hb)) (Nat.ne_of_gt (Nat.lt_trans hi1 hb)) (Nat.ne_of_gt (Nat.lt_trans hi2 hb)) e)
    show wpAny _ A.in1 (updateSeq S (·.push (Value.ref h.objs.size)) >>= _) _ _ _
    refine wpAny_bind ?_
    refine wpAny_updateSeq hSg rfl (wpAny_pure ⟨plainId_quiet F.plain_extend_loop _, ih (i + 1) _ tk2 _ (acc.push (Value.ref h.objs.size)) (as ++ [h.objs.size]) (by omega) hlt
      (zg.over G1 G2 (Nat.ne_of_lt hz) (Nat.ne_of_lt hI) (Nat.ne_of_lt hO) f1 f2 vs) (fun b o c1 c2 c3 c4 c5 e => vs b o c1 (ug b o c2 c3 c4 c5 (up b o c1 c2 c3 c4 c5 e))) (Heap.get?_update_self _ hSg rfl)
      (by rw [Array.toList_push, hacc, List.map_append]; rfl) (by rw [List.length_append, hal]; rfl) ⟨?_, ?_, ?_⟩⟩) (by rw [hsz, sizeLine_eq]; omega) (by show (acc.push (Value.ref h.objs.size)).size ≤ sizeLine + 1; rw [Array.size_push, hsz, sizeLine_eq]; omega)
    · refine List.pairwise_append.mpr ⟨hP.rise, List.pairwise_singleton _ _, fun a ha b hb => ?_⟩
      rw [List.mem_singleton.mp hb]
      obtain ⟨j, hj⟩ := List.mem_iff_getElem?.mp ha
      obtain ⟨_, _, _, _, e⟩ := hP.pairs j a hj
      exact Heap.lt_size e
    · intro a ha
      rcases List.mem_append.mp ha with ha | ha
      · exact hP.above a ha
      · rw [List.mem_singleton.mp ha]
        exact hSl
    · intro j b hj
      by_cases h1 : j < as.length
      · rw [List.getElem?_append_left h1] at hj
        obtain ⟨x', y', e1, e2, e3⟩ := hP.pairs j b hj
        exact ⟨x', y', e1, e2, old b _ (hP.above b (List.mem_of_getElem? hj)) e3⟩
      · have hjl := (List.getElem?_eq_some_iff.mp hj).1
        rw [List.length_append, List.length_singleton] at hjl
        obtain rfl : j = as.length := by omega
        have hb : h.objs.size = b := by simpa using hj
        subst hb
        exact ⟨x, y, by rw [hal]; exact px, by rw [hal]; exact py, vs _ _ (Nat.ne_of_gt hSl) gp⟩
theorem zip_no_len : typeLookup (.type "zip") "__len__" = pure none := am_miss_of_fast (by decide +kernel)
theorem zip_no_hint : typeLookup (.type "zip") "__length_hint__" = pure none := am_miss_of_fast (by decide +kernel)
theorem keptExtend (D : ZipSep2 z TI TO i1 i2 fp1 fp2) (G1 : Draws prog w A.in1.in1 i1 fp1 n1 P1 St1) (G2 : Draws prog w A.in1.in1 i2 fp2 n2 P2 St2) (h0 : 0 < n1) (h12 : n1 ≤ n2) (hn : n1 ≤ 1000)
    (hz : z < S) (hI : TI < S) (hO : TO < S) (hi1 : i1 < S) (hi2 : i2 < S) (f1 : S ∉ fp1) (f2 : S ∉ fp2) (res : Value) (kz : IsZip s.heap z TI TO .none) (kI : IsTupOf2 s.heap TI (.ref i1) (.ref i2)) (kO : ∃ a b, IsTupOf2 s.heap TO a b) (a1 : St1 0 s.heap) (a2 : St2 0 s.heap)
    (c₀ : Nat) (hS : s.heap.get? S = some { cls := .type "list", data := .seq #[] c₀ })
    (hR : ∀ g tk acc c as, (∀ b o, b ≠ S → b ≠ z → b ≠ TO → b ≠ i1 → b ≠ i2 → s.heap.get? b = some o → g.get? b = some o) → g.get? S = some { cls := .type "list", dict := none, data := .seq acc c, slots := #[] } → as.length = n1 → PairsAt P1 P2 S g as →
      acc.toList = as.map Value.ref → R (.ok (.ret res)) { s with heap := g, toks := tk }) :
    wpAny (model prog w) A.in1 (Builtin.List.listExtendWith (.ref S) (.ref z) res)
      (fun fin s' => match fin with | .done f => R (.ok f) s' | .again c' => c'.quiet = true ∧ codeAny (model prog w) A c' R s') (fun e s' => R (.error e) s') s := by
  have ty : s.TypeIs (.ref z) "zip" := ⟨_, kz, rfl⟩
  have kZ : ZKept z TI TO i1 i2 S St1 St2 0 s.heap := ⟨.inl ⟨rfl, kz⟩, kI, kO, a1, a2⟩
  unfold Builtin.List.listExtendWith
  refine wpAny_bind (wpAny_typeOf ty ?_)
  have e1 : Builtin.List.listSameRef (.ref S) (.ref z) = false := by simp [Builtin.List.listSameRef, Nat.ne_of_gt hz]
  have e2 : (Value.type "zip" == Value.type "list") = false := by decide
  have e3 : (Value.type "zip" == Value.type "tuple") = false := by decide
  simp only [e1, e2, e3, Bool.or_false, Bool.false_eq_true, if_false]
  refine wpAny_bind (wpAny_pyIter_zip kz (wpAny_bind (wpAny_holding ?_)))
  unfold Builtin.List.listLengthHint
  refine wpAny_bind (wpAny_specialOf ty zip_no_len ?_)
  show wpAny _ A.in1 (specialOf (Value.ref z) (Str.ofString "__length_hint__") >>= _) _ _ _
  refine wpAny_bind (wpAny_specialOf ty zip_no_hint ?_)
  refine wpAny_pure ?_
  show wpAny _ A.in1 (rule "list.extend.makes-room" >>= fun _ => Builtin.List.listTouch (.ref S) >>= fun _ => again (.builtin "list.extend.loop" ⟨[.ref S, .ref z, res], []⟩)) _ _ _
  refine wpAny_bind (wpAny_rule (wpAny_bind ?_))
  show wpAny _ A.in1 (updateSeq S (·.push .none) >>= fun _ => updateSeq S (·.pop)) _ _ _
  refine wpAny_bind (wpAny_updateSeq hS rfl ?_)
  have hS2 := Heap.get?_update_self (Obj.mapSeq (·.push Value.none)) hS rfl
  refine wpAny_updateSeq (hz := by seq_fits) hS2 rfl ?_
  have hS3 := Heap.get?_update_self (Obj.mapSeq (·.pop)) hS2 rfl
  have up : ∀ b o, b ≠ S → s.heap.get? b = some o → ((s.heap.update S (Obj.mapSeq (·.push Value.none))).update S (Obj.mapSeq (·.pop))).get? b = some o :=
    fun b o hb e => (Heap.get?_update_other _ _ (Ne.symm hb)).trans ((Heap.get?_update_other _ _ (Ne.symm hb)).trans e)
  exact wpAny_pure ⟨plainId_quiet F.plain_extend_loop _, keptLoop (s := s) (h1 := s.heap) D G1 G2 h0 h12 hn hz hI hO hi1 hi2 f1 f2 res hR n1 0 _ s.toks _ #[] [] (Nat.sub_zero _) (Nat.zero_le _)
    (kZ.over G1 G2 (Nat.ne_of_lt hz) (Nat.ne_of_lt hI) (Nat.ne_of_lt hO) f1 f2 up) (fun b o hb _ _ _ _ e => up b o hb e) hS3 rfl rfl ⟨List.Pairwise.nil, (fun _ ha => nomatch ha), (fun j a hj => by simp at hj)⟩⟩
theorem keptInit (D : ZipSep2 z TI TO i1 i2 fp1 fp2) (G1 : Draws prog w A.in1.in1 i1 fp1 n1 P1 St1) (G2 : Draws prog w A.in1.in1 i2 fp2 n2 P2 St2) (h0 : 0 < n1) (h12 : n1 ≤ n2) (hn : n1 ≤ 1000)
    (hz : z < S) (hI : TI < S) (hO : TO < S) (hi1 : i1 < S) (hi2 : i2 < S) (f1 : S ∉ fp1) (f2 : S ∉ fp2) (kz : IsZip s.heap z TI TO .none) (kI : IsTupOf2 s.heap TI (.ref i1) (.ref i2)) (kO : ∃ a b, IsTupOf2 s.heap TO a b) (a1 : St1 0 s.heap) (a2 : St2 0 s.heap)
    (hS : s.heap.get? S = some { cls := .type "list", data := .seq #[] })
    (hR : ∀ g tk acc c as, (∀ b o, b ≠ S → b ≠ z → b ≠ TO → b ≠ i1 → b ≠ i2 → s.heap.get? b = some o → g.get? b = some o) → g.get? S = some { cls := .type "list", dict := none, data := .seq acc c, slots := #[] } → as.length = n1 → PairsAt P1 P2 S g as →
      acc.toList = as.map Value.ref → R (.ok (.ret .none)) { s with heap := g, toks := tk }) :
    wpAny (model prog w) A.in1 (Builtin.«list.__init__» ⟨[.ref S, .ref z], []⟩)
      (fun fin s' => match fin with | .done f => R (.ok f) s' | .again c' => c'.quiet = true ∧ codeAny (model prog w) A c' R s') (fun e s' => R (.error e) s') s := by
  show wpAny _ A.in1 (do let old ← Builtin.List.listItems (.ref S); Builtin.List.listUpdate (.ref S) (fun _ => #[]); letGo old.toList.reverse; Builtin.List.listExtendWith (.ref S) (.ref z) .none) _ _ s
  refine wpAny_bind ?_
  unfold Builtin.List.listItems
  refine wpAny_bind (wpAny_seqItems hS rfl (wpAny_pure ?_))
  show wpAny _ A.in1 (updateSeq S (fun _ => #[]) >>= fun _ => letGo (#[] : Array Value).toList.reverse >>= fun _ => Builtin.List.listExtendWith (.ref S) (.ref z) .none) _ _ s
  refine wpAny_bind (wpAny_updateSeq hS rfl ?_)
  have hS2 := Heap.get?_update_self (Obj.mapSeq (fun _ => (#[] : Array Value))) hS rfl
  have up : ∀ b o, b ≠ S → s.heap.get? b = some o → (s.heap.update S (Obj.mapSeq (fun _ => (#[] : Array Value)))).get? b = some o := fun b o hb e => (Heap.get?_update_other _ _ (Ne.symm hb)).trans e
  refine wpAny_bind (wpAny_letGo ?_)
  obtain ⟨a, b, kO⟩ := kO
  refine keptExtend D G1 G2 h0 h12 hn hz hI hO hi1 hi2 f1 f2 .none (up _ _ (Nat.ne_of_lt hz) kz) (up _ _ (Nat.ne_of_lt hI) kI) ⟨a, b, up _ _ (Nat.ne_of_lt hO) kO⟩ (G1.frame _ _ _ a1 fun b hb o e => up b o (fun z => f1 (z ▸ hb)) e) (G2.frame _ _ _ a2 fun b hb o e => up b o (fun z => f2 (z ▸ hb)) e) _ hS2 fun g tk acc c as ug gS hl hP hacc => ?_
  exact hR g tk acc c as (fun b o c1 c2 c3 c4 c5 e => ug b o c1 c2 c3 c4 c5 (up b o c1 e)) gS hl hP hacc
end
end
section
open L2 PySem PySem.Spec PyProof.Rows
open PySem PySem.W PySem.Spec PyProof.Rows L2
section
variable {prog : Program} {w : World} {A : Around} {E : Value → Shared → Prop} {s : Shared}
theorem nin2 {a x y : Nat} (h1 : a ≠ x) (h2 : a ≠ y) : a ∉ [x, y] := by
  intro z
  rcases List.mem_cons.mp z with z | z
  · exact h1 z
  · exact h2 (List.mem_singleton.mp z)
theorem ltk {t b : Nat} (k : Nat) (h : t < b) : b + k ≠ t := by omega
theorem lk {b : Nat} (k m : Nat) (h : k < m) : b + k < b + m := by omega
theorem nk {b : Nat} (k m : Nat) (h : k ≠ m) : b + k ≠ b + m := by omega
theorem apart5 {b t l : Nat} (ht : t < b) (hl : l < b) : ZipSep2 (b + 4) (b + 2) (b + 3) b (b + 1) [b, t] [b + 1, l] where
  TIz := nk 2 4 (by decide)
  TOz := nk 3 4 (by decide)
  TITO := nk 2 3 (by decide)
  TIi1 := nk 2 0 (by decide)
  mem1 := List.mem_cons_self
  zf1 := nin2 (nk 4 0 (by decide)) (ltk 4 ht)
  Tf1 := nin2 (nk 3 0 (by decide)) (ltk 3 ht)
  TIi2 := nk 2 1 (by decide)
  mem2 := List.mem_cons_self
  zf2 := nin2 (nk 4 1 (by decide)) (ltk 4 hl)
  Tf2 := nin2 (nk 3 1 (by decide)) (ltk 3 hl)
  sep1_2 := nin2 (nk 0 1 (by decide)) (ltk 0 hl)
  sep2_1 := nin2 (nk 1 0 (by decide)) (ltk 1 ht)
theorem ltn {a b : Nat} (k : Nat) (h : a < b) : a ≠ b + k := by omega
end
theorem Inv.laidAll {X : Cx} {pins : List (Addr × Obj)} {σ : List (Option V)} {H H' : Hp} {s : Shared} {h' : Heap} {t' : Nat} (I : Inv X pins σ H s) (k : ∀ b u, s.heap.get? b = some u → h'.get? b = some u) (sm : Same H H')
    (new : ∀ b, b < s.heap.objs.size → H b = none → H' b = none) (ok : ∀ b o, H' b = some o → H b = none → ObjOk X.prog X.w H' h' b o) : Inv X pins σ H' { s with heap := h', toks := t' } := by
  refine I.un ⟨fun b u q _ _ _ => k b u q, fun b u q _ _ _ => ⟨u.slots, k b u q⟩, fun b u q n _ => new b (Heap.lt_size q) n, fun b u q _ => ⟨u, k b u q⟩, fun b xs q => sm _ _ q, fun b u xs q => sm _ _ q, fun b ps q => ⟨#[], by rw [sm _ _ q]; simp⟩⟩ fun b o e => ?_
  cases hb : H b with
  | none => exact ok b o e hb
  | some u =>
    have e' := sm b u hb
    rw [e] at e'
    cases e'
    exact (I.hok b o hb).stay (fun c v _ q => k c v q) (fun c q => sm _ _ q) fun c xs q => sm _ _ q
structure ZipL (H H' : Hp) (q : Addr) (as : List Addr) (xs ys : List V) : Prop where
  same : Same H H'
  list : H' q = some (.lst (as.map V.ref))
  len : as.length = xs.length
  pair : ∀ (j : Nat) (a : Addr), as[j]? = some a → ∃ x y, xs[j]? = some x ∧ ys[j]? = some y ∧ H' a = some (.tup [x, y])
  free : H q = none
def zipH (H : Hp) (q : Addr) (as : List Addr) (xs ys : List V) : Hp := fun b =>
  if b ∈ as then some (.tup [xs.getD (as.idxOf b) .non, ys.getD (as.idxOf b) .non]) else if b = q then some (.lst (as.map V.ref)) else H b
end
section
open L2 PySem PySem.Spec PyProof.Rows
theorem perm_strs {ys : List V} {ns : List Str} (h : ys.Perm (ns.map V.str)) : ∃ zs : List Str, ys = zs.map V.str ∧ zs.Perm ns := by
  let g : V → Str := fun v => match v with | .str z => z | _ => ""
  have e1 : (ns.map V.str).map g = ns := by
    rw [List.map_map]
    exact List.map_id _
  refine ⟨ys.map g, ?_, by rw [← e1]; exact h.map g⟩
  rw [List.map_map]
  refine (List.map_id _).symm.trans (List.map_congr_left fun y hy => ?_)
  obtain ⟨z, _, rfl⟩ := List.mem_map.mp (h.mem_iff.mp hy)
  rfl
def dgK (Q : VK) (x y : V) : Hp → Prop := fun H2 => ∃ a u, x = .ref a ∧ DGet H2 a y (some u) ∧ Q u H2
theorem i_dg {td ty : TE} {σ : L2.St} {H : Hp} {Q : VK} (h : td σ H fun x H1 => ty σ H1 fun y H2 => dgK Q x y H2) : tDGet td ty σ H Q := h
theorem i_dget {d : Addr} {kvs : List (Key × V)} {z : Str} {v : V} {H : Hp} {Q : VK} (e : H d = some (.dK kvs)) (ev : valV kvs (.inr z) = some v) (h : Q v H) : dgK Q (.ref d) (.str z) H := by
  refine ⟨d, v, rfl, ?_, h⟩
  have := DGet.k (k := Sum.inr z) e
  rw [ev] at this
  exact this
theorem k_notInS {X : Cx} {K : PySem.W.Frag} (hK : X.K = K := by rfl) : OpR X (compareOp .NotIn) (rIn K true) := by subst hK; exact op_notIn_seq
theorem i_notInS {K : PySem.W.Frag} {H : Hp} {Q : VK} {z : Str} {p : Addr} {ns : List Str} (e : SqA K H p (ns.map V.str)) (h : Q (.bl (!decide (z ∈ ns))) H) : rIn K true (.str z) (.ref p) H Q :=
  ⟨p, ns.map V.str, rfl, e, rfl, flat_str, by
    rw [inV_strs]
    exact h⟩
theorem hu1 {k : Nat} {A : Around} (r : Room k A) : A.units + 1 < cLine := by have := r.units; omega
end
section
open L2 PySem PySem.Spec PyProof.Rows
theorem free_same {H H' : Hp} {b : Addr} (h : Same H H') (n : H' b = none) : H b = none := by
  cases e : H b with
  | none => rfl
  | some o => rw [h _ _ e] at n; cases n
theorem at_end {α : Type} {xs : List α} {y : α} {i : Nat} (hl : xs.length = i + 1) (h : xs[i]? = some y) : atI xs (-1) = some y := by
  have e : ixN xs.length (-1) = some i := by
    unfold ixN
    rw [if_neg (by decide), if_pos (by omega)]
    congr 1
    omega
  unfold atI
  rw [e]
  exact h
end
section
open L2 PySem PySem.Spec PyProof.Rows
theorem i_catG {K : PySem.W.Frag} {H : Hp} {Q : VK} {a b : Addr} {xs ys : List V} (e : SqT K H a xs) (e2 : SqT K H b ys) (z : xs.length + ys.length ≤ sizeLine) (h : ∀ p H', Same H H' → SqT K H' p (xs ++ ys) → Q (.ref p) H') : rCatA K (.ref a) (.ref b) H Q := by
  refine ⟨a, b, xs, ys, rfl, rfl, e, e2, z, fun hx => ?_, fun _ hy => ?_, fun _ _ p np => h p _ (Same.upd_new np) (sq_tup upd_same)⟩
  · subst hx
    exact h b H (Same.refl _) e2
  · subst hy
    exact h a H (Same.refl _) (by rw [List.append_nil]; exact e)
end
section
open L2 PySem PySem.Spec PyProof.Rows
theorem k_indexD {X : Cx} {K : PySem.W.Frag} (hu : X.A.units + 65 < cLine) (hK : X.K = K := by rfl) : MtR X "list.index" (rIndexD K) := by
  subst hK
  exact mt_indexD hu
theorem k_bm {X : Cx} {K : PySem.W.Frag} {o e : Expr} {es : List Expr} {to : TE} {t : TA} {name : Str} {apos cpos : Pos} {T id : String} {r : V → List V → Hp → VK → Prop} (pa : PlainAttrs T) (slot : Slot T name id) (hty : typeOf (.builtin id) = pure (.type "method_descriptor")) (hm : MtR X id r) (ho : PE X o to) (ha : PA X (e :: es) t)
    (hbase : attributeBase o name X.env (eval o X.env) = eval o X.env := by rfl)
    (hfew : ((backTo cpos (starEach (e :: es) X.env)).all (fun x => !x.1) && (backToKw cpos (keywordEach [] X.env)).all (fun x => x.1.isSome)
      && decide ((e :: es).length + ([] : List Keyword).length + (if ([] : List Keyword).isEmpty then 0 else 1) < 30)) = true := by rfl)
    (hline : (apos.endLine == cpos.line) = true := by rfl) (hs : starEach (e :: es) X.env = (false, eval e X.env) :: starEach es X.env := by rfl) (hplain : (backTo cpos (starEach es X.env)).any (·.1) = false := by rfl) (hK : X.K = K := by rfl) :
    PE X (.Call (.Attribute o name apos) (e :: es) [] cpos) (tBM K T r to t) := by
  subst hK
  exact pe_bm pa slot hty hm ho ha hbase hfew hline hs hplain
theorem hu65 {k : Nat} {A : Around} (r : Room k A) : A.units + 65 < cLine := by have := r.un; omega
section
variable {k : Nat} {ps : List Str} {rs : List (Str × Str)} {ds : List PyData} {ord : List Str}
theorem take_push {α : Type} {l : List α} {i : Nat} {x : α} (h : l[i]? = some x) : l.take (i + 1) = l.take i ++ [x] := by
  rw [List.take_add_one, h]
  rfl
end
end
section
open L2 PySem PySem.Spec PyProof.Rows
def itF (l : List Nat) (s : Nat) : Nat → Nat
  | 0 => s
  | n + 1 => l.getD (itF l s n) 0
theorem itF_add (l : List Nat) (s m : Nat) : ∀ n, itF l (itF l s m) n = itF l s (m + n)
  | 0 => rfl
  | n + 1 => by
    show l.getD (itF l (itF l s m) n) 0 = l.getD (itF l s (m + n)) 0
    rw [itF_add l s m n]
theorem itF_lt {l : List Nat} {s N : Nat} (h : ∀ x ∈ l, x < N) (hN : l.length = N) (hs : s < N) : ∀ n, itF l s n < N
  | 0 => hs
  | n + 1 => by
    have i := itF_lt h hN hs n
    show l.getD (itF l s n) 0 < N
    rw [List.getD_eq_getElem?_getD, List.getElem?_eq_getElem (by omega)]
    exact h _ (List.getElem_mem _)
structure Wk (l : List Nat) (s m b : Nat) : Prop where
  lt : b < m
  un : ∀ i j, i < j → j < m → itF l s i ≠ itF l s j
  back : itF l s m = itF l s b
theorem Wk.same {l : List Nat} {s m b m' b' : Nat} (h : Wk l s m b) (h' : Wk l s m' b') : m = m' ∧ b = b' := by
  have e : m = m' := by
    rcases Nat.lt_trichotomy m m' with c | c | c
    · exact absurd h.back.symm (h'.un b m h.lt c)
    · exact c
    · exact absurd h'.back.symm (h.un b' m' h'.lt c)
  subst e
  refine ⟨rfl, ?_⟩
  have e2 : itF l s b = itF l s b' := h.back.symm.trans h'.back
  rcases Nat.lt_trichotomy b b' with c | c | c
  · exact absurd e2 (h.un b b' c h'.lt)
  · exact c
  · exact absurd e2.symm (h.un b' b c h.lt)
theorem nodup_few : ∀ (N : Nat) (l : List Nat), l.Nodup → (∀ x ∈ l, x < N) → l.length ≤ N
  | 0, [], _, _ => Nat.le_refl _
  | 0, x :: l, _, h => absurd (h x List.mem_cons_self) (Nat.not_lt_zero _)
  | N + 1, l, nd, h => by
    by_cases m : N ∈ l
    · have h1 := nodup_few N (l.erase N) (nd.erase N) (fun x hx => by
        obtain ⟨a, b⟩ := (List.Nodup.mem_erase_iff nd).mp hx
        have := h x b
        omega)
      rw [List.length_erase_of_mem m] at h1
      omega
    · have := nodup_few N l nd (fun x hx => by
        have := h x hx
        have : x ≠ N := fun e => m (e ▸ hx)
        omega)
      omega
theorem walk_few {l : List Nat} {s N m : Nat} (h : ∀ x ∈ l, x < N) (hN : l.length = N) (hs : s < N) (un : ∀ i j, i < j → j < m → itF l s i ≠ itF l s j) : m ≤ N := by
  have := nodup_few N ((List.range m).map (itF l s)) (by
    unfold List.Nodup
    rw [List.pairwise_map]
    refine List.Pairwise.imp_of_mem ?_ (List.pairwise_lt_range (n := m))
    intro a b _ hb hlt
    exact un a b hlt (List.mem_range.mp hb)) (fun x hx => by
    obtain ⟨i, _, rfl⟩ := List.mem_map.mp hx
    exact itF_lt h hN hs i)
  rwa [List.length_map, List.length_range] at this
def wayL (l : List Nat) (s m : Nat) : List Nat := (List.range m).map (itF l s)
theorem wayL_len {l : List Nat} {s m : Nat} : (wayL l s m).length = m := by unfold wayL; rw [List.length_map, List.length_range]
theorem wayL_at {l : List Nat} {s m i : Nat} (h : i < m) : (wayL l s m)[i]? = some (itF l s i) := by
  unfold wayL
  rw [List.getElem?_map, List.getElem?_range h]
  rfl
end
section
open L2 PySem PySem.Spec PyProof.Rows
section
variable {σ : L2.St} {H : Hp} {Q : VK} {n : L2.St → Hp → Prop} {r : VK} {b c : L2.St → Hp → Prop}
theorem i_dNotIn {ty td : TE} (h : ty σ H fun y H1 => td σ H1 fun x H2 => ∃ a o, x = .ref a ∧ DGet H2 a y o ∧ Q (.bl (!o.isSome)) H2) : tDNotIn ty td σ H Q := h
theorem f_while {tc : TT} {tb : TS} (N : Nat) (Pv : Nat → L2.St → Hp → Prop) (h0 : Pv 0 σ H)
    (hs : ∀ i σ H, i ≤ N → Pv i σ H → tc σ H fun d H1 => if d = true then ∃ N' : L2.St → Hp → Prop, (∀ σ' H', N' σ' H' → ∃ m', m' < N - i ∧ ∃ i', i' ≤ N ∧ m' = N - i' ∧ Pv i' σ' H') ∧ tb ⟨N', r, n, N'⟩ σ H1 else n σ H1) : tWhile tc tb ⟨n, r, b, c⟩ σ H := by
  refine ⟨fun m σ H => ∃ i, i ≤ N ∧ m = N - i ∧ Pv i σ H, ⟨N, 0, Nat.zero_le _, rfl, h0⟩, ?_⟩
  rintro m σ H ⟨i, hi, rfl, p⟩
  exact hs i σ H hi p
theorem w_turn {tb : TS} {N i : Nat} {Pv : Nat → L2.St → Hp → Prop} (hi : i < N) (h : tb ⟨Pv (i + 1), r, n, Pv (i + 1)⟩ σ H) :
    ∃ N' : L2.St → Hp → Prop, (∀ σ' H', N' σ' H' → ∃ m', m' < N - i ∧ ∃ i', i' ≤ N ∧ m' = N - i' ∧ Pv i' σ' H') ∧ tb ⟨N', r, n, N'⟩ σ H :=
  ⟨Pv (i + 1), fun _ _ p => ⟨N - (i + 1), by omega, i + 1, hi, rfl, p⟩, h⟩
end
end
section
open L2 PySem PySem.Spec PyProof.Rows
def dcE (D : Addr) (N : Hp → Prop) (y : V) : VK := fun z H5 => ∃ kvs k, y = kV k ∧ H5 D = some (.dK kvs) ∧ kvs.length < sizeLine ∧ N (upd H5 D (.dK (putK kvs k z)))
def dcK (g : TG) (tt : TT) (tk tv : TE) (vs : List Nat) (σ : L2.St) (Q : VK) : It → Hp → Prop := fun J H1 => ∀ D, H1 D = none → ∃ W : Nat → Nat → Hp → Prop, (∃ m, W 0 m (upd H1 D (.dK []))) ∧ ∀ i m H, W i m H →
  (J.stop i H ∧ Q (.ref D) H) ∨ (J.go i H ∧ ∃ Nx : Hp → Prop, (∀ H', Nx H' → ∃ m', m' < m ∧ W (i + 1) m' H') ∧ ∀ x H', J.yld i H x H' → g x (wipe σ vs) H' fun σ2 H2 => wipe σ2 vs = wipe σ vs ∧ tt σ2 H2 fun b H3 =>
    if b = true then tk σ2 H3 fun y H4 => tv σ2 H4 fun z H5 => ∃ kvs k, y = kV k ∧ H5 D = some (.dK kvs) ∧ kvs.length < sizeLine ∧ Nx (upd H5 D (.dK (putK kvs k z))) else Nx H3)
section
variable {σ : L2.St} {H : Hp} {Q : VK} {K : PySem.W.Frag} {g : TG} {tt : TT} {te tk tv : TE} {vs : List Nat} {a b : Addr}
theorem i_dc {wi : TI} (h : wi σ H (dcK g tt tk tv vs σ Q)) : tDc wi g tt tk tv vs σ H Q := h
end
theorem i_catL {l b : Addr} {xs zs : List V} {H : Hp} {Q : VK} (e1 : H l = some (.lst xs)) (e2 : H b = some (.lst zs)) (z : xs.length + zs.length ≤ sizeLine) (h : ∀ p, H p = none → Q (.ref p) (upd H p (.lst (xs ++ zs)))) : rCat (.ref l) (.ref b) H Q := ⟨l, b, xs, zs, rfl, rfl, e1, e2, z, h⟩
end
section
open L2 PySem PySem.Spec PyProof.Rows
theorem nd_le {α : Type} [DecidableEq α] : ∀ (L ns : List α), L.Nodup → (∀ x ∈ L, x ∈ ns) → L.length ≤ ns.length
  | [], _, _, _ => Nat.zero_le _
  | x :: L, ns, nd, h => by
    obtain ⟨n1, n2⟩ := List.nodup_cons.mp nd
    have hx := h x List.mem_cons_self
    have := nd_le L (ns.erase x) n2 (fun y hy => (List.mem_erase_of_ne (fun e => n1 (by rw [← e]; exact hy))).mpr (h y (List.mem_cons_of_mem _ hy)))
    rw [List.length_erase_of_mem hx] at this
    have := List.length_pos_of_mem hx
    rw [List.length_cons]
    omega
end
section
open L2 PySem PySem.Spec PyProof.Rows
theorem vals_refs {zp : List (Addr × List Int)} : ∀ {its : List Value}, Vals (zp.map fun z => V.ref z.1) its → its = zp.map fun z => Value.ref z.1 := by
  induction zp with
  | nil => intro its h; cases h; rfl
  | cons z r ih =>
    intro its h
    cases h with
    | cons h1 h2 => rw [ih h2]; cases h1; rfl
end
section
open L2 PySem PySem.Spec PyProof.Rows
mutual
def nkOf : PyData → NestedKey
  | .int i => .num i
  | .str x => .text x
  | .tuple ds => .tup (nkAll ds)
  | .none => .none
  | .bool b => .num (if b = true then 1 else 0)
  | .list _ => .none
  | .dict _ => .none
def nkAll : List PyData → List NestedKey
  | [] => []
  | d :: ds => nkOf d :: nkAll ds
end
abbrev DnL := List (NestedKey × Addr × V)
def arrK (l : List (Str × Str)) : NestedKey := nkOf (rsD l)
end
section
open L2 PySem PySem.Spec PyProof.Rows
def freeL (ps : List Str) (l : List (Str × Str)) (g : List Str) : List Str := ps.filter fun z => !decide (z ∈ g) && !decide (∃ r ∈ l, r.2 = z ∧ r.1 ∉ g)
def freedN (ps : List Str) (l : List (Str × Str)) : Nat → List Str → List Str
  | 0, g => g
  | n + 1, g => match freeL ps l g with
    | [] => g
    | z :: _ => freedN ps l n (g ++ [z])
def freedL (ps : List Str) (l : List (Str × Str)) : List Str := freedN ps l ps.length []
section
variable {ps qs os g : List Str} {rs l : List (Str × Str)} {k n : Nat} {z : Str}
theorem mem_free : z ∈ freeL ps l g ↔ z ∈ ps ∧ z ∉ g ∧ ∀ r ∈ l, r.2 = z → r.1 ∈ g := by
  unfold freeL
  rw [List.mem_filter]
  simp only [Bool.and_eq_true, Bool.not_eq_true', decide_eq_false_iff_not, not_exists, not_and, Decidable.not_not]
theorem freed_nil (h : freeL ps l g = []) : ∀ n, freedN ps l n g = g
  | 0 => rfl
  | n + 1 => by
    show (match freeL ps l g with | [] => g | z :: _ => freedN ps l n (g ++ [z])) = g
    rw [h]
theorem freed_cons {r : List Str} (h : freeL ps l g = z :: r) (n : Nat) : freedN ps l (n + 1) g = freedN ps l n (g ++ [z]) := by
  show (match freeL ps l g with | [] => g | z :: _ => freedN ps l n (g ++ [z])) = _
  rw [h]
theorem freed_ok (h1 : g.Nodup) (h2 : ∀ z ∈ g, z ∈ ps) : ∀ n, (freedN ps l n g).Nodup ∧ ∀ z ∈ freedN ps l n g, z ∈ ps := by
  intro n
  induction n generalizing g with
  | zero => exact ⟨h1, h2⟩
  | succ n ih =>
    cases h : freeL ps l g with
    | nil => rw [freed_nil h]; exact ⟨h1, h2⟩
    | cons z r =>
      rw [freed_cons h]
      obtain ⟨m1, m2, _⟩ := mem_free.mp (show z ∈ freeL ps l g by rw [h]; exact List.mem_cons_self)
      refine ih ?_ fun y hy => ?_
      · rw [List.nodup_append]
        refine ⟨h1, by simp, fun a ha b hb e => ?_⟩
        rcases List.mem_singleton.mp hb with rfl
        exact m2 (e ▸ ha)
      · rcases List.mem_append.mp hy with hy | hy
        · exact h2 y hy
        · rcases List.mem_singleton.mp hy with rfl
          exact m1
end
end
section
open L2 PySem PySem.Spec PyProof.Rows
def tTruth (K : PySem.W.Frag) (ta : TE) : TT := fun σ H Q => ta σ H fun x H' => ∃ k, TruV K x H' k ∧ Q k H'
theorem k_truth {X : Cx} {K : PySem.W.Frag} {a : Expr} {ta : TE} (ha : PE X a ta) (he : ∀ whole, isTrue a X.env whole = (do let v ← whole; standAt a.pos; holding [v] (truthy v))) (hK : X.K = K := by rfl) : PT X a (tTruth K ta) := by
  subst hK
  exact pt_truth ha he
section
variable {σ : L2.St} {H : Hp} {Q : VK} {QB : Bool → Hp → Prop} {K : PySem.W.Frag} {g : TG} {tt : TT} {te tk tv : TE} {vs : List Nat} {a : Addr}
theorem i_truth {ta : TE} (h : ta σ H fun x H' => ∃ k, TruV K x H' k ∧ QB k H') : tTruth K ta σ H QB := h
theorem d_tup (xs : List V) (Pv : Addr → Nat → Hp → Prop) (h0 : ∀ D, H D = none → Pv D 0 (upd H D (.dK []))) (hl : ∀ D i H, i ≤ xs.length → Pv D i H → SqT K H a xs)
    (hs : ∀ D i x H, xs[i]? = some x → Pv D i H → g x (wipe σ vs) H fun σ2 H2 => wipe σ2 vs = wipe σ vs ∧ tt σ2 H2 fun c H3 => if c = true then tk σ2 H3 fun y H4 => tv σ2 H4 (dcE D (Pv D (i + 1)) y) else Pv D (i + 1) H3)
    (hd : ∀ D H, Pv D xs.length H → Q (.ref D) H) : dcK g tt tk tv vs σ Q (Itt K a) H := fun D nD => dc_tup (Qd := fun H => Q (.ref D) H) (Pv D) (h0 D nD) (hl D) (hs D) (hd D)
end
def rIsNotB : R2 := fun x y H Q => ∃ b c r : Bool, x = .bl b ∧ y = .bl c ∧ r = (!decide (b = c)) ∧ Q (.bl r) H
theorem op_isNotB {X : Cx} : OpR X (compareOp .IsNot) rIsNotB := by
  intro pins s σ H x y v u Q I rx ry h
  obtain ⟨b, c, r, rfl, rfl, e, q⟩ := h
  cases rx
  cases ry
  refine wpAny_isNot_plain (by cases b <;> cases c <;> rfl) (fin_bl I q ?_)
  subst e
  cases b <;> cases c <;> rfl
theorem texts_noB : ∀ l : List Str, noBAll (l.map PyData.str) = true
  | [] => rfl
  | x :: l => by
    show (true && noBAll (l.map PyData.str)) = true
    rw [texts_noB l]
    rfl
abbrev tlD (l : List Str) : PyData := .list (l.map .str)
theorem tl_eqd {l m : List Str} : PyData.eqv (tlD l) (tlD m) = decide (l = m) := by
  have q := eqv_dec (tlD l) (tlD m) (texts_noB l) (texts_noB m)
  by_cases k : l = m
  · subst k
    rw [decide_eq_true rfl, q.mpr rfl]
  · rw [decide_eq_false k]
    cases z : PyData.eqv (tlD l) (tlD m) with
    | false => rfl
    | true =>
      have := q.mp z
      injection this with e
      exact absurd (map_str_inj e) k
theorem tl_shaped {l : List Str} (h : ∀ z ∈ l, nmOk z = true) : SeqAt.shaped (tlD l) = true := by
  obtain ⟨a1, _, _, a4, _⟩ := texts_data l h
  show (PyData.canLayAll0 (l.map .str) && decide (PyData.depthAll (l.map .str) + 1 ≤ 64)) = true
  rw [a1, decide_eq_true (by omega)]
  rfl
theorem tl_dp {K : PySem.W.Frag} {H : Hp} {p : Addr} {l : List Str} (h : H p = some (.lst (l.map V.str))) : Dp K H (.ref p) (tlD l) := .lst (sq_lst h) (DpAll.strs l)
def spFree (K : PySem.W.Frag) : Sp := fun vs H Q _ => ∃ (v : V) (T g : Addr) (l : List (Str × Str)) (gone ps : List Str) (rs : List (Str × Str)), vs = [v, .ref T, .ref g] ∧ Dp K H v (webD ps rs) ∧ IsWeb ps rs ∧ Dp K H (.ref T) (rsD l) ∧ l.length ≤ 14 ∧ SqT K H g (gone.map V.str) ∧
  ∀ D H', H D = none → Same H H' → H' D = some (.lst ((freeL ps l gone).map V.str)) → Q (.ref D) H'
def spFreed (K : PySem.W.Frag) : Sp := fun vs H Q _ => ∃ (v : V) (T : Addr) (l : List (Str × Str)) (ps : List Str) (rs : List (Str × Str)), vs = [v, .ref T] ∧ Dp K H v (webD ps rs) ∧ IsWeb ps rs ∧ Dp K H (.ref T) (rsD l) ∧ l.length ≤ 14 ∧
  ∀ G H', Same H H' → FT H' G ((freedL ps l).map V.str) → Q (.ref G) H'
def spFirstOf (K : PySem.W.Frag) : Sp := fun vs H Q _ => ∃ (v : V) (T : Addr) (l : List (Str × Str)) (ps : List Str) (rs : List (Str × Str)), vs = [v, .ref T] ∧ Dp K H v (webD ps rs) ∧ IsWeb ps rs ∧ Dp K H (.ref T) (rsD l) ∧ l.length ≤ 14 ∧ (∀ r ∈ l, NmR r) ∧
  ((freedL ps l).length = ps.length → ∀ G H', Same H H' → FT H' G ((freedL ps l).map V.str) → Q (.ref G) H') ∧ ((freedL ps l).length ≠ ps.length → ∀ H', Same H H' → Q .non H')
end
section
open L2 PySem PySem.Spec PyProof.Rows
mutual
inductive Ob (K : PySem.W.Frag) (H : Hp) (a : Addr) : V → PyData → Prop
  | non : Ob K H a .non .none
  | bl (b : Bool) : Ob K H a (.bl b) (.bool b)
  | int (i : Int) : Ob K H a (.int i) (.int i)
  | str (x : Str) : Ob K H a (.str x) (.str x)
  | lst {p : Addr} {xs : List V} {ds : List PyData} : H p = some (.lst xs) → p ≠ a → ObAll K H a xs ds → Ob K H a (.ref p) (.list ds)
  | tup {p : Addr} {xs : List V} {ds : List PyData} : SqT K H p xs → ObAll K H a xs ds → Ob K H a (.ref p) (.tuple ds)
  | dic {p : Addr} : H p = some (.dK []) → p ≠ a → Ob K H a (.ref p) (.dict [])
inductive ObAll (K : PySem.W.Frag) (H : Hp) (a : Addr) : List V → List PyData → Prop
  | nil : ObAll K H a [] []
  | cons {v : V} {vs : List V} {d : PyData} {ds : List PyData} : Ob K H a v d → ObAll K H a vs ds → ObAll K H a (v :: vs) (d :: ds)
end
section
variable {K : PySem.W.Frag} {H H' : Hp} {a : Addr}
mutual
theorem Ob.go (t : TK K H H') (k : ∀ p o, p ≠ a → H p = some o → H' p = some o) : ∀ (d : PyData) (v : V), Ob K H a v d → Ob K H' a v d
  | .none, _, h => by cases h; exact .non
  | .bool b, _, h => by cases h; exact .bl b
  | .int i, _, h => by cases h; exact .int i
  | .str x, _, h => by cases h; exact .str x
  | .list ds, _, h => by
    cases h with
    | lst e n al => exact .lst (k _ _ n e) n (ObAll.go t k ds _ al)
  | .tuple ds, _, h => by
    cases h with
    | tup s al => exact .tup (t _ _ s) (ObAll.go t k ds _ al)
  | .dict _, _, h => by
    cases h with
    | dic e n => exact .dic (k _ _ n e) n
theorem ObAll.go (t : TK K H H') (k : ∀ p o, p ≠ a → H p = some o → H' p = some o) : ∀ (ds : List PyData) (vs : List V), ObAll K H a vs ds → ObAll K H' a vs ds
  | [], _, h => by cases h; exact .nil
  | d :: ds, _, h => by
    cases h with
    | cons h1 h2 => exact .cons (Ob.go t k d _ h1) (ObAll.go t k ds _ h2)
end
theorem Ob.same {v : V} {d : PyData} (h : Ob K H a v d) (k : Same H H') : Ob K H' a v d := Ob.go (TK.same k) (fun p o _ e => k p o e) d v h
theorem Ob.ch {v : V} {d : PyData} {c : Int} (h : Ob K H a v d) (k : Ch a H H') (f : Fd H a c) : Ob K H' a v d := Ob.go (TK.ch k f) (fun p o n e => k p o n e) d v h
mutual
theorem Ob.of : ∀ (d : PyData) (v : V), tupOnly d = true → Dp K H v d → Ob K H a v d
  | .none, _, _, h => by cases h; exact .non
  | .bool b, _, _, h => by cases h; exact .bl b
  | .int i, _, _, h => by cases h; exact .int i
  | .str x, _, _, h => by cases h; exact .str x
  | .list ds, _, t, h => by cases t
  | .tuple ds, _, t, h => by
    cases h with
    | tup s al => exact .tup s (ObAll.of ds _ t al)
  | .dict _, _, t, h => by cases t
theorem ObAll.of : ∀ (ds : List PyData) (vs : List V), tupOnlyAll ds = true → DpAll K H vs ds → ObAll K H a vs ds
  | [], _, _, h => by cases h; exact .nil
  | d :: ds, _, t, h => by
    have t' : (tupOnly d && tupOnlyAll ds) = true := t
    rw [Bool.and_eq_true] at t'
    cases h with
    | cons h1 h2 => exact .cons (Ob.of d _ t'.1 h1) (ObAll.of ds _ t'.2 h2)
end
theorem ObAll.len : ∀ {vs : List V} {ds : List PyData}, ObAll K H a vs ds → vs.length = ds.length
  | _, _, .nil => rfl
  | _, _, .cons _ t => congrArg Nat.succ (ObAll.len t)
theorem ObAll.app : ∀ {vs ws : List V} {ds es : List PyData}, ObAll K H a vs ds → ObAll K H a ws es → ObAll K H a (vs ++ ws) (ds ++ es)
  | _, _, _, _, .nil, h => h
  | _, _, _, _, .cons x t, h => .cons x (ObAll.app t h)
theorem ObAll.get : ∀ {vs : List V} {ds : List PyData} {i : Nat} {v : V}, ObAll K H a vs ds → vs[i]? = some v → ∃ d, ds[i]? = some d ∧ Ob K H a v d
  | _, _, i, _, .nil, e => by simp at e
  | _, _, 0, _, .cons h _, e => by
    have := Option.some.inj e
    subst this
    exact ⟨_, rfl, h⟩
  | _, _, i + 1, _, .cons _ t, e => ObAll.get (i := i) t e
end
def tyN : PyData → String
  | .none => "NoneType"
  | .bool _ => "bool"
  | .int _ => "int"
  | .str _ => "str"
  | .list _ => "list"
  | .tuple _ => "tuple"
  | .dict _ => "dict"
def isT : PyData → Bool
  | .tuple _ => true
  | _ => false
def isS : PyData → Bool
  | .str _ => true
  | _ => false
section
variable {K : PySem.W.Frag} {H : Hp} {a : Addr} {v : V} {d : PyData} {Q : VK}
theorem Ob.ty (h : Ob K H a v d) : TyX K H v (.type (tyN d)) := by
  cases h with
  | non => exact .base .non
  | bl b => exact .base (.bl b)
  | int i => exact .base (.int i)
  | str x => exact .base (.str x)
  | lst e n al => exact .base (.lst e)
  | tup s al => exact ty_tup s
  | dic e n => exact .base (.dK e)
theorem is_tupO (h : Ob K H a v d) (q : Q (.bl (isT d)) H) : rIsi K [v, .ty "tuple"] H Q := i_isi h.ty (by cases h <;> first | exact (by decide +kernel : kitB "NoneType" "tuple" = some false) | exact (by decide +kernel : kitB "bool" "tuple" = some false) | exact (by decide +kernel : kitB "int" "tuple" = some false) | exact (by decide +kernel : kitB "str" "tuple" = some false) | exact (by decide +kernel : kitB "list" "tuple" = some false) | exact (by decide +kernel : kitB "tuple" "tuple" = some true) | exact (by decide +kernel : kitB "dict" "tuple" = some false)) q
theorem is_strO (h : Ob K H a v d) (q : Q (.bl (isS d)) H) : rIsi K [v, .ty "str"] H Q := i_isi h.ty (by cases h <;> first | exact (by decide +kernel : kitB "NoneType" "str" = some false) | exact (by decide +kernel : kitB "bool" "str" = some false) | exact (by decide +kernel : kitB "int" "str" = some false) | exact (by decide +kernel : kitB "str" "str" = some true) | exact (by decide +kernel : kitB "list" "str" = some false) | exact (by decide +kernel : kitB "tuple" "str" = some false) | exact (by decide +kernel : kitB "dict" "str" = some false)) q
end
section
variable {X : Cx} {pins : List (Addr × Obj)} {σ : L2.St} {H : Hp} {s : Shared} {a : Addr}
mutual
theorem Ob.reads (I : Inv X pins σ H s) : ∀ (d : PyData) (v : V) (u : Value), Ob X.K H a v d → RelV v u → ∃ as, Reads s.heap u d as ∧ (∀ kvs, d = .dict kvs → sysModules ∉ as)
  | .none, _, _, h, r => by
    cases h
    cases r
    exact ⟨_, .none, fun _ c => by cases c⟩
  | .bool b, _, _, h, r => by
    cases h
    cases r
    exact ⟨_, .bool b, fun _ c => by cases c⟩
  | .int i, _, _, h, r => by
    cases h
    obtain ⟨t, rfl⟩ := r
    exact ⟨_, .int i t, fun _ c => by cases c⟩
  | .str x, _, _, h, r => by
    cases h
    obtain ⟨t, rfl⟩ := r
    exact ⟨_, .str x t, fun _ c => by cases c⟩
  | .list ds, _, _, h, r => by
    cases h with
    | lst e n al =>
      cases r
      obtain ⟨its, rv, ⟨o, m, ho, hc, _, hd⟩, _⟩ := I.list (sq_lst e)
      obtain ⟨as, hr⟩ := ObAll.reads I ds _ its al rv
      exact ⟨_, .list ho hc hd hr, fun _ c => by cases c⟩
  | .tuple ds, _, _, h, r => by
    cases h with
    | tup s al =>
      cases r
      obtain ⟨its, rv, ⟨o, ho, hc, m, hd⟩, _⟩ := I.tuple s
      obtain ⟨as, hr⟩ := ObAll.reads I ds _ its al rv
      exact ⟨_, .tuple ho hc hd hr, fun _ c => by cases c⟩
  | .dict _, _, _, h, r => by
    cases h with
    | dic e n =>
      cases r
      obtain ⟨hz, hS, vs, rk, o, es, ep, h1, h2, h3, _, h4, _⟩ := (show ObjOk X.prog X.w H s.heap _ (.dK []) from I.hok _ _ e)
      cases rk
      have e0 : es.toList = [] := by
        generalize es.toList = l at h4
        cases l with
        | nil => rfl
        | cons x r => cases h4
      refine ⟨_, .dict (as := []) (bs := []) (kvs := []) h1 h2.1 h3 (by rw [e0]; exact .nil) (by rw [e0]; exact .nil), fun _ _ c => ?_⟩
      simp only [List.append_nil, List.mem_singleton] at c
      rw [← c] at hS
      simp at hS
theorem ObAll.reads (I : Inv X pins σ H s) : ∀ (ds : List PyData) (vs : List V) (us : List Value), ObAll X.K H a vs ds → Vals vs us → ∃ as, ReadsAll s.heap us ds as
  | [], _, _, h, r => by
    cases h
    cases r
    exact ⟨_, .nil⟩
  | d :: ds, _, _, h, r => by
    cases h with
    | cons h1 h2 =>
      cases r with
      | cons r1 r2 =>
        obtain ⟨as, q1, _⟩ := Ob.reads I d _ _ h1 r1
        obtain ⟨bs, q2⟩ := ObAll.reads I ds _ _ h2 r2
        exact ⟨_, .cons q1 q2⟩
end
end
def shO : PyData → Str
  | .none => "None"
  | .bool b => if b then "True" else "False"
  | .int i => toString i
  | .str x => reprText x
  | d => d.shown
structure ShO (d : PyData) : Prop where
  int_ : ∀ i, d = .int i → i.natAbs.log2 < 1920
  str_ : ∀ x, d = .str x → (reprText x).length ≤ sizeLine
  sho : d.showable = true
  dct : d.hasDict = false ∨ d = .dict []
  dep : d.depth ≤ 40
  len : d.shown.length ≤ sizeLine
def rShowO (K : PySem.W.Frag) : List V → Hp → VK → Prop := fun xs H Q => ∃ (x : V) (d : PyData) (a : Addr), xs = [x] ∧ Ob K H a x d ∧ ShO d ∧ Q (.str (shO d)) H
theorem k_showO {X : Cx} {K : PySem.W.Frag} (hg : X.A.guards = some []) (hu : X.A.units + 64 < cLine) (hK : X.K = K := by rfl) : CallR X (.builtin "repr") (rShowO K) := by
  subst hK
  intro pins s σ H xs us Q I r h
  obtain ⟨x, d, a, rfl, hd, hs, q⟩ := h
  match us, r with
  | [u], .cons ru .nil =>
    obtain ⟨as, rd, hno⟩ := Ob.reads I d _ u hd ru
    have hdep := hs.dep
    have hns : d.hasDict = true → sysModules ∉ as := fun z => by
      rcases hs.dct with c | c
      · rw [c] at z; cases z
      · exact hno _ c
    cases hd with
    | non =>
      cases ru
      exact PySem.P.repr_of_none ⟨.str "None", H, I.tok _, ⟨_, rfl⟩, q⟩
    | bl b =>
      cases ru
      exact PySem.P.repr_of_bool ⟨.str _, H, I.tok _, ⟨_, rfl⟩, q⟩
    | int i =>
      obtain ⟨t, rfl⟩ := ru
      exact PySem.P.repr_of_int (hs.int_ i rfl) ⟨.str _, H, I.tok _, ⟨_, rfl⟩, q⟩
    | str z =>
      obtain ⟨t, rfl⟩ := ru
      exact PySem.P.repr_of_str ⟨.str _, H, I.tok _, ⟨_, rfl⟩, q⟩ (hs.str_ z rfl)
    | lst e n al =>
      obtain rfl : u = Value.ref _ := ru
      exact repr_of_reads' rd hs.sho hns hg (by omega) (fun b o e => e) (fun h' t tk k => ⟨.str _, H, I.kept k, ⟨t, rfl⟩, q⟩) hs.len
    | tup e al =>
      obtain rfl : u = Value.ref _ := ru
      exact repr_of_reads' rd hs.sho hns hg (by omega) (fun b o e => e) (fun h' t tk k => ⟨.str _, H, I.kept k, ⟨t, rfl⟩, q⟩) hs.len
    | dic e n =>
      obtain rfl : u = Value.ref _ := ru
      exact repr_of_reads' rd hs.sho hns hg (by omega) (fun b o e => e) (fun h' t tk k => ⟨.str _, H, I.kept k, ⟨t, rfl⟩, q⟩) hs.len
end
section
open L2 PySem PySem.Spec PyProof.Rows
theorem sh_none : ShO .none := ⟨fun i c => (by cases c), fun x c => (by cases c), rfl, .inl rfl, by decide, by decide +kernel⟩
end
section
open L2 PySem PySem.Spec PyProof.Rows
def okN (l : List (Str × Str)) (g : List Str) (z : Str) : Bool := !decide (z ∈ g) && l.all fun r => !decide (r.2 = z) || decide (r.1 ∈ g)
def growG (ps : List Str) (l : List (Str × Str)) : Nat → List (List Str)
  | 0 => [[]]
  | n + 1 => (growG ps l n).flatMap fun g => (ps.filter (okN l g)).map fun z => g ++ [z]
end
section
open L2 PySem PySem.Spec PyProof.Rows
def msk (ps g : List Str) : Nat := (g.map fun z => 2 ^ ps.idxOf z).sum
end
section
open L2 PySem PySem.Spec PyProof.Rows
def cM (ps : List Str) (l : List (Str × Str)) (n x : Nat) : Nat := ((growG ps l n).filter fun g => decide (msk ps g = x)).length
def cnt (ps : List Str) (l : List (Str × Str)) (x : Nat) : Nat := ((List.range (ps.length + 1)).map fun n => cM ps l n x).sum
end
section
open L2 PySem PySem.Spec PyProof.Rows
abbrev ARow := List (Str × Str) × Addr × Nat
def nL (R : List ARow) : DnL := R.map fun r => (arrK r.1, r.2.1, V.int (r.2.2 : Nat))
end
section
open L2 PySem PySem.Spec PyProof.Rows
section
variable {P : Program} {w : World} {A : Around} {E : Value → Shared → Prop} {s : Shared} {a : Addr} {L : List (Addr × List Str)} {es : Array (Int × Value)} {ep : Nat} {t : SetTable}
theorem tt_keep {h h' : Heap} {k : List Str} {b : Addr} (x : Tt P w h k b) (kp : ∀ c o, h.get? c = some o → h'.get? c = some o) : Tt P w h' k b := let ⟨o, us, n, g, r⟩ := x; ⟨o, us, n, kp b o g, r⟩
end
end
section
open L2 PySem PySem.Spec PyProof.Rows
section
variable {P : Program} {w : World} {A : Around} {E : Value → Shared → Prop} {s : Shared} {a : Addr} {L : List (Addr × List Str)} {es : Array (Int × Value)} {ep : Nat} {t : SetTable}
theorem tt_reads {h : Heap} {k : List Str} {b : Addr} (x : Tt P w h k b) : Reads h (.ref b) (tsD k) [] := by
  obtain ⟨o, us, n, g, c, d, it⟩ := x
  refine .tuple g c d ?_
  have key : ∀ {k : List Str} {us : List Value}, ItemsAre (PySem.strKind P w) k us → ReadsAll h us (k.map PyData.str) [] := by
    intro k us it
    induction it with
    | nil => exact .nil
    | cons h1 _ ih =>
      obtain ⟨t, rfl⟩ := Value.isStrOf_shape h1
      exact .cons (as := []) (bs := []) (.str _ t) ih
  exact key it
theorem strs_alike : ∀ a b : List Str, PySem.W.alikeAll (a.map PyData.str) (b.map PyData.str) = true
  | [], b => by cases b <;> rfl
  | x :: a, [] => rfl
  | x :: a, y :: b => by
    show (PySem.W.alike (.str x) (.str y) && PySem.W.alikeAll (a.map PyData.str) (b.map PyData.str)) = true
    rw [strs_alike a b]
    rfl
theorem ts_alike (a b : List Str) : PySem.W.alike (tsD a) (tsD b) = true := strs_alike a b
theorem strs_deep : ∀ a : List Str, PyData.depthAll (a.map PyData.str) = 0
  | [] => rfl
  | x :: a => by
    show max 0 (PyData.depthAll (a.map PyData.str)) = 0
    rw [strs_deep a]
    rfl
theorem ts_deep (a : List Str) : (tsD a).depth = 1 := by
  show PyData.depthAll (a.map PyData.str) + 1 = 1
  rw [strs_deep]
theorem each_ref : ∀ L : List (Addr × List Str), PySem.W.EachIs (fun v (p : Addr × List Str) => v = Value.ref p.1) (L.map fun p => Value.ref p.1) L
  | [] => .nil
  | p :: L => .cons rfl (each_ref L)
theorem each_refT {h : Heap} {b : Addr} : ∀ L : List (Addr × List Str), (∀ p ∈ L, Tt P w h p.2 p.1) → PySem.W.EachIs (fun v (p : Addr × List Str) => ∃ as, Reads h v (tsD p.2) as ∧ b ∉ as) (L.map fun p => Value.ref p.1) L
  | [], _ => .nil
  | p :: L, hT => .cons ⟨[], tt_reads (hT p List.mem_cons_self), List.not_mem_nil⟩ (each_refT L fun q hq => hT q (List.mem_cons_of_mem _ hq))
theorem refs_each : ∀ {L : List (Addr × List Str)} {vs : List Value}, PySem.W.EachIs (fun v (p : Addr × List Str) => v = Value.ref p.1) vs L → vs = L.map fun p => Value.ref p.1
  | _, _, .nil => rfl
  | _, _, .cons h t => by rw [h, refs_each t]; rfl
end
section
variable {X : Cx}
theorem vals_ref1 : ∀ L : List (Addr × List Str), Vals (L.map fun p => V.ref p.1) (L.map fun p => Value.ref p.1)
  | [] => .nil
  | p :: L => .cons rfl (vals_ref1 L)
end
end
section
open L2 PySem PySem.Spec PyProof.Rows
section
variable {X : Cx} {i : Nat} {y : Str} {py : Pos} {kx vx tg iter : Expr} {ifs : List Expr} {scope : Scope} {own : List (Str × Nat)} {pos spos : Pos} {wi : TI} {g : TG} {tt : TT} {tk tv : TE}
theorem ps_setDc (hc : X.calm = true) (nN : X.N.Nodup) (iy : X.N[i]? = some y) (ly : X.env.scope.names.lookup y = some .local) (sw : swapsWith (.DictComp kx vx [⟨tg, iter, ifs, 0⟩] scope pos) (some (.Name y py)) spos.line X.env = pure true)
    (hi : PI X tg iter wi) (ok : BlkOk X.N X.env.scope scope own) (pg : ∀ (s : Shared) (H : Hp) (C : Addr) (cl : List (Str × Addr)) (fp : List Addr), PG (X.blk s H scope (compEnvC scope cl C X.env) fp) tg g)
    (pt : ∀ (s : Shared) (H : Hp) (C : Addr) (cl : List (Str × Addr)) (fp : List Addr), PTs (X.blk s H scope (compEnvC scope cl C X.env) fp) ifs tt) (pk : ∀ (s : Shared) (H : Hp) (C : Addr) (cl : List (Str × Addr)) (fp : List Addr), PE (X.blk s H scope (compEnvC scope cl C X.env) fp) kx tk)
    (pv : ∀ (s : Shared) (H : Hp) (C : Addr) (cl : List (Str × Addr)) (fp : List Addr), PE (X.blk s H scope (compEnvC scope cl C X.env) fp) vx tv) (hs : ∀ x, foldedSetIterable iter X.env x = pure x := by intro _; rfl) :
    PS X (.Assign [.Name y py] (.DictComp kx vx [⟨tg, iter, ifs, 0⟩] scope pos) spos) (tAsg (tDc wi g tt tk tv (own.map (·.2))) (gName i)) := ⟨fun pins s σ H D I h => by
  rw [exec_Assign_Name_used _ _ _ _ sw]
  refine wpAny_bind (wpAny_standAt (wpAny_bind (show wpAny _ X.A (do let _ ← comprehension (.DictComp kx vx [⟨tg, iter, ifs, 0⟩] scope pos) scope X.env (firstIterPos [⟨tg, iter, ifs, 0⟩] pos) newDict false (eval iter X.env) (some (assign (.Name y py) X.env))) _ _ s from ?_)))
  have h0 : tDc wi g tt tk tv (own.map (·.2)) σ H (fun x H1 => gName i x σ H1 D.nx) := h
  refine wpAny_bind (thn (dc_core (Qf := fun _ z => SP X pins D .next z) hc nN I hi ok pg pt pk pv hs h0 fun L C z m H1 I1 q hn ⟨f0, f1, f2, f3, f4, f5⟩ => (show wpAny _ _ (assign (.Name y py) X.env (.ref L)) _ _ _ from ?_)) fun _ z hq => wpAny_pure (wpAny_pure hq))
  refine wpAny_assign_Name (store_ok2 (v := V.ref L) I1 nN iy (.inl ly) rfl (fun z2 I2 ⟨b, sb, hb⟩ => ?_) (.inr ly))
  have ne : C ≠ b := hb.elim (fun e => e ▸ f1) fun e c => f4 y b e c.symm
  exact ⟨m, hn.sameBut sb ne, fun h3 sb3 => ⟨_, H1, I2.turned (t' := z2.toks) (fun b o hb e => (sb3.2 b hb).trans e) f0 f1 f3 f4 f5, q⟩⟩⟩
theorem sw_dict {gs : List Comprehension} {l : Nat} {env : Env} (hk : env.scope.kind = .function) (ly : env.scope.names.lookup y = some .local) (hl : (py.line == pos.line) = true) (ha : (scope.names.any fun (n, k) => n == y && (k == .local || k == .cell)) = false) : swapsWith (.DictComp kx vx gs scope pos) (some (.Name y py)) l env = pure true := by
  have e1 : env.kindOf y = some .local := ly
  have e2 : env.blockKind = .function := by
    unfold Env.blockKind
    rw [hk]
    rfl
  unfold swapsWith
  simp only [e1, e2, ha, Expr.pos, hl]
  rfl
end
end
section
open L2 PySem PySem.Spec PyProof.Rows
section
variable {l : List Nat} {s m b p N : Nat}
theorem Wk.ring (h : Wk l s m b) : Wk l (itF l s b) (m - b) 0 where
  lt := by have := h.lt; omega
  un i j hij hj e := by
    rw [itF_add, itF_add] at e
    exact h.un (b + i) (b + j) (by omega) (by omega) e
  back := by
    have := h.lt
    rw [itF_add, show b + (m - b) = m by omega, h.back]
    rfl
theorem is_walk (h : ∀ x ∈ l, x < N) (hN : l.length = N) (hs : s < N) : ∃ m b, Wk l s m b := by
  have key : ∀ n, (∃ m b, m ≤ n ∧ Wk l s m b) ∨ ∀ i j, i < j → j ≤ n → itF l s i ≠ itF l s j := by
    intro n
    induction n with
    | zero => exact .inr fun i j hij hj => by omega
    | succ n ih =>
      rcases ih with ⟨m, b, hm, w⟩ | un
      · exact .inl ⟨m, b, Nat.le_succ_of_le hm, w⟩
      · by_cases c : ∃ b, b < n + 1 ∧ itF l s b = itF l s (n + 1)
        · obtain ⟨b, hb, e⟩ := c
          exact .inl ⟨n + 1, b, Nat.le_refl _, hb, fun i j hij hj => un i j hij (by omega), e.symm⟩
        · refine .inr fun i j hij hj e => ?_
          rcases Nat.lt_or_eq_of_le hj with d | d
          · exact un i j hij (by omega) e
          · subst d
            exact c ⟨i, hij, e⟩
  rcases key N with ⟨m, b, _, w⟩ | un
  · exact ⟨m, b, w⟩
  · have := walk_few (m := N + 1) h hN hs fun i j hij hj => un i j hij (by omega)
    omega
end
end
section
open L2 PySem PySem.Spec PyProof.Rows
abbrev dc2 (kx vx t0 i0 : Expr) (fs0 : List Expr) (t1 i1 : Expr) (fs1 : List Expr) (scope : Scope) (pos : Pos) : Expr := .DictComp kx vx [⟨t0, i0, fs0, 0⟩, ⟨t1, i1, fs1, 0⟩] scope pos
end
section
open L2 PySem PySem.Spec PyProof.Rows
theorem idx_of {α : Type} [BEq α] [LawfulBEq α] {l : List α} {x : α} (h : x ∈ l) : l[l.idxOf x]? = some x ∧ ∀ m, m < l.idxOf x → ∀ y, l[m]? = some y → y ≠ x := by
  refine ⟨?_, fun m hm y hy e => ?_⟩
  · rw [List.getElem?_eq_getElem (List.idxOf_lt_length_iff.mpr h), List.getElem_idxOf]
  · subst e
    have := List.not_of_lt_findIdx (p := fun z => z == y) hm
    obtain ⟨h1, h2⟩ := List.getElem?_eq_some_iff.mp hy
    rw [h2] at this
    simp at this
end
section
open L2 PySem PySem.Spec PyProof.Rows
structure ClX (P : Program) (w : World) (K : PySem.W.Frag) (mg : Str → Option Value) (base : Heap) (k : Nat) (x : Str) (ps : List Str) (sp : Sp) : Prop where
  ex : ∃ (f : Addr) (fd : FuncData), FnOk P w K mg base (L2.CX P w) k f fd ps sp ∧ mg x = some (.ref f) ∧ PySem.W.keepIn K (.ref f) = true ∧ Binds K fd ps []
section
variable {base : Heap} {P : Program} {w : World} {K : PySem.W.Frag} {mg : Str → Option Value}
theorem Dn.clX {x : String} {st : Stmt} {N ps : List Str} {k : Nat} {sp : Sp} (D : Dn K mg x st ps) (S : FnScope N ps (defScope st)) (len : ∀ vs H Q E, sp vs H Q E → vs.length = ps.length)
    (bd : ∀ (f : Addr) (cdv : Value) (A : Around) (fr : List Env) (s : Shared) (H : Hp) (vs : List V) (Q : VK) (E : XK), Room k (A.deeper (envOfC x (defScope st) s.heap.objs.size f cdv)) → sp vs H Q E →
      ∃ t, PSs (cxOf (L2.CX P w) P w K mg base N x (defScope st) f cdv A fr s H E) (defBody st) t ∧ t { nx := fun _ H' => Q .non H', rt := Q } (start N vs) H) : ClX P w K mg base (k + 1) x ps sp := by
  obtain ⟨f, fd, F, hm, b⟩ := D.ex
  exact ⟨f, fd, F.okX S len (bd f), hm, F.kp, b⟩
theorem tk_out {N : List Str} {q : Str} {sc : Scope} {f : Addr} {cdv : Value} {A : Around} {fr : List Env} {s : Shared} {H : Hp} {E : XK} : Takes (cxOf (L2.CX P w) P w K mg base N q sc f cdv A fr s H E) (fun cls d _ H' => E cls d H') :=
  takes_of rfl rfl rfl rfl
end
section
variable {X : Cx} {k k' : Nat} {ps : List Str} {sp : Sp} {W : WX} {x : Str} {p pos : Pos} {e : Expr} {es : List Expr} {t : TA}
theorem pe_cX (C : ClX X.prog X.w X.K X.mg X.base k x ps sp) (tk : Takes X W) (hr : Room k' X.A) (ha : PA X (e :: es) t) (hg : Gl X x := by rfl) (hk : k ≤ k' := by decide) (h1 : (x == ("__debug__" : Str)) = false := by decide)
    (h2 : starEach (e :: es) X.env = (false, eval e X.env) :: starEach es X.env := by rfl) (h3 : (backTo pos (starEach es X.env)).any (·.1) = false := by rfl) :
    PE X (.Call (.Name x p) (e :: es) [] pos) (tCallS sp (WE W) t) := by
  obtain ⟨f, fd, F, hm, kp, b⟩ := C.ex
  exact pe_callS F (hr.mono hk) hg hm kp b (fun σ => passAt tk σ) ha h1 h2 h3
theorem i_cS {E : L2.St → XK} {σ : L2.St} {H : Hp} {Q : VK} (h : t σ H fun vs H1 => sp vs H1 Q (E σ)) : tCallS sp E t σ H Q := h
theorem ps_raiseT {m : Str} {j : Nat} {C : Addr} {bmB : List Value} {B newId initId : String} {p2 p3 : Pos} (hc : X.calm = true) (tk : Takes X W) (F : ExcBaseFacts B newId initId bmB) (q : PySem.W.excIn X.K C bmB newId = true) (gC : X.mg x = some (.ref C)) (kC : PySem.W.keepIn X.K (.ref C) = true)
    (r1 : PySem.W.subIn X.K (.ref C) (.type "BaseException") = some true) (r2 : PySem.W.typeIn X.K (.ref C) = some (.type "type")) (hg : Gl X x := by rfl) (hdb : (x == ("__debug__" : Str)) = false := by decide) :
    PS X (.Raise (some (.Call (.Name x p) [.Constant (.str m) j p2] [] p3)) none pos) (fun _ σ H => W (.ref C) none σ H) :=
  ps_raise hc tk (pmk_own F q gC kC (raises_own r1 r2) hg hdb)
end
end
section
open L2 PySem PySem.Spec PyProof.Rows
structure ClKX (P : Program) (w : World) (K : PySem.W.Frag) (mg : Str → Option Value) (base : Heap) (k : Nat) (x : Str) (ps ks : List Str) (sp : Sp) (gV : List V → List V → List V) : Prop where
  ex : ∃ (f : Addr) (fd : FuncData) (g : List Value → List Value → List Value), FnOk P w K mg base (L2.CX P w) k f fd ps sp ∧ mg x = some (.ref f) ∧ PySem.W.keepIn K (.ref f) = true ∧ KBinds K fd ps ks g gV
structure DkX (K : PySem.W.Frag) (mg : Str → Option Value) (x : String) (st : Stmt) (ps ks : List Str) (gV : List V → List V → List V) : Prop where
  ex : ∃ (f : Addr) (fd : FuncData) (g : List Value → List Value → List Value), Fun K x x st f fd ∧ mg x = some (.ref f) ∧ KBinds K fd ps ks g gV
section
variable {base : Heap} {P : Program} {w : World} {K : PySem.W.Frag} {mg : Str → Option Value}
theorem DkX.cl {x : String} {st : Stmt} {N ps ks : List Str} {k : Nat} {sp : Sp} {gV : List V → List V → List V} (D : DkX K mg x st ps ks gV) (S : FnScope N ps (defScope st)) (len : ∀ vs H Q E, sp vs H Q E → vs.length = ps.length)
    (bd : ∀ (f : Addr) (cdv : Value) (A : Around) (fr : List Env) (s : Shared) (H : Hp) (vs : List V) (Q : VK) (E : XK), Room k (A.deeper (envOfC x (defScope st) s.heap.objs.size f cdv)) → sp vs H Q E →
      ∃ t, PSs (cxOf (L2.CX P w) P w K mg base N x (defScope st) f cdv A fr s H E) (defBody st) t ∧ t { nx := fun _ H' => Q .non H', rt := Q } (start N vs) H) : ClKX P w K mg base (k + 1) x ps ks sp gV := by
  obtain ⟨f, fd, g, F, hm, b⟩ := D.ex
  exact ⟨f, fd, g, F.okX S len (bd f), hm, F.kp, b⟩
end
section
variable {X : Cx} {k k' : Nat} {ps ks : List Str} {sp : Sp} {W : WX} {x : Str} {p pos : Pos} {kws : List Keyword} {tk : TA} {gV : List V → List V → List V}
def tCallKX (sp : Sp) (gV : List V → List V → List V) (W : WX) (tk : TA) : TE := fun σ H Q => tk σ H fun zs H1 => sp (gV [] zs) H1 Q (fun cls d H' => W cls d σ H')
theorem pe_ckX (C : ClKX X.prog X.w X.K X.mg X.base k x ps ks sp gV) (tw : Takes X W) (hr : Room k' X.A) (hkw : PK X kws tk) (hg : Gl X x := by rfl) (hk : k ≤ k' := by decide) (hall : (backToKw pos (keywordEach kws X.env)).all (·.1.isSome) = true := by rfl)
    (hks : (backToKw pos (keywordEach kws X.env)).filterMap (·.1) = ks := by rfl) (hdb : (x == ("__debug__" : Str)) = false := by decide) (hpl : ((backTo pos (starEach [] X.env)).any (·.1) || (backToKw pos (keywordEach kws X.env)).any (·.1.isNone)) = false := by rfl) :
    PE X (.Call (.Name x p) [] kws pos) (tCallKX sp gV W tk) := by
  obtain ⟨f, fd, g, F, hm, kp, b⟩ := C.ex
  refine ⟨fun pn z σ H Q I h => wpAny_Call_Name_kw (ld_glob I hg hm (PySem.W.callWith_KW0 (h₀ := X.base) I.ok.mod.kin kp hall (thn (hkw.run pos pn z σ H _ I h) fun ws z2 ⟨zs, H2, I2, rz, q2⟩ => ⟨I2.kIn, ?_⟩) hpl) hdb)⟩
  rw [hks]
  have rg := b.rel (vs := []) .nil rz
  have lg : (g [] ws).length = ps.length := rg.length.symm.trans (F.len _ _ _ _ q2)
  refine wpAny_call (codeAny_mono (F.run X.A X.stack z2 H2 ⟨[], ks.zip ws⟩ (g [] ws) (gV [] zs) Q _ (hr.mono hk) I2.env0 (b.to z2 [] ws I2.kIn lg) rg q2) fun out z3 hq => ?_)
  match out, hq with
  | .error u, hq => exact passAt tw σ pn H2 z2 u z3 I2 hq
  | .ok (.ret u), hq => exact I2.after hq
  | .ok .next, hq => exact hq.elim
  | .ok .brk, hq => exact hq.elim
  | .ok .cont, hq => exact hq.elim
theorem i_ckX (h : tk σ H fun zs H1 => sp (gV [] zs) H1 Q (fun cls d H' => W cls d σ H')) : tCallKX sp gV W tk σ H Q := h
end
end
section
open L2 PySem PySem.Spec PyProof.Rows
abbrev bmVal : List Value := [.type "ValueError", .type "Exception", .type "BaseException", .type "object"]
def xcOk (K : PySem.W.Frag) (C : Addr) : Bool := PySem.W.excIn K C bmVal "ValueError.__new__" && PySem.W.keepIn K (.ref C) && decide (PySem.W.subIn K (.ref C) (.type "BaseException") = some true) && decide (PySem.W.typeIn K (.ref C) = some (.type "type"))
structure Xc (K : PySem.W.Frag) (mg : Str → Option Value) (x : Str) (C : Addr) : Prop where
  at_ : mg x = some (.ref C)
  ok : xcOk K C = true
theorem Xc.all {K : PySem.W.Frag} {mg : Str → Option Value} {x : Str} {C : Addr} (h : Xc K mg x C) : PySem.W.excIn K C bmVal "ValueError.__new__" = true ∧ PySem.W.keepIn K (.ref C) = true ∧ PySem.W.subIn K (.ref C) (.type "BaseException") = some true ∧ PySem.W.typeIn K (.ref C) = some (.type "type") := by
  have z := h.ok
  unfold xcOk at z
  simp only [Bool.and_eq_true, decide_eq_true_eq] at z
  exact ⟨z.1.1.1, z.1.1.2, z.1.2, z.2⟩
section
variable {X : Cx} {W : WX} {x : Str} {C : Addr}
theorem ps_raiseX {m : Str} {j : Nat} {p p2 p3 pos : Pos} (h : Xc X.K X.mg x C) (tk : Takes X W) (hc : X.calm = true := by rfl) (hg : Gl X x := by rfl) (hdb : (x == ("__debug__" : Str)) = false := by decide) :
    PS X (.Raise (some (.Call (.Name x p) [.Constant (.str m) j p2] [] p3)) none pos) (fun _ σ H => W (.ref C) none σ H) :=
  have z := h.all
  ps_raiseT hc tk PySem.F.excBase_ValueError z.1 h.at_ z.2.1 z.2.2.1 z.2.2.2 hg hdb
end
end
section
open L2 PySem PySem.Spec PyProof.Rows
def rIsX (K : PySem.W.Frag) (cls : Value) (a : Addr) (d : Option Addr) : List V → Hp → VK → Prop := fun xs H Q => ∃ (D : Addr) (c : V) (cv : Value) (b : Bool), cls = .ref D ∧ d = none ∧ ExcC K D ∧ xs = [.ref a, c] ∧ (∀ u, RelV c u → u = cv) ∧ PySem.W.kitOne K (.ref D) cv = some b ∧ Q (.bl b) H
theorem call_isX {X : Cx} {a : Addr} {cls : Value} {oe : Obj} {d : Option Addr} {pn : List (Addr × Obj)} (hz : Zc cls d oe) (hf : ∃ vs, oe.data = .fields vs) : CallR (X.suite a ((a, oe) :: pn)) (.builtin "isinstance") (rIsX X.K cls a d) := by
  rintro pins s σ H xs us Q I r ⟨D, c, cv, b, rfl, rfl, hC, rfl, hcv, e, q⟩
  exact call_isE hC hz hf pins s σ H _ us Q I r ⟨c, cv, b, rfl, hcv, e, q⟩
theorem pe_cls {X : Cx} {x : Str} {C : Addr} {pos : Pos} (h : Xc X.K X.mg x C) (hg : Gl X x := by rfl) (hd : (x == ("__debug__" : Str)) = false := by decide) : PE X (.Name x pos) (tC (.ref C)) := pe_glob hg h.at_ rfl hd
end
section
open L2 PySem PySem.Spec PyProof.Rows
theorem f_zip {K : PySem.W.Frag} {a b : Addr} {g : TG} {tb : TS} {n : L2.St → Hp → Prop} {r : VK} {bk ct : L2.St → Hp → Prop} {σ : L2.St} {H : Hp} (xs ys : List V) (hl : xs.length = ys.length) (Pv : Nat → L2.St → Hp → Prop) (h0 : Pv 0 σ H) (ha : ∀ i σ H, Pv i σ H → SqT K H a xs ∧ SqT K H b ys)
    (hs : ∀ i x y σ H T, xs[i]? = some x → ys[i]? = some y → Pv i σ H → H T = none → g (.ref T) σ (upd H T (.tup [x, y])) fun σ2 H2 => tb ⟨Pv (i + 1), r, n, Pv (i + 1)⟩ σ2 H2) (hd : ∀ σ H, Pv xs.length σ H → n σ H) : forK g tb ⟨n, r, bk, ct⟩ σ (RZ.ItzT K a b) H := by
  refine ⟨fun i m σ H => m = xs.length - i ∧ i ≤ xs.length ∧ Pv i σ H, ⟨xs.length, by simp, Nat.zero_le _, h0⟩, ?_⟩
  rintro i m σ H ⟨rfl, hi, p⟩
  obtain ⟨qa, qb⟩ := ha i σ H p
  by_cases lt : i < xs.length
  · have lt2 : i < ys.length := by omega
    refine .inr ⟨⟨xs, ys, xs[i], ys[i], qa, qb, by simp [lt], by simp [lt2]⟩, Pv (i + 1), fun σ' H' p' => ⟨xs.length - (i + 1), by omega, rfl, lt, p'⟩, fun v H' y => ?_⟩
    obtain ⟨T, x, z, rfl, nT, rfl, hx, hz⟩ := y
    exact hs i x z σ H T (hx xs qa) (hz ys qb) p nT
  · have e : i = xs.length := by omega
    subst e
    exact .inl ⟨⟨xs, ys, qa, qb, .inl (Nat.le_refl _)⟩, hd σ H p⟩
def isStrOk : PyData → Bool
  | .str z => PyData.strOk z
  | _ => false
def nearX : PyData → Bool
  | .none => true
  | .str z => PyData.strOk z
  | .list zs => decide (zs.length ≤ 4) && zs.all isStrOk
  | _ => false
def nearE : PyData → Bool
  | .tuple es => decide (es.length ≤ 4) && es.all nearX
  | _ => true
def nearT : PyData → Bool
  | .tuple ds => decide (ds.length ≤ 40) && ds.all nearE
  | _ => true
theorem near_hd {d : PyData} (h : nearT d = true) : ∀ ds, d = .tuple ds → ds.length ≤ 1000 ∧ ∀ e ∈ ds, ∀ es, e = .tuple es → es.length ≤ 1000 ∧ ∀ z, PyData.str z ∈ es → PyData.strOk z = true := by
  rintro ds rfl
  have h' : (decide (ds.length ≤ 40) && ds.all nearE) = true := h
  rw [Bool.and_eq_true, decide_eq_true_iff] at h'
  refine ⟨by omega, fun e he es ee => ?_⟩
  subst ee
  have h2 : (decide (es.length ≤ 4) && es.all nearX) = true := List.all_eq_true.mp h'.2 _ he
  rw [Bool.and_eq_true, decide_eq_true_iff] at h2
  exact ⟨by omega, fun z hz => List.all_eq_true.mp h2.2 _ hz⟩
section
variable {K : PySem.W.Frag} {H H' : Hp} {a : Addr}
theorem strs_dp : ∀ {zs : List PyData} {xs : List V}, zs.all isStrOk = true → ObAll K H a xs zs → DpAll K H xs zs ∧ PyData.canLayAll0 zs = true ∧ PyData.depthAll zs = 0
  | [], _, _, .nil => ⟨.nil, rfl, rfl⟩
  | d :: zs, _, h, .cons o t => by
    rw [List.all_cons, Bool.and_eq_true] at h
    obtain ⟨h1, h2, h3⟩ := strs_dp h.2 t
    have h0 : isStrOk d = true := h.1
    cases d with
    | str z =>
      cases o
      refine ⟨.cons (.str z) h1, ?_, ?_⟩
      · show (PyData.strOk z && PyData.canLayAll0 zs) = true
        rw [h2, show PyData.strOk z = true from h.1]
        rfl
      · show max 0 (PyData.depthAll zs) = 0
        rw [h3]
        rfl
    | _ => cases h0
theorem near_x {d : PyData} {x : V} (h : nearX d = true) (o : Ob K H a x d) : Dp K H x d ∧ d.canLay0 = true ∧ d.depth ≤ 1 := by
  cases d with
  | none =>
    cases o
    exact ⟨.non, rfl, Nat.zero_le _⟩
  | str z =>
    cases o
    exact ⟨.str z, h, Nat.zero_le _⟩
  | list zs =>
    have h' : (decide (zs.length ≤ 4) && zs.all isStrOk) = true := h
    rw [Bool.and_eq_true] at h'
    cases o with
    | lst e n al =>
      obtain ⟨h1, h2, h3⟩ := strs_dp h'.2 al
      refine ⟨.lst (sq_lst e) h1, h2, ?_⟩
      show PyData.depthAll zs + 1 ≤ 1
      omega
  | _ => cases h
theorem near_xs : ∀ {es : List PyData} {xs : List V}, es.all nearX = true → ObAll K H a xs es → DpAll K H xs es ∧ PyData.canLayAll0 es = true ∧ PyData.depthAll es ≤ 1
  | [], _, _, .nil => ⟨.nil, rfl, Nat.zero_le _⟩
  | d :: es, _, h, .cons o t => by
    rw [List.all_cons, Bool.and_eq_true] at h
    obtain ⟨h1, h2, h3⟩ := near_xs h.2 t
    obtain ⟨g1, g2, g3⟩ := near_x h.1 o
    refine ⟨.cons g1 h1, ?_, ?_⟩
    · show (d.canLay0 && PyData.canLayAll0 es) = true
      rw [h2, g2]
      rfl
    · show max d.depth (PyData.depthAll es) ≤ 1
      omega
theorem near_e {es : List PyData} {x : V} (h : nearE (.tuple es) = true) (o : Ob K H a x (.tuple es)) : Dp K H x (.tuple es) ∧ SeqAt.shaped (.tuple es) = true := by
  have h' : (decide (es.length ≤ 4) && es.all nearX) = true := h
  rw [Bool.and_eq_true] at h'
  cases o with
  | tup s al =>
    obtain ⟨h1, h2, h3⟩ := near_xs h'.2 al
    refine ⟨.tup s h1, ?_⟩
    show (PyData.canLayAll0 es && decide (PyData.depthAll es + 1 ≤ 64)) = true
    rw [h2, decide_eq_true (by omega)]
    rfl
def NX (K : PySem.W.Frag) (H : Hp) (a : Addr) (x : V) : Prop := ∃ d, Ob K H a x d ∧ nearX d = true
def NE (K : PySem.W.Frag) (H : Hp) (a : Addr) (x : V) : Prop := ∃ d, Ob K H a x d ∧ nearE d = true
def NT (K : PySem.W.Frag) (H : Hp) (a : Addr) (x : V) : Prop := ∃ d, Ob K H a x d ∧ nearT d = true
def NEs (K : PySem.W.Frag) (H : Hp) (a : Addr) (xs : List V) : Prop := ∀ x ∈ xs, NE K H a x
theorem NE.same {x : V} (h : NE K H a x) (k : Same H H') : NE K H' a x := let ⟨d, o, n⟩ := h; ⟨d, o.same k, n⟩
theorem NT.same {x : V} (h : NT K H a x) (k : Same H H') : NT K H' a x := let ⟨d, o, n⟩ := h; ⟨d, o.same k, n⟩
theorem NEs.same {xs : List V} (h : NEs K H a xs) (k : Same H H') : NEs K H' a xs := fun x hx => (h x hx).same k
theorem NE.ch {x : V} {c : Int} (h : NE K H a x) (k : Ch a H H') (f : Fd H a c) : NE K H' a x := let ⟨d, o, n⟩ := h; ⟨d, o.ch k f, n⟩
theorem NT.ch {x : V} {c : Int} (h : NT K H a x) (k : Ch a H H') (f : Fd H a c) : NT K H' a x := let ⟨d, o, n⟩ := h; ⟨d, o.ch k f, n⟩
theorem NEs.ch {xs : List V} {c : Int} (h : NEs K H a xs) (k : Ch a H H') (f : Fd H a c) : NEs K H' a xs := fun x hx => (h x hx).ch k f
theorem NEs.take {xs : List V} (h : NEs K H a xs) (n : Nat) : NEs K H a (xs.take n) := fun x hx => h x (List.mem_of_mem_take hx)
theorem NEs.drop {xs : List V} (h : NEs K H a xs) (n : Nat) : NEs K H a (xs.drop n) := fun x hx => h x (List.mem_of_mem_drop hx)
theorem NEs.rev {xs : List V} (h : NEs K H a xs) : NEs K H a xs.reverse := fun x hx => h x (List.mem_reverse.mp hx)
theorem NEs.app {xs ys : List V} (h : NEs K H a xs) (k : NEs K H a ys) : NEs K H a (xs ++ ys) := fun x hx => (List.mem_append.mp hx).elim (h x) (k x)
theorem NEs.one {x : V} (h : NE K H a x) : NEs K H a [x] := fun y hy => by rw [List.mem_singleton.mp hy]; exact h
theorem NEs.perm {xs ys : List V} (h : NEs K H a xs) (p : ys.Perm xs) : NEs K H a ys := fun x hx => h x (p.mem_iff.mp hx)
theorem nx_str {z : Str} (h : PyData.strOk z = true) : NX K H a (.str z) := ⟨_, .str z, h⟩
theorem nx_none : NX K H a .non := ⟨_, .non, rfl⟩
theorem nx_list {p : Addr} {z : Str} (e : H p = some (.lst [.str z])) (n : p ≠ a) (h : PyData.strOk z = true) : NX K H a (.ref p) := ⟨.list [.str z], .lst e n (.cons (.str z) .nil), by
  show (true && (PyData.strOk z && true)) = true
  rw [h]
  rfl⟩
theorem nx_all : ∀ {xs : List V}, (∀ x ∈ xs, NX K H a x) → ∃ es, ObAll K H a xs es ∧ es.all nearX = true
  | [], _ => ⟨[], .nil, rfl⟩
  | x :: xs, h => by
    obtain ⟨d, o, n⟩ := h x List.mem_cons_self
    obtain ⟨es, al, ns⟩ := nx_all fun y hy => h y (List.mem_cons_of_mem _ hy)
    exact ⟨d :: es, .cons o al, by rw [List.all_cons, n, ns]; rfl⟩
theorem ne_all : ∀ {xs : List V}, NEs K H a xs → ∃ es, ObAll K H a xs es ∧ es.all nearE = true
  | [], _ => ⟨[], .nil, rfl⟩
  | x :: xs, h => by
    obtain ⟨d, o, n⟩ := h x List.mem_cons_self
    obtain ⟨es, al, ns⟩ := ne_all (xs := xs) fun y hy => h y (List.mem_cons_of_mem _ hy)
    exact ⟨d :: es, .cons o al, by rw [List.all_cons, n, ns]; rfl⟩
theorem ne_tup {p : Addr} {xs : List V} (s : SqT K H p xs) (h : ∀ x ∈ xs, NX K H a x) (hl : xs.length ≤ 4) : NE K H a (.ref p) := by
  obtain ⟨es, al, n⟩ := nx_all h
  refine ⟨_, .tup s al, ?_⟩
  show (decide (es.length ≤ 4) && es.all nearX) = true
  rw [n, decide_eq_true (by have := ObAll.len al; omega)]
  rfl
theorem nt_tup {p : Addr} {xs : List V} (s : SqT K H p xs) (h : NEs K H a xs) (hl : xs.length ≤ 40) : NT K H a (.ref p) := by
  obtain ⟨es, al, n⟩ := ne_all h
  refine ⟨_, .tup s al, ?_⟩
  show (decide (es.length ≤ 40) && es.all nearE) = true
  rw [n, decide_eq_true (by have := ObAll.len al; omega)]
  rfl
theorem ne_list {p : Addr} {xs : List V} (e : H p = some (.lst xs)) (n : p ≠ a) (h : NEs K H a xs) : NE K H a (.ref p) := let ⟨_, al, _⟩ := ne_all h; ⟨_, .lst e n al, rfl⟩
theorem nt_list {p : Addr} {xs : List V} (e : H p = some (.lst xs)) (n : p ≠ a) (h : NEs K H a xs) : NT K H a (.ref p) := let ⟨_, al, _⟩ := ne_all h; ⟨_, .lst e n al, rfl⟩
theorem ne_none : NE K H a .non := ⟨_, .non, rfl⟩
theorem ne_int (i : Int) : NE K H a (.int i) := ⟨_, .int i, rfl⟩
theorem ne_str (z : Str) : NE K H a (.str z) := ⟨_, .str z, rfl⟩
theorem ne_dict {p : Addr} (e : H p = some (.dK [])) (n : p ≠ a) : NE K H a (.ref p) := ⟨_, .dic e n, rfl⟩
theorem nt_none : NT K H a .non := ⟨_, .non, rfl⟩
theorem nt_bool (b : Bool) : NT K H a (.bl b) := ⟨_, .bl b, rfl⟩
theorem nt_int (i : Int) : NT K H a (.int i) := ⟨_, .int i, rfl⟩
theorem nt_str (z : Str) : NT K H a (.str z) := ⟨_, .str z, rfl⟩
theorem nt_dict {p : Addr} (e : H p = some (.dK [])) (n : p ≠ a) : NT K H a (.ref p) := ⟨_, .dic e n, rfl⟩
theorem ne_road {x : V} {r : Str × Str} (h : Dp K H x (roadD r)) (n1 : PyData.strOk r.1 = true) (n2 : PyData.strOk r.2 = true) : NE K H a x := by
  cases h with
  | tup s al =>
    refine ⟨.tuple [.str r.1, .str r.2], .tup s (ObAll.of _ _ rfl al), ?_⟩
    show (true && (PyData.strOk r.1 && (PyData.strOk r.2 && true))) = true
    rw [n1, n2]
    rfl
theorem ne_roads : ∀ {xs : List V} {l : List (Str × Str)}, DpAll K H xs (l.map roadD) → (∀ r ∈ l, PyData.strOk r.1 = true ∧ PyData.strOk r.2 = true) → NEs K H a xs
  | _, [], .nil, _ => fun x hx => absurd hx List.not_mem_nil
  | _, r :: l, .cons h t, k => fun x hx => by
    rcases List.mem_cons.mp hx with rfl | hx
    · exact ne_road h (k r List.mem_cons_self).1 (k r List.mem_cons_self).2
    · exact ne_roads t (fun q hq => k q (List.mem_cons_of_mem _ hq)) x hx
theorem strOk_add {x y : Str} (h : PyData.strOk x = true) (k : PyData.strOk y = true) : PyData.strOk (x ++ y) = true := by
  show (x ++ y).cps.all _ = true
  have e : (x ++ y).cps = x.cps ++ y.cps := rfl
  rw [e, Array.all_append, show x.cps.all _ = true from h, show y.cps.all _ = true from k]
  rfl
end
def ArrL (rs l : List (Str × Str)) : Prop := l.length = rs.length ∧ ∀ i, i < rs.length → l.getD i ("", "") = rs.getD i ("", "") ∨ l.getD i ("", "") = swp (rs.getD i ("", ""))
def spDrawnA (K : PySem.W.Frag) : Sp := fun vs H Q _ => ∃ (a : Addr) (v : V) (c : Int) (ps : List Str) (rs : List (Str × Str)), vs = [.ref a, v] ∧ Fd H a c ∧ c < 10 ^ 14 ∧ Dp K H v (webD ps rs) ∧ IsWeb ps rs ∧
  ∀ (T : Addr) (l : List (Str × Str)) (H' : Hp), ArrL rs l → Dp K H' (.ref T) (rsD l) → Fd H' a (c + 100) → Ch a H H' → Q (.ref T) H'
def spBentA (K : PySem.W.Frag) : Sp := fun vs H Q _ => ∃ (a T : Addr) (v : V) (c : Int) (ps : List Str) (rs l : List (Str × Str)), vs = [.ref a, v, .ref T] ∧ Fd H a c ∧ c < 10 ^ 13 ∧ Dp K H v (webD ps rs) ∧ IsWeb ps rs ∧ Dp K H (.ref T) (rsD l) ∧ ArrL rs l ∧
  ∀ (y : V) (H' : Hp), NT K H' a y → Fd H' a (c + 5000) → Ch a H H' → Q y H'
end
section
open L2 PySem PySem.Spec PyProof.Rows
section
variable {P : Program} {w : World} {A : Around} {E : Value → Shared → Prop} {s : Shared}
theorem sorted_tup {l : Addr} {items : Array Value} {L : List (Addr × List Str)} (hl : s.heap.IsTuple l items) (hi : items.toList = L.map fun p => Value.ref p.1) (hT : ∀ p ∈ L, Tt P w s.heap p.2 p.1) (ne : ∀ p ∈ L, p.2 ≠ []) (hz : L.length ≤ 1000) (hu : A.units + 64 < cLine) {Q : Value → Shared → Prop}
    (q : ∀ (h' : Heap) (p : Addr) (out : List Value) (c : Nat), (∀ b o, s.heap.get? b = some o → h'.get? b = some o) → s.heap.get? p = none → h'.get? p = some (seqObj "list" out.toArray c) →
      out = (L.mergeSort (PySem.W.dataLe false fun p => tsD p.2)).map (fun p => Value.ref p.1) → Q (.ref p) { s with heap := h' }) :
    wpAny (model P w) A (call (.builtin "sorted") [.ref l]) Q E s := by
  obtain ⟨o, ho, hc, n, hd⟩ := hl
  have hL : items.size ≤ sizeLine := by
    rw [← Array.length_toList, hi, List.length_map, sizeLine_eq]
    omega
  refine Calls.call_function_entry kind_sorted plain_sorted entry_sorted (args_sorted1 _) ?_
  unfold Builtin.«sorted»
  refine wpAny_bind (m := checkCount "sorted" 1 1 _) (wpAny_pure (wpAny_bind (wpAny_collect_seq l (.inr rfl) ho hc hd (fun h1 k1 => wpAny_bind (wpAny_newList ?_ ?_)) hL)))
  · rw [hi]
    have g0 : (h1.push (seqObj "list" (L.map fun p => Value.ref p.1).toArray 0)).get? h1.objs.size = some (seqObj "list" (L.map fun p => Value.ref p.1).toArray 0) := Heap.get?_push_size _ rfl
    have tl : ∀ p ∈ L, Tt P w (h1.push (seqObj "list" (L.map fun p => Value.ref p.1).toArray 0)) p.2 p.1 := fun p hp => tt_keep (hT p hp) fun b u e => Heap.get?_push_of_some _ (k1 b u e)
    refine wpAny_bind (wpAny_holding (PySem.W.list_sort_data (s := { s with heap := h1.push (seqObj "list" (L.map fun p => Value.ref p.1).toArray 0) }) (enc := fun p : Addr × List Str => tsD p.2) g0 (each_ref L) (each_refT L tl) (PySem.W.AllAlike.of fun b b' => ts_alike b.2 b'.2) (.inl fun d hd => ?_) (by rw [sizeLine_eq]; omega) (fun b _ => by show A.units + 1 + 1 + (tsD b.2).depth < _; rw [ts_deep]; omega) fun out hlen eo => ?_))
    · obtain ⟨p, hp, rfl⟩ := List.mem_map.mp hd
      have := ne p hp
      show ∃ x r, PyData.tuple (p.2.map PyData.str) = .tuple (x :: r)
      cases c : p.2 with
      | nil => exact absurd c this
      | cons x r => exact ⟨_, _, rfl⟩
    · obtain ⟨c, hc⟩ := sortedHeap_at (vs := L.map fun p => Value.ref p.1) (out := out.toArray) g0
      refine wpAny_pure ⟨_, rfl, q _ h1.objs.size out c (fun b u e => ?_) ?_ hc (refs_each eo)⟩
      · have z := k1 b u e
        have lt := Heap.lt_size z
        show (sortedHeap (h1.push (seqObj "list" (L.map fun p => Value.ref p.1).toArray 0)) h1.objs.size (L.map fun p => Value.ref p.1) out.toArray).get? b = some u
        rw [sortedHeap_old (Nat.ne_of_lt lt) (by rw [size_push']; exact Nat.lt_succ_of_lt lt)]
        exact Heap.get?_push_of_some _ z
      · cases z : s.heap.get? h1.objs.size with
        | none => rfl
        | some o' => exact absurd (Heap.lt_size (k1 _ o' z)) (Nat.lt_irrefl _)
  · rw [Array.length_toList]
    exact hL
end
def rSortedTT (K : PySem.W.Frag) : List V → Hp → VK → Prop := fun vs H Q => ∃ (D : Addr) (L : List (Addr × List Str)), vs = [.ref D] ∧ SqT K H D (L.map fun p => V.ref p.1) ∧ (∀ p ∈ L, SqT K H p.1 (p.2.map V.str)) ∧ (∀ p ∈ L, p.2 ≠ []) ∧ L.length ≤ 1000 ∧
  ∀ p, H p = none → Q (.ref p) (upd H p (.lst ((L.mergeSort (PySem.W.dataLe false fun p => tsD p.2)).map fun p => V.ref p.1)))
section
variable {X : Cx} {K : PySem.W.Frag}
theorem vals_refsT : ∀ {L : List (Addr × List Str)} {its : List Value}, Vals (L.map fun p => V.ref p.1) its → its = L.map fun p => Value.ref p.1
  | [], _, .nil => rfl
  | p :: L, _, .cons h t => by rw [vals_refsT t, show _ = Value.ref p.1 from h]; rfl
theorem cr_sortedTT (hu : X.A.units + 64 < cLine) : CallR X (.builtin "sorted") (rSortedTT X.K) := by
  intro pins s σ H vs us Q I r h
  obtain ⟨D, L, rfl, hD, hk, ne, hz, q⟩ := h
  obtain ⟨its, rv, pl, hz'⟩ := I.tuple hD
  rw [Vals.ref1 r]
  have ei := vals_refsT rv
  subst ei
  refine sorted_tup (L := L) pl (by simp) (fun p hp => tt_of I (hk p hp)) ne hz hu fun h' p out c k n0 g eo => ?_
  have hn : H p = none := I.hok.gone n0
  refine ⟨.ref p, upd H p (.lst _), I.laidN (t' := s.toks) k n0 hn ⟨?_, out, c, by rw [eo]; exact vals_ref1 _, g⟩, rfl, q p hn⟩
  rw [List.length_map, (List.mergeSort_perm L _).length_eq, sizeLine_eq]
  omega
theorem k_sortedTT (hu : X.A.units + 64 < cLine) (hK : X.K = K := by rfl) : CallR X (.builtin "sorted") (rSortedTT K) := by subst hK; exact cr_sortedTT hu
end
theorem roads_L {K : PySem.W.Frag} {H : Hp} : ∀ {xs : List V} {l : List (Str × Str)}, DpAll K H xs (l.map roadD) → ∃ L : List (Addr × List Str), xs = L.map (fun p => V.ref p.1) ∧ (∀ p ∈ L, SqT K H p.1 (p.2.map V.str)) ∧ ∀ p ∈ L, p.2 ≠ []
  | _, [], .nil => ⟨[], rfl, fun p hp => absurd hp List.not_mem_nil, fun p hp => absurd hp List.not_mem_nil⟩
  | _, r :: l, .cons h t => by
    obtain ⟨L, rfl, h1, h2⟩ := roads_L t
    obtain ⟨b, rfl, st⟩ := road_parts h
    refine ⟨(b, [r.1, r.2]) :: L, rfl, fun p hp => ?_, fun p hp => ?_⟩
    · rcases List.mem_cons.mp hp with rfl | hp
      · exact st
      · exact h1 p hp
    · rcases List.mem_cons.mp hp with rfl | hp
      · exact List.cons_ne_nil _ _
      · exact h2 p hp
end
section
open L2 PySem PySem.Spec PyProof.Rows
def gS {α : Type} (us ws : List α) : List α := match us with
  | [] => ws
  | _ :: _ => []
def clsX (K : PySem.W.Frag) (x : Str) : Addr := match PySem.W.nsIn K mainGlobals x with
  | some (some (.ref C)) => C
  | _ => 0
def isClsX (K : PySem.W.Frag) (x : Str) : Bool := decide (PySem.W.nsIn K mainGlobals x = some (some (.ref (clsX K x))))
theorem xc_of {K : PySem.W.Frag} {mg : Str → Option Value} {h : Heap} {x : Str} (X : K.In h) (G : h.Ns mainGlobals mg) (b : isClsX K x = true) (c : xcOk K (clsX K x) = true) : Xc K mg x (clsX K x) := ⟨PySem.W.mg_of X G (of_decide_eq_true b), c⟩
def excCB (K : PySem.W.Frag) (D : Addr) : Bool := decide (PySem.W.findIn K (.ref D) "__getattribute__" = some (some (.builtin "BaseException.__getattribute__"))) && decide (PySem.W.findIn K (.ref D) "__getattr__" = some none) &&
  decide (PySem.W.subIn K (.ref D) (.type "BaseException") = some true) && PySem.W.hasDictIn K D && decide (PySem.W.findIn K (.ref D) "__class__" = some (some (.builtin "object.__class__"))) && decide (PySem.W.specialIn K (.builtin "object.__class__") "__get__" = some (some (.builtin "getset_descriptor.__get__"))) &&
  decide (PySem.W.takesIn K (.builtin "object.__class__") = some true) && decide (PySem.W.mroIn K D (.type "object") = some true)
theorem excC_of {K : PySem.W.Frag} {D : Addr} (h : excCB K D = true) : ExcC K D := by
  unfold excCB at h
  simp only [Bool.and_eq_true, decide_eq_true_eq] at h
  exact ⟨h.1.1.1.1.1.1.1, h.1.1.1.1.1.1.2, h.1.1.1.1.1.2, h.1.1.1.1.2, h.1.1.1.2, h.1.1.2, h.1.2, h.2⟩
def caughtB (K : PySem.W.Frag) (A T : Addr) : Bool := PySem.W.hasDictIn K A && decide (PySem.W.subIn K (.ref A) (.ref A) = some true) && excCB K A && decide (PySem.W.kitOne K (.ref A) (.ref T) = some true) && decide (PySem.W.kitOne K (.ref A) (.type "ValueError") = some true)
theorem caught_of {K : PySem.W.Frag} {A T : Addr} (h : caughtB K A T = true) : PySem.W.hasDictIn K A = true ∧ PySem.W.subIn K (.ref A) (.ref A) = some true ∧ ExcC K A ∧ PySem.W.kitOne K (.ref A) (.ref T) = some true ∧ PySem.W.kitOne K (.ref A) (.type "ValueError") = some true := by
  unfold caughtB at h
  simp only [Bool.and_eq_true, decide_eq_true_eq] at h
  exact ⟨h.1.1.1.1, h.1.1.1.2, excC_of h.1.1.2, h.1.2, h.2⟩
structure Xi (K : PySem.W.Frag) (CA CT : Addr) : Prop where
  has : PySem.W.hasDictIn K CA = true
  self : PySem.W.subIn K (.ref CA) (.ref CA) = some true
  exc : ExcC K CA
  up : PySem.W.kitOne K (.ref CA) (.ref CT) = some true
  val : PySem.W.kitOne K (.ref CA) (.type "ValueError") = some true
theorem xi_of {K : PySem.W.Frag} {A T : Addr} (h : caughtB K A T = true) : Xi K A T := let ⟨a, b, c, d, e⟩ := caught_of h; ⟨a, b, c, d, e⟩
end
section
open L2 PySem PySem.Spec PyProof.Rows
def uniqL (l : List Str) : List Str := l.foldl (fun acc x => if x ∈ acc then acc else acc ++ [x]) []
theorem uniq_snoc (l : List Str) (x : Str) : uniqL (l ++ [x]) = if x ∈ uniqL l then uniqL l else uniqL l ++ [x] := by
  unfold uniqL
  rw [List.foldl_append]
  rfl
theorem uniq_mem : ∀ (n : Nat) (l : List Str), l.length = n → ∀ z, z ∈ uniqL l ↔ z ∈ l
  | 0, l, h, z => by rw [List.length_eq_zero_iff.mp h]; exact Iff.rfl
  | n + 1, l, h, z => by
    obtain ⟨m, x, rfl⟩ : ∃ m x, l = m ++ [x] := ⟨l.dropLast, l.getLast (fun e => by rw [e] at h; cases h), (List.dropLast_concat_getLast _).symm⟩
    rw [List.length_append] at h
    have ih := uniq_mem n m (by have : [x].length = 1 := rfl; omega) 
    rw [uniq_snoc]
    split
    · rename_i c
      rw [ih z, List.mem_append, List.mem_singleton]
      exact ⟨.inl, fun h => h.elim id fun e => by rw [e]; exact (ih x).mp c⟩
    · rw [List.mem_append, List.mem_append, ih z]
theorem mem_uniq {l : List Str} {z : Str} : z ∈ uniqL l ↔ z ∈ l := uniq_mem _ l rfl z
def distN (l : List Str) : Nat := (uniqL l).length
theorem dist_snoc (l : List Str) (x : Str) : distN (l ++ [x]) = if x ∈ l then distN l else distN l + 1 := by
  unfold distN
  rw [uniq_snoc]
  by_cases c : x ∈ l
  · rw [if_pos (mem_uniq.mpr c), if_pos c]
  · rw [if_neg (fun h => c (mem_uniq.mp h)), if_neg c, List.length_append]
    rfl
theorem dist_le : ∀ (n : Nat) (l : List Str), l.length = n → distN l ≤ n ∧ (distN l = n ↔ l.Nodup)
  | 0, l, h => by rw [List.length_eq_zero_iff.mp h]; exact ⟨Nat.le_refl _, fun _ => List.nodup_nil, fun _ => rfl⟩
  | n + 1, l, h => by
    obtain ⟨m, x, rfl⟩ : ∃ m x, l = m ++ [x] := ⟨l.dropLast, l.getLast (fun e => by rw [e] at h; cases h), (List.dropLast_concat_getLast _).symm⟩
    rw [List.length_append] at h
    obtain ⟨i1, i2⟩ := dist_le n m (by have : [x].length = 1 := rfl; omega)
    rw [dist_snoc, List.nodup_append]
    split
    · rename_i c
      refine ⟨by omega, fun e => by omega, fun e => absurd rfl (e.2.2 x c x (List.mem_singleton.mpr rfl))⟩
    · rename_i c
      refine ⟨by omega, fun e => ⟨i2.mp (by omega), (List.nodup_cons.mpr ⟨List.not_mem_nil, List.nodup_nil⟩), fun y hy z hz ez => ?_⟩, fun e => by rw [i2.mpr e.1]⟩
      rw [List.mem_singleton.mp hz] at ez
      rw [ez] at hy
      exact c hy
abbrev TxD (P : Program) (w : World) (h : Heap) (a : Addr) (xs : List Str) : Prop := h.SetOf (PySem.strKind P w) a (fun k => decide (k ∈ xs)) (distN xs)
theorem TxD.at {P : Program} {w : World} {h h' : Heap} {a : Addr} {xs : List Str} (z : TxD P w h a xs) (k : ∀ o, h.get? a = some o → h'.get? a = some o) : TxD P w h' a xs :=
  let ⟨o, es, ep, t, g, r⟩ := z
  ⟨o, es, ep, t, k o g, r⟩
section
variable {P : Program} {w : World} {A : Around} {R : Result → Shared → Prop} {I : Addr} {fp wr : List Addr} {G : Array GenState → Array GenState → Prop} {n : Nat} {Pv : Nat → Value → Prop} {St : Nat → Shared → Prop}
theorem fill_textsD (W : WalksS P w A.in1 I fp wr G n Pv St) (S : Addr) (nS : S ∉ fp) (xs : List Str) (hl : xs.length = n) (hb : n + 1 < scanBound) (hv : ∀ i v, Pv i v → ∃ z t, xs[i]? = some z ∧ v = .str z t) :
    ∀ (m i : Nat) (s : Shared), n - i = m → i ≤ n → St i s → TxD P w s.heap S (xs.take i) → (∀ s', Moved (S :: wr) G s s' → TxD P w s'.heap S xs → R (.ok (.ret .none)) s') →
      codeAny (model P w) A (.builtin "set.update.loop" ⟨[.ref S, .ref I], []⟩) R s := by
  have nw : S ∉ wr := fun z => nS (W.sub _ z)
  have up : ∀ b ∈ wr, b ∈ S :: wr := fun b hb => .tail _ hb
  intro m
  induction m with
  | zero =>
    intro i s hm hi st z q
    have e : i = n := by omega
    refine codeAny_builtin PyProof.Rows.F.entry_set_update_loop ?_
    rw [Around.under_plainId PyProof.Rows.F.plain_set_update_loop _]
    show wpAny _ A.in1 (pyNext (.ref I) >>= _) _ _ s
    rw [e] at st z
    refine wpAny_bind (W.done s _ _ st fun s' mv => ?_)
    show wpAny _ A.in1 (ret Value.none) _ _ s'
    rw [← hl, List.take_length] at z
    exact wpAny_pure (q s' (mv.mono up) (z.at fun o g => mv.heap S o nw g))
  | succ m ih =>
    intro i s hm hi st z q
    have lt : i < n := by omega
    refine codeAny_builtin PyProof.Rows.F.entry_set_update_loop ?_
    rw [Around.under_plainId PyProof.Rows.F.plain_set_update_loop _]
    show wpAny _ A.in1 (pyNext (.ref I) >>= _) _ _ s
    refine wpAny_bind (W.item i s _ _ lt st fun v s' pv st' mv => ?_)
    obtain ⟨x, tk, hx, rfl⟩ := hv i v pv
    have z' : TxD P w s'.heap S (xs.take i) := z.at fun o g => mv.heap S o nw g
    have ln : (xs.take i).length = i := by rw [List.length_take]; omega
    have ld := (dist_le i (xs.take i) ln).1
    show wpAny _ A.in1 (holding [Value.str x tk] (setAdd S (.str x tk)) >>= _) _ _ s'
    refine wpAny_bind (wpAny_holding ?_)
    unfold setAdd
    refine wpAny_holding (wpAny_bind ((PySem.strKind P w).pyHash (k := x) (PySem.strKind_is _ _ _ _) ?_))
    refine wpAny_setAddHashed_of (knd := PySem.strKind P w) (s := { s' with toks := s'.toks + 1 }) (PySem.strKind_is _ _ _ _) rfl z' (by omega) fun h' sb z2 => ?_
    have z3 : TxD P w h' S (xs.take (i + 1)) := by
      have tk1 : xs.take (i + 1) = xs.take i ++ [x] := by rw [List.take_succ, hx]; rfl
      have tk2 : distN (xs.take (i + 1)) = if x ∈ xs.take i then distN (xs.take i) else distN (xs.take i) + 1 := by
        rw [List.take_succ, hx]
        exact dist_snoc _ _
      have tk1 : xs.take (i + 1) = xs.take i ++ [x] := by rw [List.take_succ, hx]; rfl
      refine SetOf_congr z2 (fun k => ?_) (by rw [tk2]; simp)
      rw [tk1]
      by_cases e : k = x <;> simp [e]
    refine wpAny_pure ⟨plainId_quiet PyProof.Rows.F.plain_set_update_loop _, ih (i + 1) _ (by omega) lt (W.frame _ s' _ _ st' (Nat.le_succ _) fun b hb o e => (sb.2 b fun h => nS (h ▸ hb)).trans e) z3 fun s2 mv2 z4 => q s2 (Moved.trans W.gtrans ((mv.mono up).then_heap (Nat.le_succ _) fun b o hb e => (sb.2 b fun h => hb (h ▸ .head _)).trans e) mv2) z4⟩
end
section
variable {P : Program} {w : World} {A : Around} {E : Value → Shared → Prop} {s : Shared}
theorem call_set_textsD {l : Addr} {items : Array Value} {xs : List Str} {Q : Value → Shared → Prop} (hh : A.handled = none) (hl : s.heap.IsTuple l items) (hi : StrsAre items.toList xs) (hb : xs.length + 1 < scanBound)
    (q : ∀ (h' : Heap) (tk : Nat), TxD P w h' s.heap.objs.size xs → (∀ b o, b < s.heap.objs.size → s.heap.get? b = some o → h'.get? b = some o) → Q (.ref s.heap.objs.size) { s with heap := h', toks := tk }) :
    wpAny (model P w) A (call (.type "set") [.ref l]) Q E s := by
  have c1 := PySem.F.called_set.made
  have c2 := PySem.F.called_set.sub
  have c3 := PySem.F.called_set.notType
  have c4 := PySem.F.called_set.canCreate
  have c5 := PySem.F.typeCall_set_1 (.ref l)
  obtain ⟨_, _, c6⟩ := PySem.F.called_set.mro
  refine wpAny_call (codeAny_of_tree ?_)
  show wpAny _ _ (callAny (.type "set") _) _ _ _
  refine wpAny_pure ⟨Code.quiet_builtin _ (by decide +kernel), codeAny_builtin PySem.F.entry_type_call ?_⟩
  rw [Around.under_plain (weight_type_call_type "set" [.ref l] []) rfl]
  repeat (any_goals (first | assumption | wp_step))
  refine codeAny_mono (code_set_new_1 (.ref l) (E := E) (Q₁ := fun v z => ∃ led : Bool, v = .ref s.heap.objs.size ∧ z = { s with heap := s.heap.push (eset led) }) fun led => ⟨led, rfl, rfl⟩) fun r z hr => ?_
  cases r with
  | error e => exact hr
  | ok fl =>
   cases fl with
   | ret obj =>
    obtain ⟨led, rfl, rfl⟩ := hr
    have g0 : (s.heap.push (eset led)).get? s.heap.objs.size = some (eset led) := Heap.get?_push_size _ rfl
    have ty : Shared.TypeIs { s with heap := s.heap.push (eset led) } (.ref s.heap.objs.size) "set" := ⟨_, g0, rfl⟩
    have d1 := PySem.F.called_set.init.lookup
    have d2 := PySem.F.called_set.init.bind (.ref s.heap.objs.size)
    repeat (any_goals (first | assumption | wp_step))
    refine codeAny_mono (codeAny_call_builtin (R := wants (fun v z => v = .none ∧ ∃ h' tk, z = { s with heap := h', toks := tk } ∧ TxD P w h' s.heap.objs.size xs ∧ ∀ b o, b < s.heap.objs.size → s.heap.get? b = some o → h'.get? b = some o) E) PySem.F.called_set.init.plain PySem.F.entry_set_init (check_set_init_1 ty ?_)) fun r z hr => ?_
    · obtain ⟨⟨cl, di, da, sl⟩, hol, hcl, nl, hdl⟩ := hl
      simp only at hcl hdl
      subst hcl hdl
      have hol' : (s.heap.push (eset led)).get? l = some { cls := .type "tuple", dict := di, data := .seq items nl, slots := sl } := Heap.get?_push_of_some _ hol
      have f1 := PySem.F.sub_tuple_set
      have f2 := PySem.F.sub_tuple_frozenset
      have f3 : (Value.type "tuple" == Value.type "dict") = false := by decide
      have hl1 : (s.heap.push (eset led)).IsTuple l items := ⟨_, hol', rfl, nl, rfl⟩
      unfold Builtin.«set.__init__» noKeywords Builtin.Frozenset.updateFrom
      generalize hPI : pyIter = PI
      wp_walk
      subst hPI
      refine wpAny_pyIter_tuple hl1 (wpAny_bind (wpAny_runValue ?_))
      have lt : l < s.heap.objs.size := Heap.lt_size hol
      have sz : (s.heap.push (eset led)).objs.size = s.heap.objs.size + 1 := Heap.size_push ..
      have ne : l ≠ (s.heap.push (eset led)).objs.size := by rw [sz]; exact Nat.ne_of_lt (Nat.lt_succ_of_lt lt)
      have nS : s.heap.objs.size ∉ [(s.heap.push (eset led)).objs.size, l] := by
        rw [sz]
        simp only [List.mem_cons, List.not_mem_nil, or_false, not_or]
        exact ⟨Nat.ne_of_lt (Nat.lt_succ_self _), Nat.ne_of_gt lt⟩
      have len : xs.length = items.size := by rw [← StrsAre.len_eq hi, Array.length_toList]
      have at_ : ∀ (i : Nat) (v : Value), items[i]? = some v → ∃ z t, xs[i]? = some z ∧ v = .str z t := fun i v hv => by
        obtain ⟨t, e⟩ := SS.strs_at hi i v (by rw [Array.getElem?_toList]; exact hv)
        have hlt : i < xs.length := by
          rw [len]
          exact (Array.getElem?_eq_some_iff.mp hv).1
        refine ⟨xs[i], t, List.getElem?_eq_getElem hlt, ?_⟩
        rw [e, List.getD_eq_getElem?_getD, List.getElem?_eq_getElem hlt]
        rfl
      refine fill_textsD ((Walks.tuple (by simp [hh]) _ l ne items).toS) s.heap.objs.size nS xs len (by rw [← len]; exact hb) at_ (items.size - 0) 0 _ (by omega) (Nat.zero_le _) ⟨⟨_, Heap.get?_push_size _ rfl, rfl, rfl⟩, (hl1.push _)⟩ ?_ fun s' mv z => ?_
      · exact SetOf_congr ((setObjOf_fresh (knd := PySem.strKind P w) led).setOf (Heap.get?_push_of_some _ g0) (by unfold scanBound; omega)) (fun _ => by simp) rfl
      · obtain ⟨h', g', d', tk', os'⟩ := s'
        obtain rfl : g' = s.gens := mv.gens
        obtain rfl : d' = s.drawn := mv.drawn
        obtain rfl : os' = s.os := mv.os
        show wpAny _ _ _ _ _ _
        refine wpAny_pure ?_
        show wpAny _ _ (ret Value.none) _ _ _
        refine wpAny_pure ⟨rfl, h', tk', rfl, z, fun b o hb e => mv.heap b o ?_ (Heap.get?_push_of_some _ (Heap.get?_push_of_some _ e))⟩
        rw [sz]
        simp only [List.mem_cons, List.not_mem_nil, or_false, not_or]
        exact ⟨Nat.ne_of_lt hb, Nat.ne_of_lt (Nat.lt_succ_of_lt hb)⟩
    · cases r with
      | error e => exact hr
      | ok fl =>
       cases fl with
       | ret v =>
        obtain ⟨rfl, h', tk, rfl, z, k⟩ := hr
        repeat (any_goals (first | assumption | wp_step))
        exact q _ _ z k
       | _ => exact hr.elim
   | _ => exact hr.elim
end
section
variable {X : Cx}
def TxsDO (P : Program) (w : World) (a : Addr) (xs : List Str) : HO := .ext fun h => TxD P w h a xs
def rSetTextsD (K : PySem.W.Frag) (P : Program) (w : World) : List V → Hp → VK → Prop := fun vs H Q => ∃ (l : Addr) (xs : List Str), vs = [.ref l] ∧ SqT K H l (xs.map V.str) ∧ xs.length < 60 ∧ ∀ D, H D = none → Q (.ref D) (upd H D (TxsDO P w D xs))
theorem cr_setTextsD (hc : X.calm = true) : CallR X (.type "set") (rSetTextsD X.K X.prog X.w) := by
  intro pins s σ H vs us Q I r h
  obtain ⟨l, xs, rfl, hl, lt, q⟩ := h
  rw [Vals.ref1 r]
  obtain ⟨its, rv, pl, hz⟩ := I.tuple hl
  refine call_set_textsD (I.ok.hd hc) pl (by simpa using strsAre_of rv) (by unfold scanBound; omega) fun h' tk z k => ?_
  refine ⟨.ref s.heap.objs.size, upd H s.heap.objs.size (TxsDO X.prog X.w s.heap.objs.size xs), I.laid (t' := tk) (fun b o e => k b o (Heap.lt_size e) e) (Nat.le_refl _) ⟨z, ?_, fun h1 h2 z k => TxD.at z k⟩, rfl, q _ (I.hok.fresh (Nat.le_refl _))⟩
  obtain ⟨o, _, _, _, g, _⟩ := z
  exact ⟨o, g⟩
def rLenTextsD (P : Program) (w : World) : List V → Hp → VK → Prop := fun vs H Q => ∃ (D : Addr) (xs : List Str), vs = [.ref D] ∧ H D = some (TxsDO P w D xs) ∧ Q (.int (distN xs)) H
theorem cr_lenTextsD : CallR X (.builtin "len") (rLenTextsD X.prog X.w) := by
  intro pins s σ H vs us Q I r h
  obtain ⟨D, xs, rfl, hD, q⟩ := h
  rw [Vals.ref1 r]
  obtain ⟨o, es, ep, t, ho, hex, hd, _, _, hlt, hf, hn⟩ : TxD X.prog X.w s.heap D xs := (I.hok D _ hD).1
  refine call_len_set ho hex hd hf ?_ ⟨.int (distN xs), H, I.tok _, ⟨_, by rw [hn]⟩, q⟩
  unfold scanBound at hlt
  omega
end
end
section
open L2 PySem PySem.Spec PyProof.Rows
open PySem PySem.W PySem.Spec PyProof.Rows L2
section
variable {prog : Program} {w : World} {A : Around} {E : Value → Shared → Prop} {s : Shared}
theorem callListZipT {Q : Value → Shared → Prop} {t l b : Addr} {xs ys : Array Value} (hh : A.handled = none) (ht : s.heap.IsTuple t xs) (hl : s.heap.IsTuple l ys) (lt : t < b) (ll : l < b) (b5 : s.heap.objs.size = b + 5)
    (hz : IsZip s.heap (b + 4) (b + 2) (b + 3) .none) (hI : IsTupOf2 s.heap (b + 2) (.ref b) (.ref (b + 1))) (hO : IsTupOf2 s.heap (b + 3) .none .none) (h1 : s.heap.IsTupleIter b t 0) (h2 : s.heap.IsTupleIter (b + 1) l 0)
    (p0 : 0 < xs.size) (p1 : xs.size ≤ ys.size) (p2 : xs.size ≤ 1000)
    (q : ∀ g tk acc c as, (∀ a o, a < b → s.heap.get? a = some o → g.get? a = some o) → g.get? (b + 5) = some { cls := .type "list", dict := none, data := .seq acc c, slots := #[] } → as.length = xs.size →
      PairsAt (fun j v => xs[j]? = some v) (fun j v => ys[j]? = some v) (b + 5) g as → acc.toList = as.map Value.ref → Q (.ref (b + 5)) { s with heap := g, toks := tk }) :
    wpAny (model prog w) A (call (.type "list") [.ref (b + 4)]) Q E s := by
  refine callType_codes (Q₁ := fun r s₁ => r = .ref s.heap.objs.size ∧ s₁ = { s with heap := s.heap.push { cls := .type "list", data := .seq #[] } }) F.called_list (F.typeCall_list_1 _) F.entry_list_init
    (code_list_new _ ⟨rfl, rfl⟩) fun r s₁ e₁ => ?_
  obtain ⟨rfl, rfl⟩ := e₁
  have hS : (s.heap.push { cls := .type "list", data := .seq #[] }).get? s.heap.objs.size = some { cls := .type "list", data := .seq #[] } := Heap.get?_push_size _ rfl
  have up : ∀ a o, s.heap.get? a = some o → (s.heap.push { cls := .type "list", data := .seq #[] }).get? a = some o := fun a o e => Heap.get?_push_of_some _ e
  rw [b5] at hS ⊢
  refine ⟨⟨_, hS, rfl⟩, F.args_list_init_2 _ _, ?_⟩
  refine keptInit (A := A.in1) (s := { s with heap := s.heap.push { cls := .type "list", data := .seq #[] } }) (apart5 lt ll) (Draws.tuple (A := A.in1.in1.in1) hh b t (Nat.ne_of_lt lt) xs) (Draws.tuple (A := A.in1.in1.in1) hh (b + 1) l (Nat.ne_of_lt (Nat.lt_succ_of_lt ll)) ys) p0 p1 p2
    (lk 4 5 (by decide)) (lk 2 5 (by decide)) (lk 3 5 (by decide)) (lk 0 5 (by decide)) (lk 1 5 (by decide)) (nin2 (nk 5 0 (by decide)) (ltk 5 lt)) (nin2 (nk 5 1 (by decide)) (ltk 5 ll)) (up _ _ hz) (up _ _ hI) ⟨_, _, up _ _ hO⟩ ⟨h1.at fun o e => up _ _ e, ht.at fun o e => up _ _ e⟩ ⟨h2.at fun o e => up _ _ e, hl.at fun o e => up _ _ e⟩ hS fun g tk acc c as ug gS hn hP ha => ?_
  exact ⟨rfl, q g tk acc c as (fun a o la e => ug a o (ltn 5 la) (ltn 4 la) (ltn 3 la) (ltn 0 la) (ltn 1 la) (up a o e)) gS hn hP ha⟩
end
def tLzT (K : PySem.W.Frag) (ta : TA) : TE := fun σ H Q => ta σ H fun vs H1 => ∃ a b xs ys, vs = [.ref a, .ref b] ∧ SqT K H1 a xs ∧ SqT K H1 b ys ∧ 0 < xs.length ∧ xs.length ≤ ys.length ∧ xs.length ≤ 1000 ∧ ∀ q as H2, ZipL H1 H2 q as xs ys → Q (.ref q) H2
section
variable {X : Cx}
theorem pe_listZipT {e e2 : Expr} {ta : TA} {p p2 pos pos2 : Pos} (hc : X.calm = true) (hg : Gl X "zip") (hm : X.mg "zip" = none) (gl : Gl X "list") (ml : X.mg "list" = none) (ha : PA X [e, e2] ta)
    (hs : starEach [e, e2] X.env = (false, eval e X.env) :: starEach [e2] X.env := by rfl) (hpl : (backTo pos2 (starEach [e2] X.env)).any (·.1) = false := by rfl)
    (na : starEach [.Call (.Name "zip" p2) [e, e2] [] pos2] X.env = (false, eval (.Call (.Name "zip" p2) [e, e2] [] pos2) X.env) :: starEach [] X.env := by rfl) :
    PE X (.Call (.Name "list" p) [.Call (.Name "zip" p2) [e, e2] [] pos2] [] pos) (tLzT X.K ta) := by
  refine ⟨fun pins s σ H Q I h => ?_⟩
  refine Call_ (ld_blt I gl ml PyProof.Rows.boot_list (PyProof.Rows.callWith_type1 (args_cons ?_ na) na))
  refine Call_ (ld_blt I hg hm PyProof.Rows.boot_zip (PyProof.Rows.callWith_type1 (thn (ha.run pos2 pins s σ H _ I h) fun us s1 ⟨vs, H1, I1, r1, q1⟩ => ?_) hs hpl))
  obtain ⟨a, b, xs, ys, ex, hqx, hqy, p0, p1, p2, q⟩ := q1
  subst ex
  cases r1 with
  | cons r rr =>
    cases rr with
    | cons r' rr =>
      cases rr
      cases r
      cases r'
      obtain ⟨its, rv, pt, _⟩ := I1.tuple hqx
      obtain ⟨its2, rv2, pl, _⟩ := I1.tuple hqy
      obtain ⟨o2, ho2, _⟩ := id pl
      obtain ⟨o1, ho1, _⟩ := id pt
      have l1 := rv.length
      have l2 := rv2.length
      refine zip_begins2 (begins_tuple a its.toArray) (begins_tuple b its2.toArray) (show s1.heap.IsTuple a its.toArray from pt) (show s1.heap.IsTuple b its2.toArray from pl) fun h' hz hTI hTO h1 h2 hsz hk => args_nil ?_
      refine callListZipT (s := { s1 with heap := h' }) (xs := its.toArray) (ys := its2.toArray) (I1.ok.hd hc) (Heap.IsTuple.at (show s1.heap.IsTuple a its.toArray from pt) fun o e => hk _ _ e) (Heap.IsTuple.at (show s1.heap.IsTuple b its2.toArray from pl) fun o e => hk _ _ e) (Heap.lt_size ho1) (Heap.lt_size ho2) hsz hz hTI hTO ⟨_, h1, rfl, rfl⟩ ⟨_, h2, rfl, rfl⟩
        (by simp; omega) (by simp; omega) (by simp; omega) fun g tk acc cc as kg gS hn hP hacc => ?_
      have nd : as.Nodup := hP.rise.imp fun z => Nat.ne_of_lt z
      have fr : ∀ c, s1.heap.objs.size ≤ c → H1 c = none := fun c z => I1.hok.fresh z
      have big : ∀ c, c ∈ as → s1.heap.objs.size ≤ c := fun c z => Nat.le_trans (Nat.le_add_right _ 5) (Nat.le_of_lt (hP.above c z))
      have nq : s1.heap.objs.size + 5 ∉ as := fun z => Nat.lt_irrefl _ (hP.above _ z)
      have hn' : as.length = xs.length := by rw [hn, l1]; simp
      have pr : ∀ (j : Nat) (c : Addr), as[j]? = some c → ∃ x y, xs[j]? = some x ∧ ys[j]? = some y ∧ (zipH H1 (s1.heap.objs.size + 5) as xs ys) c = some (.tup [x, y]) ∧ ObjOk X.prog X.w (zipH H1 (s1.heap.objs.size + 5) as xs ys) g c (.tup [x, y]) := by
        intro j c hj
        obtain ⟨u, u2, e1, e2, e3⟩ := hP.pairs j c hj
        have jl : j < as.length := (List.getElem?_eq_some_iff.mp hj).1
        have jc : as[j] = c := (List.getElem?_eq_some_iff.mp hj).2
        have jx : xs[j]? = some xs[j] := List.getElem?_eq_getElem (by omega)
        have jy : ys[j]? = some ys[j] := List.getElem?_eq_getElem (by omega)
        obtain ⟨w1, f1, r1⟩ := rv.get jx
        obtain ⟨w2, f2, r2⟩ := rv2.get jy
        have g1 : its[j]? = some u := by simpa using e1
        have g2 : its2[j]? = some u2 := by simpa using e2
        rw [f1] at g1; cases g1
        rw [f2] at g2; cases g2
        have ix : as.idxOf c = j := by rw [← jc]; exact nd.idxOf_getElem j jl
        refine ⟨xs[j], ys[j], jx, jy, ?_, by show 2 ≤ sizeLine; decide, [u, u2], .cons r1 (.cons r2 .nil), ⟨_, e3, rfl, _, rfl⟩⟩
        show (if c ∈ as then _ else _) = _
        rw [if_pos (List.mem_of_getElem? hj), ix, List.getD_eq_getElem?_getD, List.getD_eq_getElem?_getD, jx, jy]
        rfl
      have zq : (zipH H1 (s1.heap.objs.size + 5) as xs ys) (s1.heap.objs.size + 5) = some (.lst (as.map V.ref)) := by
        show (if _ ∈ as then _ else _) = _
        rw [if_neg nq, if_pos rfl]
      have sm : Same H1 (zipH H1 (s1.heap.objs.size + 5) as xs ys) := fun c o e => by
        have lc := I1.hok.lt e
        show (if c ∈ as then _ else _) = _
        rw [if_neg (fun z => Nat.lt_irrefl _ (Nat.lt_of_lt_of_le lc (big c z))), if_neg (ltn 5 lc)]
        exact e
      refine ⟨.ref (s1.heap.objs.size + 5), zipH H1 (s1.heap.objs.size + 5) as xs ys, Inv.laidAll (s := s1) (h' := g) (t' := tk) I1 (fun c o e => kg c o (Heap.lt_size e) (hk c o e)) sm (fun c lc e => ?_) (fun c o e n => ?_), rfl,
        q _ as _ ⟨sm, zq, hn', fun j c hj => let ⟨x, y, e1, e2, e3, _⟩ := pr j c hj; ⟨x, y, e1, e2, e3⟩, fr _ (Nat.le_add_right _ 5)⟩⟩
      · show (if c ∈ as then _ else _) = _
        rw [if_neg (fun z => Nat.lt_irrefl _ (Nat.lt_of_lt_of_le lc (big c z))), if_neg (ltn 5 lc)]
        exact e
      · by_cases hm : c ∈ as
        · obtain ⟨j, hj⟩ := List.mem_iff_getElem?.mp hm
          obtain ⟨x, y, _, _, e3, e4⟩ := pr j c hj
          rw [e] at e3
          cases e3
          exact e4
        · by_cases hq : c = s1.heap.objs.size + 5
          · subst hq
            rw [e] at zq
            cases zq
            refine ⟨by rw [List.length_map, hn', sizeLine_eq]; omega, acc.toList, cc, ?_, ?_⟩
            · rw [hacc]; exact L2.vals_refs as
            · rw [Array.toArray_toList]; exact gS
          · have : (if c ∈ as then some (HO.tup [xs.getD (as.idxOf c) .non, ys.getD (as.idxOf c) .non]) else if c = s1.heap.objs.size + 5 then some (.lst (as.map V.ref)) else H1 c) = some o := e
            rw [if_neg hm, if_neg hq, n] at this
            cases this
end
theorem k_listZipT {X : Cx} {K : PySem.W.Frag} {e e2 : Expr} {ta : TA} {p p2 pos pos2 : Pos} (hm : X.mg "zip" = none) (ml : X.mg "list" = none) (ha : PA X [e, e2] ta) (hK : X.K = K := by rfl) (hc : X.calm = true := by rfl) (hg : Gl X "zip" := by rfl) (gl : Gl X "list" := by rfl)
    (hs : starEach [e, e2] X.env = (false, eval e X.env) :: starEach [e2] X.env := by rfl) (hpl : (backTo pos2 (starEach [e2] X.env)).any (·.1) = false := by rfl)
    (na : starEach [.Call (.Name "zip" p2) [e, e2] [] pos2] X.env = (false, eval (.Call (.Name "zip" p2) [e, e2] [] pos2) X.env) :: starEach [] X.env := by rfl) :
    PE X (.Call (.Name "list" p) [.Call (.Name "zip" p2) [e, e2] [] pos2] [] pos) (tLzT K ta) := by
  subst hK
  exact pe_listZipT hc hg hm gl ml ha hs hpl na
def zipK2T (K : PySem.W.Frag) (Q : VK) : List V → Hp → Prop := fun vs H1 => ∃ a b xs ys, vs = [.ref a, .ref b] ∧ SqT K H1 a xs ∧ SqT K H1 b ys ∧ 0 < xs.length ∧ xs.length ≤ ys.length ∧ xs.length ≤ 1000 ∧ ∀ q as H2, ZipL H1 H2 q as xs ys → Q (.ref q) H2
theorem i_lzT {K : PySem.W.Frag} {ta : TA} {σ : L2.St} {H : Hp} {Q : VK} (h : ta σ H (zipK2T K Q)) : tLzT K ta σ H Q := h
end
section
open L2 PySem PySem.Spec PyProof.Rows
def edges : Str → List Str → Str → List (Str × Str)
  | x, [], y => [(x, y)]
  | x, z :: r, y => (x, z) :: edges z r y
def pairsR : List Str → List (Str × Str)
  | [] => []
  | x :: r => edges x r x
theorem zip_edges : ∀ (x : Str) (r : List Str) (y : Str), (x :: r).zip (r ++ [y]) = edges x r y
  | x, [], y => rfl
  | x, z :: r, y => by
    show (x, z) :: (z :: r).zip (r ++ [y]) = _
    rw [zip_edges z r y]
    rfl
theorem pairs_zip (l : List Str) : l.zip (l.drop 1 ++ l.take 1) = pairsR l := by
  cases l with
  | nil => rfl
  | cons x r => exact zip_edges x r x
theorem edges_len : ∀ (x : Str) (r : List Str) (y : Str), (edges x r y).length = r.length + 1
  | x, [], y => rfl
  | x, z :: r, y => by
    show (edges z r y).length + 1 = _
    rw [edges_len z r y]
    rfl
theorem pairs_len (l : List Str) : (pairsR l).length = l.length := by
  cases l with
  | nil => rfl
  | cons x r => exact edges_len x r x
theorem edges_split : ∀ (x : Str) (u : List Str) (b : Str) (v : List Str) (y : Str), edges x (u ++ b :: v) y = edges x u b ++ edges b v y
  | x, [], b, v, y => rfl
  | x, z :: u, b, v, y => by
    show (x, z) :: edges z (u ++ b :: v) y = _
    rw [edges_split z u b v y]
    rfl
theorem edges_rev : ∀ (x : Str) (r : List Str) (y : Str), edges y r.reverse x = ((edges x r y).map fun p => (p.2, p.1)).reverse
  | x, [], y => rfl
  | x, z :: r, y => by
    show edges y (z :: r).reverse x = (((x, z) :: edges z r y).map fun p => (p.2, p.1)).reverse
    rw [List.map_cons, List.reverse_cons, List.reverse_cons, edges_split y r.reverse z [] x, edges_rev z r y]
    rfl
theorem pairs_turn (u v : List Str) : (pairsR (u ++ v)).Perm (pairsR (v ++ u)) := by
  cases u with
  | nil => rw [List.nil_append, List.append_nil]
  | cons x u =>
    cases v with
    | nil => rw [List.nil_append, List.append_nil]
    | cons z v =>
      show (edges x (u ++ z :: v) x).Perm (edges z (v ++ x :: u) z)
      rw [edges_split, edges_split]
      exact List.perm_append_comm
theorem pairs_rev (l : List Str) : (pairsR l.reverse).Perm ((pairsR l).map fun p => (p.2, p.1)) := by
  cases l with
  | nil => exact List.Perm.refl _
  | cons x r =>
    rw [List.reverse_cons]
    refine (pairs_turn r.reverse [x]).trans ?_
    show (edges x r.reverse x).Perm ((edges x r x).map _)
    rw [edges_rev]
    exact List.reverse_perm _
theorem edges_mem : ∀ {x : Str} {r : List Str} {y : Str} {p : Str × Str}, p ∈ edges x r y → p.1 ∈ x :: r ∧ p.2 ∈ r ++ [y]
  | x, [], y, p, h => by
    rw [List.mem_singleton.mp h]
    exact ⟨List.mem_cons_self, List.mem_singleton.mpr rfl⟩
  | x, z :: r, y, p, h => by
    rcases List.mem_cons.mp h with rfl | h
    · exact ⟨List.mem_cons_self, List.mem_cons_self⟩
    · obtain ⟨h1, h2⟩ := edges_mem h
      exact ⟨List.mem_cons_of_mem _ h1, List.mem_cons_of_mem _ h2⟩
theorem pairsR_mem {l : List Str} {p : Str × Str} (h : p ∈ pairsR l) : p.1 ∈ l ∧ p.2 ∈ l := by
  cases l with
  | nil => exact absurd h List.not_mem_nil
  | cons x r =>
    obtain ⟨h1, h2⟩ := edges_mem h
    refine ⟨h1, ?_⟩
    rcases List.mem_append.mp h2 with h2 | h2
    · exact List.mem_cons_of_mem _ h2
    · rw [List.mem_singleton.mp h2]
      exact List.mem_cons_self
end
section
open L2 PySem PySem.Spec PyProof.Rows
abbrev ti (P : Program) (w : World) (k : List Int) : Int := tupleKeyHash (PySem.intKind P w) k
end
section
open L2 PySem PySem.Spec PyProof.Rows
section
variable {ps : List Str} {rs l : List (Str × Str)} {g : List Str}
theorem freed_or : ∀ (n : Nat) (g : List Str), freeL ps l (freedN ps l n g) = [] ∨ (freedN ps l n g).length = g.length + n
  | 0, g => .inr rfl
  | n + 1, g => by
    cases h : freeL ps l g with
    | nil =>
      rw [freed_nil h]
      exact .inl h
    | cons z r =>
      rw [freed_cons h]
      rcases freed_or n (g ++ [z]) with c | c
      · exact .inl c
      · right
        rw [c, List.length_append, List.length_singleton]
        omega
theorem freed_stuck (h : (freedL ps l).length ≠ ps.length) {z : Str} (hz : z ∈ ps) (hg : z ∉ freedL ps l) : ∃ r ∈ l, r.2 = z ∧ r.1 ∉ freedL ps l := by
  have e : freeL ps l (freedL ps l) = [] := by
    rcases freed_or (ps := ps) (l := l) ps.length [] with c | c
    · exact c
    · exact absurd (by rw [List.length_nil, Nat.zero_add] at c; exact c) h
  apply Classical.byContradiction
  intro c
  have : z ∈ freeL ps l (freedL ps l) := mem_free.mpr ⟨hz, hg, fun r hr e2 => Classical.byContradiction fun k => c ⟨r, hr, e2, k⟩⟩
  rw [e] at this
  exact absurd this List.not_mem_nil
def ahd (l : List (Str × Str)) (g : List Str) (z : Str) : Option Str := ((l.filter fun r => !decide (r.1 ∈ g)).reverse.find? fun r => decide (r.2 = z)).map (·.1)
theorem ahd_mem {z x : Str} (h : ahd l g z = some x) : (x, z) ∈ l ∧ x ∉ g := by
  unfold ahd at h
  obtain ⟨r, hr, e⟩ := Option.map_eq_some_iff.mp h
  have h1 := List.mem_of_find?_eq_some hr
  have h2 := List.find?_some hr
  rw [List.mem_reverse, List.mem_filter] at h1
  obtain ⟨h3, h4⟩ := h1
  have e2 : r.2 = z := of_decide_eq_true h2
  subst e e2
  exact ⟨h3, by simpa using h4⟩
theorem ahd_some {z : Str} (h : ∃ r ∈ l, r.2 = z ∧ r.1 ∉ g) : ∃ x, ahd l g z = some x := by
  obtain ⟨r, hr, e1, e2⟩ := h
  unfold ahd
  cases c : (l.filter fun r => !decide (r.1 ∈ g)).reverse.find? fun r => decide (r.2 = z) with
  | some y => exact ⟨y.1, rfl⟩
  | none =>
    have := List.find?_eq_none.mp c r (List.mem_reverse.mpr (List.mem_filter.mpr ⟨hr, by simp [e2]⟩))
    exact absurd (decide_eq_true e1) this
def nxtL (ps : List Str) (l : List (Str × Str)) (g : List Str) : List Nat := ps.map fun z => match ahd l g z with
  | some x => ps.idxOf x
  | none => 0
structure Left (ps : List Str) (l : List (Str × Str)) (g : List Str) : Prop where
  ends : ∀ r ∈ l, r.1 ∈ ps ∧ r.2 ∈ ps ∧ r.1 ≠ r.2
  one : ∀ x y, (x, y) ∈ l → (y, x) ∉ l
  on : ∀ z ∈ ps, z ∉ g → ∃ r ∈ l, r.2 = z ∧ r.1 ∉ g
theorem nxt_len : (nxtL ps l g).length = ps.length := List.length_map ..
theorem nxt_lt (L : Left ps l g) (h0 : 0 < ps.length) : ∀ x ∈ nxtL ps l g, x < ps.length := fun x hx => by
  obtain ⟨z, hz, rfl⟩ := List.mem_map.mp hx
  cases c : ahd l g z with
  | none => exact h0
  | some y => exact List.idxOf_lt_length_iff.mpr (L.ends _ (ahd_mem c).1).1
theorem nxt_step (L : Left ps l g) {i : Nat} {z : Str} (hz : ps[i]? = some z) (hg : z ∉ g) : ∃ x, ahd l g z = some x ∧ (nxtL ps l g).getD i 0 = ps.idxOf x ∧ ps[ps.idxOf x]? = some x ∧ x ∉ g ∧ (x, z) ∈ l := by
  obtain ⟨x, hx⟩ := ahd_some (L.on z (List.mem_of_getElem? hz) hg)
  obtain ⟨m, n⟩ := ahd_mem hx
  refine ⟨x, hx, ?_, (idx_first (L.ends _ m).1).1, n, m⟩
  unfold nxtL
  rw [List.getD_eq_getElem?_getD, List.getElem?_map, hz]
  show (match ahd l g z with | some x => ps.idxOf x | none => 0) = _
  rw [hx]
def nameN (ps : List Str) (i : Nat) : Str := ps.getD i ""
theorem name_n {i : Nat} {z : Str} (h : ps[i]? = some z) : nameN ps i = z := by
  unfold nameN
  rw [List.getD_eq_getElem?_getD, h]
  rfl
theorem nxt_walk (L : Left ps l g) {s : Nat} (hs : ∃ z, ps[s]? = some z ∧ z ∉ g) : ∀ n, ∃ z, ps[itF (nxtL ps l g) s n]? = some z ∧ z ∉ g
  | 0 => hs
  | n + 1 => by
    obtain ⟨z, h1, h2⟩ := nxt_walk L hs n
    obtain ⟨x, _, e, h3, h4, _⟩ := nxt_step L h1 h2
    refine ⟨x, ?_, h4⟩
    show ps[(nxtL ps l g).getD (itF (nxtL ps l g) s n) 0]? = some x
    rw [e]
    exact h3
theorem nxt_arrow (L : Left ps l g) {s : Nat} (hs : ∃ z, ps[s]? = some z ∧ z ∉ g) (n : Nat) : (nameN ps (itF (nxtL ps l g) s (n + 1)), nameN ps (itF (nxtL ps l g) s n)) ∈ l := by
  obtain ⟨z, h1, h2⟩ := nxt_walk L hs n
  obtain ⟨x, _, e, h3, h4, m⟩ := nxt_step L h1 h2
  have e1 : itF (nxtL ps l g) s (n + 1) = ps.idxOf x := e
  rw [e1, name_n h3, name_n h1]
  exact m
theorem way_pairs {f : List Nat} {s p : Nat} (w : Wk f s p 0) (nm : Nat → Str) : ∀ q ∈ pairsR ((wayL f s p).map nm), ∃ i, i < p ∧ q = (nm (itF f s i), nm (itF f s (i + 1))) := by
  intro q hq
  rw [← pairs_zip] at hq
  obtain ⟨i, hi, e⟩ := List.getElem_of_mem hq
  rw [List.getElem_zip] at e
  have hl : ((wayL f s p).map nm).length = p := by rw [List.length_map, wayL_len]
  have hip : i < p := by
    rw [List.length_zip, hl] at hi
    omega
  refine ⟨i, hip, ?_⟩
  rw [← e]
  have a1 : ((wayL f s p).map nm)[i]? = some (nm (itF f s i)) := by rw [List.getElem?_map, wayL_at hip]; rfl
  have a2 : (((wayL f s p).map nm).drop 1 ++ ((wayL f s p).map nm).take 1)[i]? = some (nm (itF f s (i + 1))) := by
    by_cases c : i + 1 < p
    · rw [List.getElem?_append_left (by rw [List.length_drop, hl]; omega), List.getElem?_drop, List.getElem?_map, Nat.add_comm, wayL_at c]
      rfl
    · have ei : i + 1 = p := by omega
      rw [List.getElem?_append_right (by rw [List.length_drop, hl]; omega), List.length_drop, hl, List.getElem?_take]
      rw [if_pos (by omega), show i - (p - 1) = 0 by omega, List.getElem?_map, wayL_at (by omega), ei, w.back]
      rfl
  refine Prod.ext ?_ ?_
  · have := List.getElem?_eq_getElem (l := (wayL f s p).map nm) (i := i) (by rw [hl]; exact hip)
    rw [a1] at this
    exact (Option.some.inj this).symm
  · have := List.getElem?_eq_getElem (l := ((wayL f s p).map nm).drop 1 ++ ((wayL f s p).map nm).take 1) (i := i) (by rw [List.length_append, List.length_drop, List.length_take, hl]; omega)
    rw [a2] at this
    exact (Option.some.inj this).symm
theorem arrow_round (L : Left ps l g) (nd : ps.Nodup) {s p : Nat} (hs : ∃ z, ps[s]? = some z ∧ z ∉ g) (w : Wk (nxtL ps l g) s p 0) :
    (((wayL (nxtL ps l g) s p).map (nameN ps)).reverse).Nodup ∧ 3 ≤ p ∧ (∀ z ∈ ((wayL (nxtL ps l g) s p).map (nameN ps)).reverse, z ∈ ps) ∧ ∀ q ∈ pairsR (((wayL (nxtL ps l g) s p).map (nameN ps)).reverse), q ∈ l := by
  have at_ : ∀ n, ∃ z, ps[itF (nxtL ps l g) s n]? = some z := fun n => (nxt_walk L hs n).imp fun z h => h.1
  refine ⟨?_, ?_, fun z hz => ?_, fun q hq => ?_⟩
  · rw [List.Nodup, List.pairwise_reverse, List.pairwise_map]
    unfold wayL
    rw [List.pairwise_map]
    refine List.Pairwise.imp_of_mem (fun {a b} ha hb h e => w.un a b h (List.mem_range.mp hb) ?_) (List.pairwise_lt_range (n := p))
    obtain ⟨x, hx⟩ := at_ a
    obtain ⟨y, hy⟩ := at_ b
    rw [name_n hx, name_n hy] at e
    subst e
    have l1 := (List.getElem?_eq_some_iff.mp hx).1
    have l2 := (List.getElem?_eq_some_iff.mp hy).1
    rw [List.getElem?_eq_getElem l1] at hx
    rw [List.getElem?_eq_getElem l2] at hy
    exact (List.getElem_inj (h₀ := l1) (h₁ := l2) nd).mp ((Option.some.inj hx).trans (Option.some.inj hy).symm)
  · have lt := w.lt
    have a0 := nxt_arrow L hs 0
    have a1 := nxt_arrow L hs 1
    have e0 : itF (nxtL ps l g) s 0 = s := rfl
    rcases Nat.lt_trichotomy p 1 with c | c | c
    · omega
    · exfalso
      subst c
      have b : itF (nxtL ps l g) s 1 = s := w.back
      rw [e0, b] at a0
      exact (L.ends _ a0).2.2 rfl
    · rcases Nat.lt_or_eq_of_le (show 2 ≤ p from c) with d | d
      · exact d
      · exfalso
        subst d
        have b : itF (nxtL ps l g) s 2 = s := w.back
        rw [e0] at a0
        rw [b] at a1
        exact L.one _ _ a0 a1
  · rw [List.mem_reverse] at hz
    obtain ⟨n, hn, rfl⟩ := List.mem_map.mp hz
    obtain ⟨i, _, rfl⟩ := List.mem_map.mp hn
    obtain ⟨z, h⟩ := at_ i
    rw [name_n h]
    exact List.mem_of_getElem? h
  · have h1 := (pairs_rev _).mem_iff.mp hq
    obtain ⟨p2, hp2, rfl⟩ := List.mem_map.mp h1
    obtain ⟨i, _, rfl⟩ := way_pairs w (nameN ps) p2 hp2
    exact nxt_arrow L hs i
theorem left_of (W : IsWeb ps rs) (A : ArrL rs l) (h : (freedL ps l).length ≠ ps.length) : Left ps l (freedL ps l) := by
  obtain ⟨hl, ha⟩ := A
  have at_ : ∀ i (r : Str × Str), l[i]? = some r → ∃ q, rs[i]? = some q ∧ (r = q ∨ r = swp q) := fun i r hr => by
    have h1 := (List.getElem?_eq_some_iff.mp hr).1
    have h2 : i < rs.length := by omega
    have := ha i h2
    rw [List.getD_eq_getElem?_getD, hr, List.getD_eq_getElem?_getD, List.getElem?_eq_getElem h2] at this
    exact ⟨rs[i], List.getElem?_eq_getElem h2, this⟩
  have un : ∀ i j (p q : Str × Str), i < j → rs[i]? = some p → rs[j]? = some q → p ≠ q ∧ p ≠ (q.2, q.1) := fun i j p q hij hi hj => by
    have l1 := (List.getElem?_eq_some_iff.mp hi).1
    have l2 := (List.getElem?_eq_some_iff.mp hj).1
    have := List.pairwise_iff_getElem.mp W.uniq i j l1 l2 hij
    rw [(List.getElem?_eq_some_iff.mp hi).2, (List.getElem?_eq_some_iff.mp hj).2] at this
    exact this
  refine ⟨fun r hr => ?_, fun x y m1 m2 => ?_, fun z hz hg => freed_stuck h hz hg⟩
  · obtain ⟨i, hi⟩ := List.getElem?_of_mem hr
    obtain ⟨q, hq, e⟩ := at_ i r hi
    obtain ⟨w1, w2, w3⟩ := W.ends q (List.mem_of_getElem? hq)
    rcases e with rfl | rfl
    · exact ⟨w1, w2, w3⟩
    · exact ⟨w2, w1, Ne.symm w3⟩
  · obtain ⟨i, hi⟩ := List.getElem?_of_mem m1
    obtain ⟨j, hj⟩ := List.getElem?_of_mem m2
    obtain ⟨p, hp, ep⟩ := at_ i _ hi
    obtain ⟨q, hq, eq⟩ := at_ j _ hj
    have ne : x ≠ y := by
      obtain ⟨w1, w2, w3⟩ := W.ends p (List.mem_of_getElem? hp)
      rcases ep with e | e
      · rw [← e] at w3
        exact w3
      · intro c
        subst c
        have e1 := congrArg Prod.fst e
        have e2 := congrArg Prod.snd e
        exact w3 (e2.symm.trans e1)
    have bad : ∀ i j (p q : Str × Str), i < j → rs[i]? = some p → rs[j]? = some q → (p = (x, y) ∨ p = (y, x)) → (q = (x, y) ∨ q = (y, x)) → False := fun i j p q hij hi hj hp hq => by
      obtain ⟨u1, u2⟩ := un i j p q hij hi hj
      rcases hp with rfl | rfl <;> rcases hq with rfl | rfl
      · exact u1 rfl
      · exact u2 rfl
      · exact u2 rfl
      · exact u1 rfl
    have fp : p = (x, y) ∨ p = (y, x) := by
      rcases ep with e | e
      · exact .inl e.symm
      · right
        have e1 := congrArg Prod.fst e
        have e2 := congrArg Prod.snd e
        exact Prod.ext e2.symm e1.symm
    have fq : q = (x, y) ∨ q = (y, x) := by
      rcases eq with e | e
      · exact .inr e.symm
      · left
        have e1 := congrArg Prod.fst e
        have e2 := congrArg Prod.snd e
        exact Prod.ext e2.symm e1.symm
    rcases Nat.lt_trichotomy i j with c | c | c
    · exact bad i j p q c hp hq fp fq
    · subst c
      rw [hi] at hj
      have := Option.some.inj hj
      have e1 := congrArg Prod.fst this
      exact ne e1
    · exact bad j i q p c hq hp fq fp
end
end
section
open L2 PySem PySem.Spec PyProof.Rows
theorem ahd_snoc (l : List (Str × Str)) (g : List Str) (r : Str × Str) (z : Str) : ahd (l ++ [r]) g z = if r.1 ∉ g ∧ r.2 = z then some r.1 else ahd l g z := by
  unfold ahd
  rw [List.filter_append, List.reverse_append]
  by_cases c : r.1 ∈ g
  · rw [show [r].filter (fun r => !decide (r.1 ∈ g)) = [] by simp [c], if_neg (fun h => h.1 c)]
    rfl
  · rw [show [r].filter (fun r => !decide (r.1 ∈ g)) = [r] by simp [c]]
    show (List.find? (fun r => decide (r.2 = z)) (r :: _)).map (·.1) = _
    by_cases d : r.2 = z
    · rw [List.find?_cons_of_pos (by simp [d]), if_pos ⟨c, d⟩]
      rfl
    · rw [List.find?_cons_of_neg (by simp [d]), if_neg (fun h => d h.2)]
      rfl
section
variable {ps : List Str} {l : List (Str × Str)} {g : List Str}
def leftS (ps : List Str) (g : List Str) : List Str := ps.filter fun z => !decide (z ∈ g)
def strtN (ps : List Str) (g : List Str) : Nat := ps.idxOf ((leftS ps g).headD "")
open Classical in
noncomputable def roundA (ps : List Str) (l : List (Str × Str)) : List Str := if h : ∃ m b, Wk (nxtL ps l (freedL ps l)) (strtN ps (freedL ps l)) m b then
  ((wayL (nxtL ps l (freedL ps l)) (itF (nxtL ps l (freedL ps l)) (strtN ps (freedL ps l)) h.choose_spec.choose) (h.choose - h.choose_spec.choose)).map (nameN ps)).reverse else []
theorem round_is {m b : Nat} (w : Wk (nxtL ps l (freedL ps l)) (strtN ps (freedL ps l)) m b) : roundA ps l = ((wayL (nxtL ps l (freedL ps l)) (itF (nxtL ps l (freedL ps l)) (strtN ps (freedL ps l)) b) (m - b)).map (nameN ps)).reverse := by
  have h : ∃ m b, Wk (nxtL ps l (freedL ps l)) (strtN ps (freedL ps l)) m b := ⟨m, b, w⟩
  unfold roundA
  rw [dif_pos h]
  obtain ⟨e1, e2⟩ := h.choose_spec.choose_spec.same w
  rw [e2, e1]
theorem left_ne (L : (freedL ps l).length ≠ ps.length) (nd : ps.Nodup) : leftS ps (freedL ps l) ≠ [] := by
  intro e
  apply L
  obtain ⟨n1, sub⟩ := freed_ok (ps := ps) (l := l) (g := []) List.nodup_nil (fun z hz => absurd hz List.not_mem_nil) ps.length
  refine (List.Perm.length_eq ?_)
  refine (List.perm_ext_iff_of_nodup n1 nd).mpr fun z => ⟨fun h => sub z h, fun h => ?_⟩
  apply Classical.byContradiction
  intro c
  have : z ∈ leftS ps (freedL ps l) := List.mem_filter.mpr ⟨h, by simp; exact c⟩
  rw [e] at this
  exact absurd this List.not_mem_nil
theorem strt_is (h : leftS ps g ≠ []) : ∃ z, (leftS ps g)[0]? = some z ∧ ps[strtN ps g]? = some z ∧ z ∉ g ∧ (leftS ps g).headD "" = z := by
  cases c : leftS ps g with
  | nil => exact absurd c h
  | cons z r =>
    have m : z ∈ leftS ps g := by rw [c]; exact List.mem_cons_self
    obtain ⟨m1, m2⟩ := List.mem_filter.mp m
    refine ⟨z, rfl, ?_, by simpa using m2, rfl⟩
    unfold strtN
    rw [c]
    exact (idx_first m1).1
theorem round_ok {rs : List (Str × Str)} (W : IsWeb ps rs) (A : ArrL rs l) (h : (freedL ps l).length ≠ ps.length) : (roundA ps l).Nodup ∧ 3 ≤ (roundA ps l).length ∧ (roundA ps l).length ≤ 8 ∧ (∀ z ∈ roundA ps l, z ∈ ps) ∧ ∀ q ∈ pairsR (roundA ps l), q ∈ l := by
  have nd := W.names.1
  have h0 := W.pos
  have h8 := W.le8
  have L := left_of W A h
  obtain ⟨z, _, hz, hg, _⟩ := strt_is (left_ne h nd)
  have hs : ∃ z, ps[strtN ps (freedL ps l)]? = some z ∧ z ∉ freedL ps l := ⟨z, hz, hg⟩
  have hlt := nxt_lt L h0
  have sN : strtN ps (freedL ps l) < ps.length := (List.getElem?_eq_some_iff.mp hz).1
  obtain ⟨m, b, w⟩ := is_walk hlt nxt_len sN
  rw [round_is w]
  have hb := nxt_walk L hs b
  obtain ⟨r1, r2, r3, r4⟩ := arrow_round L nd hb w.ring
  refine ⟨r1, ?_, ?_, r3, r4⟩
  · rw [List.length_reverse, List.length_map, wayL_len]
    exact r2
  · have k := walk_few hlt nxt_len sN w.un
    rw [List.length_reverse, List.length_map, wayL_len]
    omega
end
end
section
open L2 PySem PySem.Spec PyProof.Rows
theorem i_indexT {K : PySem.W.Frag} {H : Hp} {Q : VK} {a : Addr} {ns : List Str} {z : Str} (hs : SqL K H a (ns.map V.str)) (ok : ∀ z ∈ ns, nmOk z = true) (hz : z ∈ ns) (q : Q (.int (ns.idxOf z : Nat)) H) : rIndexD K (.ref a) [.str z] H Q := by
  obtain ⟨i1, i2⟩ := idx_of hz
  have s1 : PyData.canLayAll0 ([z].map PyData.str) = true := strs_lay fun y hy => by rw [List.mem_singleton.mp hy]; exact ok z hz
  refine ⟨a, .str z, .str z, ns.map PyData.str, ns.idxOf z, .str z, rfl, rfl, .lst hs (DpAll.strs ns), .str _, strs_shaped ok, ?_, ?_, ?_, fun m z' hm hz' => ?_, q⟩
  · have s2 : ((PyData.str z).canLay0 && true) = true := s1
    rw [Bool.and_true] at s2
    show ((PyData.str z).canLay0 && decide (0 ≤ 64)) = true
    rw [s2]
    rfl
  · rw [List.getElem?_map, i1]
    rfl
  · show (z == z) = true
    exact beq_self_eq_true _
  · rw [List.getElem?_map] at hz'
    cases e : ns[m]? with
    | none => rw [e] at hz'; cases hz'
    | some y =>
      rw [e] at hz'
      obtain rfl := Option.some.inj hz'
      show (y == z) = false
      exact beq_false_of_ne (i2 m hm y e)
theorem way_name {l : List Nat} {s m : Nat} (nm : Nat → Str) : ((wayL l s (m + 1)).map nm).map V.str = ((wayL l s m).map nm).map V.str ++ [V.str (nm (itF l s m))] := by
  unfold wayL
  rw [List.range_succ, List.map_append, List.map_append, List.map_append]
  rfl
theorem way_name_at {l : List Nat} {s m i : Nat} (nm : Nat → Str) (h : i < m) : ((wayL l s m).map nm)[i]? = some (nm (itF l s i)) := by
  rw [List.getElem?_map, wayL_at h]
  rfl
theorem way_idx {l : List Nat} {s m j : Nat} {nm : Nat → Str} (un : ∀ a b, a < b → b < m → nm (itF l s a) ≠ nm (itF l s b)) (h : j < m) : ((wayL l s m).map nm).idxOf (nm (itF l s j)) = j := by
  have a1 := way_name_at (l := l) (s := s) nm h
  have hm : nm (itF l s j) ∈ (wayL l s m).map nm := List.mem_of_getElem? a1
  obtain ⟨i1, i2⟩ := idx_of hm
  have lt := (List.getElem?_eq_some_iff.mp i1).1
  rw [List.length_map, wayL_len] at lt
  rw [way_name_at nm lt] at i1
  have e := Option.some.inj i1
  rcases Nat.lt_trichotomy (((wayL l s m).map nm).idxOf (nm (itF l s j))) j with c | c | c
  · exact absurd e (un _ _ c h)
  · exact c
  · exact absurd e.symm (un _ _ c lt)
theorem way_mem {l : List Nat} {s m : Nat} {nm : Nat → Str} {z : Str} : z ∈ (wayL l s m).map nm ↔ ∃ j, j < m ∧ nm (itF l s j) = z := by
  unfold wayL
  rw [List.map_map, List.mem_map]
  constructor
  · rintro ⟨j, hj, e⟩
    exact ⟨j, List.mem_range.mp hj, e⟩
  · rintro ⟨j, hj, e⟩
    exact ⟨j, List.mem_range.mpr hj, e⟩
theorem way_behind {l : List Nat} {s m b : Nat} (nm : Nat → Str) : ((wayL l s m).map nm).drop b = (wayL l (itF l s b) (m - b)).map nm := by
  refine List.ext_getElem? fun i => ?_
  rw [List.getElem?_drop]
  by_cases c : i < m - b
  · rw [way_name_at nm (by omega), way_name_at nm c, itF_add]
  · rw [List.getElem?_eq_none (by rw [List.length_map, wayL_len]; omega), List.getElem?_eq_none (by rw [List.length_map, wayL_len]; omega)]
section
variable {ps : List Str} {l : List (Str × Str)} {g : List Str} {s : Nat}
theorem nxt_ahd (L : Left ps l g) (hs : ∃ z, ps[s]? = some z ∧ z ∉ g) (n : Nat) : ahd l g (nameN ps (itF (nxtL ps l g) s n)) = some (nameN ps (itF (nxtL ps l g) s (n + 1))) := by
  obtain ⟨z, h1, h2⟩ := nxt_walk L hs n
  obtain ⟨x, hx, e, h3, h4, m⟩ := nxt_step L h1 h2
  have e1 : itF (nxtL ps l g) s (n + 1) = ps.idxOf x := e
  rw [e1, name_n h3, name_n h1]
  exact hx
theorem nxt_inj (L : Left ps l g) (nd : ps.Nodup) (hs : ∃ z, ps[s]? = some z ∧ z ∉ g) {a b : Nat} (e : nameN ps (itF (nxtL ps l g) s a) = nameN ps (itF (nxtL ps l g) s b)) : itF (nxtL ps l g) s a = itF (nxtL ps l g) s b := by
  obtain ⟨x, hx, _⟩ := nxt_walk L hs a
  obtain ⟨y, hy, _⟩ := nxt_walk L hs b
  rw [name_n hx, name_n hy] at e
  subst e
  have l1 := (List.getElem?_eq_some_iff.mp hx).1
  have l2 := (List.getElem?_eq_some_iff.mp hy).1
  rw [List.getElem?_eq_getElem l1] at hx
  rw [List.getElem?_eq_getElem l2] at hy
  exact (List.getElem_inj (h₀ := l1) (h₁ := l2) nd).mp ((Option.some.inj hx).trans (Option.some.inj hy).symm)
theorem nxt_nm (L : Left ps l g) (hs : ∃ z, ps[s]? = some z ∧ z ∉ g) (n : Nat) : nameN ps (itF (nxtL ps l g) s n) ∈ ps := by
  obtain ⟨x, hx, _⟩ := nxt_walk L hs n
  rw [name_n hx]
  exact List.mem_of_getElem? hx
end
end
section
open L2 PySem PySem.Spec PyProof.Rows
def rNeE (K : PySem.W.Frag) : R2 := fun x y H Q => ∃ a b xs, x = .ref a ∧ y = .ref b ∧ SqL K H a xs ∧ SqL K H b [] ∧ Q (.bl (!xs.isEmpty)) H
def rEqE (K : PySem.W.Frag) : R2 := fun x y H Q => ∃ a b xs, x = .ref a ∧ y = .ref b ∧ SqL K H a xs ∧ SqL K H b [] ∧ Q (.bl xs.isEmpty) H
section
variable {X : Cx}
theorem op_neE (hu : X.A.units + 64 < cLine) : OpR X (compareOp .NotEq) (rNeE X.K) := by
  intro pins s σ H x y v u Q I rx ry h
  obtain ⟨a, b, xs, rfl, rfl, ha, hb, q⟩ := h
  cases (show v = Value.ref a from rx)
  cases (show u = Value.ref b from ry)
  obtain ⟨us, r1, p1, _⟩ := I.list ha
  obtain ⟨ws, r2, p2, _⟩ := I.list hb
  cases r2
  cases xs with
  | nil =>
    cases r1
    exact SeqAt.RcNeAt.lists (e := fun _ => true) p1.isList p2.isList rfl (by omega) (fun j h1 _ => absurd h1 (Nat.not_lt_zero _)) X.prog X.w _ _ ⟨.bl _, H, I, rfl, q⟩
  | cons x xs =>
    cases r1
    exact SeqAt.RcNeAt.lists_lengths p1.isList p2.isList (by simp) (by omega) X.prog X.w _ _ ⟨.bl _, H, I, rfl, q⟩
theorem op_eqE (hu : X.A.units + 64 < cLine) : OpR X (compareOp .Eq) (rEqE X.K) := by
  intro pins s σ H x y v u Q I rx ry h
  obtain ⟨a, b, xs, rfl, rfl, ha, hb, q⟩ := h
  cases (show v = Value.ref a from rx)
  cases (show u = Value.ref b from ry)
  obtain ⟨us, r1, p1, _⟩ := I.list ha
  obtain ⟨ws, r2, p2, _⟩ := I.list hb
  cases r2
  cases xs with
  | nil =>
    cases r1
    exact SeqAt.RcAt.lists (e := fun _ => true) p1.isList p2.isList rfl (by omega) (fun j h1 _ => absurd h1 (Nat.not_lt_zero _)) X.prog X.w _ _ ⟨.bl _, H, I, rfl, q⟩
  | cons x xs =>
    cases r1
    exact SeqAt.RcAt.lists_lengths p1.isList p2.isList (by simp) (by omega) X.prog X.w _ _ ⟨.bl _, H, I, rfl, q⟩
end
theorem k_neE {X : Cx} {K : PySem.W.Frag} (hu : X.A.units + 64 < cLine) (hK : X.K = K := by rfl) : OpR X (compareOp .NotEq) (rNeE K) := by subst hK; exact op_neE hu
theorem k_eqE {X : Cx} {K : PySem.W.Frag} (hu : X.A.units + 64 < cLine) (hK : X.K = K := by rfl) : OpR X (compareOp .Eq) (rEqE K) := by subst hK; exact op_eqE hu
theorem i_neE {K : PySem.W.Frag} {H : Hp} {Q : VK} {a b : Addr} {xs : List V} (ha : SqL K H a xs) (hb : SqL K H b []) (q : Q (.bl (!xs.isEmpty)) H) : rNeE K (.ref a) (.ref b) H Q := ⟨a, b, xs, rfl, rfl, ha, hb, q⟩
theorem i_eqE {K : PySem.W.Frag} {H : Hp} {Q : VK} {a b : Addr} {xs : List V} (ha : SqL K H a xs) (hb : SqL K H b []) (q : Q (.bl xs.isEmpty) H) : rEqE K (.ref a) (.ref b) H Q := ⟨a, b, xs, rfl, rfl, ha, hb, q⟩
end
open L2 PySem PySem.Spec PyProof.Rows
local macro_rules | `(tactic| walk_at "jz") => `(tactic| first
  | assumption
  | (rw [sizeLine_eq]; simp only [List.length_map, List.length_append, List.length_cons, List.length_nil, List.length_range, List.length_take, List.length_drop]; omega)
  | (rw [sizeLine_eq]; omega)
  | fail "none")
local macro_rules | `(tactic| walk_at "jc") => `(tactic| first
  | assumption
  | (refine ⟨?_, ?_⟩ <;> omega)
  | (show (0 : Int) < _; omega)
  | (show (0 : Int) < _; decide)
  | (refine ⟨?_, ?_, ?_⟩ <;> decide)
  | (refine ⟨?_, ?_⟩ <;> decide)
  | (left; refine ⟨?_, ?_⟩ <;> omega)
  | (right; refine ⟨?_, ?_⟩ <;> omega)
  | fail "none")
local macro_rules | `(tactic| walk_at "jn") => `(tactic| first
  | assumption
  | (apply Ne.symm; assumption)
  | (refine Fd.ne (H := ?h0) (c := ?c0) ?e0 ?n0; (case n0 => assumption); (case e0 => walk_at "jf"))
  | (apply Ne.symm; refine Fd.ne (H := ?h0) (c := ?c0) ?e0 ?n0; (case n0 => assumption); (case e0 => walk_at "jf"))
  | (refine ne_of_none (H := ?h0) (o := ?o0) ?e0 ?n0; (case n0 => assumption); (case e0 => walk_at "jl"))
  | (apply Ne.symm; refine ne_of_none (H := ?h0) (o := ?o0) ?e0 ?n0; (case n0 => assumption); (case e0 => walk_at "jl"))
  | fail "none")
local macro_rules | `(tactic| walk_at "jl") => `(tactic| first
  | assumption
  | exact upd_same
  | (refine Ch.at (a := ?a0) (H := ?h0) ?c0 ?n0 ?e0; (case c0 => assumption); (case n0 => walk_at "jn"); (case e0 => walk_at "jl"))
  | (refine (upd_ne ?_).trans ?_; (walk_at "jn"); (walk_at "jl"))
  | fail "none")
local macro_rules | `(tactic| walk_at "jq") => `(tactic| first
  | assumption
  | ((with_reducible refine sq_lst ?_); (walk_at "jl"))
  | ((with_reducible refine sq_tup ?_); (walk_at "jl"))
  | ((with_reducible refine Ch.sqA (a := ?a0) (H := ?h0) ?c0 ?n0 ?e0); (case c0 => assumption); (case n0 => walk_at "jn"); (case e0 => walk_at "jq"))
  | ((with_reducible refine Ch.sqL (a := ?a0) (H := ?h0) ?c0 ?n0 ?e0); (case c0 => assumption); (case n0 => walk_at "jn"); (case e0 => walk_at "jq"))
  | ((with_reducible refine Ch.sqT (a := ?a0) (H := ?h0) ?c0 ?n0 ?e0); (case c0 => assumption); (case n0 => walk_at "jn"); (case e0 => walk_at "jq"))
  | ((with_reducible refine sqA_same (H := ?h0) ?c0 ?e0); (case c0 => first | assumption | (refine Same.upd_new ?_; assumption)); (case e0 => walk_at "jq"))
  | ((with_reducible refine SqA.l ?_); (walk_at "jq"))
  | ((with_reducible refine SqA.t ?_); (walk_at "jq"))
  | fail "none")
local macro_rules | `(tactic| walk_at "jf") => `(tactic| first
  | assumption
  | (refine Fd.upd ?_ ?_; (walk_at "jf"); (walk_at "jn"))
  | fail "none")
local macro_rules | `(tactic| walk_at "jh") => `(tactic| first
  | assumption
  | exact Ch.refl _
  | exact Ch.upd_self
  | (refine Ch.upd_l ?_ ?_; (walk_at "jh"); assumption)
  | (refine Ch.upd_a ?_; (walk_at "jh"))
  | (refine Ch.upd_n ?c0 ?c1; (case c1 => assumption); (case c0 => walk_at "jh"))
  | (refine Ch.trans (H1 := ?h1) ?c0 ?c1; (case c1 => assumption); (case c0 => walk_at "jh"))
  | fail "none")
local macro_rules | `(tactic| walk_at "jt") => `(tactic| first
  | assumption
  | exact TK.refl _
  | ((with_reducible refine TK.new' ?c0 ?c1); (case c1 => assumption); (case c0 => walk_at "jt"))
  | ((with_reducible refine TK.lst' (xs := ?xs1) ?c0 ?c1); (case c1 => walk_at "jl"); (case c0 => walk_at "jt"))
  | ((with_reducible refine TK.ch' (H1 := ?h1) (a := ?a1) (c := ?k1) ?c0 ?c1 ?c2); (case c1 => assumption); (case c2 => walk_at "jf"); (case c0 => walk_at "jt"))
  | fail "jt")
local macro_rules | `(tactic| walk_at "js") => `(tactic| with_reducible (first
  | refine i_seq ?_ | refine i_asg ?_ | refine i_gname ?_ | refine i_ifS ?_ | refine i_test ?_ | refine i_tB ?_ | refine i_ret ?_ | refine i_retN ?_ | refine i_drop ?_ | refine i_next ?_
  | refine i_op ?_ | refine i_un ?_ | refine i_c ?_ | refine i_rI0 ?_ | refine i_rU ?_ | refine i_add ?_ | refine i_sub ?_ | refine i_eqI ?_ | refine i_neI ?_ | refine i_eqS ?_ | refine i_neS ?_
  | refine i_bl ?_ | refine i_blQ ?_ | refine i_not ?_ | refine i_and ?_ | refine i_or ?_ | refine i_notV ?_ | refine i_andV ?_ | refine i_orV ?_ | refine i_if ?_ | refine i_chain ?_
  | refine i_gsub ?_ | refine i_cons ?_ | refine i_nil ?_ | refine i_cb ?_ | refine i_call ?_ | refine i_tup ?_ | refine i_lst ?_ | refine i_par ?_ | refine i_par' ?_ | refine i_par3 ?_ | refine i_par3' ?_
  | refine i_sl ?_ | refine i_npart ?_ | refine i_part ?_ | refine i_partI ?_ | refine i_bm ?_ | refine i_for ?_ | refine i_lc ?_ | refine i_yes ?_ | refine i_lrg ?_ | refine i_gcons ?_ | refine i_gnil ?_ | refine i_rng1 ?_ | refine i_rng2 ?_ | refine i_ilist ?_ | refine i_itup ?_
  | refine i_iteT ?_ | refine i_iteF ?_ | refine i_iteNT ?_ | refine i_iteNF ?_
  | fail "js"))
local macro_rules | `(tactic| walk_at "jv") => `(tactic| first
  | walk_at "js"
  | ((with_reducible refine i_var (v := ?v) ?e ?_); (case e => rfl))
  | ((with_reducible refine i_ixL (v := ?v) (xs := ?xs) ?e ?z ?_); (case e => walk_at "jq"); (case z => first | exact at0 | exact at1 | exact at2 | assumption))
  | ((with_reducible refine i_ixT (v := ?v) (xs := ?xs) ?e ?z ?_); (case e => walk_at "jq"); (case z => first | exact at0 | exact at1 | exact at2 | assumption))
  | ((with_reducible refine i_setL (xs := ?xs) (j := ?j) ?e ?z ?_); (case e => walk_at "jl"); (case z => first | rfl | assumption))
  | (with_reducible refine i_ite (fun _ => ?_) (fun _ => ?_))
  | (with_reducible refine i_iteN (fun _ => ?_) (fun _ => ?_))
  | ((with_reducible refine i_rI (i := ?i) (j := ?j) ?c ?_); (case c => walk_at "jc"))
  | (with_reducible refine i_int ?_)
  | (with_reducible refine i_intB ?_)
  | (with_reducible refine i_max ?_)
  | (with_reducible refine i_min ?_)
  | ((with_reducible refine i_tupL (ys := ?ys) ?e ?_); (case e => walk_at "jq"))
  | ((with_reducible refine i_tupT (ys := ?ys) ?e ?_); (case e => walk_at "jq"))
  | ((with_reducible refine i_lstL (ys := ?ys) ?e ?_); (case e => walk_at "jq"))
  | ((with_reducible refine i_lstT (ys := ?ys) ?e ?_); (case e => walk_at "jq"))
  | ((with_reducible refine i_lenL (ys := ?ys) ?e ?_); (case e => walk_at "jq"))
  | ((with_reducible refine i_lenT (ys := ?ys) ?e ?_); (case e => walk_at "jq"))
  | ((with_reducible refine i_all (bs := ?bs) ?e ?_); (case e => walk_at "jq"))
  | ((with_reducible refine i_slL (xs := ?xs) ?e ?_); (case e => walk_at "jq"))
  | ((with_reducible refine i_tyL (xs := ?xs) ?e ?_); (case e => walk_at "jq"))
  | ((with_reducible refine i_app (xs := ?xs) ?e ?z ?_); (case e => walk_at "jl"); (case z => walk_at "jz"))
  | ((with_reducible refine i_ixA (v := ?v) (xs := ?xs) ?e ?z ?_); (case e => walk_at "jq"); (case z => first | exact at0 | exact at1 | exact at2 | assumption))
  | ((with_reducible refine i_lenA (ys := ?ys) ?e ?_); (case e => walk_at "jq"))
  | ((with_reducible refine i_lstA (ys := ?ys) ?e ?_); (case e => walk_at "jq"))
  | ((with_reducible refine i_sum (ns := ?ns) ?e ?_); (case e => walk_at "jq"))
  | ((with_reducible refine i_rgK ?b ?_); (case b => first | assumption | (refine ⟨?_, ?_⟩ <;> omega)))
  | ((with_reducible refine i_rgK2 ?b ?_); (case b => first | assumption | (refine ⟨?_, ?_, ?_, ?_⟩ <;> omega)))
  | ((with_reducible refine i_ilK (xs := ?xs) ?e ?_); (case e => walk_at "jq"))
  | ((with_reducible refine i_itK (xs := ?xs) ?e ?_); (case e => walk_at "jq"))
  | ((with_reducible refine i_gtup (xs := ?xs) ?e ?z ?_); (case e => walk_at "jq"); (case z => rfl))
  | (with_reducible refine is_int _ ?_)
  | (with_reducible refine is_int_bool _ ?_)
  | (with_reducible refine is_str _ ?_)
  | ((with_reducible refine is_tup (xs := ?xs) ?e ?_); (case e => walk_at "jq"))
  | ((with_reducible refine i_wip ?z ?_); (case z => rfl))
  | ((with_reducible refine i_lcE (acc := ?acc) ?e ?z ?_); (case e => walk_at "jl"); (case z => walk_at "jz"))
  | ((with_reducible refine i_inS (ns := ?ns) ?e ?_); (case e => walk_at "jq"))
  | ((with_reducible refine i_al ?z ?_); (case z => first | (show _ ≤ sizeLine; decide) | walk_at "jz"))
  | (with_reducible refine i_nx ?_) | (with_reducible refine i_rt ?_) | (with_reducible refine i_bk ?_) | (with_reducible refine i_ct ?_)
  | fail "none")
section
open L2 PySem PySem.Spec PyProof.Rows
def topS (i : Nat) : Stmt := PySem.Challenge.pw_eachinturn_k32_rings_of_arrows.main.body.getD i (.Pass ⟨0, 0, 0, 0⟩)
abbrev s__law_draw : Stmt := topS 30
theorem sc__law_draw : FnScope ["_law_feed_here", "_law_many", "_law_rest", "_law_got", "_law_stir"] ["_law_feed_here", "_law_many"] (defScope s__law_draw) := ⟨rfl, rfl, rfl, by decide +kernel, rfl, by decide +kernel, by decide +kernel⟩
abbrev s__law_feed : Stmt := topS 29
theorem sc__law_feed : FnScope ["_law_script", "_law_k", "_law_cell"] ["_law_script", "_law_k"] (defScope s__law_feed) := ⟨rfl, rfl, rfl, by decide +kernel, rfl, by decide +kernel, by decide +kernel⟩
abbrev s__law_one : Stmt := topS 31
theorem sc__law_one : FnScope ["_law_feed_here", "_law_things"] ["_law_feed_here", "_law_things"] (defScope s__law_one) := ⟨rfl, rfl, rfl, by decide +kernel, rfl, by decide +kernel, by decide +kernel⟩
abbrev s__law_mixed : Stmt := topS 32
theorem sc__law_mixed : FnScope ["_law_feed_here", "_law_things", "_law_pool", "_law_got", "_law_turn"] ["_law_feed_here", "_law_things"] (defScope s__law_mixed) := ⟨rfl, rfl, rfl, by decide +kernel, rfl, by decide +kernel, by decide +kernel⟩
abbrev s__law_names : Stmt := topS 33
theorem sc__law_names : FnScope ["_law_feed_here", "_law_many"] ["_law_feed_here", "_law_many"] (defScope s__law_names) := ⟨rfl, rfl, rfl, by decide +kernel, rfl, by decide +kernel, by decide +kernel⟩
section
variable {base : Heap} {P : Program} {w : World} {K : PySem.W.Frag} {mg : Str → Option Value}
theorem ok_draw (D : Dn K mg "_law_draw" s__law_draw ["_law_feed_here", "_law_many"]) (B : Bn mg) : Cl P w K mg base 1 "_law_draw" ["_law_feed_here", "_law_many"] spDraw := by
  refine D.cl sc__law_draw (fun vs H Q E h => ?_) (fun f cdv A outer s H vs Q E hr h => ?_)
  · obtain ⟨a, m, c, rfl, _⟩ := h
    rfl
  · obtain ⟨a, m, c, rfl, ⟨x, y, n, ha, hx, hy, hy2, hn, hnc⟩, hm0, hm1, hc, q⟩ := h
    refine ⟨_, (pss_cons (ps_if (pt_cmpR op_gt (pe_ix (k_ixL (K := K)) (pv 0) pe_int (fun _ _ => rfl)) pe_int (nomark _)) (pss_cons (ps_set (i := 2) sc__law_draw.nd rfl (by first | exact Or.inl rfl | exact Or.inr rfl) (pe_op op_fdiv (pe_ix (k_ixL (K := K)) (pv 0) pe_int (fun _ _ => rfl)) (pv 1)))
      (pss_cons (ps_set (i := 3) sc__law_draw.nd rfl (by first | exact Or.inl rfl | exact Or.inr rfl) (pe_op op_sub (pe_ix (k_ixL (K := K)) (pv 0) pe_int (fun _ _ => rfl)) (pe_op op_mul (pv 2) (pv 1))))
      (pss_cons (ps_asg (pv 2) (pg_sub (pv 0) pe_int set_list))
      (pss_one (ps_ret (pv 3)))))) pss_nil)
      (pss_cons (ps_asg (pe_op op_add (pe_ix (k_ixL (K := K)) (pv 0) pe_int (fun _ _ => rfl)) pe_int) (pg_sub (pv 0) pe_int set_list))
      (pss_cons (ps_set (i := 4) sc__law_draw.nd rfl (by first | exact Or.inl rfl | exact Or.inr rfl) (pe_op op_add (pe_ix (k_ixL (K := K)) (pv 0) pe_int (fun _ _ => rfl)) (pe_op op_mul pe_int (pe_ix (k_ixL (K := K)) (pv 0) pe_int (fun _ _ => rfl)))))
      (pss_cons (ps_set (i := 4) sc__law_draw.nd rfl (by first | exact Or.inl rfl | exact Or.inr rfl) (pe_op op_mod (pe_callTy (j_int) rfl B.int_ (by decide +kernel) (pa_cons (pe_op op_add (pe_op op_mulW (pe_op op_mulW (pv 4) (pv 4)) (pv 4)) (pe_op op_mul pe_int (pe_ix (k_ixL (K := K)) (pv 0) pe_int (fun _ _ => rfl)))) pa_nil)) (pe_op op_add (pe_op op_pow pe_int pe_int) pe_int)))
      (pss_cons (ps_set (i := 4) sc__law_draw.nd rfl (by first | exact Or.inl rfl | exact Or.inr rfl) (pe_op op_mod (pe_callTy (j_int) rfl B.int_ (by decide +kernel) (pa_cons (pe_op op_add (pe_op op_mulW (pv 4) (pv 4)) pe_int) pa_nil)) (pe_op op_add (pe_op op_pow pe_int pe_int) pe_int)))
      (pss_one (ps_ret (pe_op op_mod (pe_callTy (j_int) rfl B.int_ (by decide +kernel) (pa_cons (pe_op op_fdiv (pv 4) (pe_op op_pow pe_int pe_int)) pa_nil)) (pv 1))))))))), ?_⟩
    repeat' (walk_at "jv")
    · have e1 : 0 ≤ x / m := Int.ediv_nonneg hx (by omega)
      have e2 : x % m = x - x / m * m := by
        rw [Int.emod_def, Int.mul_comm]
      refine q _ _ (by rw [← e2]; exact Int.emod_nonneg _ (by omega)) (by rw [← e2]; exact Int.emod_lt_of_pos _ hm0) ⟨x / m, y, n, upd_same, e1, hy, hy2, hn, by omega⟩ Ch.upd_self
    · obtain ⟨c1, c2⟩ := cube_ok (s := y + 6700417 * (n + 1)) (by omega) (by omega)
      repeat' (walk_at "jv")
      generalize (y + 6700417 * (n + 1)) * (y + 6700417 * (n + 1)) * (y + 6700417 * (n + 1)) + 15485863 * (n + 1) = z at *
      have b1 : 0 ≤ z % (10 ^ Int.toNat 43 + 57) := Int.emod_nonneg _ (by decide)
      have b2 : z % (10 ^ Int.toNat 43 + 57) < 10 ^ Int.toNat 43 + 57 := Int.emod_lt_of_pos _ (by decide)
      rw [show (10 : Int) ^ Int.toNat 43 + 57 = 10 ^ 43 + 57 from rfl] at *
      generalize z % (10 ^ 43 + 57) = u at *
      have c3 : CMulW u u := (cube_ok b1 (Int.lt_trans b2 (by decide))).1
      repeat' (walk_at "jv")
      refine q _ _ (Int.emod_nonneg _ (by omega)) (Int.emod_lt_of_pos _ hm0) ⟨x, y, n + 1, upd_same, hx, hy, hy2, by omega, by omega⟩ Ch.upd_self
theorem ok_one (D : Dn K mg "_law_one" s__law_one ["_law_feed_here", "_law_things"]) (B : Bn mg) (C__law_draw : Cl P w K mg base 1 "_law_draw" ["_law_feed_here", "_law_many"] spDraw) : Cl P w K mg base 2 "_law_one" ["_law_feed_here", "_law_things"] (spOne K) := by
  refine D.cl sc__law_one (fun vs H Q E h => ?_) (fun f cdv A outer s H vs Q E hr h => ?_)
  · obtain ⟨a, p, c, xs, rfl, _⟩ := h
    rfl
  · obtain ⟨a, p, c, xs, rfl, hf, hp, hpa, h0, hz, hc, q⟩ := h
    refine ⟨_, (pss_one (ps_ret (pe_ix ix_any (pv 1) (pe_c C__law_draw hr (pa_cons (pv 0) (pa_cons (pe_callB (k_len (K := K)) rfl B.len_ (by decide +kernel) (pa_cons (pv 1) pa_nil)) pa_nil))) (fun _ _ => rfl)))), ?_⟩
    repeat' (walk_at "jv")
    refine ⟨a, xs.length, c, rfl, hf, by omega, by omega, hc, fun r H1 r0 r1 f1 k1 => ?_⟩
    obtain ⟨k, rfl⟩ := Int.eq_ofNat_of_zero_le r0
    have hk : k < xs.length := by omega
    refine i_ixA (k1.sqA hpa hp) (atI_nat (List.getElem?_eq_getElem hk)) ?_
    repeat' (walk_at "jv")
    exact q _ _ (List.getElem_mem hk) f1 k1
end
end
section
open L2 PySem PySem.Spec PyProof.Rows
section
variable {base : Heap} {P : Program} {w : World} {K : PySem.W.Frag} {mg : Str → Option Value}
theorem ok_mixed (D : Dn K mg "_law_mixed" s__law_mixed ["_law_feed_here", "_law_things"]) (B : Bn mg) (C__law_draw : Cl P w K mg base 1 "_law_draw" ["_law_feed_here", "_law_many"] spDraw) : Cl P w K mg base 2 "_law_mixed" ["_law_feed_here", "_law_things"] (spMixed K) := by
  refine D.cl sc__law_mixed (fun vs H Q E h => ?_) (fun f cdv A outer s H vs Q E hr h => ?_)
  · obtain ⟨a, p, c, xs, rfl, _⟩ := h
    rfl
  · obtain ⟨a, p, c, xs, rfl, hf, hp, hpa, hz, hc, q⟩ := h
    refine ⟨_, (pss_cons (ps_par (i := 2) (j := 3) rfl sc__law_mixed.nd rfl rfl (by decide) rfl rfl (pa_cons (pe_callTy (k_list (K := K)) rfl B.list_ (by decide +kernel) (pa_cons (pv 1) pa_nil)) (pa_cons (pe_lst pa_nil) pa_nil)) (by rfl))
      (pss_cons (ps_for PassesOwn.never rfl (pi_range1 rfl B.range_ (pa_cons (pe_callB (k_len (K := K)) rfl B.len_ (by decide +kernel) (pa_cons (pv 1) pa_nil)) pa_nil)) (pg_name (i := 4) sc__law_mixed.nd rfl (by first | exact Or.inl rfl | exact Or.inr rfl)) (pss_one (ps_expr (pe_bm PySem.F.plainAttrs_list PySem.F.slot_list_append PySem.F.type_list_append mt_append (pv 3) (pa_cons (pe_bm PySem.F.plainAttrs_list PySem.F.slot_list_pop PySem.F.type_list_pop mt_popAt (pv 2) (pa_cons (pe_c C__law_draw hr (pa_cons (pv 0) (pa_cons (pe_callB (k_len (K := K)) rfl B.len_ (by decide +kernel) (pa_cons (pv 2) pa_nil)) pa_nil))) pa_nil)) pa_nil)))))
      (pss_one (ps_ret (pv 3))))), ?_⟩
    repeat' (walk_at "jv")
    intro L nL
    have nLa := hf.ne nL
    repeat' (walk_at "jv")
    intro G nG
    have nGL : G ≠ L := by walk_at "jn"
    have nG0 : H G = none := Ch.free (a := a) (by walk_at "jh") (by walk_at "jn") nG
    have nGa := hf.ne nG0
    repeat' (walk_at "jv")
    refine f_range (fun i σ H' => ∃ y4 pool gs, σ = [some (.ref a), some (.ref p), some (.ref L), some (.ref G), y4] ∧ H' L = some (.lst pool) ∧ H' G = some (.lst gs) ∧ (gs ++ pool).Perm xs ∧ gs.length = i ∧ Fd H' a (c + i) ∧ Ch a H H') ⟨none, xs, [], rfl, ?_, ?_, List.Perm.refl _, rfl, ?_, ?_⟩ (fun i σ H' hi h => ?_) (fun σ H' h => ?_)
    · walk_at "jl"
    · walk_at "jl"
    · exact Fd.mono (c := c) (by walk_at "jf") (by omega)
    · walk_at "jh"
    · obtain ⟨y4, pool, gs, rfl, h1, h2, h3, h4, h5, h6⟩ := h
      have hl := h3.length_eq
      rw [List.length_append] at hl
      repeat' (walk_at "jv")
      refine ⟨a, pool.length, c + i, rfl, h5, by omega, by omega, by omega, fun r H1 r0 r1 f1 k1 => ?_⟩
      obtain ⟨k, rfl⟩ := Int.eq_ofNat_of_zero_le r0
      have hk : k < pool.length := by omega
      repeat' (walk_at "jv")
      refine i_popAt (xs := pool) (by walk_at "jl") (by omega) (List.getElem?_eq_getElem hk) ?_
      repeat' (walk_at "jv")
      refine ⟨_, _, _, rfl, by walk_at "jl", by walk_at "jl", ?_, ?_, ?_, by walk_at "jh"⟩
      · rw [List.append_assoc]
        exact (List.Perm.append_left gs (perm_erase pool k hk)).trans h3
      · rw [List.length_append, h4]
        rfl
      · exact Fd.mono (c := c + i + 1) (by walk_at "jf") (by omega)
    · obtain ⟨y4, pool, gs, rfl, h1, h2, h3, h4, h5, h6⟩ := h
      repeat' (walk_at "jv")
      have hl := h3.length_eq
      rw [List.length_append] at hl
      have e0 : pool = [] := List.eq_nil_of_length_eq_zero (by omega)
      rw [e0, List.append_nil] at h3
      exact q G gs H' h3 nG0 h2 (h5.mono (by omega)) h6
def theNames : List Str := ["a", "b10", "b", "zz", "a1", "q1w2e3r4", "b9", "x", "m0", "road", "k", "a1b"]
theorem the_names : IsNames theNames := ⟨by decide +kernel, by decide +kernel⟩
theorem ok_names (D : Dn K mg "_law_names" s__law_names ["_law_feed_here", "_law_many"]) (B : Bn mg) (C__law_mixed : Cl P w K mg base 2 "_law_mixed" ["_law_feed_here", "_law_things"] (spMixed K)) : Cl P w K mg base 3 "_law_names" ["_law_feed_here", "_law_many"] spNames := by
  refine D.cl sc__law_names (fun vs H Q E h => ?_) (fun f cdv A outer s H vs Q E hr h => ?_)
  · obtain ⟨a, m, c, rfl, _⟩ := h
    rfl
  · obtain ⟨a, m, c, rfl, hf, hm0, hm1, hc, q⟩ := h
    refine ⟨_, (pss_one (ps_ret (pe_slice (k_slL (K := K)) (pe_c C__law_mixed hr (pa_cons (pv 0) (pa_cons (pe_lst (pa_cons pe_str (pa_cons pe_str (pa_cons pe_str (pa_cons pe_str (pa_cons pe_str (pa_cons pe_str (pa_cons pe_str (pa_cons pe_str (pa_cons pe_str (pa_cons pe_str (pa_cons pe_str (pa_cons pe_str pa_nil))))))))))))) pa_nil))) po_none (po_some (pv 1))))), ?_⟩
    repeat' (walk_at "jv")
    intro L nL
    have nLa := hf.ne nL
    repeat' (walk_at "jv")
    refine ⟨a, L, c, theNames.map V.str, rfl, by walk_at "jf", SqA.l (sq_lst upd_same), nLa, by decide, hc, fun G ys H1 pm nG eG f1 k1 => ?_⟩
    repeat' (walk_at "jv")
    intro R nR
    repeat' (walk_at "jv")
    obtain ⟨ns, rfl⟩ : ∃ ns : List Str, ys = ns.map V.str := by
      refine ⟨ys.map fun v => match v with | .str z => z | _ => Str.empty, ?_⟩
      rw [List.map_map]
      conv => lhs; rw [← List.map_id ys]
      refine List.map_congr_left fun v hv => ?_
      have h1 := pm.mem_iff.mp hv
      obtain ⟨z, _, rfl⟩ := List.mem_map.mp h1
      rfl
    have pm2 : ns.Perm theNames := by
      have h2 := pm.map fun v => match v with | .str z => z | _ => Str.empty
      rw [List.map_map, List.map_map] at h2
      have e : ((fun v => match v with | V.str z => z | _ => Str.empty) ∘ V.str) = id := rfl
      rw [e, List.map_id, List.map_id] at h2
      exact h2
    obtain ⟨k, rfl⟩ := Int.eq_ofNat_of_zero_le hm0
    have e1 : cutV (ns.map V.str) none (some (k : Int)) = (ns.take k).map V.str := by
      unfold cutV
      rw [HT.sIx_none, HT.sIx_nat, List.drop_zero, Nat.sub_zero, List.length_map, List.map_take]
      have hl := pm2.length_eq
      rw [Nat.min_eq_left (by rw [hl]; show k ≤ 12; omega)]
    refine q R (ns.take k) _ ((the_names.perm pm2).take k) ?_ ?_ ?_ ?_ ?_
    · have hl := pm2.length_eq
      rw [List.length_take, hl]
      show ((min k 12 : Nat) : Int) = k
      omega
    · have n2 : R ≠ a := by walk_at "jn"
      have n3 : upd H L (.lst (theNames.map V.str)) R = none := k1.free n2 nR
      have n4 : R ≠ L := fun z => by rw [z, upd_same] at n3; cases n3
      rw [upd_ne n4] at n3
      exact n3
    · rw [← e1]
      exact upd_same
    · exact f1.upd (Ne.symm (f1.ne nR))
    · exact ((Ch.upd_new nL).trans k1).trans (Ch.upd_new nR)
end
end
section
open L2 PySem PySem.Spec PyProof.Rows
abbrev s__law_web : Stmt := topS 34
theorem sc__law_web : FnScope ["_law_feed_here", "_law_way", "_law_most", "_law_many", "_law_pairs", "_law_shape", "_law_at", "_law_back", "_law_turn", "_law_one_here", "_law_other", "_law_pair", "_law_names_here", "_law_roads"] ["_law_feed_here", "_law_way", "_law_most"] (defScope s__law_web) := ⟨rfl, rfl, rfl, by decide +kernel, rfl, by decide +kernel, by decide +kernel⟩
section
variable {base : Heap} {P : Program} {w : World} {K : PySem.W.Frag} {mg : Str → Option Value}
theorem ok_web (D : Dn K mg "_law_web" s__law_web ["_law_feed_here", "_law_way", "_law_most"]) (B : Bn mg) (C__law_draw : Cl P w K mg base 1 "_law_draw" ["_law_feed_here", "_law_many"] spDraw)
    (C__law_mixed : Cl P w K mg base 2 "_law_mixed" ["_law_feed_here", "_law_things"] (spMixed K)) (C__law_names : Cl P w K mg base 3 "_law_names" ["_law_feed_here", "_law_many"] spNames) :
    Cl P w K mg base 4 "_law_web" ["_law_feed_here", "_law_way", "_law_most"] (spWeb K) := by
  refine D.cl sc__law_web (fun vs H Q E h => ?_) (fun f cdv A outer s H vs Q E hr h => ?_)
  · obtain ⟨a, way, most, c, rfl, _⟩ := h
    rfl
  · obtain ⟨a, way, most, c, rfl, hf, hm1, hm8, hc, q⟩ := h
    refine ⟨_, (pss_cons (ps_set (i := 3) sc__law_web.nd rfl (by first | exact Or.inl rfl | exact Or.inr rfl) (pe_ifExp (pt_cmpR op_eq (pv 1) pe_str (nomark _)) (pe_callB (j_max rfl) rfl B.max_ (by decide +kernel) (pa_cons pe_int (pa_cons (pe_op op_add pe_int (pe_c C__law_draw hr (pa_cons (pv 0) (pa_cons (pv 2) pa_nil)))) pa_nil))) (pe_op op_add pe_int (pe_c C__law_draw hr (pa_cons (pv 0) (pa_cons (pv 2) pa_nil))))))
      (pss_cons (ps_par (i := 4) (j := 5) rfl sc__law_web.nd rfl rfl (by decide) rfl rfl (pa_cons (pe_lst pa_nil) (pa_cons (pe_c C__law_draw hr (pa_cons (pv 0) (pa_cons pe_int pa_nil))) pa_nil)) (by rfl))
      (pss_cons (ps_for PassesOwn.never rfl (pi_range2 rfl B.range_ (pa_cons pe_int (pa_cons (pv 3) pa_nil))) (pg_name (i := 6) sc__law_web.nd rfl (by first | exact Or.inl rfl | exact Or.inr rfl)) (pss_cons (ps_set (i := 7) sc__law_web.nd rfl (by first | exact Or.inl rfl | exact Or.inr rfl) (pe_ifExp (PW.pt (pw_or (pt_cmpR op_eq (pv 5) pe_int (nomark _)) (pw_or1 (pt_cmpR op_eq (pv 1) pe_str (nomark _))))) (pe_op op_sub (pv 6) pe_int) (pe_ifExp (pt_cmpR op_eq (pv 5) pe_int (nomark _)) pe_int (pe_c C__law_draw hr (pa_cons (pv 0) (pa_cons (pv 6) pa_nil))))))
      (pss_one (ps_if (PW.pt (pw_or (pt_cmpR op_ne (pv 1) pe_str (nomark _)) (pw_or1 (pt_cmpR op_gt (pe_c C__law_draw hr (pa_cons (pv 0) (pa_cons pe_int pa_nil))) pe_int (nomark _))))) (pss_one (ps_expr (pe_bm PySem.F.plainAttrs_list PySem.F.slot_list_append PySem.F.type_list_append mt_append (pv 4) (pa_cons (pe_tup (pa_cons (pv 7) (pa_cons (pv 6) pa_nil))) pa_nil)))) pss_nil))))
      (pss_cons (ps_if (pt_cmpR op_eq (pv 1) pe_str (nomark _)) (pss_one (ps_expr (pe_bm PySem.F.plainAttrs_list PySem.F.slot_list_append PySem.F.type_list_append mt_append (pv 4) (pa_cons (pe_tup (pa_cons pe_int (pa_cons (pe_op op_sub (pv 3) pe_int) pa_nil))) pa_nil)))) pss_nil)
      (pss_cons (ps_for PassesOwn.never rfl (pi_range1 rfl B.range_ (pa_cons (pe_ifExp (PW.pt (pw_and (pt_cmpR (k_inS (K := K)) (pv 1) (pe_tup (pa_cons pe_str (pa_cons pe_str pa_nil))) (by rfl)) (pw_and1 (pt_cmpR op_gt (pv 3) pe_int (nomark _))))) (pe_c C__law_draw hr (pa_cons (pv 0) (pa_cons pe_int pa_nil))) pe_int) pa_nil)) (pg_name (i := 8) sc__law_web.nd rfl (by first | exact Or.inl rfl | exact Or.inr rfl)) (pss_cons (ps_set (i := 9) sc__law_web.nd rfl (by first | exact Or.inl rfl | exact Or.inr rfl) (pe_c C__law_draw hr (pa_cons (pv 0) (pa_cons (pv 3) pa_nil))))
      (pss_cons (ps_set (i := 10) sc__law_web.nd rfl (by first | exact Or.inl rfl | exact Or.inr rfl) (pe_op op_mod (pe_callTy (j_int) rfl B.int_ (by decide +kernel) (pa_cons (pe_op op_add (pe_op op_add (pv 9) pe_int) (pe_c C__law_draw hr (pa_cons (pv 0) (pa_cons (pe_op op_sub (pv 3) pe_int) pa_nil)))) pa_nil)) (pv 3)))
      (pss_cons (ps_set (i := 11) sc__law_web.nd rfl (by first | exact Or.inl rfl | exact Or.inr rfl) (pe_tup (pa_cons (pe_callB (j_min rfl) rfl B.min_ (by decide +kernel) (pa_cons (pv 9) (pa_cons (pv 10) pa_nil))) (pa_cons (pe_callB (j_max rfl) rfl B.max_ (by decide +kernel) (pa_cons (pv 9) (pa_cons (pv 10) pa_nil))) pa_nil))))
      (pss_one (ps_if (pt_cmpR (o_notInQ hr.units) (pv 11) (pv 4) (by rfl)) (pss_one (ps_expr (pe_bm PySem.F.plainAttrs_list PySem.F.slot_list_append PySem.F.type_list_append mt_append (pv 4) (pa_cons (pv 11) pa_nil)))) pss_nil))))))
      (pss_cons (ps_set (i := 12) sc__law_web.nd rfl (by first | exact Or.inl rfl | exact Or.inr rfl) (pe_c C__law_names hr (pa_cons (pv 0) (pa_cons (pv 3) pa_nil))))
      (pss_cons (ps_set (i := 13) sc__law_web.nd rfl (by first | exact Or.inl rfl | exact Or.inr rfl) (pe_lst pa_nil))
      (pss_cons (ps_for PassesOwn.never rfl (kpi_list (K := K) (pe_c C__law_mixed hr (pa_cons (pv 0) (pa_cons (pv 4) pa_nil)))) (kpg_tup (K := K) (n := 2) rfl (pgs_cons (pg_name (i := 9) sc__law_web.nd rfl (by first | exact Or.inl rfl | exact Or.inr rfl)) (pgs_cons (pg_name (i := 10) sc__law_web.nd rfl (by first | exact Or.inl rfl | exact Or.inr rfl)) pgs_nil))) (pss_one (ps_expr (pe_bm PySem.F.plainAttrs_list PySem.F.slot_list_append PySem.F.type_list_append mt_append (pv 13) (pa_cons (pe_ifExp (pt_cmpR op_eq (pe_c C__law_draw hr (pa_cons (pv 0) (pa_cons pe_int pa_nil))) pe_int (nomark _)) (pe_tup (pa_cons (pe_ix (k_ixL (K := K)) (pv 12) (pv 9) (fun _ _ => rfl)) (pa_cons (pe_ix (k_ixL (K := K)) (pv 12) (pv 10) (fun _ _ => rfl)) pa_nil))) (pe_tup (pa_cons (pe_ix (k_ixL (K := K)) (pv 12) (pv 10) (fun _ _ => rfl)) (pa_cons (pe_ix (k_ixL (K := K)) (pv 12) (pv 9) (fun _ _ => rfl)) pa_nil)))) pa_nil)))))
      (pss_one (ps_ret (pe_tup (pa_cons (pe_callTy (k_tuple (K := K)) rfl B.tuple_ (by decide +kernel) (pa_cons (pe_c C__law_mixed hr (pa_cons (pv 0) (pa_cons (pv 12) pa_nil))) pa_nil)) (pa_cons (pe_callTy (k_tuple (K := K)) rfl B.tuple_ (by decide +kernel) (pa_cons (pv 13) pa_nil)) pa_nil))))))))))))), ?_⟩
    refine i_seq ?_
    refine i_asg ?_
    refine i_cut (fun v H' => ∃ n : Nat, v = .int n ∧ 1 ≤ n ∧ (n : Int) ≤ max 3 most ∧ (way = "ring" → 3 ≤ n) ∧ Fd H' a (c + 1) ∧ Ch a H H') (fun Q1 hQ1 => ?_) ?_
    · repeat' (walk_at "jv")
      · refine ⟨a, most, c, rfl, hf, by omega, by omega, by omega, fun r H1 r0 r1 f1 k1 => ?_⟩
        repeat' (walk_at "jv")
        obtain ⟨k, rfl⟩ := Int.eq_ofNat_of_zero_le r0
        exact hQ1 _ _ ⟨max 3 (1 + k), congrArg V.int (by omega), by omega, by omega, fun _ => by omega, f1, k1⟩
      · rename_i hw
        refine ⟨a, most, c, rfl, hf, by omega, by omega, by omega, fun r H1 r0 r1 f1 k1 => ?_⟩
        repeat' (walk_at "jv")
        obtain ⟨k, rfl⟩ := Int.eq_ofNat_of_zero_le r0
        exact hQ1 _ _ ⟨1 + k, congrArg V.int (by omega), by omega, by omega, fun z => absurd z hw, f1, k1⟩
    rintro v H1 ⟨n, rfl, n1, n3, nr, f1, k1⟩
    repeat' (walk_at "jv")
    intro L nL
    have nLa := f1.ne nL
    have nL0 : H L = none := k1.free nLa nL
    repeat' (walk_at "jv")
    refine ⟨a, 3, c + 1, rfl, by walk_at "jf", by omega, by omega, by omega, fun r H2 r0 r1 f2 k2 => ?_⟩
    have eL : H2 L = some (.lst []) := by walk_at "jl"
    have k20 : Ch a H H2 := by walk_at "jh"
    repeat' (walk_at "jv")
    -- the tree's roads
    let PL := fun (pl : List (Nat × Nat)) (t : Nat) => pl.Nodup ∧ (∀ p ∈ pl, p.1 < p.2 ∧ p.2 ≤ t ∧ (way = "ring" → p.2 = p.1 + 1)) ∧ pl.length ≤ t
    have grow : ∀ (pl : List (Nat × Nat)) (i b : Nat), PL pl i → b ≤ i → (way = "ring" → b = i) → PL (pl ++ [(b, i + 1)]) (i + 1) := by
      rintro pl i b ⟨p1, p2, p3⟩ b1 b2
      refine ⟨List.nodup_append.mpr ⟨p1, by simp, fun x hx y hy => ?_⟩, fun p hp => ?_, ?_⟩
      · rcases List.mem_singleton.mp hy with rfl
        intro z
        have := (p2 x hx).2.1
        rw [z] at this
        simp at this
        omega
      · rcases List.mem_append.mp hp with hp | hp
        · have := p2 p hp
          exact ⟨this.1, by omega, this.2.2⟩
        · rcases List.mem_singleton.mp hp with rfl
          exact ⟨by show b < i + 1; omega, Nat.le_refl _, fun z => by show i + 1 = b + 1; rw [b2 z]⟩
      · rw [List.length_append]
        show pl.length + 1 ≤ i + 1
        omega
    have stay : ∀ (pl : List (Nat × Nat)) (i : Nat), PL pl i → PL pl (i + 1) := by
      rintro pl i ⟨p1, p2, p3⟩
      exact ⟨p1, fun p hp => by have := p2 p hp; exact ⟨this.1, by omega, this.2.2⟩, by omega⟩
    refine f_range (fun i σ H' => ∃ y6 y7 pl, σ = [some (.ref a), some (.str way), some (.int most), some (.int n), some (.ref L), some (.int r), y6, y7, none, none, none, none, none, none] ∧ LsD K H' L (pl.map pairD) ∧ PL pl i ∧ Fd H' a (c + 2 + 2 * i) ∧ Ch a H H')
      ⟨none, none, [], rfl, LsD.nil eL, ⟨List.nodup_nil, fun _ z => absurd z List.not_mem_nil, Nat.le_refl _⟩, by simpa using f2.mono (by omega), k20⟩ (fun i σ H3 hi h => ?_) (fun σ H3 h => ?_)
    · obtain ⟨y6, y7, pl, rfl, l3, hp, f3, k3⟩ := h
      refine i_gname ?_
      refine i_seq ?_
      refine i_asg ?_
      refine i_cut (fun v H' => ∃ b : Nat, v = .int b ∧ b ≤ i ∧ (way = "ring" → b = i) ∧ Fd H' a (c + 2 + 2 * i + 1) ∧ Ch a H3 H') (fun Q1 hQ1 => ?_) ?_
      · repeat' (walk_at "jv")
        · exact hQ1 _ _ ⟨i, congrArg V.int (by omega), Nat.le_refl _, fun _ => rfl, f3.mono (by omega), Ch.refl _⟩
        · exact hQ1 _ _ ⟨i, congrArg V.int (by omega), Nat.le_refl _, fun _ => rfl, f3.mono (by omega), Ch.refl _⟩
        · rename_i hw _
          exact hQ1 _ _ ⟨0, rfl, Nat.zero_le _, fun z => absurd z hw, f3.mono (by omega), Ch.refl _⟩
        · rename_i hw _
          refine ⟨a, _, _, rfl, f3, by omega, by omega, by omega, fun r1 H4 s0 s1 f4 k4 => ?_⟩
          repeat' (walk_at "jv")
          obtain ⟨k, rfl⟩ := Int.eq_ofNat_of_zero_le s0
          exact hQ1 _ _ ⟨k, rfl, by omega, fun z => absurd z hw, f4, k4⟩
      rintro v H4 ⟨b, rfl, b1, b2, f4, k4⟩
      obtain ⟨vs, e4, d4, t4⟩ := l3.ch k4 f3 nLa
      have hlen : vs.length = pl.length := by rw [DpAll.len d4, List.length_map]
      have hpl := hp.2.2
      have e1 : (1 + (i : Int)) = ((i + 1 : Nat) : Int) := by omega
      rw [e1]
      repeat' (walk_at "jv")
      · intro p np
        repeat' (walk_at "jv")
        exact ⟨_, _, pl ++ [(b, i + 1)], rfl, by rw [List.map_append]; exact LsD.push2 e4 d4 t4 np (.int b) (.int (i + 1 : Nat)) rfl rfl, grow pl i b hp b1 b2, Fd.mono (c := c + 2 + 2 * i + 1) (by walk_at "jf") (by omega), by walk_at "jh"⟩
      · refine ⟨a, 5, _, rfl, f4, by omega, by omega, by omega, fun r1 H5 s0 s1 f5 k5 => ?_⟩
        obtain ⟨us, e5, d5, t5⟩ := LsD.ch ⟨vs, e4, d4, t4⟩ k5 f4 nLa
        have hlen5 : us.length = pl.length := by rw [DpAll.len d5, List.length_map]
        repeat' (walk_at "jv")
        · intro p np
          repeat' (walk_at "jv")
          exact ⟨_, _, pl ++ [(b, i + 1)], rfl, by rw [List.map_append]; exact LsD.push2 e5 d5 t5 np (.int b) (.int (i + 1 : Nat)) rfl rfl, grow pl i b hp b1 b2, Fd.mono (c := c + 2 + 2 * i + 1 + 1) (by walk_at "jf") (by omega), by walk_at "jh"⟩
        · exact ⟨_, _, pl, rfl, ⟨us, e5, d5, t5⟩, stay pl i hp, f5.mono (by omega), by walk_at "jh"⟩
    · obtain ⟨y6, y7, pl, rfl, l3, hp, f3, k3⟩ := h
      have hn1 : (((n : Int) - 1).toNat : Int) = n - 1 := by omega
      rw [hn1] at f3
      let PW := fun (pl : List (Nat × Nat)) => pl.Nodup ∧ (∀ p ∈ pl, p.1 < p.2 ∧ p.2 < n)
      refine i_seq ?_
      refine i_cutS (fun σ H' => ∃ ql, σ = [some (.ref a), some (.str way), some (.int most), some (.int n), some (.ref L), some (.int r), y6, y7, none, none, none, none, none, none] ∧ LsD K H' L (ql.map pairD) ∧ PW ql ∧ ql.length ≤ n ∧ Fd H' a (c + 20) ∧ Ch a H H') (fun N hN => ?_) ?_
      · obtain ⟨vs, e3, d3, t3⟩ := l3
        repeat' (walk_at "jv")
        · rename_i hw
          intro p np
          have hlen : vs.length = pl.length := by rw [DpAll.len d3, List.length_map]
          have hpl := hp.2.2
          have hn3 := nr hw
          have e1 : (n : Int) - 1 = ((n - 1 : Nat) : Int) := by omega
          rw [e1]
          repeat' (walk_at "jv")
          refine hN _ _ ⟨pl ++ [(0, n - 1)], rfl, by rw [List.map_append]; exact LsD.push2 e3 d3 t3 np (.int 0) (.int (n - 1 : Nat)) rfl rfl, ⟨?_, ?_⟩, ?_, Fd.mono (c := c + 2 + 2 * (n - 1)) (by walk_at "jf") (by omega), by walk_at "jh"⟩
          · refine List.nodup_append.mpr ⟨hp.1, by simp, fun x hx y hy => ?_⟩
            rcases List.mem_singleton.mp hy with rfl
            intro z
            have h9 := (hp.2.1 x hx).2.2 hw
            rw [z] at h9
            simp at h9
            omega
          · intro p hp'
            rcases List.mem_append.mp hp' with hp' | hp'
            · have := hp.2.1 p hp'
              exact ⟨this.1, by omega⟩
            · rcases List.mem_singleton.mp hp' with rfl
              exact ⟨by show 0 < n - 1; omega, by show n - 1 < n; omega⟩
          · rw [List.length_append]
            show pl.length + 1 ≤ n
            omega
        · exact hN _ _ ⟨pl, rfl, ⟨vs, e3, d3, t3⟩, ⟨hp.1, fun p hp' => ⟨(hp.2.1 p hp').1, by have := (hp.2.1 p hp').2.1; omega⟩⟩, by have := hp.2.2; omega, f3.mono (by omega), k3⟩
      rintro σ H4 ⟨ql, rfl, l4, hq, hq2, f4, k4⟩
      clear hp l3 f3 k3 pl
      refine i_seq ?_
      refine i_for ?_
      refine i_rng1 ?_
      refine i_cons ?_
      refine i_cut (fun v H' => ∃ t : Nat, v = .int t ∧ t ≤ 4 ∧ (0 < t → 2 < n) ∧ Fd H' a (c + 30) ∧ Ch a H H' ∧ LsD K H' L (ql.map pairD)) (fun Q1 hQ1 => ?_) ?_
      · refine i_if ?_
        repeat' (walk_at "js")
        repeat' (walk_at "jv")
        intro p np
        repeat' (walk_at "jv")
        refine i_inS (ns := ["whole", "any"]) (SqA.t (sq_tup upd_same)) ?_
        have l5 : LsD K (upd H4 p (.tup [.str "whole", .str "any"])) L (ql.map pairD) := l4.new np
        repeat' (walk_at "jv")
        · refine ⟨a, 5, c + 20, rfl, by walk_at "jf", by omega, by omega, by omega, fun r1 H5 s0 s1 f5 k5 => ?_⟩
          repeat' (walk_at "jv")
          obtain ⟨k, rfl⟩ := Int.eq_ofNat_of_zero_le s0
          exact hQ1 _ _ ⟨k, rfl, by omega, fun _ => by omega, f5.mono (by omega), by walk_at "jh", l5.ch (c := c + 20) k5 (by walk_at "jf") nLa⟩
        · exact hQ1 _ _ ⟨0, rfl, by omega, fun z => absurd z (Nat.lt_irrefl 0), Fd.mono (c := c + 20) (by walk_at "jf") (by omega), by walk_at "jh", l5⟩
        · exact hQ1 _ _ ⟨0, rfl, by omega, fun z => absurd z (Nat.lt_irrefl 0), Fd.mono (c := c + 20) (by walk_at "jf") (by omega), by walk_at "jh", l5⟩
      rintro v H5 ⟨t, rfl, t4, tn, f5, k5, l5⟩
      repeat' (walk_at "jv")
      refine f_range (fun i σ H' => ∃ y8 y9 y10 y11 pl, σ = [some (.ref a), some (.str way), some (.int most), some (.int n), some (.ref L), some (.int r), y6, y7, y8, y9, y10, y11, none, none] ∧ LsD K H' L (pl.map pairD) ∧ PW pl ∧ pl.length ≤ n + i ∧ Fd H' a (c + 30 + 2 * i) ∧ Ch a H H')
        ⟨none, none, none, none, ql, rfl, l5, hq, hq2, f5.mono (by omega), k5⟩ (fun i σ H6 hi h => ?_) (fun σ H6 h => ?_)
      · obtain ⟨y8, y9, y10, y11, pl, rfl, l6, hp, hp2, f6, k6⟩ := h
        have hn2 := tn (by omega)
        repeat' (walk_at "jv")
        refine ⟨a, n, _, rfl, f6, by omega, by omega, by omega, fun x H7 s0 s1 f7 k7 => ?_⟩
        repeat' (walk_at "jv")
        refine ⟨a, (n : Int) - 1, _, rfl, f7, by omega, by omega, by omega, fun y H8 u0 u1 f8 k8 => ?_⟩
        obtain ⟨x, rfl⟩ := Int.eq_ofNat_of_zero_le s0
        obtain ⟨y, rfl⟩ := Int.eq_ofNat_of_zero_le u0
        repeat' (walk_at "jv")
        have eo : ∃ o : Nat, ((x : Int) + 1 + y) % n = o ∧ o < n ∧ o ≠ x := by
          by_cases hz : x + 1 + y < n
          · exact ⟨x + 1 + y, by rw [Int.emod_eq_of_lt (by omega) (by omega)]; omega, hz, by omega⟩
          · refine ⟨x + 1 + y - n, ?_, by omega, by omega⟩
            rw [← Int.sub_emod_right, Int.emod_eq_of_lt (by omega) (by omega)]
            omega
        obtain ⟨o, eo, o1, o2⟩ := eo
        rw [eo]
        repeat' (walk_at "jv")
        intro p np
        obtain ⟨vs, e8, d8, t8⟩ := ((l6.ch k7 f6 nLa).ch k8 f7 nLa).new (o := .tup [.int (min (x : Int) o), .int (max (x : Int) o)]) np
        have hlen : vs.length = pl.length := by rw [DpAll.len d8, List.length_map]
        have em : (min (x : Int) o) = ((min x o : Nat) : Int) := by omega
        have eM : (max (x : Int) o) = ((max x o : Nat) : Int) := by omega
        have dp : Dp K (upd H8 p (.tup [.int (min (x : Int) o), .int (max (x : Int) o)])) (.ref p) (pairD (min x o, max x o)) := by
          rw [em, eM]
          exact .tup (xs := [.int ((min x o : Nat) : Int), .int ((max x o : Nat) : Int)]) (.inl (.inl upd_same)) (.cons (.int _) (.cons (.int _) .nil))
        repeat' (walk_at "jv")
        refine ⟨pairD (min x o, max x o), pl.map pairD, dp, .inl (.lst (sq_lst e8) d8), rfl, pairs_lay pl, by show 0 + 1 ≤ 60; decide, ?_⟩
        rw [if_pos rfl, pairs_any]
        repeat' (walk_at "jv")
        · rename_i hin
          refine ⟨_, _, _, _, pl ++ [(min x o, max x o)], rfl, by rw [List.map_append]; exact LsD.push e8 d8 t8 dp rfl, ⟨?_, ?_⟩, by rw [List.length_append]; show pl.length + 1 ≤ _; omega, Fd.mono (c := c + 30 + 2 * i + 1 + 1) (by walk_at "jf") (by omega), by walk_at "jh"⟩
          · refine List.nodup_append.mpr ⟨hp.1, by simp, fun z hz w hw => ?_⟩
            rcases List.mem_singleton.mp hw with rfl
            intro e
            rw [e] at hz
            exact hin hz
          · intro q hq'
            rcases List.mem_append.mp hq' with hq' | hq'
            · exact hp.2 q hq'
            · rcases List.mem_singleton.mp hq' with rfl
              exact ⟨by show min x o < max x o; omega, by show max x o < n; omega⟩
        · exact ⟨_, _, _, _, pl, rfl, ⟨vs, e8, d8, t8⟩, hp, by omega, Fd.mono (c := c + 30 + 2 * i + 1 + 1) (by walk_at "jf") (by omega), by walk_at "jh"⟩
      · obtain ⟨y8, y9, y10, y11, pl, rfl, l6, hp, hp2, f6, k6⟩ := h
        repeat' (walk_at "jv")
        have nt : (((t : Int).toNat : Nat) : Int) = t := by omega
        rw [nt] at f6
        refine ⟨a, n, _, rfl, f6, by omega, by omega, by omega, fun G ns H7 hns hl nG eG f7 k7 => ?_⟩
        have nGa := f6.ne nG
        have l7 := l6.ch k7 f6 nLa
        have nG0 : H G = none := k6.free nGa nG
        have k70 : Ch a H H7 := k6.trans k7
        repeat' (walk_at "jv")
        intro R nR
        have nRa : R ≠ a := f7.ne nR
        have nR0 : H R = none := k70.free nRa nR
        have nRG : R ≠ G := (ne_of_none eG nR).symm
        have nRL : R ≠ L := by
          obtain ⟨vs, e, _⟩ := l7
          exact (ne_of_none e nR).symm
        obtain ⟨vs, e8, d8, t8⟩ := l7.new (o := .lst []) nR
        have hlen : vs.length = pl.length := by rw [DpAll.len d8, List.length_map]
        repeat' (walk_at "jv")
        refine ⟨a, L, c + 30 + 2 * t + 1000, vs, rfl, by walk_at "jf", SqA.l (sq_lst e8), nLa, by omega, by omega, fun q9 ys H9 pm n9 e9 f9 k9 => ?_⟩
        obtain ⟨es, pe, dy⟩ := DpAll.perm pm d8
        obtain ⟨pl', pp, rfl⟩ := perm_map_inv pe rfl
        have n9a : q9 ≠ a := by walk_at "jn"
        have n9R : q9 ≠ R := by walk_at "jn"
        have dy9 : DpAll K H9 ys (pl'.map pairD) := DpAll.tk (TK.ch (c := c + 30 + 2 * t + 1000) k9 (by walk_at "jf")) _ _ (pairs_only pl') dy
        have eR9 : H9 R = some (.lst []) := by walk_at "jl"
        have eG9 : H9 G = some (.lst (ns.map V.str)) := by walk_at "jl"
        have k90 : Ch a H H9 := by walk_at "jh"
        have n90 : H q9 = none := Ch.free (a := a) (H := H) (H' := upd H7 R (.lst [])) (by walk_at "jh") n9a n9
        have hpl' : pl'.length = pl.length := pp.length_eq
        have hys : ys.length = pl'.length := by rw [DpAll.len dy9, List.length_map]
        have ltn : ∀ p ∈ pl', p.1 < p.2 ∧ p.2 < n := fun p hp' => hp.2 p (pp.mem_iff.mp hp')
        repeat' (walk_at "jv")
        refine f_list ys (fun i σ H' => ∃ y9 y10 rs, σ = [some (.ref a), some (.str way), some (.int most), some (.int n), some (.ref L), some (.int r), y6, y7, y8, y9, y10, y11, some (.ref G), some (.ref R)] ∧ H' q9 = some (.lst ys) ∧ DpAll K H' ys (pl'.map pairD) ∧ H' G = some (.lst (ns.map V.str)) ∧
            LsD K H' R (rs.map roadD) ∧ rs.length = i ∧ (∀ (k : Nat) p x, pl'[k]? = some p → rs[k]? = some x → RoadOf ns p x) ∧ Fd H' a (c + 3000 + 2 * i) ∧ Ch a H H')
          ⟨_, _, [], rfl, e9, dy9, eG9, LsD.nil eR9, rfl, fun k p x _ z => by simp at z, f9.mono (by omega), k90⟩ (fun i σ H' _ h => ?_) (fun i x σ H' hx h => ?_) (fun σ H' h => ?_)
        · obtain ⟨_, _, _, _, h1, _⟩ := h
          exact sq_lst h1
        · obtain ⟨y9, y10, rs, rfl, h1, h2, h3, h4, h5, h6, h7, h8⟩ := h
          obtain ⟨d, hd, dx⟩ := DpAll.get h2 hx
          have hi : i < ys.length := (List.getElem?_eq_some_iff.mp hx).1
          have hip : i < pl'.length := by omega
          rw [List.getElem?_map, List.getElem?_eq_getElem hip] at hd
          have hd' : pairD pl'[i] = d := Option.some.inj hd
          subst hd'
          obtain ⟨p1, p2⟩ := ltn pl'[i] (List.getElem_mem hip)
          have ats : ∀ k, k < n → ∃ z, ns[k]? = some z ∧ atI (ns.map V.str) (k : Int) = some (.str z) := fun k hk => by
            have hk' : k < ns.length := by omega
            exact ⟨ns[k], List.getElem?_eq_getElem hk', atI_nat (by rw [List.getElem?_map, List.getElem?_eq_getElem hk']; rfl)⟩
          obtain ⟨z1, a1, b1⟩ := ats pl'[i].1 (by omega)
          obtain ⟨z2, a2, b2⟩ := ats pl'[i].2 (by omega)
          cases dx with
          | tup hs ha =>
            rename_i b xs
            cases ha with
            | cons g1 g2 =>
              cases g1
              cases g2 with
              | cons g3 g4 =>
                cases g3
                cases g4
                refine ⟨b, _, rfl, hs, rfl, _, _, rfl, ?_⟩
                refine i_gname ?_
                refine ⟨_, _, rfl, ?_⟩
                refine i_gname ?_
                refine ⟨rfl, ?_⟩
                refine i_drop ?_
                refine i_bm ?_
                refine i_var rfl ?_
                obtain ⟨ws, ew, dw, tw⟩ := h4
                have hws : ws.length = rs.length := by rw [DpAll.len dw, List.length_map]
                refine i_tyL (sq_lst ew) ?_
                refine i_cons ?_
                have push : ∀ (H5 : Hp) (p : Addr) (x : Str × Str), RoadOf ns pl'[i] x → H5 p = none → Ch a H' H5 → Fd H5 a (c + 3000 + 2 * i + 1) →
                    ∃ (y9 y10 : Option V) (rs : List (Str × Str)), ([some (.ref a), some (.str way), some (.int most), some (.int n), some (.ref L), some (.int r), y6, y7, y8, some (.int pl'[i].1), some (.int pl'[i].2), y11, some (.ref G), some (.ref R)] : L2.St) = [some (.ref a), some (.str way), some (.int most), some (.int n), some (.ref L), some (.int r), y6, y7, y8, y9, y10, y11, some (.ref G), some (.ref R)] ∧
                      (upd (upd H5 p (.tup [.str x.1, .str x.2])) R (.lst (ws ++ [.ref p]))) q9 = some (.lst ys) ∧ DpAll K (upd (upd H5 p (.tup [.str x.1, .str x.2])) R (.lst (ws ++ [.ref p]))) ys (pl'.map pairD) ∧ (upd (upd H5 p (.tup [.str x.1, .str x.2])) R (.lst (ws ++ [.ref p]))) G = some (.lst (ns.map V.str)) ∧
                      LsD K (upd (upd H5 p (.tup [.str x.1, .str x.2])) R (.lst (ws ++ [.ref p]))) R (rs.map roadD) ∧ rs.length = i + 1 ∧ (∀ (k : Nat) p x, pl'[k]? = some p → rs[k]? = some x → RoadOf ns p x) ∧ Fd (upd (upd H5 p (.tup [.str x.1, .str x.2])) R (.lst (ws ++ [.ref p]))) a (c + 3000 + 2 * (i + 1 : Nat)) ∧ Ch a H (upd (upd H5 p (.tup [.str x.1, .str x.2])) R (.lst (ws ++ [.ref p]))) := by
                  intro H5 p x rx np k5 f5
                  have e5R : H5 R = some (.lst ws) := k5 R _ nRa ew
                  have e59 : H5 q9 = some (.lst ys) := k5 q9 _ n9a h1
                  have e5G : H5 G = some (.lst (ns.map V.str)) := k5 G _ nGa h3
                  have t5 : TK K H' H5 := TK.ch k5 h7
                  have d5w := DpAll.tk t5 _ _ tw dw
                  have npR : R ≠ p := ne_of_none e5R np
                  have np9 : q9 ≠ p := ne_of_none e59 np
                  have npG : G ≠ p := ne_of_none e5G np
                  refine ⟨_, _, rs ++ [x], rfl, ?_, ?_, ?_, by rw [List.map_append]; exact LsD.push2 e5R d5w tw np (.str x.1) (.str x.2) rfl rfl, by rw [List.length_append, h5]; rfl, ?_, ?_, ?_⟩
                  · rw [upd_ne n9R, upd_ne np9]
                    exact e59
                  · exact DpAll.tk ((t5.trans (TK.new np)).trans (TK.lst (xs := ws) (by rw [upd_ne npR]; exact e5R))) _ _ (pairs_only pl') h2
                  · rw [upd_ne nRG.symm, upd_ne npG]
                    exact e5G
                  · intro k p' x' hp' hx'
                    by_cases hk : k < rs.length
                    · rw [List.getElem?_append_left hk] at hx'
                      exact h6 k p' x' hp' hx'
                    · rw [List.getElem?_append_right (by omega)] at hx'
                      have hk0 : k - rs.length = 0 := by
                        cases z : k - rs.length with
                        | zero => rfl
                        | succ m => rw [z] at hx'; simp at hx'
                      rw [hk0] at hx'
                      have hxx : x = x' := by simpa using hx'
                      subst hxx
                      have hki : k = i := by omega
                      subst hki
                      rw [List.getElem?_eq_getElem hip] at hp'
                      have := Option.some.inj hp'
                      subst this
                      exact rx
                  · have := ((f5.upd (q := p) (o := .tup [.str x.1, .str x.2]) (Ne.symm (f5.ne np))).upd (q := R) (o := .lst (ws ++ [.ref p])) (Ne.symm nRa)).mono (d := c + 3000 + 2 * (i + 1 : Nat)) (by omega)
                    exact this
                  · exact ((h8.trans k5).upd_n np).upd_l nR0
                refine i_if ?_
                repeat' (walk_at "js")
                repeat' (walk_at "jv")
                refine ⟨a, 2, _, rfl, h7, by omega, by omega, by omega, fun rr H5 s0 s1 f5 k5 => ?_⟩
                have e5R : H5 R = some (.lst ws) := k5 R _ nRa ew
                have e5G : H5 G = some (.lst (ns.map V.str)) := k5 G _ nGa h3
                repeat' (walk_at "jv")
                · intro p np
                  have npR : R ≠ p := ne_of_none e5R np
                  repeat' (walk_at "jv")
                  exact push H5 p (z1, z2) (.inl ⟨a1, a2⟩) np k5 f5
                · intro p np
                  have npR : R ≠ p := ne_of_none e5R np
                  repeat' (walk_at "jv")
                  exact push H5 p (z2, z1) (.inr ⟨a1, a2⟩) np k5 f5
        · obtain ⟨y9, y10, rs, rfl, h1, h2, h3, h4, h5, h6, h7, h8⟩ := h
          repeat' (walk_at "jv")
          refine ⟨a, G, _, ns.map V.str, rfl, h7, SqA.l (sq_lst h3), nGa, by rw [List.length_map]; omega, by omega, fun W zs HA pz nW eW fA kA => ?_⟩
          obtain ⟨ws, ew, dw, tw⟩ := h4.ch kA h7 nRa
          have hwl : ws.length = rs.length := by rw [DpAll.len dw, List.length_map]
          have kA0 : Ch a H HA := h8.trans kA
          obtain ⟨es, pe2, dz⟩ := DpAll.perm pz (DpAll.strs (K := K) (H := HA) ns)
          obtain ⟨ps, pps, rfl⟩ := perm_map_inv pe2 rfl
          have ez := DpAll.strs_inv dz
          subst ez
          repeat' (walk_at "jv")
          intro T1 nT1
          repeat' (walk_at "jv")
          intro T2 nT2
          refine i_nil ?_
          refine i_al (by show 2 ≤ sizeLine; decide) ?_
          intro T3 nT3
          have c1 : TK K HA (upd HA T1 (.tup (ps.map V.str))) := TK.new nT1
          have c2 : TK K (upd HA T1 (.tup (ps.map V.str))) (upd (upd HA T1 (.tup (ps.map V.str))) T2 (.tup ws)) := TK.new nT2
          have c3 : TK K (upd (upd HA T1 (.tup (ps.map V.str))) T2 (.tup ws)) (upd (upd (upd HA T1 (.tup (ps.map V.str))) T2 (.tup ws)) T3 (.tup [.ref T1, .ref T2])) := TK.new nT3
          refine q _ ps rs _ (web_of hns pps (by omega) (by omega) (pp.nodup_iff.mpr hp.1) (fun p hp' => (ltn p hp').1) (by omega) (by omega) h6) (by rw [pps.length_eq]; omega) ?_ ?_ ?_
          · refine .tup (xs := [.ref T1, .ref T2]) (.inl (.inl upd_same)) (.cons ?_ (.cons ?_ .nil))
            · exact Dp.tk (c2.trans c3) _ _ (strs_only ps) (.tup (xs := ps.map V.str) (.inl (.inl upd_same)) (DpAll.strs ps))
            · exact Dp.tk c3 _ _ (roads_only rs) (.tup (xs := ws) (.inl (.inl upd_same)) (DpAll.tk (c1.trans c2) _ _ tw dw))
          · have g1 := fA.upd (q := T1) (o := .tup (ps.map V.str)) (Ne.symm (fA.ne nT1))
            have g2 := g1.upd (q := T2) (o := .tup ws) (Ne.symm (g1.ne nT2))
            exact (g2.upd (Ne.symm (g2.ne nT3))).mono (by omega)
          · exact ((kA0.upd_n nT1).upd_n nT2).upd_n nT3
end
end
section
open L2 PySem PySem.Spec PyProof.Rows
abbrev s__law_order : Stmt := topS 35
theorem sc__law_order : FnScope ["_law_feed_here", "_law_web_here"] ["_law_feed_here", "_law_web_here"] (defScope s__law_order) := ⟨rfl, rfl, rfl, by decide +kernel, rfl, by decide +kernel, by decide +kernel⟩
abbrev s__law_any_web : Stmt := topS 38
theorem sc__law_any_web : FnScope ["_law_feed_here", "_law_most"] ["_law_feed_here", "_law_most"] (defScope s__law_any_web) := ⟨rfl, rfl, rfl, by decide +kernel, rfl, by decide +kernel, by decide +kernel⟩
def spMixedT (K : PySem.W.Frag) : Sp := fun vs H Q _ => ∃ (a p : Addr) (c : Int) (xs : List V), vs = [.ref a, .ref p] ∧ Fd H a c ∧ SqT K H p xs ∧ xs.length ≤ 1000 ∧ c < 10 ^ 14 ∧
  ∀ (q : Addr) (ys : List V) (H' : Hp), ys.Perm xs → H q = none → H' q = some (.lst ys) → Fd H' a (c + 1000) → Ch a H H' → Q (.ref q) H'
def spOrder (K : PySem.W.Frag) : Sp := fun vs H Q _ => ∃ (a : Addr) (v : V) (ps : List Str) (rs : List (Str × Str)) (c : Int), vs = [.ref a, v] ∧ Fd H a c ∧ Dp K H v (webD ps rs) ∧ ps.length ≤ 8 ∧ c < 10 ^ 13 ∧
  ∀ (T : Addr) (qs : List Str) (H' : Hp), qs.Perm ps → SqT K H' T (qs.map V.str) → Fd H' a (c + 1000) → Ch a H H' → Q (.ref T) H'
def spWideWeb (K : PySem.W.Frag) : Sp := fun vs H Q _ => ∃ (a : Addr) (most c : Int), vs = [.ref a, .int most] ∧ Fd H a c ∧ 1 ≤ most ∧ most ≤ 8 ∧ c < 10 ^ 13 ∧
  ∀ (v : V) (ps : List Str) (rs : List (Str × Str)) (H' : Hp), IsWeb ps rs → (ps.length : Int) ≤ max 3 most → Dp K H' v (webD ps rs) → Fd H' a (c + 10000) → Ch a H H' → Q v H'
def spAnyWeb (K : PySem.W.Frag) : Sp := fun vs H Q _ => ∃ (a : Addr) (most c : Int), vs = [.ref a, .int most] ∧ Fd H a c ∧ 1 ≤ most ∧ most ≤ 8 ∧ c < 10 ^ 12 ∧
  ∀ (v : V) (ps : List Str) (rs : List (Str × Str)) (H' : Hp), IsWeb ps rs → (ps.length : Int) ≤ max 3 most → Dp K H' v (webD ps rs) → Fd H' a (c + 20000) → Ch a H H' → Q v H'
section
variable {base : Heap} {P : Program} {w : World} {K : PySem.W.Frag} {mg : Str → Option Value}
theorem ok_feed (D : Dn K mg "_law_feed" s__law_feed ["_law_script", "_law_k"]) (B : Bn mg) : Cl P w K mg base 1 "_law_feed" ["_law_script", "_law_k"] (spFeed K) := by
  refine D.cl sc__law_feed (fun vs H Q E h => ?_) (fun f cdv A outer s H vs Q E hr h => ?_)
  · obtain ⟨a, ns, k, rfl, _⟩ := h
    rfl
  · obtain ⟨a, ns, k, rfl, hs, hl, hk0, hk1, q⟩ := h
    refine ⟨_, (pss_cons (ps_set (i := 2) sc__law_feed.nd rfl (by first | exact Or.inl rfl | exact Or.inr rfl) (pe_op op_add (pe_op op_mul pe_int (pv 1)) (pe_callB (cr_sum rfl) rfl B.sum_ (by decide +kernel) (pa_cons (pe_slice (k_slL (K := K)) (pv 0) po_none (po_some pe_int)) pa_nil))))
      (pss_cons (ps_if (pt_cmpR op_lt (pv 1) (pe_callB (k_len (K := K)) rfl B.len_ (by decide +kernel) (pa_cons (pv 0) pa_nil)) (nomark _)) (pss_one (ps_set (i := 2) sc__law_feed.nd rfl (by first | exact Or.inl rfl | exact Or.inr rfl) (pe_ix (k_ixL (K := K)) (pv 0) (pv 1) (fun _ _ => rfl)))) pss_nil)
      (pss_one (ps_ret (pe_lst (pa_cons (pe_callB (j_max rfl) rfl B.max_ (by decide +kernel) (pa_cons pe_int (pa_cons (pe_op op_sub (pv 2) (pe_op op_pow pe_int pe_int)) pa_nil))) (pa_cons (pe_op op_mod (pe_callTy (j_int) rfl B.int_ (by decide +kernel) (pa_cons (pe_op op_add (pe_op op_mul (pv 2) pe_int) (pe_op op_mul pe_int (pv 1))) pa_nil)) (pe_op op_add (pe_op op_pow pe_int pe_int) pe_int)) (pa_cons pe_int pa_nil)))))))), ?_⟩
    repeat' (walk_at "jv")
    intro L nL
    have sL := Same.upd_new (o := .lst (cutV (ns.map V.int) none (some 1))) nL
    have e1 : cutV (ns.map V.int) none (some ((1 : Nat) : Int)) = (ns.take 1).map V.int := by
      unfold cutV
      rw [HT.sIx_none, HT.sIx_nat, List.drop_zero, Nat.sub_zero, List.length_map, List.map_take]
      cases ns <;> simp
    refine i_nil ?_
    refine i_sum (ns := ns.take 1) (sq_lst (by rw [← e1]; exact upd_same)) ?_
    have hs1 := sL.seq hs
    have fin : ∀ x : Int, ∀ p : Addr, upd H L (.lst (cutV (ns.map V.int) none (some 1))) p = none →
        Q (.ref p) (upd (upd H L (.lst (cutV (ns.map V.int) none (some 1)))) p (.lst [.int (max 0 (x - 10 ^ Int.toNat 18)), .int ((x * 19 + 7 * k) % (10 ^ Int.toNat 39 + 23)), .int 0])) := fun x p np => by
      refine q p _ ?_ ⟨_, _, _, upd_same, by omega, Int.emod_nonneg _ (by decide), Int.emod_lt_of_pos _ (by decide), by omega, by omega⟩ (sL.trans (Same.upd_new np))
      cases z : H p with
      | none => rfl
      | some o =>
        have := sL p o z
        rw [np] at this
        cases this
    repeat' (walk_at "jv")
    · rename_i lt
      obtain ⟨j, rfl⟩ := Int.eq_ofNat_of_zero_le hk0
      have hj : j < ns.length := by rw [List.length_map] at lt; omega
      refine i_ixL hs1 (atI_nat (by rw [List.getElem?_map, List.getElem?_eq_getElem hj]; rfl)) ?_
      repeat' (walk_at "jv")
      exact fin _
    · exact fin _
theorem ok_mixedT (D : Dn K mg "_law_mixed" s__law_mixed ["_law_feed_here", "_law_things"]) (B : Bn mg) (C__law_draw : Cl P w K mg base 1 "_law_draw" ["_law_feed_here", "_law_many"] spDraw) : Cl P w K mg base 2 "_law_mixed" ["_law_feed_here", "_law_things"] (spMixedT K) := by
  refine D.cl sc__law_mixed (fun vs H Q E h => ?_) (fun f cdv A outer s H vs Q E hr h => ?_)
  · obtain ⟨a, p, c, xs, rfl, _⟩ := h
    rfl
  · obtain ⟨a, p, c, xs, rfl, hf, hp, hz, hc, q⟩ := h
    refine ⟨_, (pss_cons (ps_par (i := 2) (j := 3) rfl sc__law_mixed.nd rfl rfl (by decide) rfl rfl (pa_cons (pe_callTy (k_list (K := K)) rfl B.list_ (by decide +kernel) (pa_cons (pv 1) pa_nil)) (pa_cons (pe_lst pa_nil) pa_nil)) (by rfl))
      (pss_cons (ps_for PassesOwn.never rfl (pi_range1 rfl B.range_ (pa_cons (pe_callB (k_len (K := K)) rfl B.len_ (by decide +kernel) (pa_cons (pv 1) pa_nil)) pa_nil)) (pg_name (i := 4) sc__law_mixed.nd rfl (by first | exact Or.inl rfl | exact Or.inr rfl)) (pss_one (ps_expr (pe_bm PySem.F.plainAttrs_list PySem.F.slot_list_append PySem.F.type_list_append mt_append (pv 3) (pa_cons (pe_bm PySem.F.plainAttrs_list PySem.F.slot_list_pop PySem.F.type_list_pop mt_popAt (pv 2) (pa_cons (pe_c C__law_draw hr (pa_cons (pv 0) (pa_cons (pe_callB (k_len (K := K)) rfl B.len_ (by decide +kernel) (pa_cons (pv 2) pa_nil)) pa_nil))) pa_nil)) pa_nil)))))
      (pss_one (ps_ret (pv 3))))), ?_⟩
    repeat' (walk_at "jv")
    intro L nL
    have nLa := hf.ne nL
    repeat' (walk_at "jv")
    intro G nG
    have nGL : G ≠ L := by walk_at "jn"
    have nG0 : H G = none := Ch.free (a := a) (by walk_at "jh") (by walk_at "jn") nG
    have nGa := hf.ne nG0
    have hp2 : SqT K (upd (upd H L (.lst xs)) G (.lst [])) p xs := (TK.new (K := K) nG) _ _ ((TK.new (K := K) nL) _ _ hp)
    repeat' (walk_at "jv")
    refine f_range (fun i σ H' => ∃ y4 pool gs, σ = [some (.ref a), some (.ref p), some (.ref L), some (.ref G), y4] ∧ H' L = some (.lst pool) ∧ H' G = some (.lst gs) ∧ (gs ++ pool).Perm xs ∧ gs.length = i ∧ Fd H' a (c + i) ∧ Ch a H H') ⟨none, xs, [], rfl, ?_, ?_, List.Perm.refl _, rfl, ?_, ?_⟩ (fun i σ H' hi h => ?_) (fun σ H' h => ?_)
    · walk_at "jl"
    · walk_at "jl"
    · exact Fd.mono (c := c) (by walk_at "jf") (by omega)
    · walk_at "jh"
    · obtain ⟨y4, pool, gs, rfl, h1, h2, h3, h4, h5, h6⟩ := h
      have hl := h3.length_eq
      rw [List.length_append] at hl
      repeat' (walk_at "jv")
      refine ⟨a, pool.length, c + i, rfl, h5, by omega, by omega, by omega, fun r H1 r0 r1 f1 k1 => ?_⟩
      obtain ⟨k, rfl⟩ := Int.eq_ofNat_of_zero_le r0
      have hk : k < pool.length := by omega
      repeat' (walk_at "jv")
      refine i_popAt (xs := pool) (by walk_at "jl") (by omega) (List.getElem?_eq_getElem hk) ?_
      repeat' (walk_at "jv")
      refine ⟨_, _, _, rfl, by walk_at "jl", by walk_at "jl", ?_, ?_, ?_, by walk_at "jh"⟩
      · rw [List.append_assoc]
        exact (List.Perm.append_left gs (perm_erase pool k hk)).trans h3
      · rw [List.length_append, h4]
        rfl
      · exact Fd.mono (c := c + i + 1) (by walk_at "jf") (by omega)
    · obtain ⟨y4, pool, gs, rfl, h1, h2, h3, h4, h5, h6⟩ := h
      repeat' (walk_at "jv")
      have hl := h3.length_eq
      rw [List.length_append] at hl
      have e0 : pool = [] := List.eq_nil_of_length_eq_zero (by omega)
      rw [e0, List.append_nil] at h3
      exact q G gs H' h3 nG0 h2 (h5.mono (by omega)) h6
theorem ok_order (D : Dn K mg "_law_order" s__law_order ["_law_feed_here", "_law_web_here"]) (B : Bn mg) (C__law_mixed : Cl P w K mg base 2 "_law_mixed" ["_law_feed_here", "_law_things"] (spMixedT K)) :
    Cl P w K mg base 3 "_law_order" ["_law_feed_here", "_law_web_here"] (spOrder K) := by
  refine D.cl sc__law_order (fun vs H Q E h => ?_) (fun f cdv A outer s H vs Q E hr h => ?_)
  · obtain ⟨a, v, ps, rs, c, rfl, _⟩ := h
    rfl
  · obtain ⟨a, v, ps, rs, c, rfl, hf, hd, hl, hc, q⟩ := h
    obtain ⟨t, tp, tr, xs, rfl, s1, s2, s3, d3, dr, dpl⟩ := web_parts hd
    refine ⟨_, (pss_one (ps_ret (pe_callTy (k_tuple (K := K)) rfl B.tuple_ (by decide +kernel) (pa_cons (pe_c C__law_mixed hr (pa_cons (pv 0) (pa_cons (pe_ix (k_ixT (K := K)) (pv 1) pe_int (fun _ _ => rfl)) pa_nil))) pa_nil)))), ?_⟩
    repeat' (walk_at "jv")
    refine ⟨a, tp, c, ps.map V.str, rfl, hf, s2, by rw [List.length_map]; omega, by omega, fun G ys H1 pm nG eG f1 k1 => ?_⟩
    obtain ⟨es, pe2, dz⟩ := DpAll.perm pm (DpAll.strs (K := K) (H := H1) ps)
    obtain ⟨qs, pq, rfl⟩ := perm_map_inv pe2 rfl
    have ez := DpAll.strs_inv dz
    subst ez
    repeat' (walk_at "jv")
    intro T nT
    exact q T qs _ pq (sq_tup upd_same) (f1.upd (Ne.symm (f1.ne nT))) (k1.trans (Ch.upd_new nT))
theorem ok_any_web (D : Dn K mg "_law_any_web" s__law_any_web ["_law_feed_here", "_law_most"]) (B : Bn mg) (C__law_draw : Cl P w K mg base 1 "_law_draw" ["_law_feed_here", "_law_many"] spDraw)
    (C__law_one : Cl P w K mg base 2 "_law_one" ["_law_feed_here", "_law_things"] (spOne K)) (C__law_web : Cl P w K mg base 4 "_law_web" ["_law_feed_here", "_law_way", "_law_most"] (spWeb K))
    (C__law_wide_web : Cl P w K mg base 4 "_law_wide_web" ["_law_feed_here", "_law_most"] (spWideWeb K)) : Cl P w K mg base 5 "_law_any_web" ["_law_feed_here", "_law_most"] (spAnyWeb K) := by
  refine D.cl sc__law_any_web (fun vs H Q E h => ?_) (fun f cdv A outer s H vs Q E hr h => ?_)
  · obtain ⟨a, m, c, rfl, _⟩ := h
    rfl
  · obtain ⟨a, m, c, rfl, hf, hm1, hm8, hc, q⟩ := h
    refine ⟨_, (pss_cons (ps_if (pt_cmpR op_eq (pe_c C__law_draw hr (pa_cons (pv 0) (pa_cons pe_int pa_nil))) pe_int (nomark _)) (pss_one (ps_ret (pe_c C__law_wide_web hr (pa_cons (pv 0) (pa_cons (pv 1) pa_nil))))) pss_nil)
      (pss_one (ps_ret (pe_c C__law_web hr (pa_cons (pv 0) (pa_cons (pe_c C__law_one hr (pa_cons (pv 0) (pa_cons (pe_lst (pa_cons pe_str (pa_cons pe_str (pa_cons pe_str (pa_cons pe_str pa_nil))))) pa_nil))) (pa_cons (pv 1) pa_nil))))))), ?_⟩
    repeat' (walk_at "jv")
    refine ⟨a, 2, c, rfl, hf, by omega, by omega, by omega, fun r H1 r0 r1 f1 k1 => ?_⟩
    repeat' (walk_at "jv")
    · refine ⟨a, m, c + 1, rfl, f1, hm1, hm8, by omega, fun v ps rs H2 W hb d f2 k2 => q v ps rs H2 W hb d (f2.mono (by omega)) (k1.trans k2)⟩
    · intro L nL
      refine i_nil ?_
      refine ⟨a, L, c + 1, (["tree", "ring", "whole", "any"] : List Str).map V.str, rfl, f1.upd (Ne.symm (f1.ne nL)), SqA.l (sq_lst upd_same), f1.ne nL, by decide, by decide, by omega, fun v H2 hv f2 k2 => ?_⟩
      obtain ⟨z, _, rfl⟩ := List.mem_map.mp hv
      repeat' (walk_at "jv")
      refine ⟨a, z, m, c + 1 + 1, rfl, f2, hm1, hm8, by omega, fun v ps rs H3 W hb d f3 k3 => q v ps rs H3 W hb d (f3.mono (by omega)) ((k1.trans (Ch.upd_new nL)).trans (k2.trans k3))⟩
end
end
section
open L2 PySem PySem.Spec PyProof.Rows
abbrev s__law_wide_web : Stmt := topS 37
theorem sc__law_wide_web : FnScope ["_law_feed_here", "_law_most", "_law_many", "_law_pairs", "_law_names_here", "_law_at", "_law_roads", "_law_one_here", "_law_other", "_law_to"] ["_law_feed_here", "_law_most"] (defScope s__law_wide_web) := ⟨rfl, rfl, rfl, by decide +kernel, rfl, by decide +kernel, by decide +kernel⟩
def nm (ns : List Str) (i : Nat) : Str := ns.getD i Str.empty
def pd (ns : List Str) (p : Nat × Nat) : PyData := roadD (nm ns p.2, nm ns p.1)
theorem nm_at {ns : List Str} {k : Nat} (h : k < ns.length) : ns[k]? = some (nm ns k) := by
  unfold nm
  rw [List.getD_eq_getElem?_getD, List.getElem?_eq_getElem h]
  rfl
theorem nm_ix {ns : List Str} {k : Nat} (h : k < ns.length) : atI (ns.map V.str) (k : Int) = some (.str (nm ns k)) := atI_nat (by rw [List.getElem?_map, nm_at h]; rfl)
theorem pd_only (ns : List Str) : ∀ pl : List (Nat × Nat), tupOnlyAll (pl.map (pd ns)) = true
  | [] => rfl
  | p :: pl => by
    show (tupOnly (pd ns p) && tupOnlyAll (pl.map (pd ns))) = true
    rw [pd_only ns pl]
    rfl
section
variable {base : Heap} {P : Program} {w : World} {K : PySem.W.Frag} {mg : Str → Option Value}
theorem ok_wide_web (D : Dn K mg "_law_wide_web" s__law_wide_web ["_law_feed_here", "_law_most"]) (B : Bn mg) (C__law_draw : Cl P w K mg base 1 "_law_draw" ["_law_feed_here", "_law_many"] spDraw)
    (C__law_mixed : Cl P w K mg base 2 "_law_mixed" ["_law_feed_here", "_law_things"] (spMixed K)) (C__law_names : Cl P w K mg base 3 "_law_names" ["_law_feed_here", "_law_many"] spNames) :
    Cl P w K mg base 4 "_law_wide_web" ["_law_feed_here", "_law_most"] (spWideWeb K) := by
  refine D.cl sc__law_wide_web (fun vs H Q E h => ?_) (fun f cdv A outer s H vs Q E hr h => ?_)
  · obtain ⟨a, m, c, rfl, _⟩ := h
    rfl
  · obtain ⟨a, m, c, rfl, hf, hm1, hm8, hc, q⟩ := h
    refine ⟨_, (pss_cons (ps_par (i := 2) (j := 3) rfl sc__law_wide_web.nd rfl rfl (by decide) rfl rfl (pa_cons (pe_op op_add pe_int (pe_c C__law_draw hr (pa_cons (pv 0) (pa_cons (pv 1) pa_nil)))) (pa_cons (pe_lst pa_nil) pa_nil)) (by rfl))
      (pss_cons (ps_set (i := 4) sc__law_wide_web.nd rfl (by first | exact Or.inl rfl | exact Or.inr rfl) (pe_c C__law_names hr (pa_cons (pv 0) (pa_cons (pv 2) pa_nil))))
      (pss_cons (ps_for PassesOwn.never rfl (pi_range1 rfl B.range_ (pa_cons (pv 2) pa_nil)) (pg_name (i := 5) sc__law_wide_web.nd rfl (by first | exact Or.inl rfl | exact Or.inr rfl)) (pss_one (ps_expr (pe_bm PySem.F.plainAttrs_list PySem.F.slot_list_extend PySem.F.type_list_extend mt_extend (pv 3) (pa_cons (pe_lc (own := [("_law_to", 9)]) rfl sc__law_wide_web.nd (pi_range1 rfl B.range_ (pa_cons (pv 5) pa_nil)) (blkOk_by (N := ["_law_feed_here", "_law_most", "_law_many", "_law_pairs", "_law_names_here", "_law_at", "_law_roads", "_law_one_here", "_law_other", "_law_to"]) (sc := defScope s__law_wide_web) (by decide +kernel)) (fun _ _ _ _ _ => (pg_name (i := 9) sc__law_wide_web.nd rfl (by first | exact Or.inl rfl | exact Or.inr rfl))) (fun _ _ _ _ _ => pts_nil) (fun _ _ _ _ _ => (pe_tup (pa_cons (pe_ix (k_ixL (K := K)) (pv 4) (pv 5) (fun _ _ => rfl)) (pa_cons (pe_ix (k_ixL (K := K)) (pv 4) (pv 9) (fun _ _ => rfl)) pa_nil))))) pa_nil)))))
      (pss_cons (ps_set (i := 6) sc__law_wide_web.nd rfl (by first | exact Or.inl rfl | exact Or.inr rfl) (pe_slice (k_slL (K := K)) (pe_c C__law_mixed hr (pa_cons (pv 0) (pa_cons (pv 3) pa_nil))) po_none (po_some (pe_c C__law_draw hr (pa_cons (pv 0) (pa_cons (pe_op op_add (pe_callB (j_min rfl) rfl B.min_ (by decide +kernel) (pa_cons pe_int (pa_cons (pe_callB (k_len (K := K)) rfl B.len_ (by decide +kernel) (pa_cons (pv 3) pa_nil)) pa_nil))) pe_int) pa_nil))))))
      (pss_cons (ps_setLc (i := 6) (own := [("_law_one_here", 7), ("_law_other", 8)]) rfl sc__law_wide_web.nd rfl rfl (sw_true rfl rfl rfl (by decide +kernel)) (kpi_list (K := K) (pv 6)) (blkOk_by (N := ["_law_feed_here", "_law_most", "_law_many", "_law_pairs", "_law_names_here", "_law_at", "_law_roads", "_law_one_here", "_law_other", "_law_to"]) (sc := defScope s__law_wide_web) (by decide +kernel)) (fun _ _ _ _ _ => (kpg_tup (K := K) (n := 2) rfl (pgs_cons (pg_name (i := 7) sc__law_wide_web.nd rfl (by first | exact Or.inl rfl | exact Or.inr rfl)) (pgs_cons (pg_name (i := 8) sc__law_wide_web.nd rfl (by first | exact Or.inl rfl | exact Or.inr rfl)) pgs_nil)))) (fun _ _ _ _ _ => pts_nil) (fun _ _ _ _ _ => (pe_ifExp (pt_cmpR op_eq (pe_c C__law_draw hr (pa_cons (pv 0) (pa_cons pe_int pa_nil))) pe_int (nomark _)) (pe_tup (pa_cons (pv 8) (pa_cons (pv 7) pa_nil))) (pe_tup (pa_cons (pv 7) (pa_cons (pv 8) pa_nil))))))
      (pss_one (ps_ret (pe_tup (pa_cons (pe_callTy (k_tuple (K := K)) rfl B.tuple_ (by decide +kernel) (pa_cons (pe_c C__law_mixed hr (pa_cons (pv 0) (pa_cons (pv 4) pa_nil))) pa_nil)) (pa_cons (pe_callTy (k_tuple (K := K)) rfl B.tuple_ (by decide +kernel) (pa_cons (pv 6) pa_nil)) pa_nil)))))))))), ?_⟩
    repeat' (walk_at "jv")
    refine ⟨a, m, c, rfl, hf, by omega, by omega, by omega, fun r1 H1 r10 r11 f1 k1 => ?_⟩
    obtain ⟨m1, rfl⟩ := Int.eq_ofNat_of_zero_le r10
    have en : (1 : Int) + (m1 : Int) = ((1 + m1 : Nat) : Int) := by omega
    refine i_rI0 ?_
    rw [en]
    have hn : 1 ≤ 1 + m1 ∧ 1 + m1 ≤ 8 := by omega
    have hnm : ((1 + m1 : Nat) : Int) ≤ m := by omega
    generalize 1 + m1 = n at *
    repeat' (walk_at "jv")
    intro L nL
    have nLa := f1.ne nL
    have nL0 : H L = none := k1.free nLa nL
    repeat' (walk_at "jv")
    refine ⟨a, n, c + 1, rfl, f1.upd (Ne.symm nLa), by omega, by omega, by omega, fun G ns H2 hns hl nG eG f2 k2 => ?_⟩
    have eL : H2 L = some (.lst []) := k2 L _ nLa upd_same
    have k20 : Ch a H H2 := (k1.upd_n nL).trans k2
    have nG1 : upd H1 L (.lst []) G = none := nG
    have nGa : G ≠ a := (f1.upd (q := L) (o := .lst []) (Ne.symm nLa)).ne nG
    have nG0 : H G = none := (k1.upd_n nL).free nGa nG
    have nGL : L ≠ G := ne_of_none (H := upd H1 L (.lst [])) upd_same nG
    have hln : ns.length = n := by omega
    repeat' (walk_at "jv")
    have en' : ((n : Int)).toNat = n := by omega
    refine f_range (fun i σ H' => ∃ y5 pl, σ = [some (.ref a), some (.int m), some (.int n), some (.ref L), some (.ref G), y5, none, none, none, none] ∧ LsD K H' L (pl.map (pd ns)) ∧ H' G = some (.lst (ns.map V.str)) ∧ pl.Nodup ∧ (∀ p ∈ pl, p.1 < p.2 ∧ p.2 < i) ∧ pl.length ≤ 8 * i ∧ Fd H' a (c + 1001) ∧ Ch a H H')
      ⟨none, [], rfl, LsD.nil eL, eG, List.nodup_nil, fun _ z => absurd z List.not_mem_nil, Nat.zero_le _, f2.mono (by omega), k20⟩ (fun i σ H5 hi h => ?_) (fun σ H5 h => ?_)
    · obtain ⟨y5, pl, rfl, ⟨vs, e5, d5, t5⟩, eG5, h1, h2, h3, f5, k5⟩ := h
      have hlen : vs.length = pl.length := by rw [DpAll.len d5, List.length_map]
      have e1 : (0 + (i : Int)) = (i : Int) := by omega
      rw [e1]
      rw [en'] at hi
      repeat' (walk_at "jv")
      refine c_range (fun D j H' => G ≠ D ∧ D ≠ L ∧ D ≠ a ∧ H D = none ∧ H' L = some (.lst vs) ∧ H' G = some (.lst (ns.map V.str)) ∧ DpAll K H' vs (pl.map (pd ns)) ∧ LsD K H' D (((List.range j).map fun b => (b, i)).map (pd ns)) ∧ Fd H' a (c + 1001) ∧ Ch a H H')
        (fun D nD => ⟨ne_of_none eG5 nD, (ne_of_none e5 nD).symm, f5.ne nD, k5.free (f5.ne nD) nD, (upd_ne (ne_of_none e5 nD)).trans e5, (upd_ne (ne_of_none eG5 nD)).trans eG5, DpAll.tk (TK.new nD) _ _ t5 d5, LsD.nil upd_same, by walk_at "jf", by walk_at "jh"⟩) (fun D j H6 hj h => ?_) (fun D H6 h => ?_)
      · obtain ⟨nGD, g1, g2, g3, g4, gG, g5, ⟨us, g6, g7, g8⟩, g9, g10⟩ := h
        have hul : us.length = j := by rw [DpAll.len g7, List.length_map, List.length_map, List.length_range]
        have e0 : (0 : Int) + (j : Int) = (j : Int) := by omega
        have hji : j < i := by omega
        have hj1 : j < ns.length := by omega
        have hi1 : i < ns.length := by omega
        rw [e0]
        repeat' (walk_at "jv")
        refine i_ixL (sq_lst gG) (nm_ix hi1) ?_
        repeat' (walk_at "jv")
        refine i_ixL (sq_lst gG) (nm_ix hj1) ?_
        repeat' (walk_at "jv")
        intro p3 np3
        have npD : D ≠ p3 := ne_of_none g6 np3
        have npL3 : L ≠ p3 := ne_of_none g4 np3
        have npG3 : G ≠ p3 := ne_of_none gG np3
        repeat' (walk_at "jv")
        have hu8 : us.length < sizeLine := by rw [sizeLine_eq]; omega
        have nDG : G ≠ D := nGD
        refine ⟨nGD, g1, g2, g3, ?_, ?_, ?_, ?_, ?_, ?_⟩
        · rw [upd_ne g1.symm, upd_ne npL3]
          exact g4
        · rw [upd_ne nDG, upd_ne npG3]
          exact gG
        · exact DpAll.tk ((TK.new np3).trans (TK.lst (xs := us) ((upd_ne npD).trans g6))) _ _ t5 g5
        · rw [List.range_succ, List.map_append, List.map_append]
          exact LsD.push2 g6 g7 g8 np3 (.str (nm ns i)) (.str (nm ns j)) rfl rfl
        · exact (g9.upd (Ne.symm (g9.ne np3))).upd g2.symm
        · exact (g10.upd_n np3).upd_l g3
      · obtain ⟨nGD, g1, g2, g3, g4, gG, g5, ⟨us, g6, g7, g8⟩, g9, g10⟩ := h
        have ei : (((i : Nat) : Int).toNat) = i := by omega
        rw [ei] at g7 g8
        have hul : us.length = i := by rw [DpAll.len g7, List.length_map, List.length_map, List.length_range]
        repeat' (walk_at "jv")
        refine i_ext g4 g6 (by rw [sizeLine_eq]; omega) ?_
        repeat' (walk_at "jv")
        refine ⟨_, pl ++ (List.range i).map fun b => (b, i), rfl, ?_, ?_, ?_, ?_, ?_, ?_, ?_⟩
        · rw [List.map_append]
          exact LsD.ext g4 g5 t5 g7 g8
        · rw [upd_ne nGL.symm]
          exact gG
        · refine List.nodup_append.mpr ⟨h1, ?_, fun x hx y hy => ?_⟩
          · refine List.Pairwise.map _ ?_ (List.nodup_range (n := i))
            intro x y hxy e
            exact hxy (Prod.mk.inj e).1
          · obtain ⟨b, _, rfl⟩ := List.mem_map.mp hy
            intro z
            have := (h2 x hx).2
            rw [z] at this
            simp at this
        · intro p hp
          rcases List.mem_append.mp hp with hp | hp
          · have := h2 p hp
            exact ⟨this.1, by omega⟩
          · obtain ⟨b, hb, rfl⟩ := List.mem_map.mp hp
            have := List.mem_range.mp hb
            exact ⟨by show b < i; omega, Nat.lt_succ_self _⟩
        · rw [List.length_append, List.length_map, List.length_range]
          omega
        · exact g9.upd (fun z => by rw [z] at nLa; exact nLa rfl)
        · exact g10.upd_l nL0
    · obtain ⟨y5, pl, rfl, ⟨vs, e5, d5, t5⟩, eG5, h1, h2, h3, f5, k5⟩ := h
      rw [en'] at h2 h3
      have hlen : vs.length = pl.length := by rw [DpAll.len d5, List.length_map]
      repeat' (walk_at "jv")
      refine ⟨a, L, c + 1001, vs, rfl, f5, SqA.l (sq_lst e5), nLa, by omega, by omega, fun q8 zs8 HB pm n8 e8 f8 k8 => ?_⟩
      obtain ⟨es, pe, dy⟩ := DpAll.perm pm d5
      obtain ⟨pl0, pp, rfl⟩ := perm_map_inv pe rfl
      have n8a : q8 ≠ a := f5.ne n8
      have eGB : HB G = some (.lst (ns.map V.str)) := k8 G _ nGa eG5
      have eLB : HB L = some (.lst vs) := k8 L _ nLa e5
      have dyB : DpAll K HB zs8 (pl0.map (pd ns)) := DpAll.tk (TK.ch k8 f5) _ _ (pd_only ns pl0) dy
      have hz8 : zs8.length = pl0.length := by rw [DpAll.len dyB, List.length_map]
      repeat' (walk_at "jv")
      obtain ⟨most, emost, hm14⟩ : ∃ most : Nat, min (14 : Int) (vs.length : Int) = most ∧ most ≤ 14 := ⟨min 14 vs.length, by omega, by omega⟩
      refine ⟨a, (most : Int) + 1, c + 2001, by rw [emost]; rfl, f8.mono (by omega), by omega, by omega, by omega, fun x H8 x0 x1 f9 k9 => ?_⟩
      obtain ⟨cnt, rfl⟩ := Int.eq_ofNat_of_zero_le x0
      have e8' : H8 q8 = some (.lst zs8) := k9 q8 _ n8a e8
      have eG8 : H8 G = some (.lst (ns.map V.str)) := k9 G _ nGa eGB
      have dy8 : DpAll K H8 zs8 (pl0.map (pd ns)) := DpAll.tk (TK.ch k9 f8) _ _ (pd_only ns pl0) dyB
      have k80 : Ch a H H8 := (k5.trans k8).trans k9
      repeat' (walk_at "jv")
      intro q9 n9
      have n9a : q9 ≠ a := f9.ne n9
      rw [cut_take]
      have dy90 : DpAll K H8 (zs8.take cnt) ((pl0.take cnt).map (pd ns)) := by
        rw [List.map_take]
        exact DpAll.take cnt dy8
      have nd' : (pl0.take cnt).Nodup := (pp.nodup_iff.mpr h1).sublist (List.take_sublist _ _)
      have lt' : ∀ p ∈ pl0.take cnt, p.1 < p.2 ∧ p.2 < n := fun p hp => h2 p (pp.mem_iff.mp (List.mem_of_mem_take hp))
      have hl14 : (pl0.take cnt).length ≤ 14 := by rw [List.length_take]; omega
      generalize pl0.take cnt = pl' at dy90 nd' lt' hl14
      generalize zs8.take cnt = ys at dy90
      have e9 : (upd H8 q9 (.lst ys)) q9 = some (.lst ys) := upd_same
      have dy9 : DpAll K (upd H8 q9 (.lst ys)) ys (pl'.map (pd ns)) := DpAll.tk (TK.new n9) _ _ (pd_only ns pl') dy90
      have eG9 : (upd H8 q9 (.lst ys)) G = some (.lst (ns.map V.str)) := (upd_ne (ne_of_none eG8 n9)).trans eG8
      have k90 : Ch a H (upd H8 q9 (.lst ys)) := k80.upd_n n9
      have f9' : Fd (upd H8 q9 (.lst ys)) a (c + 2002) := (f9.upd n9a.symm).mono (by omega)
      have hys : ys.length = pl'.length := by rw [DpAll.len dy90, List.length_map]
      generalize upd H8 q9 (.lst ys) = H9 at *
      repeat' (walk_at "jv")
      refine c_list ys (fun D i H' => H D = none ∧ D ≠ a ∧ D ≠ q9 ∧ D ≠ G ∧ H' q9 = some (.lst ys) ∧ H' G = some (.lst (ns.map V.str)) ∧ DpAll K H' ys (pl'.map (pd ns)) ∧ (∃ rs : List (Str × Str), LsD K H' D (rs.map roadD) ∧ rs.length = i ∧ ∀ (k : Nat) p x, pl'[k]? = some p → rs[k]? = some x → RoadOf ns p x) ∧ Fd H' a (c + 2002 + i) ∧ Ch a H H')
        (fun D nD => ⟨k90.free (f9'.ne nD) nD, f9'.ne nD, (ne_of_none e9 nD).symm, (ne_of_none eG9 nD).symm, (upd_ne (ne_of_none e9 nD)).trans e9, (upd_ne (ne_of_none eG9 nD)).trans eG9, DpAll.tk (TK.new nD) _ _ (pd_only ns pl') dy9, ⟨[], LsD.nil upd_same, rfl, fun k p x _ z => by simp at z⟩, by simpa using f9'.upd (Ne.symm (f9'.ne nD)), k90.upd_n nD⟩)
        (fun D i H' _ h => sq_lst h.2.2.2.2.1) (fun D i x H' hx h => ?_) (fun D H' h => ?_)
      · obtain ⟨nD, nDa, nD9, nDG, g1, g2, g3, ⟨rs, ⟨ws, ew, dw, tw⟩, hrs, hro⟩, g5, g6⟩ := h
        have hws : ws.length = rs.length := by rw [DpAll.len dw, List.length_map]
        obtain ⟨d, hd, dx⟩ := DpAll.get g3 hx
        have hi : i < ys.length := (List.getElem?_eq_some_iff.mp hx).1
        have hip : i < pl'.length := by omega
        rw [List.getElem?_map, List.getElem?_eq_getElem hip] at hd
        have hd' : pd ns pl'[i] = d := Option.some.inj hd
        subst hd'
        obtain ⟨p1, p2⟩ := lt' pl'[i] (List.getElem_mem hip)
        have a1 : ns[pl'[i].1]? = some (nm ns pl'[i].1) := nm_at (by omega)
        have a2 : ns[pl'[i].2]? = some (nm ns pl'[i].2) := nm_at (by omega)
        generalize hz1 : nm ns pl'[i].1 = z1 at a1
        generalize hz2 : nm ns pl'[i].2 = z2 at a2
        unfold pd at dx
        rw [hz1, hz2] at dx
        cases dx with
        | tup hs ha =>
          rename_i b xs
          cases ha with
          | cons u1 u2 =>
            cases u1
            cases u2 with
            | cons u3 u4 =>
              cases u3
              cases u4
              have push : ∀ (H5 : Hp) (p : Addr) (x : Str × Str), RoadOf ns pl'[i] x → H5 p = none → Ch a H' H5 → Fd H5 a (c + 2002 + i + 1) → ws.length < sizeLine ∧ H5 D = some (.lst ws) ∧ D ≠ p ∧
                  (H D = none ∧ D ≠ a ∧ D ≠ q9 ∧ D ≠ G ∧ (upd (upd H5 p (.tup [.str x.1, .str x.2])) D (.lst (ws ++ [.ref p]))) q9 = some (.lst ys) ∧ (upd (upd H5 p (.tup [.str x.1, .str x.2])) D (.lst (ws ++ [.ref p]))) G = some (.lst (ns.map V.str)) ∧ DpAll K (upd (upd H5 p (.tup [.str x.1, .str x.2])) D (.lst (ws ++ [.ref p]))) ys (pl'.map (pd ns)) ∧
                    (∃ rs : List (Str × Str), LsD K (upd (upd H5 p (.tup [.str x.1, .str x.2])) D (.lst (ws ++ [.ref p]))) D (rs.map roadD) ∧ rs.length = i + 1 ∧ ∀ (k : Nat) p x, pl'[k]? = some p → rs[k]? = some x → RoadOf ns p x) ∧ Fd (upd (upd H5 p (.tup [.str x.1, .str x.2])) D (.lst (ws ++ [.ref p]))) a (c + 2002 + ((i + 1 : Nat) : Int)) ∧ Ch a H (upd (upd H5 p (.tup [.str x.1, .str x.2])) D (.lst (ws ++ [.ref p])))) := by
                intro H5 p x rx np k5 f5
                have e5D : H5 D = some (.lst ws) := k5 D _ nDa ew
                have e59 : H5 q9 = some (.lst ys) := k5 q9 _ n9a g1
                have e5G : H5 G = some (.lst (ns.map V.str)) := k5 G _ nGa g2
                have t5 : TK K H' H5 := TK.ch k5 g5
                have d5w := DpAll.tk t5 _ _ tw dw
                have npD : D ≠ p := ne_of_none e5D np
                have np9 : q9 ≠ p := ne_of_none e59 np
                have npG : G ≠ p := ne_of_none e5G np
                refine ⟨by rw [sizeLine_eq]; omega, e5D, npD, nD, nDa, nD9, nDG, ?_, ?_, ?_, ⟨rs ++ [x], by rw [List.map_append]; exact LsD.push2 e5D d5w tw np (.str x.1) (.str x.2) rfl rfl, by rw [List.length_append, hrs]; rfl, ?_⟩, ?_, ?_⟩
                · rw [upd_ne nD9.symm, upd_ne np9]
                  exact e59
                · rw [upd_ne nDG.symm, upd_ne npG]
                  exact e5G
                · exact DpAll.tk ((t5.trans (TK.new np)).trans (TK.lst (xs := ws) (by rw [upd_ne npD]; exact e5D))) _ _ (pd_only ns pl') g3
                · intro k p' x' hp' hx'
                  by_cases hk : k < rs.length
                  · rw [List.getElem?_append_left hk] at hx'
                    exact hro k p' x' hp' hx'
                  · rw [List.getElem?_append_right (by omega)] at hx'
                    have hk0 : k - rs.length = 0 := by
                      cases z : k - rs.length with
                      | zero => rfl
                      | succ m => rw [z] at hx'; simp at hx'
                    rw [hk0] at hx'
                    have hxx : x = x' := by simpa using hx'
                    subst hxx
                    have hki : k = i := by omega
                    subst hki
                    rw [List.getElem?_eq_getElem hip] at hp'
                    have := Option.some.inj hp'
                    subst this
                    exact rx
                · refine Fd.mono (c := c + 2002 + i + 1) ?_ (by omega)
                  exact (f5.upd (q := p) (o := .tup [.str x.1, .str x.2]) (Ne.symm (f5.ne np))).upd (q := D) (o := .lst (ws ++ [.ref p])) (Ne.symm nDa)
                · exact ((g6.trans k5).upd_n np).upd_l nD
              repeat' (walk_at "jv")
              refine ⟨a, 2, _, rfl, g5, by omega, by omega, by omega, fun rr H5 s0 s1 f5 k5 => ?_⟩
              repeat' (walk_at "jv")
              · intro p np
                obtain ⟨y1, y2, y3, y4⟩ := push H5 p (z1, z2) (.inl ⟨a1, a2⟩) np k5 f5
                exact i_lcE ((upd_ne y3).trans y2) y1 y4
              · intro p np
                obtain ⟨y1, y2, y3, y4⟩ := push H5 p (z2, z1) (.inr ⟨a1, a2⟩) np k5 f5
                exact i_lcE ((upd_ne y3).trans y2) y1 y4
      · obtain ⟨nD, nDa, nD9, nDG, g1, g2, g3, ⟨rs, g4, hrs, hro⟩, g5, g6⟩ := h
        repeat' (walk_at "jv")
        refine ⟨a, G, _, ns.map V.str, rfl, g5, SqA.l (sq_lst g2), nGa, by rw [List.length_map]; omega, by omega, fun W zs HA pz nW eW fA kA => ?_⟩
        obtain ⟨ws, ew, dw, tw⟩ := g4.ch kA g5 nDa
        have hwl : ws.length = rs.length := by rw [DpAll.len dw, List.length_map]
        have kA0 : Ch a H HA := g6.trans kA
        obtain ⟨es2, pe2, dz⟩ := DpAll.perm pz (DpAll.strs (K := K) (H := HA) ns)
        obtain ⟨ps, pps, rfl⟩ := perm_map_inv pe2 rfl
        have ez := DpAll.strs_inv dz
        subst ez
        repeat' (walk_at "jv")
        intro T1 nT1
        repeat' (walk_at "jv")
        intro T2 nT2
        refine i_nil ?_
        refine i_al (by show 2 ≤ sizeLine; decide) ?_
        intro T3 nT3
        have c1 : TK K HA (upd HA T1 (.tup (ps.map V.str))) := TK.new nT1
        have c2 : TK K (upd HA T1 (.tup (ps.map V.str))) (upd (upd HA T1 (.tup (ps.map V.str))) T2 (.tup ws)) := TK.new nT2
        have c3 : TK K (upd (upd HA T1 (.tup (ps.map V.str))) T2 (.tup ws)) (upd (upd (upd HA T1 (.tup (ps.map V.str))) T2 (.tup ws)) T3 (.tup [.ref T1, .ref T2])) := TK.new nT3
        refine q _ ps rs _ (web_of hns pps (by omega) (by omega) nd' (fun p hp' => (lt' p hp').1) hl14 (by omega) hro) (by have := pps.length_eq; omega) ?_ ?_ ?_
        · refine .tup (xs := [.ref T1, .ref T2]) (.inl (.inl upd_same)) (.cons ?_ (.cons ?_ .nil))
          · exact Dp.tk (c2.trans c3) _ _ (strs_only ps) (.tup (xs := ps.map V.str) (.inl (.inl upd_same)) (DpAll.strs ps))
          · exact Dp.tk c3 _ _ (roads_only rs) (.tup (xs := ws) (.inl (.inl upd_same)) (DpAll.tk (c1.trans c2) _ _ tw dw))
        · have g1 := fA.upd (q := T1) (o := .tup (ps.map V.str)) (Ne.symm (fA.ne nT1))
          have g2 := g1.upd (q := T2) (o := .tup ws) (Ne.symm (g1.ne nT2))
          exact (g2.upd (Ne.symm (g2.ne nT3))).mono (by omega)
        · exact ((kA0.upd_n nT1).upd_n nT2).upd_n nT3
end
end
section
open L2 PySem PySem.Spec PyProof.Rows
abbrev s_is_name : Stmt := topS 10
theorem sc_is_name : FnScope ["thing", "sign"] ["thing"] (defScope s_is_name) := ⟨rfl, rfl, rfl, by decide +kernel, rfl, by decide +kernel, by decide +kernel⟩
abbrev s_is_one_of : Stmt := topS 15
theorem sc_is_one_of : FnScope ["thing", "places"] ["thing", "places"] (defScope s_is_one_of) := ⟨rfl, rfl, rfl, by decide +kernel, rfl, by decide +kernel, by decide +kernel⟩
abbrev s__is_road : Stmt := topS 14
theorem sc__is_road : FnScope ["thing", "places", "end"] ["thing", "places"] (defScope s__is_road) := ⟨rfl, rfl, rfl, by decide +kernel, rfl, by decide +kernel, by decide +kernel⟩
abbrev s__are_places : Stmt := topS 12
theorem sc__are_places : FnScope ["thing", "place"] ["thing"] (defScope s__are_places) := ⟨rfl, rfl, rfl, by decide +kernel, rfl, by decide +kernel, by decide +kernel⟩
abbrev s__are_roads : Stmt := topS 13
theorem sc__are_roads : FnScope ["thing", "places", "road"] ["thing", "places"] (defScope s__are_roads) := ⟨rfl, rfl, rfl, by decide +kernel, rfl, by decide +kernel, by decide +kernel⟩
abbrev s_is_web : Stmt := topS 11
theorem sc_is_web : FnScope ["thing", "places", "roads"] ["thing"] (defScope s_is_web) := ⟨rfl, rfl, rfl, by decide +kernel, rfl, by decide +kernel, by decide +kernel⟩
abbrev s_need_web : Stmt := topS 16
theorem sc_need_web : FnScope ["web"] ["web"] (defScope s_need_web) := ⟨rfl, rfl, rfl, by decide +kernel, rfl, by decide +kernel, by decide +kernel⟩
section
variable {X : Cx} {x : Str} {pos : Pos}
theorem gl_int {i : Int} {t : Tok} (hm : X.mg x = some (.int i t)) (hg : Gl X x := by rfl) (hd : (x == ("__debug__" : Str)) = false := by decide) : PE X (.Name x pos) (tC (.int i)) := pe_glob hg hm ⟨t, rfl⟩ hd
theorem gl_str {i : Str} {t : Tok} (hm : X.mg x = some (.str i t)) (hg : Gl X x := by rfl) (hd : (x == ("__debug__" : Str)) = false := by decide) : PE X (.Name x pos) (tC (.str i)) := pe_glob hg hm ⟨t, rfl⟩ hd
end
structure Gn (mg : Str → Option Value) : Prop where
  ln : ∃ t, mg "LONGEST_NAME" = some (.int 8 t)
  mp : ∃ t, mg "MOST_PLACES" = some (.int 8 t)
  mr : ∃ t, mg "MOST_ROADS" = some (.int 14 t)
  le : ∃ t, mg "LETTERS" = some (.str "abcdefghijklmnopqrstuvwxyz" t)
  ns : ∃ t, mg "NAME_SIGNS" = some (.str "abcdefghijklmnopqrstuvwxyz0123456789" t)
section
variable {base : Heap} {P : Program} {w : World} {K : PySem.W.Frag} {mg : Str → Option Value}
theorem ok_is_name (D : Dn K mg "is_name" s_is_name ["thing"]) (B : Bn mg) (Gg : Gn mg) : Cl P w K mg base 1 "is_name" ["thing"] spIsName := by
  obtain ⟨⟨t1, c_LONGEST_NAME⟩, _, _, ⟨t4, c_LETTERS⟩, ⟨t5, c_NAME_SIGNS⟩⟩ := Gg
  refine D.cl sc_is_name (fun vs H Q E h => ?_) (fun f cdv A outer s H vs Q E hr h => ?_)
  · obtain ⟨z, rfl, _⟩ := h
    rfl
  · obtain ⟨z, rfl, hz, q⟩ := h
    refine ⟨_, (pss_cons (ps_if (PW.pt (pw_or (pt_not (pt_val (pe_callB (k_isi (K := K)) rfl B.isinstance_ (by decide +kernel) (pa_cons (pv 0) (pa_cons (pe_ty (T := "str") B.str_ (by decide +kernel)) pa_nil))))) (pw_or1 (pt_not (pt_chain op_le op_le pe_int (pe_callB (call_len_str) rfl B.len_ (by decide +kernel) (pa_cons (pv 0) pa_nil)) (gl_int c_LONGEST_NAME)))))) (pss_one (ps_ret pe_bl)) pss_nil)
      (pss_one (ps_ret (pe_and (pe_cmpR op_in_sign (pe_its (pv 0) pe_int (fun _ _ => rfl)) (gl_str c_LETTERS) (by rfl)) (pe_one (pe_callB (k_all (K := K) rfl) rfl B.all_ (by decide +kernel) (pa_cons (pe_lc (own := [("sign", 1)]) rfl sc_is_name.nd (pi_str (pv 0)) (blkOk_by (N := ["thing", "sign"]) (sc := defScope s_is_name) (by decide +kernel)) (fun _ _ _ _ _ => (pg_name (i := 1) sc_is_name.nd rfl (by first | exact Or.inl rfl | exact Or.inr rfl))) (fun _ _ _ _ _ => pts_nil) (fun _ _ _ _ _ => (pe_cmpR op_in_sign (pv 1) (gl_str c_NAME_SIGNS) (by rfl)))) pa_nil))))))), ?_⟩
    obtain ⟨c, r, ez, hr7, hc, hrs⟩ := nm_parts hz
    have hsz : z.cps.size = r.length + 1 := by
      rw [← Array.length_toList, ez]
      rfl
    have hln : (z.length : Int) = r.length + 1 := by
      show ((z.cps.size : Nat) : Int) = _
      omega
    have hall : ∀ i d, z.cps[i]? = some d → nmSign d = true := fun i d hd => by
      have hm : d ∈ z.cps.toList := by
        rw [← Array.getElem?_toList] at hd
        exact List.mem_of_getElem? hd
      rw [ez] at hm
      rcases List.mem_cons.mp hm with e | hm
      · rw [e]
        exact sl_of hc
      · exact hrs d hm
    repeat' (walk_at "jv")
    refine ⟨z, rfl, by rw [sizeLine_eq]; show z.cps.size ≤ _; omega, ?_⟩
    repeat' (walk_at "jv")
    case _ => omega
    · refine ⟨z, 0, c, rfl, rfl, by omega, by decide, by show (0 : Int) < z.length; omega, ?_, ?_⟩
      · show z.cps[0]? = some c
        rw [← Array.getElem?_toList, ez]
        rfl
      · refine ⟨c, _, rfl, rfl, ?_⟩
        rw [decide_eq_true (by have := letter_in (c - 97) (by omega); rwa [show 97 + (c - 97) = c from by omega] at this)]
        repeat' (walk_at "jv")
        refine i_istr (i_var rfl (i_isK ?_))
        refine p_str z (fun _ => V.bl true) (by omega) (fun D2 acc i d N nD hx hN => ?_) (fun D2 nD => ?_)
        · repeat' (walk_at "jv")
          refine ⟨d, _, rfl, rfl, ?_⟩
          rw [decide_eq_true (sign_in (hall i d hx))]
          exact hN
        · refine i_nil ?_
          exact all_true (sq_lst upd_same) (q _ (Same.upd_new nD))
    all_goals omega
theorem ok_is_one_of (D : Dn K mg "is_one_of" s_is_one_of ["thing", "places"]) (B : Bn mg) : Cl P w K mg base 1 "is_one_of" ["thing", "places"] (spIsOneOf K) := by
  refine D.cl sc_is_one_of (fun vs H Q E h => ?_) (fun f cdv A outer s H vs Q E hr h => ?_)
  · obtain ⟨z, p, ps, rfl, _⟩ := h
    rfl
  · obtain ⟨z, p, ps, rfl, hs, hz, q⟩ := h
    refine ⟨_, (pss_one (ps_ret (pe_and (pe_callB (k_isi (K := K)) rfl B.isinstance_ (by decide +kernel) (pa_cons (pv 0) (pa_cons (pe_ty (T := "str") B.str_ (by decide +kernel)) pa_nil))) (pe_one (pe_cmpR (k_inS (K := K)) (pv 0) (pv 1) (by rfl)))))), ?_⟩
    repeat' (walk_at "jv")
    rw [decide_eq_true hz]
    exact q
theorem ok_is_road (D : Dn K mg "_is_road" s__is_road ["thing", "places"]) (B : Bn mg) (C_is_one_of : Cl P w K mg base 1 "is_one_of" ["thing", "places"] (spIsOneOf K)) : Cl P w K mg base 2 "_is_road" ["thing", "places"] (spIsRoad K) := by
  refine D.cl sc__is_road (fun vs H Q E h => ?_) (fun f cdv A outer s H vs Q E hr h => ?_)
  · obtain ⟨v, r, p, ps, rfl, _⟩ := h
    rfl
  · obtain ⟨v, ⟨x, y⟩, p, ps, rfl, hd, hs, h1, h2, hne, q⟩ := h
    obtain ⟨t, rfl, st⟩ : ∃ t, v = .ref t ∧ SqT K H t [.str x, .str y] := by
      cases hd with
      | tup s1 a1 =>
        cases a1 with
        | cons g1 g2 =>
          cases g1
          cases g2 with
          | cons g3 g4 =>
            cases g3
            cases g4
            exact ⟨_, rfl, s1⟩
    refine ⟨_, (pss_cons (ps_if (PW.pt (pw_or (pt_not (pt_val (pe_callB (k_isi (K := K)) rfl B.isinstance_ (by decide +kernel) (pa_cons (pv 0) (pa_cons (pe_ty (T := "tuple") B.tuple_ (by decide +kernel)) pa_nil))))) (pw_or1 (pt_cmpR op_ne (pe_callB (k_len (K := K)) rfl B.len_ (by decide +kernel) (pa_cons (pv 0) pa_nil)) pe_int (nomark _))))) (pss_one (ps_ret pe_bl)) pss_nil)
      (pss_one (ps_ret (pe_and (pe_callB (k_all (K := K) rfl) rfl B.all_ (by decide +kernel) (pa_cons (pe_lc (own := [("end", 2)]) rfl sc__is_road.nd (kpi_tup (K := K) (pv 0)) (blkOk_by (N := ["thing", "places", "end"]) (sc := defScope s__is_road) (by decide +kernel)) (fun _ _ _ _ _ => (pg_name (i := 2) sc__is_road.nd rfl (by first | exact Or.inl rfl | exact Or.inr rfl))) (fun _ _ _ _ _ => pts_nil) (fun _ _ _ _ _ => (pe_c C_is_one_of hr (pa_cons (pv 2) (pa_cons (pv 1) pa_nil))))) pa_nil)) (pe_one (pe_cmpR op_ne (pe_ix (k_ixT (K := K)) (pv 0) pe_int (fun _ _ => rfl)) (pe_ix (k_ixT (K := K)) (pv 0) pe_int (fun _ _ => rfl)) (nomark _))))))), ?_⟩
    repeat' (walk_at "jv")
    · rename_i hne2
      exact absurd rfl hne2
    · refine p_tup [.str x, .str y] (fun _ => V.bl true) st (by show 2 ≤ 100000; decide) (fun D2 acc i z N nD hx hN => ?_) (fun D2 nD => ?_)
      · have hz : ∃ u, z = .str u ∧ u ∈ ps := by
          have := List.mem_of_getElem? hx
          rcases List.mem_cons.mp this with e | e
          · exact ⟨x, e, h1⟩
          · exact ⟨y, List.mem_singleton.mp e, h2⟩
        obtain ⟨u, rfl, hu⟩ := hz
        repeat' (walk_at "jv")
        exact ⟨u, p, ps, rfl, (TK.new (K := K) nD) _ _ hs, hu, hN⟩
      · refine i_nil ?_
        have sm : Same H (upd H D2 (.lst ((List.range 2).map fun _ => V.bl true))) := Same.upd_new nD
        refine all_true (sq_lst upd_same) ?_
        have st2 := TK.same (K := K) sm _ _ st
        repeat' (walk_at "jv")
        rw [decide_eq_true hne]
        exact q _ sm
theorem ok_are_places (D : Dn K mg "_are_places" s__are_places ["thing"]) (B : Bn mg) (Gg : Gn mg) (C_is_name : Cl P w K mg base 1 "is_name" ["thing"] spIsName) : Cl P w K mg base 2 "_are_places" ["thing"] (spArePlaces K) := by
  obtain ⟨_, ⟨t2, c_MOST_PLACES⟩, _, _, _⟩ := Gg
  refine D.cl sc__are_places (fun vs H Q E h => ?_) (fun f cdv A outer s H vs Q E hr h => ?_)
  · obtain ⟨p, ps, rfl, _⟩ := h
    rfl
  · obtain ⟨p, ps, rfl, hs, hn, h0, h8, q⟩ := h
    refine ⟨_, (pss_cons (ps_if (PW.pt (pw_or (pt_not (pt_val (pe_callB (k_isi (K := K)) rfl B.isinstance_ (by decide +kernel) (pa_cons (pv 0) (pa_cons (pe_ty (T := "tuple") B.tuple_ (by decide +kernel)) pa_nil))))) (pw_or1 (pt_not (pt_chain op_le op_le pe_int (pe_callB (k_len (K := K)) rfl B.len_ (by decide +kernel) (pa_cons (pv 0) pa_nil)) (gl_int c_MOST_PLACES)))))) (pss_one (ps_ret pe_bl)) pss_nil)
      (pss_one (ps_ret (pe_and (pe_callB (k_all (K := K) rfl) rfl B.all_ (by decide +kernel) (pa_cons (pe_lc (own := [("place", 1)]) rfl sc__are_places.nd (kpi_tup (K := K) (pv 0)) (blkOk_by (N := ["thing", "place"]) (sc := defScope s__are_places) (by decide +kernel)) (fun _ _ _ _ _ => (pg_name (i := 1) sc__are_places.nd rfl (by first | exact Or.inl rfl | exact Or.inr rfl))) (fun _ _ _ _ _ => pts_nil) (fun _ _ _ _ _ => (pe_c C_is_name hr (pa_cons (pv 1) pa_nil)))) pa_nil)) (pe_one (pe_cmpR op_eq (pe_callB (cr_lenTexts) rfl B.len_ (by decide +kernel) (pa_cons (pe_callTy (cr_setTexts rfl) rfl B.set_ (by decide +kernel) (pa_cons (pv 0) pa_nil)) pa_nil)) (pe_callB (k_len (K := K)) rfl B.len_ (by decide +kernel) (pa_cons (pv 0) pa_nil)) (nomark _))))))), ?_⟩
    have hl : (ps.map V.str).length = ps.length := List.length_map ..
    repeat' (walk_at "jv")
    · omega
    · refine c_tup (ps.map V.str) (fun D2 i H' => H D2 = none ∧ Same H H' ∧ H' D2 = some (.lst ((List.range i).map fun _ => V.bl true))) (fun D2 nD => ⟨nD, Same.upd_new nD, upd_same⟩) (fun D2 i H' _ h => TK.same h.2.1 _ _ hs) (fun D2 i y H' hy h => ?_) (fun D2 H' h => ?_)
      · obtain ⟨nD, k, e⟩ := h
        have hi : i < ps.length := by
          have := (List.getElem?_eq_some_iff.mp hy).1
          omega
        rw [List.getElem?_map, List.getElem?_eq_getElem hi] at hy
        obtain rfl : V.str ps[i] = y := Option.some.inj hy
        repeat' (walk_at "jv")
        refine ⟨ps[i], rfl, hn.2 _ (List.getElem_mem hi), fun H2 k2 => ?_⟩
        refine i_lcE (k2 _ _ e) (by rw [List.length_map, List.length_range, sizeLine_eq]; omega) ⟨nD, fun b o z => ?_, ?_⟩
        · rw [upd_ne (fun w => by rw [w, nD] at z; cases z)]
          exact k2 _ _ (k _ _ z)
        · rw [upd_same, List.range_succ, List.map_append]
          rfl
      · obtain ⟨nD, k, e⟩ := h
        refine i_nil ?_
        refine all_true (sq_lst e) ?_
        have hs2 := TK.same (K := K) k _ _ hs
        repeat' (walk_at "jv")
        refine ⟨p, ps, rfl, hs2, hn.1, by omega, fun D3 nD3 => ?_⟩
        refine i_nil ?_
        refine ⟨D3, ps, rfl, upd_same, ?_⟩
        have sm3 := Same.upd_new (o := TxsO P w D3 ps) nD3
        have hs3 := TK.same (K := K) sm3 _ _ hs2
        repeat' (walk_at "jv")
        rw [decide_eq_true (by rw [hl])]
        exact q _ (k.trans sm3)
    all_goals omega
theorem two_sorted {x y : Str} {ys : List Str} (pm : ys.Perm [x, y]) : ys = [x, y] ∨ ys = [y, x] := by
  have hl := pm.length_eq
  match ys, hl with
  | [u, v], _ =>
    have hu := pm.mem_iff.mp (show u ∈ [u, v] from .head _)
    rcases List.mem_cons.mp hu with e | e
    · subst e
      have := List.perm_singleton.mp (List.Perm.cons_inv pm)
      rw [List.cons.injEq] at this
      exact .inl (by rw [this.1])
    · have e : u = y := List.mem_singleton.mp e
      subst e
      have p2 : [u, v].Perm [u, x] := pm.trans (List.Perm.swap u x [])
      have := List.perm_singleton.mp (List.Perm.cons_inv p2)
      rw [List.cons.injEq] at this
      exact .inr (by rw [this.1])
theorem ok_are_roads (D : Dn K mg "_are_roads" s__are_roads ["thing", "places"]) (B : Bn mg) (Gg : Gn mg) (C__is_road : Cl P w K mg base 2 "_is_road" ["thing", "places"] (spIsRoad K)) : Cl P w K mg base 3 "_are_roads" ["thing", "places"] (spAreRoads K) := by
  obtain ⟨_, _, ⟨t3, c_MOST_ROADS⟩, _, _⟩ := Gg
  refine D.cl sc__are_roads (fun vs H Q E h => ?_) (fun f cdv A outer s H vs Q E hr h => ?_)
  · obtain ⟨tr, tp, xs, ps, rs, rfl, _⟩ := h
    rfl
  · obtain ⟨tr, tp, xs, ps, rs, rfl, hx, dx, hs, W, q⟩ := h
    refine ⟨_, (pss_cons (ps_if (PW.pt (pw_or (pt_not (pt_val (pe_callB (k_isi (K := K)) rfl B.isinstance_ (by decide +kernel) (pa_cons (pv 0) (pa_cons (pe_ty (T := "tuple") B.tuple_ (by decide +kernel)) pa_nil))))) (pw_or1 (pt_cmpR op_gt (pe_callB (k_len (K := K)) rfl B.len_ (by decide +kernel) (pa_cons (pv 0) pa_nil)) (gl_int c_MOST_ROADS) (nomark _))))) (pss_one (ps_ret pe_bl)) pss_nil)
      (pss_cons (ps_if (pt_not (pt_val (pe_callB (k_all (K := K) rfl) rfl B.all_ (by decide +kernel) (pa_cons (pe_lc (own := [("road", 2)]) rfl sc__are_roads.nd (kpi_tup (K := K) (pv 0)) (blkOk_by (N := ["thing", "places", "road"]) (sc := defScope s__are_roads) (by decide +kernel)) (fun _ _ _ _ _ => (pg_name (i := 2) sc__are_roads.nd rfl (by first | exact Or.inl rfl | exact Or.inr rfl))) (fun _ _ _ _ _ => pts_nil) (fun _ _ _ _ _ => (pe_c C__is_road hr (pa_cons (pv 2) (pa_cons (pv 1) pa_nil))))) pa_nil)))) (pss_one (ps_ret pe_bl)) pss_nil)
      (pss_one (ps_ret (pe_cmpR op_eq (pe_callB (cr_lenTs) rfl B.len_ (by decide +kernel) (pa_cons (pe_sct (own := [("road", 2)]) rfl hr.units sc__are_roads.nd (kpi_tup (K := K) (pv 0)) (blkOk_by (N := ["thing", "places", "road"]) (sc := defScope s__are_roads) (by decide +kernel)) (fun _ _ _ _ _ => (pg_name (i := 2) sc__are_roads.nd rfl (by first | exact Or.inl rfl | exact Or.inr rfl))) (fun _ _ _ _ _ => pts_nil) (fun _ _ _ _ _ => (pe_callTy (k_tuple (K := K)) rfl B.tuple_ (by decide +kernel) (pa_cons (pe_callB (k_sortedTx (K := K)) rfl B.sorted_ (by decide +kernel) (pa_cons (pv 2) pa_nil)) pa_nil)))) pa_nil)) (pe_callB (k_len (K := K)) rfl B.len_ (by decide +kernel) (pa_cons (pv 0) pa_nil)) (nomark _)))))), ?_⟩
    have hl : xs.length = rs.length := by rw [DpAll.len dx, List.length_map]
    have h14 := W.le14
    repeat' (walk_at "jv")
    · omega
    · refine c_tup xs (fun D2 i H' => H D2 = none ∧ Same H H' ∧ H' D2 = some (.lst ((List.range i).map fun _ => V.bl true))) (fun D2 nD => ⟨nD, Same.upd_new nD, upd_same⟩) (fun D2 i H' _ h => TK.same h.2.1 _ _ hx) (fun D2 i y H' hy h => ?_) (fun D2 H' h => ?_)
      · obtain ⟨nD, k, e⟩ := h
        have hi : i < rs.length := by
          have := (List.getElem?_eq_some_iff.mp hy).1
          omega
        obtain ⟨d, hd, dy⟩ := DpAll.get dx hy
        rw [List.getElem?_map, List.getElem?_eq_getElem hi] at hd
        obtain rfl : roadD rs[i] = d := Option.some.inj hd
        have hm : rs[i] ∈ rs := List.getElem_mem hi
        obtain ⟨w1, w2, w3⟩ := W.ends _ hm
        repeat' (walk_at "jv")
        refine ⟨y, rs[i], tp, ps, rfl, Dp.same k _ _ dy, TK.same k _ _ hs, w1, w2, w3, fun H2 k2 => ?_⟩
        refine i_lcE (k2 _ _ e) (by rw [List.length_map, List.length_range, sizeLine_eq]; omega) ⟨nD, fun b o z => ?_, ?_⟩
        · rw [upd_ne (fun w => by rw [w, nD] at z; cases z)]
          exact k2 _ _ (k _ _ z)
        · rw [upd_same, List.range_succ, List.map_append]
          rfl
      · obtain ⟨nD, k, e⟩ := h
        refine i_nil ?_
        refine all_true (sq_lst e) ?_
        have hx2 := TK.same (K := K) k _ _ hx
        repeat' (walk_at "jv")
        refine i_sct ?_
        repeat' (walk_at "jv")
        refine s_tup xs (fun D3 i H3 => H' D3 = none ∧ Same H' H3 ∧ ∃ L : List (Addr × List Str), H3 D3 = some (TsO P w D3 L) ∧ L.length = i ∧ (∀ q ∈ L, SqT K H3 q.1 (q.2.map V.str)) ∧ ∀ q ∈ L, ∃ (j : Nat) (r : Str × Str), j < i ∧ rs[j]? = some r ∧ (q.2 = [r.1, r.2] ∨ q.2 = [r.2, r.1]))
          (fun D3 nD3 => ⟨nD3, Same.upd_new nD3, [], upd_same, rfl, fun q z => absurd z List.not_mem_nil, fun q z => absurd z List.not_mem_nil⟩) (fun D3 i H3 _ h => TK.same h.2.1 _ _ hx2) (fun D3 i y H3 hy h => ?_) (fun D3 H3 h => ?_)
        · obtain ⟨nD3, k3, L, eL, hL, sL, oL⟩ := h
          have hi : i < rs.length := by
            have := (List.getElem?_eq_some_iff.mp hy).1
            omega
          obtain ⟨d, hd, dy⟩ := DpAll.get dx hy
          rw [List.getElem?_map, List.getElem?_eq_getElem hi] at hd
          obtain rfl : roadD rs[i] = d := Option.some.inj hd
          obtain ⟨t, rfl, st⟩ := road_parts (Dp.same (k.trans k3) _ _ dy)
          repeat' (walk_at "jv")
          refine ⟨t, [rs[i].1, rs[i].2], rfl, st, fun ys p1 pm so np1 => ?_⟩
          refine i_nil ?_
          refine i_tupL (sq_lst upd_same) fun T nT => ?_
          have s1 := Same.upd_new (o := .lst (ys.map V.str)) np1
          have s2 := Same.upd_new (o := .tup (ys.map V.str)) nT
          refine ⟨T, ys, L, rfl, .inl (.inl upd_same), s2 _ _ (s1 _ _ eL), fun q hq => TK.same (s1.trans s2) _ _ (sL q hq), fun q hq e => ?_, by omega, fun L' pL => ⟨nD3, fun b o z => ?_, L', upd_same, by rw [pL.length_eq, List.length_cons, hL], fun q hq => ?_, fun q hq => ?_⟩⟩
          · obtain ⟨j, r, hj, hr2, hor⟩ := oL q hq
            have uq := List.pairwise_iff_getElem.mp W.uniq j i (by omega) hi hj
            have er : rs[j] = r := Option.some.inj ((List.getElem?_eq_getElem (by omega)).symm.trans hr2)
            rw [er] at uq
            have h2 := two_sorted pm
            rw [← e] at h2
            rcases hor with h1 | h1 <;> rcases h2 with h2 | h2 <;> rw [h1] at h2 <;> simp only [List.cons.injEq, and_true] at h2
            · exact uq.1 (Prod.ext h2.1 h2.2)
            · exact uq.2 (Prod.ext h2.1 h2.2)
            · exact uq.2 (Prod.ext h2.2 h2.1)
            · exact uq.1 (Prod.ext h2.2 h2.1)
          · rw [upd_ne (fun w => by rw [w, nD3] at z; cases z)]
            exact s2 _ _ (s1 _ _ (k3 _ _ z))
          · have tk : TK K (upd (upd H3 p1 (.lst (ys.map V.str))) T (.tup (ys.map V.str))) (upd (upd (upd H3 p1 (.lst (ys.map V.str))) T (.tup (ys.map V.str))) D3 (TsO P w D3 L')) := by
              have eD := s2 _ _ (s1 _ _ eL)
              refine TK.of_at (fun b zs z => ?_) fun b ob zs z => ?_
              · rw [upd_ne (fun w => by rw [w, eD] at z; cases z)]
                exact z
              · rw [upd_ne (fun w => by rw [w, eD] at z; cases z)]
                exact z
            rcases List.mem_cons.mp (pL.mem_iff.mp hq) with e | hq
            · subst e
              exact tk _ _ (.inl (.inl upd_same))
            · exact tk _ _ (TK.same (s1.trans s2) _ _ (sL q hq))
          · rcases List.mem_cons.mp (pL.mem_iff.mp hq) with e | hq
            · subst e
              exact ⟨i, rs[i], Nat.lt_succ_self i, List.getElem?_eq_getElem hi, two_sorted pm⟩
            · obtain ⟨j, r, h1, h2, h3⟩ := oL q hq
              exact ⟨j, r, Nat.lt_succ_of_lt h1, h2, h3⟩
        · obtain ⟨nD3, k3, L, eL, hL, sL, oL⟩ := h
          refine i_nil ?_
          refine ⟨D3, L, rfl, eL, ?_⟩
          have hx3 := TK.same (K := K) k3 _ _ hx2
          repeat' (walk_at "jv")
          rw [decide_eq_true (by rw [hL])]
          exact q _ (k.trans k3)
theorem ok_is_web (D : Dn K mg "is_web" s_is_web ["thing"]) (B : Bn mg) (C__are_places : Cl P w K mg base 2 "_are_places" ["thing"] (spArePlaces K)) (C__are_roads : Cl P w K mg base 3 "_are_roads" ["thing", "places"] (spAreRoads K)) : Cl P w K mg base 4 "is_web" ["thing"] (spIsWeb K) := by
  refine D.cl sc_is_web (fun vs H Q E h => ?_) (fun f cdv A outer s H vs Q E hr h => ?_)
  · obtain ⟨v, ps, rs, rfl, _⟩ := h
    rfl
  · obtain ⟨v, ps, rs, rfl, hd, W, q⟩ := h
    obtain ⟨t, tp, tr, xs, rfl, s1, s2, s3, d3, dr, dpl⟩ := web_parts hd
    refine ⟨_, (pss_cons (ps_if (PW.pt (pw_or (pt_not (pt_val (pe_callB (k_isi (K := K)) rfl B.isinstance_ (by decide +kernel) (pa_cons (pv 0) (pa_cons (pe_ty (T := "tuple") B.tuple_ (by decide +kernel)) pa_nil))))) (pw_or1 (pt_cmpR op_ne (pe_callB (k_len (K := K)) rfl B.len_ (by decide +kernel) (pa_cons (pv 0) pa_nil)) pe_int (nomark _))))) (pss_one (ps_ret pe_bl)) pss_nil)
      (pss_cons (ps_asg (pv 0) (kpg_tup (K := K) (n := 2) rfl (pgs_cons (pg_name (i := 1) sc_is_web.nd rfl (by first | exact Or.inl rfl | exact Or.inr rfl)) (pgs_cons (pg_name (i := 2) sc_is_web.nd rfl (by first | exact Or.inl rfl | exact Or.inr rfl)) pgs_nil))))
      (pss_one (ps_ret (pe_and (pe_c C__are_places hr (pa_cons (pv 1) pa_nil)) (pe_one (pe_c C__are_roads hr (pa_cons (pv 2) (pa_cons (pv 1) pa_nil))))))))), ?_⟩
    repeat' (walk_at "jv")
    · rename_i hne
      exact absurd rfl hne
    · refine ⟨tp, ps, rfl, s2, W.names, W.pos, W.le8, fun H2 k2 => ?_⟩
      repeat' (walk_at "jv")
      exact ⟨tr, tp, xs, ps, rs, rfl, TK.same k2 _ _ s3, DpAll.same k2 _ _ d3, TK.same k2 _ _ s2, W, fun H3 k3 => q _ (k2.trans k3)⟩
theorem ok_need_web (D : Dn K mg "need_web" s_need_web ["web"]) (B : Bn mg) (C_is_web : Cl P w K mg base 4 "is_web" ["thing"] (spIsWeb K)) : Cl P w K mg base 5 "need_web" ["web"] (spNeedWeb K) := by
  refine D.cl sc_need_web (fun vs H Q E h => ?_) (fun f cdv A outer s H vs Q E hr h => ?_)
  · obtain ⟨v, ps, rs, rfl, _⟩ := h
    rfl
  · obtain ⟨v, ps, rs, rfl, hd, W, q⟩ := h
    refine ⟨_, (pss_one (ps_if (pt_not (pt_val (pe_c C_is_web hr (pa_cons (pv 0) pa_nil)))) (pss_one ps_dead) pss_nil)), ?_⟩
    repeat' (walk_at "jv")
    refine ⟨v, ps, rs, rfl, hd, W, fun H2 k2 => ?_⟩
    repeat' (walk_at "jv")
    exact q _ k2
end
end
section
open L2 PySem PySem.Spec PyProof.Rows
abbrev s__law_arrows : Stmt := topS 36
theorem sc__law_arrows : FnScope ["_law_web_here", "_law_order_here", "_law_road"] ["_law_web_here", "_law_order_here"] (defScope s__law_arrows) := ⟨rfl, rfl, rfl, by decide +kernel, rfl, by decide +kernel, by decide +kernel⟩
def spOrderF (K : PySem.W.Frag) : Sp := fun vs H Q _ => ∃ (a : Addr) (v : V) (ps : List Str) (rs : List (Str × Str)) (c : Int), vs = [.ref a, v] ∧ Fd H a c ∧ Dp K H v (webD ps rs) ∧ ps.length ≤ 8 ∧ c < 10 ^ 13 ∧
  ∀ (T : Addr) (qs : List Str) (H' : Hp), qs.Perm ps → FT H' T (qs.map V.str) → Fd H' a (c + 1000) → Ch a H H' → Q (.ref T) H'
section
variable {base : Heap} {P : Program} {w : World} {K : PySem.W.Frag} {mg : Str → Option Value}
theorem ok_orderF (D : Dn K mg "_law_order" s__law_order ["_law_feed_here", "_law_web_here"]) (B : Bn mg) (C__law_mixed : Cl P w K mg base 2 "_law_mixed" ["_law_feed_here", "_law_things"] (spMixedT K)) :
    Cl P w K mg base 3 "_law_order" ["_law_feed_here", "_law_web_here"] (spOrderF K) := by
  refine D.cl sc__law_order (fun vs H Q E h => ?_) (fun f cdv A outer s H vs Q E hr h => ?_)
  · obtain ⟨a, v, ps, rs, c, rfl, _⟩ := h
    rfl
  · obtain ⟨a, v, ps, rs, c, rfl, hf, hd, hl, hc, q⟩ := h
    obtain ⟨t, tp, tr, xs, rfl, s1, s2, s3, d3, dr, dpl⟩ := web_parts hd
    refine ⟨_, (pss_one (ps_ret (pe_callTy (k_tupleF (K := K)) rfl B.tuple_ (by decide +kernel) (pa_cons (pe_c C__law_mixed hr (pa_cons (pv 0) (pa_cons (pe_ix (k_ixT (K := K)) (pv 1) pe_int (fun _ _ => rfl)) pa_nil))) pa_nil)))), ?_⟩
    repeat' (walk_at "jv")
    refine ⟨a, tp, c, ps.map V.str, rfl, hf, s2, by rw [List.length_map]; omega, by omega, fun G ys H1 pm nG eG f1 k1 => ?_⟩
    obtain ⟨es, pe2, dz⟩ := DpAll.perm pm (DpAll.strs (K := K) (H := H1) ps)
    obtain ⟨qs, pq, rfl⟩ := perm_map_inv pe2 rfl
    have ez := DpAll.strs_inv dz
    subst ez
    refine i_nil ?_
    refine ⟨G, _, rfl, sq_lst eG, fun T ob nT ok => ?_⟩
    exact q T qs _ pq (FT.new ok) (f1.upd (Ne.symm (f1.ne nT))) (k1.trans (Ch.upd_new nT))
theorem ok_law_arrows (D : Dn K mg "_law_arrows" s__law_arrows ["_law_web_here", "_law_order_here"]) (B : Bn mg) : Cl P w K mg base 1 "_law_arrows" ["_law_web_here", "_law_order_here"] (spArrows K) := by
  refine D.cl sc__law_arrows (fun vs H Q E h => ?_) (fun f cdv A outer s H vs Q E hr h => ?_)
  · obtain ⟨v, o, qs, ps, rs, rfl, _⟩ := h
    rfl
  · obtain ⟨v, o, qs, ps, rs, rfl, hd, W, ho, pm, q⟩ := h
    obtain ⟨t, tp, tr, xs, rfl, s1, s2, s3, d3, dr, dpl⟩ := web_parts hd
    refine ⟨_, (pss_one (ps_ret (pe_callTy (k_tuple (K := K)) rfl B.tuple_ (by decide +kernel) (pa_cons (pe_lc (own := [("_law_road", 2)]) rfl sc__law_arrows.nd (kpi_tup (K := K) (pe_ix (k_ixT (K := K)) (pv 0) pe_int (fun _ _ => rfl))) (blkOk_by (N := ["_law_web_here", "_law_order_here", "_law_road"]) (sc := defScope s__law_arrows) (by decide +kernel)) (fun _ _ _ _ _ => (pg_name (i := 2) sc__law_arrows.nd rfl (by first | exact Or.inl rfl | exact Or.inr rfl))) (fun _ _ _ _ _ => pts_nil) (fun _ _ _ _ _ => (pe_ifExp (pt_cmpR op_lt (pe_bmF PySem.F.plainAttrs_tuple PySem.F.slot_tuple_index PySem.F.type_tuple_index (k_tindex (K := K)) (pv 1) (pa_cons (pe_ix (k_ixT (K := K)) (pv 2) pe_int (fun _ _ => rfl)) pa_nil)) (pe_bmF PySem.F.plainAttrs_tuple PySem.F.slot_tuple_index PySem.F.type_tuple_index (k_tindex (K := K)) (pv 1) (pa_cons (pe_ix (k_ixT (K := K)) (pv 2) pe_int (fun _ _ => rfl)) pa_nil)) (nomark _)) (pv 2) (pe_tup (pa_cons (pe_ix (k_ixT (K := K)) (pv 2) pe_int (fun _ _ => rfl)) (pa_cons (pe_ix (k_ixT (K := K)) (pv 2) pe_int (fun _ _ => rfl)) pa_nil)))))) pa_nil)))), ?_⟩
    have hl : xs.length = rs.length := by rw [DpAll.len d3, List.length_map]
    have h14 := W.le14
    repeat' (walk_at "jv")
    refine c_tup xs (fun D2 i H' => H D2 = none ∧ Same H H' ∧ LsD K H' D2 ((arr qs (rs.take i)).map roadD)) (fun D2 nD => ⟨nD, Same.upd_new nD, LsD.nil upd_same⟩) (fun D2 i H' _ h => TK.same h.2.1 _ _ s3) (fun D2 i y H' hy h => ?_) (fun D2 H' h => ?_)
    · obtain ⟨nD, k, ws, ew, dw, tw⟩ := h
      have hi : i < rs.length := by
        have := (List.getElem?_eq_some_iff.mp hy).1
        omega
      have hws : ws.length ≤ 14 := by
        rw [DpAll.len dw, List.length_map]
        unfold arr
        rw [List.length_map, List.length_take]
        omega
      obtain ⟨d, hd2, dy⟩ := DpAll.get d3 hy
      rw [List.getElem?_map, List.getElem?_eq_getElem hi] at hd2
      obtain rfl : roadD rs[i] = d := Option.some.inj hd2
      have dy' := Dp.same k _ _ dy
      obtain ⟨t2, rfl, st⟩ := road_parts dy'
      obtain ⟨w1, w2, w3⟩ := W.ends _ (List.getElem_mem hi)
      have et : arr qs (rs.take (i + 1)) = arr qs (rs.take i) ++ [arr1 qs rs[i]] := by
        unfold arr
        rw [List.take_add_one, List.getElem?_eq_getElem hi, List.map_append]
        rfl
      repeat' (walk_at "jv")
      refine i_bmF (i_var rfl (i_tyF (ho.same k) ?_))
      refine i_cons ?_
      repeat' (walk_at "jv")
      refine i_tix (ho.same k).sq (pm.mem_iff.mpr w1) ?_
      refine i_bmF (i_var rfl (i_tyF (ho.same k) ?_))
      refine i_cons ?_
      repeat' (walk_at "jv")
      refine i_tix (ho.same k).sq (pm.mem_iff.mpr w2) ?_
      repeat' (walk_at "jv")
      · rename_i lt
        have e : arr1 qs rs[i] = rs[i] := if_pos (by omega)
        refine ⟨nD, fun b u z => ?_, ?_⟩
        · rw [upd_ne (fun w => by rw [w, nD] at z; cases z)]
          exact k _ _ z
        · rw [et, e, List.map_append]
          exact LsD.push ew dw tw dy' rfl
      · rename_i lt
        have e : arr1 qs rs[i] = (rs[i].2, rs[i].1) := if_neg (by omega)
        intro T nT
        have eD : (upd H' T (.tup [.str rs[i].2, .str rs[i].1])) D2 = some (.lst ws) := (upd_ne (ne_of_none ew nT)).trans ew
        refine i_lcE eD (by rw [sizeLine_eq]; omega) ⟨nD, fun b u z => ?_, ?_⟩
        · rw [upd_ne (fun w => by rw [w, nD] at z; cases z)]
          exact Same.upd_new nT _ _ (k _ _ z)
        · rw [et, e, List.map_append]
          exact LsD.push2 ew dw tw nT (.str _) (.str _) rfl rfl
    · obtain ⟨nD, k, ws, ew, dw, tw⟩ := h
      rw [hl, List.take_length] at dw tw
      refine i_nil ?_
      refine i_tupL (sq_lst ew) fun T nT => ?_
      have sm := Same.upd_new (o := .tup ws) nT
      exact q T _ (k.trans sm) (.tup (xs := ws) (.inl (.inl upd_same)) (DpAll.same sm _ _ dw))
end
end
section
open L2 PySem PySem.Spec PyProof.Rows
abbrev s_free_places : Stmt := topS 21
theorem sc_free_places : FnScope ["web", "told", "gone", "held", "one", "other", "place"] ["web", "told", "gone"] (defScope s_free_places) := ⟨rfl, rfl, rfl, by decide +kernel, rfl, by decide +kernel, by decide +kernel⟩
abbrev s_freed : Stmt := topS 22
theorem sc_freed : FnScope ["web", "told", "gone", "free"] ["web", "told"] (defScope s_freed) := ⟨rfl, rfl, rfl, by decide +kernel, rfl, by decide +kernel, by decide +kernel⟩
theorem filter_oneR {α : Type} (p : α → Bool) (x : α) : List.filter p [x] = if p x = true then [x] else [] := by
  rw [List.filter_cons, List.filter_nil]
section
variable {base : Heap} {P : Program} {w : World} {K : PySem.W.Frag} {mg : Str → Option Value}
theorem road_get {K : PySem.W.Frag} {H : Hp} {xs : List V} {l : List (Str × Str)} {i : Nat} {x : V} (d : DpAll K H xs (l.map roadD)) (hx : xs[i]? = some x) : ∃ r t, l[i]? = some r ∧ x = .ref t ∧ SqT K H t [.str r.1, .str r.2] := by
  obtain ⟨e, he, dx⟩ := DpAll.get d hx
  rw [List.getElem?_map] at he
  cases z : l[i]? with
  | none => rw [z] at he; cases he
  | some r =>
    rw [z] at he
    have := Option.some.inj he
    subst this
    obtain ⟨t, rfl, st⟩ := road_parts dx
    exact ⟨r, t, rfl, rfl, st⟩
theorem ok_free (D : Dn K mg "free_places" s_free_places ["web", "told", "gone"]) (B : Bn mg) : Cl P w K mg base 1 "free_places" ["web", "told", "gone"] (spFree K) := by
  refine D.cl sc_free_places (fun vs H Q E h => ?_) (fun f cdv A outer s H vs Q E hr h => ?_)
  · obtain ⟨v, T, g, l, gone, ps, rs, rfl, _⟩ := h
    rfl
  · obtain ⟨v, T, g, l, gone, ps, rs, rfl, hd, W, hT, hl, hg, q⟩ := h
    obtain ⟨t, tp, tr, xs, rfl, s1, s2, s3, d3, dr, dpl⟩ := web_parts hd
    clear d3 dr dpl s3
    obtain ⟨T', us, eT, sT, aT⟩ := tup_parts hT
    obtain rfl : T = T' := by injection eT
    have hul : us.length = l.length := by rw [DpAll.len aT, List.length_map]
    have hlp : (ps.map V.str).length = ps.length := List.length_map ..
    have h8 := W.le8
    refine ⟨_, (pss_cons (ps_set (i := 3) sc_free_places.nd rfl (by first | exact Or.inl rfl | exact Or.inr rfl) (pe_dc (own := [("one", 4), ("other", 5)]) rfl sc_free_places.nd (kpi_tup (K := K) (pv 1)) (blkOk_by (N := ["web", "told", "gone", "held", "one", "other", "place"]) (sc := defScope s_free_places) (by decide +kernel)) (fun _ _ _ _ _ => (kpg_tup (K := K) (n := 2) rfl (pgs_cons (pg_name (i := 4) sc_free_places.nd rfl (by first | exact Or.inl rfl | exact Or.inr rfl)) (pgs_cons (pg_name (i := 5) sc_free_places.nd rfl (by first | exact Or.inl rfl | exact Or.inr rfl)) pgs_nil)))) (fun _ _ _ _ _ => pts_one (pt_cmpR (k_notInS (K := K)) (pv 4) (pv 2) (by rfl))) (fun _ _ _ _ _ => (pv 5)) (fun _ _ _ _ _ => pe_bl)))
      (pss_one (ps_ret (pe_lc (own := [("place", 6)]) rfl sc_free_places.nd (kpi_tup (K := K) (pe_ix (k_ixT (K := K)) (pv 0) pe_int (fun _ _ => rfl))) (blkOk_by (N := ["web", "told", "gone", "held", "one", "other", "place"]) (sc := defScope s_free_places) (by decide +kernel)) (fun _ _ _ _ _ => (pg_name (i := 6) sc_free_places.nd rfl (by first | exact Or.inl rfl | exact Or.inr rfl))) (fun _ _ _ _ _ => pts_one (PW.pt (pw_and (pt_cmpR (k_notInS (K := K)) (pv 6) (pv 2) (by rfl)) (pw_and1 (pt_cmp (pc_dnotin (hu1 hr) (pv 6) (pv 3))))))) (fun _ _ _ _ _ => (pv 6)))))), ?_⟩
    repeat' (walk_at "jv")
    refine i_dc ?_
    repeat' (walk_at "jv")
    refine d_tup us (fun D i H' => H D = none ∧ Same H H' ∧ ∃ kvs, H' D = some (.dK kvs) ∧ kvs.length ≤ i ∧ ∀ z : Str, (valV kvs (Sum.inr z)).isSome = decide (∃ r ∈ l.take i, r.2 = z ∧ r.1 ∉ gone)) (fun D nD => ⟨nD, Same.upd_new nD, [], upd_same, Nat.le_refl _, fun z => by rw [List.take_zero, decide_eq_false (by simp)]; rfl⟩) (fun D i H' _ h => TK.same h.2.1 _ _ sT) (fun D i x H' hx h => ?_) (fun D H' h => ?_)
    · obtain ⟨nD, kD, kvs, eD, hk, hv⟩ := h
      obtain ⟨r, b, hr2, rfl, sb⟩ := road_get (DpAll.same kD _ _ aT) hx
      have hi : i < l.length := (List.getElem?_eq_some_iff.mp hr2).1
      have hg' := TK.same (K := K) kD _ _ hg
      have et : ∀ z : Str, (∃ r' ∈ l.take (i + 1), r'.2 = z ∧ r'.1 ∉ gone) ↔ (∃ r' ∈ l.take i, r'.2 = z ∧ r'.1 ∉ gone) ∨ (r.2 = z ∧ r.1 ∉ gone) := fun z => by
        rw [List.take_add_one, hr2]
        constructor
        · rintro ⟨r', m, h1, h2⟩
          rcases List.mem_append.mp m with m | m
          · exact .inl ⟨r', m, h1, h2⟩
          · have : r' = r := by simpa using m
            subst this
            exact .inr ⟨h1, h2⟩
        · rintro (⟨r', m, h1, h2⟩ | ⟨h1, h2⟩)
          · exact ⟨r', List.mem_append_left _ m, h1, h2⟩
          · exact ⟨r, List.mem_append_right _ (by simp), h1, h2⟩
      refine i_gtup sb rfl ?_
      repeat' (walk_at "jv")
      refine i_notInS (SqA.t hg') ?_
      refine ⟨_, rfl, i_iteB (fun h1 => ?_) (fun h1 => ?_)⟩
      · have h2 : r.1 ∉ gone := by simpa using h1
        repeat' (walk_at "jv")
        refine ⟨kvs, Sum.inr r.2, rfl, eD, by rw [sizeLine_eq]; omega, nD, fun c oc z => ?_, _, upd_same, Nat.le_trans (length_putK _ _ _) (by omega), fun z => ?_⟩
        · rw [upd_ne (ne_of_none z nD)]
          exact kD _ _ z
        · rw [valV_put]
          by_cases c : z = r.2
          · subst c
            rw [if_pos rfl, decide_eq_true ((et _).mpr (.inr ⟨rfl, h2⟩))]
            rfl
          · rw [if_neg (fun e => c (by injection e)), hv z]
            refine decide_eq_decide.mpr ?_
            rw [et z]
            exact ⟨.inl, fun h => h.resolve_right fun w => c w.1.symm⟩
      · have h2 : r.1 ∈ gone := by simpa using h1
        refine ⟨nD, kD, kvs, eD, by omega, fun z => ?_⟩
        rw [hv z]
        refine decide_eq_decide.mpr ?_
        rw [et z]
        exact ⟨.inl, fun h => h.resolve_right fun w => w.2 h2⟩
    · obtain ⟨nD, kD, kvs, eD, hk, hv⟩ := h
      rw [hul, List.take_length] at hv
      have s1' := TK.same (K := K) kD _ _ s1
      have s2' := TK.same (K := K) kD _ _ s2
      have hg' := TK.same (K := K) kD _ _ hg
      repeat' (walk_at "jv")
      refine c_tup (ps.map V.str) (fun D2 i H2 => H' D2 = none ∧ Same H' H2 ∧ H2 D2 = some (.lst ((freeL (ps.take i) l gone).map V.str))) (fun D2 nD2 => ⟨nD2, Same.upd_new nD2, upd_same⟩) (fun D2 i H2 _ h => TK.same h.2.1 _ _ s2') (fun D2 i x H2 hx h => ?_) (fun D2 H2 h => ?_)
      · obtain ⟨nD2, k2, e2⟩ := h
        have hi : i < ps.length := by
          have := (List.getElem?_eq_some_iff.mp hx).1
          omega
        rw [List.getElem?_map, List.getElem?_eq_getElem hi] at hx
        obtain rfl : V.str ps[i] = x := Option.some.inj hx
        have hg2 := TK.same (K := K) k2 _ _ hg'
        have eD2 := k2 _ _ eD
        have hll : ((freeL (ps.take i) l gone).map V.str).length ≤ 8 := by
          rw [List.length_map]
          have := List.length_filter_le (fun z => !decide (z ∈ gone) && !decide (∃ r ∈ l, r.2 = z ∧ r.1 ∉ gone)) (ps.take i)
          rw [List.length_take] at this
          unfold freeL
          omega
        have et : freeL (ps.take (i + 1)) l gone = freeL (ps.take i) l gone ++ if (!decide (ps[i] ∈ gone) && !decide (∃ r ∈ l, r.2 = ps[i] ∧ r.1 ∉ gone)) = true then [ps[i]] else [] := by
          unfold freeL
          rw [List.take_add_one, List.getElem?_eq_getElem hi, List.filter_append]
          exact congrArg _ (filter_oneR _ _)
        repeat' (walk_at "jv")
        refine i_notInS (SqA.t hg2) ?_
        refine ⟨_, rfl, i_iteB (fun h1 => ?_) (fun h1 => ?_)⟩
        · repeat' (walk_at "jv")
          refine i_dNotIn ?_
          repeat' (walk_at "jv")
          refine ⟨D, valV kvs (Sum.inr ps[i]), rfl, DGet.k (k := Sum.inr _) eD2, ?_⟩
          rw [hv ps[i]]
          refine ⟨_, rfl, ?_⟩
          rw [h1, Bool.true_and] at et
          refine i_iteB (fun h3 => ?_) (fun h3 => ?_)
          · rw [if_pos h3] at et
            repeat' (walk_at "jv")
            refine ⟨nD2, fun c oc z => ?_, ?_⟩
            · rw [upd_ne (ne_of_none z nD2)]
              exact k2 _ _ z
            · rw [upd_same, et, List.map_append]
              rfl
          · rw [if_neg (by rw [h3]; decide), List.append_nil] at et
            exact ⟨nD2, k2, by rw [et]; exact e2⟩
        · rw [h1, Bool.false_and, if_neg (by decide), List.append_nil] at et
          refine i_iteF ?_
          exact ⟨nD2, k2, by rw [et]; exact e2⟩
      · obtain ⟨nD2, k2, e2⟩ := h
        rw [hlp, List.take_length] at e2
        exact q D2 _ (free_same kD nD2) (kD.trans k2) e2
theorem free_few {ps : List Str} {l : List (Str × Str)} {g : List Str} : (freeL ps l g).length ≤ ps.length := List.length_filter_le ..
theorem freed_more {ps : List Str} {l : List (Str × Str)} : ∀ (i : Nat) (g : List Str), (freedN ps l i g).length = g.length + i → ∀ z r, freeL ps l (freedN ps l i g) = z :: r → freedN ps l (i + 1) g = freedN ps l i g ++ [z]
  | 0, g, _, z, r, e => freed_cons (show freeL ps l g = z :: r from e) 0
  | i + 1, g, h, z, r, e => by
    cases c : freeL ps l g with
    | nil =>
      rw [freed_nil c] at h
      omega
    | cons y s =>
      rw [freed_cons c (i + 1)]
      rw [freed_cons c i] at e h ⊢
      exact freed_more i (g ++ [y]) (by rw [List.length_append] at *; simp at *; omega) z r e
theorem freed_end {ps : List Str} {l : List (Str × Str)} : ∀ (i n : Nat) (g : List Str), i ≤ n → freeL ps l (freedN ps l i g) = [] → freedN ps l n g = freedN ps l i g
  | 0, n, g, _, e => freed_nil (show freeL ps l g = [] from e) n
  | i + 1, 0, g, h, _ => absurd h (by omega)
  | i + 1, n + 1, g, h, e => by
    cases c : freeL ps l g with
    | nil => rw [freed_nil c, freed_nil c]
    | cons y s =>
      rw [freed_cons c] at e ⊢
      rw [freed_cons c]
      exact freed_end i n _ (by omega) e
theorem ok_freed (D : Dn K mg "freed" s_freed ["web", "told"]) (B : Bn mg) (C_free_places : Cl P w K mg base 1 "free_places" ["web", "told", "gone"] (spFree K)) : Cl P w K mg base 2 "freed" ["web", "told"] (spFreed K) := by
  refine D.cl sc_freed (fun vs H Q E h => ?_) (fun f cdv A outer s H vs Q E hr h => ?_)
  · obtain ⟨v, T, l, ps, rs, rfl, _⟩ := h
    rfl
  · obtain ⟨v, T, l, ps, rs, rfl, hd, W, hT, hl, q⟩ := h
    have h8 := W.le8
    refine ⟨_, (pss_cons (ps_set (i := 2) sc_freed.nd rfl (by first | exact Or.inl rfl | exact Or.inr rfl) (pe_tupF pa_nil))
      (pss_cons (ps_set (i := 3) sc_freed.nd rfl (by first | exact Or.inl rfl | exact Or.inr rfl) (pe_c C_free_places hr (pa_cons (pv 0) (pa_cons (pv 1) (pa_cons (pv 2) pa_nil)))))
      (pss_cons (ps_while PassesOwn.never (k_truth (K := K) (pv 3) (fun _ => rfl)) (pss_cons (ps_set (i := 2) sc_freed.nd rfl (by first | exact Or.inl rfl | exact Or.inr rfl) (pe_op (k_catF (K := K)) (pv 2) (pe_tupF (pa_cons (pe_ix (k_ixL (K := K)) (pv 3) pe_int (fun _ _ => rfl)) pa_nil))))
      (pss_one (ps_set (i := 3) sc_freed.nd rfl (by first | exact Or.inl rfl | exact Or.inr rfl) (pe_c C_free_places hr (pa_cons (pv 0) (pa_cons (pv 1) (pa_cons (pv 2) pa_nil))))))))
      (pss_one (ps_ret (pv 2)))))), ?_⟩
    repeat' (walk_at "jv")
    refine i_tupF ?_
    refine i_nil ?_
    refine ⟨by rw [sizeLine_eq]; show 0 ≤ _; omega, fun G0 ob0 nG0 ok0 => ?_⟩
    have kG := Same.upd_new (o := .frz ob0 (.tup [])) nG0
    have fG : FT (upd H G0 (.frz ob0 (.tup []))) G0 (([] : List Str).map V.str) := FT.new ok0
    generalize upd H G0 (.frz ob0 (.tup [])) = H1 at *
    repeat' (walk_at "jv")
    refine ⟨v, T, G0, l, [], ps, rs, rfl, Dp.same kG _ _ hd, W, Dp.same kG _ _ hT, hl, fG.sq, fun D H2 nD k2 eD => ?_⟩
    repeat' (walk_at "jv")
    refine f_while ps.length (fun i σ H' => ∃ G D, σ = [some v, some (.ref T), some (.ref G), some (.ref D)] ∧ Same H H' ∧ FT H' G ((freedN ps l i []).map V.str) ∧ (freedN ps l i []).length = i ∧ H' D = some (.lst ((freeL ps l (freedN ps l i [])).map V.str))) ⟨G0, D, rfl, kG.trans k2, fG.same k2, rfl, eD⟩ (fun i σ H3 hi h => ?_)
    obtain ⟨G, D, rfl, kk, fG3, hlen, eD3⟩ := h
    clear kG fG eD k2 nD H2
    refine i_truth ?_
    repeat' (walk_at "jv")
    refine ⟨_, .inl ⟨_, sq_lst eD3, rfl⟩, ?_⟩
    have hfl := free_few (ps := ps) (l := l) (g := freedN ps l i [])
    cases c : freeL ps l (freedN ps l i []) with
    | nil =>
      refine i_iteF ?_
      repeat' (walk_at "jv")
      refine q G _ kk ?_
      unfold freedL
      rw [freed_end i ps.length [] hi c]
      exact fG3
    | cons z r =>
      refine i_iteT ?_
      rw [c] at eD3
      have en := freed_more i [] (by rw [hlen]; simp) z r c
      have hn : (freedN ps l (i + 1) []).length = i + 1 := by rw [en, List.length_append, hlen]; rfl
      have hi1 : i + 1 ≤ ps.length := by
        obtain ⟨h1, h2⟩ := freed_ok (ps := ps) (l := l) (g := []) List.nodup_nil (fun z hz => absurd hz List.not_mem_nil) (i + 1)
        have := nd_le _ _ h1 h2
        omega
      refine w_turn hi1 ?_
      repeat' (walk_at "jv")
      refine i_tupF ?_
      repeat' (walk_at "jv")
      intro S ob nS ok
      have kS := Same.upd_new (o := .frz ob (.tup [.str z])) nS
      have fS : FT (upd H3 S (.frz ob (.tup [.str z]))) S [.str z] := FT.new ok
      refine i_catF (fG3.same kS) fS (by rw [List.length_map, hlen, sizeLine_eq]; show i + 1 ≤ _; omega) fun C HC kC fC => ?_
      have k3C := (kk.trans kS).trans kC
      have fC2 : FT HC C ((freedN ps l (i + 1) []).map V.str) := by
        rw [en, List.map_append]
        exact fC
      repeat' (walk_at "jv")
      refine ⟨v, T, C, l, freedN ps l (i + 1) [], ps, rs, rfl, Dp.same k3C _ _ hd, W, Dp.same k3C _ _ hT, hl, fC2.sq, fun D4 H4 nD4 k4 eD4 => ?_⟩
      repeat' (walk_at "jv")
      exact ⟨C, D4, rfl, k3C.trans k4, fC2.same k4, hn, eD4⟩
end
end
section
open L2 PySem PySem.Spec PyProof.Rows
abbrev s__law_first : Stmt := topS 39
theorem sc__law_first : FnScope ["_law_web_here", "_law_told", "_law_got", "_law_turn", "_law_free", "_law_place", "_law_one_here", "_law_other"] ["_law_web_here", "_law_told"] (defScope s__law_first) := ⟨rfl, rfl, rfl, by decide +kernel, rfl, by decide +kernel, by decide +kernel⟩
section
variable {base : Heap} {P : Program} {w : World} {K : PySem.W.Frag} {mg : Str → Option Value}
theorem ok_lfirst (D : Dn K mg "_law_first" s__law_first ["_law_web_here", "_law_told"]) (B : Bn mg) : Cl P w K mg base 1 "_law_first" ["_law_web_here", "_law_told"] (spFirstOf K) := by
  refine D.cl sc__law_first (fun vs H Q E h => ?_) (fun f cdv A outer s H vs Q E hr h => ?_)
  · obtain ⟨v, T, l, ps, rs, rfl, _⟩ := h
    rfl
  · obtain ⟨v, T, l, ps, rs, rfl, hd, W, hT, hl, nmL, q1, q2⟩ := h
    obtain ⟨t, tp, tr, xs, rfl, s1, s2, s3, d3, dr, dpl⟩ := web_parts hd
    clear d3 dr dpl s3
    obtain ⟨T', us, eT, sT, aT⟩ := tup_parts hT
    obtain rfl : T = T' := by injection eT
    have hul : us.length = l.length := by rw [DpAll.len aT, List.length_map]
    have hlp : (ps.map V.str).length = ps.length := List.length_map ..
    have h8 := W.le8
    refine ⟨_, (pss_cons (ps_set (i := 2) sc__law_first.nd rfl (by first | exact Or.inl rfl | exact Or.inr rfl) (pe_lst pa_nil))
      (pss_cons (ps_for PassesOwn.never rfl (kpi_tup (K := K) (pe_ix (k_ixT (K := K)) (pv 0) pe_int (fun _ _ => rfl))) (pg_name (i := 3) sc__law_first.nd rfl (by first | exact Or.inl rfl | exact Or.inr rfl)) (pss_cons (ps_set (i := 4) sc__law_first.nd rfl (by first | exact Or.inl rfl | exact Or.inr rfl) (pe_lst pa_nil))
      (pss_cons (ps_for PassesOwn.never rfl (kpi_tup (K := K) (pe_ix (k_ixT (K := K)) (pv 0) pe_int (fun _ _ => rfl))) (pg_name (i := 5) sc__law_first.nd rfl (by first | exact Or.inl rfl | exact Or.inr rfl)) (pss_one (ps_if (PW.pt (pw_and (pt_cmpR (k_notInS (K := K)) (pv 5) (pv 2) (by rfl)) (pw_and1 (pt_cmpR (k_eqD (K := K) hr.units) (pe_lc (own := [("_law_one_here", 6), ("_law_other", 7)]) rfl sc__law_first.nd (kpi_tup (K := K) (pv 1)) (blkOk_by (N := ["_law_web_here", "_law_told", "_law_got", "_law_turn", "_law_free", "_law_place", "_law_one_here", "_law_other"]) (sc := defScope s__law_first) (by decide +kernel)) (fun _ _ _ _ _ => (kpg_tup (K := K) (n := 2) rfl (pgs_cons (pg_name (i := 6) sc__law_first.nd rfl (by first | exact Or.inl rfl | exact Or.inr rfl)) (pgs_cons (pg_name (i := 7) sc__law_first.nd rfl (by first | exact Or.inl rfl | exact Or.inr rfl)) pgs_nil)))) (fun _ _ _ _ _ => pts_one (PW.pt (pw_and (pt_cmpR op_eq (pv 7) (pv 5) (nomark _)) (pw_and1 (pt_cmpR (k_notInS (K := K)) (pv 6) (pv 2) (by rfl)))))) (fun _ _ _ _ _ => (pv 6))) (pe_lst pa_nil) (nomark _))))) (pss_one (ps_expr (pe_bm PySem.F.plainAttrs_list PySem.F.slot_list_append PySem.F.type_list_append mt_append (pv 4) (pa_cons (pv 5) pa_nil)))) pss_nil)))
      (pss_cons (ps_if (pt_cmpR (k_eqD (K := K) hr.units) (pv 4) (pe_lst pa_nil) (nomark _)) (pss_one (ps_ret pe_non)) pss_nil)
      (pss_one (ps_expr (pe_bm PySem.F.plainAttrs_list PySem.F.slot_list_append PySem.F.type_list_append mt_append (pv 2) (pa_cons (pe_ix (k_ixL (K := K)) (pv 4) pe_int (fun _ _ => rfl)) pa_nil))))))))
      (pss_one (ps_ret (pe_callTy (k_tupleF (K := K)) rfl B.tuple_ (by decide +kernel) (pa_cons (pv 2) pa_nil)))))), ?_⟩
    repeat' (walk_at "jv")
    intro G nG
    have kG := Same.upd_new (o := .lst []) nG
    have eG : (upd H G (.lst [])) G = some (.lst (([] : List Str).map V.str)) := upd_same
    generalize upd H G (.lst []) = H1 at *
    have s1' := TK.same (K := K) kG _ _ s1
    have s2' := TK.same (K := K) kG _ _ s2
    repeat' (walk_at "jv")
    refine f_tup (ps.map V.str) (fun i σ H' => ∃ y3 y4 y5, σ = [some (.ref t), some (.ref T), some (.ref G), y3, y4, y5, none, none] ∧ Same H H' ∧ H' G = some (.lst ((freedN ps l i []).map V.str)) ∧ (freedN ps l i []).length = i) ⟨none, none, none, rfl, kG, eG, rfl⟩ (fun i σ H' hi h => ?_) (fun i x σ H2 hx h => ?_) (fun σ H2 h => ?_)
    · obtain ⟨y3, y4, y5, rfl, kk, eG2, hlen⟩ := h
      exact TK.same kk _ _ s2
    · obtain ⟨y3, y4, y5, rfl, kk, eG2, hlen⟩ := h
      have hi : i < ps.length := by
        have := (List.getElem?_eq_some_iff.mp hx).1
        omega
      clear s1' s2' kG eG H1
      repeat' (walk_at "jv")
      intro F nF
      have nFH : H F = none := free_same kk nF
      have nFG : F ≠ G := fun e => by rw [e, eG2] at nF; cases nF
      have kF := Same.upd_new (o := .lst []) nF
      have eF : (upd H2 F (.lst [])) F = some (.lst ((freeL (ps.take 0) l (freedN ps l i [])).map V.str)) := upd_same
      replace kk := kk.trans kF
      replace eG2 := kF _ _ eG2
      generalize upd H2 F (.lst []) = H3 at *
      clear kF nF H2
      have s1' := TK.same (K := K) kk _ _ s1
      have s2' := TK.same (K := K) kk _ _ s2
      have hlg : (freedN ps l i []).length ≤ 8 := by omega
      have hflg := free_few (ps := ps) (l := l) (g := freedN ps l i [])
      repeat' (walk_at "jv")
      refine f_tup (ps.map V.str) (fun j σ H' => ∃ y5, σ = [some (.ref t), some (.ref T), some (.ref G), some x, some (.ref F), y5, none, none] ∧ Same H H' ∧ H' G = some (.lst ((freedN ps l i []).map V.str)) ∧ H' F = some (.lst ((freeL (ps.take j) l (freedN ps l i [])).map V.str))) ⟨y5, rfl, kk, eG2, eF⟩ (fun j σ H' hj h => ?_) (fun j y σ H4 hy h => ?_) (fun σ H4 h => ?_)
      · obtain ⟨y5, rfl, kk, eG2, eF⟩ := h
        exact TK.same kk _ _ s2
      · clear eF eG2 kk s1' s2' H3
        obtain ⟨y5, rfl, kk, eG2, eF⟩ := h
        have hj : j < ps.length := by
          have := (List.getElem?_eq_some_iff.mp hy).1
          omega
        rw [List.getElem?_map, List.getElem?_eq_getElem hj] at hy
        obtain rfl : V.str ps[j] = y := Option.some.inj hy
        have et : freeL (ps.take (j + 1)) l (freedN ps l i []) = freeL (ps.take j) l (freedN ps l i []) ++ if (!decide (ps[j] ∈ freedN ps l i []) && !decide (∃ r ∈ l, r.2 = ps[j] ∧ r.1 ∉ freedN ps l i [])) = true then [ps[j]] else [] := by
          unfold freeL
          rw [List.take_add_one, List.getElem?_eq_getElem hj, List.filter_append]
          exact congrArg _ (filter_oneR _ _)
        have hll : ((freeL (ps.take j) l (freedN ps l i [])).map V.str).length ≤ 8 := by
          rw [List.length_map]
          have := List.length_filter_le (fun z => !decide (z ∈ freedN ps l i []) && !decide (∃ r ∈ l, r.2 = z ∧ r.1 ∉ freedN ps l i [])) (ps.take j)
          rw [List.length_take] at this
          unfold freeL
          omega
        repeat' (walk_at "jv")
        refine i_notInS (SqA.l (sq_lst eG2)) ?_
        refine ⟨_, rfl, i_iteB (fun h1 => ?_) (fun h1 => ?_)⟩
        · rw [h1, Bool.true_and] at et
          have sT' := TK.same (K := K) kk _ _ sT
          repeat' (walk_at "jv")
          refine c_tup us (fun D m H' => H4 D = none ∧ Same H4 H' ∧ H' D = some (.lst ((((l.take m).filter fun r => decide (r.2 = ps[j]) && !decide (r.1 ∈ freedN ps l i [])).map (·.1)).map V.str))) (fun D nD => ⟨nD, Same.upd_new nD, upd_same⟩) (fun D m H' _ h => TK.same h.2.1 _ _ sT') (fun D m u H' hu h => ?_) (fun D H5 h => ?_)
          · obtain ⟨nD, kD, eD⟩ := h
            obtain ⟨r, b, hr2, rfl, sb⟩ := road_get (DpAll.same (kk.trans kD) _ _ aT) hu
            have hm : m < l.length := (List.getElem?_eq_some_iff.mp hr2).1
            have em : ((l.take (m + 1)).filter fun r => decide (r.2 = ps[j]) && !decide (r.1 ∈ freedN ps l i [])) = ((l.take m).filter fun r => decide (r.2 = ps[j]) && !decide (r.1 ∈ freedN ps l i [])) ++ if (decide (r.2 = ps[j]) && !decide (r.1 ∈ freedN ps l i [])) = true then [r] else [] := by
              rw [List.take_add_one, hr2, List.filter_append]
              exact congrArg _ (filter_oneR _ _)
            have hdl : ((((l.take m).filter fun r => decide (r.2 = ps[j]) && !decide (r.1 ∈ freedN ps l i [])).map (·.1)).map V.str).length ≤ 14 := by
              rw [List.length_map, List.length_map]
              have := List.length_filter_le (fun r : Str × Str => decide (r.2 = ps[j]) && !decide (r.1 ∈ freedN ps l i [])) (l.take m)
              rw [List.length_take] at this
              omega
            refine i_gtup sb rfl ?_
            have eG5 := kD _ _ eG2
            repeat' (walk_at "jv")
            · rename_i hz
              refine i_notInS (SqA.l (sq_lst eG5)) ?_
              refine ⟨_, rfl, ?_⟩
              rw [decide_eq_true hz, Bool.true_and] at em
              refine i_iteB (fun h3 => ?_) (fun h3 => ?_)
              · rw [if_pos h3] at em
                repeat' (walk_at "jv")
                refine ⟨nD, fun c oc z => ?_, ?_⟩
                · rw [upd_ne (ne_of_none z nD)]
                  exact kD _ _ z
                · rw [upd_same, em, List.map_append, List.map_append]
                  rfl
              · rw [if_neg (by rw [h3]; decide), List.append_nil] at em
                exact ⟨nD, kD, by rw [em]; exact eD⟩
            · rename_i hz
              rw [decide_eq_false hz, Bool.false_and, if_neg (by decide), List.append_nil] at em
              exact ⟨nD, kD, by rw [em]; exact eD⟩
          · obtain ⟨nD, kD, eD⟩ := h
            rw [hul, List.take_length] at eD
            repeat' (walk_at "jv")
            intro E nE
            have kE := Same.upd_new (o := .lst []) nE
            have eE : (upd H5 E (.lst [])) E = some (.lst (([] : List Str).map V.str)) := upd_same
            replace eD := kE _ _ eD
            have kk6 := kD.trans kE
            have eG6 := kk6 _ _ eG2
            have eF6 := kk6 _ _ eF
            generalize upd H5 E (.lst []) = H6 at *
            have nmD : ∀ z ∈ (l.filter fun r => decide (r.2 = ps[j]) && !decide (r.1 ∈ freedN ps l i [])).map (·.1), nmOk z = true := fun z hz => by
              obtain ⟨r, hr3, rfl⟩ := List.mem_map.mp hz
              exact (nmL r (List.mem_filter.mp hr3).1).1
            refine ⟨_, _, tl_dp eD, tl_dp eE, tl_shaped nmD, tl_shaped (fun z hz => absurd hz List.not_mem_nil), ?_⟩
            rw [tl_eqd]
            have ee : decide ((l.filter fun r => decide (r.2 = ps[j]) && !decide (r.1 ∈ freedN ps l i [])).map (·.1) = []) = !decide (∃ r ∈ l, r.2 = ps[j] ∧ r.1 ∉ freedN ps l i []) := by
              rw [Bool.eq_iff_iff, decide_eq_true_iff, Bool.not_eq_true', decide_eq_false_iff_not, List.map_eq_nil_iff, List.filter_eq_nil_iff]
              constructor
              · rintro h ⟨r, m, h1, h2⟩
                exact h r m (by simp [h1, h2])
              · intro h r m c
                rw [Bool.and_eq_true, decide_eq_true_iff, Bool.not_eq_true', decide_eq_false_iff_not] at c
                exact h ⟨r, m, c.1, c.2⟩
            rw [ee]
            refine ⟨_, rfl, i_iteB (fun h3 => ?_) (fun h3 => ?_)⟩
            · rw [if_pos h3] at et
              repeat' (walk_at "jv")
              refine ⟨_, rfl, fun b oo w => ?_, (upd_ne (Ne.symm nFG)).trans eG6, ?_⟩
              · rw [upd_ne (ne_of_none w nFH)]
                exact (kk.trans kk6) _ _ w
              · rw [upd_same, et, List.map_append]
                rfl
            · rw [if_neg (by rw [h3]; decide), List.append_nil] at et
              repeat' (walk_at "jv")
              exact ⟨_, rfl, kk.trans kk6, eG6, by rw [et]; exact eF6⟩
        · rw [h1, Bool.false_and, if_neg (by decide), List.append_nil] at et
          refine i_iteF ?_
          repeat' (walk_at "jv")
          exact ⟨_, rfl, kk, eG2, by rw [et]; exact eF⟩
      · clear eF eG2 kk s1' s2' H3
        obtain ⟨y5, rfl, kk, eG2, eF⟩ := h
        rw [hlp, List.take_length] at eF
        repeat' (walk_at "jv")
        intro E nE
        have kE := Same.upd_new (o := .lst []) nE
        have eE : (upd H4 E (.lst [])) E = some (.lst (([] : List Str).map V.str)) := upd_same
        replace kk := kk.trans kE
        replace eG2 := kE _ _ eG2
        replace eF := kE _ _ eF
        generalize upd H4 E (.lst []) = H5 at *
        have nmF : ∀ z ∈ freeL ps l (freedN ps l i []), nmOk z = true := fun z hz => W.names.2 z (mem_free.mp hz).1
        refine ⟨_, _, tl_dp eF, tl_dp eE, tl_shaped nmF, tl_shaped (fun z hz => absurd hz List.not_mem_nil), ?_⟩
        rw [tl_eqd]
        refine ⟨_, rfl, ?_⟩
        refine i_ite (fun he => ?_) (fun hne => ?_)
        · repeat' (walk_at "jv")
          refine q2 ?_ _ kk
          unfold freedL
          rw [freed_end i ps.length [] (by omega) he]
          omega
        · repeat' (walk_at "jv")
          cases c : freeL ps l (freedN ps l i []) with
          | nil => exact absurd c hne
          | cons z r =>
            rw [c] at eF
            have en := freed_more i [] (by rw [hlen]; simp) z r c
            repeat' (walk_at "jv")
            refine ⟨_, _, _, rfl, fun b oo w => ?_, ?_, ?_⟩
            · rw [upd_ne (ne_of_none w nG)]
              exact kk _ _ w
            · rw [upd_same, en, List.map_append]
              rfl
            · rw [en, List.length_append, hlen]
              rfl
    · obtain ⟨y3, y4, y5, rfl, kk, eG2, hlen⟩ := h
      rw [hlp] at eG2 hlen
      repeat' (walk_at "jv")
      refine ⟨G, _, rfl, sq_lst eG2, fun S ob nS ok => ?_⟩
      refine q1 hlen S _ (kk.trans (Same.upd_new nS)) ?_
      exact FT.new ok
end
end
section
open L2 PySem PySem.Spec PyProof.Rows
abbrev s__is_arrow : Stmt := topS 25
theorem sc__is_arrow : FnScope ["thing", "road", "place"] ["thing", "road"] (defScope s__is_arrow) := ⟨rfl, rfl, rfl, by decide +kernel, rfl, by decide +kernel, by decide +kernel⟩
def isArr (d : PyData) (u v : Str) : Bool := PyData.eqv (.tuple [.str u, .str v]) d || PyData.eqv (.tuple [.str v, .str u]) d
def spIsArrow (K : PySem.W.Frag) : Sp := fun vs H Q _ => ∃ (a : Addr) (x : V) (d : PyData) (rd : Addr) (u v : Str), vs = [x, .ref rd] ∧ Ob K H a x d ∧ SqT K H rd [.str u, .str v] ∧ PyData.strOk u = true ∧ PyData.strOk v = true ∧
  (∀ ds, d = .tuple ds → ds.length ≤ 1000 ∧ ∀ z, PyData.str z ∈ ds → PyData.strOk z = true) ∧ ∀ H', Same H H' → Q (.bl (isArr d u v)) H'
theorem strs_all : ∀ {ds : List PyData}, (ds.map isS).all id = true → ∃ zs : List Str, ds = zs.map PyData.str
  | [], _ => ⟨[], rfl⟩
  | d :: ds, h => by
    rw [List.map_cons, List.all_cons, Bool.and_eq_true] at h
    obtain ⟨zs, rfl⟩ := strs_all h.2
    have h1 : isS d = true := h.1
    cases d with
    | str z => exact ⟨z :: zs, rfl⟩
    | _ => cases h1
theorem eq_strs : ∀ {us : List Str} {ds : List PyData}, PyData.eqvAll (us.map PyData.str) ds = true → (ds.map isS).all id = true
  | [], [], _ => rfl
  | [], _ :: _, h => by cases h
  | _ :: _, [], h => by cases h
  | u :: us, d :: ds, h => by
    rw [List.map_cons, PySem.W.eqv_all_cons, Bool.and_eq_true] at h
    rw [List.map_cons, List.all_cons, eq_strs h.2]
    have h1 := h.1
    cases d with
    | str z => rfl
    | _ => cases h1
theorem arr_lay : ∀ {zs : List Str}, (∀ z ∈ zs, PyData.strOk z = true) → PyData.canLayAll0 (zs.map PyData.str) = true
  | [], _ => rfl
  | z :: zs, h => by
    show (PyData.strOk z && PyData.canLayAll0 (zs.map PyData.str)) = true
    rw [h z List.mem_cons_self, arr_lay fun y hy => h y (List.mem_cons_of_mem _ hy)]
    rfl
theorem arr_not {ds : List PyData} {u v : Str} (h : (ds.map isS).all id = false) : isArr (.tuple ds) u v = false := by
  unfold isArr
  rw [Bool.or_eq_false_iff]
  refine ⟨?_, ?_⟩
  · cases c : PyData.eqv (.tuple [.str u, .str v]) (.tuple ds) with
    | false => rfl
    | true => rw [eq_strs (us := [u, v]) c] at h; cases h
  · cases c : PyData.eqv (.tuple [.str v, .str u]) (.tuple ds) with
    | false => rfl
    | true => rw [eq_strs (us := [v, u]) c] at h; cases h
theorem obs_strs {K : PySem.W.Frag} {H : Hp} {a : Addr} : ∀ {zs : List Str} {xs : List V}, ObAll K H a xs (zs.map PyData.str) → DpAll K H xs (zs.map PyData.str)
  | [], _, .nil => .nil
  | z :: zs, _, .cons h t => by
    cases h
    exact .cons (.str z) (obs_strs t)
section
variable {base : Heap} {P : Program} {w : World} {K : PySem.W.Frag} {mg : Str → Option Value}
theorem ok_is_arrow (D : Dn K mg "_is_arrow" s__is_arrow ["thing", "road"]) (B : Bn mg) : Cl P w K mg base 1 "_is_arrow" ["thing", "road"] (spIsArrow K) := by
  refine D.cl sc__is_arrow (fun vs H Q E h => ?_) (fun f cdv A outer s H vs Q E hr h => ?_)
  · obtain ⟨a, x, d, rd, u, v, rfl, _⟩ := h
    rfl
  · obtain ⟨a, x, d, rd, u, v, rfl, ox, sr, hu, hv, hd, q⟩ := h
    refine ⟨_, (pss_cons (ps_if (PW.pt (pw_or (pt_not (pt_val (pe_callB (k_isi (K := K)) rfl B.isinstance_ (by decide +kernel) (pa_cons (pv 0) (pa_cons (pe_ty (T := "tuple") B.tuple_ (by decide +kernel)) pa_nil))))) (pw_or1 (pt_not (pt_val (pe_callB (k_all (K := K) rfl) rfl B.all_ (by decide +kernel) (pa_cons (pe_lc (own := [("place", 2)]) rfl sc__is_arrow.nd (kpi_tup (K := K) (pv 0)) (blkOk_by (N := ["thing", "road", "place"]) (sc := defScope s__is_arrow) (by decide +kernel)) (fun _ _ _ _ _ => (pg_name (i := 2) sc__is_arrow.nd rfl (by first | exact Or.inl rfl | exact Or.inr rfl))) (fun _ _ _ _ _ => pts_nil) (fun _ _ _ _ _ => (pe_callB (k_isi (K := K)) rfl B.isinstance_ (by decide +kernel) (pa_cons (pv 2) (pa_cons (pe_ty (T := "str") B.str_ (by decide +kernel)) pa_nil))))) pa_nil))))))) (pss_one (ps_ret pe_bl)) pss_nil)
      (pss_one (ps_ret (pe_cmpR (k_inQ (K := K) hr.units) (pv 0) (pe_tup (pa_cons (pv 1) (pa_cons (pe_revT (K := K) (pv 1)) pa_nil))) (by rfl))))), ?_⟩
    repeat' (walk_at "jv")
    refine is_tupO ox ?_
    cases ox with
    | non =>
      rw [show isT (.none) = false from rfl]
      repeat' (walk_at "jv")
      exact q H (Same.refl _)
    | bl b =>
      rw [show isT (.bool b) = false from rfl]
      repeat' (walk_at "jv")
      exact q H (Same.refl _)
    | int i =>
      rw [show isT (.int i) = false from rfl]
      repeat' (walk_at "jv")
      exact q H (Same.refl _)
    | str z =>
      rw [show isT (.str z) = false from rfl]
      repeat' (walk_at "jv")
      exact q H (Same.refl _)
    | lst e n al =>
      rw [show isT (.list _) = false from rfl]
      repeat' (walk_at "jv")
      exact q H (Same.refl _)
    | dic e n =>
      rw [show isT (.dict []) = false from rfl]
      repeat' (walk_at "jv")
      exact q H (Same.refl _)
    | @tup p xs ds sx al =>
      obtain ⟨hdl, hok⟩ := hd ds rfl
      have hxl := ObAll.len al
      have e0 : isT (.tuple ds) = true := rfl
      rw [e0]
      repeat' (walk_at "jv")
      refine c_tup xs (fun D i H' => H D = none ∧ Same H H' ∧ H' D = some (.lst (((ds.take i).map isS).map V.bl))) (fun D nD => ⟨nD, Same.upd_new nD, upd_same⟩) (fun D i H' _ h => TK.same h.2.1 _ _ sx) (fun D i y H' hy h => ?_) (fun D H' h => ?_)
      · obtain ⟨nD, kD, eD⟩ := h
        obtain ⟨d', hd', od'⟩ := ObAll.get al hy
        repeat' (walk_at "jv")
        refine is_strO (od'.same kD) ?_
        have hi : i < ds.length := (List.getElem?_eq_some_iff.mp hd').1
        refine i_lcE eD (by rw [List.length_map, List.length_map, List.length_take, sizeLine_eq]; omega) ⟨nD, fun c oc z => (upd_ne (ne_of_none z nD)).trans (kD _ _ z), ?_⟩
        rw [take_push hd', List.map_append, List.map_append]
        exact upd_same
      · obtain ⟨nD, kD, eD⟩ := h
        rw [List.take_of_length_le (by omega)] at eD
        repeat' (walk_at "jv")
        cases ha : (ds.map isS).all id with
        | false =>
          rw [if_pos (show (!false) = true from rfl)]
          repeat' (walk_at "jv")
          have z := q H' kD
          rw [arr_not ha] at z
          exact z
        | true =>
          rw [if_neg (by decide)]
          obtain ⟨zs, rfl⟩ := strs_all ha
          have dp : Dp K H' (.ref p) (.tuple (zs.map PyData.str)) := .tup (TK.same kD _ _ sx) (DpAll.same kD _ _ (obs_strs al))
          have sr' := TK.same (K := K) kD _ _ sr
          repeat' (walk_at "jv")
          refine rev_road (r := (u, v)) (fun Q' h => by repeat' (first | exact h | walk_at "jv")) (.tup sr' (.cons (.str u) (.cons (.str v) .nil))) (fun y H2 k2 dy => ?_)
          repeat' (walk_at "jv")
          intro T nT
          have k3 := Same.upd_new (o := .tup [.ref rd, y]) nT
          have lz := arr_lay (zs := zs) fun z hz => hok z (List.mem_map.mpr ⟨z, hz, rfl⟩)
          refine ⟨.tuple (zs.map PyData.str), [roadD (u, v), roadD (v, u)], Dp.same (k2.trans k3) _ _ dp, .inr (.tup (sq_tup upd_same) (.cons (Dp.same (k2.trans k3) _ _ (.tup sr' (.cons (.str u) (.cons (.str v) .nil)))) (.cons (Dp.same k3 _ _ dy) .nil))), lz, ?_, ?_, ?_⟩
          · show ((PyData.strOk u && (PyData.strOk v && true)) && ((PyData.strOk v && (PyData.strOk u && true)) && true)) = true
            rw [hu, hv]
            rfl
          · show PyData.depthAll (zs.map PyData.str) + 1 ≤ 60
            rw [strs_deep]
            decide
          · have z := q _ ((kD.trans k2).trans k3)
            unfold isArr at z
            rw [← Bool.or_false (PyData.eqv (.tuple [.str v, .str u]) _)] at z
            exact z
end
end
section
open L2 PySem PySem.Spec PyProof.Rows
abbrev s__need_arrows : Stmt := topS 24
theorem sc__need_arrows : FnScope ["web", "told", "pair", "road"] ["web", "told"] (defScope s__need_arrows) := ⟨rfl, rfl, rfl, by decide +kernel, rfl, by decide +kernel, by decide +kernel⟩
def arrOk (d : PyData) (rs : List (Str × Str)) : Bool := match d with
  | .tuple ds => decide (ds.length = rs.length) && (List.range rs.length).all fun i => isArr (ds.getD i .none) (rs.getD i ("", "")).1 (rs.getD i ("", "")).2
  | _ => false
def arrAt (ds : List PyData) (rs : List (Str × Str)) (i : Nat) : Bool := isArr (ds.getD i .none) (rs.getD i ("", "")).1 (rs.getD i ("", "")).2
def spNeedArrows (K : PySem.W.Frag) (CA : Addr) : Sp := fun vs H Q E => ∃ (a : Addr) (v x : V) (d : PyData) (ps : List Str) (rs : List (Str × Str)), vs = [v, x] ∧ Dp K H v (webD ps rs) ∧ IsWeb ps rs ∧ Ob K H a x d ∧
  (∀ ds, d = .tuple ds → ds.length ≤ 1000 ∧ ∀ e ∈ ds, ∀ es, e = .tuple es → es.length ≤ 1000 ∧ ∀ z, PyData.str z ∈ es → PyData.strOk z = true) ∧ ∀ H', Same H H' → (arrOk d rs = true → Q .non H') ∧ (arrOk d rs = false → E (.ref CA) none H')
theorem road_ref {K : PySem.W.Frag} {H : Hp} {y : V} {r : Str × Str} (h : Dp K H y (roadD r)) : ∃ p, y = .ref p ∧ SqT K H p [.str r.1, .str r.2] := by
  cases h with
  | tup s al =>
    cases al with
    | cons h1 t1 =>
      cases t1 with
      | cons h2 t2 =>
        cases t2
        cases h1
        cases h2
        exact ⟨_, rfl, s⟩
section
variable {base : Heap} {P : Program} {w : World} {K : PySem.W.Frag} {mg : Str → Option Value}
theorem ok_need_arrows {CA : Addr} (XC_BadArrows : Xc K mg "BadArrows" CA) (D : Dn K mg "_need_arrows" s__need_arrows ["web", "told"]) (B : Bn mg) (C__is_arrow : Cl P w K mg base 1 "_is_arrow" ["thing", "road"] (spIsArrow K)) : ClX P w K mg base 2 "_need_arrows" ["web", "told"] (spNeedArrows K CA) := by
  refine D.clX sc__need_arrows (fun vs H Q E h => ?_) (fun f cdv A outer s H vs Q E hr h => ?_)
  · obtain ⟨a, v, x, d, ps, rs, rfl, _⟩ := h
    rfl
  · obtain ⟨a, v, x, d, ps, rs, rfl, dw, W, ox, hd, q⟩ := h
    refine ⟨_, (pss_cons (ps_if (PW.pt (pw_or (pt_not (pt_val (pe_callB (k_isi (K := K)) rfl B.isinstance_ (by decide +kernel) (pa_cons (pv 1) (pa_cons (pe_ty (T := "tuple") B.tuple_ (by decide +kernel)) pa_nil))))) (pw_or1 (pt_cmpR op_ne (pe_callB (k_len (K := K)) rfl B.len_ (by decide +kernel) (pa_cons (pv 1) pa_nil)) (pe_callB (k_len (K := K)) rfl B.len_ (by decide +kernel) (pa_cons (pe_ix (k_ixT (K := K)) (pv 0) pe_int (fun _ _ => rfl)) pa_nil)) (nomark _))))) (pss_one (ps_raiseX XC_BadArrows tk_out)) pss_nil)
      (pss_one (ps_if (pt_not (pt_val (pe_callB (k_all (K := K) rfl) rfl B.all_ (by decide +kernel) (pa_cons (pe_lc (own := [("pair", 2), ("road", 3)]) rfl sc__need_arrows.nd (kpi_zip (K := K) B.zip_ (pa_cons (pv 1) (pa_cons (pe_ix (k_ixT (K := K)) (pv 0) pe_int (fun _ _ => rfl)) pa_nil))) (blkOk_by (N := ["web", "told", "pair", "road"]) (sc := defScope s__need_arrows) (by decide +kernel)) (fun _ _ _ _ _ => (kpg_tup (K := K) (n := 2) rfl (pgs_cons (pg_name (i := 2) sc__need_arrows.nd rfl (by first | exact Or.inl rfl | exact Or.inr rfl)) (pgs_cons (pg_name (i := 3) sc__need_arrows.nd rfl (by first | exact Or.inl rfl | exact Or.inr rfl)) pgs_nil)))) (fun _ _ _ _ _ => pts_nil) (fun _ _ _ _ _ => (pe_c C__is_arrow hr (pa_cons (pv 2) (pa_cons (pv 3) pa_nil))))) pa_nil)))) (pss_one (ps_raiseX XC_BadArrows tk_out)) pss_nil))), ?_⟩
    repeat' (walk_at "jv")
    obtain ⟨wt, tp, tr, ws, rfl, s1, s2, s3, d3, dr, dpl⟩ := web_parts dw
    have hwl : ws.length = rs.length := by rw [DpAll.len d3, List.length_map]
    have h14 := W.le14
    refine is_tupO ox ?_
    cases ox with
    | non =>
      rw [show isT (.none) = false from rfl]
      repeat' (walk_at "jv")
      all_goals exact (q H (Same.refl _)).2 rfl
    | bl b =>
      rw [show isT (.bool b) = false from rfl]
      repeat' (walk_at "jv")
      all_goals exact (q H (Same.refl _)).2 rfl
    | int i =>
      rw [show isT (.int i) = false from rfl]
      repeat' (walk_at "jv")
      all_goals exact (q H (Same.refl _)).2 rfl
    | str z =>
      rw [show isT (.str z) = false from rfl]
      repeat' (walk_at "jv")
      all_goals exact (q H (Same.refl _)).2 rfl
    | lst e n al =>
      rw [show isT (.list _) = false from rfl]
      repeat' (walk_at "jv")
      all_goals exact (q H (Same.refl _)).2 rfl
    | dic e n =>
      rw [show isT (.dict []) = false from rfl]
      repeat' (walk_at "jv")
      all_goals exact (q H (Same.refl _)).2 rfl
    | @tup p xs ds sx al =>
      obtain ⟨hdl, hok⟩ := hd ds rfl
      have hxl := ObAll.len al
      have e0 : isT (.tuple ds) = true := rfl
      rw [e0]
      repeat' (walk_at "jv")
      · rename_i hne
        refine (q H (Same.refl _)).2 ?_
        show (decide (ds.length = rs.length) && _) = false
        rw [decide_eq_false (fun e : ds.length = rs.length => hne (by rw [hxl, hwl, e]))]
        rfl
      · rename_i heq
        have hlen : ds.length = rs.length := by omega
        refine i_zip ?_
        repeat' (walk_at "jv")
        refine i_zipT sx s3 ?_
        refine c_zip xs ws (by omega) (fun D i H' => H D = none ∧ Same H H' ∧ H' D = some (.lst (((List.range i).map (arrAt ds rs)).map V.bl))) (fun D nD => ⟨nD, Same.upd_new nD, upd_same⟩) (fun D i H' h => ⟨TK.same h.2.1 _ _ sx, TK.same h.2.1 _ _ s3⟩) (fun D i x y H' T hx hy h nT => ?_) (fun D H' h => ?_)
        · obtain ⟨nD, kD, eD⟩ := h
          obtain ⟨e, he, oe⟩ := ObAll.get al hx
          obtain ⟨g, hg, dg⟩ := DpAll.get d3 hy
          have hi : i < rs.length := by
            have := (List.getElem?_eq_some_iff.mp hy).1
            omega
          rw [List.getElem?_map, List.getElem?_eq_getElem hi] at hg
          obtain rfl := Option.some.inj hg
          obtain ⟨rd, rfl, sr⟩ := road_ref dg
          have kT := Same.upd_new (o := .tup [x, .ref rd]) nT
          have k2 := kD.trans kT
          obtain ⟨en1, en2, _⟩ := W.ends rs[i] (List.getElem_mem hi)
          repeat' (walk_at "jv")
          refine ⟨a, x, e, rd, rs[i].1, rs[i].2, rfl, oe.same k2, TK.same k2 _ _ sr, nmOk_str (W.names.2 _ en1), nmOk_str (W.names.2 _ en2), fun es ee => (hok e (List.mem_of_getElem? he) es ee), fun H3 k3 => ?_⟩
          have eD3 := k3 _ _ (kT _ _ eD)
          refine i_lcE eD3 (by rw [List.length_map, List.length_map, List.length_range, sizeLine_eq]; omega) ⟨nD, fun c oc z => (upd_ne (ne_of_none z nD)).trans (k3 _ _ (k2 _ _ z)), ?_⟩
          have e5 : arrAt ds rs i = isArr e rs[i].1 rs[i].2 := by
            unfold arrAt
            rw [List.getD_eq_getElem?_getD, he, List.getD_eq_getElem?_getD, List.getElem?_eq_getElem hi]
            rfl
          rw [List.range_succ, List.map_append, List.map_append, ← e5]
          exact upd_same
        · obtain ⟨nD, kD, eD⟩ := h
          have e6 : arrOk (.tuple ds) rs = ((List.range xs.length).map (arrAt ds rs)).all id := by
            show (decide (ds.length = rs.length) && (List.range rs.length).all (arrAt ds rs)) = _
            rw [decide_eq_true hlen, List.all_map, show xs.length = rs.length by omega]
            rfl
          have z := q H' kD
          rw [e6] at z
          repeat' (walk_at "jv")
          cases hall : ((List.range xs.length).map (arrAt ds rs)).all id with
          | false =>
            rw [if_pos (show (!false) = true from rfl)]
            exact z.2 hall
          | true =>
            rw [if_neg (by decide)]
            repeat' (walk_at "jv")
            all_goals exact z.1 hall
end
end
section
open L2 PySem PySem.Spec PyProof.Rows
abbrev s__law_drawn_arrows : Stmt := topS 40
theorem sc__law_drawn_arrows : FnScope ["_law_feed_here", "_law_web_here", "_law_road"] ["_law_feed_here", "_law_web_here"] (defScope s__law_drawn_arrows) := ⟨rfl, rfl, rfl, by decide +kernel, rfl, by decide +kernel, by decide +kernel⟩
abbrev s__law_are_arrows : Stmt := topS 41
theorem sc__law_are_arrows : FnScope ["_law_web_here", "_law_thing", "_law_road", "_law_arrow"] ["_law_web_here", "_law_thing"] (defScope s__law_are_arrows) := ⟨rfl, rfl, rfl, by decide +kernel, rfl, by decide +kernel, by decide +kernel⟩
def spAreA (K : PySem.W.Frag) : Sp := fun vs H Q _ => ∃ (a : Addr) (v x : V) (d : PyData) (ps : List Str) (rs : List (Str × Str)), vs = [v, x] ∧ Dp K H v (webD ps rs) ∧ IsWeb ps rs ∧ Ob K H a x d ∧ nearT d = true ∧ ∀ H', Same H H' → Q (.bl (arrOk d rs)) H'
section
variable {base : Heap} {P : Program} {w : World} {K : PySem.W.Frag} {mg : Str → Option Value}
theorem roads_push {l : List (Str × Str)} {r : Str × Str} {i : Nat} (h : l.length = i) {K : PySem.W.Frag} {H : Hp} {xs : List V} {x : V} (d : DpAll K H xs (l.map roadD)) (dx : Dp K H x (roadD r)) : DpAll K H (xs ++ [x]) ((l ++ [r]).map roadD) := by
  rw [List.map_append]
  exact DpAll.app d (.cons dx .nil)
theorem arrl_push {rs l : List (Str × Str)} {i : Nat} (hl : l.length = i) (hi : i < rs.length) (h : ∀ j, j < i → l.getD j ("", "") = rs.getD j ("", "") ∨ l.getD j ("", "") = swp (rs.getD j ("", ""))) {r : Str × Str} (hr : r = rs[i] ∨ r = swp rs[i]) :
    (l ++ [r]).length = i + 1 ∧ ∀ j, j < i + 1 → (l ++ [r]).getD j ("", "") = rs.getD j ("", "") ∨ (l ++ [r]).getD j ("", "") = swp (rs.getD j ("", "")) := by
  refine ⟨by rw [List.length_append, hl]; rfl, fun j hj => ?_⟩
  by_cases e : j = i
  · subst e
    rw [List.getD_eq_getElem?_getD, List.getD_eq_getElem?_getD, List.getElem?_append_right (by omega), List.getElem?_eq_getElem hi, hl, Nat.sub_self]
    exact hr
  · have := h j (by omega)
    rw [List.getD_eq_getElem?_getD] at this ⊢
    rw [List.getElem?_append_left (by omega)]
    exact this
theorem ok_law_drawn (D : Dn K mg "_law_drawn_arrows" s__law_drawn_arrows ["_law_feed_here", "_law_web_here"]) (B : Bn mg) (C__law_draw : Cl P w K mg base 1 "_law_draw" ["_law_feed_here", "_law_many"] spDraw) : Cl P w K mg base 2 "_law_drawn_arrows" ["_law_feed_here", "_law_web_here"] (spDrawnA K) := by
  refine D.cl sc__law_drawn_arrows (fun vs H Q E h => ?_) (fun f cdv A outer s H vs Q E hr h => ?_)
  · obtain ⟨a, v, c, ps, rs, rfl, _⟩ := h
    rfl
  · obtain ⟨a, v, c, ps, rs, rfl, hf, hc, hd, W, q⟩ := h
    obtain ⟨wt, tp, tr, ws, rfl, s1, s2, s3, d3, dr, dpl⟩ := web_parts hd
    have hwl : ws.length = rs.length := by rw [DpAll.len d3, List.length_map]
    have h14 := W.le14
    refine ⟨_, (pss_one (ps_ret (pe_callTy (k_tuple (K := K)) rfl B.tuple_ (by decide +kernel) (pa_cons (pe_lc (own := [("_law_road", 2)]) rfl sc__law_drawn_arrows.nd (kpi_tup (K := K) (pe_ix (k_ixT (K := K)) (pv 1) pe_int (fun _ _ => rfl))) (blkOk_by (N := ["_law_feed_here", "_law_web_here", "_law_road"]) (sc := defScope s__law_drawn_arrows) (by decide +kernel)) (fun _ _ _ _ _ => (pg_name (i := 2) sc__law_drawn_arrows.nd rfl (by first | exact Or.inl rfl | exact Or.inr rfl))) (fun _ _ _ _ _ => pts_nil) (fun _ _ _ _ _ => (pe_ifExp (pt_cmpR op_eq (pe_c C__law_draw hr (pa_cons (pv 0) (pa_cons pe_int pa_nil))) pe_int (nomark _)) (pv 2) (pe_revT (K := K) (pv 2))))) pa_nil)))), ?_⟩
    repeat' (walk_at "jv")
    refine c_tup ws (fun D i H' => D ≠ a ∧ H D = none ∧ Fd H' a (c + i) ∧ Ch a H H' ∧ ∃ (xs : List V) (l : List (Str × Str)), H' D = some (.lst xs) ∧ xs.length = i ∧ DpAll K H' xs (l.map roadD) ∧ l.length = i ∧ ∀ j, j < i → l.getD j ("", "") = rs.getD j ("", "") ∨ l.getD j ("", "") = swp (rs.getD j ("", ""))) (fun D nD => ?_) (fun D i H' _ h => TK.ch h.2.2.2.1 hf _ _ s3) (fun D i x H' hx h => ?_) (fun D H' h => ?_)
    · have dD := hf.ne nD
      exact ⟨dD, nD, (hf.upd (q := D) (o := .lst []) (Ne.symm dD)).mono (by omega), Ch.upd_new nD, [], [], upd_same, rfl, .nil, rfl, fun j hj => absurd hj (Nat.not_lt_zero _)⟩
    · obtain ⟨dD, nD, fX, cX, xs, l, eD, xl, dxs, ll, hl⟩ := h
      have hi : i < rs.length := by
        have := (List.getElem?_eq_some_iff.mp hx).1
        omega
      obtain ⟨r, t, hr2, rfl, st⟩ := road_get d3 hx
      rw [List.getElem?_eq_getElem hi] at hr2
      obtain rfl := Option.some.inj hr2
      have hd' : Dp K H' (.ref t) (roadD rs[i]) := Dp.tk (TK.ch cX hf) _ _ rfl (.tup st (.cons (.str _) (.cons (.str _) .nil)))
      repeat' (walk_at "jv")
      refine ⟨a, 2, c + i, rfl, fX, by decide, by decide, by omega, fun n H1 n0 n1 f1 k1 => ?_⟩
      have eD1 := k1 _ _ dD eD
      have hd1 := Dp.tk (TK.ch k1 fX) _ _ rfl hd'
      have dx1 : DpAll K H1 xs (l.map roadD) := DpAll.tk (TK.ch k1 fX) _ _ (roads_only _) dxs
      clear eD hd' dxs
      have c1 := cX.trans k1
      repeat' (walk_at "jv")
      · obtain ⟨p1, p2⟩ := arrl_push ll hi hl (r := rs[i]) (.inl rfl)
        exact ⟨dD, nD, (f1.upd (q := D) (Ne.symm dD)).mono (by omega), c1.upd_l nD, xs ++ [.ref t], l ++ [rs[i]], upd_same, by rw [List.length_append, xl]; rfl, DpAll.tk (TK.lst eD1) _ _ (roads_only _) (roads_push ll dx1 hd1), p1, p2⟩
      · refine rev_road (r := rs[i]) (fun Q' h => by repeat' (first | exact h | walk_at "jv")) hd1 (fun y H2 k2 dy => ?_)
        first | replace eD1 := HF.same eD1 k2 | replace eD1 := WF.same eD1 k2 | replace eD1 := FT.same eD1 k2 | replace eD1 := Fd.same eD1 k2 | replace eD1 := LsD.same eD1 k2 | replace eD1 := TK.same k2 _ _ eD1 | replace eD1 := KeysT.tk eD1 (TK.same k2) | replace eD1 := KeysU.tk eD1 (TK.same k2) | replace eD1 := KeysN.tk eD1 (TK.same k2) | replace eD1 := DayV.tk eD1 (TK.same k2) | replace eD1 := Dp.same k2 _ _ eD1 | replace eD1 := DpAll.same k2 _ _ eD1 | replace eD1 := k2 _ _ eD1 | replace eD1 := Ch.trans eD1 (Ch.of_same k2) | replace eD1 := Same.trans eD1 k2 | replace eD1 := stepsAt.same eD1 k2 | replace eD1 := DpT.same eD1 k2 | replace eD1 := LOr.same eD1 k2 | replace eD1 := Ob.same eD1 k2 | replace eD1 := Gds.same eD1 k2 | replace eD1 := Gd2.same eD1 k2 | replace eD1 := Ob2.same eD1 k2 | replace eD1 := NE.same eD1 k2 | replace eD1 := NT.same eD1 k2 | replace eD1 := NEs.same eD1 k2 | replace eD1 := NX.same eD1 k2 | replace eD1 := EMs.same eD1 k2 | replace eD1 := EOs.same eD1 k2 | replace eD1 := EO.same eD1 k2 | replace eD1 := GT.same eD1 k2 | replace eD1 := GTs.same eD1 k2 | replace eD1 := RB.same eD1 k2 | replace eD1 := RBs.same eD1 k2 | replace eD1 := RB2s.same eD1 k2 | replace eD1 := GR.same eD1 k2 | replace eD1 := GRs.same eD1 k2
        first | replace f1 := HF.same f1 k2 | replace f1 := WF.same f1 k2 | replace f1 := FT.same f1 k2 | replace f1 := Fd.same f1 k2 | replace f1 := LsD.same f1 k2 | replace f1 := TK.same k2 _ _ f1 | replace f1 := KeysT.tk f1 (TK.same k2) | replace f1 := KeysU.tk f1 (TK.same k2) | replace f1 := KeysN.tk f1 (TK.same k2) | replace f1 := DayV.tk f1 (TK.same k2) | replace f1 := Dp.same k2 _ _ f1 | replace f1 := DpAll.same k2 _ _ f1 | replace f1 := k2 _ _ f1 | replace f1 := Ch.trans f1 (Ch.of_same k2) | replace f1 := Same.trans f1 k2 | replace f1 := stepsAt.same f1 k2 | replace f1 := DpT.same f1 k2 | replace f1 := LOr.same f1 k2 | replace f1 := Ob.same f1 k2 | replace f1 := Gds.same f1 k2 | replace f1 := Gd2.same f1 k2 | replace f1 := Ob2.same f1 k2 | replace f1 := NE.same f1 k2 | replace f1 := NT.same f1 k2 | replace f1 := NEs.same f1 k2 | replace f1 := NX.same f1 k2 | replace f1 := EMs.same f1 k2 | replace f1 := EOs.same f1 k2 | replace f1 := EO.same f1 k2 | replace f1 := GT.same f1 k2 | replace f1 := GTs.same f1 k2 | replace f1 := RB.same f1 k2 | replace f1 := RBs.same f1 k2 | replace f1 := RB2s.same f1 k2 | replace f1 := GR.same f1 k2 | replace f1 := GRs.same f1 k2
        first | replace c1 := HF.same c1 k2 | replace c1 := WF.same c1 k2 | replace c1 := FT.same c1 k2 | replace c1 := Fd.same c1 k2 | replace c1 := LsD.same c1 k2 | replace c1 := TK.same k2 _ _ c1 | replace c1 := KeysT.tk c1 (TK.same k2) | replace c1 := KeysU.tk c1 (TK.same k2) | replace c1 := KeysN.tk c1 (TK.same k2) | replace c1 := DayV.tk c1 (TK.same k2) | replace c1 := Dp.same k2 _ _ c1 | replace c1 := DpAll.same k2 _ _ c1 | replace c1 := k2 _ _ c1 | replace c1 := Ch.trans c1 (Ch.of_same k2) | replace c1 := Same.trans c1 k2 | replace c1 := stepsAt.same c1 k2 | replace c1 := DpT.same c1 k2 | replace c1 := LOr.same c1 k2 | replace c1 := Ob.same c1 k2 | replace c1 := Gds.same c1 k2 | replace c1 := Gd2.same c1 k2 | replace c1 := Ob2.same c1 k2 | replace c1 := NE.same c1 k2 | replace c1 := NT.same c1 k2 | replace c1 := NEs.same c1 k2 | replace c1 := NX.same c1 k2 | replace c1 := EMs.same c1 k2 | replace c1 := EOs.same c1 k2 | replace c1 := EO.same c1 k2 | replace c1 := GT.same c1 k2 | replace c1 := GTs.same c1 k2 | replace c1 := RB.same c1 k2 | replace c1 := RBs.same c1 k2 | replace c1 := RB2s.same c1 k2 | replace c1 := GR.same c1 k2 | replace c1 := GRs.same c1 k2
        have dx2 := DpAll.same k2 _ _ dx1
        obtain ⟨p1, p2⟩ := arrl_push ll hi hl (r := swp rs[i]) (.inr rfl)
        refine i_lcE eD1 (by rw [sizeLine_eq]; omega) ?_
        exact ⟨dD, nD, (f1.upd (q := D) (Ne.symm dD)).mono (by omega), c1.upd_l nD, xs ++ [y], l ++ [swp rs[i]], upd_same, by rw [List.length_append, xl]; rfl, DpAll.tk (TK.lst eD1) _ _ (roads_only _) (roads_push ll dx2 dy), p1, p2⟩
    · obtain ⟨dD, nD, fX, cX, xs, l, eD, xl, dxs, ll, hl⟩ := h
      repeat' (walk_at "jv")
      intro T nT
      have k2 := Same.upd_new (o := .tup xs) nT
      exact q T l _ ⟨by omega, fun i hi => hl i (by omega)⟩ (.tup (sq_tup upd_same) (DpAll.same k2 _ _ dxs)) ((Fd.same fX k2).mono (by omega)) (cX.trans (Ch.of_same k2))
theorem strs_noB : ∀ {zs : List PyData}, zs.all isStrOk = true → noBAll zs = true
  | [], _ => rfl
  | d :: zs, h => by
    rw [List.all_cons, Bool.and_eq_true] at h
    have h0 : isStrOk d = true := h.1
    cases d with
    | str z =>
      show (true && noBAll zs) = true
      rw [strs_noB h.2]
      rfl
    | _ => cases h0
theorem near_noBs : ∀ {es : List PyData}, es.all nearX = true → noBAll es = true
  | [], _ => rfl
  | d :: es, h => by
    rw [List.all_cons, Bool.and_eq_true] at h
    have h0 : nearX d = true := h.1
    have e : noB d = true := by
      cases d with
      | none => rfl
      | str z => rfl
      | list zs =>
        have h' : (decide (zs.length ≤ 4) && zs.all isStrOk) = true := h0
        rw [Bool.and_eq_true] at h'
        exact strs_noB h'.2
      | _ => cases h0
    show (noB d && noBAll es) = true
    rw [e, near_noBs h.2]
    rfl
theorem near_eqv {es : List PyData} (h : nearE (.tuple es) = true) (r : Str × Str) : PyData.eqv (.tuple es) (roadD r) = PyData.eqv (.tuple [.str r.1, .str r.2]) (.tuple es) := by
  have h' : (decide (es.length ≤ 4) && es.all nearX) = true := h
  rw [Bool.and_eq_true] at h'
  have e1 : noB (.tuple es) = true := near_noBs h'.2
  rw [Bool.eq_iff_iff, eqv_dec _ _ e1 rfl]
  exact eq_comm.trans (eqv_dec (roadD r) _ rfl e1).symm
theorem isT_yes {d : PyData} (h : isT d = true) : ∃ ds, d = .tuple ds := by
  cases d with
  | tuple ds => exact ⟨ds, rfl⟩
  | _ => cases h
theorem ok_law_are (D : Dn K mg "_law_are_arrows" s__law_are_arrows ["_law_web_here", "_law_thing"]) (B : Bn mg) : Cl P w K mg base 1 "_law_are_arrows" ["_law_web_here", "_law_thing"] (spAreA K) := by
  refine D.cl sc__law_are_arrows (fun vs H Q E h => ?_) (fun f cdv A outer s H vs Q E hr h => ?_)
  · obtain ⟨a, v, x, d, ps, rs, rfl, _⟩ := h
    rfl
  · obtain ⟨a, v, x, d, ps, rs, rfl, hd, W, ox, nx, q⟩ := h
    obtain ⟨wt, tp, tr, ws, rfl, s1, s2, s3, d3, dr, dpl⟩ := web_parts hd
    have hwl : ws.length = rs.length := by rw [DpAll.len d3, List.length_map]
    have h14 := W.le14
    refine ⟨_, (pss_cons (ps_if (PW.pt (pw_or (pt_not (pt_val (pe_callB (k_isi (K := K)) rfl B.isinstance_ (by decide +kernel) (pa_cons (pv 1) (pa_cons (pe_ty (T := "tuple") B.tuple_ (by decide +kernel)) pa_nil))))) (pw_or1 (pt_cmpR op_ne (pe_callB (k_len (K := K)) rfl B.len_ (by decide +kernel) (pa_cons (pv 1) pa_nil)) (pe_callB (k_len (K := K)) rfl B.len_ (by decide +kernel) (pa_cons (pe_ix (k_ixT (K := K)) (pv 0) pe_int (fun _ _ => rfl)) pa_nil)) (nomark _))))) (pss_one (ps_ret pe_bl)) pss_nil)
      (pss_cons (ps_for PassesOwn.never rfl (kpi_zip (K := K) B.zip_ (pa_cons (pe_ix (k_ixT (K := K)) (pv 0) pe_int (fun _ _ => rfl)) (pa_cons (pv 1) pa_nil))) (kpg_tup (K := K) (n := 2) rfl (pgs_cons (pg_name (i := 2) sc__law_are_arrows.nd rfl (by first | exact Or.inl rfl | exact Or.inr rfl)) (pgs_cons (pg_name (i := 3) sc__law_are_arrows.nd rfl (by first | exact Or.inl rfl | exact Or.inr rfl)) pgs_nil))) (pss_one (ps_if (PW.pt (pw_or (pt_not (pt_val (pe_callB (k_isi (K := K)) rfl B.isinstance_ (by decide +kernel) (pa_cons (pv 3) (pa_cons (pe_ty (T := "tuple") B.tuple_ (by decide +kernel)) pa_nil))))) (pw_or1 (PW.pt (pw_and (pt_cmpR (k_neD (K := K) hr.units) (pv 3) (pv 2) (nomark _)) (pw_and1 (pt_cmpR (k_neD (K := K) hr.units) (pv 3) (pe_revT (K := K) (pv 2)) (nomark _)))))))) (pss_one (ps_ret pe_bl)) pss_nil)))
      (pss_one (ps_ret pe_bl)))), ?_⟩
    repeat' (walk_at "jv")
    refine is_tupO ox ?_
    cases c : isT d with
    | false =>
      have e : arrOk d rs = false := by
        cases d with
        | tuple ds => cases c
        | _ => rfl
      rw [e] at q
      repeat' (walk_at "jv")
      exact q H (Same.refl _)
    | true =>
      obtain ⟨ds, rfl⟩ := isT_yes c
      cases ox with
      | @tup p xs ds sx al =>
      have hxl := ObAll.len al
      have nd : (decide (ds.length ≤ 40) && ds.all nearE) = true := nx
      rw [Bool.and_eq_true, decide_eq_true_iff] at nd
      obtain ⟨nd1, nd2⟩ := nd
      repeat' (walk_at "jv")
      · rename_i hne
        have e : arrOk (.tuple ds) rs = false := by
          show (decide (ds.length = rs.length) && _) = false
          rw [decide_eq_false (fun e : ds.length = rs.length => hne (by rw [hxl, hwl, e]))]
          rfl
        rw [← e]
        exact q H (Same.refl _)
      · rename_i heq
        have hlen : ds.length = rs.length := by omega
        refine i_zip ?_
        repeat' (walk_at "jv")
        refine i_zipT s3 sx ?_
        refine f_zip ws xs (by omega) (fun i σ H' => ∃ y2 y3, σ = [some (.ref wt), some (.ref p), y2, y3] ∧ Same H H' ∧ ∀ j, j < i → arrAt ds rs j = true) ⟨none, none, rfl, Same.refl _, fun j hj => absurd hj (Nat.not_lt_zero _)⟩ (fun i σ H' h => ?_) (fun i y x σ H1 T hy hx h nT => ?_) (fun σ H1 h => ?_)
        · obtain ⟨y2, y3, rfl, kk, _⟩ := h
          exact ⟨TK.same kk _ _ s3, TK.same kk _ _ sx⟩
        · obtain ⟨y2, y3, rfl, kk, hj⟩ := h
          obtain ⟨e, he, oe⟩ := ObAll.get al hx
          obtain ⟨r, t, hr2, rfl, st⟩ := road_get d3 hy
          have hi : i < rs.length := (List.getElem?_eq_some_iff.mp hr2).1
          have kT := Same.upd_new (o := .tup [.ref t, x]) nT
          replace kk := kk.trans kT
          have eT : SqT K (upd H1 T (.tup [.ref t, x])) T [.ref t, x] := sq_tup upd_same
          generalize upd H1 T (.tup [.ref t, x]) = H2 at *
          have ne := List.all_eq_true.mp nd2 e (List.mem_of_getElem? he)
          have ea : arrAt ds rs i = isArr e r.1 r.2 := by
            unfold arrAt
            rw [List.getD_eq_getElem?_getD, he, List.getD_eq_getElem?_getD, hr2]
            rfl
          have bad : isArr e r.1 r.2 = false → ∀ H3, Same H H3 → Q (.bl false) H3 := fun hb H3 k3 => by
            have e6 : arrOk (.tuple ds) rs = false := by
              show (decide (ds.length = rs.length) && (List.range rs.length).all (arrAt ds rs)) = false
              rw [decide_eq_true hlen, Bool.true_and]
              cases z : (List.range rs.length).all (arrAt ds rs) with
              | false => rfl
              | true =>
                have := List.all_eq_true.mp z i (List.mem_range.mpr hi)
                rw [ea, hb] at this
                cases this
            rw [← e6]
            exact q H3 k3
          have good : isArr e r.1 r.2 = true → ∀ j, j < i + 1 → arrAt ds rs j = true := fun hb j hj2 => by
            by_cases e1 : j = i
            · subst e1
              rw [ea, hb]
            · exact hj j (by omega)
          have rd : Dp K H2 (.ref t) (roadD r) := .tup (TK.same kk _ _ st) (.cons (.str _) (.cons (.str _) .nil))
          obtain ⟨en1, en2, _⟩ := W.ends r (List.mem_of_getElem? hr2)
          have rsh : ∀ q : Str × Str, nmOk q.1 = true → nmOk q.2 = true → SeqAt.shaped (roadD q) = true := fun q h1 h2 => by
            show ((roadD q).canLay0 && decide _) = true
            rw [road_lay h1 h2]
            rfl
          refine i_gtup eT rfl ?_
          repeat' (walk_at "jv")
          refine is_tupO (oe.same kk) ?_
          refine ⟨_, rfl, ?_⟩
          cases c2 : isT e with
          | false =>
            have eb : isArr e r.1 r.2 = false := by
              cases e with
              | tuple es => cases c2
              | _ => rfl
            repeat' (walk_at "jv")
            exact bad eb _ kk
          | true =>
            obtain ⟨es, rfl⟩ := isT_yes c2
            obtain ⟨dx, shx⟩ := near_e ne (oe.same kk)
            repeat' (walk_at "jv")
            refine ⟨_, _, dx, rd, shx, rsh r (W.names.2 _ en1) (W.names.2 _ en2), ?_⟩
            rw [near_eqv ne r]
            refine ⟨_, rfl, ?_⟩
            cases c3 : PyData.eqv (.tuple [.str r.1, .str r.2]) (.tuple es) with
            | true =>
              repeat' (walk_at "jv")
              refine ⟨_, _, rfl, kk, good ?_⟩
              unfold isArr
              rw [c3]
              rfl
            | false =>
              repeat' (walk_at "jv")
              refine rev_road (r := r) (fun Q' h => by repeat' (first | exact h | walk_at "jv")) rd (fun y H3 k3 dy => ?_)
              first | replace dx := HF.same dx k3 | replace dx := WF.same dx k3 | replace dx := FT.same dx k3 | replace dx := Fd.same dx k3 | replace dx := LsD.same dx k3 | replace dx := TK.same k3 _ _ dx | replace dx := KeysT.tk dx (TK.same k3) | replace dx := KeysU.tk dx (TK.same k3) | replace dx := KeysN.tk dx (TK.same k3) | replace dx := DayV.tk dx (TK.same k3) | replace dx := Dp.same k3 _ _ dx | replace dx := DpAll.same k3 _ _ dx | replace dx := k3 _ _ dx | replace dx := Ch.trans dx (Ch.of_same k3) | replace dx := Same.trans dx k3 | replace dx := stepsAt.same dx k3 | replace dx := DpT.same dx k3 | replace dx := LOr.same dx k3 | replace dx := Ob.same dx k3 | replace dx := Gds.same dx k3 | replace dx := Gd2.same dx k3 | replace dx := Ob2.same dx k3 | replace dx := NE.same dx k3 | replace dx := NT.same dx k3 | replace dx := NEs.same dx k3 | replace dx := NX.same dx k3 | replace dx := EMs.same dx k3 | replace dx := EOs.same dx k3 | replace dx := EO.same dx k3 | replace dx := GT.same dx k3 | replace dx := GTs.same dx k3 | replace dx := RB.same dx k3 | replace dx := RBs.same dx k3 | replace dx := RB2s.same dx k3 | replace dx := GR.same dx k3 | replace dx := GRs.same dx k3
              first | replace kk := HF.same kk k3 | replace kk := WF.same kk k3 | replace kk := FT.same kk k3 | replace kk := Fd.same kk k3 | replace kk := LsD.same kk k3 | replace kk := TK.same k3 _ _ kk | replace kk := KeysT.tk kk (TK.same k3) | replace kk := KeysU.tk kk (TK.same k3) | replace kk := KeysN.tk kk (TK.same k3) | replace kk := DayV.tk kk (TK.same k3) | replace kk := Dp.same k3 _ _ kk | replace kk := DpAll.same k3 _ _ kk | replace kk := k3 _ _ kk | replace kk := Ch.trans kk (Ch.of_same k3) | replace kk := Same.trans kk k3 | replace kk := stepsAt.same kk k3 | replace kk := DpT.same kk k3 | replace kk := LOr.same kk k3 | replace kk := Ob.same kk k3 | replace kk := Gds.same kk k3 | replace kk := Gd2.same kk k3 | replace kk := Ob2.same kk k3 | replace kk := NE.same kk k3 | replace kk := NT.same kk k3 | replace kk := NEs.same kk k3 | replace kk := NX.same kk k3 | replace kk := EMs.same kk k3 | replace kk := EOs.same kk k3 | replace kk := EO.same kk k3 | replace kk := GT.same kk k3 | replace kk := GTs.same kk k3 | replace kk := RB.same kk k3 | replace kk := RBs.same kk k3 | replace kk := RB2s.same kk k3 | replace kk := GR.same kk k3 | replace kk := GRs.same kk k3
              refine ⟨_, _, dx, dy, shx, rsh (swp r) (W.names.2 _ en2) (W.names.2 _ en1), ?_⟩
              rw [near_eqv ne (swp r)]
              refine ⟨_, rfl, ?_⟩
              cases c4 : PyData.eqv (.tuple [.str r.2, .str r.1]) (.tuple es) with
              | true =>
                have c5 : PyData.eqv (.tuple [.str (swp r).1, .str (swp r).2]) (.tuple es) = true := c4
                rw [c5]
                repeat' (walk_at "jv")
                refine ⟨_, _, rfl, kk, good ?_⟩
                unfold isArr
                rw [c4, Bool.or_true]
              | false =>
                have c5 : PyData.eqv (.tuple [.str (swp r).1, .str (swp r).2]) (.tuple es) = false := c4
                rw [c5]
                have eb : isArr (.tuple es) r.1 r.2 = false := by
                  unfold isArr
                  rw [c3, c4]
                  rfl
                repeat' (walk_at "jv")
                exact bad eb _ kk
        · obtain ⟨y2, y3, rfl, kk, hj⟩ := h
          have e6 : arrOk (.tuple ds) rs = true := by
            show (decide (ds.length = rs.length) && (List.range rs.length).all (arrAt ds rs)) = true
            rw [decide_eq_true hlen, Bool.true_and, List.all_eq_true]
            exact fun j hj2 => hj j (by have := List.mem_range.mp hj2; omega)
          rw [e6] at q
          repeat' (walk_at "jv")
          exact q H1 kk
end
end
section
open L2 PySem PySem.Spec PyProof.Rows
abbrev s_could_be_ring : Stmt := topS 19
theorem sc_could_be_ring : FnScope ["thing", "place"] ["thing"] (defScope s_could_be_ring) := ⟨rfl, rfl, rfl, by decide +kernel, rfl, by decide +kernel, by decide +kernel⟩
abbrev s_next_pairs : Stmt := topS 20
theorem sc_next_pairs : FnScope ["ring"] ["ring"] (defScope s_next_pairs) := ⟨rfl, rfl, rfl, by decide +kernel, rfl, by decide +kernel, by decide +kernel⟩
def strD : PyData → Str
  | .str z => z
  | _ => ""
def rngD (d : PyData) : Bool := match d with
  | .tuple ds => decide (3 ≤ ds.length) && (ds.all isS && decide ((ds.map strD).Nodup))
  | _ => false
def spCouldR (K : PySem.W.Frag) : Sp := fun vs H Q _ => ∃ (a : Addr) (x : V) (d : PyData), vs = [x] ∧ Ob K H a x d ∧ (∀ ds, d = .tuple ds → ds.length ≤ 50) ∧ ∀ H', Same H H' → Q (.bl (rngD d)) H'
def spNextP (K : PySem.W.Frag) : Sp := fun vs H Q _ => ∃ (o : Addr) (l : List Str), vs = [.ref o] ∧ SqT K H o (l.map V.str) ∧ 2 ≤ l.length ∧ l.length ≤ 50 ∧ ∀ (q : Addr) (as : List Addr) (H' : Hp), Same H H' → H q = none → H' q = some (.lst (as.map V.ref)) → as.length = l.length → (∀ (j : Nat) (b : Addr), as[j]? = some b → ∃ p, (pairsR l)[j]? = some p ∧ H' b = some (.tup [.str p.1, .str p.2])) → Q (.ref q) H'
theorem all_strs : ∀ {ds : List PyData}, ds.all isS = true → ds = (ds.map strD).map PyData.str
  | [], _ => rfl
  | d :: ds, h => by
    rw [List.all_cons, Bool.and_eq_true] at h
    have h1 : isS d = true := h.1
    rw [List.map_cons, List.map_cons, ← all_strs h.2]
    cases d with
    | str z => rfl
    | _ => cases h1
theorem obs_strsR {K : PySem.W.Frag} {H : Hp} {a : Addr} : ∀ {zs : List Str} {xs : List V}, ObAll K H a xs (zs.map PyData.str) → xs = zs.map V.str
  | [], _, .nil => rfl
  | z :: zs, _, .cons h t => by
    rw [obs_strsR t]
    cases h
    rfl
section
variable {base : Heap} {P : Program} {w : World} {K : PySem.W.Frag} {mg : Str → Option Value}
theorem ok_could (D : Dn K mg "could_be_ring" s_could_be_ring ["thing"]) (B : Bn mg) (hfr : ∃ t, mg "FEWEST_IN_RING" = some (.int 3 t)) : Cl P w K mg base 1 "could_be_ring" ["thing"] (spCouldR K) := by
  obtain ⟨t0, c_FEWEST⟩ := hfr
  refine D.cl sc_could_be_ring (fun vs H Q E h => ?_) (fun f cdv A outer s H vs Q E hr h => ?_)
  · obtain ⟨a, x, d, rfl, _⟩ := h
    rfl
  · obtain ⟨a, x, d, rfl, ox, hl, q⟩ := h
    refine ⟨_, (pss_cons (ps_if (PW.pt (pw_or (pt_not (pt_val (pe_callB (k_isi (K := K)) rfl B.isinstance_ (by decide +kernel) (pa_cons (pv 0) (pa_cons (pe_ty (T := "tuple") B.tuple_ (by decide +kernel)) pa_nil))))) (pw_or1 (pt_cmpR op_lt (pe_callB (k_len (K := K)) rfl B.len_ (by decide +kernel) (pa_cons (pv 0) pa_nil)) (gl_int c_FEWEST) (nomark _))))) (pss_one (ps_ret pe_bl)) pss_nil)
      (pss_one (ps_ret (pe_and (pe_callB (k_all (K := K) rfl) rfl B.all_ (by decide +kernel) (pa_cons (pe_lc (own := [("place", 1)]) rfl sc_could_be_ring.nd (kpi_tup (K := K) (pv 0)) (blkOk_by (N := ["thing", "place"]) (sc := defScope s_could_be_ring) (by decide +kernel)) (fun _ _ _ _ _ => (pg_name (i := 1) sc_could_be_ring.nd rfl (by first | exact Or.inl rfl | exact Or.inr rfl))) (fun _ _ _ _ _ => pts_nil) (fun _ _ _ _ _ => (pe_callB (k_isi (K := K)) rfl B.isinstance_ (by decide +kernel) (pa_cons (pv 1) (pa_cons (pe_ty (T := "str") B.str_ (by decide +kernel)) pa_nil))))) pa_nil)) (pe_one (pe_cmpR op_eq (pe_callB (cr_lenTextsD) rfl B.len_ (by decide +kernel) (pa_cons (pe_callTy (cr_setTextsD rfl) rfl B.set_ (by decide +kernel) (pa_cons (pv 0) pa_nil)) pa_nil)) (pe_callB (k_len (K := K)) rfl B.len_ (by decide +kernel) (pa_cons (pv 0) pa_nil)) (nomark _))))))), ?_⟩
    repeat' (walk_at "jv")
    refine is_tupO ox ?_
    refine ⟨_, rfl, ?_⟩
    cases c : isT d with
    | false =>
      have e : rngD d = false := by
        cases d with
        | tuple ds => cases c
        | _ => rfl
      rw [e] at q
      repeat' (walk_at "jv")
      exact q H (Same.refl _)
    | true =>
      obtain ⟨ds, rfl⟩ : ∃ ds, d = .tuple ds := by
        cases d with
        | tuple ds => exact ⟨ds, rfl⟩
        | _ => cases c
      have hl50 := hl ds rfl
      cases ox with
      | @tup p xs ds sx al =>
      have hxl := ObAll.len al
      repeat' (walk_at "jv")
      · rename_i hlt
        have e : rngD (.tuple ds) = false := by
          show (decide (3 ≤ ds.length) && _) = false
          rw [decide_eq_false (by omega)]
          rfl
        rw [e] at q
        exact q H (Same.refl _)
      · rename_i hge
        have e3 : rngD (.tuple ds) = (ds.all isS && decide ((ds.map strD).Nodup)) := by
          show (decide (3 ≤ ds.length) && _) = _
          rw [decide_eq_true (by omega), Bool.true_and]
        rw [e3] at q
        refine c_tup xs (fun D i H' => H D = none ∧ Same H H' ∧ H' D = some (.lst (((ds.take i).map isS).map V.bl))) (fun D nD => ⟨nD, Same.upd_new nD, upd_same⟩) (fun D i H' _ h => TK.same h.2.1 _ _ sx) (fun D i y H' hy h => ?_) (fun D H' h => ?_)
        · obtain ⟨nD, kD, eD⟩ := h
          obtain ⟨d', hd', od'⟩ := ObAll.get al hy
          repeat' (walk_at "jv")
          refine is_strO (od'.same kD) ?_
          have hi : i < ds.length := (List.getElem?_eq_some_iff.mp hd').1
          refine i_lcE eD (by rw [List.length_map, List.length_map, List.length_take, sizeLine_eq]; omega) ⟨nD, fun c oc z => (upd_ne (ne_of_none z nD)).trans (kD _ _ z), ?_⟩
          rw [take_push hd', List.map_append, List.map_append]
          exact upd_same
        · obtain ⟨nD, kD, eD⟩ := h
          rw [hxl, List.take_length] at eD
          repeat' (walk_at "jv")
          have ea : ds.all isS = (ds.map isS).all id := by rw [List.all_map]; rfl
          rw [ea] at q
          cases ha : (ds.map isS).all id with
          | false =>
            rw [ha] at q
            repeat' (walk_at "jv")
            exact q H' kD
          | true =>
            rw [ha, Bool.true_and] at q
            have ez := all_strs (ea.trans ha)
            have hzl : (ds.map strD).length = ds.length := List.length_map ..
            generalize ds.map strD = zs at ez hzl q
            subst ez
            obtain rfl := obs_strsR al
            have sx' := TK.same (K := K) kD _ _ sx
            rw [List.length_map] at hl50
            repeat' (walk_at "jv")
            refine ⟨p, zs, rfl, sx', by omega, fun D2 nD2 => ?_⟩
            repeat' (walk_at "jv")
            refine ⟨D2, zs, rfl, upd_same, ?_⟩
            have k2 := Same.upd_new (o := TxsDO P w D2 zs) nD2
            have sx2 := TK.same (K := K) k2 _ _ sx'
            have hzv : (zs.map V.str).length = zs.length := List.length_map ..
            repeat' (walk_at "jv")
            have ed : decide (((distN zs : Nat) : Int) = (((zs.map V.str).length : Nat) : Int)) = decide zs.Nodup := by
              refine decide_eq_decide.mpr ?_
              rw [← (dist_le zs.length zs rfl).2, hzv]
              omega
            rw [ed]
            exact q _ (kD.trans k2)
theorem ok_next (D : Dn K mg "next_pairs" s_next_pairs ["ring"]) (B : Bn mg) : Cl P w K mg base 1 "next_pairs" ["ring"] (spNextP K) := by
  refine D.cl sc_next_pairs (fun vs H Q E h => ?_) (fun f cdv A outer s H vs Q E hr h => ?_)
  · obtain ⟨o, l, rfl, _⟩ := h
    rfl
  · obtain ⟨o, l, rfl, so, h2, h50, q⟩ := h
    have hml : (l.map V.str).length = l.length := List.length_map ..
    refine ⟨_, (pss_one (ps_ret (k_listZipT (K := K) B.zip_ B.list_ (pa_cons (pv 0) (pa_cons (pe_op op_catA (pe_slice sl_tupA (pv 0) (po_some pe_int) po_none) (pe_slice sl_tupA (pv 0) po_none (po_some pe_int))) pa_nil))))), ?_⟩
    repeat' (walk_at "jv")
    refine i_lzT ?_
    repeat' (walk_at "jv")
    refine i_slG so fun A1 H1 k1 s1 => ?_
    rw [show cutV (l.map V.str) (some 1) none = (l.map V.str).drop 1 from cut_from (k := 1)] at s1
    replace so := TK.same k1 _ _ so
    repeat' (walk_at "jv")
    refine i_slG so fun A2 H2 k2 s2 => ?_
    rw [show cutV (l.map V.str) none (some 1) = (l.map V.str).take 1 from cut_take (k := 1)] at s2
    replace so := TK.same k2 _ _ so
    replace s1 := TK.same k2 _ _ s1
    refine i_catG s1 s2 (by rw [List.length_drop, List.length_take, sizeLine_eq]; omega) fun A3 H3 k3 s3 => ?_
    replace so := TK.same k3 _ _ so
    repeat' (walk_at "jv")
    refine ⟨o, A3, _, _, rfl, so, s3, by omega, by rw [List.length_append, List.length_drop, List.length_take]; omega, by omega, fun q2 as H4 z => ?_⟩
    have kk := (k1.trans k2).trans (k3.trans z.same)
    have ep : ∀ (j : Nat) (x y : V), (l.map V.str)[j]? = some x → ((l.map V.str).drop 1 ++ (l.map V.str).take 1)[j]? = some y → ∃ p, (pairsR l)[j]? = some p ∧ x = .str p.1 ∧ y = .str p.2 := fun j x y hx hy => by
      rw [List.getElem?_map] at hx
      rw [← List.map_drop, ← List.map_take, ← List.map_append, List.getElem?_map] at hy
      cases c1 : l[j]? with
      | none => rw [c1] at hx; cases hx
      | some u =>
        cases c2 : (l.drop 1 ++ l.take 1)[j]? with
        | none => rw [c2] at hy; cases hy
        | some w2 =>
          rw [c1] at hx
          rw [c2] at hy
          refine ⟨(u, w2), ?_, (Option.some.inj hx).symm, (Option.some.inj hy).symm⟩
          rw [← pairs_zip, List.getElem?_zip_eq_some]
          exact ⟨c1, c2⟩
    refine q q2 as H4 kk (free_same ((k1.trans k2).trans k3) z.free) z.list (by rw [z.len, hml]) fun j b hb => ?_
    obtain ⟨x, y, hx, hy, hb2⟩ := z.pair j b hb
    obtain ⟨p, hp, rfl, rfl⟩ := ep j x y hx hy
    exact ⟨p, hp, hb2⟩
end
end
section
open L2 PySem PySem.Spec PyProof.Rows
abbrev s_arrow_ring : Stmt := topS 26
theorem sc_arrow_ring : FnScope ["web", "arrows", "gone", "ahead", "way", "one", "other", "place"] ["web", "arrows"] (defScope s_arrow_ring) := ⟨rfl, rfl, rfl, by decide +kernel, rfl, by decide +kernel, by decide +kernel⟩
theorem eqv_str {u : Str} {d : PyData} (h : PyData.eqv (.str u) d = true) : d = .str u := by
  cases d with
  | str z =>
    have : (u == z) = true := h
    rw [eq_of_beq this]
  | _ => cases h
theorem eqv_two {u v : Str} {d : PyData} (h : PyData.eqv (.tuple [.str u, .str v]) d = true) : d = roadD (u, v) := by
  cases d with
  | tuple ds =>
    have h' : PyData.eqvAll [.str u, .str v] ds = true := h
    match ds, h' with
    | [], h' => cases h'
    | [a], h' =>
      rw [PySem.W.eqv_all_cons, Bool.and_eq_true] at h'
      cases h'.2
    | [a, b], h' =>
      rw [PySem.W.eqv_all_cons, PySem.W.eqv_all_cons, Bool.and_eq_true, Bool.and_eq_true] at h'
      rw [eqv_str h'.1, eqv_str h'.2.1]
      rfl
    | a :: b :: c :: r, h' =>
      rw [PySem.W.eqv_all_cons, PySem.W.eqv_all_cons, Bool.and_eq_true, Bool.and_eq_true] at h'
      cases h'.2.2
  | _ => cases h
theorem arr_is {d : PyData} {u v : Str} (h : isArr d u v = true) : d = roadD (u, v) ∨ d = roadD (v, u) := by
  unfold isArr at h
  rw [Bool.or_eq_true] at h
  exact h.imp eqv_two eqv_two
theorem arr_list : ∀ {ds : List PyData} {rs : List (Str × Str)}, ds.length = rs.length → (∀ i, i < rs.length → arrAt ds rs i = true) → ∃ l : List (Str × Str), ds = l.map roadD ∧ l.length = rs.length ∧ ∀ i, i < rs.length → l.getD i ("", "") = rs.getD i ("", "") ∨ l.getD i ("", "") = swp (rs.getD i ("", ""))
  | [], [], _, _ => ⟨[], rfl, rfl, fun i hi => absurd hi (Nat.not_lt_zero _)⟩
  | d :: ds, r :: rs, hl, h => by
    obtain ⟨l, rfl, h2, h3⟩ := arr_list (ds := ds) (rs := rs) (by simpa using hl) fun i hi => h (i + 1) (Nat.succ_lt_succ hi)
    have h0 : isArr d r.1 r.2 = true := h 0 (Nat.succ_pos _)
    rcases arr_is h0 with e | e
    · refine ⟨r :: l, by rw [e]; rfl, by simpa using h2, fun i hi => ?_⟩
      cases i with
      | zero => exact .inl rfl
      | succ i => exact h3 i (Nat.lt_of_succ_lt_succ hi)
    · refine ⟨swp r :: l, by rw [e]; rfl, by simpa using h2, fun i hi => ?_⟩
      cases i with
      | zero => exact .inr rfl
      | succ i => exact h3 i (Nat.lt_of_succ_lt_succ hi)
theorem obs_roads {K : PySem.W.Frag} {H : Hp} {a : Addr} : ∀ {l : List (Str × Str)} {xs : List V}, ObAll K H a xs (l.map roadD) → DpAll K H xs (l.map roadD)
  | [], _, .nil => .nil
  | r :: l, _, .cons h t => by
    refine .cons ?_ (obs_roads t)
    cases h with
    | tup s al => exact .tup s (obs_strs (zs := [r.1, r.2]) al)
theorem arr_all {d : PyData} {rs : List (Str × Str)} (h : arrOk d rs = true) : ∃ l : List (Str × Str), d = rsD l ∧ l.length = rs.length ∧ ∀ i, i < rs.length → l.getD i ("", "") = rs.getD i ("", "") ∨ l.getD i ("", "") = swp (rs.getD i ("", "")) := by
  cases d with
  | tuple ds =>
    have h' : (decide (ds.length = rs.length) && (List.range rs.length).all (arrAt ds rs)) = true := h
    rw [Bool.and_eq_true] at h'
    obtain ⟨l, e, h2, h3⟩ := arr_list (of_decide_eq_true h'.1) fun i hi => List.all_eq_true.mp h'.2 i (List.mem_range.mpr hi)
    exact ⟨l, by rw [e], h2, h3⟩
  | _ => cases h
theorem ob_roads {K : PySem.W.Frag} {H : Hp} {a : Addr} {x : V} {l : List (Str × Str)} (h : Ob K H a x (rsD l)) : ∃ p, x = .ref p ∧ Dp K H (.ref p) (rsD l) := by
  cases h with
  | tup s al => exact ⟨_, rfl, .tup s (obs_roads al)⟩
def spArrowRing (K : PySem.W.Frag) (CA : Addr) : Sp := fun vs H Q E => ∃ (a : Addr) (v x : V) (d : PyData) (ps : List Str) (rs : List (Str × Str)), vs = [v, x] ∧ Dp K H v (webD ps rs) ∧ IsWeb ps rs ∧ Ob K H a x d ∧
  (∀ ds, d = .tuple ds → ds.length ≤ 1000 ∧ ∀ e ∈ ds, ∀ es, e = .tuple es → es.length ≤ 1000 ∧ ∀ z, PyData.str z ∈ es → PyData.strOk z = true) ∧
  (arrOk d rs = false → ∀ H', Same H H' → E (.ref CA) none H') ∧ ∀ l : List (Str × Str), d = rsD l → ArrL rs l → arrOk d rs = true →
    ((freedL ps l).length = ps.length → ∀ H', Same H H' → Q .non H') ∧ ((freedL ps l).length ≠ ps.length → ∀ T H', Same H H' → FT H' T ((roundA ps l).map V.str) → Q (.ref T) H')
section
variable {base : Heap} {P : Program} {w : World} {K : PySem.W.Frag} {mg : Str → Option Value}
theorem ok_arrow_ring {CA : Addr} (D : Dn K mg "arrow_ring" s_arrow_ring ["web", "arrows"]) (B : Bn mg) (C_need_web : Cl P w K mg base 5 "need_web" ["web"] (spNeedWeb K)) (CX__need_arrows : ClX P w K mg base 2 "_need_arrows" ["web", "told"] (spNeedArrows K CA)) (C_freed : Cl P w K mg base 2 "freed" ["web", "told"] (spFreed K)) : ClX P w K mg base 6 "arrow_ring" ["web", "arrows"] (spArrowRing K CA) := by
  refine D.clX sc_arrow_ring (fun vs H Q E h => ?_) (fun f cdv A outer s H vs Q E hr h => ?_)
  · obtain ⟨a, v, x, d, ps, rs, rfl, _⟩ := h
    rfl
  · obtain ⟨a, v, x, d, ps, rs, rfl, dw, W, ox, hd, qe, qv⟩ := h
    refine ⟨_, (pss_cons (ps_expr (pe_c C_need_web hr (pa_cons (pv 0) pa_nil)))
      (pss_cons (ps_expr (pe_cX CX__need_arrows tk_out hr (pa_cons (pv 0) (pa_cons (pv 1) pa_nil))))
      (pss_cons (ps_set (i := 2) sc_arrow_ring.nd rfl (by first | exact Or.inl rfl | exact Or.inr rfl) (pe_c C_freed hr (pa_cons (pv 0) (pa_cons (pv 1) pa_nil))))
      (pss_cons (ps_if (pt_cmpR op_eq (pe_callB (k_len (K := K)) rfl B.len_ (by decide +kernel) (pa_cons (pv 2) pa_nil)) (pe_callB (k_len (K := K)) rfl B.len_ (by decide +kernel) (pa_cons (pe_ix (k_ixT (K := K)) (pv 0) pe_int (fun _ _ => rfl)) pa_nil)) (nomark _)) (pss_one (ps_ret pe_non)) pss_nil)
      (pss_cons (ps_setDc (i := 3) (own := [("one", 5), ("other", 6)]) rfl sc_arrow_ring.nd rfl rfl (sw_dict rfl rfl rfl (by decide +kernel)) (kpi_tup (K := K) (pv 1)) (blkOk_by (N := ["web", "arrows", "gone", "ahead", "way", "one", "other", "place"]) (sc := defScope s_arrow_ring) (by decide +kernel)) (fun _ _ _ _ _ => (kpg_tup (K := K) (n := 2) rfl (pgs_cons (pg_name (i := 5) sc_arrow_ring.nd rfl (by first | exact Or.inl rfl | exact Or.inr rfl)) (pgs_cons (pg_name (i := 6) sc_arrow_ring.nd rfl (by first | exact Or.inl rfl | exact Or.inr rfl)) pgs_nil)))) (fun _ _ _ _ _ => pts_one (pt_cmpR (k_notInS (K := K)) (pv 5) (pv 2) (by rfl))) (fun _ _ _ _ _ => (pv 6)) (fun _ _ _ _ _ => (pv 5)))
      (pss_cons (ps_set (i := 4) sc_arrow_ring.nd rfl (by first | exact Or.inl rfl | exact Or.inr rfl) (pe_lst (pa_cons (pe_ix (k_ixL (K := K)) (pe_lc (own := [("place", 7)]) rfl sc_arrow_ring.nd (kpi_tup (K := K) (pe_ix (k_ixT (K := K)) (pv 0) pe_int (fun _ _ => rfl))) (blkOk_by (N := ["web", "arrows", "gone", "ahead", "way", "one", "other", "place"]) (sc := defScope s_arrow_ring) (by decide +kernel)) (fun _ _ _ _ _ => (pg_name (i := 7) sc_arrow_ring.nd rfl (by first | exact Or.inl rfl | exact Or.inr rfl))) (fun _ _ _ _ _ => pts_one (pt_cmpR (k_notInS (K := K)) (pv 7) (pv 2) (by rfl))) (fun _ _ _ _ _ => (pv 7))) pe_int (fun _ _ => rfl)) pa_nil)))
      (pss_cons (ps_while (passes_of rfl) (pt_cmpR (k_notInS (K := K)) (pe_dget (hu1 hr) (pv 3) (pe_ix (k_ixL (K := K)) (pv 4) (pe_un un_neg pe_int) (fun _ _ => rfl)) (fun _ _ => rfl)) (pv 4) (by rfl)) (pss_one (ps_expr (pe_bm PySem.F.plainAttrs_list PySem.F.slot_list_append PySem.F.type_list_append mt_append (pv 4) (pa_cons (pe_dget (hu1 hr) (pv 3) (pe_ix (k_ixL (K := K)) (pv 4) (pe_un un_neg pe_int) (fun _ _ => rfl)) (fun _ _ => rfl)) pa_nil)))))
      (pss_one (ps_ret (pe_callTy (k_tupleF (K := K)) rfl B.tuple_ (by decide +kernel) (pa_cons (k_revL (K := K) (pe_slice (k_slL (K := K)) (pv 4) (po_some (k_bm (K := K) PySem.F.plainAttrs_list PySem.F.slot_list_index PySem.F.type_list_index (k_indexD (K := K) (hu65 hr)) (pv 4) (pa_cons (pe_dget (hu1 hr) (pv 3) (pe_ix (k_ixL (K := K)) (pv 4) (pe_un un_neg pe_int) (fun _ _ => rfl)) (fun _ _ => rfl)) pa_nil))) po_none)) pa_nil))))))))))), ?_⟩
    repeat' (walk_at "jv")
    refine ⟨v, ps, rs, rfl, dw, W, fun H1 k1 => ?_⟩
    repeat' (walk_at "jv")
    refine i_cS ?_
    repeat' (walk_at "jv")
    refine ⟨a, v, x, d, ps, rs, rfl, Dp.same k1 _ _ dw, W, ox.same k1, hd, fun H2 k2 => ⟨fun ok => ?_, fun no => qe no H2 (k1.trans k2)⟩⟩
    have k12 := k1.trans k2
    obtain ⟨l, rfl, ll, hl⟩ := arr_all ok
    obtain ⟨p, rfl, dx⟩ := ob_roads ox
    have h14 := W.le14
    have h8 := W.le8
    have h0 := W.pos
    obtain ⟨z1, z2⟩ := qv l rfl ⟨ll, hl⟩ ok
    replace dw := Dp.same k12 _ _ dw
    replace dx := Dp.same k12 _ _ dx
    clear k1 k2 ox hd qe qv ok
    repeat' (walk_at "jv")
    refine ⟨v, p, l, ps, rs, rfl, dw, W, dx, by omega, fun G H3 k3 fG => ?_⟩
    replace dw := Dp.same k3 _ _ dw
    replace dx := Dp.same k3 _ _ dx
    have kk := k12.trans k3
    clear k12 k3 H2 H1
    obtain ⟨t, tp, tr, xs, rfl, s1, s2, s3, d3, dr, dpl⟩ := web_parts dw
    clear d3 dr dpl s3 dw
    obtain ⟨p', us, ep, sT, aT⟩ := tup_parts dx
    obtain rfl : p = p' := by injection ep
    have sG := fG.sq (K := K)
    have hul : us.length = l.length := by rw [DpAll.len aT, List.length_map]
    have hlp : (ps.map V.str).length = ps.length := List.length_map ..
    have hlg : ((freedL ps l).map V.str).length = (freedL ps l).length := List.length_map ..
    repeat' (walk_at "jv")
    · exact z1 (by omega) H3 kk
    · have hne : (freedL ps l).length ≠ ps.length := by omega
      have L := left_of W ⟨ll, hl⟩ hne
      obtain ⟨z0, zl, zp, zg, zh⟩ := strt_is (left_ne hne W.names.1)
      refine i_dc ?_
      repeat' (walk_at "jv")
      refine d_tup us (fun D i H' => H3 D = none ∧ Same H3 H' ∧ ∃ kvs, H' D = some (.dK kvs) ∧ kvs.length ≤ i ∧ ∀ z : Str, valV kvs (Sum.inr z) = (ahd (l.take i) (freedL ps l) z).map V.str) (fun D nD => ⟨nD, Same.upd_new nD, [], upd_same, Nat.le_refl _, fun z => by rw [List.take_zero]; rfl⟩) (fun D i H' _ h => TK.same h.2.1 _ _ sT) (fun D i x H' hx h => ?_) (fun D H4 h => ?_)
      · obtain ⟨nD, kD, kvs, eD, hk, hv⟩ := h
        obtain ⟨r, b, hr2, rfl, sb⟩ := road_get (DpAll.same kD _ _ aT) hx
        have hi : i < l.length := (List.getElem?_eq_some_iff.mp hr2).1
        have hg' := TK.same (K := K) kD _ _ sG
        have et : ∀ z, ahd (l.take (i + 1)) (freedL ps l) z = if r.1 ∉ freedL ps l ∧ r.2 = z then some r.1 else ahd (l.take i) (freedL ps l) z := fun z => by
          rw [take_push hr2, ahd_snoc]
        refine i_gtup sb rfl ?_
        repeat' (walk_at "jv")
        refine i_notInS (SqA.t hg') ?_
        refine ⟨_, rfl, i_iteB (fun h1 => ?_) (fun h1 => ?_)⟩
        · have h2 : r.1 ∉ freedL ps l := by simpa using h1
          repeat' (walk_at "jv")
          refine ⟨kvs, Sum.inr r.2, rfl, eD, by rw [sizeLine_eq]; omega, nD, fun c oc z => ?_, _, upd_same, Nat.le_trans (length_putK _ _ _) (by omega), fun z => ?_⟩
          · rw [upd_ne (ne_of_none z nD)]
            exact kD _ _ z
          · rw [valV_put, et z]
            by_cases c : r.2 = z
            · subst c
              rw [if_pos rfl, if_pos ⟨h2, rfl⟩]
              rfl
            · rw [if_neg (fun e => c (by injection e with e; exact e.symm)), if_neg (fun h => c h.2), hv z]
        · have h2 : r.1 ∈ freedL ps l := by simpa using h1
          refine ⟨nD, kD, kvs, eD, by omega, fun z => ?_⟩
          rw [hv z, et z, if_neg (fun h => h.1 h2)]
      obtain ⟨nD, kD, kvs, eD, hk, hv⟩ := h
      rw [hul, List.take_length] at hv
      first | replace s1 := HF.same s1 kD | replace s1 := WF.same s1 kD | replace s1 := FT.same s1 kD | replace s1 := Fd.same s1 kD | replace s1 := LsD.same s1 kD | replace s1 := TK.same kD _ _ s1 | replace s1 := KeysT.tk s1 (TK.same kD) | replace s1 := KeysU.tk s1 (TK.same kD) | replace s1 := KeysN.tk s1 (TK.same kD) | replace s1 := DayV.tk s1 (TK.same kD) | replace s1 := Dp.same kD _ _ s1 | replace s1 := DpAll.same kD _ _ s1 | replace s1 := kD _ _ s1 | replace s1 := Ch.trans s1 (Ch.of_same kD) | replace s1 := Same.trans s1 kD | replace s1 := stepsAt.same s1 kD | replace s1 := DpT.same s1 kD | replace s1 := LOr.same s1 kD | replace s1 := Ob.same s1 kD | replace s1 := Gds.same s1 kD | replace s1 := Gd2.same s1 kD | replace s1 := Ob2.same s1 kD | replace s1 := NE.same s1 kD | replace s1 := NT.same s1 kD | replace s1 := NEs.same s1 kD | replace s1 := NX.same s1 kD | replace s1 := EMs.same s1 kD | replace s1 := EOs.same s1 kD | replace s1 := EO.same s1 kD | replace s1 := GT.same s1 kD | replace s1 := GTs.same s1 kD | replace s1 := RB.same s1 kD | replace s1 := RBs.same s1 kD | replace s1 := RB2s.same s1 kD | replace s1 := GR.same s1 kD | replace s1 := GRs.same s1 kD
      first | replace s2 := HF.same s2 kD | replace s2 := WF.same s2 kD | replace s2 := FT.same s2 kD | replace s2 := Fd.same s2 kD | replace s2 := LsD.same s2 kD | replace s2 := TK.same kD _ _ s2 | replace s2 := KeysT.tk s2 (TK.same kD) | replace s2 := KeysU.tk s2 (TK.same kD) | replace s2 := KeysN.tk s2 (TK.same kD) | replace s2 := DayV.tk s2 (TK.same kD) | replace s2 := Dp.same kD _ _ s2 | replace s2 := DpAll.same kD _ _ s2 | replace s2 := kD _ _ s2 | replace s2 := Ch.trans s2 (Ch.of_same kD) | replace s2 := Same.trans s2 kD | replace s2 := stepsAt.same s2 kD | replace s2 := DpT.same s2 kD | replace s2 := LOr.same s2 kD | replace s2 := Ob.same s2 kD | replace s2 := Gds.same s2 kD | replace s2 := Gd2.same s2 kD | replace s2 := Ob2.same s2 kD | replace s2 := NE.same s2 kD | replace s2 := NT.same s2 kD | replace s2 := NEs.same s2 kD | replace s2 := NX.same s2 kD | replace s2 := EMs.same s2 kD | replace s2 := EOs.same s2 kD | replace s2 := EO.same s2 kD | replace s2 := GT.same s2 kD | replace s2 := GTs.same s2 kD | replace s2 := RB.same s2 kD | replace s2 := RBs.same s2 kD | replace s2 := RB2s.same s2 kD | replace s2 := GR.same s2 kD | replace s2 := GRs.same s2 kD
      first | replace kk := HF.same kk kD | replace kk := WF.same kk kD | replace kk := FT.same kk kD | replace kk := Fd.same kk kD | replace kk := LsD.same kk kD | replace kk := TK.same kD _ _ kk | replace kk := KeysT.tk kk (TK.same kD) | replace kk := KeysU.tk kk (TK.same kD) | replace kk := KeysN.tk kk (TK.same kD) | replace kk := DayV.tk kk (TK.same kD) | replace kk := Dp.same kD _ _ kk | replace kk := DpAll.same kD _ _ kk | replace kk := kD _ _ kk | replace kk := Ch.trans kk (Ch.of_same kD) | replace kk := Same.trans kk kD | replace kk := stepsAt.same kk kD | replace kk := DpT.same kk kD | replace kk := LOr.same kk kD | replace kk := Ob.same kk kD | replace kk := Gds.same kk kD | replace kk := Gd2.same kk kD | replace kk := Ob2.same kk kD | replace kk := NE.same kk kD | replace kk := NT.same kk kD | replace kk := NEs.same kk kD | replace kk := NX.same kk kD | replace kk := EMs.same kk kD | replace kk := EOs.same kk kD | replace kk := EO.same kk kD | replace kk := GT.same kk kD | replace kk := GTs.same kk kD | replace kk := RB.same kk kD | replace kk := RBs.same kk kD | replace kk := RB2s.same kk kD | replace kk := GR.same kk kD | replace kk := GRs.same kk kD
      first | replace sG := HF.same sG kD | replace sG := WF.same sG kD | replace sG := FT.same sG kD | replace sG := Fd.same sG kD | replace sG := LsD.same sG kD | replace sG := TK.same kD _ _ sG | replace sG := KeysT.tk sG (TK.same kD) | replace sG := KeysU.tk sG (TK.same kD) | replace sG := KeysN.tk sG (TK.same kD) | replace sG := DayV.tk sG (TK.same kD) | replace sG := Dp.same kD _ _ sG | replace sG := DpAll.same kD _ _ sG | replace sG := kD _ _ sG | replace sG := Ch.trans sG (Ch.of_same kD) | replace sG := Same.trans sG kD | replace sG := stepsAt.same sG kD | replace sG := DpT.same sG kD | replace sG := LOr.same sG kD | replace sG := Ob.same sG kD | replace sG := Gds.same sG kD | replace sG := Gd2.same sG kD | replace sG := Ob2.same sG kD | replace sG := NE.same sG kD | replace sG := NT.same sG kD | replace sG := NEs.same sG kD | replace sG := NX.same sG kD | replace sG := EMs.same sG kD | replace sG := EOs.same sG kD | replace sG := EO.same sG kD | replace sG := GT.same sG kD | replace sG := GTs.same sG kD | replace sG := RB.same sG kD | replace sG := RBs.same sG kD | replace sG := RB2s.same sG kD | replace sG := GR.same sG kD | replace sG := GRs.same sG kD
      clear kD nD sT aT dx fG z1 H3
      repeat' (walk_at "jv")
      refine c_tup (ps.map V.str) (fun D2 i H2 => H4 D2 = none ∧ Same H4 H2 ∧ H2 D2 = some (.lst ((leftS (ps.take i) (freedL ps l)).map V.str))) (fun D2 nD2 => ⟨nD2, Same.upd_new nD2, upd_same⟩) (fun D2 i H2 _ h => TK.same h.2.1 _ _ s2) (fun D2 i x H2 hx h => ?_) (fun D2 H5 h => ?_)
      · obtain ⟨nD2, k2, e2⟩ := h
        have hi : i < ps.length := by
          have := (List.getElem?_eq_some_iff.mp hx).1
          omega
        rw [List.getElem?_map, List.getElem?_eq_getElem hi] at hx
        obtain rfl : V.str ps[i] = x := Option.some.inj hx
        have hg2 := TK.same (K := K) k2 _ _ sG
        have hll : ((leftS (ps.take i) (freedL ps l)).map V.str).length ≤ 8 := by
          rw [List.length_map]
          have := List.length_filter_le (fun z => !decide (z ∈ freedL ps l)) (ps.take i)
          rw [List.length_take] at this
          unfold leftS
          omega
        have el : leftS (ps.take (i + 1)) (freedL ps l) = leftS (ps.take i) (freedL ps l) ++ (if ps[i] ∈ freedL ps l then [] else [ps[i]]) := by
          unfold leftS
          rw [take_push (List.getElem?_eq_getElem hi), List.filter_append]
          congr 1
          by_cases c : ps[i] ∈ freedL ps l
          · rw [if_pos c]
            simp [c]
          · rw [if_neg c]
            simp [c]
        repeat' (walk_at "jv")
        refine i_notInS (SqA.t hg2) ?_
        refine ⟨_, rfl, i_iteB (fun h1 => ?_) (fun h1 => ?_)⟩
        · have h2 : ps[i] ∉ freedL ps l := by simpa using h1
          repeat' (walk_at "jv")
          refine ⟨nD2, fun c oc z => (upd_ne (ne_of_none z nD2)).trans (k2 _ _ z), ?_⟩
          rw [el, if_neg h2, List.map_append]
          exact upd_same
        · have h2 : ps[i] ∈ freedL ps l := by simpa using h1
          refine ⟨nD2, k2, ?_⟩
          rw [el, if_pos h2, List.append_nil]
          exact e2
      obtain ⟨nD2, k2, e2⟩ := h
      rw [hlp, List.take_length] at e2
      first | replace s1 := HF.same s1 k2 | replace s1 := WF.same s1 k2 | replace s1 := FT.same s1 k2 | replace s1 := Fd.same s1 k2 | replace s1 := LsD.same s1 k2 | replace s1 := TK.same k2 _ _ s1 | replace s1 := KeysT.tk s1 (TK.same k2) | replace s1 := KeysU.tk s1 (TK.same k2) | replace s1 := KeysN.tk s1 (TK.same k2) | replace s1 := DayV.tk s1 (TK.same k2) | replace s1 := Dp.same k2 _ _ s1 | replace s1 := DpAll.same k2 _ _ s1 | replace s1 := k2 _ _ s1 | replace s1 := Ch.trans s1 (Ch.of_same k2) | replace s1 := Same.trans s1 k2 | replace s1 := stepsAt.same s1 k2 | replace s1 := DpT.same s1 k2 | replace s1 := LOr.same s1 k2 | replace s1 := Ob.same s1 k2 | replace s1 := Gds.same s1 k2 | replace s1 := Gd2.same s1 k2 | replace s1 := Ob2.same s1 k2 | replace s1 := NE.same s1 k2 | replace s1 := NT.same s1 k2 | replace s1 := NEs.same s1 k2 | replace s1 := NX.same s1 k2 | replace s1 := EMs.same s1 k2 | replace s1 := EOs.same s1 k2 | replace s1 := EO.same s1 k2 | replace s1 := GT.same s1 k2 | replace s1 := GTs.same s1 k2 | replace s1 := RB.same s1 k2 | replace s1 := RBs.same s1 k2 | replace s1 := RB2s.same s1 k2 | replace s1 := GR.same s1 k2 | replace s1 := GRs.same s1 k2
      first | replace s2 := HF.same s2 k2 | replace s2 := WF.same s2 k2 | replace s2 := FT.same s2 k2 | replace s2 := Fd.same s2 k2 | replace s2 := LsD.same s2 k2 | replace s2 := TK.same k2 _ _ s2 | replace s2 := KeysT.tk s2 (TK.same k2) | replace s2 := KeysU.tk s2 (TK.same k2) | replace s2 := KeysN.tk s2 (TK.same k2) | replace s2 := DayV.tk s2 (TK.same k2) | replace s2 := Dp.same k2 _ _ s2 | replace s2 := DpAll.same k2 _ _ s2 | replace s2 := k2 _ _ s2 | replace s2 := Ch.trans s2 (Ch.of_same k2) | replace s2 := Same.trans s2 k2 | replace s2 := stepsAt.same s2 k2 | replace s2 := DpT.same s2 k2 | replace s2 := LOr.same s2 k2 | replace s2 := Ob.same s2 k2 | replace s2 := Gds.same s2 k2 | replace s2 := Gd2.same s2 k2 | replace s2 := Ob2.same s2 k2 | replace s2 := NE.same s2 k2 | replace s2 := NT.same s2 k2 | replace s2 := NEs.same s2 k2 | replace s2 := NX.same s2 k2 | replace s2 := EMs.same s2 k2 | replace s2 := EOs.same s2 k2 | replace s2 := EO.same s2 k2 | replace s2 := GT.same s2 k2 | replace s2 := GTs.same s2 k2 | replace s2 := RB.same s2 k2 | replace s2 := RBs.same s2 k2 | replace s2 := RB2s.same s2 k2 | replace s2 := GR.same s2 k2 | replace s2 := GRs.same s2 k2
      first | replace kk := HF.same kk k2 | replace kk := WF.same kk k2 | replace kk := FT.same kk k2 | replace kk := Fd.same kk k2 | replace kk := LsD.same kk k2 | replace kk := TK.same k2 _ _ kk | replace kk := KeysT.tk kk (TK.same k2) | replace kk := KeysU.tk kk (TK.same k2) | replace kk := KeysN.tk kk (TK.same k2) | replace kk := DayV.tk kk (TK.same k2) | replace kk := Dp.same k2 _ _ kk | replace kk := DpAll.same k2 _ _ kk | replace kk := k2 _ _ kk | replace kk := Ch.trans kk (Ch.of_same k2) | replace kk := Same.trans kk k2 | replace kk := stepsAt.same kk k2 | replace kk := DpT.same kk k2 | replace kk := LOr.same kk k2 | replace kk := Ob.same kk k2 | replace kk := Gds.same kk k2 | replace kk := Gd2.same kk k2 | replace kk := Ob2.same kk k2 | replace kk := NE.same kk k2 | replace kk := NT.same kk k2 | replace kk := NEs.same kk k2 | replace kk := NX.same kk k2 | replace kk := EMs.same kk k2 | replace kk := EOs.same kk k2 | replace kk := EO.same kk k2 | replace kk := GT.same kk k2 | replace kk := GTs.same kk k2 | replace kk := RB.same kk k2 | replace kk := RBs.same kk k2 | replace kk := RB2s.same kk k2 | replace kk := GR.same kk k2 | replace kk := GRs.same kk k2
      first | replace eD := HF.same eD k2 | replace eD := WF.same eD k2 | replace eD := FT.same eD k2 | replace eD := Fd.same eD k2 | replace eD := LsD.same eD k2 | replace eD := TK.same k2 _ _ eD | replace eD := KeysT.tk eD (TK.same k2) | replace eD := KeysU.tk eD (TK.same k2) | replace eD := KeysN.tk eD (TK.same k2) | replace eD := DayV.tk eD (TK.same k2) | replace eD := Dp.same k2 _ _ eD | replace eD := DpAll.same k2 _ _ eD | replace eD := k2 _ _ eD | replace eD := Ch.trans eD (Ch.of_same k2) | replace eD := Same.trans eD k2 | replace eD := stepsAt.same eD k2 | replace eD := DpT.same eD k2 | replace eD := LOr.same eD k2 | replace eD := Ob.same eD k2 | replace eD := Gds.same eD k2 | replace eD := Gd2.same eD k2 | replace eD := Ob2.same eD k2 | replace eD := NE.same eD k2 | replace eD := NT.same eD k2 | replace eD := NEs.same eD k2 | replace eD := NX.same eD k2 | replace eD := EMs.same eD k2 | replace eD := EOs.same eD k2 | replace eD := EO.same eD k2 | replace eD := GT.same eD k2 | replace eD := GTs.same eD k2 | replace eD := RB.same eD k2 | replace eD := RBs.same eD k2 | replace eD := RB2s.same eD k2 | replace eD := GR.same eD k2 | replace eD := GRs.same eD k2
      clear k2 nD2 sG H4
      have elz : leftS ps (freedL ps l) = z0 :: (leftS ps (freedL ps l)).tail := by
        cases c : leftS ps (freedL ps l) with
        | nil => rw [c] at zl; cases zl
        | cons y r =>
          rw [c] at zl
          rw [Option.some.inj zl]
          rfl
      rw [elz, List.map_cons] at e2
      have sN : strtN ps (freedL ps l) < ps.length := (List.getElem?_eq_some_iff.mp zp).1
      have hs : ∃ z, ps[strtN ps (freedL ps l)]? = some z ∧ z ∉ freedL ps l := ⟨z0, zp, zg⟩
      have hlt := nxt_lt L h0
      have nlen0 : (nxtL ps l (freedL ps l)).length = ps.length := nxt_len
      have nz0 : nameN ps (strtN ps (freedL ps l)) = z0 := name_n zp
      repeat' (walk_at "jv")
      intro Wy nWy
      have nWy0 : H Wy = none := free_same kk nWy
      have dDW : D ≠ Wy := ne_of_none eD nWy
      have kW0 : Ch Wy H5 (upd H5 Wy (.lst [.str z0])) := Ch.upd_new nWy
      have eW0 : (upd H5 Wy (.lst [.str z0])) Wy = some (.lst (((wayL (nxtL ps l (freedL ps l)) (strtN ps (freedL ps l)) 1).map (nameN ps)).map V.str)) := by
        rw [upd_same]
        show some (HO.lst [V.str z0]) = some (HO.lst [V.str (nameN ps (strtN ps (freedL ps l)))])
        rw [nz0]
      generalize upd H5 Wy (.lst [.str z0]) = H6 at *
      have ah := nxt_ahd L hs
      have inj := fun {a b} => nxt_inj (a := a) (b := b) L W.names.1 hs
      have nmm := nxt_nm L hs
      have rnd := fun {m b} => round_is (ps := ps) (l := l) (m := m) (b := b)
      generalize nxtL ps l (freedL ps l) = nx at *
      generalize strtN ps (freedL ps l) = st at *
      have nlen : nx.length = ps.length := by assumption
      clear zl zp zg zh elz nz0 e2 nWy s1 s2 L hs
      repeat' (walk_at "jv")
      refine f_while ps.length (fun i σ H' => σ = [some (.ref t), some (.ref p), some (.ref G), some (.ref D), some (.ref Wy), none, none, none] ∧ Ch Wy H5 H' ∧ H' Wy = some (.lst (((wayL nx st (i + 1)).map (nameN ps)).map V.str)) ∧ ∀ a b, a < b → b < i + 1 → itF nx st a ≠ itF nx st b) ⟨rfl, kW0, eW0, fun a b h1 h2 => by omega⟩ (fun i σ H7 hi h => ?_)
      obtain ⟨rfl, kW, eW, un⟩ := h
      have eDk := kW _ _ dDW eD
      have hv1 : valV kvs (Sum.inr (nameN ps (itF nx st i))) = some (.str (nameN ps (itF nx st (i + 1)))) := by
        rw [hv, ah]
        rfl
      have hwl : (((wayL nx st (i + 1)).map (nameN ps)).map V.str).length = i + 1 := by rw [List.length_map, List.length_map, wayL_len]
      have hat : atI (((wayL nx st (i + 1)).map (nameN ps)).map V.str) (-1) = some (.str (nameN ps (itF nx st i))) := at_end (i := i) hwl (by rw [List.getElem?_map, way_name_at _ (by omega)]; rfl)
      refine i_dg ?_
      repeat' (walk_at "jv")
      refine i_dget eDk hv1 ?_
      repeat' (walk_at "jv")
      refine i_notInS (SqA.l (sq_lst eW)) ?_
      refine ⟨_, rfl, i_iteB (fun h1 => ?_) (fun h1 => ?_)⟩
      · have h2 : nameN ps (itF nx st (i + 1)) ∉ (wayL nx st (i + 1)).map (nameN ps) := by simpa using h1
        have un2 : ∀ a b, a < b → b < i + 1 + 1 → itF nx st a ≠ itF nx st b := fun a b h3 h4 e => by
          rcases Nat.lt_or_eq_of_le (Nat.le_of_lt_succ h4) with c | c
          · exact un a b h3 c e
          · subst c
            exact h2 (way_mem.mpr ⟨a, h3, by rw [e]⟩)
        have hi2 := walk_few hlt nlen sN un2
        refine w_turn (by omega) ?_
        repeat' (walk_at "jv")
        refine i_dg ?_
        repeat' (walk_at "jv")
        refine i_dget eDk hv1 ?_
        clear hwl
        repeat' (walk_at "jv")
        refine i_app eW (by rw [List.length_map, List.length_map, wayL_len, sizeLine_eq]; omega) ⟨rfl, kW.trans Ch.upd_self, ?_, un2⟩
        rw [upd_same]
        exact congrArg (fun x => some (HO.lst x)) (way_name (m := i + 1) (nameN ps)).symm
      · have h2 : nameN ps (itF nx st (i + 1)) ∈ (wayL nx st (i + 1)).map (nameN ps) := by simpa using h1
        obtain ⟨j, hj, ej⟩ := way_mem.mp h2
        have w : Wk nx st (i + 1) j := ⟨hj, un, (inj ej).symm⟩
        have unN : ∀ a b, a < b → b < i + 1 → nameN ps (itF nx st a) ≠ nameN ps (itF nx st b) := fun a b h3 h4 e => un a b h3 h4 (inj e)
        have k07 : Same H H7 := fun c oc z => kW _ _ (ne_of_none z nWy0) (kk _ _ z)
        repeat' (walk_at "jv")
        refine i_revL ?_
        repeat' (walk_at "jv")
        refine i_dg ?_
        repeat' (walk_at "jv")
        refine i_dget eDk hv1 ?_
        repeat' (walk_at "jv")
        refine i_indexT (sq_lst eW) (fun z hz => ?_) h2 ?_
        · obtain ⟨c, _, rfl⟩ := way_mem.mp hz
          exact W.names.2 _ (nmm c)
        rw [← ej, way_idx unN hj]
        repeat' (walk_at "jv")
        intro L1 n1
        rw [cut_from, ← List.map_drop, way_behind]
        have k1 := Same.upd_new (o := .lst (((wayL nx (itF nx st j) (i + 1 - j)).map (nameN ps)).map V.str)) n1
        refine ⟨L1, _, rfl, sq_lst upd_same, fun L2 n2 => ?_⟩
        have k2 := k07.trans (k1.trans (Same.upd_new (o := .lst (((wayL nx (itF nx st j) (i + 1 - j)).map (nameN ps)).map V.str).reverse) n2))
        repeat' (walk_at "jv")
        refine ⟨L2, _, rfl, sq_lst upd_same, fun T ob nT ho => ?_⟩
        have er := rnd w
        refine z2 hne T _ (k2.trans (Same.upd_new nT)) ?_
        rw [er, List.map_reverse]
        exact FT.new ho
end
end
section
open L2 PySem PySem.Spec PyProof.Rows
abbrev s_arrow_ring_holds : Stmt := topS 27
theorem sc_arrow_ring_holds : FnScope ["web", "arrows", "thing", "pair"] ["web", "arrows", "thing"] (defScope s_arrow_ring_holds) := ⟨rfl, rfl, rfl, by decide +kernel, rfl, by decide +kernel, by decide +kernel⟩
def holdsB (l : List (Str × Str)) (d : PyData) : Bool := rngD d && match d with
  | .tuple ds => (pairsR (ds.map strD)).all fun p => decide (p ∈ l)
  | _ => false
def RgA (d : PyData) : Prop := ∀ ds, d = .tuple ds → ds.length ≤ 50 ∧ ∀ z, PyData.str z ∈ ds → PyData.strOk z = true
theorem road_layS {r : Str × Str} (h1 : PyData.strOk r.1 = true) (h2 : PyData.strOk r.2 = true) : (roadD r).canLay0 = true := by
  show (PyData.strOk r.1 && (PyData.strOk r.2 && true)) = true
  rw [h1, h2]
  rfl
theorem holds_strs {l : List (Str × Str)} {d : PyData} (h : rngD d = true) : ∃ r : List Str, d = .tuple (r.map PyData.str) ∧ 3 ≤ r.length ∧ r.Nodup ∧ holdsB l d = (pairsR r).all fun p => decide (p ∈ l) := by
  cases d with
  | tuple ds =>
    have h' : (decide (3 ≤ ds.length) && (ds.all isS && decide ((ds.map strD).Nodup))) = true := h
    rw [Bool.and_eq_true, Bool.and_eq_true, decide_eq_true_iff, decide_eq_true_iff] at h'
    have ez := all_strs h'.2.1
    refine ⟨ds.map strD, by rw [← ez], by rw [List.length_map]; exact h'.1, h'.2.2, ?_⟩
    show (rngD (.tuple ds) && _) = _
    rw [h, Bool.true_and]
  | _ => cases h
theorem rows_lay : ∀ {l : List (Str × Str)}, (∀ r ∈ l, nmOk r.1 = true ∧ nmOk r.2 = true) → PyData.canLayAll0 (l.map roadD) = true
  | [], _ => rfl
  | x :: r, h => by
    show ((roadD x).canLay0 && PyData.canLayAll0 (r.map roadD)) = true
    have hx := h x List.mem_cons_self
    rw [rows_lay fun z hz => h z (List.mem_cons_of_mem _ hz), road_lay hx.1 hx.2]
    rfl
theorem arrL_names {ps : List Str} {rs l : List (Str × Str)} (W : IsWeb ps rs) (A : ArrL rs l) : ∀ r ∈ l, nmOk r.1 = true ∧ nmOk r.2 = true := fun r hr => by
  obtain ⟨i, hi, er⟩ := List.getElem_of_mem hr
  have hi' : i < rs.length := by have := A.1; omega
  obtain ⟨e1, e2, _⟩ := W.ends rs[i] (List.getElem_mem hi')
  have h1 := W.names.2 _ e1
  have h2 := W.names.2 _ e2
  have h3 := A.2 i hi'
  rw [List.getD_eq_getElem?_getD, List.getD_eq_getElem?_getD, List.getElem?_eq_getElem hi, List.getElem?_eq_getElem hi', Option.getD_some, Option.getD_some, er] at h3
  rcases h3 with e | e
  · rw [e]
    exact ⟨h1, h2⟩
  · rw [e]
    exact ⟨h2, h1⟩
def spHolds (K : PySem.W.Frag) (CA : Addr) : Sp := fun vs H Q E => ∃ (a : Addr) (v x y : V) (d dy : PyData) (ps : List Str) (rs : List (Str × Str)), vs = [v, x, y] ∧ Dp K H v (webD ps rs) ∧ IsWeb ps rs ∧ Ob K H a x d ∧ Ob K H a y dy ∧ RgA dy ∧
  (∀ ds, d = .tuple ds → ds.length ≤ 1000 ∧ ∀ e ∈ ds, ∀ es, e = .tuple es → es.length ≤ 1000 ∧ ∀ z, PyData.str z ∈ es → PyData.strOk z = true) ∧
  (arrOk d rs = false → ∀ H', Same H H' → E (.ref CA) none H') ∧ ∀ l : List (Str × Str), d = rsD l → ArrL rs l → arrOk d rs = true → ∀ H', Same H H' → Q (.bl (holdsB l dy)) H'
section
variable {base : Heap} {P : Program} {w : World} {K : PySem.W.Frag} {mg : Str → Option Value}
theorem ok_arrow_ring_holds {CA : Addr} (D : Dn K mg "arrow_ring_holds" s_arrow_ring_holds ["web", "arrows", "thing"]) (B : Bn mg) (C_need_web : Cl P w K mg base 5 "need_web" ["web"] (spNeedWeb K)) (CX__need_arrows : ClX P w K mg base 2 "_need_arrows" ["web", "told"] (spNeedArrows K CA)) (C_could_be_ring : Cl P w K mg base 1 "could_be_ring" ["thing"] (spCouldR K)) (C_next_pairs : Cl P w K mg base 1 "next_pairs" ["ring"] (spNextP K)) : ClX P w K mg base 6 "arrow_ring_holds" ["web", "arrows", "thing"] (spHolds K CA) := by
  refine D.clX sc_arrow_ring_holds (fun vs H Q E h => ?_) (fun f cdv A outer s H vs Q E hr h => ?_)
  · obtain ⟨a, v, x, y, d, dy, ps, rs, rfl, _⟩ := h
    rfl
  · obtain ⟨a, v, x, y, d, dy, ps, rs, rfl, dw, W, ox, oy, hy, hd, qe, qv⟩ := h
    refine ⟨_, (pss_cons (ps_expr (pe_c C_need_web hr (pa_cons (pv 0) pa_nil)))
      (pss_cons (ps_expr (pe_cX CX__need_arrows tk_out hr (pa_cons (pv 0) (pa_cons (pv 1) pa_nil))))
      (pss_one (ps_ret (pe_and (pe_c C_could_be_ring hr (pa_cons (pv 2) pa_nil)) (pe_one (pe_callB (k_all (K := K) rfl) rfl B.all_ (by decide +kernel) (pa_cons (pe_lc (own := [("pair", 3)]) rfl sc_arrow_ring_holds.nd (kpi_list (K := K) (pe_c C_next_pairs hr (pa_cons (pv 2) pa_nil))) (blkOk_by (N := ["web", "arrows", "thing", "pair"]) (sc := defScope s_arrow_ring_holds) (by decide +kernel)) (fun _ _ _ _ _ => (pg_name (i := 3) sc_arrow_ring_holds.nd rfl (by first | exact Or.inl rfl | exact Or.inr rfl))) (fun _ _ _ _ _ => pts_nil) (fun _ _ _ _ _ => (pe_cmpR (k_inQ (K := K) hr.units) (pv 3) (pv 1) (by rfl)))) pa_nil)))))))), ?_⟩
    repeat' (walk_at "jv")
    refine ⟨v, ps, rs, rfl, dw, W, fun H1 k1 => ?_⟩
    repeat' (walk_at "jv")
    refine i_cS ?_
    repeat' (walk_at "jv")
    refine ⟨a, v, x, d, ps, rs, rfl, Dp.same k1 _ _ dw, W, ox.same k1, hd, fun H2 k2 => ⟨fun ok => ?_, fun no => qe no H2 (k1.trans k2)⟩⟩
    have k12 := k1.trans k2
    obtain ⟨l, rfl, ll, hl⟩ := arr_all ok
    obtain ⟨p, rfl, dx⟩ := ob_roads ox
    have h14 := W.le14
    replace qv := qv l rfl ⟨ll, hl⟩ ok
    replace dx := Dp.same k12 _ _ dx
    replace oy := oy.same k12
    clear k1 k2 ox hd qe ok
    repeat' (walk_at "jv")
    refine ⟨a, y, dy, rfl, oy, fun ds e => (hy ds e).1, fun H3 k3 => ?_⟩
    refine ⟨_, rfl, ?_⟩
    cases c : rngD dy with
    | false =>
      have e : holdsB l dy = false := by
        unfold holdsB
        rw [c]
        rfl
      rw [e] at qv
      repeat' (walk_at "jv")
      exact qv H3 (k12.trans k3)
    | true =>
      obtain ⟨r, rfl, h3, nl, er⟩ := holds_strs (l := l) c
      rw [er] at qv
      obtain ⟨hl50, hok⟩ := hy _ rfl
      rw [List.length_map] at hl50
      have lay := rows_lay (arrL_names W ⟨ll, hl⟩)
      cases oy with
      | @tup p2 xs _ sx al =>
      obtain rfl := obs_strsR al
      replace dx := Dp.same k3 _ _ dx
      replace sx := TK.same (K := K) k3 _ _ sx
      repeat' (walk_at "jv")
      refine ⟨p2, r, rfl, sx, by omega, hl50, fun q2 as H4 k4 nq eq hal hp => ?_⟩
      have hal2 : (as.map V.ref).length = r.length := by rw [List.length_map, hal]
      have hpl := pairs_len r
      replace dx := Dp.same k4 _ _ dx
      repeat' (walk_at "jv")
      refine c_list (as.map V.ref) (fun D i H' => H4 D = none ∧ Same H4 H' ∧ H' D = some (.lst ((((pairsR r).take i).map fun p => decide (p ∈ l)).map V.bl))) (fun D nD => ⟨nD, Same.upd_new nD, upd_same⟩) (fun D i H' _ h => sq_lst (h.2.1 _ _ eq)) (fun D i y H' hy h => ?_) (fun D H' h => ?_)
      · obtain ⟨nD, kD, eD⟩ := h
        rw [List.getElem?_map] at hy
        cases hb : as[i]? with
        | none => rw [hb] at hy; cases hy
        | some b =>
          rw [hb] at hy
          obtain rfl := Option.some.inj hy
          obtain ⟨p3, hp3, eb⟩ := hp i b hb
          obtain ⟨m1, m2⟩ := pairsR_mem (List.mem_of_getElem? hp3)
          have hi : i < (pairsR r).length := (List.getElem?_eq_some_iff.mp hp3).1
          have hr1 := hok _ (List.mem_map_of_mem m1)
          have hr2 := hok _ (List.mem_map_of_mem m2)
          have dx' := Dp.same kD _ _ dx
          have eb' := kD _ _ eb
          repeat' (walk_at "jv")
          refine ⟨roadD p3, l.map roadD, .tup (xs := [.str p3.1, .str p3.2]) (sq_tup eb') (.cons (.str _) (.cons (.str _) .nil)), .inr dx', road_layS hr1 hr2, lay, by show 0 + 1 ≤ 60; decide, ?_⟩
          rw [if_neg (by decide), roads_any]
          refine i_lcE eD (by rw [List.length_map, List.length_map, List.length_take, sizeLine_eq]; omega) ⟨nD, fun c oc z => (upd_ne (ne_of_none z nD)).trans (kD _ _ z), ?_⟩
          rw [take_push hp3, List.map_append, List.map_append]
          exact upd_same
      · obtain ⟨nD, kD, eD⟩ := h
        rw [hal2, ← hpl, List.take_length] at eD
        have ea : ((pairsR r).map fun p => decide (p ∈ l)).all id = (pairsR r).all fun p => decide (p ∈ l) := by rw [List.all_map]; rfl
        repeat' (walk_at "jv")
        rw [ea]
        exact qv H' (((k12.trans k3).trans k4).trans kD)
end
end
section
open L2 PySem PySem.Spec PyProof.Rows
section
variable {base : Heap} {P : Program} {w : World} {K : PySem.W.Frag} {mg : Str → Option Value}
theorem ok_arrow_ringK {CA : Addr} (D : DkX K mg "arrow_ring" s_arrow_ring ["web", "arrows"] ["arrows", "web"] g2) (B : Bn mg) (C_need_web : Cl P w K mg base 5 "need_web" ["web"] (spNeedWeb K)) (CX__need_arrows : ClX P w K mg base 2 "_need_arrows" ["web", "told"] (spNeedArrows K CA)) (C_freed : Cl P w K mg base 2 "freed" ["web", "told"] (spFreed K)) : ClKX P w K mg base 6 "arrow_ring" ["web", "arrows"] ["arrows", "web"] (spArrowRing K CA) g2 := by
  refine D.cl sc_arrow_ring (fun vs H Q E h => ?_) (fun f cdv A outer s H vs Q E hr h => ?_)
  · obtain ⟨a, v, x, d, ps, rs, rfl, _⟩ := h
    rfl
  · obtain ⟨a, v, x, d, ps, rs, rfl, dw, W, ox, hd, qe, qv⟩ := h
    refine ⟨_, (pss_cons (ps_expr (pe_c C_need_web hr (pa_cons (pv 0) pa_nil)))
      (pss_cons (ps_expr (pe_cX CX__need_arrows tk_out hr (pa_cons (pv 0) (pa_cons (pv 1) pa_nil))))
      (pss_cons (ps_set (i := 2) sc_arrow_ring.nd rfl (by first | exact Or.inl rfl | exact Or.inr rfl) (pe_c C_freed hr (pa_cons (pv 0) (pa_cons (pv 1) pa_nil))))
      (pss_cons (ps_if (pt_cmpR op_eq (pe_callB (k_len (K := K)) rfl B.len_ (by decide +kernel) (pa_cons (pv 2) pa_nil)) (pe_callB (k_len (K := K)) rfl B.len_ (by decide +kernel) (pa_cons (pe_ix (k_ixT (K := K)) (pv 0) pe_int (fun _ _ => rfl)) pa_nil)) (nomark _)) (pss_one (ps_ret pe_non)) pss_nil)
      (pss_cons (ps_setDc (i := 3) (own := [("one", 5), ("other", 6)]) rfl sc_arrow_ring.nd rfl rfl (sw_dict rfl rfl rfl (by decide +kernel)) (kpi_tup (K := K) (pv 1)) (blkOk_by (N := ["web", "arrows", "gone", "ahead", "way", "one", "other", "place"]) (sc := defScope s_arrow_ring) (by decide +kernel)) (fun _ _ _ _ _ => (kpg_tup (K := K) (n := 2) rfl (pgs_cons (pg_name (i := 5) sc_arrow_ring.nd rfl (by first | exact Or.inl rfl | exact Or.inr rfl)) (pgs_cons (pg_name (i := 6) sc_arrow_ring.nd rfl (by first | exact Or.inl rfl | exact Or.inr rfl)) pgs_nil)))) (fun _ _ _ _ _ => pts_one (pt_cmpR (k_notInS (K := K)) (pv 5) (pv 2) (by rfl))) (fun _ _ _ _ _ => (pv 6)) (fun _ _ _ _ _ => (pv 5)))
      (pss_cons (ps_set (i := 4) sc_arrow_ring.nd rfl (by first | exact Or.inl rfl | exact Or.inr rfl) (pe_lst (pa_cons (pe_ix (k_ixL (K := K)) (pe_lc (own := [("place", 7)]) rfl sc_arrow_ring.nd (kpi_tup (K := K) (pe_ix (k_ixT (K := K)) (pv 0) pe_int (fun _ _ => rfl))) (blkOk_by (N := ["web", "arrows", "gone", "ahead", "way", "one", "other", "place"]) (sc := defScope s_arrow_ring) (by decide +kernel)) (fun _ _ _ _ _ => (pg_name (i := 7) sc_arrow_ring.nd rfl (by first | exact Or.inl rfl | exact Or.inr rfl))) (fun _ _ _ _ _ => pts_one (pt_cmpR (k_notInS (K := K)) (pv 7) (pv 2) (by rfl))) (fun _ _ _ _ _ => (pv 7))) pe_int (fun _ _ => rfl)) pa_nil)))
      (pss_cons (ps_while (passes_of rfl) (pt_cmpR (k_notInS (K := K)) (pe_dget (hu1 hr) (pv 3) (pe_ix (k_ixL (K := K)) (pv 4) (pe_un un_neg pe_int) (fun _ _ => rfl)) (fun _ _ => rfl)) (pv 4) (by rfl)) (pss_one (ps_expr (pe_bm PySem.F.plainAttrs_list PySem.F.slot_list_append PySem.F.type_list_append mt_append (pv 4) (pa_cons (pe_dget (hu1 hr) (pv 3) (pe_ix (k_ixL (K := K)) (pv 4) (pe_un un_neg pe_int) (fun _ _ => rfl)) (fun _ _ => rfl)) pa_nil)))))
      (pss_one (ps_ret (pe_callTy (k_tupleF (K := K)) rfl B.tuple_ (by decide +kernel) (pa_cons (k_revL (K := K) (pe_slice (k_slL (K := K)) (pv 4) (po_some (k_bm (K := K) PySem.F.plainAttrs_list PySem.F.slot_list_index PySem.F.type_list_index (k_indexD (K := K) (hu65 hr)) (pv 4) (pa_cons (pe_dget (hu1 hr) (pv 3) (pe_ix (k_ixL (K := K)) (pv 4) (pe_un un_neg pe_int) (fun _ _ => rfl)) (fun _ _ => rfl)) pa_nil))) po_none)) pa_nil))))))))))), ?_⟩
    repeat' (walk_at "jv")
    refine ⟨v, ps, rs, rfl, dw, W, fun H1 k1 => ?_⟩
    repeat' (walk_at "jv")
    refine i_cS ?_
    repeat' (walk_at "jv")
    refine ⟨a, v, x, d, ps, rs, rfl, Dp.same k1 _ _ dw, W, ox.same k1, hd, fun H2 k2 => ⟨fun ok => ?_, fun no => qe no H2 (k1.trans k2)⟩⟩
    have k12 := k1.trans k2
    obtain ⟨l, rfl, ll, hl⟩ := arr_all ok
    obtain ⟨p, rfl, dx⟩ := ob_roads ox
    have h14 := W.le14
    have h8 := W.le8
    have h0 := W.pos
    obtain ⟨z1, z2⟩ := qv l rfl ⟨ll, hl⟩ ok
    replace dw := Dp.same k12 _ _ dw
    replace dx := Dp.same k12 _ _ dx
    clear k1 k2 ox hd qe qv ok
    repeat' (walk_at "jv")
    refine ⟨v, p, l, ps, rs, rfl, dw, W, dx, by omega, fun G H3 k3 fG => ?_⟩
    replace dw := Dp.same k3 _ _ dw
    replace dx := Dp.same k3 _ _ dx
    have kk := k12.trans k3
    clear k12 k3 H2 H1
    obtain ⟨t, tp, tr, xs, rfl, s1, s2, s3, d3, dr, dpl⟩ := web_parts dw
    clear d3 dr dpl s3 dw
    obtain ⟨p', us, ep, sT, aT⟩ := tup_parts dx
    obtain rfl : p = p' := by injection ep
    have sG := fG.sq (K := K)
    have hul : us.length = l.length := by rw [DpAll.len aT, List.length_map]
    have hlp : (ps.map V.str).length = ps.length := List.length_map ..
    have hlg : ((freedL ps l).map V.str).length = (freedL ps l).length := List.length_map ..
    repeat' (walk_at "jv")
    · exact z1 (by omega) H3 kk
    · have hne : (freedL ps l).length ≠ ps.length := by omega
      have L := left_of W ⟨ll, hl⟩ hne
      obtain ⟨z0, zl, zp, zg, zh⟩ := strt_is (left_ne hne W.names.1)
      refine i_dc ?_
      repeat' (walk_at "jv")
      refine d_tup us (fun D i H' => H3 D = none ∧ Same H3 H' ∧ ∃ kvs, H' D = some (.dK kvs) ∧ kvs.length ≤ i ∧ ∀ z : Str, valV kvs (Sum.inr z) = (ahd (l.take i) (freedL ps l) z).map V.str) (fun D nD => ⟨nD, Same.upd_new nD, [], upd_same, Nat.le_refl _, fun z => by rw [List.take_zero]; rfl⟩) (fun D i H' _ h => TK.same h.2.1 _ _ sT) (fun D i x H' hx h => ?_) (fun D H4 h => ?_)
      · obtain ⟨nD, kD, kvs, eD, hk, hv⟩ := h
        obtain ⟨r, b, hr2, rfl, sb⟩ := road_get (DpAll.same kD _ _ aT) hx
        have hi : i < l.length := (List.getElem?_eq_some_iff.mp hr2).1
        have hg' := TK.same (K := K) kD _ _ sG
        have et : ∀ z, ahd (l.take (i + 1)) (freedL ps l) z = if r.1 ∉ freedL ps l ∧ r.2 = z then some r.1 else ahd (l.take i) (freedL ps l) z := fun z => by
          rw [take_push hr2, ahd_snoc]
        refine i_gtup sb rfl ?_
        repeat' (walk_at "jv")
        refine i_notInS (SqA.t hg') ?_
        refine ⟨_, rfl, i_iteB (fun h1 => ?_) (fun h1 => ?_)⟩
        · have h2 : r.1 ∉ freedL ps l := by simpa using h1
          repeat' (walk_at "jv")
          refine ⟨kvs, Sum.inr r.2, rfl, eD, by rw [sizeLine_eq]; omega, nD, fun c oc z => ?_, _, upd_same, Nat.le_trans (length_putK _ _ _) (by omega), fun z => ?_⟩
          · rw [upd_ne (ne_of_none z nD)]
            exact kD _ _ z
          · rw [valV_put, et z]
            by_cases c : r.2 = z
            · subst c
              rw [if_pos rfl, if_pos ⟨h2, rfl⟩]
              rfl
            · rw [if_neg (fun e => c (by injection e with e; exact e.symm)), if_neg (fun h => c h.2), hv z]
        · have h2 : r.1 ∈ freedL ps l := by simpa using h1
          refine ⟨nD, kD, kvs, eD, by omega, fun z => ?_⟩
          rw [hv z, et z, if_neg (fun h => h.1 h2)]
      obtain ⟨nD, kD, kvs, eD, hk, hv⟩ := h
      rw [hul, List.take_length] at hv
      first | replace s1 := HF.same s1 kD | replace s1 := WF.same s1 kD | replace s1 := FT.same s1 kD | replace s1 := Fd.same s1 kD | replace s1 := LsD.same s1 kD | replace s1 := TK.same kD _ _ s1 | replace s1 := KeysT.tk s1 (TK.same kD) | replace s1 := KeysU.tk s1 (TK.same kD) | replace s1 := KeysN.tk s1 (TK.same kD) | replace s1 := DayV.tk s1 (TK.same kD) | replace s1 := Dp.same kD _ _ s1 | replace s1 := DpAll.same kD _ _ s1 | replace s1 := kD _ _ s1 | replace s1 := Ch.trans s1 (Ch.of_same kD) | replace s1 := Same.trans s1 kD | replace s1 := stepsAt.same s1 kD | replace s1 := DpT.same s1 kD | replace s1 := LOr.same s1 kD | replace s1 := Ob.same s1 kD | replace s1 := Gds.same s1 kD | replace s1 := Gd2.same s1 kD | replace s1 := Ob2.same s1 kD | replace s1 := NE.same s1 kD | replace s1 := NT.same s1 kD | replace s1 := NEs.same s1 kD | replace s1 := NX.same s1 kD | replace s1 := EMs.same s1 kD | replace s1 := EOs.same s1 kD | replace s1 := EO.same s1 kD | replace s1 := GT.same s1 kD | replace s1 := GTs.same s1 kD | replace s1 := RB.same s1 kD | replace s1 := RBs.same s1 kD | replace s1 := RB2s.same s1 kD | replace s1 := GR.same s1 kD | replace s1 := GRs.same s1 kD
      first | replace s2 := HF.same s2 kD | replace s2 := WF.same s2 kD | replace s2 := FT.same s2 kD | replace s2 := Fd.same s2 kD | replace s2 := LsD.same s2 kD | replace s2 := TK.same kD _ _ s2 | replace s2 := KeysT.tk s2 (TK.same kD) | replace s2 := KeysU.tk s2 (TK.same kD) | replace s2 := KeysN.tk s2 (TK.same kD) | replace s2 := DayV.tk s2 (TK.same kD) | replace s2 := Dp.same kD _ _ s2 | replace s2 := DpAll.same kD _ _ s2 | replace s2 := kD _ _ s2 | replace s2 := Ch.trans s2 (Ch.of_same kD) | replace s2 := Same.trans s2 kD | replace s2 := stepsAt.same s2 kD | replace s2 := DpT.same s2 kD | replace s2 := LOr.same s2 kD | replace s2 := Ob.same s2 kD | replace s2 := Gds.same s2 kD | replace s2 := Gd2.same s2 kD | replace s2 := Ob2.same s2 kD | replace s2 := NE.same s2 kD | replace s2 := NT.same s2 kD | replace s2 := NEs.same s2 kD | replace s2 := NX.same s2 kD | replace s2 := EMs.same s2 kD | replace s2 := EOs.same s2 kD | replace s2 := EO.same s2 kD | replace s2 := GT.same s2 kD | replace s2 := GTs.same s2 kD | replace s2 := RB.same s2 kD | replace s2 := RBs.same s2 kD | replace s2 := RB2s.same s2 kD | replace s2 := GR.same s2 kD | replace s2 := GRs.same s2 kD
      first | replace kk := HF.same kk kD | replace kk := WF.same kk kD | replace kk := FT.same kk kD | replace kk := Fd.same kk kD | replace kk := LsD.same kk kD | replace kk := TK.same kD _ _ kk | replace kk := KeysT.tk kk (TK.same kD) | replace kk := KeysU.tk kk (TK.same kD) | replace kk := KeysN.tk kk (TK.same kD) | replace kk := DayV.tk kk (TK.same kD) | replace kk := Dp.same kD _ _ kk | replace kk := DpAll.same kD _ _ kk | replace kk := kD _ _ kk | replace kk := Ch.trans kk (Ch.of_same kD) | replace kk := Same.trans kk kD | replace kk := stepsAt.same kk kD | replace kk := DpT.same kk kD | replace kk := LOr.same kk kD | replace kk := Ob.same kk kD | replace kk := Gds.same kk kD | replace kk := Gd2.same kk kD | replace kk := Ob2.same kk kD | replace kk := NE.same kk kD | replace kk := NT.same kk kD | replace kk := NEs.same kk kD | replace kk := NX.same kk kD | replace kk := EMs.same kk kD | replace kk := EOs.same kk kD | replace kk := EO.same kk kD | replace kk := GT.same kk kD | replace kk := GTs.same kk kD | replace kk := RB.same kk kD | replace kk := RBs.same kk kD | replace kk := RB2s.same kk kD | replace kk := GR.same kk kD | replace kk := GRs.same kk kD
      first | replace sG := HF.same sG kD | replace sG := WF.same sG kD | replace sG := FT.same sG kD | replace sG := Fd.same sG kD | replace sG := LsD.same sG kD | replace sG := TK.same kD _ _ sG | replace sG := KeysT.tk sG (TK.same kD) | replace sG := KeysU.tk sG (TK.same kD) | replace sG := KeysN.tk sG (TK.same kD) | replace sG := DayV.tk sG (TK.same kD) | replace sG := Dp.same kD _ _ sG | replace sG := DpAll.same kD _ _ sG | replace sG := kD _ _ sG | replace sG := Ch.trans sG (Ch.of_same kD) | replace sG := Same.trans sG kD | replace sG := stepsAt.same sG kD | replace sG := DpT.same sG kD | replace sG := LOr.same sG kD | replace sG := Ob.same sG kD | replace sG := Gds.same sG kD | replace sG := Gd2.same sG kD | replace sG := Ob2.same sG kD | replace sG := NE.same sG kD | replace sG := NT.same sG kD | replace sG := NEs.same sG kD | replace sG := NX.same sG kD | replace sG := EMs.same sG kD | replace sG := EOs.same sG kD | replace sG := EO.same sG kD | replace sG := GT.same sG kD | replace sG := GTs.same sG kD | replace sG := RB.same sG kD | replace sG := RBs.same sG kD | replace sG := RB2s.same sG kD | replace sG := GR.same sG kD | replace sG := GRs.same sG kD
      clear kD nD sT aT dx fG z1 H3
      repeat' (walk_at "jv")
      refine c_tup (ps.map V.str) (fun D2 i H2 => H4 D2 = none ∧ Same H4 H2 ∧ H2 D2 = some (.lst ((leftS (ps.take i) (freedL ps l)).map V.str))) (fun D2 nD2 => ⟨nD2, Same.upd_new nD2, upd_same⟩) (fun D2 i H2 _ h => TK.same h.2.1 _ _ s2) (fun D2 i x H2 hx h => ?_) (fun D2 H5 h => ?_)
      · obtain ⟨nD2, k2, e2⟩ := h
        have hi : i < ps.length := by
          have := (List.getElem?_eq_some_iff.mp hx).1
          omega
        rw [List.getElem?_map, List.getElem?_eq_getElem hi] at hx
        obtain rfl : V.str ps[i] = x := Option.some.inj hx
        have hg2 := TK.same (K := K) k2 _ _ sG
        have hll : ((leftS (ps.take i) (freedL ps l)).map V.str).length ≤ 8 := by
          rw [List.length_map]
          have := List.length_filter_le (fun z => !decide (z ∈ freedL ps l)) (ps.take i)
          rw [List.length_take] at this
          unfold leftS
          omega
        have el : leftS (ps.take (i + 1)) (freedL ps l) = leftS (ps.take i) (freedL ps l) ++ (if ps[i] ∈ freedL ps l then [] else [ps[i]]) := by
          unfold leftS
          rw [take_push (List.getElem?_eq_getElem hi), List.filter_append]
          congr 1
          by_cases c : ps[i] ∈ freedL ps l
          · rw [if_pos c]
            simp [c]
          · rw [if_neg c]
            simp [c]
        repeat' (walk_at "jv")
        refine i_notInS (SqA.t hg2) ?_
        refine ⟨_, rfl, i_iteB (fun h1 => ?_) (fun h1 => ?_)⟩
        · have h2 : ps[i] ∉ freedL ps l := by simpa using h1
          repeat' (walk_at "jv")
          refine ⟨nD2, fun c oc z => (upd_ne (ne_of_none z nD2)).trans (k2 _ _ z), ?_⟩
          rw [el, if_neg h2, List.map_append]
          exact upd_same
        · have h2 : ps[i] ∈ freedL ps l := by simpa using h1
          refine ⟨nD2, k2, ?_⟩
          rw [el, if_pos h2, List.append_nil]
          exact e2
      obtain ⟨nD2, k2, e2⟩ := h
      rw [hlp, List.take_length] at e2
      first | replace s1 := HF.same s1 k2 | replace s1 := WF.same s1 k2 | replace s1 := FT.same s1 k2 | replace s1 := Fd.same s1 k2 | replace s1 := LsD.same s1 k2 | replace s1 := TK.same k2 _ _ s1 | replace s1 := KeysT.tk s1 (TK.same k2) | replace s1 := KeysU.tk s1 (TK.same k2) | replace s1 := KeysN.tk s1 (TK.same k2) | replace s1 := DayV.tk s1 (TK.same k2) | replace s1 := Dp.same k2 _ _ s1 | replace s1 := DpAll.same k2 _ _ s1 | replace s1 := k2 _ _ s1 | replace s1 := Ch.trans s1 (Ch.of_same k2) | replace s1 := Same.trans s1 k2 | replace s1 := stepsAt.same s1 k2 | replace s1 := DpT.same s1 k2 | replace s1 := LOr.same s1 k2 | replace s1 := Ob.same s1 k2 | replace s1 := Gds.same s1 k2 | replace s1 := Gd2.same s1 k2 | replace s1 := Ob2.same s1 k2 | replace s1 := NE.same s1 k2 | replace s1 := NT.same s1 k2 | replace s1 := NEs.same s1 k2 | replace s1 := NX.same s1 k2 | replace s1 := EMs.same s1 k2 | replace s1 := EOs.same s1 k2 | replace s1 := EO.same s1 k2 | replace s1 := GT.same s1 k2 | replace s1 := GTs.same s1 k2 | replace s1 := RB.same s1 k2 | replace s1 := RBs.same s1 k2 | replace s1 := RB2s.same s1 k2 | replace s1 := GR.same s1 k2 | replace s1 := GRs.same s1 k2
      first | replace s2 := HF.same s2 k2 | replace s2 := WF.same s2 k2 | replace s2 := FT.same s2 k2 | replace s2 := Fd.same s2 k2 | replace s2 := LsD.same s2 k2 | replace s2 := TK.same k2 _ _ s2 | replace s2 := KeysT.tk s2 (TK.same k2) | replace s2 := KeysU.tk s2 (TK.same k2) | replace s2 := KeysN.tk s2 (TK.same k2) | replace s2 := DayV.tk s2 (TK.same k2) | replace s2 := Dp.same k2 _ _ s2 | replace s2 := DpAll.same k2 _ _ s2 | replace s2 := k2 _ _ s2 | replace s2 := Ch.trans s2 (Ch.of_same k2) | replace s2 := Same.trans s2 k2 | replace s2 := stepsAt.same s2 k2 | replace s2 := DpT.same s2 k2 | replace s2 := LOr.same s2 k2 | replace s2 := Ob.same s2 k2 | replace s2 := Gds.same s2 k2 | replace s2 := Gd2.same s2 k2 | replace s2 := Ob2.same s2 k2 | replace s2 := NE.same s2 k2 | replace s2 := NT.same s2 k2 | replace s2 := NEs.same s2 k2 | replace s2 := NX.same s2 k2 | replace s2 := EMs.same s2 k2 | replace s2 := EOs.same s2 k2 | replace s2 := EO.same s2 k2 | replace s2 := GT.same s2 k2 | replace s2 := GTs.same s2 k2 | replace s2 := RB.same s2 k2 | replace s2 := RBs.same s2 k2 | replace s2 := RB2s.same s2 k2 | replace s2 := GR.same s2 k2 | replace s2 := GRs.same s2 k2
      first | replace kk := HF.same kk k2 | replace kk := WF.same kk k2 | replace kk := FT.same kk k2 | replace kk := Fd.same kk k2 | replace kk := LsD.same kk k2 | replace kk := TK.same k2 _ _ kk | replace kk := KeysT.tk kk (TK.same k2) | replace kk := KeysU.tk kk (TK.same k2) | replace kk := KeysN.tk kk (TK.same k2) | replace kk := DayV.tk kk (TK.same k2) | replace kk := Dp.same k2 _ _ kk | replace kk := DpAll.same k2 _ _ kk | replace kk := k2 _ _ kk | replace kk := Ch.trans kk (Ch.of_same k2) | replace kk := Same.trans kk k2 | replace kk := stepsAt.same kk k2 | replace kk := DpT.same kk k2 | replace kk := LOr.same kk k2 | replace kk := Ob.same kk k2 | replace kk := Gds.same kk k2 | replace kk := Gd2.same kk k2 | replace kk := Ob2.same kk k2 | replace kk := NE.same kk k2 | replace kk := NT.same kk k2 | replace kk := NEs.same kk k2 | replace kk := NX.same kk k2 | replace kk := EMs.same kk k2 | replace kk := EOs.same kk k2 | replace kk := EO.same kk k2 | replace kk := GT.same kk k2 | replace kk := GTs.same kk k2 | replace kk := RB.same kk k2 | replace kk := RBs.same kk k2 | replace kk := RB2s.same kk k2 | replace kk := GR.same kk k2 | replace kk := GRs.same kk k2
      first | replace eD := HF.same eD k2 | replace eD := WF.same eD k2 | replace eD := FT.same eD k2 | replace eD := Fd.same eD k2 | replace eD := LsD.same eD k2 | replace eD := TK.same k2 _ _ eD | replace eD := KeysT.tk eD (TK.same k2) | replace eD := KeysU.tk eD (TK.same k2) | replace eD := KeysN.tk eD (TK.same k2) | replace eD := DayV.tk eD (TK.same k2) | replace eD := Dp.same k2 _ _ eD | replace eD := DpAll.same k2 _ _ eD | replace eD := k2 _ _ eD | replace eD := Ch.trans eD (Ch.of_same k2) | replace eD := Same.trans eD k2 | replace eD := stepsAt.same eD k2 | replace eD := DpT.same eD k2 | replace eD := LOr.same eD k2 | replace eD := Ob.same eD k2 | replace eD := Gds.same eD k2 | replace eD := Gd2.same eD k2 | replace eD := Ob2.same eD k2 | replace eD := NE.same eD k2 | replace eD := NT.same eD k2 | replace eD := NEs.same eD k2 | replace eD := NX.same eD k2 | replace eD := EMs.same eD k2 | replace eD := EOs.same eD k2 | replace eD := EO.same eD k2 | replace eD := GT.same eD k2 | replace eD := GTs.same eD k2 | replace eD := RB.same eD k2 | replace eD := RBs.same eD k2 | replace eD := RB2s.same eD k2 | replace eD := GR.same eD k2 | replace eD := GRs.same eD k2
      clear k2 nD2 sG H4
      have elz : leftS ps (freedL ps l) = z0 :: (leftS ps (freedL ps l)).tail := by
        cases c : leftS ps (freedL ps l) with
        | nil => rw [c] at zl; cases zl
        | cons y r =>
          rw [c] at zl
          rw [Option.some.inj zl]
          rfl
      rw [elz, List.map_cons] at e2
      have sN : strtN ps (freedL ps l) < ps.length := (List.getElem?_eq_some_iff.mp zp).1
      have hs : ∃ z, ps[strtN ps (freedL ps l)]? = some z ∧ z ∉ freedL ps l := ⟨z0, zp, zg⟩
      have hlt := nxt_lt L h0
      have nlen0 : (nxtL ps l (freedL ps l)).length = ps.length := nxt_len
      have nz0 : nameN ps (strtN ps (freedL ps l)) = z0 := name_n zp
      repeat' (walk_at "jv")
      intro Wy nWy
      have nWy0 : H Wy = none := free_same kk nWy
      have dDW : D ≠ Wy := ne_of_none eD nWy
      have kW0 : Ch Wy H5 (upd H5 Wy (.lst [.str z0])) := Ch.upd_new nWy
      have eW0 : (upd H5 Wy (.lst [.str z0])) Wy = some (.lst (((wayL (nxtL ps l (freedL ps l)) (strtN ps (freedL ps l)) 1).map (nameN ps)).map V.str)) := by
        rw [upd_same]
        show some (HO.lst [V.str z0]) = some (HO.lst [V.str (nameN ps (strtN ps (freedL ps l)))])
        rw [nz0]
      generalize upd H5 Wy (.lst [.str z0]) = H6 at *
      have ah := nxt_ahd L hs
      have inj := fun {a b} => nxt_inj (a := a) (b := b) L W.names.1 hs
      have nmm := nxt_nm L hs
      have rnd := fun {m b} => round_is (ps := ps) (l := l) (m := m) (b := b)
      generalize nxtL ps l (freedL ps l) = nx at *
      generalize strtN ps (freedL ps l) = st at *
      have nlen : nx.length = ps.length := by assumption
      clear zl zp zg zh elz nz0 e2 nWy s1 s2 L hs
      repeat' (walk_at "jv")
      refine f_while ps.length (fun i σ H' => σ = [some (.ref t), some (.ref p), some (.ref G), some (.ref D), some (.ref Wy), none, none, none] ∧ Ch Wy H5 H' ∧ H' Wy = some (.lst (((wayL nx st (i + 1)).map (nameN ps)).map V.str)) ∧ ∀ a b, a < b → b < i + 1 → itF nx st a ≠ itF nx st b) ⟨rfl, kW0, eW0, fun a b h1 h2 => by omega⟩ (fun i σ H7 hi h => ?_)
      obtain ⟨rfl, kW, eW, un⟩ := h
      have eDk := kW _ _ dDW eD
      have hv1 : valV kvs (Sum.inr (nameN ps (itF nx st i))) = some (.str (nameN ps (itF nx st (i + 1)))) := by
        rw [hv, ah]
        rfl
      have hwl : (((wayL nx st (i + 1)).map (nameN ps)).map V.str).length = i + 1 := by rw [List.length_map, List.length_map, wayL_len]
      have hat : atI (((wayL nx st (i + 1)).map (nameN ps)).map V.str) (-1) = some (.str (nameN ps (itF nx st i))) := at_end (i := i) hwl (by rw [List.getElem?_map, way_name_at _ (by omega)]; rfl)
      refine i_dg ?_
      repeat' (walk_at "jv")
      refine i_dget eDk hv1 ?_
      repeat' (walk_at "jv")
      refine i_notInS (SqA.l (sq_lst eW)) ?_
      refine ⟨_, rfl, i_iteB (fun h1 => ?_) (fun h1 => ?_)⟩
      · have h2 : nameN ps (itF nx st (i + 1)) ∉ (wayL nx st (i + 1)).map (nameN ps) := by simpa using h1
        have un2 : ∀ a b, a < b → b < i + 1 + 1 → itF nx st a ≠ itF nx st b := fun a b h3 h4 e => by
          rcases Nat.lt_or_eq_of_le (Nat.le_of_lt_succ h4) with c | c
          · exact un a b h3 c e
          · subst c
            exact h2 (way_mem.mpr ⟨a, h3, by rw [e]⟩)
        have hi2 := walk_few hlt nlen sN un2
        refine w_turn (by omega) ?_
        repeat' (walk_at "jv")
        refine i_dg ?_
        repeat' (walk_at "jv")
        refine i_dget eDk hv1 ?_
        clear hwl
        repeat' (walk_at "jv")
        refine i_app eW (by rw [List.length_map, List.length_map, wayL_len, sizeLine_eq]; omega) ⟨rfl, kW.trans Ch.upd_self, ?_, un2⟩
        rw [upd_same]
        exact congrArg (fun x => some (HO.lst x)) (way_name (m := i + 1) (nameN ps)).symm
      · have h2 : nameN ps (itF nx st (i + 1)) ∈ (wayL nx st (i + 1)).map (nameN ps) := by simpa using h1
        obtain ⟨j, hj, ej⟩ := way_mem.mp h2
        have w : Wk nx st (i + 1) j := ⟨hj, un, (inj ej).symm⟩
        have unN : ∀ a b, a < b → b < i + 1 → nameN ps (itF nx st a) ≠ nameN ps (itF nx st b) := fun a b h3 h4 e => un a b h3 h4 (inj e)
        have k07 : Same H H7 := fun c oc z => kW _ _ (ne_of_none z nWy0) (kk _ _ z)
        repeat' (walk_at "jv")
        refine i_revL ?_
        repeat' (walk_at "jv")
        refine i_dg ?_
        repeat' (walk_at "jv")
        refine i_dget eDk hv1 ?_
        repeat' (walk_at "jv")
        refine i_indexT (sq_lst eW) (fun z hz => ?_) h2 ?_
        · obtain ⟨c, _, rfl⟩ := way_mem.mp hz
          exact W.names.2 _ (nmm c)
        rw [← ej, way_idx unN hj]
        repeat' (walk_at "jv")
        intro L1 n1
        rw [cut_from, ← List.map_drop, way_behind]
        have k1 := Same.upd_new (o := .lst (((wayL nx (itF nx st j) (i + 1 - j)).map (nameN ps)).map V.str)) n1
        refine ⟨L1, _, rfl, sq_lst upd_same, fun L2 n2 => ?_⟩
        have k2 := k07.trans (k1.trans (Same.upd_new (o := .lst (((wayL nx (itF nx st j) (i + 1 - j)).map (nameN ps)).map V.str).reverse) n2))
        repeat' (walk_at "jv")
        refine ⟨L2, _, rfl, sq_lst upd_same, fun T ob nT ho => ?_⟩
        have er := rnd w
        refine z2 hne T _ (k2.trans (Same.upd_new nT)) ?_
        rw [er, List.map_reverse]
        exact FT.new ho
theorem ok_arrow_ring_holdsK {CA : Addr} (D : DkX K mg "arrow_ring_holds" s_arrow_ring_holds ["web", "arrows", "thing"] ["thing", "arrows", "web"] g2) (B : Bn mg) (C_need_web : Cl P w K mg base 5 "need_web" ["web"] (spNeedWeb K)) (CX__need_arrows : ClX P w K mg base 2 "_need_arrows" ["web", "told"] (spNeedArrows K CA)) (C_could_be_ring : Cl P w K mg base 1 "could_be_ring" ["thing"] (spCouldR K)) (C_next_pairs : Cl P w K mg base 1 "next_pairs" ["ring"] (spNextP K)) : ClKX P w K mg base 6 "arrow_ring_holds" ["web", "arrows", "thing"] ["thing", "arrows", "web"] (spHolds K CA) g2 := by
  refine D.cl sc_arrow_ring_holds (fun vs H Q E h => ?_) (fun f cdv A outer s H vs Q E hr h => ?_)
  · obtain ⟨a, v, x, y, d, dy, ps, rs, rfl, _⟩ := h
    rfl
  · obtain ⟨a, v, x, y, d, dy, ps, rs, rfl, dw, W, ox, oy, hy, hd, qe, qv⟩ := h
    refine ⟨_, (pss_cons (ps_expr (pe_c C_need_web hr (pa_cons (pv 0) pa_nil)))
      (pss_cons (ps_expr (pe_cX CX__need_arrows tk_out hr (pa_cons (pv 0) (pa_cons (pv 1) pa_nil))))
      (pss_one (ps_ret (pe_and (pe_c C_could_be_ring hr (pa_cons (pv 2) pa_nil)) (pe_one (pe_callB (k_all (K := K) rfl) rfl B.all_ (by decide +kernel) (pa_cons (pe_lc (own := [("pair", 3)]) rfl sc_arrow_ring_holds.nd (kpi_list (K := K) (pe_c C_next_pairs hr (pa_cons (pv 2) pa_nil))) (blkOk_by (N := ["web", "arrows", "thing", "pair"]) (sc := defScope s_arrow_ring_holds) (by decide +kernel)) (fun _ _ _ _ _ => (pg_name (i := 3) sc_arrow_ring_holds.nd rfl (by first | exact Or.inl rfl | exact Or.inr rfl))) (fun _ _ _ _ _ => pts_nil) (fun _ _ _ _ _ => (pe_cmpR (k_inQ (K := K) hr.units) (pv 3) (pv 1) (by rfl)))) pa_nil)))))))), ?_⟩
    repeat' (walk_at "jv")
    refine ⟨v, ps, rs, rfl, dw, W, fun H1 k1 => ?_⟩
    repeat' (walk_at "jv")
    refine i_cS ?_
    repeat' (walk_at "jv")
    refine ⟨a, v, x, d, ps, rs, rfl, Dp.same k1 _ _ dw, W, ox.same k1, hd, fun H2 k2 => ⟨fun ok => ?_, fun no => qe no H2 (k1.trans k2)⟩⟩
    have k12 := k1.trans k2
    obtain ⟨l, rfl, ll, hl⟩ := arr_all ok
    obtain ⟨p, rfl, dx⟩ := ob_roads ox
    have h14 := W.le14
    replace qv := qv l rfl ⟨ll, hl⟩ ok
    replace dx := Dp.same k12 _ _ dx
    replace oy := oy.same k12
    clear k1 k2 ox hd qe ok
    repeat' (walk_at "jv")
    refine ⟨a, y, dy, rfl, oy, fun ds e => (hy ds e).1, fun H3 k3 => ?_⟩
    refine ⟨_, rfl, ?_⟩
    cases c : rngD dy with
    | false =>
      have e : holdsB l dy = false := by
        unfold holdsB
        rw [c]
        rfl
      rw [e] at qv
      repeat' (walk_at "jv")
      exact qv H3 (k12.trans k3)
    | true =>
      obtain ⟨r, rfl, h3, nl, er⟩ := holds_strs (l := l) c
      rw [er] at qv
      obtain ⟨hl50, hok⟩ := hy _ rfl
      rw [List.length_map] at hl50
      have lay := rows_lay (arrL_names W ⟨ll, hl⟩)
      cases oy with
      | @tup p2 xs _ sx al =>
      obtain rfl := obs_strsR al
      replace dx := Dp.same k3 _ _ dx
      replace sx := TK.same (K := K) k3 _ _ sx
      repeat' (walk_at "jv")
      refine ⟨p2, r, rfl, sx, by omega, hl50, fun q2 as H4 k4 nq eq hal hp => ?_⟩
      have hal2 : (as.map V.ref).length = r.length := by rw [List.length_map, hal]
      have hpl := pairs_len r
      replace dx := Dp.same k4 _ _ dx
      repeat' (walk_at "jv")
      refine c_list (as.map V.ref) (fun D i H' => H4 D = none ∧ Same H4 H' ∧ H' D = some (.lst ((((pairsR r).take i).map fun p => decide (p ∈ l)).map V.bl))) (fun D nD => ⟨nD, Same.upd_new nD, upd_same⟩) (fun D i H' _ h => sq_lst (h.2.1 _ _ eq)) (fun D i y H' hy h => ?_) (fun D H' h => ?_)
      · obtain ⟨nD, kD, eD⟩ := h
        rw [List.getElem?_map] at hy
        cases hb : as[i]? with
        | none => rw [hb] at hy; cases hy
        | some b =>
          rw [hb] at hy
          obtain rfl := Option.some.inj hy
          obtain ⟨p3, hp3, eb⟩ := hp i b hb
          obtain ⟨m1, m2⟩ := pairsR_mem (List.mem_of_getElem? hp3)
          have hi : i < (pairsR r).length := (List.getElem?_eq_some_iff.mp hp3).1
          have hr1 := hok _ (List.mem_map_of_mem m1)
          have hr2 := hok _ (List.mem_map_of_mem m2)
          have dx' := Dp.same kD _ _ dx
          have eb' := kD _ _ eb
          repeat' (walk_at "jv")
          refine ⟨roadD p3, l.map roadD, .tup (xs := [.str p3.1, .str p3.2]) (sq_tup eb') (.cons (.str _) (.cons (.str _) .nil)), .inr dx', road_layS hr1 hr2, lay, by show 0 + 1 ≤ 60; decide, ?_⟩
          rw [if_neg (by decide), roads_any]
          refine i_lcE eD (by rw [List.length_map, List.length_map, List.length_take, sizeLine_eq]; omega) ⟨nD, fun c oc z => (upd_ne (ne_of_none z nD)).trans (kD _ _ z), ?_⟩
          rw [take_push hp3, List.map_append, List.map_append]
          exact upd_same
      · obtain ⟨nD, kD, eD⟩ := h
        rw [hal2, ← hpl, List.take_length] at eD
        have ea : ((pairsR r).map fun p => decide (p ∈ l)).all id = (pairsR r).all fun p => decide (p ∈ l) := by rw [List.all_map]; rfl
        repeat' (walk_at "jv")
        rw [ea]
        exact qv H' (((k12.trans k3).trans k4).trans kD)
end
end
section
open L2 PySem PySem.Spec PyProof.Rows
abbrev s__law_goes_round : Stmt := topS 43
theorem sc__law_goes_round : FnScope ["_law_web_here", "_law_arrows_here", "_law_thing", "_law_at", "_law_one_here"] ["_law_web_here", "_law_arrows_here", "_law_thing"] (defScope s__law_goes_round) := ⟨rfl, rfl, rfl, by decide +kernel, rfl, by decide +kernel, by decide +kernel⟩
def spGoes (K : PySem.W.Frag) : Sp := fun vs H Q _ => ∃ (a T : Addr) (v y : V) (dy : PyData) (ps : List Str) (rs l : List (Str × Str)), vs = [v, .ref T, y] ∧ Dp K H v (webD ps rs) ∧ IsWeb ps rs ∧ Dp K H (.ref T) (rsD l) ∧ ArrL rs l ∧ Ob K H a y dy ∧ RgA dy ∧ ∀ H', Same H H' → Q (.bl (holdsB l dy)) H'
def prv (n i : Nat) : Nat := if i = 0 then n - 1 else i - 1
theorem at_prv {α : Type} {xs : List α} {i : Nat} (h : i < xs.length) : atI xs ((i : Int) - 1) = xs[prv xs.length i]? := by
  unfold prv
  by_cases c : i = 0
  · subst c
    rw [if_pos rfl]
    have hy := List.getElem?_eq_getElem (l := xs) (i := xs.length - 1) (by omega)
    rw [hy]
    exact at_end (i := xs.length - 1) (by omega) hy
  · rw [if_neg c]
    have hy := List.getElem?_eq_getElem (l := xs) (i := i - 1) (by omega)
    rw [hy, show (i : Int) - 1 = ((i - 1 : Nat) : Int) by omega]
    exact atI_nat hy
theorem prv_lt {n i : Nat} (h : i < n) : prv n i < n := by
  unfold prv
  split <;> omega
def prvP (r : List Str) (i : Nat) : Str × Str := (r.getD (prv r.length i) "", r.getD i "")
theorem pairs_at {r : List Str} {i : Nat} (h : i < r.length) : (pairsR r)[prv r.length i]? = some (prvP r i) := by
  have hp := prv_lt h
  rw [← pairs_zip, List.getElem?_zip_eq_some]
  refine ⟨?_, ?_⟩
  · show _ = some (r.getD (prv r.length i) "")
    rw [List.getD_eq_getElem?_getD, List.getElem?_eq_getElem hp]
    rfl
  · show _ = some (r.getD i "")
    rw [List.getD_eq_getElem?_getD, List.getElem?_eq_getElem h]
    unfold prv
    by_cases c : i = 0
    · subst c
      rw [if_pos rfl, List.getElem?_append_right (by rw [List.length_drop]; omega), List.length_drop, Nat.sub_self, List.getElem?_take, if_pos (by omega), List.getElem?_eq_getElem h]
      rfl
    · rw [if_neg c, List.getElem?_append_left (by rw [List.length_drop]; omega), List.getElem?_drop, show 1 + (i - 1) = i by omega, List.getElem?_eq_getElem h]
      rfl
theorem prv_onto {n j : Nat} (h : j < n) : ∃ i, i < n ∧ prv n i = j := by
  by_cases c : j + 1 = n
  · exact ⟨0, by omega, by unfold prv; rw [if_pos rfl]; omega⟩
  · exact ⟨j + 1, by omega, by unfold prv; rw [if_neg (by omega)]; omega⟩
theorem all_prv {r : List Str} {l : List (Str × Str)} : ((List.range r.length).filter fun i => !decide (prvP r i ∈ l)).isEmpty = (pairsR r).all fun p => decide (p ∈ l) := by
  rw [Bool.eq_iff_iff, List.isEmpty_iff, List.filter_eq_nil_iff, List.all_eq_true]
  constructor
  · intro h p hp
    obtain ⟨j, hj, e⟩ := List.getElem_of_mem hp
    rw [pairs_len] at hj
    obtain ⟨i, hi, ei⟩ := prv_onto hj
    have h1 := pairs_at hi
    rw [ei, List.getElem?_eq_getElem (by rw [pairs_len]; exact hj), e] at h1
    have h2 := h i (List.mem_range.mpr hi)
    rw [Option.some.inj h1]
    simpa using h2
  · intro h i hi
    have h1 := pairs_at (List.mem_range.mp hi)
    have h2 := h _ (List.mem_of_getElem? h1)
    simpa using h2
theorem arrL_ends {ps : List Str} {rs l : List (Str × Str)} (W : IsWeb ps rs) (A : ArrL rs l) : ∀ r ∈ l, r.1 ∈ ps ∧ r.2 ∈ ps := fun r hr => by
  obtain ⟨i, hi, er⟩ := List.getElem_of_mem hr
  have hi' : i < rs.length := by have := A.1; omega
  obtain ⟨e1, e2, _⟩ := W.ends rs[i] (List.getElem_mem hi')
  have h3 := A.2 i hi'
  rw [List.getD_eq_getElem?_getD, List.getD_eq_getElem?_getD, List.getElem?_eq_getElem hi, List.getElem?_eq_getElem hi', Option.getD_some, Option.getD_some, er] at h3
  rcases h3 with e | e
  · rw [e]
    exact ⟨e1, e2⟩
  · rw [e]
    exact ⟨e2, e1⟩
theorem app_ne {α : Type} (xs : List α) (x : α) : (xs ++ [x]).isEmpty = false := by cases xs <;> rfl
def offP (ps : List Str) : PyData → Bool
  | .str z => !decide (z ∈ ps)
  | _ => true
theorem off_no {ps : List Str} {rs l : List (Str × Str)} (W : IsWeb ps rs) (A : ArrL rs l) {ds : List PyData} (h : ds.any (offP ps) = true) : holdsB l (.tuple ds) = false := by
  cases c : holdsB l (.tuple ds) with
  | false => rfl
  | true =>
    exfalso
    have c' : (rngD (.tuple ds) && _) = true := c
    rw [Bool.and_eq_true] at c'
    obtain ⟨r, e, h3, nl, er⟩ := holds_strs (l := l) c'.1
    rw [er] at c
    have e2 : ds = r.map PyData.str := by injection e
    subst e2
    obtain ⟨d, hd, od⟩ := List.any_eq_true.mp h
    obtain ⟨z, hz, rfl⟩ := List.mem_map.mp hd
    have od' : (!decide (z ∈ ps)) = true := od
    have hz' : z ∉ ps := by simpa using od'
    obtain ⟨j, hj, ej⟩ := List.getElem_of_mem hz
    have h1 := pairs_at hj
    have h2 := List.all_eq_true.mp c _ (List.mem_of_getElem? h1)
    have h4 := (arrL_ends W A _ (of_decide_eq_true h2)).2
    have h5 : (prvP r j).2 = z := by
      show r.getD j "" = z
      rw [List.getD_eq_getElem?_getD, List.getElem?_eq_getElem hj, ej]
      rfl
    rw [h5] at h4
    exact hz' h4
theorem off_all {ps : List Str} : ∀ {ds : List PyData}, ds.any (offP ps) = false → ∃ r : List Str, ds = r.map PyData.str ∧ ∀ z ∈ r, z ∈ ps
  | [], _ => ⟨[], rfl, fun z hz => absurd hz List.not_mem_nil⟩
  | d :: ds, h => by
    rw [List.any_cons, Bool.or_eq_false_iff] at h
    obtain ⟨r, e, hr⟩ := off_all h.2
    cases d with
    | str z =>
      have h1 : (!decide (z ∈ ps)) = false := h.1
      refine ⟨z :: r, by rw [e]; rfl, fun y hy => ?_⟩
      rcases List.mem_cons.mp hy with rfl | hy
      · simpa using h1
      · exact hr y hy
    | _ => cases h.1
section
variable {base : Heap} {P : Program} {w : World} {K : PySem.W.Frag} {mg : Str → Option Value}
theorem ok_goes (D : Dn K mg "_law_goes_round" s__law_goes_round ["_law_web_here", "_law_arrows_here", "_law_thing"]) (B : Bn mg) : Cl P w K mg base 1 "_law_goes_round" ["_law_web_here", "_law_arrows_here", "_law_thing"] (spGoes K) := by
  refine D.cl sc__law_goes_round (fun vs H Q E h => ?_) (fun f cdv A outer s H vs Q E hr h => ?_)
  · obtain ⟨a, T, v, y, dy, ps, rs, l, rfl, _⟩ := h
    rfl
  · obtain ⟨a, T, v, y, dy, ps, rs, l, rfl, dw, W, dT, hA, oy, hy, q⟩ := h
    refine ⟨_, (pss_cons (ps_if (PW.pt (pw_or (pt_not (pt_val (pe_callB (k_isi (K := K)) rfl B.isinstance_ (by decide +kernel) (pa_cons (pv 2) (pa_cons (pe_ty (T := "tuple") B.tuple_ (by decide +kernel)) pa_nil))))) (pw_or (pt_cmpR op_lt (pe_callB (k_len (K := K)) rfl B.len_ (by decide +kernel) (pa_cons (pv 2) pa_nil)) pe_int (nomark _)) (pw_or1 (pt_cmpR (k_neE (K := K) hr.units) (pe_lc (own := [("_law_one_here", 4)]) rfl sc__law_goes_round.nd (kpi_tup (K := K) (pv 2)) (blkOk_by (N := ["_law_web_here", "_law_arrows_here", "_law_thing", "_law_at", "_law_one_here"]) (sc := defScope s__law_goes_round) (by decide +kernel)) (fun _ _ _ _ _ => (pg_name (i := 4) sc__law_goes_round.nd rfl (by first | exact Or.inl rfl | exact Or.inr rfl))) (fun _ _ _ _ _ => pts_one (PW.pt (pw_or (pt_not (pt_val (pe_callB (k_isi (K := K)) rfl B.isinstance_ (by decide +kernel) (pa_cons (pv 4) (pa_cons (pe_ty (T := "str") B.str_ (by decide +kernel)) pa_nil))))) (pw_or1 (pt_cmpR (k_notInS (K := K)) (pv 4) (pe_ix (k_ixT (K := K)) (pv 0) pe_int (fun _ _ => rfl)) (by rfl)))))) (fun _ _ _ _ _ => (pv 4))) (pe_lst pa_nil) (nomark _)))))) (pss_one (ps_ret pe_bl)) pss_nil)
      (pss_cons (ps_if (pt_cmpR op_ne (pe_callB (cr_lenTextsD) rfl B.len_ (by decide +kernel) (pa_cons (pe_callTy (cr_setTextsD rfl) rfl B.set_ (by decide +kernel) (pa_cons (pv 2) pa_nil)) pa_nil)) (pe_callB (k_len (K := K)) rfl B.len_ (by decide +kernel) (pa_cons (pv 2) pa_nil)) (nomark _)) (pss_one (ps_ret pe_bl)) pss_nil)
      (pss_one (ps_ret (pe_cmpR (k_eqE (K := K) hr.units) (pe_lc (own := [("_law_at", 3)]) rfl sc__law_goes_round.nd (pi_range1 rfl B.range_ (pa_cons (pe_callB (k_len (K := K)) rfl B.len_ (by decide +kernel) (pa_cons (pv 2) pa_nil)) pa_nil)) (blkOk_by (N := ["_law_web_here", "_law_arrows_here", "_law_thing", "_law_at", "_law_one_here"]) (sc := defScope s__law_goes_round) (by decide +kernel)) (fun _ _ _ _ _ => (pg_name (i := 3) sc__law_goes_round.nd rfl (by first | exact Or.inl rfl | exact Or.inr rfl))) (fun _ _ _ _ _ => pts_one (pt_cmpR (k_notInQ (K := K) hr.units) (pe_tup (pa_cons (pe_ix (k_ixT (K := K)) (pv 2) (pe_op op_sub (pv 3) pe_int) (fun _ _ => rfl)) (pa_cons (pe_ix (k_ixT (K := K)) (pv 2) (pv 3) (fun _ _ => rfl)) pa_nil))) (pv 1) (by rfl))) (fun _ _ _ _ _ => (pv 3))) (pe_lst pa_nil) (nomark _)))))), ?_⟩
    obtain ⟨wt, tp, tr, ws, rfl, s1, s2, s3, d3, dr, dpl⟩ := web_parts dw
    clear d3 dr dpl s3 dw
    repeat' (walk_at "jv")
    refine is_tupO oy ?_
    refine ⟨_, rfl, ?_⟩
    cases c : isT dy with
    | false =>
      have e : holdsB l dy = false := by
        cases dy with
        | tuple ds => cases c
        | _ => rfl
      rw [e] at q
      repeat' (walk_at "jv")
      exact q H (Same.refl _)
    | true =>
      obtain ⟨ds, rfl⟩ := isT_yes c
      obtain ⟨hl50, hok⟩ := hy ds rfl
      cases oy with
      | @tup p xs ds sx al =>
      have hxl := ObAll.len al
      repeat' (walk_at "jv")
      · rename_i hlt
        have e : holdsB l (.tuple ds) = false := by
          show ((decide (3 ≤ ds.length) && _) && _) = false
          rw [decide_eq_false (by omega)]
          rfl
        rw [e] at q
        exact q H (Same.refl _)
      · rename_i hge
        refine c_tup xs (fun D i H' => H D = none ∧ Same H H' ∧ ∃ ys, H' D = some (.lst ys) ∧ ys.length ≤ i ∧ ys.isEmpty = !((ds.take i).any (offP ps))) (fun D nD => ⟨nD, Same.upd_new nD, [], upd_same, Nat.le_refl _, rfl⟩) (fun D i H' _ h => TK.same h.2.1 _ _ sx) (fun D i y H' hy h => ?_) (fun D H' h => ?_)
        · obtain ⟨nD, kD, ys, eD, hyl, hye⟩ := h
          obtain ⟨d', hd', od'⟩ := ObAll.get al hy
          have hi : i < ds.length := (List.getElem?_eq_some_iff.mp hd').1
          have s1' := TK.same (K := K) kD _ _ s1
          have s2' := TK.same (K := K) kD _ _ s2
          have et : (ds.take (i + 1)).any (offP ps) = ((ds.take i).any (offP ps) || offP ps d') := by
            rw [take_push hd', List.any_append]
            simp
          repeat' (walk_at "jv")
          refine is_strO (od'.same kD) ?_
          refine ⟨_, rfl, ?_⟩
          have put : ∀ (u : List V), ys.length ≤ i → ∀ z, (upd H' D (.lst (ys ++ [z]))) D = some (.lst (ys ++ [z])) := fun _ _ _ => upd_same
          cases c1 : isS d' with
          | false =>
            have e1 : offP ps d' = true := by
              cases d' with
              | str z => cases c1
              | _ => rfl
            repeat' (walk_at "jv")
            refine ⟨nD, fun c oc z => (upd_ne (ne_of_none z nD)).trans (kD _ _ z), ys ++ [y], upd_same, by rw [List.length_append]; show _ + 1 ≤ _; omega, ?_⟩
            rw [et, e1, Bool.or_true]
            simp
          | true =>
            obtain ⟨z, rfl⟩ : ∃ z, d' = .str z := by
              cases d' with
              | str z => exact ⟨z, rfl⟩
              | _ => cases c1
            cases od'
            repeat' (walk_at "jv")
            refine i_notInS (SqA.t s2') ?_
            refine ⟨_, rfl, i_iteB (fun h1 => ?_) (fun h1 => ?_)⟩
            · have h2 : z ∉ ps := by simpa using h1
              have e1 : offP ps (.str z) = true := by
                show (!decide (z ∈ ps)) = true
                rw [decide_eq_false h2]
                rfl
              repeat' (walk_at "jv")
              refine ⟨nD, fun c oc z => (upd_ne (ne_of_none z nD)).trans (kD _ _ z), ys ++ [.str z], upd_same, by rw [List.length_append]; show _ + 1 ≤ _; omega, ?_⟩
              rw [et, e1, Bool.or_true]
              simp
            · have h2 : z ∈ ps := by simpa using h1
              have e1 : offP ps (.str z) = false := by
                show (!decide (z ∈ ps)) = false
                rw [decide_eq_true h2]
                rfl
              exact ⟨nD, kD, ys, eD, by omega, by rw [et, e1, Bool.or_false]; exact hye⟩
        · obtain ⟨nD, kD, ys, eD, hyl, hye⟩ := h
          rw [hxl, List.take_length] at hye
          repeat' (walk_at "jv")
          intro Z nZ
          have kZ := Same.upd_new (o := .lst []) nZ
          have eZ : (upd H' Z (.lst [])) Z = some (.lst []) := upd_same
          have eD2 := kZ _ _ eD
          replace kD := kD.trans kZ
          generalize upd H' Z (.lst []) = H2 at *
          clear kZ nZ eD
          refine i_neE (sq_lst eD2) (sq_lst eZ) ?_
          refine ⟨_, rfl, ?_⟩
          rw [hye, Bool.not_not]
          clear hye hyl eD2 eZ
          cases co : ds.any (offP ps) with
          | true =>
            rw [off_no W hA co] at q
            repeat' (walk_at "jv")
            exact q _ kD
          | false =>
            obtain ⟨r, rfl, hrp⟩ := off_all co
            obtain rfl := obs_strsR al
            have sx' := TK.same (K := K) kD _ _ sx
            have hrl : (r.map V.str).length = r.length := List.length_map ..
            rw [List.length_map] at hl50
            have er : (r.map PyData.str).map strD = r := by rw [List.map_map]; exact List.map_id r
            have eq0 : holdsB l (.tuple (r.map PyData.str)) = (decide r.Nodup && (pairsR r).all fun p => decide (p ∈ l)) := by
              show ((decide (3 ≤ (r.map PyData.str).length) && (((r.map PyData.str).all isS) && decide (((r.map PyData.str).map strD).Nodup))) && _) = _
              rw [er, List.length_map, decide_eq_true (by omega : 3 ≤ r.length), Bool.true_and, show (r.map PyData.str).all isS = true from List.all_eq_true.mpr fun d hd => by obtain ⟨z, _, rfl⟩ := List.mem_map.mp hd; rfl, Bool.true_and]
              show (_ && (pairsR ((r.map PyData.str).map strD)).all _) = _
              rw [er]
            rw [eq0] at q
            repeat' (walk_at "jv")
            refine ⟨p, r, rfl, sx', by omega, fun D2 nD2 => ?_⟩
            repeat' (walk_at "jv")
            refine ⟨D2, r, rfl, upd_same, ?_⟩
            have k2 := Same.upd_new (o := TxsDO P w D2 r) nD2
            have sx2 := TK.same (K := K) k2 _ _ sx'
            replace kD := kD.trans k2
            have dn := (dist_le r.length r rfl).2
            repeat' (walk_at "jv")
            · rename_i hne
              have nd : ¬ r.Nodup := fun h => by
                have := dn.mpr h
                omega
              rw [decide_eq_false nd, Bool.false_and] at q
              exact q _ kD
            · rename_i hne
              have nd : r.Nodup := dn.mp (by omega)
              rw [decide_eq_true nd, Bool.true_and] at q
              have dTT := Dp.same kD _ _ dT
              have lay := rows_lay (arrL_names W hA)
              refine c_range (fun D i H' => (upd H2 D2 (TxsDO P w D2 r)) D = none ∧ Same (upd H2 D2 (TxsDO P w D2 r)) H' ∧ ∃ ys : List V, H' D = some (.lst ys) ∧ ys.length ≤ i ∧ ys.isEmpty = ((List.range i).filter fun j => !decide (prvP r j ∈ l)).isEmpty) (fun D nD => ⟨nD, Same.upd_new nD, [], upd_same, Nat.le_refl _, rfl⟩) (fun D i H' hi h => ?_) (fun D H' h => ?_)
              · obtain ⟨nD, kE, ys, eD, hyl, hye⟩ := h
                have hi' : i < r.length := by omega
                have hp := prv_lt hi'
                have sx3 := TK.same (K := K) kE _ _ sx2
                have dT3 := Dp.same kE _ _ dTT
                have a1 : atI (r.map V.str) ((i : Int) - 1) = some (.str (prvP r i).1) := by
                  rw [at_prv (by omega), hrl, List.getElem?_map, List.getElem?_eq_getElem hp]
                  show some (V.str r[prv r.length i]) = some (V.str (r.getD (prv r.length i) ""))
                  rw [List.getD_eq_getElem?_getD, List.getElem?_eq_getElem hp]
                  rfl
                have a2 : atI (r.map V.str) (i : Int) = some (.str (prvP r i).2) := by
                  rw [atI_nat (by rw [List.getElem?_map, List.getElem?_eq_getElem hi']; rfl)]
                  show some (V.str r[i]) = some (V.str (r.getD i ""))
                  rw [List.getD_eq_getElem?_getD, List.getElem?_eq_getElem hi']
                  rfl
                have e0 : (0 : Int) + (i : Int) = (i : Int) := by omega
                rw [e0]
                have et : (List.range (i + 1)).filter (fun j => !decide (prvP r j ∈ l)) = (List.range i).filter (fun j => !decide (prvP r j ∈ l)) ++ (if prvP r i ∈ l then [] else [i]) := by
                  rw [List.range_succ, List.filter_append]
                  congr 1
                  by_cases c : prvP r i ∈ l
                  · rw [if_pos c]
                    simp [c]
                  · rw [if_neg c]
                    simp [c]
                obtain ⟨m1, m2⟩ := pairsR_mem (List.mem_of_getElem? (pairs_at hi'))
                have hr1 := hok _ (List.mem_map_of_mem m1)
                have hr2 := hok _ (List.mem_map_of_mem m2)
                repeat' (walk_at "jv")
                intro U nU
                repeat' (walk_at "jv")
                refine ⟨roadD (prvP r i), l.map roadD, .tup (sq_tup upd_same) (.cons (.str _) (.cons (.str _) .nil)), .inr (Dp.same (Same.upd_new nU) _ _ dT3), road_layS hr1 hr2, lay, by show 0 + 1 ≤ 60; decide, ?_⟩
                rw [if_pos rfl, roads_any]
                have kU := kE.trans (Same.upd_new (o := .tup [.str (prvP r i).1, .str (prvP r i).2]) nU)
                have eD2 : (upd H' U (.tup [.str (prvP r i).1, .str (prvP r i).2])) D = some (.lst ys) := Same.upd_new nU _ _ eD
                refine ⟨_, rfl, i_iteB (fun h1 => ?_) (fun h1 => ?_)⟩
                · have h2 : prvP r i ∉ l := by simpa using h1
                  repeat' (walk_at "jv")
                  refine ⟨nD, fun c oc z => (upd_ne (ne_of_none z nD)).trans (kU _ _ z), ys ++ [.int i], upd_same, by rw [List.length_append]; show _ + 1 ≤ _; omega, ?_⟩
                  rw [et, if_neg h2, app_ne, app_ne]
                · have h2 : prvP r i ∈ l := by simpa using h1
                  refine ⟨nD, kU, ys, eD2, by omega, ?_⟩
                  rw [et, if_pos h2, List.append_nil]
                  exact hye
              · obtain ⟨nD, kE, ys, eD, hyl, hye⟩ := h
                repeat' (walk_at "jv")
                intro Z nZ
                have kZ := Same.upd_new (o := .lst []) nZ
                refine i_eqE (sq_lst (kZ _ _ eD)) (sq_lst upd_same) ?_
                rw [hye, show ((r.map V.str).length : Int).toNat = r.length by omega, all_prv]
                exact q _ ((kD.trans kE).trans kZ)
end
end
section
open L2 PySem PySem.Spec PyProof.Rows
abbrev s__law_bent : Stmt := topS 44
theorem sc__law_bent : FnScope ["_law_feed_here", "_law_web_here", "_law_ring", "_law_at", "_law_place", "_law_turn", "_law_some"] ["_law_feed_here", "_law_web_here", "_law_ring"] (defScope s__law_bent) := ⟨rfl, rfl, rfl, by decide +kernel, rfl, by decide +kernel, by decide +kernel⟩
def GR (K : PySem.W.Frag) (H : Hp) (a : Addr) (x : V) : Prop := ∃ d, Ob K H a x d ∧ RgA d
def GRs (K : PySem.W.Frag) (H : Hp) (a : Addr) (xs : List V) : Prop := ∀ x ∈ xs, GR K H a x
section
variable {K : PySem.W.Frag} {H H' : Hp} {a : Addr} {x : V} {xs ys : List V} {c : Int}
theorem GR.same (h : GR K H a x) (k : Same H H') : GR K H' a x := by
  obtain ⟨d, o, r⟩ := h
  exact ⟨d, o.same k, r⟩
theorem GR.ch (h : GR K H a x) (k : Ch a H H') (f : Fd H a c) : GR K H' a x := by
  obtain ⟨d, o, r⟩ := h
  exact ⟨d, o.ch k f, r⟩
theorem GRs.same (h : GRs K H a xs) (k : Same H H') : GRs K H' a xs := fun x hx => (h x hx).same k
theorem GRs.ch (h : GRs K H a xs) (k : Ch a H H') (f : Fd H a c) : GRs K H' a xs := fun x hx => (h x hx).ch k f
theorem GRs.one (h : GR K H a x) : GRs K H a [x] := fun y hy => by rw [List.mem_singleton.mp hy]; exact h
theorem GRs.app (h : GRs K H a xs) (g : GRs K H a ys) : GRs K H a (xs ++ ys) := fun y hy => (List.mem_append.mp hy).elim (h y) (g y)
theorem obStrs : ∀ l : List Str, ObAll K H a (l.map V.str) (l.map PyData.str)
  | [] => .nil
  | x :: r => .cons (.str x) (obStrs r)
theorem gr_no {d : PyData} (o : Ob K H a x d) (n : isT d = false) : GR K H a x := ⟨d, o, fun ds e => by
  rw [e] at n
  cases n⟩
theorem gr_tup {p : Addr} {vs : List V} {ds : List PyData} (s : SqT K H p vs) (o : ObAll K H a vs ds) (h50 : ds.length ≤ 50) (hs : ∀ z, PyData.str z ∈ ds → PyData.strOk z = true) : GR K H a (.ref p) := ⟨.tuple ds, .tup s o, fun es e => by
  injection e with e
  subst e
  exact ⟨h50, hs⟩⟩
theorem gr_strs {p : Addr} {l : List Str} (s : SqT K H p (l.map V.str)) (h50 : l.length ≤ 50) (hs : ∀ z ∈ l, PyData.strOk z = true) : GR K H a (.ref p) := gr_tup s (obStrs l) (by rw [List.length_map]; exact h50) fun z hz => by
  obtain ⟨y, hy, e⟩ := List.mem_map.mp hz
  injection e with e
  exact e ▸ hs y hy
theorem gr_mid {p : Addr} {d : PyData} {u v : List Str} (s : SqT K H p (u.map V.str ++ [x] ++ v.map V.str)) (o : Ob K H a x d) (ox : ∀ z, d = .str z → PyData.strOk z = true) (hl : u.length + v.length ≤ 40) (hu : ∀ z ∈ u, PyData.strOk z = true) (hv : ∀ z ∈ v, PyData.strOk z = true) : GR K H a (.ref p) := by
  refine gr_tup s (ObAll.app (ObAll.app (obStrs u) (.cons o .nil)) (obStrs v)) ?_ (fun z hz => ?_)
  · rw [List.length_append, List.length_append, List.length_map, List.length_map]
    show u.length + 1 + v.length ≤ 50
    omega
  · rcases List.mem_append.mp hz with hz | hz
    · rcases List.mem_append.mp hz with hz | hz
      · obtain ⟨y, hy, e⟩ := List.mem_map.mp hz
        injection e with e
        exact e ▸ hu y hy
      · exact ox z (List.mem_singleton.mp hz).symm
    · obtain ⟨y, hy, e⟩ := List.mem_map.mp hz
      injection e with e
      exact e ▸ hv y hy
end
def spBentR (K : PySem.W.Frag) : Sp := fun vs H Q _ => ∃ (a r : Addr) (v : V) (c : Int) (ps : List Str) (rs : List (Str × Str)) (l : List Str), vs = [.ref a, v, .ref r] ∧ Fd H a c ∧ c < 10 ^ 13 ∧ Dp K H v (webD ps rs) ∧ IsWeb ps rs ∧ SqT K H r (l.map V.str) ∧ 0 < l.length ∧ l.length ≤ 8 ∧ (∀ z ∈ l, nmOk z = true) ∧
  ∀ (y : V) (H' : Hp), GR K H' a y → Fd H' a (c + 5000) → Ch a H H' → Q y H'
section
variable {base : Heap} {P : Program} {w : World} {K : PySem.W.Frag} {mg : Str → Option Value}
theorem ok_law_bentR (D : Dn K mg "_law_bent" s__law_bent ["_law_feed_here", "_law_web_here", "_law_ring"]) (B : Bn mg) (C__law_draw : Cl P w K mg base 1 "_law_draw" ["_law_feed_here", "_law_many"] spDraw) (C__law_one : Cl P w K mg base 2 "_law_one" ["_law_feed_here", "_law_things"] (spOne K)) (C__law_mixed : Cl P w K mg base 2 "_law_mixed" ["_law_feed_here", "_law_things"] (spMixedT K)) : Cl P w K mg base 3 "_law_bent" ["_law_feed_here", "_law_web_here", "_law_ring"] (spBentR K) := by
  refine D.cl sc__law_bent (fun vs H Q E h => ?_) (fun f cdv A outer s H vs Q E hr h => ?_)
  · obtain ⟨a, r, v, c, ps, rs, l, rfl, _⟩ := h
    rfl
  · obtain ⟨a, r, v, c, ps, rs, l, rfl, f1, hc, hd, W, so, hl0, hl8, nm, q⟩ := h
    obtain ⟨wt, tp, tr, ws, rfl, s1, s2, s3, d3, dr, dpl⟩ := web_parts hd
    clear d3 dr dpl s3 hd
    have h8 := W.le8
    have h0 := W.pos
    have hml : (l.map V.str).length = l.length := List.length_map ..
    have hmp : (ps.map V.str).length = ps.length := List.length_map ..
    have hst : ∀ z ∈ l, PyData.strOk z = true := fun z hz => nmOk_str (nm z hz)
    have hps : ∀ z ∈ ps, PyData.strOk z = true := fun z hz => nmOk_str (W.names.2 z hz)
    have kk : Ch a H H := Ch.of_same (Same.refl _)
    refine ⟨_, (pss_cons (ps_par3 (i := 3) (j := 4) (l := 5) rfl sc__law_bent.nd rfl rfl rfl (by decide) (by decide) (by decide) rfl rfl rfl (pa_cons (pe_c C__law_draw hr (pa_cons (pv 0) (pa_cons (pe_callB (k_len (K := K)) rfl B.len_ (by decide +kernel) (pa_cons (pv 2) pa_nil)) pa_nil))) (pa_cons (pe_c C__law_one hr (pa_cons (pv 0) (pa_cons (pe_op op_cat (pe_callTy (k_list (K := K)) rfl B.list_ (by decide +kernel) (pa_cons (pe_ix (k_ixT (K := K)) (pv 1) pe_int (fun _ _ => rfl)) pa_nil)) (pe_lst (pa_cons pe_str pa_nil))) pa_nil))) (pa_cons (pe_c C__law_draw hr (pa_cons (pv 0) (pa_cons (pe_callB (k_len (K := K)) rfl B.len_ (by decide +kernel) (pa_cons (pv 2) pa_nil)) pa_nil))) pa_nil))) (by rfl))
      (pss_cons (ps_set (i := 6) sc__law_bent.nd rfl (by first | exact Or.inl rfl | exact Or.inr rfl) (pe_lst (pa_cons (pe_revT (K := K) (pv 2)) (pa_cons (pe_op op_catA (pe_slice sl_tupA (pv 2) po_none (po_some (pv 3))) (pe_slice sl_tupA (pv 2) (po_some (pe_op op_add (pv 3) pe_int)) po_none)) (pa_cons (pe_op op_catA (pe_op op_catA (pe_slice sl_tupA (pv 2) po_none (po_some (pv 3))) (pe_tup (pa_cons (pv 4) pa_nil))) (pe_slice sl_tupA (pv 2) (po_some (pv 3)) po_none)) (pa_cons (pe_op op_catA (pe_op op_catA (pe_slice sl_tupA (pv 2) po_none (po_some (pv 3))) (pe_tup (pa_cons (pv 4) pa_nil))) (pe_slice sl_tupA (pv 2) (po_some (pe_op op_add (pv 3) pe_int)) po_none)) (pa_cons (pe_op op_catA (pv 2) (pv 2)) (pa_cons (pe_callTy (k_list (K := K)) rfl B.list_ (by decide +kernel) (pa_cons (pv 2) pa_nil)) pa_nil))))))))
      (pss_cons (ps_set (i := 6) sc__law_bent.nd rfl (by first | exact Or.inl rfl | exact Or.inr rfl) (pe_op op_cat (pv 6) (pe_lst (pa_cons (pe_op op_catA (pe_slice sl_tupA (pv 2) (po_some (pv 5)) po_none) (pe_slice sl_tupA (pv 2) po_none (po_some (pv 5)))) (pa_cons (pe_callTy (k_tuple (K := K)) rfl B.tuple_ (by decide +kernel) (pa_cons (pe_c C__law_mixed hr (pa_cons (pv 0) (pa_cons (pv 2) pa_nil))) pa_nil)) (pa_cons (pe_slice sl_tupA (pv 2) po_none (po_some pe_int)) (pa_cons pe_non (pa_cons (pe_tup pa_nil) (pa_cons pe_int (pa_cons pe_str (pa_cons (pe_op op_catA (pe_op op_catA (pe_slice sl_tupA (pv 2) po_none (po_some (pv 3))) (pe_tup (pa_cons pe_non pa_nil))) (pe_slice sl_tupA (pv 2) (po_some (pe_op op_add (pv 3) pe_int)) po_none)) (pa_cons (pe_tup (pa_cons (pv 2) pa_nil)) pa_nil))))))))))))
      (pss_one (ps_ret (pe_c C__law_one hr (pa_cons (pv 0) (pa_cons (pe_op op_cat (pv 6) (pe_lst (pa_cons (pe_callTy (k_tuple (K := K)) rfl B.tuple_ (by decide +kernel) (pa_cons (pe_slice (k_slL (K := K)) (pe_c C__law_mixed hr (pa_cons (pv 0) (pa_cons (pe_ix (k_ixT (K := K)) (pv 1) pe_int (fun _ _ => rfl)) pa_nil))) po_none (po_some (pe_op op_add pe_int (pe_c C__law_draw hr (pa_cons (pv 0) (pa_cons (pe_callB (k_len (K := K)) rfl B.len_ (by decide +kernel) (pa_cons (pe_ix (k_ixT (K := K)) (pv 1) pe_int (fun _ _ => rfl)) pa_nil)) pa_nil)))))) pa_nil)) (pa_cons (pe_op op_catA (pe_op op_catA (pe_slice sl_tupA (pv 2) po_none (po_some (pv 3))) (pe_tup (pa_cons (pe_lst (pa_cons (pv 4) pa_nil)) pa_nil))) (pe_slice sl_tupA (pv 2) (po_some (pe_op op_add (pv 3) pe_int)) po_none)) (pa_cons pe_bl (pa_cons pe_dnewK pa_nil)))))) pa_nil)))))))), ?_⟩
    --@@
    repeat' (walk_at "jv")
    refine ⟨a, ((l.map V.str).length : Nat), c, rfl, f1, by omega, by omega, by omega, fun jv Y1 jv0 jv1 f2 k2 => ?_⟩
    replace s1 := TK.ch k2 f1 _ _ s1
    replace s2 := TK.ch k2 f1 _ _ s2
    replace so := TK.ch k2 f1 _ _ so
    replace kk := Ch.trans kk k2
    clear f1 k2
    have f1 := f2
    clear f2
    obtain ⟨j, rfl⟩ := Int.eq_ofNat_of_zero_le jv0
    have hj : j < l.length := by omega
    have ej : ((j : Nat) : Int) + 1 = ((j + 1 : Nat) : Int) := by omega
    repeat' (walk_at "jv")
    intro M1 nM1
    have dM1 := f1.ne nM1
    have kM1 := Same.upd_new (o := .lst (ps.map V.str)) nM1
    have eM1 : (upd Y1 M1 (.lst (ps.map V.str))) M1 = some (.lst (ps.map V.str)) := upd_same
    generalize upd Y1 M1 (.lst (ps.map V.str)) = X1 at *
    replace s1 := TK.same kM1 _ _ s1
    replace s2 := TK.same kM1 _ _ s2
    replace so := TK.same kM1 _ _ so
    replace f1 := Fd.same f1 kM1
    replace kk := Ch.trans kk (Ch.of_same kM1)
    clear kM1 nM1
    repeat' (walk_at "jv")
    intro M2 nM2
    have dM2 := f1.ne nM2
    have kM2 := Same.upd_new (o := .lst ([.str "lone9"])) nM2
    have eM2 : (upd X1 M2 (.lst ([.str "lone9"]))) M2 = some (.lst ([.str "lone9"])) := upd_same
    generalize upd X1 M2 (.lst ([.str "lone9"])) = X2 at *
    replace s1 := TK.same kM2 _ _ s1
    replace s2 := TK.same kM2 _ _ s2
    replace so := TK.same kM2 _ _ so
    replace f1 := Fd.same f1 kM2
    replace kk := Ch.trans kk (Ch.of_same kM2)
    replace eM1 := kM2 _ _ eM1
    clear kM2 nM2
    repeat' (walk_at "jv")
    refine i_catL eM1 eM2 (by rw [hmp, sizeLine_eq]; show _ + 1 ≤ _; omega) fun M3 nM3 => ?_
    have dM3 := f1.ne nM3
    have kM3 := Same.upd_new (o := .lst (ps.map V.str ++ [.str "lone9"])) nM3
    have eM3 : (upd X2 M3 (.lst (ps.map V.str ++ [.str "lone9"]))) M3 = some (.lst (ps.map V.str ++ [.str "lone9"])) := upd_same
    generalize upd X2 M3 (.lst (ps.map V.str ++ [.str "lone9"])) = X3 at *
    replace s1 := TK.same kM3 _ _ s1
    replace s2 := TK.same kM3 _ _ s2
    replace so := TK.same kM3 _ _ so
    replace f1 := Fd.same f1 kM3
    replace kk := Ch.trans kk (Ch.of_same kM3)
    clear kM3 nM3
    repeat' (walk_at "jv")
    refine ⟨a, M3, _, _, rfl, f1, SqA.l (sq_lst eM3), dM3, by rw [List.length_append]; show 0 < _ + 1; omega, by rw [List.length_append, hmp]; show _ + 1 < _; omega, by omega, fun pv Y2 hpv f2 k2 => ?_⟩
    obtain ⟨pz, rfl, opz⟩ : ∃ z : Str, pv = .str z ∧ PyData.strOk z = true := by
      rcases List.mem_append.mp hpv with h | h
      · obtain ⟨z, hz, rfl⟩ := List.mem_map.mp h
        exact ⟨z, rfl, hps z hz⟩
      · exact ⟨_, List.mem_singleton.mp h, by decide +kernel⟩
    replace s1 := TK.ch k2 f1 _ _ s1
    replace s2 := TK.ch k2 f1 _ _ s2
    replace so := TK.ch k2 f1 _ _ so
    replace kk := Ch.trans kk k2
    clear f1 k2
    have f1 := f2
    clear f2
    repeat' (walk_at "jv")
    refine ⟨a, ((l.map V.str).length : Nat), c + 1 + 1, rfl, f1, by omega, by omega, by omega, fun tv Y3 tv0 tv1 f2 k2 => ?_⟩
    replace s1 := TK.ch k2 f1 _ _ s1
    replace s2 := TK.ch k2 f1 _ _ s2
    replace so := TK.ch k2 f1 _ _ so
    replace kk := Ch.trans kk k2
    clear f1 k2
    have f1 := f2
    clear f2
    obtain ⟨t, rfl⟩ := Int.eq_ofNat_of_zero_le tv0
    have ht : t < l.length := by omega
    repeat' (walk_at "jv")
    have szj : (l.take j).length ≤ 8 ∧ (l.drop (j + 1)).length ≤ 8 ∧ (l.drop j).length ≤ 8 ∧ (l.take t).length ≤ 8 ∧ (l.drop t).length ≤ 8 ∧ (l.take 2).length ≤ 8 := by rw [List.length_take, List.length_drop, List.length_drop, List.length_take, List.length_drop, List.length_take]; omega
    have sum8 : (l.take j).length + (l.drop (j + 1)).length ≤ 40 ∧ (l.take j).length + (l.drop j).length ≤ 40 := by omega
    refine i_revT ?_
    repeat' (walk_at "jv")
    refine ⟨r, l.map V.str, rfl, so, fun RV oRV nRV okRV => ?_⟩
    have dRV := f1.ne nRV
    have kRV := Same.upd_new (o := .frz oRV (.tup ((l.map V.str).reverse))) nRV
    have eRV : SqT K (upd Y3 RV (.frz oRV (.tup ((l.map V.str).reverse)))) RV ((l.map V.str).reverse) := (FT.new okRV).sq
    generalize upd Y3 RV (.frz oRV (.tup ((l.map V.str).reverse))) = X4 at *
    replace s1 := TK.same kRV _ _ s1
    replace s2 := TK.same kRV _ _ s2
    replace so := TK.same kRV _ _ so
    replace f1 := Fd.same f1 kRV
    replace kk := Ch.trans kk (Ch.of_same kRV)
    clear kRV nRV
    rw [← List.map_reverse] at eRV
    have eo : GR K X4 a (.ref RV) := gr_strs eRV (by rw [List.length_reverse]; omega) (fun z hz => hst z (List.mem_reverse.mp hz))
    have bb : GRs K X4 a [.ref RV] := GRs.one eo
    clear eo
    repeat' (walk_at "jv")
    refine i_slG so fun A1 X5 kA1 sA1 => ?_
    rw [show cutV (l.map V.str) none (some ((j : Nat) : Int)) = (l.map V.str).take j from cut_take, ← List.map_take] at sA1
    replace s1 := TK.same kA1 _ _ s1
    replace s2 := TK.same kA1 _ _ s2
    replace so := TK.same kA1 _ _ so
    replace f1 := Fd.same f1 kA1
    replace kk := Ch.trans kk (Ch.of_same kA1)
    replace bb := GRs.same bb kA1
    clear kA1
    repeat' (walk_at "jv")
    rw [ej]
    refine i_slG so fun A2 X6 kA2 sA2 => ?_
    rw [show cutV (l.map V.str) (some ((j + 1 : Nat) : Int)) none = (l.map V.str).drop (j + 1) from cut_from, ← List.map_drop] at sA2
    replace s1 := TK.same kA2 _ _ s1
    replace s2 := TK.same kA2 _ _ s2
    replace so := TK.same kA2 _ _ so
    replace f1 := Fd.same f1 kA2
    replace kk := Ch.trans kk (Ch.of_same kA2)
    replace bb := GRs.same bb kA2
    replace sA1 := TK.same kA2 _ _ sA1
    clear kA2
    repeat' (walk_at "jv")
    refine i_catG sA1 sA2 (by rw [List.length_map, List.length_map, sizeLine_eq]; omega) fun A3 X7 kA3 sA3 => ?_
    replace s1 := TK.same kA3 _ _ s1
    replace s2 := TK.same kA3 _ _ s2
    replace so := TK.same kA3 _ _ so
    replace f1 := Fd.same f1 kA3
    replace kk := Ch.trans kk (Ch.of_same kA3)
    replace bb := GRs.same bb kA3
    replace sA1 := TK.same kA3 _ _ sA1
    clear kA3
    rw [← List.map_append] at sA3
    have eo : GR K X7 a (.ref A3) := gr_strs sA3 (by rw [List.length_append]; omega) (fun z hz => (List.mem_append.mp hz).elim (fun hz => hst z (List.mem_of_mem_take hz)) fun hz => hst z (List.mem_of_mem_drop hz))
    replace bb : GRs K X7 a [.ref RV, .ref A3] := GRs.app bb (GRs.one eo)
    clear eo
    repeat' (walk_at "jv")
    refine i_slG so fun R1A X8 kR1A sR1A => ?_
    rw [show cutV (l.map V.str) none (some ((j : Nat) : Int)) = (l.map V.str).take j from cut_take, ← List.map_take] at sR1A
    replace s1 := TK.same kR1A _ _ s1
    replace s2 := TK.same kR1A _ _ s2
    replace so := TK.same kR1A _ _ so
    replace f1 := Fd.same f1 kR1A
    replace kk := Ch.trans kk (Ch.of_same kR1A)
    replace bb := GRs.same bb kR1A
    clear kR1A
    repeat' (walk_at "jv")
    intro R1B nR1B
    have dR1B := f1.ne nR1B
    have kR1B := Same.upd_new (o := .tup ([.str pz])) nR1B
    have eR1B : SqT K (upd X8 R1B (.tup ([.str pz]))) R1B ([.str pz]) := sq_tup upd_same
    generalize upd X8 R1B (.tup ([.str pz])) = X9 at *
    replace s1 := TK.same kR1B _ _ s1
    replace s2 := TK.same kR1B _ _ s2
    replace so := TK.same kR1B _ _ so
    replace f1 := Fd.same f1 kR1B
    replace kk := Ch.trans kk (Ch.of_same kR1B)
    replace bb := GRs.same bb kR1B
    replace sR1A := TK.same kR1B _ _ sR1A
    clear kR1B nR1B
    repeat' (walk_at "jv")
    refine i_catG sR1A eR1B (by rw [List.length_map, sizeLine_eq]; show _ + 1 ≤ _; omega) fun R1C X10 kR1C sR1C => ?_
    replace s1 := TK.same kR1C _ _ s1
    replace s2 := TK.same kR1C _ _ s2
    replace so := TK.same kR1C _ _ so
    replace f1 := Fd.same f1 kR1C
    replace kk := Ch.trans kk (Ch.of_same kR1C)
    replace bb := GRs.same bb kR1C
    replace sR1A := TK.same kR1C _ _ sR1A
    replace eR1B := TK.same kR1C _ _ eR1B
    clear kR1C
    repeat' (walk_at "jv")
    refine i_slG so fun R1D X11 kR1D sR1D => ?_
    rw [show cutV (l.map V.str) (some ((j : Nat) : Int)) none = (l.map V.str).drop (j) from cut_from, ← List.map_drop] at sR1D
    replace s1 := TK.same kR1D _ _ s1
    replace s2 := TK.same kR1D _ _ s2
    replace so := TK.same kR1D _ _ so
    replace f1 := Fd.same f1 kR1D
    replace kk := Ch.trans kk (Ch.of_same kR1D)
    replace bb := GRs.same bb kR1D
    replace sR1C := TK.same kR1D _ _ sR1C
    clear kR1D
    repeat' (walk_at "jv")
    refine i_catG sR1C sR1D (by rw [List.length_append, List.length_map, List.length_map, sizeLine_eq]; show _ + 1 + _ ≤ _; omega) fun R1F X12 kR1F sR1F => ?_
    replace s1 := TK.same kR1F _ _ s1
    replace s2 := TK.same kR1F _ _ s2
    replace so := TK.same kR1F _ _ so
    replace f1 := Fd.same f1 kR1F
    replace kk := Ch.trans kk (Ch.of_same kR1F)
    replace bb := GRs.same bb kR1F
    replace sR1C := TK.same kR1F _ _ sR1C
    clear kR1F
    have eo : GR K X12 a (.ref R1F) := gr_mid sR1F (.str _) (fun z e => by injection e with e; exact e ▸ opz) (by omega) (fun z hz => hst z (List.mem_of_mem_take hz)) (fun z hz => hst z (List.mem_of_mem_drop hz))
    replace bb : GRs K X12 a [.ref RV, .ref A3, .ref R1F] := GRs.app bb (GRs.one eo)
    clear eo
    repeat' (walk_at "jv")
    refine i_slG so fun R2A X13 kR2A sR2A => ?_
    rw [show cutV (l.map V.str) none (some ((j : Nat) : Int)) = (l.map V.str).take j from cut_take, ← List.map_take] at sR2A
    replace s1 := TK.same kR2A _ _ s1
    replace s2 := TK.same kR2A _ _ s2
    replace so := TK.same kR2A _ _ so
    replace f1 := Fd.same f1 kR2A
    replace kk := Ch.trans kk (Ch.of_same kR2A)
    replace bb := GRs.same bb kR2A
    clear kR2A
    repeat' (walk_at "jv")
    intro R2B nR2B
    have dR2B := f1.ne nR2B
    have kR2B := Same.upd_new (o := .tup ([.str pz])) nR2B
    have eR2B : SqT K (upd X13 R2B (.tup ([.str pz]))) R2B ([.str pz]) := sq_tup upd_same
    generalize upd X13 R2B (.tup ([.str pz])) = X14 at *
    replace s1 := TK.same kR2B _ _ s1
    replace s2 := TK.same kR2B _ _ s2
    replace so := TK.same kR2B _ _ so
    replace f1 := Fd.same f1 kR2B
    replace kk := Ch.trans kk (Ch.of_same kR2B)
    replace bb := GRs.same bb kR2B
    replace sR2A := TK.same kR2B _ _ sR2A
    clear kR2B nR2B
    repeat' (walk_at "jv")
    refine i_catG sR2A eR2B (by rw [List.length_map, sizeLine_eq]; show _ + 1 ≤ _; omega) fun R2C X15 kR2C sR2C => ?_
    replace s1 := TK.same kR2C _ _ s1
    replace s2 := TK.same kR2C _ _ s2
    replace so := TK.same kR2C _ _ so
    replace f1 := Fd.same f1 kR2C
    replace kk := Ch.trans kk (Ch.of_same kR2C)
    replace bb := GRs.same bb kR2C
    replace sR2A := TK.same kR2C _ _ sR2A
    replace eR2B := TK.same kR2C _ _ eR2B
    clear kR2C
    repeat' (walk_at "jv")
    rw [ej]
    refine i_slG so fun R2D X16 kR2D sR2D => ?_
    rw [show cutV (l.map V.str) (some ((j + 1 : Nat) : Int)) none = (l.map V.str).drop (j + 1) from cut_from, ← List.map_drop] at sR2D
    replace s1 := TK.same kR2D _ _ s1
    replace s2 := TK.same kR2D _ _ s2
    replace so := TK.same kR2D _ _ so
    replace f1 := Fd.same f1 kR2D
    replace kk := Ch.trans kk (Ch.of_same kR2D)
    replace bb := GRs.same bb kR2D
    replace sR2C := TK.same kR2D _ _ sR2C
    clear kR2D
    repeat' (walk_at "jv")
    refine i_catG sR2C sR2D (by rw [List.length_append, List.length_map, List.length_map, sizeLine_eq]; show _ + 1 + _ ≤ _; omega) fun R2F X17 kR2F sR2F => ?_
    replace s1 := TK.same kR2F _ _ s1
    replace s2 := TK.same kR2F _ _ s2
    replace so := TK.same kR2F _ _ so
    replace f1 := Fd.same f1 kR2F
    replace kk := Ch.trans kk (Ch.of_same kR2F)
    replace bb := GRs.same bb kR2F
    replace sR2C := TK.same kR2F _ _ sR2C
    clear kR2F
    have eo : GR K X17 a (.ref R2F) := gr_mid sR2F (.str _) (fun z e => by injection e with e; exact e ▸ opz) (by omega) (fun z hz => hst z (List.mem_of_mem_take hz)) (fun z hz => hst z (List.mem_of_mem_drop hz))
    replace bb : GRs K X17 a [.ref RV, .ref A3, .ref R1F, .ref R2F] := GRs.app bb (GRs.one eo)
    clear eo
    repeat' (walk_at "jv")
    refine i_catG so so (by rw [List.length_map, sizeLine_eq]; omega) fun A4 X18 kA4 sA4 => ?_
    replace s1 := TK.same kA4 _ _ s1
    replace s2 := TK.same kA4 _ _ s2
    replace so := TK.same kA4 _ _ so
    replace f1 := Fd.same f1 kA4
    replace kk := Ch.trans kk (Ch.of_same kA4)
    replace bb := GRs.same bb kA4
    clear kA4
    rw [← List.map_append] at sA4
    have eo : GR K X18 a (.ref A4) := gr_strs sA4 (by rw [List.length_append]; omega) (fun z hz => (List.mem_append.mp hz).elim (hst z) (hst z))
    replace bb : GRs K X18 a [.ref RV, .ref A3, .ref R1F, .ref R2F, .ref A4] := GRs.app bb (GRs.one eo)
    clear eo
    repeat' (walk_at "jv")
    intro A5 nA5
    have dA5 := f1.ne nA5
    have kA5 := Same.upd_new (o := .lst (l.map V.str)) nA5
    have eA5 : (upd X18 A5 (.lst (l.map V.str))) A5 = some (.lst (l.map V.str)) := upd_same
    generalize upd X18 A5 (.lst (l.map V.str)) = X19 at *
    replace s1 := TK.same kA5 _ _ s1
    replace s2 := TK.same kA5 _ _ s2
    replace so := TK.same kA5 _ _ so
    replace f1 := Fd.same f1 kA5
    replace kk := Ch.trans kk (Ch.of_same kA5)
    replace bb := GRs.same bb kA5
    clear kA5 nA5
    have eo : GR K X19 a (.ref A5) := gr_no (.lst eA5 dA5 (obStrs l)) rfl
    replace bb : GRs K X19 a [.ref RV, .ref A3, .ref R1F, .ref R2F, .ref A4, .ref A5] := GRs.app bb (GRs.one eo)
    clear eo
    repeat' (walk_at "jv")
    intro LA nLA
    have dLA := f1.ne nLA
    have kLA := Same.upd_new (o := .lst ([.ref RV, .ref A3, .ref R1F, .ref R2F, .ref A4, .ref A5])) nLA
    have eLA : (upd X19 LA (.lst ([.ref RV, .ref A3, .ref R1F, .ref R2F, .ref A4, .ref A5]))) LA = some (.lst ([.ref RV, .ref A3, .ref R1F, .ref R2F, .ref A4, .ref A5])) := upd_same
    generalize upd X19 LA (.lst ([.ref RV, .ref A3, .ref R1F, .ref R2F, .ref A4, .ref A5])) = X20 at *
    replace s1 := TK.same kLA _ _ s1
    replace s2 := TK.same kLA _ _ s2
    replace so := TK.same kLA _ _ so
    replace f1 := Fd.same f1 kLA
    replace kk := Ch.trans kk (Ch.of_same kLA)
    replace bb := GRs.same bb kLA
    clear kLA nLA
    repeat' (walk_at "jv")
    refine i_slG so fun B1 X21 kB1 sB1 => ?_
    rw [show cutV (l.map V.str) (some ((t : Nat) : Int)) none = (l.map V.str).drop (t) from cut_from, ← List.map_drop] at sB1
    replace s1 := TK.same kB1 _ _ s1
    replace s2 := TK.same kB1 _ _ s2
    replace so := TK.same kB1 _ _ so
    replace f1 := Fd.same f1 kB1
    replace kk := Ch.trans kk (Ch.of_same kB1)
    replace bb := GRs.same bb kB1
    replace eLA := kB1 _ _ eLA
    clear kB1
    repeat' (walk_at "jv")
    refine i_slG so fun B2 X22 kB2 sB2 => ?_
    rw [show cutV (l.map V.str) none (some ((t : Nat) : Int)) = (l.map V.str).take t from cut_take, ← List.map_take] at sB2
    replace s1 := TK.same kB2 _ _ s1
    replace s2 := TK.same kB2 _ _ s2
    replace so := TK.same kB2 _ _ so
    replace f1 := Fd.same f1 kB2
    replace kk := Ch.trans kk (Ch.of_same kB2)
    replace bb := GRs.same bb kB2
    replace eLA := kB2 _ _ eLA
    replace sB1 := TK.same kB2 _ _ sB1
    clear kB2
    repeat' (walk_at "jv")
    refine i_catG sB1 sB2 (by rw [List.length_map, List.length_map, sizeLine_eq]; omega) fun B3 X23 kB3 sB3 => ?_
    replace s1 := TK.same kB3 _ _ s1
    replace s2 := TK.same kB3 _ _ s2
    replace so := TK.same kB3 _ _ so
    replace f1 := Fd.same f1 kB3
    replace kk := Ch.trans kk (Ch.of_same kB3)
    replace bb := GRs.same bb kB3
    replace eLA := kB3 _ _ eLA
    replace sB1 := TK.same kB3 _ _ sB1
    clear kB3
    rw [← List.map_append] at sB3
    have eo : GR K X23 a (.ref B3) := gr_strs sB3 (by rw [List.length_append]; omega) (fun z hz => (List.mem_append.mp hz).elim (fun hz => hst z (List.mem_of_mem_drop hz)) fun hz => hst z (List.mem_of_mem_take hz))
    replace bb : GRs K X23 a [.ref RV, .ref A3, .ref R1F, .ref R2F, .ref A4, .ref A5, .ref B3] := GRs.app bb (GRs.one eo)
    clear eo
    repeat' (walk_at "jv")
    refine ⟨a, r, _, _, rfl, f1, so, by omega, by omega, fun qm ys Y4 pm nqm eqm f2 k2 => ?_⟩
    replace s1 := TK.ch k2 f1 _ _ s1
    replace s2 := TK.ch k2 f1 _ _ s2
    replace so := TK.ch k2 f1 _ _ so
    replace kk := Ch.trans kk k2
    replace bb := GRs.ch bb k2 f1
    replace eLA := k2 _ _ dLA eLA
    clear f1 k2
    have f1 := f2
    clear f2
    obtain ⟨zs, rfl, pmz⟩ := perm_strs pm
    have hzl : zs.length = l.length := pmz.length_eq
    repeat' (walk_at "jv")
    intro B4 nB4
    have dB4 := f1.ne nB4
    have kB4 := Same.upd_new (o := .tup (zs.map V.str)) nB4
    have eB4 : SqT K (upd Y4 B4 (.tup (zs.map V.str))) B4 (zs.map V.str) := sq_tup upd_same
    generalize upd Y4 B4 (.tup (zs.map V.str)) = X24 at *
    replace s1 := TK.same kB4 _ _ s1
    replace s2 := TK.same kB4 _ _ s2
    replace so := TK.same kB4 _ _ so
    replace f1 := Fd.same f1 kB4
    replace kk := Ch.trans kk (Ch.of_same kB4)
    replace bb := GRs.same bb kB4
    replace eLA := kB4 _ _ eLA
    clear kB4 nB4
    have eo : GR K X24 a (.ref B4) := gr_strs eB4 (by omega) (fun z hz => hst z (pmz.mem_iff.mp hz))
    replace bb : GRs K X24 a [.ref RV, .ref A3, .ref R1F, .ref R2F, .ref A4, .ref A5, .ref B3, .ref B4] := GRs.app bb (GRs.one eo)
    clear eo
    clear eqm
    repeat' (walk_at "jv")
    refine i_slG so fun B5 X25 kB5 sB5 => ?_
    rw [show cutV (l.map V.str) none (some 2) = (l.map V.str).take 2 from cut_take (k := 2), ← List.map_take] at sB5
    replace s1 := TK.same kB5 _ _ s1
    replace s2 := TK.same kB5 _ _ s2
    replace so := TK.same kB5 _ _ so
    replace f1 := Fd.same f1 kB5
    replace kk := Ch.trans kk (Ch.of_same kB5)
    replace bb := GRs.same bb kB5
    replace eLA := kB5 _ _ eLA
    clear kB5
    have eo : GR K X25 a (.ref B5) := gr_strs sB5 (by omega) (fun z hz => hst z (List.mem_of_mem_take hz))
    replace bb : GRs K X25 a [.ref RV, .ref A3, .ref R1F, .ref R2F, .ref A4, .ref A5, .ref B3, .ref B4, .ref B5] := GRs.app bb (GRs.one eo)
    clear eo
    repeat' (walk_at "jv")
    have eo : GR K X25 a (.non) := gr_no .non rfl
    replace bb : GRs K X25 a [.ref RV, .ref A3, .ref R1F, .ref R2F, .ref A4, .ref A5, .ref B3, .ref B4, .ref B5, .non] := GRs.app bb (GRs.one eo)
    clear eo
    intro B6 nB6
    have dB6 := f1.ne nB6
    have kB6 := Same.upd_new (o := .tup ([])) nB6
    have eB6 : SqT K (upd X25 B6 (.tup ([]))) B6 ([]) := sq_tup upd_same
    generalize upd X25 B6 (.tup ([])) = X26 at *
    replace s1 := TK.same kB6 _ _ s1
    replace s2 := TK.same kB6 _ _ s2
    replace so := TK.same kB6 _ _ so
    replace f1 := Fd.same f1 kB6
    replace kk := Ch.trans kk (Ch.of_same kB6)
    replace bb := GRs.same bb kB6
    replace eLA := kB6 _ _ eLA
    clear kB6 nB6
    have eo : GR K X26 a (.ref B6) := gr_tup eB6 .nil (by decide) (fun z hz => nomatch hz)
    replace bb : GRs K X26 a [.ref RV, .ref A3, .ref R1F, .ref R2F, .ref A4, .ref A5, .ref B3, .ref B4, .ref B5, .non, .ref B6] := GRs.app bb (GRs.one eo)
    clear eo
    have eo : GR K X26 a (.int 7) := gr_no (.int _) rfl
    replace bb : GRs K X26 a [.ref RV, .ref A3, .ref R1F, .ref R2F, .ref A4, .ref A5, .ref B3, .ref B4, .ref B5, .non, .ref B6, .int 7] := GRs.app bb (GRs.one eo)
    clear eo
    have eo : GR K X26 a (.str "ring") := gr_no (.str _) rfl
    replace bb : GRs K X26 a [.ref RV, .ref A3, .ref R1F, .ref R2F, .ref A4, .ref A5, .ref B3, .ref B4, .ref B5, .non, .ref B6, .int 7, .str "ring"] := GRs.app bb (GRs.one eo)
    clear eo
    repeat' (walk_at "jv")
    refine i_slG so fun R3A X27 kR3A sR3A => ?_
    rw [show cutV (l.map V.str) none (some ((j : Nat) : Int)) = (l.map V.str).take j from cut_take, ← List.map_take] at sR3A
    replace s1 := TK.same kR3A _ _ s1
    replace s2 := TK.same kR3A _ _ s2
    replace so := TK.same kR3A _ _ so
    replace f1 := Fd.same f1 kR3A
    replace kk := Ch.trans kk (Ch.of_same kR3A)
    replace bb := GRs.same bb kR3A
    replace eLA := kR3A _ _ eLA
    clear kR3A
    repeat' (walk_at "jv")
    intro R3B nR3B
    have dR3B := f1.ne nR3B
    have kR3B := Same.upd_new (o := .tup ([.non])) nR3B
    have eR3B : SqT K (upd X27 R3B (.tup ([.non]))) R3B ([.non]) := sq_tup upd_same
    generalize upd X27 R3B (.tup ([.non])) = X28 at *
    replace s1 := TK.same kR3B _ _ s1
    replace s2 := TK.same kR3B _ _ s2
    replace so := TK.same kR3B _ _ so
    replace f1 := Fd.same f1 kR3B
    replace kk := Ch.trans kk (Ch.of_same kR3B)
    replace bb := GRs.same bb kR3B
    replace eLA := kR3B _ _ eLA
    replace sR3A := TK.same kR3B _ _ sR3A
    clear kR3B nR3B
    repeat' (walk_at "jv")
    refine i_catG sR3A eR3B (by rw [List.length_map, sizeLine_eq]; show _ + 1 ≤ _; omega) fun R3C X29 kR3C sR3C => ?_
    replace s1 := TK.same kR3C _ _ s1
    replace s2 := TK.same kR3C _ _ s2
    replace so := TK.same kR3C _ _ so
    replace f1 := Fd.same f1 kR3C
    replace kk := Ch.trans kk (Ch.of_same kR3C)
    replace bb := GRs.same bb kR3C
    replace eLA := kR3C _ _ eLA
    replace sR3A := TK.same kR3C _ _ sR3A
    replace eR3B := TK.same kR3C _ _ eR3B
    clear kR3C
    repeat' (walk_at "jv")
    rw [ej]
    refine i_slG so fun R3D X30 kR3D sR3D => ?_
    rw [show cutV (l.map V.str) (some ((j + 1 : Nat) : Int)) none = (l.map V.str).drop (j + 1) from cut_from, ← List.map_drop] at sR3D
    replace s1 := TK.same kR3D _ _ s1
    replace s2 := TK.same kR3D _ _ s2
    replace so := TK.same kR3D _ _ so
    replace f1 := Fd.same f1 kR3D
    replace kk := Ch.trans kk (Ch.of_same kR3D)
    replace bb := GRs.same bb kR3D
    replace eLA := kR3D _ _ eLA
    replace sR3C := TK.same kR3D _ _ sR3C
    clear kR3D
    repeat' (walk_at "jv")
    refine i_catG sR3C sR3D (by rw [List.length_append, List.length_map, List.length_map, sizeLine_eq]; show _ + 1 + _ ≤ _; omega) fun R3F X31 kR3F sR3F => ?_
    replace s1 := TK.same kR3F _ _ s1
    replace s2 := TK.same kR3F _ _ s2
    replace so := TK.same kR3F _ _ so
    replace f1 := Fd.same f1 kR3F
    replace kk := Ch.trans kk (Ch.of_same kR3F)
    replace bb := GRs.same bb kR3F
    replace eLA := kR3F _ _ eLA
    replace sR3C := TK.same kR3F _ _ sR3C
    clear kR3F
    have eo : GR K X31 a (.ref R3F) := gr_mid sR3F .non (fun z e => nomatch e) (by omega) (fun z hz => hst z (List.mem_of_mem_take hz)) (fun z hz => hst z (List.mem_of_mem_drop hz))
    replace bb : GRs K X31 a [.ref RV, .ref A3, .ref R1F, .ref R2F, .ref A4, .ref A5, .ref B3, .ref B4, .ref B5, .non, .ref B6, .int 7, .str "ring", .ref R3F] := GRs.app bb (GRs.one eo)
    clear eo
    repeat' (walk_at "jv")
    intro B7 nB7
    have dB7 := f1.ne nB7
    have kB7 := Same.upd_new (o := .tup ([.ref r])) nB7
    have eB7 : SqT K (upd X31 B7 (.tup ([.ref r]))) B7 ([.ref r]) := sq_tup upd_same
    generalize upd X31 B7 (.tup ([.ref r])) = X32 at *
    replace s1 := TK.same kB7 _ _ s1
    replace s2 := TK.same kB7 _ _ s2
    replace so := TK.same kB7 _ _ so
    replace f1 := Fd.same f1 kB7
    replace kk := Ch.trans kk (Ch.of_same kB7)
    replace bb := GRs.same bb kB7
    replace eLA := kB7 _ _ eLA
    clear kB7 nB7
    have eo : GR K X32 a (.ref B7) := gr_tup eB7 (.cons (.tup so (obStrs l)) .nil) (by show 1 ≤ 50; decide) (fun z hz => nomatch List.mem_singleton.mp hz)
    replace bb : GRs K X32 a [.ref RV, .ref A3, .ref R1F, .ref R2F, .ref A4, .ref A5, .ref B3, .ref B4, .ref B5, .non, .ref B6, .int 7, .str "ring", .ref R3F, .ref B7] := GRs.app bb (GRs.one eo)
    clear eo
    repeat' (walk_at "jv")
    intro LB nLB
    have dLB := f1.ne nLB
    have kLB := Same.upd_new (o := .lst ([.ref B3, .ref B4, .ref B5, .non, .ref B6, .int 7, .str "ring", .ref R3F, .ref B7])) nLB
    have eLB : (upd X32 LB (.lst ([.ref B3, .ref B4, .ref B5, .non, .ref B6, .int 7, .str "ring", .ref R3F, .ref B7]))) LB = some (.lst ([.ref B3, .ref B4, .ref B5, .non, .ref B6, .int 7, .str "ring", .ref R3F, .ref B7])) := upd_same
    generalize upd X32 LB (.lst ([.ref B3, .ref B4, .ref B5, .non, .ref B6, .int 7, .str "ring", .ref R3F, .ref B7])) = X33 at *
    replace s1 := TK.same kLB _ _ s1
    replace s2 := TK.same kLB _ _ s2
    replace so := TK.same kLB _ _ so
    replace f1 := Fd.same f1 kLB
    replace kk := Ch.trans kk (Ch.of_same kLB)
    replace bb := GRs.same bb kLB
    replace eLA := kLB _ _ eLA
    clear kLB nLB
    repeat' (walk_at "jv")
    refine i_catL eLA eLB (by rw [sizeLine_eq]; show 6 + 9 ≤ _; omega) fun LC nLC => ?_
    have dLC := f1.ne nLC
    have kLC := Same.upd_new (o := .lst ([.ref RV, .ref A3, .ref R1F, .ref R2F, .ref A4, .ref A5] ++ [.ref B3, .ref B4, .ref B5, .non, .ref B6, .int 7, .str "ring", .ref R3F, .ref B7])) nLC
    have eLC : (upd X33 LC (.lst ([.ref RV, .ref A3, .ref R1F, .ref R2F, .ref A4, .ref A5] ++ [.ref B3, .ref B4, .ref B5, .non, .ref B6, .int 7, .str "ring", .ref R3F, .ref B7]))) LC = some (.lst ([.ref RV, .ref A3, .ref R1F, .ref R2F, .ref A4, .ref A5] ++ [.ref B3, .ref B4, .ref B5, .non, .ref B6, .int 7, .str "ring", .ref R3F, .ref B7])) := upd_same
    generalize upd X33 LC (.lst ([.ref RV, .ref A3, .ref R1F, .ref R2F, .ref A4, .ref A5] ++ [.ref B3, .ref B4, .ref B5, .non, .ref B6, .int 7, .str "ring", .ref R3F, .ref B7])) = X34 at *
    replace s1 := TK.same kLC _ _ s1
    replace s2 := TK.same kLC _ _ s2
    replace so := TK.same kLC _ _ so
    replace f1 := Fd.same f1 kLC
    replace kk := Ch.trans kk (Ch.of_same kLC)
    replace bb := GRs.same bb kLC
    clear kLC nLC
    repeat' (walk_at "jv")
    refine ⟨a, tp, _, _, rfl, f1, s2, by omega, by omega, fun qn us Y5 pn nqn eqn f2 k2 => ?_⟩
    have dqn : qn ≠ a := f1.ne nqn
    replace s1 := TK.ch k2 f1 _ _ s1
    replace s2 := TK.ch k2 f1 _ _ s2
    replace so := TK.ch k2 f1 _ _ so
    replace kk := Ch.trans kk k2
    replace bb := GRs.ch bb k2 f1
    replace eLC := k2 _ _ dLC eLC
    clear f1 k2
    have f1 := f2
    clear f2
    obtain ⟨ws, rfl, pnz⟩ := perm_strs pn
    have hwl : ws.length = ps.length := pnz.length_eq
    repeat' (walk_at "jv")
    refine ⟨a, ((ps.map V.str).length : Nat), c + 1 + 1 + 1 + 1000 + 1000, rfl, f1, by omega, by omega, by omega, fun uv Y6 uv0 uv1 f2 k2 => ?_⟩
    replace s1 := TK.ch k2 f1 _ _ s1
    replace s2 := TK.ch k2 f1 _ _ s2
    replace so := TK.ch k2 f1 _ _ so
    replace kk := Ch.trans kk k2
    replace bb := GRs.ch bb k2 f1
    replace eLC := k2 _ _ dLC eLC
    replace eqn := k2 _ _ dqn eqn
    clear f1 k2
    have f1 := f2
    clear f2
    obtain ⟨u, rfl⟩ := Int.eq_ofNat_of_zero_le uv0
    have hu : u < ps.length := by omega
    repeat' (walk_at "jv")
    rw [show (1 : Int) + ((u : Nat) : Int) = ((1 + u : Nat) : Int) by omega, show cutV (ws.map V.str) none (some ((1 + u : Nat) : Int)) = (ws.map V.str).take (1 + u) from cut_take, ← List.map_take]
    intro N1 nN1
    have dN1 := f1.ne nN1
    have kN1 := Same.upd_new (o := .lst ((ws.take (1 + u)).map V.str)) nN1
    have eN1 : (upd Y6 N1 (.lst ((ws.take (1 + u)).map V.str))) N1 = some (.lst ((ws.take (1 + u)).map V.str)) := upd_same
    generalize upd Y6 N1 (.lst ((ws.take (1 + u)).map V.str)) = X35 at *
    replace s1 := TK.same kN1 _ _ s1
    replace s2 := TK.same kN1 _ _ s2
    replace so := TK.same kN1 _ _ so
    replace f1 := Fd.same f1 kN1
    replace kk := Ch.trans kk (Ch.of_same kN1)
    replace bb := GRs.same bb kN1
    replace eLC := kN1 _ _ eLC
    replace eqn := kN1 _ _ eqn
    clear kN1 nN1
    repeat' (walk_at "jv")
    intro N2 nN2
    have dN2 := f1.ne nN2
    have kN2 := Same.upd_new (o := .tup ((ws.take (1 + u)).map V.str)) nN2
    have eN2 : SqT K (upd X35 N2 (.tup ((ws.take (1 + u)).map V.str))) N2 ((ws.take (1 + u)).map V.str) := sq_tup upd_same
    generalize upd X35 N2 (.tup ((ws.take (1 + u)).map V.str)) = X36 at *
    replace s1 := TK.same kN2 _ _ s1
    replace s2 := TK.same kN2 _ _ s2
    replace so := TK.same kN2 _ _ so
    replace f1 := Fd.same f1 kN2
    replace kk := Ch.trans kk (Ch.of_same kN2)
    replace bb := GRs.same bb kN2
    replace eLC := kN2 _ _ eLC
    clear kN2 nN2
    have eo : GR K X36 a (.ref N2) := gr_strs eN2 (by rw [List.length_take]; omega) (fun z hz => hps z (pnz.mem_iff.mp (List.mem_of_mem_take hz)))
    replace bb : GRs K X36 a [.ref RV, .ref A3, .ref R1F, .ref R2F, .ref A4, .ref A5, .ref B3, .ref B4, .ref B5, .non, .ref B6, .int 7, .str "ring", .ref R3F, .ref B7, .ref N2] := GRs.app bb (GRs.one eo)
    clear eo
    repeat' (walk_at "jv")
    refine i_slG so fun R4A X37 kR4A sR4A => ?_
    rw [show cutV (l.map V.str) none (some ((j : Nat) : Int)) = (l.map V.str).take j from cut_take, ← List.map_take] at sR4A
    replace s1 := TK.same kR4A _ _ s1
    replace s2 := TK.same kR4A _ _ s2
    replace so := TK.same kR4A _ _ so
    replace f1 := Fd.same f1 kR4A
    replace kk := Ch.trans kk (Ch.of_same kR4A)
    replace bb := GRs.same bb kR4A
    replace eLC := kR4A _ _ eLC
    clear kR4A
    repeat' (walk_at "jv")
    intro BL nBL
    have dBL := f1.ne nBL
    have kBL := Same.upd_new (o := .lst ([.str pz])) nBL
    have eBL : (upd X37 BL (.lst ([.str pz]))) BL = some (.lst ([.str pz])) := upd_same
    generalize upd X37 BL (.lst ([.str pz])) = X38 at *
    replace s1 := TK.same kBL _ _ s1
    replace s2 := TK.same kBL _ _ s2
    replace so := TK.same kBL _ _ so
    replace f1 := Fd.same f1 kBL
    replace kk := Ch.trans kk (Ch.of_same kBL)
    replace bb := GRs.same bb kBL
    replace eLC := kBL _ _ eLC
    replace sR4A := TK.same kBL _ _ sR4A
    clear kBL nBL
    repeat' (walk_at "jv")
    intro R4B nR4B
    have dR4B := f1.ne nR4B
    have kR4B := Same.upd_new (o := .tup ([.ref BL])) nR4B
    have eR4B : SqT K (upd X38 R4B (.tup ([.ref BL]))) R4B ([.ref BL]) := sq_tup upd_same
    generalize upd X38 R4B (.tup ([.ref BL])) = X39 at *
    replace s1 := TK.same kR4B _ _ s1
    replace s2 := TK.same kR4B _ _ s2
    replace so := TK.same kR4B _ _ so
    replace f1 := Fd.same f1 kR4B
    replace kk := Ch.trans kk (Ch.of_same kR4B)
    replace bb := GRs.same bb kR4B
    replace eLC := kR4B _ _ eLC
    replace sR4A := TK.same kR4B _ _ sR4A
    replace eBL := kR4B _ _ eBL
    clear kR4B nR4B
    repeat' (walk_at "jv")
    refine i_catG sR4A eR4B (by rw [List.length_map, sizeLine_eq]; show _ + 1 ≤ _; omega) fun R4C X40 kR4C sR4C => ?_
    replace s1 := TK.same kR4C _ _ s1
    replace s2 := TK.same kR4C _ _ s2
    replace so := TK.same kR4C _ _ so
    replace f1 := Fd.same f1 kR4C
    replace kk := Ch.trans kk (Ch.of_same kR4C)
    replace bb := GRs.same bb kR4C
    replace eLC := kR4C _ _ eLC
    replace sR4A := TK.same kR4C _ _ sR4A
    replace eBL := kR4C _ _ eBL
    replace eR4B := TK.same kR4C _ _ eR4B
    clear kR4C
    repeat' (walk_at "jv")
    rw [ej]
    refine i_slG so fun R4D X41 kR4D sR4D => ?_
    rw [show cutV (l.map V.str) (some ((j + 1 : Nat) : Int)) none = (l.map V.str).drop (j + 1) from cut_from, ← List.map_drop] at sR4D
    replace s1 := TK.same kR4D _ _ s1
    replace s2 := TK.same kR4D _ _ s2
    replace so := TK.same kR4D _ _ so
    replace f1 := Fd.same f1 kR4D
    replace kk := Ch.trans kk (Ch.of_same kR4D)
    replace bb := GRs.same bb kR4D
    replace eLC := kR4D _ _ eLC
    replace eBL := kR4D _ _ eBL
    replace sR4C := TK.same kR4D _ _ sR4C
    clear kR4D
    repeat' (walk_at "jv")
    refine i_catG sR4C sR4D (by rw [List.length_append, List.length_map, List.length_map, sizeLine_eq]; show _ + 1 + _ ≤ _; omega) fun R4F X42 kR4F sR4F => ?_
    replace s1 := TK.same kR4F _ _ s1
    replace s2 := TK.same kR4F _ _ s2
    replace so := TK.same kR4F _ _ so
    replace f1 := Fd.same f1 kR4F
    replace kk := Ch.trans kk (Ch.of_same kR4F)
    replace bb := GRs.same bb kR4F
    replace eLC := kR4F _ _ eLC
    replace eBL := kR4F _ _ eBL
    replace sR4C := TK.same kR4F _ _ sR4C
    clear kR4F
    have eo : GR K X42 a (.ref R4F) := gr_mid sR4F (.lst eBL dBL (.cons (.str _) .nil)) (fun z e => nomatch e) (by omega) (fun z hz => hst z (List.mem_of_mem_take hz)) (fun z hz => hst z (List.mem_of_mem_drop hz))
    replace bb : GRs K X42 a [.ref RV, .ref A3, .ref R1F, .ref R2F, .ref A4, .ref A5, .ref B3, .ref B4, .ref B5, .non, .ref B6, .int 7, .str "ring", .ref R3F, .ref B7, .ref N2, .ref R4F] := GRs.app bb (GRs.one eo)
    clear eo
    repeat' (walk_at "jv")
    have eo : GR K X42 a (.bl true) := gr_no (.bl _) rfl
    replace bb : GRs K X42 a [.ref RV, .ref A3, .ref R1F, .ref R2F, .ref A4, .ref A5, .ref B3, .ref B4, .ref B5, .non, .ref B6, .int 7, .str "ring", .ref R3F, .ref B7, .ref N2, .ref R4F, .bl true] := GRs.app bb (GRs.one eo)
    clear eo
    intro DD nDD
    have dDD := f1.ne nDD
    have kDD := Same.upd_new (o := .dK []) nDD
    have eDD : (upd X42 DD (.dK [])) DD = some (.dK []) := upd_same
    generalize upd X42 DD (.dK []) = X43 at *
    replace s1 := TK.same kDD _ _ s1
    replace s2 := TK.same kDD _ _ s2
    replace so := TK.same kDD _ _ so
    replace f1 := Fd.same f1 kDD
    replace kk := Ch.trans kk (Ch.of_same kDD)
    replace bb := GRs.same bb kDD
    replace eLC := kDD _ _ eLC
    clear kDD nDD
    have eo : GR K X43 a (.ref DD) := gr_no (.dic eDD dDD) rfl
    replace bb : GRs K X43 a [.ref RV, .ref A3, .ref R1F, .ref R2F, .ref A4, .ref A5, .ref B3, .ref B4, .ref B5, .non, .ref B6, .int 7, .str "ring", .ref R3F, .ref B7, .ref N2, .ref R4F, .bl true, .ref DD] := GRs.app bb (GRs.one eo)
    clear eo
    repeat' (walk_at "jv")
    intro LD nLD
    have dLD := f1.ne nLD
    have kLD := Same.upd_new (o := .lst ([.ref N2, .ref R4F, .bl true, .ref DD])) nLD
    have eLD : (upd X43 LD (.lst ([.ref N2, .ref R4F, .bl true, .ref DD]))) LD = some (.lst ([.ref N2, .ref R4F, .bl true, .ref DD])) := upd_same
    generalize upd X43 LD (.lst ([.ref N2, .ref R4F, .bl true, .ref DD])) = X44 at *
    replace s1 := TK.same kLD _ _ s1
    replace s2 := TK.same kLD _ _ s2
    replace so := TK.same kLD _ _ so
    replace f1 := Fd.same f1 kLD
    replace kk := Ch.trans kk (Ch.of_same kLD)
    replace bb := GRs.same bb kLD
    replace eLC := kLD _ _ eLC
    clear kLD nLD
    repeat' (walk_at "jv")
    refine i_catL eLC eLD (by rw [sizeLine_eq]; show 15 + 4 ≤ _; omega) fun LE nLE => ?_
    have dLE := f1.ne nLE
    have kLE := Same.upd_new (o := .lst (([.ref RV, .ref A3, .ref R1F, .ref R2F, .ref A4, .ref A5] ++ [.ref B3, .ref B4, .ref B5, .non, .ref B6, .int 7, .str "ring", .ref R3F, .ref B7]) ++ [.ref N2, .ref R4F, .bl true, .ref DD])) nLE
    have eLE : (upd X44 LE (.lst (([.ref RV, .ref A3, .ref R1F, .ref R2F, .ref A4, .ref A5] ++ [.ref B3, .ref B4, .ref B5, .non, .ref B6, .int 7, .str "ring", .ref R3F, .ref B7]) ++ [.ref N2, .ref R4F, .bl true, .ref DD]))) LE = some (.lst (([.ref RV, .ref A3, .ref R1F, .ref R2F, .ref A4, .ref A5] ++ [.ref B3, .ref B4, .ref B5, .non, .ref B6, .int 7, .str "ring", .ref R3F, .ref B7]) ++ [.ref N2, .ref R4F, .bl true, .ref DD])) := upd_same
    generalize upd X44 LE (.lst (([.ref RV, .ref A3, .ref R1F, .ref R2F, .ref A4, .ref A5] ++ [.ref B3, .ref B4, .ref B5, .non, .ref B6, .int 7, .str "ring", .ref R3F, .ref B7]) ++ [.ref N2, .ref R4F, .bl true, .ref DD])) = X45 at *
    replace s1 := TK.same kLE _ _ s1
    replace s2 := TK.same kLE _ _ s2
    replace so := TK.same kLE _ _ so
    replace f1 := Fd.same f1 kLE
    replace kk := Ch.trans kk (Ch.of_same kLE)
    replace bb := GRs.same bb kLE
    clear kLE nLE
    repeat' (walk_at "jv")
    refine ⟨a, LE, _, _, rfl, f1, SqA.l (sq_lst eLE), dLE, by show 0 < 19; decide, by show 19 < 1000000; decide, by omega, fun y Y7 hy f2 k2 => ?_⟩
    exact q y Y7 ((bb y hy).ch k2 f1) (f2.mono (by omega)) (kk.trans k2)
end
end
section
open L2 PySem PySem.Spec PyProof.Rows
abbrev s__law_bent_arrows : Stmt := topS 42
theorem sc__law_bent_arrows : FnScope ["_law_feed_here", "_law_web_here", "_law_some", "_law_way", "_law_lone", "_law_at", "_law_arrow", "_law_other", "_law_bent_here"] ["_law_feed_here", "_law_web_here", "_law_some"] (defScope s__law_bent_arrows) := ⟨rfl, rfl, rfl, by decide +kernel, rfl, by decide +kernel, by decide +kernel⟩
def spOneT (K : PySem.W.Frag) : Sp := fun vs H Q _ => ∃ (a p : Addr) (c : Int) (xs : List V), vs = [.ref a, .ref p] ∧ Fd H a c ∧ SqT K H p xs ∧ 0 < xs.length ∧ xs.length < 1000000 ∧ c < 10 ^ 15 ∧
  ∀ (v : V) (H' : Hp), v ∈ xs → Fd H' a (c + 1) → Ch a H H' → Q v H'
section
variable {base : Heap} {P : Program} {w : World} {K : PySem.W.Frag} {mg : Str → Option Value}
theorem i_ifCut {k : TT} {t u : TS} {D : Ends} {σ : L2.St} {H : Hp} (PA : Hp → Prop) (main : ∀ N : TS, (∀ H', PA H' → N D σ H') → tIfS k N u D σ H) (rest : ∀ H', PA H' → t D σ H') : tIfS k t u D σ H := main t rest
theorem arrl_nm {ps : List Str} {rs l : List (Str × Str)} (W : IsWeb ps rs) (h : ArrL rs l) : ∀ r ∈ l, nmOk r.1 = true ∧ nmOk r.2 = true := fun r hr => by
  obtain ⟨i, hi, er⟩ := List.getElem_of_mem hr
  have hi' : i < rs.length := by have := h.1; omega
  obtain ⟨e1, e2, _⟩ := W.ends rs[i] (List.getElem_mem hi')
  have h1 := W.names.2 _ e1
  have h2 := W.names.2 _ e2
  have h3 := h.2 i hi'
  rw [List.getD_eq_getElem?_getD, List.getD_eq_getElem?_getD, List.getElem?_eq_getElem hi, List.getElem?_eq_getElem hi', Option.getD_some, Option.getD_some, er] at h3
  rcases h3 with e | e
  · rw [e]
    exact ⟨h1, h2⟩
  · rw [e]
    exact ⟨h2, h1⟩
theorem arrl_ok {ps : List Str} {rs l : List (Str × Str)} (W : IsWeb ps rs) (h : ArrL rs l) : ∀ r ∈ l, PyData.strOk r.1 = true ∧ PyData.strOk r.2 = true := fun r hr => ⟨nmOk_str (arrl_nm W h r hr).1, nmOk_str (arrl_nm W h r hr).2⟩
theorem arrs_shaped {ps : List Str} {rs l : List (Str × Str)} (W : IsWeb ps rs) (h : ArrL rs l) : SeqAt.shaped (rsD l) = true := by
  have key : ∀ m : List (Str × Str), (∀ r ∈ m, PyData.strOk r.1 = true ∧ PyData.strOk r.2 = true) → PyData.canLayAll0 (m.map roadD) = true ∧ PyData.depthAll (m.map roadD) ≤ 1 := by
    intro m
    induction m with
    | nil => exact fun _ => ⟨rfl, Nat.zero_le _⟩
    | cons r m ih =>
      intro h
      obtain ⟨i1, i2⟩ := ih fun q hq => h q (List.mem_cons_of_mem _ hq)
      obtain ⟨h1, h2⟩ := h r List.mem_cons_self
      refine ⟨?_, ?_⟩
      · show ((PyData.strOk r.1 && (PyData.strOk r.2 && true)) && PyData.canLayAll0 (m.map roadD)) = true
        rw [h1, h2, i1]
        rfl
      · show max 1 (PyData.depthAll (m.map roadD)) ≤ 1
        omega
  obtain ⟨k1, k2⟩ := key l (arrl_ok W h)
  show (PyData.canLayAll0 (l.map roadD) && decide (PyData.depthAll (l.map roadD) + 1 ≤ 64)) = true
  rw [k1, decide_eq_true (by omega)]
  rfl
theorem ok_oneT (D : Dn K mg "_law_one" s__law_one ["_law_feed_here", "_law_things"]) (B : Bn mg) (C__law_draw : Cl P w K mg base 1 "_law_draw" ["_law_feed_here", "_law_many"] spDraw) : Cl P w K mg base 2 "_law_one" ["_law_feed_here", "_law_things"] (spOneT K) := by
  refine D.cl sc__law_one (fun vs H Q E h => ?_) (fun f cdv A outer s H vs Q E hr h => ?_)
  · obtain ⟨a, p, c, xs, rfl, _⟩ := h
    rfl
  · obtain ⟨a, p, c, xs, rfl, hf, hp, h0, hz, hc, q⟩ := h
    refine ⟨_, (pss_one (ps_ret (pe_ix (k_ixT (K := K)) (pv 1) (pe_c C__law_draw hr (pa_cons (pv 0) (pa_cons (pe_callB (k_len (K := K)) rfl B.len_ (by decide +kernel) (pa_cons (pv 1) pa_nil)) pa_nil))) (fun _ _ => rfl)))), ?_⟩
    repeat' (walk_at "jv")
    refine ⟨a, xs.length, c, rfl, hf, by omega, by omega, hc, fun r H1 r0 r1 f1 k1 => ?_⟩
    obtain ⟨k, rfl⟩ := Int.eq_ofNat_of_zero_le r0
    have hk : k < xs.length := by omega
    refine i_ixT (TK.ch k1 hf _ _ hp) (atI_nat (List.getElem?_eq_getElem hk)) ?_
    repeat' (walk_at "jv")
    exact q _ _ (List.getElem_mem hk) f1 k1
theorem ok_law_bent (D : Dn K mg "_law_bent_arrows" s__law_bent_arrows ["_law_feed_here", "_law_web_here", "_law_some"]) (B : Bn mg) (C__law_draw : Cl P w K mg base 1 "_law_draw" ["_law_feed_here", "_law_many"] spDraw) (C__law_one : Cl P w K mg base 2 "_law_one" ["_law_feed_here", "_law_things"] (spOne K)) (C__law_mixed : Cl P w K mg base 2 "_law_mixed" ["_law_feed_here", "_law_things"] (spMixedT K)) (C__law_oneT : Cl P w K mg base 2 "_law_one" ["_law_feed_here", "_law_things"] (spOneT K)) : Cl P w K mg base 3 "_law_bent_arrows" ["_law_feed_here", "_law_web_here", "_law_some"] (spBentA K) := by
  refine D.cl sc__law_bent_arrows (fun vs H Q E h => ?_) (fun f cdv A outer s H vs Q E hr h => ?_)
  · obtain ⟨a, T, v, c, ps, rs, l, rfl, _⟩ := h
    rfl
  · obtain ⟨a, T, v, c, ps, rs, l, rfl, hf, hc, hd, W, hT, hl, q⟩ := h
    obtain ⟨wt, tp, tr, ws, rfl, s1, s2, s3, d3, dr, dpl⟩ := web_parts hd
    clear d3 dr dpl s3
    obtain ⟨T', xs, eT, sT, aT⟩ := tup_parts hT
    obtain rfl : T = T' := by injection eT
    have hxl : xs.length = l.length := by rw [DpAll.len aT, List.length_map]
    have h14 := W.le14
    have h15 := hl.1
    have h8 := W.le8
    have hpl : (ps.map V.str).length = ps.length := List.length_map ..
    have nm : ∀ r ∈ l, PyData.strOk r.1 = true ∧ PyData.strOk r.2 = true := arrl_ok W hl
    have gT : NEs K H a xs := ne_roads aT nm
    have kk : Ch a H H := Ch.of_same (Same.refl _)
    obtain ⟨p0, hp0⟩ : ∃ p0, ps[0]? = some p0 := ⟨_, List.getElem?_eq_getElem W.pos⟩
    have op0 : PyData.strOk p0 = true := nmOk_str (W.names.2 _ (List.mem_of_getElem? hp0))
    refine ⟨_, (pss_cons (ps_par (i := 3) (j := 4) rfl sc__law_bent_arrows.nd rfl rfl (by decide) rfl rfl (pa_cons (pe_c C__law_draw hr (pa_cons (pv 0) (pa_cons pe_int pa_nil))) (pa_cons (pe_tup (pa_cons pe_str (pa_cons (pe_ix (k_ixT (K := K)) (pe_ix (k_ixT (K := K)) (pv 1) pe_int (fun _ _ => rfl)) pe_int (fun _ _ => rfl)) pa_nil))) pa_nil)) (by rfl))
      (pss_cons (ps_if (PW.pt (pw_or (pt_cmpR op_eq (pv 3) pe_int (nomark _)) (pw_or1 (pt_cmpR (k_eqD (K := K) hr.units) (pv 2) (pe_tup pa_nil) (nomark _))))) (pss_one (ps_ret (pe_c C__law_one hr (pa_cons (pv 0) (pa_cons (pe_lst (pa_cons pe_non (pa_cons (pe_callTy (k_list (K := K)) rfl B.list_ (by decide +kernel) (pa_cons (pv 2) pa_nil)) (pa_cons (pe_op op_catA (pv 2) (pe_tup (pa_cons (pv 4) pa_nil))) (pa_cons pe_int (pa_cons pe_str (pa_cons pe_dnewK (pa_cons pe_bl (pa_cons (pe_tup (pa_cons (pv 4) pa_nil)) (pa_cons (pe_tup (pa_cons (pe_tup pa_nil) pa_nil)) (pa_cons (pe_op op_catA (pv 2) (pe_slice sl_tupA (pv 2) po_none (po_some pe_int))) pa_nil))))))))))) pa_nil))))) pss_nil)
      (pss_cons (ps_set (i := 5) sc__law_bent_arrows.nd rfl (by first | exact Or.inl rfl | exact Or.inr rfl) (pe_c C__law_draw hr (pa_cons (pv 0) (pa_cons (pe_callB (k_len (K := K)) rfl B.len_ (by decide +kernel) (pa_cons (pv 2) pa_nil)) pa_nil))))
      (pss_cons (ps_par (i := 6) (j := 7) rfl sc__law_bent_arrows.nd rfl rfl (by decide) rfl rfl (pa_cons (pe_ix (k_ixT (K := K)) (pv 2) (pv 5) (fun _ _ => rfl)) (pa_cons (pe_ix (k_ixT (K := K)) (pv 2) (pe_c C__law_draw hr (pa_cons (pv 0) (pa_cons (pe_callB (k_len (K := K)) rfl B.len_ (by decide +kernel) (pa_cons (pv 2) pa_nil)) pa_nil))) (fun _ _ => rfl)) pa_nil)) (by rfl))
      (pss_cons (ps_set (i := 8) sc__law_bent_arrows.nd rfl (by first | exact Or.inl rfl | exact Or.inr rfl) (pe_lst (pa_cons (pe_slice sl_tupA (pv 6) po_none (po_some pe_int)) (pa_cons (pe_op op_catA (pv 6) (pe_slice sl_tupA (pv 6) po_none (po_some pe_int))) (pa_cons (pe_callTy (k_list (K := K)) rfl B.list_ (by decide +kernel) (pa_cons (pv 6) pa_nil)) (pa_cons (pe_tup (pa_cons (pe_ix (k_ixT (K := K)) (pv 6) pe_int (fun _ _ => rfl)) (pa_cons (pe_ix (k_ixT (K := K)) (pv 6) pe_int (fun _ _ => rfl)) pa_nil))) (pa_cons (pe_tup (pa_cons (pe_ix (k_ixT (K := K)) (pv 6) pe_int (fun _ _ => rfl)) (pa_cons pe_str pa_nil))) (pa_cons (pe_tup (pa_cons pe_non (pa_cons (pe_ix (k_ixT (K := K)) (pv 6) pe_int (fun _ _ => rfl)) pa_nil))) (pa_cons (pv 7) (pa_cons pe_non (pa_cons pe_str (pa_cons (pe_tup (pa_cons (pe_lst (pa_cons (pe_ix (k_ixT (K := K)) (pv 6) pe_int (fun _ _ => rfl)) pa_nil)) (pa_cons (pe_ix (k_ixT (K := K)) (pv 6) pe_int (fun _ _ => rfl)) pa_nil))) pa_nil))))))))))))
      (pss_cons (ps_set (i := 8) sc__law_bent_arrows.nd rfl (by first | exact Or.inl rfl | exact Or.inr rfl) (pe_op op_cat (pv 8) (pe_lst (pa_cons (pe_revT (K := K) (pv 6)) (pa_cons (pe_tup (pa_cons (pe_ix (k_ixT (K := K)) (pv 6) pe_int (fun _ _ => rfl)) (pa_cons (pe_c C__law_oneT hr (pa_cons (pv 0) (pa_cons (pe_ix (k_ixT (K := K)) (pv 1) pe_int (fun _ _ => rfl)) pa_nil))) pa_nil))) (pa_cons (pe_tup (pa_cons (pe_op o_addS (pe_ix (k_ixT (K := K)) (pv 6) pe_int (fun _ _ => rfl)) pe_str) (pa_cons (pe_ix (k_ixT (K := K)) (pv 6) pe_int (fun _ _ => rfl)) pa_nil))) (pa_cons (pe_tup (pa_cons (pe_op o_addS (pe_ix (k_ixT (K := K)) (pv 6) pe_int (fun _ _ => rfl)) pe_str) (pa_cons (pe_ix (k_ixT (K := K)) (pv 6) pe_int (fun _ _ => rfl)) pa_nil))) (pa_cons pe_dnewK (pa_cons pe_int (pa_cons (pe_tup (pa_cons (pe_ix (k_ixT (K := K)) (pv 6) pe_int (fun _ _ => rfl)) (pa_cons pe_str pa_nil))) pa_nil))))))))))
      (pss_cons (ps_if (pt_cmpR op_eq (pv 3) pe_int (nomark _)) (pss_one (ps_ret (pe_c C__law_one hr (pa_cons (pv 0) (pa_cons (pe_lst (pa_cons (pe_op op_catA (pe_slice sl_tupA (pv 2) po_none (po_some (pv 5))) (pe_slice sl_tupA (pv 2) (po_some (pe_op op_add (pv 5) pe_int)) po_none)) (pa_cons (pe_callTy (k_tuple (K := K)) rfl B.tuple_ (by decide +kernel) (pa_cons (pe_callB (k_sortedTT (K := K) hr.units) rfl B.sorted_ (by decide +kernel) (pa_cons (pv 2) pa_nil)) pa_nil)) (pa_cons (pe_revT (K := K) (pv 2)) (pa_cons (pe_callTy (k_tuple (K := K)) rfl B.tuple_ (by decide +kernel) (pa_cons (pe_c C__law_mixed hr (pa_cons (pv 0) (pa_cons (pv 2) pa_nil))) pa_nil)) pa_nil))))) pa_nil))))) pss_nil)
      (pss_one (ps_ret (pe_ifExp (pt_cmpR op_eq (pv 3) pe_int (nomark _)) (pe_op op_catA (pe_op op_catA (pe_slice sl_tupA (pv 2) po_none (po_some (pv 5))) (pe_tup (pa_cons (pe_c C__law_one hr (pa_cons (pv 0) (pa_cons (pv 8) pa_nil))) pa_nil))) (pe_slice sl_tupA (pv 2) (po_some (pe_op op_add (pv 5) pe_int)) po_none)) (pe_op op_catA (pe_op op_catA (pe_slice sl_tupA (pv 2) po_none (po_some (pv 5))) (pe_tup (pa_cons (pv 7) pa_nil))) (pe_slice sl_tupA (pv 2) (po_some (pv 5)) po_none)))))))))))), ?_⟩
    --@@
    refine i_seq ?_
    refine i_cutS (fun σ' H' => ∃ wy L0, σ' = [some (.ref a), some (.ref wt), some (.ref T), some (.int wy), some (.ref L0), none, none, none, none] ∧ SqT K H' wt [.ref tp, .ref tr] ∧ SqT K H' tp (ps.map V.str) ∧ SqT K H' T xs ∧ DpAll K H' xs (l.map roadD) ∧ NEs K H' a xs ∧ Ch a H H' ∧ Fd H' a (c + 1) ∧ NE K H' a (.ref L0)) (fun N hN => ?_) (fun σ' H' h' => ?_)
    · skip
      repeat' (walk_at "jv")
      refine ⟨a, 4, c, rfl, hf, by decide, by decide, by omega, fun wy H1 w0 w1 f1 k1 => ?_⟩
      replace s1 := TK.ch k1 hf _ _ s1
      replace s2 := TK.ch k1 hf _ _ s2
      replace sT := TK.ch k1 hf _ _ sT
      replace aT := DpAll.tk (TK.ch k1 hf) _ _ (roads_only _) aT
      replace gT := NEs.ch gT k1 hf
      replace kk := Ch.trans kk k1
      clear k1 hf hd hT
      repeat' (walk_at "jv")
      refine i_ixT s2 (at_str hp0) ?_
      repeat' (walk_at "jv")
      intro L0 nL0
      have dL0 := f1.ne nL0
      have kL0 := Same.upd_new (o := .tup ([.str "lone9", .str p0])) nL0
      have eL0 : SqT K (upd H1 L0 (.tup ([.str "lone9", .str p0]))) L0 ([.str "lone9", .str p0]) := sq_tup upd_same
      generalize upd H1 L0 (.tup ([.str "lone9", .str p0])) = X1 at *
      replace s1 := TK.same kL0 _ _ s1
      replace s2 := TK.same kL0 _ _ s2
      replace sT := TK.same kL0 _ _ sT
      replace aT := DpAll.same kL0 _ _ aT
      replace gT := NEs.same gT kL0
      replace f1 := Fd.same f1 kL0
      replace kk := Ch.trans kk (Ch.of_same kL0)
      clear kL0 nL0
      have gL : NE K X1 a (.ref L0) := ne_tup eL0 (fun x hx => by
        simp only [List.mem_cons, List.not_mem_nil, or_false] at hx
        rcases hx with rfl | rfl
        · exact nx_str (by decide +kernel)
        · exact nx_str op0) (by show 2 ≤ 4; decide)
      repeat' (walk_at "jv")
      exact hN _ _ ⟨wy, L0, rfl, s1, s2, sT, aT, gT, kk, f1, gL⟩
    clear s1 s2 sT aT gT kk hf hd hT
    obtain ⟨wy, L0, rfl, s1, s2, sT, aT, gT, kk, f1, gL⟩ := h'
    refine i_seq ?_
    refine i_ifCut (fun H2 => SqT K H2 wt [.ref tp, .ref tr] ∧ SqT K H2 tp (ps.map V.str) ∧ SqT K H2 T xs ∧ DpAll K H2 xs (l.map roadD) ∧ NEs K H2 a xs ∧ Ch a H H2 ∧ Fd H2 a (c + 1) ∧ NE K H2 a (.ref L0)) (fun N hN => ?_) (fun H2 h2 => ?_)
    · skip
      repeat' (walk_at "jv")
      · exact hN _ ⟨s1, s2, sT, aT, gT, kk, f1, gL⟩
      intro E0 nE0
      have dE0 := f1.ne nE0
      have kE0 := Same.upd_new (o := .tup ([])) nE0
      have eE0 : SqT K (upd H' E0 (.tup ([]))) E0 ([]) := sq_tup upd_same
      generalize upd H' E0 (.tup ([])) = X2 at *
      replace s1 := TK.same kE0 _ _ s1
      replace s2 := TK.same kE0 _ _ s2
      replace sT := TK.same kE0 _ _ sT
      replace aT := DpAll.same kE0 _ _ aT
      replace gT := NEs.same gT kE0
      replace f1 := Fd.same f1 kE0
      replace kk := Ch.trans kk (Ch.of_same kE0)
      replace gL := NE.same gL kE0
      clear kE0 nE0
      have dT0 : Dp K X2 (.ref T) (rsD l) := .tup sT aT
      have lsh : SeqAt.shaped (rsD l) = true := arrs_shaped W hl
      refine ⟨_, .tuple [], dT0, .tup eE0 .nil, lsh, rfl, ?_⟩
      cases hle : l with
      | nil =>
        subst hle
        repeat' (walk_at "jv")
        exact hN _ ⟨s1, s2, sT, aT, gT, kk, f1, gL⟩
      | cons r0 l0 =>
        have hpos : 0 < xs.length := by rw [hxl, hle]; exact Nat.succ_pos _
        refine ⟨false, rfl, ?_⟩
        rw [if_neg (by decide)]
        clear dT0 lsh hle eE0
        repeat' (walk_at "jv")
        refine ⟨a, ((xs.length : Nat) : Int), c + 1, rfl, f1, by omega, by omega, by omega, fun ji X10 ji0 ji1 f2 k2 => ?_⟩
        replace s1 := TK.ch k2 f1 _ _ s1
        replace s2 := TK.ch k2 f1 _ _ s2
        replace sT := TK.ch k2 f1 _ _ sT
        replace aT := DpAll.tk (TK.ch k2 f1) _ _ (roads_only _) aT
        replace gT := NEs.ch gT k2 f1
        replace kk := Ch.trans kk k2
        replace gL := NE.ch gL k2 f1
        clear f1 k2
        have f1 := f2
        clear f2
        obtain ⟨j, rfl⟩ := Int.eq_ofNat_of_zero_le ji0
        have hj : j < xs.length := by omega
        have ej : ((j : Nat) : Int) + 1 = ((j + 1 : Nat) : Int) := by omega
        obtain ⟨ro, ta, hro, exa, sta⟩ := road_get aT (List.getElem?_eq_getElem hj)
        have hxa : xs[j]? = some (.ref ta) := by rw [List.getElem?_eq_getElem hj, exa]
        obtain ⟨ou, ov⟩ := nm ro (List.mem_of_getElem? hro)
        have lou : ro.1.length ≤ 8 := nm_size (arrl_nm W hl ro (List.mem_of_getElem? hro)).1
        repeat' (walk_at "jv")
        refine i_ixT sT (atI_nat hxa) ?_
        repeat' (walk_at "jv")
        refine ⟨a, ((xs.length : Nat) : Int), c + 1 + 1, rfl, f1, by omega, by omega, by omega, fun jo X11 jo0 jo1 f2 k2 => ?_⟩
        replace s1 := TK.ch k2 f1 _ _ s1
        replace s2 := TK.ch k2 f1 _ _ s2
        replace sT := TK.ch k2 f1 _ _ sT
        replace aT := DpAll.tk (TK.ch k2 f1) _ _ (roads_only _) aT
        replace gT := NEs.ch gT k2 f1
        replace kk := Ch.trans kk k2
        replace gL := NE.ch gL k2 f1
        replace sta := TK.ch k2 f1 _ _ sta
        clear f1 k2
        have f1 := f2
        clear f2
        obtain ⟨jb, rfl⟩ := Int.eq_ofNat_of_zero_le jo0
        have hjb : jb < xs.length := by omega
        obtain ⟨rb, tb, _, exb, _⟩ := road_get aT (List.getElem?_eq_getElem hjb)
        have hxb : xs[jb]? = some (.ref tb) := by rw [List.getElem?_eq_getElem hjb, exb]
        have gO : NE K X11 a (.ref tb) := gT _ (List.mem_of_getElem? hxb)
        repeat' (walk_at "jv")
        refine i_ixT sT (atI_nat hxb) ?_
        repeat' (walk_at "jv")
        refine i_slG sta fun A1 X3 kA1 eA1 => ?_
        rw [show (1 : Int) = ((1 : Nat) : Int) from rfl, cut_take] at eA1
        replace s1 := TK.same kA1 _ _ s1
        replace s2 := TK.same kA1 _ _ s2
        replace sT := TK.same kA1 _ _ sT
        replace aT := DpAll.same kA1 _ _ aT
        replace gT := NEs.same gT kA1
        replace f1 := Fd.same f1 kA1
        replace kk := Ch.trans kk (Ch.of_same kA1)
        replace gL := NE.same gL kA1
        replace sta := TK.same kA1 _ _ sta
        replace gO := NE.same gO kA1
        clear kA1
        change SqT K X3 A1 [.str ro.1] at eA1
        have b1 : NE K X3 a (.ref A1) := ne_tup eA1 (fun x hx => by
          simp only [List.mem_cons, List.mem_append, List.not_mem_nil, or_false] at hx
          rcases hx with rfl
          · exact nx_str ou
          ) (by show 1 ≤ 4; decide)
        have bb : NEs K X3 a [.ref A1] := NEs.one b1
        clear b1
        repeat' (walk_at "jv")
        refine i_slG sta fun A2 X4 kA2 eA2 => ?_
        rw [show (1 : Int) = ((1 : Nat) : Int) from rfl, cut_take] at eA2
        replace s1 := TK.same kA2 _ _ s1
        replace s2 := TK.same kA2 _ _ s2
        replace sT := TK.same kA2 _ _ sT
        replace aT := DpAll.same kA2 _ _ aT
        replace gT := NEs.same gT kA2
        replace f1 := Fd.same f1 kA2
        replace kk := Ch.trans kk (Ch.of_same kA2)
        replace gL := NE.same gL kA2
        replace sta := TK.same kA2 _ _ sta
        replace gO := NE.same gO kA2
        replace bb := NEs.same bb kA2
        clear kA2
        change SqT K X4 A2 [.str ro.1] at eA2
        repeat' (walk_at "jv")
        refine i_catG sta eA2 (by rw [sizeLine_eq]; show 2 + 1 ≤ 16777216; decide) fun A3 X5 kA3 eA3 => ?_
        replace s1 := TK.same kA3 _ _ s1
        replace s2 := TK.same kA3 _ _ s2
        replace sT := TK.same kA3 _ _ sT
        replace aT := DpAll.same kA3 _ _ aT
        replace gT := NEs.same gT kA3
        replace f1 := Fd.same f1 kA3
        replace kk := Ch.trans kk (Ch.of_same kA3)
        replace gL := NE.same gL kA3
        replace sta := TK.same kA3 _ _ sta
        replace gO := NE.same gO kA3
        replace bb := NEs.same bb kA3
        clear kA3
        have b2 : NE K X5 a (.ref A3) := ne_tup eA3 (fun x hx => by
          simp only [List.mem_cons, List.mem_append, List.not_mem_nil, or_false] at hx
          rcases hx with (rfl | rfl) | rfl
          · exact nx_str ou
          · exact nx_str ov
          · exact nx_str ou
          ) (by show 3 ≤ 4; decide)
        replace bb : NEs K X5 a [.ref A1, .ref A3] := NEs.app bb (NEs.one b2)
        clear b2
        repeat' (walk_at "jv")
        intro A4 nA4
        have dA4 := f1.ne nA4
        have kA4 := Same.upd_new (o := .lst ([.str ro.1, .str ro.2])) nA4
        have eA4 : (upd X5 A4 (.lst ([.str ro.1, .str ro.2]))) A4 = some (.lst ([.str ro.1, .str ro.2])) := upd_same
        generalize upd X5 A4 (.lst ([.str ro.1, .str ro.2])) = X6 at *
        replace s1 := TK.same kA4 _ _ s1
        replace s2 := TK.same kA4 _ _ s2
        replace sT := TK.same kA4 _ _ sT
        replace aT := DpAll.same kA4 _ _ aT
        replace gT := NEs.same gT kA4
        replace f1 := Fd.same f1 kA4
        replace kk := Ch.trans kk (Ch.of_same kA4)
        replace gL := NE.same gL kA4
        replace sta := TK.same kA4 _ _ sta
        replace gO := NE.same gO kA4
        replace bb := NEs.same bb kA4
        clear kA4 nA4
        have b3 : NE K X6 a (.ref A4) := ne_list eA4 dA4 (fun x hx => by
          simp only [List.mem_cons, List.not_mem_nil, or_false] at hx
          rcases hx with rfl | rfl
          · exact ne_str _
          · exact ne_str _)
        replace bb : NEs K X6 a [.ref A1, .ref A3, .ref A4] := NEs.app bb (NEs.one b3)
        clear b3
        repeat' (walk_at "jv")
        intro A5 nA5
        have dA5 := f1.ne nA5
        have kA5 := Same.upd_new (o := .tup ([.str ro.1, .str ro.1])) nA5
        have eA5 : SqT K (upd X6 A5 (.tup ([.str ro.1, .str ro.1]))) A5 ([.str ro.1, .str ro.1]) := sq_tup upd_same
        generalize upd X6 A5 (.tup ([.str ro.1, .str ro.1])) = X7 at *
        replace s1 := TK.same kA5 _ _ s1
        replace s2 := TK.same kA5 _ _ s2
        replace sT := TK.same kA5 _ _ sT
        replace aT := DpAll.same kA5 _ _ aT
        replace gT := NEs.same gT kA5
        replace f1 := Fd.same f1 kA5
        replace kk := Ch.trans kk (Ch.of_same kA5)
        replace gL := NE.same gL kA5
        replace sta := TK.same kA5 _ _ sta
        replace gO := NE.same gO kA5
        replace bb := NEs.same bb kA5
        clear kA5 nA5
        have b4 : NE K X7 a (.ref A5) := ne_tup eA5 (fun x hx => by
          simp only [List.mem_cons, List.mem_append, List.not_mem_nil, or_false] at hx
          rcases hx with rfl | rfl
          · exact nx_str ou
          · exact nx_str ou
          ) (by show 2 ≤ 4; decide)
        replace bb : NEs K X7 a [.ref A1, .ref A3, .ref A4, .ref A5] := NEs.app bb (NEs.one b4)
        clear b4
        repeat' (walk_at "jv")
        intro A6 nA6
        have dA6 := f1.ne nA6
        have kA6 := Same.upd_new (o := .tup ([.str ro.1, .str "lone9"])) nA6
        have eA6 : SqT K (upd X7 A6 (.tup ([.str ro.1, .str "lone9"]))) A6 ([.str ro.1, .str "lone9"]) := sq_tup upd_same
        generalize upd X7 A6 (.tup ([.str ro.1, .str "lone9"])) = X8 at *
        replace s1 := TK.same kA6 _ _ s1
        replace s2 := TK.same kA6 _ _ s2
        replace sT := TK.same kA6 _ _ sT
        replace aT := DpAll.same kA6 _ _ aT
        replace gT := NEs.same gT kA6
        replace f1 := Fd.same f1 kA6
        replace kk := Ch.trans kk (Ch.of_same kA6)
        replace gL := NE.same gL kA6
        replace sta := TK.same kA6 _ _ sta
        replace gO := NE.same gO kA6
        replace bb := NEs.same bb kA6
        clear kA6 nA6
        have b5 : NE K X8 a (.ref A6) := ne_tup eA6 (fun x hx => by
          simp only [List.mem_cons, List.mem_append, List.not_mem_nil, or_false] at hx
          rcases hx with rfl | rfl
          · exact nx_str ou
          · exact nx_str (by decide +kernel)
          ) (by show 2 ≤ 4; decide)
        replace bb : NEs K X8 a [.ref A1, .ref A3, .ref A4, .ref A5, .ref A6] := NEs.app bb (NEs.one b5)
        clear b5
        repeat' (walk_at "jv")
        intro A7 nA7
        have dA7 := f1.ne nA7
        have kA7 := Same.upd_new (o := .tup ([.non, .str ro.2])) nA7
        have eA7 : SqT K (upd X8 A7 (.tup ([.non, .str ro.2]))) A7 ([.non, .str ro.2]) := sq_tup upd_same
        generalize upd X8 A7 (.tup ([.non, .str ro.2])) = X9 at *
        replace s1 := TK.same kA7 _ _ s1
        replace s2 := TK.same kA7 _ _ s2
        replace sT := TK.same kA7 _ _ sT
        replace aT := DpAll.same kA7 _ _ aT
        replace gT := NEs.same gT kA7
        replace f1 := Fd.same f1 kA7
        replace kk := Ch.trans kk (Ch.of_same kA7)
        replace gL := NE.same gL kA7
        replace sta := TK.same kA7 _ _ sta
        replace gO := NE.same gO kA7
        replace bb := NEs.same bb kA7
        clear kA7 nA7
        have b6 : NE K X9 a (.ref A7) := ne_tup eA7 (fun x hx => by
          simp only [List.mem_cons, List.mem_append, List.not_mem_nil, or_false] at hx
          rcases hx with rfl | rfl
          · exact nx_none
          · exact nx_str ov
          ) (by show 2 ≤ 4; decide)
        replace bb : NEs K X9 a [.ref A1, .ref A3, .ref A4, .ref A5, .ref A6, .ref A7] := NEs.app bb (NEs.one b6)
        clear b6
        repeat' (walk_at "jv")
        intro A8 nA8
        have dA8 := f1.ne nA8
        have kA8 := Same.upd_new (o := .lst ([.str ro.1])) nA8
        have eA8 : (upd X9 A8 (.lst ([.str ro.1]))) A8 = some (.lst ([.str ro.1])) := upd_same
        generalize upd X9 A8 (.lst ([.str ro.1])) = X10 at *
        replace s1 := TK.same kA8 _ _ s1
        replace s2 := TK.same kA8 _ _ s2
        replace sT := TK.same kA8 _ _ sT
        replace aT := DpAll.same kA8 _ _ aT
        replace gT := NEs.same gT kA8
        replace f1 := Fd.same f1 kA8
        replace kk := Ch.trans kk (Ch.of_same kA8)
        replace gL := NE.same gL kA8
        replace sta := TK.same kA8 _ _ sta
        replace gO := NE.same gO kA8
        replace bb := NEs.same bb kA8
        clear kA8 nA8
        repeat' (walk_at "jv")
        intro A9 nA9
        have dA9 := f1.ne nA9
        have kA9 := Same.upd_new (o := .tup ([.ref A8, .str ro.2])) nA9
        have eA9 : SqT K (upd X10 A9 (.tup ([.ref A8, .str ro.2]))) A9 ([.ref A8, .str ro.2]) := sq_tup upd_same
        generalize upd X10 A9 (.tup ([.ref A8, .str ro.2])) = X11 at *
        replace s1 := TK.same kA9 _ _ s1
        replace s2 := TK.same kA9 _ _ s2
        replace sT := TK.same kA9 _ _ sT
        replace aT := DpAll.same kA9 _ _ aT
        replace gT := NEs.same gT kA9
        replace f1 := Fd.same f1 kA9
        replace kk := Ch.trans kk (Ch.of_same kA9)
        replace gL := NE.same gL kA9
        replace sta := TK.same kA9 _ _ sta
        replace gO := NE.same gO kA9
        replace bb := NEs.same bb kA9
        replace eA8 := kA9 _ _ eA8
        clear kA9 nA9
        have b7 : NE K X11 a (.ref A9) := ne_tup eA9 (fun x hx => by
          simp only [List.mem_cons, List.mem_append, List.not_mem_nil, or_false] at hx
          rcases hx with rfl | rfl
          · exact nx_list eA8 dA8 ou
          · exact nx_str ov
          ) (by show 2 ≤ 4; decide)
        replace bb : NEs K X11 a [.ref A1, .ref A3, .ref A4, .ref A5, .ref A6, .ref A7, .ref A9] := NEs.app bb (NEs.one b7)
        clear b7
        repeat' (walk_at "jv")
        intro LB nLB
        have dLB := f1.ne nLB
        have kLB := Same.upd_new (o := .lst ([.ref A1, .ref A3, .ref A4, .ref A5, .ref A6, .ref A7, .ref tb, .non, .str "", .ref A9])) nLB
        have eLB : (upd X11 LB (.lst ([.ref A1, .ref A3, .ref A4, .ref A5, .ref A6, .ref A7, .ref tb, .non, .str "", .ref A9]))) LB = some (.lst ([.ref A1, .ref A3, .ref A4, .ref A5, .ref A6, .ref A7, .ref tb, .non, .str "", .ref A9])) := upd_same
        generalize upd X11 LB (.lst ([.ref A1, .ref A3, .ref A4, .ref A5, .ref A6, .ref A7, .ref tb, .non, .str "", .ref A9])) = X12 at *
        replace s1 := TK.same kLB _ _ s1
        replace s2 := TK.same kLB _ _ s2
        replace sT := TK.same kLB _ _ sT
        replace aT := DpAll.same kLB _ _ aT
        replace gT := NEs.same gT kLB
        replace f1 := Fd.same f1 kLB
        replace kk := Ch.trans kk (Ch.of_same kLB)
        replace gL := NE.same gL kLB
        replace sta := TK.same kLB _ _ sta
        replace gO := NE.same gO kLB
        replace bb := NEs.same bb kLB
        clear kLB nLB
        repeat' (walk_at "jv")
        have rdA : Dp K X12 (.ref ta) (roadD ro) := .tup sta (.cons (.str _) (.cons (.str _) .nil))
        refine rev_road (r := ro) (fun Q' h => by repeat' (first | exact h | walk_at "jv")) rdA (fun yr X13 kR dyr => ?_)
        clear rdA
        replace s1 := TK.same kR _ _ s1
        replace s2 := TK.same kR _ _ s2
        replace sT := TK.same kR _ _ sT
        replace aT := DpAll.same kR _ _ aT
        replace gT := NEs.same gT kR
        replace f1 := Fd.same f1 kR
        replace kk := Ch.trans kk (Ch.of_same kR)
        replace gL := NE.same gL kR
        replace sta := TK.same kR _ _ sta
        replace gO := NE.same gO kR
        replace bb := NEs.same bb kR
        replace eLB := kR _ _ eLB
        clear kR
        have b8 : NE K X13 a yr := ne_road dyr ov ou
        replace bb : NEs K X13 a [.ref A1, .ref A3, .ref A4, .ref A5, .ref A6, .ref A7, .ref A9, yr] := NEs.app bb (NEs.one b8)
        clear b8
        repeat' (walk_at "jv")
        refine ⟨a, tp, _, ps.map V.str, rfl, f1, s2, by have := W.pos; omega, by omega, by omega, fun pv X20 hv f2 k2 => ?_⟩
        replace s1 := TK.ch k2 f1 _ _ s1
        replace s2 := TK.ch k2 f1 _ _ s2
        replace sT := TK.ch k2 f1 _ _ sT
        replace aT := DpAll.tk (TK.ch k2 f1) _ _ (roads_only _) aT
        replace gT := NEs.ch gT k2 f1
        replace kk := Ch.trans kk k2
        replace gL := NE.ch gL k2 f1
        replace sta := TK.ch k2 f1 _ _ sta
        replace gO := NE.ch gO k2 f1
        replace bb := NEs.ch bb k2 f1
        replace eLB := k2 _ _ dLB eLB
        clear f1 k2
        have f1 := f2
        clear f2
        obtain ⟨z, hz, rfl⟩ := List.mem_map.mp hv
        have oz : PyData.strOk z = true := nmOk_str (W.names.2 _ hz)
        repeat' (walk_at "jv")
        intro B2 nB2
        have dB2 := f1.ne nB2
        have kB2 := Same.upd_new (o := .tup ([.str ro.1, .str z])) nB2
        have eB2 : SqT K (upd X20 B2 (.tup ([.str ro.1, .str z]))) B2 ([.str ro.1, .str z]) := sq_tup upd_same
        generalize upd X20 B2 (.tup ([.str ro.1, .str z])) = X14 at *
        replace s1 := TK.same kB2 _ _ s1
        replace s2 := TK.same kB2 _ _ s2
        replace sT := TK.same kB2 _ _ sT
        replace aT := DpAll.same kB2 _ _ aT
        replace gT := NEs.same gT kB2
        replace f1 := Fd.same f1 kB2
        replace kk := Ch.trans kk (Ch.of_same kB2)
        replace gL := NE.same gL kB2
        replace sta := TK.same kB2 _ _ sta
        replace gO := NE.same gO kB2
        replace bb := NEs.same bb kB2
        replace eLB := kB2 _ _ eLB
        clear kB2 nB2
        have b9 : NE K X14 a (.ref B2) := ne_tup eB2 (fun x hx => by
          simp only [List.mem_cons, List.mem_append, List.not_mem_nil, or_false] at hx
          rcases hx with rfl | rfl
          · exact nx_str ou
          · exact nx_str oz
          ) (by show 2 ≤ 4; decide)
        replace bb : NEs K X14 a [.ref A1, .ref A3, .ref A4, .ref A5, .ref A6, .ref A7, .ref A9, yr, .ref B2] := NEs.app bb (NEs.one b9)
        clear b9
        repeat' (walk_at "jv")
        refine ⟨ro.1, "q", rfl, rfl, by rw [sizeLine_eq]; show _ + 1 ≤ _; omega, ?_⟩
        repeat' (walk_at "jv")
        intro B3 nB3
        have dB3 := f1.ne nB3
        have kB3 := Same.upd_new (o := .tup ([.str (ro.1 ++ "q"), .str ro.2])) nB3
        have eB3 : SqT K (upd X14 B3 (.tup ([.str (ro.1 ++ "q"), .str ro.2]))) B3 ([.str (ro.1 ++ "q"), .str ro.2]) := sq_tup upd_same
        generalize upd X14 B3 (.tup ([.str (ro.1 ++ "q"), .str ro.2])) = X15 at *
        replace s1 := TK.same kB3 _ _ s1
        replace s2 := TK.same kB3 _ _ s2
        replace sT := TK.same kB3 _ _ sT
        replace aT := DpAll.same kB3 _ _ aT
        replace gT := NEs.same gT kB3
        replace f1 := Fd.same f1 kB3
        replace kk := Ch.trans kk (Ch.of_same kB3)
        replace gL := NE.same gL kB3
        replace sta := TK.same kB3 _ _ sta
        replace gO := NE.same gO kB3
        replace bb := NEs.same bb kB3
        replace eLB := kB3 _ _ eLB
        clear kB3 nB3
        have b10 : NE K X15 a (.ref B3) := ne_tup eB3 (fun x hx => by
          simp only [List.mem_cons, List.mem_append, List.not_mem_nil, or_false] at hx
          rcases hx with rfl | rfl
          · exact nx_str (strOk_add ou (by decide +kernel))
          · exact nx_str ov
          ) (by show 2 ≤ 4; decide)
        replace bb : NEs K X15 a [.ref A1, .ref A3, .ref A4, .ref A5, .ref A6, .ref A7, .ref A9, yr, .ref B2, .ref B3] := NEs.app bb (NEs.one b10)
        clear b10
        repeat' (walk_at "jv")
        refine ⟨ro.1, "1", rfl, rfl, by rw [sizeLine_eq]; show _ + 1 ≤ _; omega, ?_⟩
        repeat' (walk_at "jv")
        intro B4 nB4
        have dB4 := f1.ne nB4
        have kB4 := Same.upd_new (o := .tup ([.str (ro.1 ++ "1"), .str ro.2])) nB4
        have eB4 : SqT K (upd X15 B4 (.tup ([.str (ro.1 ++ "1"), .str ro.2]))) B4 ([.str (ro.1 ++ "1"), .str ro.2]) := sq_tup upd_same
        generalize upd X15 B4 (.tup ([.str (ro.1 ++ "1"), .str ro.2])) = X16 at *
        replace s1 := TK.same kB4 _ _ s1
        replace s2 := TK.same kB4 _ _ s2
        replace sT := TK.same kB4 _ _ sT
        replace aT := DpAll.same kB4 _ _ aT
        replace gT := NEs.same gT kB4
        replace f1 := Fd.same f1 kB4
        replace kk := Ch.trans kk (Ch.of_same kB4)
        replace gL := NE.same gL kB4
        replace sta := TK.same kB4 _ _ sta
        replace gO := NE.same gO kB4
        replace bb := NEs.same bb kB4
        replace eLB := kB4 _ _ eLB
        clear kB4 nB4
        have b11 : NE K X16 a (.ref B4) := ne_tup eB4 (fun x hx => by
          simp only [List.mem_cons, List.mem_append, List.not_mem_nil, or_false] at hx
          rcases hx with rfl | rfl
          · exact nx_str (strOk_add ou (by decide +kernel))
          · exact nx_str ov
          ) (by show 2 ≤ 4; decide)
        replace bb : NEs K X16 a [.ref A1, .ref A3, .ref A4, .ref A5, .ref A6, .ref A7, .ref A9, yr, .ref B2, .ref B3, .ref B4] := NEs.app bb (NEs.one b11)
        clear b11
        repeat' (walk_at "jv")
        intro DJ nDJ
        have dDJ := f1.ne nDJ
        have kDJ := Same.upd_new (o := .dK []) nDJ
        have eDJ : (upd X16 DJ (.dK [])) DJ = some (.dK []) := upd_same
        generalize upd X16 DJ (.dK []) = X17 at *
        replace s1 := TK.same kDJ _ _ s1
        replace s2 := TK.same kDJ _ _ s2
        replace sT := TK.same kDJ _ _ sT
        replace aT := DpAll.same kDJ _ _ aT
        replace gT := NEs.same gT kDJ
        replace f1 := Fd.same f1 kDJ
        replace kk := Ch.trans kk (Ch.of_same kDJ)
        replace gL := NE.same gL kDJ
        replace sta := TK.same kDJ _ _ sta
        replace gO := NE.same gO kDJ
        replace bb := NEs.same bb kDJ
        replace eLB := kDJ _ _ eLB
        clear kDJ nDJ
        have b12 : NE K X17 a (.ref DJ) := ne_dict eDJ dDJ
        replace bb : NEs K X17 a [.ref A1, .ref A3, .ref A4, .ref A5, .ref A6, .ref A7, .ref A9, yr, .ref B2, .ref B3, .ref B4, .ref DJ] := NEs.app bb (NEs.one b12)
        clear b12
        repeat' (walk_at "jv")
        intro B6 nB6
        have dB6 := f1.ne nB6
        have kB6 := Same.upd_new (o := .tup ([.str ro.1, .str ""])) nB6
        have eB6 : SqT K (upd X17 B6 (.tup ([.str ro.1, .str ""]))) B6 ([.str ro.1, .str ""]) := sq_tup upd_same
        generalize upd X17 B6 (.tup ([.str ro.1, .str ""])) = X18 at *
        replace s1 := TK.same kB6 _ _ s1
        replace s2 := TK.same kB6 _ _ s2
        replace sT := TK.same kB6 _ _ sT
        replace aT := DpAll.same kB6 _ _ aT
        replace gT := NEs.same gT kB6
        replace f1 := Fd.same f1 kB6
        replace kk := Ch.trans kk (Ch.of_same kB6)
        replace gL := NE.same gL kB6
        replace sta := TK.same kB6 _ _ sta
        replace gO := NE.same gO kB6
        replace bb := NEs.same bb kB6
        replace eLB := kB6 _ _ eLB
        clear kB6 nB6
        have b13 : NE K X18 a (.ref B6) := ne_tup eB6 (fun x hx => by
          simp only [List.mem_cons, List.mem_append, List.not_mem_nil, or_false] at hx
          rcases hx with rfl | rfl
          · exact nx_str ou
          · exact nx_str (by decide +kernel)
          ) (by show 2 ≤ 4; decide)
        replace bb : NEs K X18 a [.ref A1, .ref A3, .ref A4, .ref A5, .ref A6, .ref A7, .ref A9, yr, .ref B2, .ref B3, .ref B4, .ref DJ, .ref B6] := NEs.app bb (NEs.one b13)
        clear b13
        repeat' (walk_at "jv")
        intro LC nLC
        have dLC := f1.ne nLC
        have kLC := Same.upd_new (o := .lst ([yr, .ref B2, .ref B3, .ref B4, .ref DJ, .int 7, .ref B6])) nLC
        have eLC : (upd X18 LC (.lst ([yr, .ref B2, .ref B3, .ref B4, .ref DJ, .int 7, .ref B6]))) LC = some (.lst ([yr, .ref B2, .ref B3, .ref B4, .ref DJ, .int 7, .ref B6])) := upd_same
        generalize upd X18 LC (.lst ([yr, .ref B2, .ref B3, .ref B4, .ref DJ, .int 7, .ref B6])) = X19 at *
        replace s1 := TK.same kLC _ _ s1
        replace s2 := TK.same kLC _ _ s2
        replace sT := TK.same kLC _ _ sT
        replace aT := DpAll.same kLC _ _ aT
        replace gT := NEs.same gT kLC
        replace f1 := Fd.same f1 kLC
        replace kk := Ch.trans kk (Ch.of_same kLC)
        replace gL := NE.same gL kLC
        replace sta := TK.same kLC _ _ sta
        replace gO := NE.same gO kLC
        replace bb := NEs.same bb kLC
        replace eLB := kLC _ _ eLB
        clear kLC nLC
        repeat' (walk_at "jv")
        refine i_catL eLB eLC (by rw [sizeLine_eq]; show 10 + 7 ≤ _; omega) fun LD nLD => ?_
        have dLD := f1.ne nLD
        have kLD := Same.upd_new (o := .lst ([.ref A1, .ref A3, .ref A4, .ref A5, .ref A6, .ref A7, .ref tb, .non, .str "", .ref A9] ++ [yr, .ref B2, .ref B3, .ref B4, .ref DJ, .int 7, .ref B6])) nLD
        have eLD : (upd X19 LD (.lst ([.ref A1, .ref A3, .ref A4, .ref A5, .ref A6, .ref A7, .ref tb, .non, .str "", .ref A9] ++ [yr, .ref B2, .ref B3, .ref B4, .ref DJ, .int 7, .ref B6]))) LD = some (.lst ([.ref A1, .ref A3, .ref A4, .ref A5, .ref A6, .ref A7, .ref tb, .non, .str "", .ref A9] ++ [yr, .ref B2, .ref B3, .ref B4, .ref DJ, .int 7, .ref B6])) := upd_same
        generalize upd X19 LD (.lst ([.ref A1, .ref A3, .ref A4, .ref A5, .ref A6, .ref A7, .ref tb, .non, .str "", .ref A9] ++ [yr, .ref B2, .ref B3, .ref B4, .ref DJ, .int 7, .ref B6])) = X20 at *
        replace s1 := TK.same kLD _ _ s1
        replace s2 := TK.same kLD _ _ s2
        replace sT := TK.same kLD _ _ sT
        replace aT := DpAll.same kLD _ _ aT
        replace gT := NEs.same gT kLD
        replace f1 := Fd.same f1 kLD
        replace kk := Ch.trans kk (Ch.of_same kLD)
        replace gL := NE.same gL kLD
        replace sta := TK.same kLD _ _ sta
        replace gO := NE.same gO kLD
        replace bb := NEs.same bb kLD
        clear kLD nLD
        have gD : NEs K X20 a ([.ref A1, .ref A3, .ref A4, .ref A5, .ref A6, .ref A7, .ref tb, .non, .str "", .ref A9] ++ [yr, .ref B2, .ref B3, .ref B4, .ref DJ, .int 7, .ref B6]) := fun x hx => by
          simp only [List.mem_cons, List.mem_append, List.not_mem_nil, or_false] at hx
          rcases hx with (rfl | rfl | rfl | rfl | rfl | rfl | rfl | rfl | rfl | rfl) | rfl | rfl | rfl | rfl | rfl | rfl | rfl
          · exact bb _ (by simp)
          · exact bb _ (by simp)
          · exact bb _ (by simp)
          · exact bb _ (by simp)
          · exact bb _ (by simp)
          · exact bb _ (by simp)
          · exact gO
          · exact ne_none
          · exact ne_str ""
          · exact bb _ (by simp)
          · exact bb _ (by simp)
          · exact bb _ (by simp)
          · exact bb _ (by simp)
          · exact bb _ (by simp)
          · exact bb _ (by simp)
          · exact ne_int 7
          · exact bb _ (by simp)
        clear bb
        repeat' (walk_at "jv")
        · skip
          refine i_slG sT fun P1 X21 kP1 eP1 => ?_
          rw [cut_take] at eP1
          replace s1 := TK.same kP1 _ _ s1
          replace s2 := TK.same kP1 _ _ s2
          replace sT := TK.same kP1 _ _ sT
          replace aT := DpAll.same kP1 _ _ aT
          replace gT := NEs.same gT kP1
          replace f1 := Fd.same f1 kP1
          replace kk := Ch.trans kk (Ch.of_same kP1)
          replace gL := NE.same gL kP1
          replace sta := TK.same kP1 _ _ sta
          replace gO := NE.same gO kP1
          replace eLD := kP1 _ _ eLD
          replace gD := NEs.same gD kP1
          clear kP1
          repeat' (walk_at "jv")
          refine i_slG sT fun P2 X22 kP2 eP2 => ?_
          rw [ej, cut_from] at eP2
          replace s1 := TK.same kP2 _ _ s1
          replace s2 := TK.same kP2 _ _ s2
          replace sT := TK.same kP2 _ _ sT
          replace aT := DpAll.same kP2 _ _ aT
          replace gT := NEs.same gT kP2
          replace f1 := Fd.same f1 kP2
          replace kk := Ch.trans kk (Ch.of_same kP2)
          replace gL := NE.same gL kP2
          replace sta := TK.same kP2 _ _ sta
          replace gO := NE.same gO kP2
          replace eLD := kP2 _ _ eLD
          replace gD := NEs.same gD kP2
          replace eP1 := TK.same kP2 _ _ eP1
          clear kP2
          repeat' (walk_at "jv")
          refine i_catG eP1 eP2 (by rw [List.length_take, List.length_drop, sizeLine_eq]; omega) fun P3 X23 kP3 eP3 => ?_
          replace s1 := TK.same kP3 _ _ s1
          replace s2 := TK.same kP3 _ _ s2
          replace sT := TK.same kP3 _ _ sT
          replace aT := DpAll.same kP3 _ _ aT
          replace gT := NEs.same gT kP3
          replace f1 := Fd.same f1 kP3
          replace kk := Ch.trans kk (Ch.of_same kP3)
          replace gL := NE.same gL kP3
          replace sta := TK.same kP3 _ _ sta
          replace gO := NE.same gO kP3
          replace eLD := kP3 _ _ eLD
          replace gD := NEs.same gD kP3
          replace eP1 := TK.same kP3 _ _ eP1
          replace eP2 := TK.same kP3 _ _ eP2
          clear kP3
          have w1 : NT K X23 a (.ref P3) := nt_tup eP3 ((gT.take j).app (gT.drop (j + 1))) (by rw [List.length_append, List.length_take, List.length_drop]; omega)
          repeat' (walk_at "jv")
          obtain ⟨L, eL, hk, hne⟩ := roads_L aT
          have hLl : L.length = xs.length := by rw [eL, List.length_map]
          refine ⟨T, L, rfl, by rw [← eL]; exact sT, hk, hne, by omega, fun SO nSO => ?_⟩
          clear hk hne
          have dSO := f1.ne nSO
          have kSO := Same.upd_new (o := .lst ((L.mergeSort (PySem.W.dataLe false fun p => tsD p.2)).map fun p => V.ref p.1)) nSO
          have eSO : (upd X23 SO (.lst ((L.mergeSort (PySem.W.dataLe false fun p => tsD p.2)).map fun p => V.ref p.1))) SO = some (.lst ((L.mergeSort (PySem.W.dataLe false fun p => tsD p.2)).map fun p => V.ref p.1)) := upd_same
          generalize upd X23 SO (.lst ((L.mergeSort (PySem.W.dataLe false fun p => tsD p.2)).map fun p => V.ref p.1)) = X24 at *
          replace s1 := TK.same kSO _ _ s1
          replace s2 := TK.same kSO _ _ s2
          replace sT := TK.same kSO _ _ sT
          replace aT := DpAll.same kSO _ _ aT
          replace gT := NEs.same gT kSO
          replace f1 := Fd.same f1 kSO
          replace kk := Ch.trans kk (Ch.of_same kSO)
          replace gL := NE.same gL kSO
          replace sta := TK.same kSO _ _ sta
          replace gO := NE.same gO kSO
          replace eLD := kSO _ _ eLD
          replace gD := NEs.same gD kSO
          replace w1 := NT.same w1 kSO
          clear kSO nSO
          repeat' (walk_at "jv")
          intro TS nTS
          have dTS := f1.ne nTS
          have kTS := Same.upd_new (o := .tup ((L.mergeSort (PySem.W.dataLe false fun p => tsD p.2)).map fun p => V.ref p.1)) nTS
          have eTS : SqT K (upd X24 TS (.tup ((L.mergeSort (PySem.W.dataLe false fun p => tsD p.2)).map fun p => V.ref p.1))) TS ((L.mergeSort (PySem.W.dataLe false fun p => tsD p.2)).map fun p => V.ref p.1) := sq_tup upd_same
          generalize upd X24 TS (.tup ((L.mergeSort (PySem.W.dataLe false fun p => tsD p.2)).map fun p => V.ref p.1)) = X25 at *
          replace s1 := TK.same kTS _ _ s1
          replace s2 := TK.same kTS _ _ s2
          replace sT := TK.same kTS _ _ sT
          replace aT := DpAll.same kTS _ _ aT
          replace gT := NEs.same gT kTS
          replace f1 := Fd.same f1 kTS
          replace kk := Ch.trans kk (Ch.of_same kTS)
          replace gL := NE.same gL kTS
          replace sta := TK.same kTS _ _ sta
          replace gO := NE.same gO kTS
          replace eLD := kTS _ _ eLD
          replace gD := NEs.same gD kTS
          replace w1 := NT.same w1 kTS
          replace eSO := kTS _ _ eSO
          clear kTS nTS
          have w2 : NT K X25 a (.ref TS) := nt_tup eTS (gT.perm (by rw [eL]; exact (List.mergeSort_perm L _).map _)) (by rw [List.length_map, (List.mergeSort_perm L _).length_eq]; omega)
          repeat' (walk_at "jv")
          refine i_revT ?_
          repeat' (walk_at "jv")
          refine ⟨T, xs, rfl, sT, fun RV oRV nRV okRV => ?_⟩
          have dRV := f1.ne nRV
          have kRV := Same.upd_new (o := .frz oRV (.tup (xs.reverse))) nRV
          have eRV : SqT K (upd X25 RV (.frz oRV (.tup (xs.reverse)))) RV (xs.reverse) := (FT.new okRV).sq
          generalize upd X25 RV (.frz oRV (.tup (xs.reverse))) = X26 at *
          replace s1 := TK.same kRV _ _ s1
          replace s2 := TK.same kRV _ _ s2
          replace sT := TK.same kRV _ _ sT
          replace aT := DpAll.same kRV _ _ aT
          replace gT := NEs.same gT kRV
          replace f1 := Fd.same f1 kRV
          replace kk := Ch.trans kk (Ch.of_same kRV)
          replace gL := NE.same gL kRV
          replace sta := TK.same kRV _ _ sta
          replace gO := NE.same gO kRV
          replace eLD := kRV _ _ eLD
          replace gD := NEs.same gD kRV
          replace w1 := NT.same w1 kRV
          replace w2 := NT.same w2 kRV
          clear kRV nRV
          have w3 : NT K X26 a (.ref RV) := nt_tup eRV gT.rev (by rw [List.length_reverse]; omega)
          repeat' (walk_at "jv")
          refine ⟨a, T, _, xs, rfl, f1, sT, by omega, by omega, fun qm ys X30 pm nqm eqm f2 k2 => ?_⟩
          replace s1 := TK.ch k2 f1 _ _ s1
          replace s2 := TK.ch k2 f1 _ _ s2
          replace sT := TK.ch k2 f1 _ _ sT
          replace aT := DpAll.tk (TK.ch k2 f1) _ _ (roads_only _) aT
          replace gT := NEs.ch gT k2 f1
          replace kk := Ch.trans kk k2
          replace gL := NE.ch gL k2 f1
          replace sta := TK.ch k2 f1 _ _ sta
          replace gO := NE.ch gO k2 f1
          replace gD := NEs.ch gD k2 f1
          replace w1 := NT.ch w1 k2 f1
          replace w2 := NT.ch w2 k2 f1
          replace w3 := NT.ch w3 k2 f1
          clear f1 k2
          have f1 := f2
          clear f2
          repeat' (walk_at "jv")
          intro TQ nTQ
          have dTQ := f1.ne nTQ
          have kTQ := Same.upd_new (o := .tup (ys)) nTQ
          have eTQ : SqT K (upd X30 TQ (.tup (ys))) TQ (ys) := sq_tup upd_same
          generalize upd X30 TQ (.tup (ys)) = X27 at *
          replace s1 := TK.same kTQ _ _ s1
          replace s2 := TK.same kTQ _ _ s2
          replace sT := TK.same kTQ _ _ sT
          replace aT := DpAll.same kTQ _ _ aT
          replace gT := NEs.same gT kTQ
          replace f1 := Fd.same f1 kTQ
          replace kk := Ch.trans kk (Ch.of_same kTQ)
          replace gL := NE.same gL kTQ
          replace sta := TK.same kTQ _ _ sta
          replace gO := NE.same gO kTQ
          replace gD := NEs.same gD kTQ
          replace w1 := NT.same w1 kTQ
          replace w2 := NT.same w2 kTQ
          replace w3 := NT.same w3 kTQ
          clear kTQ nTQ
          have w4 : NT K X27 a (.ref TQ) := nt_tup eTQ (gT.perm pm) (by rw [pm.length_eq]; omega)
          repeat' (walk_at "jv")
          intro LW nLW
          have dLW := f1.ne nLW
          have kLW := Same.upd_new (o := .lst ([.ref P3, .ref TS, .ref RV, .ref TQ])) nLW
          have eLW : (upd X27 LW (.lst ([.ref P3, .ref TS, .ref RV, .ref TQ]))) LW = some (.lst ([.ref P3, .ref TS, .ref RV, .ref TQ])) := upd_same
          generalize upd X27 LW (.lst ([.ref P3, .ref TS, .ref RV, .ref TQ])) = X28 at *
          replace s1 := TK.same kLW _ _ s1
          replace s2 := TK.same kLW _ _ s2
          replace sT := TK.same kLW _ _ sT
          replace aT := DpAll.same kLW _ _ aT
          replace gT := NEs.same gT kLW
          replace f1 := Fd.same f1 kLW
          replace kk := Ch.trans kk (Ch.of_same kLW)
          replace gL := NE.same gL kLW
          replace sta := TK.same kLW _ _ sta
          replace gO := NE.same gO kLW
          replace gD := NEs.same gD kLW
          replace w1 := NT.same w1 kLW
          replace w2 := NT.same w2 kLW
          replace w3 := NT.same w3 kLW
          replace w4 := NT.same w4 kLW
          clear kLW nLW
          repeat' (walk_at "jv")
          refine ⟨a, LW, _, _, rfl, f1, SqA.l (sq_lst eLW), dLW, by show 0 < 4; decide, by show 4 < 1000000; decide, by omega, fun y H9 hy f9 k9 => ?_⟩
          have gy : NT K X28 a y := by
            simp only [List.mem_cons, List.not_mem_nil, or_false] at hy
            rcases hy with rfl | rfl | rfl | rfl
            · exact w1
            · exact w2
            · exact w3
            · exact w4
          exact q y H9 (gy.ch k9 f1) (f9.mono (by omega)) (kk.trans k9)
        · skip
          refine i_slG sT fun P1 X29 kP1 eP1 => ?_
          rw [cut_take] at eP1
          replace s1 := TK.same kP1 _ _ s1
          replace s2 := TK.same kP1 _ _ s2
          replace sT := TK.same kP1 _ _ sT
          replace aT := DpAll.same kP1 _ _ aT
          replace gT := NEs.same gT kP1
          replace f1 := Fd.same f1 kP1
          replace kk := Ch.trans kk (Ch.of_same kP1)
          replace gL := NE.same gL kP1
          replace sta := TK.same kP1 _ _ sta
          replace gO := NE.same gO kP1
          replace eLD := kP1 _ _ eLD
          replace gD := NEs.same gD kP1
          clear kP1
          repeat' (walk_at "jv")
          refine ⟨a, LD, _, _, rfl, f1, SqA.l (sq_lst eLD), dLD, by show 0 < 17; decide, by show 17 < 1000000; decide, by omega, fun y X40 hy f2 k2 => ?_⟩
          have gy := gD y hy
          replace s1 := TK.ch k2 f1 _ _ s1
          replace s2 := TK.ch k2 f1 _ _ s2
          replace sT := TK.ch k2 f1 _ _ sT
          replace aT := DpAll.tk (TK.ch k2 f1) _ _ (roads_only _) aT
          replace gT := NEs.ch gT k2 f1
          replace kk := Ch.trans kk k2
          replace gL := NE.ch gL k2 f1
          replace sta := TK.ch k2 f1 _ _ sta
          replace gO := NE.ch gO k2 f1
          replace gD := NEs.ch gD k2 f1
          replace eP1 := TK.ch k2 f1 _ _ eP1
          replace gy := NE.ch gy k2 f1
          clear f1 k2
          have f1 := f2
          clear f2
          repeat' (walk_at "jv")
          intro PT nPT
          have dPT := f1.ne nPT
          have kPT := Same.upd_new (o := .tup ([y])) nPT
          have ePT : SqT K (upd X40 PT (.tup ([y]))) PT ([y]) := sq_tup upd_same
          generalize upd X40 PT (.tup ([y])) = X30 at *
          replace s1 := TK.same kPT _ _ s1
          replace s2 := TK.same kPT _ _ s2
          replace sT := TK.same kPT _ _ sT
          replace aT := DpAll.same kPT _ _ aT
          replace gT := NEs.same gT kPT
          replace f1 := Fd.same f1 kPT
          replace kk := Ch.trans kk (Ch.of_same kPT)
          replace gL := NE.same gL kPT
          replace sta := TK.same kPT _ _ sta
          replace gO := NE.same gO kPT
          replace gD := NEs.same gD kPT
          replace eP1 := TK.same kPT _ _ eP1
          replace gy := NE.same gy kPT
          clear kPT nPT
          repeat' (walk_at "jv")
          refine i_catG eP1 ePT (by rw [List.length_take, sizeLine_eq]; show _ + 1 ≤ _; omega) fun P2 X31 kP2 eP2 => ?_
          replace s1 := TK.same kP2 _ _ s1
          replace s2 := TK.same kP2 _ _ s2
          replace sT := TK.same kP2 _ _ sT
          replace aT := DpAll.same kP2 _ _ aT
          replace gT := NEs.same gT kP2
          replace f1 := Fd.same f1 kP2
          replace kk := Ch.trans kk (Ch.of_same kP2)
          replace gL := NE.same gL kP2
          replace sta := TK.same kP2 _ _ sta
          replace gO := NE.same gO kP2
          replace gD := NEs.same gD kP2
          replace eP1 := TK.same kP2 _ _ eP1
          replace gy := NE.same gy kP2
          replace ePT := TK.same kP2 _ _ ePT
          clear kP2
          repeat' (walk_at "jv")
          refine i_slG sT fun P3 X32 kP3 eP3 => ?_
          rw [ej, cut_from] at eP3
          replace s1 := TK.same kP3 _ _ s1
          replace s2 := TK.same kP3 _ _ s2
          replace sT := TK.same kP3 _ _ sT
          replace aT := DpAll.same kP3 _ _ aT
          replace gT := NEs.same gT kP3
          replace f1 := Fd.same f1 kP3
          replace kk := Ch.trans kk (Ch.of_same kP3)
          replace gL := NE.same gL kP3
          replace sta := TK.same kP3 _ _ sta
          replace gO := NE.same gO kP3
          replace gD := NEs.same gD kP3
          replace eP1 := TK.same kP3 _ _ eP1
          replace gy := NE.same gy kP3
          replace ePT := TK.same kP3 _ _ ePT
          replace eP2 := TK.same kP3 _ _ eP2
          clear kP3
          repeat' (walk_at "jv")
          refine i_catG eP2 eP3 (by rw [List.length_append, List.length_take, List.length_drop, sizeLine_eq]; show _ + 1 + _ ≤ _; omega) fun P4 X33 kP4 eP4 => ?_
          replace s1 := TK.same kP4 _ _ s1
          replace s2 := TK.same kP4 _ _ s2
          replace sT := TK.same kP4 _ _ sT
          replace aT := DpAll.same kP4 _ _ aT
          replace gT := NEs.same gT kP4
          replace f1 := Fd.same f1 kP4
          replace kk := Ch.trans kk (Ch.of_same kP4)
          replace gL := NE.same gL kP4
          replace sta := TK.same kP4 _ _ sta
          replace gO := NE.same gO kP4
          replace gD := NEs.same gD kP4
          replace eP1 := TK.same kP4 _ _ eP1
          replace gy := NE.same gy kP4
          replace ePT := TK.same kP4 _ _ ePT
          replace eP2 := TK.same kP4 _ _ eP2
          clear kP4
          exact q _ X33 (nt_tup eP4 (((gT.take j).app (NEs.one gy)).app (gT.drop (j + 1))) (by rw [List.length_append, List.length_append, List.length_take, List.length_drop]; show _ + 1 + _ ≤ _; omega)) (f1.mono (by omega)) kk
        · skip
          refine i_slG sT fun P1 X34 kP1 eP1 => ?_
          rw [cut_take] at eP1
          replace s1 := TK.same kP1 _ _ s1
          replace s2 := TK.same kP1 _ _ s2
          replace sT := TK.same kP1 _ _ sT
          replace aT := DpAll.same kP1 _ _ aT
          replace gT := NEs.same gT kP1
          replace f1 := Fd.same f1 kP1
          replace kk := Ch.trans kk (Ch.of_same kP1)
          replace gL := NE.same gL kP1
          replace sta := TK.same kP1 _ _ sta
          replace gO := NE.same gO kP1
          replace eLD := kP1 _ _ eLD
          replace gD := NEs.same gD kP1
          clear kP1
          repeat' (walk_at "jv")
          intro PT nPT
          have dPT := f1.ne nPT
          have kPT := Same.upd_new (o := .tup ([.ref tb])) nPT
          have ePT : SqT K (upd X34 PT (.tup ([.ref tb]))) PT ([.ref tb]) := sq_tup upd_same
          generalize upd X34 PT (.tup ([.ref tb])) = X35 at *
          replace s1 := TK.same kPT _ _ s1
          replace s2 := TK.same kPT _ _ s2
          replace sT := TK.same kPT _ _ sT
          replace aT := DpAll.same kPT _ _ aT
          replace gT := NEs.same gT kPT
          replace f1 := Fd.same f1 kPT
          replace kk := Ch.trans kk (Ch.of_same kPT)
          replace gL := NE.same gL kPT
          replace sta := TK.same kPT _ _ sta
          replace gO := NE.same gO kPT
          replace eLD := kPT _ _ eLD
          replace gD := NEs.same gD kPT
          replace eP1 := TK.same kPT _ _ eP1
          clear kPT nPT
          repeat' (walk_at "jv")
          refine i_catG eP1 ePT (by rw [List.length_take, sizeLine_eq]; show _ + 1 ≤ _; omega) fun P2 X36 kP2 eP2 => ?_
          replace s1 := TK.same kP2 _ _ s1
          replace s2 := TK.same kP2 _ _ s2
          replace sT := TK.same kP2 _ _ sT
          replace aT := DpAll.same kP2 _ _ aT
          replace gT := NEs.same gT kP2
          replace f1 := Fd.same f1 kP2
          replace kk := Ch.trans kk (Ch.of_same kP2)
          replace gL := NE.same gL kP2
          replace sta := TK.same kP2 _ _ sta
          replace gO := NE.same gO kP2
          replace eLD := kP2 _ _ eLD
          replace gD := NEs.same gD kP2
          replace eP1 := TK.same kP2 _ _ eP1
          replace ePT := TK.same kP2 _ _ ePT
          clear kP2
          repeat' (walk_at "jv")
          refine i_slG sT fun P3 X37 kP3 eP3 => ?_
          rw [cut_from] at eP3
          replace s1 := TK.same kP3 _ _ s1
          replace s2 := TK.same kP3 _ _ s2
          replace sT := TK.same kP3 _ _ sT
          replace aT := DpAll.same kP3 _ _ aT
          replace gT := NEs.same gT kP3
          replace f1 := Fd.same f1 kP3
          replace kk := Ch.trans kk (Ch.of_same kP3)
          replace gL := NE.same gL kP3
          replace sta := TK.same kP3 _ _ sta
          replace gO := NE.same gO kP3
          replace eLD := kP3 _ _ eLD
          replace gD := NEs.same gD kP3
          replace eP1 := TK.same kP3 _ _ eP1
          replace ePT := TK.same kP3 _ _ ePT
          replace eP2 := TK.same kP3 _ _ eP2
          clear kP3
          repeat' (walk_at "jv")
          refine i_catG eP2 eP3 (by rw [List.length_append, List.length_take, List.length_drop, sizeLine_eq]; show _ + 1 + _ ≤ _; omega) fun P4 X38 kP4 eP4 => ?_
          replace s1 := TK.same kP4 _ _ s1
          replace s2 := TK.same kP4 _ _ s2
          replace sT := TK.same kP4 _ _ sT
          replace aT := DpAll.same kP4 _ _ aT
          replace gT := NEs.same gT kP4
          replace f1 := Fd.same f1 kP4
          replace kk := Ch.trans kk (Ch.of_same kP4)
          replace gL := NE.same gL kP4
          replace sta := TK.same kP4 _ _ sta
          replace gO := NE.same gO kP4
          replace eLD := kP4 _ _ eLD
          replace gD := NEs.same gD kP4
          replace eP1 := TK.same kP4 _ _ eP1
          replace ePT := TK.same kP4 _ _ ePT
          replace eP2 := TK.same kP4 _ _ eP2
          clear kP4
          exact q _ X38 (nt_tup eP4 (((gT.take j).app (NEs.one gO)).app (gT.drop j)) (by rw [List.length_append, List.length_append, List.length_take, List.length_drop]; show _ + 1 + _ ≤ _; omega)) (f1.mono (by omega)) kk
    · skip
      clear s1 s2 sT aT gT kk f1 gL
      obtain ⟨s1, s2, sT, aT, gT, kk, f1, gL⟩ := h2
      repeat' (walk_at "jv")
      intro LS nLS
      have dLS := f1.ne nLS
      have kLS := Same.upd_new (o := .lst (xs)) nLS
      have eLS : (upd H2 LS (.lst (xs))) LS = some (.lst (xs)) := upd_same
      generalize upd H2 LS (.lst (xs)) = X39 at *
      replace s1 := TK.same kLS _ _ s1
      replace s2 := TK.same kLS _ _ s2
      replace sT := TK.same kLS _ _ sT
      replace aT := DpAll.same kLS _ _ aT
      replace gT := NEs.same gT kLS
      replace f1 := Fd.same f1 kLS
      replace kk := Ch.trans kk (Ch.of_same kLS)
      replace gL := NE.same gL kLS
      clear kLS nLS
      have g1 : NT K X39 a (.ref LS) := nt_list eLS dLS gT
      repeat' (walk_at "jv")
      intro TL nTL
      have dTL := f1.ne nTL
      have kTL := Same.upd_new (o := .tup ([.ref L0])) nTL
      have eTL : SqT K (upd X39 TL (.tup ([.ref L0]))) TL ([.ref L0]) := sq_tup upd_same
      generalize upd X39 TL (.tup ([.ref L0])) = X40 at *
      replace s1 := TK.same kTL _ _ s1
      replace s2 := TK.same kTL _ _ s2
      replace sT := TK.same kTL _ _ sT
      replace aT := DpAll.same kTL _ _ aT
      replace gT := NEs.same gT kTL
      replace f1 := Fd.same f1 kTL
      replace kk := Ch.trans kk (Ch.of_same kTL)
      replace gL := NE.same gL kTL
      replace g1 := NT.same g1 kTL
      clear kTL nTL
      repeat' (walk_at "jv")
      refine i_catG sT eTL (by rw [sizeLine_eq]; show _ + 1 ≤ _; omega) fun C1 X41 kC1 eC1 => ?_
      replace s1 := TK.same kC1 _ _ s1
      replace s2 := TK.same kC1 _ _ s2
      replace sT := TK.same kC1 _ _ sT
      replace aT := DpAll.same kC1 _ _ aT
      replace gT := NEs.same gT kC1
      replace f1 := Fd.same f1 kC1
      replace kk := Ch.trans kk (Ch.of_same kC1)
      replace gL := NE.same gL kC1
      replace g1 := NT.same g1 kC1
      replace eTL := TK.same kC1 _ _ eTL
      clear kC1
      have g2 : NT K X41 a (.ref C1) := nt_tup eC1 (gT.app (NEs.one gL)) (by rw [List.length_append]; show _ + 1 ≤ 40; omega)
      repeat' (walk_at "jv")
      intro DI nDI
      have dDI := f1.ne nDI
      have kDI := Same.upd_new (o := .dK []) nDI
      have eDI : (upd X41 DI (.dK [])) DI = some (.dK []) := upd_same
      generalize upd X41 DI (.dK []) = X42 at *
      replace s1 := TK.same kDI _ _ s1
      replace s2 := TK.same kDI _ _ s2
      replace sT := TK.same kDI _ _ sT
      replace aT := DpAll.same kDI _ _ aT
      replace gT := NEs.same gT kDI
      replace f1 := Fd.same f1 kDI
      replace kk := Ch.trans kk (Ch.of_same kDI)
      replace gL := NE.same gL kDI
      replace g1 := NT.same g1 kDI
      replace g2 := NT.same g2 kDI
      clear kDI nDI
      have g3 : NT K X42 a (.ref DI) := nt_dict eDI dDI
      repeat' (walk_at "jv")
      intro TM nTM
      have dTM := f1.ne nTM
      have kTM := Same.upd_new (o := .tup ([.ref L0])) nTM
      have eTM : SqT K (upd X42 TM (.tup ([.ref L0]))) TM ([.ref L0]) := sq_tup upd_same
      generalize upd X42 TM (.tup ([.ref L0])) = X43 at *
      replace s1 := TK.same kTM _ _ s1
      replace s2 := TK.same kTM _ _ s2
      replace sT := TK.same kTM _ _ sT
      replace aT := DpAll.same kTM _ _ aT
      replace gT := NEs.same gT kTM
      replace f1 := Fd.same f1 kTM
      replace kk := Ch.trans kk (Ch.of_same kTM)
      replace gL := NE.same gL kTM
      replace g1 := NT.same g1 kTM
      replace g2 := NT.same g2 kTM
      replace g3 := NT.same g3 kTM
      clear kTM nTM
      have g4 : NT K X43 a (.ref TM) := nt_tup eTM (NEs.one gL) (by show 1 ≤ 40; decide)
      repeat' (walk_at "jv")
      intro EE nEE
      have dEE := f1.ne nEE
      have kEE := Same.upd_new (o := .tup ([])) nEE
      have eEE : SqT K (upd X43 EE (.tup ([]))) EE ([]) := sq_tup upd_same
      generalize upd X43 EE (.tup ([])) = X44 at *
      replace s1 := TK.same kEE _ _ s1
      replace s2 := TK.same kEE _ _ s2
      replace sT := TK.same kEE _ _ sT
      replace aT := DpAll.same kEE _ _ aT
      replace gT := NEs.same gT kEE
      replace f1 := Fd.same f1 kEE
      replace kk := Ch.trans kk (Ch.of_same kEE)
      replace gL := NE.same gL kEE
      replace g1 := NT.same g1 kEE
      replace g2 := NT.same g2 kEE
      replace g3 := NT.same g3 kEE
      replace g4 := NT.same g4 kEE
      clear kEE nEE
      have ge : NE K X44 a (.ref EE) := ne_tup eEE (fun x hx => absurd hx List.not_mem_nil) (Nat.zero_le _)
      repeat' (walk_at "jv")
      intro TE nTE
      have dTE := f1.ne nTE
      have kTE := Same.upd_new (o := .tup ([.ref EE])) nTE
      have eTE : SqT K (upd X44 TE (.tup ([.ref EE]))) TE ([.ref EE]) := sq_tup upd_same
      generalize upd X44 TE (.tup ([.ref EE])) = X45 at *
      replace s1 := TK.same kTE _ _ s1
      replace s2 := TK.same kTE _ _ s2
      replace sT := TK.same kTE _ _ sT
      replace aT := DpAll.same kTE _ _ aT
      replace gT := NEs.same gT kTE
      replace f1 := Fd.same f1 kTE
      replace kk := Ch.trans kk (Ch.of_same kTE)
      replace gL := NE.same gL kTE
      replace g1 := NT.same g1 kTE
      replace g2 := NT.same g2 kTE
      replace g3 := NT.same g3 kTE
      replace g4 := NT.same g4 kTE
      replace ge := NE.same ge kTE
      clear kTE nTE
      have g5 : NT K X45 a (.ref TE) := nt_tup eTE (NEs.one ge) (by show 1 ≤ 40; decide)
      repeat' (walk_at "jv")
      refine i_slG sT fun S1 X46 kS1 eS1 => ?_
      rw [show (1 : Int) = ((1 : Nat) : Int) from rfl, cut_take] at eS1
      replace s1 := TK.same kS1 _ _ s1
      replace s2 := TK.same kS1 _ _ s2
      replace sT := TK.same kS1 _ _ sT
      replace aT := DpAll.same kS1 _ _ aT
      replace gT := NEs.same gT kS1
      replace f1 := Fd.same f1 kS1
      replace kk := Ch.trans kk (Ch.of_same kS1)
      replace gL := NE.same gL kS1
      replace g1 := NT.same g1 kS1
      replace g2 := NT.same g2 kS1
      replace g3 := NT.same g3 kS1
      replace g4 := NT.same g4 kS1
      replace ge := NE.same ge kS1
      replace g5 := NT.same g5 kS1
      clear kS1
      repeat' (walk_at "jv")
      refine i_catG sT eS1 (by rw [sizeLine_eq, List.length_take]; omega) fun C2 X47 kC2 eC2 => ?_
      replace s1 := TK.same kC2 _ _ s1
      replace s2 := TK.same kC2 _ _ s2
      replace sT := TK.same kC2 _ _ sT
      replace aT := DpAll.same kC2 _ _ aT
      replace gT := NEs.same gT kC2
      replace f1 := Fd.same f1 kC2
      replace kk := Ch.trans kk (Ch.of_same kC2)
      replace gL := NE.same gL kC2
      replace g1 := NT.same g1 kC2
      replace g2 := NT.same g2 kC2
      replace g3 := NT.same g3 kC2
      replace g4 := NT.same g4 kC2
      replace ge := NE.same ge kC2
      replace g5 := NT.same g5 kC2
      replace eS1 := TK.same kC2 _ _ eS1
      clear kC2
      have g6 : NT K X47 a (.ref C2) := nt_tup eC2 (gT.app (gT.take 1)) (by rw [List.length_append, List.length_take]; omega)
      repeat' (walk_at "jv")
      intro LF nLF
      have dLF := f1.ne nLF
      have kLF := Same.upd_new (o := .lst ([.non, .ref LS, .ref C1, .int 5, .str "", .ref DI, .bl true, .ref TM, .ref TE, .ref C2])) nLF
      have eLF : (upd X47 LF (.lst ([.non, .ref LS, .ref C1, .int 5, .str "", .ref DI, .bl true, .ref TM, .ref TE, .ref C2]))) LF = some (.lst ([.non, .ref LS, .ref C1, .int 5, .str "", .ref DI, .bl true, .ref TM, .ref TE, .ref C2])) := upd_same
      generalize upd X47 LF (.lst ([.non, .ref LS, .ref C1, .int 5, .str "", .ref DI, .bl true, .ref TM, .ref TE, .ref C2])) = X48 at *
      replace s1 := TK.same kLF _ _ s1
      replace s2 := TK.same kLF _ _ s2
      replace sT := TK.same kLF _ _ sT
      replace aT := DpAll.same kLF _ _ aT
      replace gT := NEs.same gT kLF
      replace f1 := Fd.same f1 kLF
      replace kk := Ch.trans kk (Ch.of_same kLF)
      replace gL := NE.same gL kLF
      replace g1 := NT.same g1 kLF
      replace g2 := NT.same g2 kLF
      replace g3 := NT.same g3 kLF
      replace g4 := NT.same g4 kLF
      replace ge := NE.same ge kLF
      replace g5 := NT.same g5 kLF
      replace g6 := NT.same g6 kLF
      clear kLF nLF
      repeat' (walk_at "jv")
      refine ⟨a, LF, _, _, rfl, f1, SqA.l (sq_lst eLF), dLF, by show 0 < 10; decide, by show 10 < 1000000; decide, by omega, fun y H9 hy f9 k9 => ?_⟩
      have gy : NT K X48 a y := by
        simp only [List.mem_cons, List.not_mem_nil, or_false] at hy
        rcases hy with rfl | rfl | rfl | rfl | rfl | rfl | rfl | rfl | rfl | rfl
        · exact nt_none
        · exact g1
        · exact g2
        · exact nt_int 5
        · exact nt_str ""
        · exact g3
        · exact nt_bool true
        · exact g4
        · exact g5
        · exact g6
      exact q y H9 (gy.ch k9 f1) (f9.mono (by omega)) (kk.trans k9)
end
end
section
open L2 PySem PySem.Spec PyProof.Rows
abbrev s__law_words : Stmt := topS 45
theorem sc__law_words : FnScope ["_law_web_here", "_law_thing", "_law_found", "_law_way", "_law_word", "error"] ["_law_web_here", "_law_thing"] (defScope s__law_words) := ⟨rfl, rfl, rfl, by decide +kernel, rfl, by decide +kernel, by decide +kernel⟩
def wordB (b : Bool) : Str := if b then "told" else "bad"
def spWords (K : PySem.W.Frag) : Sp := fun vs H Q _ => ∃ (a : Addr) (v x : V) (d : PyData) (ps : List Str) (rs : List (Str × Str)), vs = [v, x] ∧ Dp K H v (webD ps rs) ∧ IsWeb ps rs ∧ Ob K H a x d ∧
  (∀ ds, d = .tuple ds → ds.length ≤ 1000 ∧ ∀ e ∈ ds, ∀ es, e = .tuple es → es.length ≤ 1000 ∧ ∀ z, PyData.str z ∈ es → PyData.strOk z = true) ∧
  ∀ (L : Addr) (H' : Hp), Same H H' → H' L = some (.lst [.str (wordB (arrOk d rs)), .str (wordB (arrOk d rs))]) → Q (.ref L) H'
section
variable {base : Heap} {P : Program} {w : World} {K : PySem.W.Frag} {mg : Str → Option Value}
theorem ok_law_words {CA CT : Addr} (XC_BadArrows : Xc K mg "BadArrows" CA) (XC_TurnError : Xc K mg "TurnError" CT) (xi : Xi K CA CT) (D : Dn K mg "_law_words" s__law_words ["_law_web_here", "_law_thing"]) (B : Bn mg) (CX_arrow_ring : ClX P w K mg base 6 "arrow_ring" ["web", "arrows"] (spArrowRing K CA)) (CX_arrow_ring_holds : ClX P w K mg base 6 "arrow_ring_holds" ["web", "arrows", "thing"] (spHolds K CA)) : Cl P w K mg base 7 "_law_words" ["_law_web_here", "_law_thing"] (spWords K) := by
  refine D.cl sc__law_words (fun vs H Q E h => ?_) (fun f cdv A outer s H vs Q E hr h => ?_)
  · obtain ⟨a, v, x, d, ps, rs, rfl, _⟩ := h
    rfl
  · obtain ⟨a, v, x, d, ps, rs, rfl, dw, W, ox, hd, q⟩ := h
    refine ⟨_, (pss_cons (ps_set (i := 2) sc__law_words.nd rfl (by first | exact Or.inl rfl | exact Or.inr rfl) (pe_lst pa_nil))
      (pss_cons (ps_for PassesOwn.never rfl (pi_range1 rfl B.range_ (pa_cons pe_int pa_nil)) (pg_name (i := 3) sc__law_words.nd rfl (by first | exact Or.inl rfl | exact Or.inr rfl)) (pss_cons (ps_set (i := 4) sc__law_words.nd rfl (by first | exact Or.inl rfl | exact Or.inr rfl) pe_str)
      (pss_cons (ps_try_as (i := 5) rfl rfl sc__law_words.nd rfl rfl ⟨rfl, by decide, .inl XC_BadArrows.at_⟩ takes0 (fun Wi pn xe tk _ => (pss_one (ps_if (pt_cmpR op_eq (pv 3) pe_int (nomark _)) (pss_one (ps_expr (pe_cX CX_arrow_ring tk hr (pa_cons (pv 0) (pa_cons (pv 1) pa_nil))))) (pss_one (ps_expr (pe_cX CX_arrow_ring_holds tk hr (pa_cons (pv 0) (pa_cons (pv 1) (pa_cons pe_non pa_nil))))))))) (fun a oe cls d pn hz hf => (pss_one (ps_set (i := 4) sc__law_words.nd rfl (by first | exact Or.inl rfl | exact Or.inr rfl) (pe_ifExp (pt_val (pe_callB (call_isX hz hf) rfl B.isinstance_ (by decide +kernel) (pa_cons (pv 5) (pa_cons (pe_cls XC_TurnError) pa_nil)))) pe_str pe_str)))))
      (pss_one (ps_expr (pe_bm PySem.F.plainAttrs_list PySem.F.slot_list_append PySem.F.type_list_append mt_append (pv 2) (pa_cons (pv 4) pa_nil)))))))
      (pss_one (ps_ret (pv 2))))), ?_⟩
    repeat' (walk_at "jv")
    intro L nL
    have kL := Same.upd_new (o := .lst []) nL
    have eL : (upd H L (.lst [])) L = some (.lst []) := upd_same
    generalize upd H L (.lst []) = H1 at *
    repeat' (walk_at "jv")
    refine f_range (fun i σ H' => ∃ y3 y4, σ = [some v, some x, some (.ref L), y3, y4, none] ∧ Same H H' ∧ H' L = some (.lst (List.replicate i (.str (wordB (arrOk d rs)))))) ⟨none, none, rfl, kL, eL⟩ (fun i σ H2 hi h => ?_) (fun σ H2 h => ?_)
    · obtain ⟨y3, y4, rfl, k2, e2⟩ := h
      replace dw := Dp.same k2 _ _ dw
      replace ox := ox.same k2
      repeat' (walk_at "jv")
      · refine i_cS ?_
        repeat' (walk_at "jv")
        refine ⟨a, v, x, d, ps, rs, rfl, dw, W, ox, hd, fun no H' k => ⟨true, PySem.W.exm_ref XC_BadArrows.all.2.2.1 xi.has XC_BadArrows.all.2.2.2 xi.self, fun _ e ne => ?_, fun c => nomatch c⟩, fun l el hA ok => ⟨fun e H' k => ?_, fun e T H' k fT => ?_⟩⟩
        · have eb : wordB (arrOk d rs) = "bad" := by rw [no]; rfl
          have e3 := k _ _ e2
          repeat' (walk_at "jv")
          refine ⟨CA, .ref CT, .ref CT, true, rfl, rfl, xi.exc, rfl, fun u hu => hu, xi.up, ?_⟩
          repeat' (walk_at "jv")
          refine i_app e3 (by rw [List.length_replicate, sizeLine_eq]; omega) ⟨_, _, rfl, fun c oc z => (upd_ne (ne_of_none z nL)).trans ((k2.trans k) _ _ z), ?_⟩
          rw [upd_same, List.replicate_succ', eb]
        · have eb : wordB (arrOk d rs) = "told" := by rw [ok]; rfl
          have e3 := k _ _ e2
          repeat' (walk_at "jv")
          refine i_app e3 (by rw [List.length_replicate, sizeLine_eq]; omega) ⟨_, _, rfl, fun c oc z => (upd_ne (ne_of_none z nL)).trans ((k2.trans k) _ _ z), ?_⟩
          rw [upd_same, List.replicate_succ', eb]
        · have eb : wordB (arrOk d rs) = "told" := by rw [ok]; rfl
          have e3 := k _ _ e2
          repeat' (walk_at "jv")
          refine i_app e3 (by rw [List.length_replicate, sizeLine_eq]; omega) ⟨_, _, rfl, fun c oc z => (upd_ne (ne_of_none z nL)).trans ((k2.trans k) _ _ z), ?_⟩
          rw [upd_same, List.replicate_succ', eb]
      · refine i_cS ?_
        repeat' (walk_at "jv")
        refine ⟨a, v, x, .non, d, .none, ps, rs, rfl, dw, W, ox, .non, (fun ds e => nomatch e), hd, fun no H' k => ⟨true, PySem.W.exm_ref XC_BadArrows.all.2.2.1 xi.has XC_BadArrows.all.2.2.2 xi.self, fun _ e ne => ?_, fun c => nomatch c⟩, fun l el hA ok H' k => ?_⟩
        · have eb : wordB (arrOk d rs) = "bad" := by rw [no]; rfl
          have e3 := k _ _ e2
          repeat' (walk_at "jv")
          refine ⟨CA, .ref CT, .ref CT, true, rfl, rfl, xi.exc, rfl, fun u hu => hu, xi.up, ?_⟩
          repeat' (walk_at "jv")
          refine i_app e3 (by rw [List.length_replicate, sizeLine_eq]; omega) ⟨_, _, rfl, fun c oc z => (upd_ne (ne_of_none z nL)).trans ((k2.trans k) _ _ z), ?_⟩
          rw [upd_same, List.replicate_succ', eb]
        · have eb : wordB (arrOk d rs) = "told" := by rw [ok]; rfl
          have e3 := k _ _ e2
          repeat' (walk_at "jv")
          refine i_app e3 (by rw [List.length_replicate, sizeLine_eq]; omega) ⟨_, _, rfl, fun c oc z => (upd_ne (ne_of_none z nL)).trans ((k2.trans k) _ _ z), ?_⟩
          rw [upd_same, List.replicate_succ', eb]
    · obtain ⟨y3, y4, rfl, k2, e2⟩ := h
      repeat' (walk_at "jv")
      exact q L H2 k2 e2
end
end
section
open L2 PySem PySem.Spec PyProof.Rows
abbrev s__law_right : Stmt := topS 46
theorem sc__law_right : FnScope ["_law_feed_here", "_law_web_here", "_law_some", "_law_told", "_law_is_round", "_law_ring", "_law_turn", "_law_thing", "_law_due"] ["_law_feed_here", "_law_web_here", "_law_some"] (defScope s__law_right) := ⟨rfl, rfl, rfl, by decide +kernel, rfl, by decide +kernel, by decide +kernel⟩
section
variable {K : PySem.W.Frag} {H : Hp} {ps : List Str} {rs l : List (Str × Str)}
theorem rsd_inj {l m : List (Str × Str)} (h : rsD l = rsD m) : l = m := by
  have key : ∀ {l m : List (Str × Str)}, l.map roadD = m.map roadD → l = m := by
    intro l
    induction l with
    | nil => intro m h; cases m with
      | nil => rfl
      | cons r m => cases h
    | cons q l ih =>
      intro m h
      cases m with
      | nil => cases h
      | cons r m =>
        rw [List.map_cons, List.map_cons] at h
        injection h with h1 h2
        rw [ih h2]
        obtain ⟨a, b⟩ := q
        obtain ⟨c, d⟩ := r
        have h3 : PyData.tuple [.str a, .str b] = .tuple [.str c, .str d] := h1
        injection h3 with h4
        injection h4 with h5 h6
        injection h5 with h5
        injection h6 with h6
        injection h6 with h6
        rw [h5, h6]
  have h' : PyData.tuple (l.map roadD) = .tuple (m.map roadD) := h
  injection h' with h'
  exact key h'
theorem arrok_of (h : ArrL rs l) : arrOk (rsD l) rs = true := by
  show (decide ((l.map roadD).length = rs.length) && (List.range rs.length).all (arrAt (l.map roadD) rs)) = true
  rw [decide_eq_true (by rw [List.length_map]; exact h.1), Bool.true_and, List.all_eq_true]
  intro i hi
  have hi' : i < rs.length := List.mem_range.mp hi
  have hi2 : i < l.length := by have := h.1; omega
  have h3 := h.2 i hi'
  rw [List.getD_eq_getElem?_getD, List.getD_eq_getElem?_getD, List.getElem?_eq_getElem hi2, List.getElem?_eq_getElem hi', Option.getD_some, Option.getD_some] at h3
  unfold arrAt
  rw [List.getD_eq_getElem?_getD, List.getD_eq_getElem?_getD, List.getElem?_map, List.getElem?_eq_getElem hi2, List.getElem?_eq_getElem hi', Option.map_some, Option.getD_some, Option.getD_some]
  unfold isArr
  rcases h3 with e | e
  · rw [e, (eqv_dec (.tuple [.str rs[i].1, .str rs[i].2]) (roadD rs[i]) rfl rfl).mpr rfl]
    rfl
  · rw [e, (eqv_dec (.tuple [.str rs[i].2, .str rs[i].1]) (roadD (swp rs[i])) rfl rfl).mpr rfl, Bool.or_true]
theorem arrl_nmR (W : IsWeb ps rs) (h : ArrL rs l) : ∀ r ∈ l, NmR r := fun r hr => ⟨(arrl_nm W h r hr).1, (arrl_nm W h r hr).2⟩
theorem near_rs (W : IsWeb ps rs) (h : ArrL rs l) : nearT (rsD l) = true := by
  show (decide ((l.map roadD).length ≤ 40) && (l.map roadD).all nearE) = true
  rw [decide_eq_true (by have := W.le14; have := h.1; rw [List.length_map]; omega), Bool.true_and, List.all_eq_true]
  intro d hd
  obtain ⟨r, hr, rfl⟩ := List.mem_map.mp hd
  obtain ⟨h1, h2⟩ := arrl_ok W h r hr
  show (true && (PyData.strOk r.1 && (PyData.strOk r.2 && true))) = true
  rw [h1, h2]
  rfl
theorem first_ok {T : Addr} {v : V} {Q : VK} {E : XK} (dv : Dp K H v (webD ps rs)) (W : IsWeb ps rs) (dT : Dp K H (.ref T) (rsD l)) (hA : ArrL rs l)
    (q1 : (freedL ps l).length = ps.length → ∀ G H', Same H H' → FT H' G ((freedL ps l).map V.str) → Q (.ref G) H') (q2 : (freedL ps l).length ≠ ps.length → ∀ H', Same H H' → Q .non H') : spFirstOf K [v, .ref T] H Q E :=
  ⟨v, T, l, ps, rs, rfl, dv, W, dT, by have := W.le14; have := hA.1; omega, arrl_nmR W hA, q1, q2⟩
theorem sh_ts {l : List Str} (h : ∀ z ∈ l, nmOk z = true) (hl : l.length ≤ 14) : ShO (tsD l) :=
  have r := ts_shown h hl
  ⟨fun i c => (by cases c), fun x c => (by cases c), r.1, .inl r.2.1, r.2.2.1, r.2.2.2⟩
theorem show_ts {G : Addr} {l : List Str} {Q : VK} (b : Addr) (f : FT H G (l.map V.str)) (h : ∀ z ∈ l, nmOk z = true) (hl : l.length ≤ 14) (q : Q (.str (shO (tsD l))) H) : rShowO K [.ref G] H Q :=
  ⟨.ref G, tsD l, b, rfl, Ob.of _ _ (by
    show tupOnlyAll (l.map PyData.str) = true
    clear q h hl f
    induction l with
    | nil => rfl
    | cons z l ih => exact (by show (true && tupOnlyAll (l.map PyData.str)) = true; rw [ih]; rfl)) (ts_dp f.sq), sh_ts h hl, q⟩
theorem show_non {Q : VK} (b : Addr) (q : Q (.str (shO .none)) H) : rShowO K [.non] H Q := ⟨.non, .none, b, rfl, .non, sh_none, q⟩
theorem arrow_ring_ok {CA T : Addr} {v : V} {Q : VK} {E : XK} (b : Addr) (dv : Dp K H v (webD ps rs)) (W : IsWeb ps rs) (dT : Dp K H (.ref T) (rsD l)) (hA : ArrL rs l)
    (q1 : (freedL ps l).length = ps.length → ∀ H', Same H H' → Q .non H') (q2 : (freedL ps l).length ≠ ps.length → ∀ G H', Same H H' → FT H' G ((roundA ps l).map V.str) → Q (.ref G) H') : spArrowRing K CA [v, .ref T] H Q E := by
  refine ⟨b, v, .ref T, rsD l, ps, rs, rfl, dv, W, Ob.of _ _ (roads_only l) dT, near_hd (near_rs W hA), fun no => ?_, fun l2 el _ _ => ?_⟩
  · rw [arrok_of hA] at no
    cases no
  · obtain rfl := rsd_inj el
    exact ⟨q1, q2⟩
theorem holds_ok {CA T b : Addr} {v y : V} {dy : PyData} {Q : VK} {E : XK} (dv : Dp K H v (webD ps rs)) (W : IsWeb ps rs) (dT : Dp K H (.ref T) (rsD l)) (hA : ArrL rs l) (oy : Ob K H b y dy) (hy : RgA dy)
    (q : ∀ H', Same H H' → Q (.bl (holdsB l dy)) H') : spHolds K CA [v, .ref T, y] H Q E := by
  refine ⟨b, v, .ref T, y, rsD l, dy, ps, rs, rfl, dv, W, Ob.of _ _ (roads_only l) dT, oy, hy, near_hd (near_rs W hA), fun no => ?_, fun l2 el _ _ => ?_⟩
  · rw [arrok_of hA] at no
    cases no
  · obtain rfl := rsd_inj el
    exact q
def TdR (H : Hp) (ps : List Str) (l : List (Str × Str)) (x : V) (b : Bool) : Prop := (b = false ∧ x = .non ∧ (freedL ps l).length = ps.length) ∨ (b = true ∧ (freedL ps l).length ≠ ps.length ∧ ∃ G, x = .ref G ∧ FT H G ((roundA ps l).map V.str))
theorem ring_holds (W : IsWeb ps rs) (A : ArrL rs l) (h : (freedL ps l).length ≠ ps.length) : holdsB l (.tuple ((roundA ps l).map PyData.str)) = true := by
  obtain ⟨r1, r2, r3, r4, r5⟩ := round_ok W A h
  have er : ((roundA ps l).map PyData.str).map strD = roundA ps l := by rw [List.map_map]; exact List.map_id _
  have e1 : rngD (.tuple ((roundA ps l).map PyData.str)) = true := by
    show (decide (3 ≤ ((roundA ps l).map PyData.str).length) && (((roundA ps l).map PyData.str).all isS && decide ((((roundA ps l).map PyData.str).map strD).Nodup))) = true
    rw [er, List.length_map, decide_eq_true r2, decide_eq_true r1, show ((roundA ps l).map PyData.str).all isS = true from List.all_eq_true.mpr fun d hd => by obtain ⟨z, _, rfl⟩ := List.mem_map.mp hd; rfl]
    rfl
  show (rngD _ && (pairsR (((roundA ps l).map PyData.str).map strD)).all fun p => decide (p ∈ l)) = true
  rw [e1, er, Bool.true_and, List.all_eq_true]
  exact fun q hq => decide_eq_true (r5 q hq)
theorem rg_ring {r : List Str} (h8 : r.length ≤ 50) (nm : ∀ z ∈ r, nmOk z = true) : RgA (.tuple (r.map PyData.str)) := fun ds e => by
  injection e with e
  subst e
  refine ⟨by rw [List.length_map]; exact h8, fun z hz => ?_⟩
  obtain ⟨y, hy, e⟩ := List.mem_map.mp hz
  injection e with e
  exact e ▸ nmOk_str (nm y hy)
end
def spRightR (K : PySem.W.Frag) : Sp := fun vs H Q _ => ∃ (a T : Addr) (v : V) (c : Int) (ps : List Str) (rs l : List (Str × Str)), vs = [.ref a, v, .ref T] ∧ Fd H a c ∧ c < 10 ^ 12 ∧ Dp K H v (webD ps rs) ∧ IsWeb ps rs ∧ Dp K H (.ref T) (rsD l) ∧ ArrL rs l ∧
  ∀ H', Fd H' a (c + 50000) → Ch a H H' → Q (.bl true) H'
section
variable {base : Heap} {P : Program} {w : World} {K : PySem.W.Frag} {mg : Str → Option Value}
theorem ok_law_rightR {CA : Addr} (D : Dn K mg "_law_right" s__law_right ["_law_feed_here", "_law_web_here", "_law_some"]) (B : Bn mg) (CX_arrow_ring : ClX P w K mg base 6 "arrow_ring" ["web", "arrows"] (spArrowRing K CA)) (KX_arrow_ring : ClKX P w K mg base 6 "arrow_ring" ["web", "arrows"] ["arrows", "web"] (spArrowRing K CA) g2)
    (CX_arrow_ring_holds : ClX P w K mg base 6 "arrow_ring_holds" ["web", "arrows", "thing"] (spHolds K CA)) (KX_arrow_ring_holds : ClKX P w K mg base 6 "arrow_ring_holds" ["web", "arrows", "thing"] ["thing", "arrows", "web"] (spHolds K CA) g2) (C__law_first : Cl P w K mg base 1 "_law_first" ["_law_web_here", "_law_told"] (spFirstOf K))
    (C__law_goes_round : Cl P w K mg base 1 "_law_goes_round" ["_law_web_here", "_law_arrows_here", "_law_thing"] (spGoes K)) (C__law_mixed : Cl P w K mg base 2 "_law_mixed" ["_law_feed_here", "_law_things"] (spMixedT K)) (C__law_bent : Cl P w K mg base 3 "_law_bent" ["_law_feed_here", "_law_web_here", "_law_ring"] (spBentR K)) : ClG P w K mg base 7 "_law_right" ["_law_feed_here", "_law_web_here", "_law_some"] (spRightR K) := by
  refine D.clG sc__law_right (fun vs H Q E h => ?_) (fun f cdv A outer s H vs Q E hgd hr h => ?_)
  · obtain ⟨a, T, v, c, ps, rs, l, rfl, _⟩ := h
    rfl
  · obtain ⟨a, T, v, c, ps, rs, l, rfl, f1, hc, dv, W, dT, hA, q⟩ := h
    refine ⟨_, (pss_cons (ps_par (i := 3) (j := 4) rfl sc__law_right.nd rfl rfl (by decide) rfl rfl (pa_cons (pe_cX CX_arrow_ring takes0 hr (pa_cons (pv 1) (pa_cons (pv 2) pa_nil))) (pa_cons (pe_cmpR op_isN (pe_c C__law_first hr (pa_cons (pv 1) (pa_cons (pv 2) pa_nil))) pe_non (nomark _)) pa_nil)) (by rfl))
      (pss_cons (ps_if (PW.pt (pw_or (pt_cmpR op_ne (pe_cmpR op_notN (pv 3) pe_non (nomark _)) (pv 4) (nomark _)) (pw_or1 (PW.pt (pw_and (pt_val (pv 4)) (pw_and1 (pt_not (pt_val (pe_c C__law_goes_round hr (pa_cons (pv 1) (pa_cons (pv 2) (pa_cons (pv 3) pa_nil)))))))))))) (pss_one (ps_ret pe_bl)) pss_nil)
      (pss_cons (ps_if (PW.pt (pw_or (pt_cmpR op_ne (pe_callB (k_showO (K := K) hgd hr.units) rfl B.repr_ (by decide +kernel) (pa_cons (pe_ckX KX_arrow_ring takes0 hr (pk_cons (pv 2) (pk_cons (pv 1) pk_nil))) pa_nil)) (pe_callB (k_showO (K := K) hgd hr.units) rfl B.repr_ (by decide +kernel) (pa_cons (pv 3) pa_nil)) (nomark _)) (pw_or1 (pt_cmpR op_isNotB (pe_cX CX_arrow_ring_holds takes0 hr (pa_cons (pv 1) (pa_cons (pv 2) (pa_cons pe_non pa_nil)))) pe_bl (nomark _))))) (pss_one (ps_ret pe_bl)) pss_nil)
      (pss_cons (ps_set (i := 5) sc__law_right.nd rfl (by first | exact Or.inl rfl | exact Or.inr rfl) (pe_ifExp (pt_val (pv 4)) (pv 3) (pe_callTy (k_tuple (K := K)) rfl B.tuple_ (by decide +kernel) (pa_cons (pe_c C__law_mixed hr (pa_cons (pv 0) (pa_cons (pe_ix (k_ixT (K := K)) (pv 1) pe_int (fun _ _ => rfl)) pa_nil))) pa_nil))))
      (pss_cons (ps_for PassesOwn.never rfl (pi_range1 rfl B.range_ (pa_cons pe_int pa_nil)) (pg_name (i := 6) sc__law_right.nd rfl (by first | exact Or.inl rfl | exact Or.inr rfl)) (pss_cons (ps_set (i := 7) sc__law_right.nd rfl (by first | exact Or.inl rfl | exact Or.inr rfl) (pe_ifExp (pt_cmpR op_gt (pv 6) pe_int (nomark _)) (pe_c C__law_bent hr (pa_cons (pv 0) (pa_cons (pv 1) (pa_cons (pv 5) pa_nil)))) (pv 5)))
      (pss_cons (ps_set (i := 8) sc__law_right.nd rfl (by first | exact Or.inl rfl | exact Or.inr rfl) (pe_callB (k_reprB) rfl B.repr_ (by decide +kernel) (pa_cons (pe_c C__law_goes_round hr (pa_cons (pv 1) (pa_cons (pv 2) (pa_cons (pv 7) pa_nil)))) pa_nil)))
      (pss_one (ps_if (PW.pt (pw_or (pt_cmpR op_ne (pe_callB (k_reprB) rfl B.repr_ (by decide +kernel) (pa_cons (pe_cX CX_arrow_ring_holds takes0 hr (pa_cons (pv 1) (pa_cons (pv 2) (pa_cons (pv 7) pa_nil)))) pa_nil)) (pv 8) (nomark _)) (pw_or1 (pt_cmpR op_ne (pe_callB (k_reprB) rfl B.repr_ (by decide +kernel) (pa_cons (pe_ckX KX_arrow_ring_holds takes0 hr (pk_cons (pv 7) (pk_cons (pv 2) (pk_cons (pv 1) pk_nil)))) pa_nil)) (pv 8) (nomark _))))) (pss_one (ps_ret pe_bl)) pss_nil)))))
      (pss_one (ps_ret pe_bl))))))), ?_⟩
    have kk : Ch a H H := Ch.of_same (Same.refl _)
    refine i_seq ?_
    refine i_cutS (fun σ' H' => ∃ x b, σ' = [some (.ref a), some v, some (.ref T), some x, some (.bl b), none, none, none, none] ∧ TdR H' ps l x b ∧ Dp K H' v (webD ps rs) ∧ Dp K H' (.ref T) (rsD l) ∧ Fd H' a c ∧ Ch a H H') (fun N hN => ?_) (fun σ' H' h' => ?_)
    · skip
      repeat' (walk_at "jv")
      refine i_cS ?_
      repeat' (walk_at "jv")
      refine arrow_ring_ok a dv W dT hA (fun fl H1 k1 => ?_) (fun nf G H1 k1 fG => ?_)
      · skip
        replace dv := Dp.same k1 _ _ dv
        replace dT := Dp.same k1 _ _ dT
        replace f1 := Fd.same f1 k1
        replace kk := Ch.trans kk (Ch.of_same k1)
        repeat' (walk_at "jv")
        refine first_ok dv W dT hA (fun _ G2 H2 k2 fG2 => ?_) (fun c => absurd fl c)
        replace dv := Dp.same k2 _ _ dv
        replace dT := Dp.same k2 _ _ dT
        replace f1 := Fd.same f1 k2
        replace kk := Ch.trans kk (Ch.of_same k2)
        repeat' (walk_at "jv")
        refine ⟨rfl, ?_⟩
        repeat' (walk_at "jv")
        exact hN _ _ ⟨_, decide (V.ref G2 = V.non), rfl, .inl ⟨rfl, rfl, fl⟩, dv, dT, f1, kk⟩
      · skip
        replace dv := Dp.same k1 _ _ dv
        replace dT := Dp.same k1 _ _ dT
        replace f1 := Fd.same f1 k1
        replace kk := Ch.trans kk (Ch.of_same k1)
        repeat' (walk_at "jv")
        refine first_ok dv W dT hA (fun c => absurd c nf) (fun _ H2 k2 => ?_)
        replace dv := Dp.same k2 _ _ dv
        replace dT := Dp.same k2 _ _ dT
        replace f1 := Fd.same f1 k2
        replace kk := Ch.trans kk (Ch.of_same k2)
        repeat' (walk_at "jv")
        refine ⟨rfl, ?_⟩
        repeat' (walk_at "jv")
        exact hN _ _ ⟨_, decide (V.non = V.non), rfl, .inr ⟨rfl, nf, G, rfl, fG.same k2⟩, dv, dT, f1, kk⟩
    clear f1 dv dT kk
    obtain ⟨x, b, rfl, td, dv, dT, f1, kk⟩ := h'
    have nmR : (freedL ps l).length ≠ ps.length → ∀ z ∈ roundA ps l, nmOk z = true := fun nf z hz => W.names.2 z ((round_ok W hA nf).2.2.2.1 z hz)
    refine i_seq ?_
    refine i_cutS (fun σ' H2 => σ' = [some (.ref a), some v, some (.ref T), some x, some (.bl b), none, none, none, none] ∧ TdR H2 ps l x b ∧ Dp K H2 v (webD ps rs) ∧ Dp K H2 (.ref T) (rsD l) ∧ Fd H2 a c ∧ Ch a H H2) (fun N hN => ?_) (fun σ' H2 h2 => ?_)
    · skip
      repeat' (walk_at "jv")
      rcases td with ⟨rfl, rfl, fl⟩ | ⟨rfl, nf, G, rfl, fG⟩
      · refine ⟨rfl, ?_⟩
        repeat' (walk_at "jv")
        refine i_neB ⟨false, rfl, ?_⟩
        rw [if_neg (by decide)]
        repeat' (walk_at "jv")
        exact hN _ _ ⟨rfl, .inl ⟨rfl, rfl, fl⟩, dv, dT, f1, kk⟩
      · refine ⟨rfl, ?_⟩
        repeat' (walk_at "jv")
        refine i_neB ⟨false, rfl, ?_⟩
        rw [if_neg (by decide)]
        repeat' (walk_at "jv")
        have r8 := (round_ok W hA nf).2.2.1
        refine ⟨a, T, v, .ref G, .tuple ((roundA ps l).map PyData.str), ps, rs, l, rfl, dv, W, dT, hA, .tup fG.sq (obStrs _), rg_ring (by omega) (nmR nf), fun H3 k3 => ?_⟩
        rw [ring_holds W hA nf]
        replace dv := Dp.same k3 _ _ dv
        replace dT := Dp.same k3 _ _ dT
        replace f1 := Fd.same f1 k3
        replace kk := Ch.trans kk (Ch.of_same k3)
        repeat' (walk_at "jv")
        exact hN _ _ ⟨rfl, .inr ⟨rfl, nf, G, rfl, fG.same k3⟩, dv, dT, f1, kk⟩
    clear td dv dT f1 kk
    obtain ⟨rfl, td, dv, dT, f1, kk⟩ := h2
    refine i_seq ?_
    refine i_cutS (fun σ' H2 => σ' = [some (.ref a), some v, some (.ref T), some x, some (.bl b), none, none, none, none] ∧ TdR H2 ps l x b ∧ Dp K H2 v (webD ps rs) ∧ Dp K H2 (.ref T) (rsD l) ∧ Fd H2 a c ∧ Ch a H H2) (fun N hN => ?_) (fun σ' H2 h2 => ?_)
    · skip
      rcases td with ⟨rfl, rfl, fl⟩ | ⟨rfl, nf, G, rfl, fG⟩
      · repeat' (walk_at "jv")
        refine i_ckX ?_
        repeat' (walk_at "jv")
        refine arrow_ring_ok a dv W dT hA (fun _ H3 k3 => ?_) (fun c => absurd fl c)
        replace dv := Dp.same k3 _ _ dv
        replace dT := Dp.same k3 _ _ dT
        replace f1 := Fd.same f1 k3
        replace kk := Ch.trans kk (Ch.of_same k3)
        repeat' (walk_at "jv")
        refine show_non a ?_
        repeat' (walk_at "jv")
        refine show_non a ?_
        repeat' (walk_at "jv")
        · rename_i hne
          exact absurd rfl hne
        refine i_cS ?_
        repeat' (walk_at "jv")
        refine holds_ok (b := a) dv W dT hA .non (fun ds e => nomatch e) (fun H4 k4 => ?_)
        replace dv := Dp.same k4 _ _ dv
        replace dT := Dp.same k4 _ _ dT
        replace f1 := Fd.same f1 k4
        replace kk := Ch.trans kk (Ch.of_same k4)
        repeat' (walk_at "jv")
        refine ⟨holdsB l .none, false, _, rfl, rfl, rfl, ?_⟩
        refine ⟨false, rfl, ?_⟩
        rw [if_neg (by decide)]
        repeat' (walk_at "jv")
        exact hN _ _ ⟨rfl, .inl ⟨rfl, rfl, fl⟩, dv, dT, f1, kk⟩
      · have r8 := (round_ok W hA nf).2.2.1
        repeat' (walk_at "jv")
        refine i_ckX ?_
        repeat' (walk_at "jv")
        refine arrow_ring_ok a dv W dT hA (fun c => absurd c nf) (fun _ G3 H3 k3 fG3 => ?_)
        replace fG := fG.same k3
        replace dv := Dp.same k3 _ _ dv
        replace dT := Dp.same k3 _ _ dT
        replace f1 := Fd.same f1 k3
        replace kk := Ch.trans kk (Ch.of_same k3)
        repeat' (walk_at "jv")
        refine show_ts a fG3 (nmR nf) (by omega) ?_
        repeat' (walk_at "jv")
        refine show_ts a fG (nmR nf) (by omega) ?_
        repeat' (walk_at "jv")
        · rename_i hne
          exact absurd rfl hne
        refine i_cS ?_
        repeat' (walk_at "jv")
        refine holds_ok (b := a) dv W dT hA .non (fun ds e => nomatch e) (fun H4 k4 => ?_)
        replace dv := Dp.same k4 _ _ dv
        replace dT := Dp.same k4 _ _ dT
        replace f1 := Fd.same f1 k4
        replace kk := Ch.trans kk (Ch.of_same k4)
        repeat' (walk_at "jv")
        refine ⟨holdsB l .none, false, _, rfl, rfl, rfl, ?_⟩
        refine ⟨false, rfl, ?_⟩
        rw [if_neg (by decide)]
        repeat' (walk_at "jv")
        exact hN _ _ ⟨rfl, .inr ⟨rfl, nf, G, rfl, fG.same k4⟩, dv, dT, f1, kk⟩
    clear td dv dT f1 kk
    obtain ⟨rfl, td, dv, dT, f1, kk⟩ := h2
    refine i_seq ?_
    refine i_cutS (fun σ' H' => ∃ (R : Addr) (r : List Str), σ' = [some (.ref a), some v, some (.ref T), some x, some (.bl b), some (.ref R), none, none, none] ∧ SqT K H' R (r.map V.str) ∧ 0 < r.length ∧ r.length ≤ 8 ∧ (∀ z ∈ r, nmOk z = true) ∧ Dp K H' v (webD ps rs) ∧ Dp K H' (.ref T) (rsD l) ∧ Fd H' a (c + 1000) ∧ Ch a H H') (fun N hN => ?_) (fun σ' H' h' => ?_)
    · skip
      rcases td with ⟨rfl, rfl, fl⟩ | ⟨rfl, nf, G, rfl, fG⟩
      · obtain ⟨wt, tp, tr, ws, rfl, s1, s2, s3, d3, dr, dpl⟩ := web_parts dv
        have h8 := W.le8
        have h0 := W.pos
        have hmp : (ps.map V.str).length = ps.length := List.length_map ..
        repeat' (walk_at "jv")
        refine ⟨a, tp, c, _, rfl, f1, s2, by omega, by omega, fun qm ys H3 pm nqm eqm f2 k2 => ?_⟩
        obtain ⟨zs, rfl, pmz⟩ := perm_strs pm
        replace dT := Dp.tk (TK.ch k2 f1) (rsD l) _ (roads_only l) dT
        replace dv := Dp.tk (TK.ch k2 f1) _ _ (web_only _ _) dv
        replace kk := Ch.trans kk k2
        have hzl : zs.length = ps.length := pmz.length_eq
        repeat' (walk_at "jv")
        intro R nR
        have kR := Same.upd_new (o := .tup (zs.map V.str)) nR
        replace dv := Dp.same kR _ _ dv
        replace dT := Dp.same kR _ _ dT
        replace f2 := Fd.same f2 kR
        replace kk := Ch.trans kk (Ch.of_same kR)
        exact hN _ _ ⟨R, zs, rfl, sq_tup upd_same, by omega, by omega, fun z hz => W.names.2 z (pmz.mem_iff.mp hz), dv, dT, f2, kk⟩
      · obtain ⟨_, g3, g8, _, _⟩ := round_ok W hA nf
        repeat' (walk_at "jv")
        exact hN _ _ ⟨G, roundA ps l, rfl, fG.sq, by omega, g8, nmR nf, dv, dT, f1.mono (by omega), kk⟩
    clear td dv dT f1 kk
    obtain ⟨R, r, rfl, sR, r0, r8, nmr, dv, dT, f1, kk⟩ := h'
    repeat' (walk_at "jv")
    refine f_range (fun i σ H' => ∃ y6 y7 y8, σ = [some (.ref a), some v, some (.ref T), some x, some (.bl b), some (.ref R), y6, y7, y8] ∧ SqT K H' R (r.map V.str) ∧ Dp K H' v (webD ps rs) ∧ Dp K H' (.ref T) (rsD l) ∧ Fd H' a (c + 1000 + 5000 * i) ∧ Ch a H H') ⟨none, none, none, rfl, sR, dv, dT, f1.mono (by omega), kk⟩ (fun i σ H2 hi h => ?_) (fun σ H2 h => ?_)
    · clear sR dv dT f1 kk
      obtain ⟨y6, y7, y8, rfl, sR, dv, dT, f1, kk⟩ := h
      have e0 : (0 : Int) + (i : Int) = (i : Int) := by omega
      rw [e0]
      refine i_seq ?_
      refine i_cutS (fun σ' H' => ∃ y, σ' = [some (.ref a), some v, some (.ref T), some x, some (.bl b), some (.ref R), some (.int i), some y, y8] ∧ GR K H' a y ∧ SqT K H' R (r.map V.str) ∧ Dp K H' v (webD ps rs) ∧ Dp K H' (.ref T) (rsD l) ∧ Fd H' a (c + 1000 + 5000 * (i + 1)) ∧ Ch a H H') (fun N hN => ?_) (fun σ' H' h' => ?_)
      · skip
        repeat' (walk_at "jv")
        · skip
          refine ⟨a, R, v, c + 1000 + 5000 * i, ps, rs, r, rfl, f1, by omega, dv, W, sR, r0, r8, nmr, fun y H3 gy f2 k2 => ?_⟩
          replace dT := Dp.tk (TK.ch k2 f1) (rsD l) _ (roads_only l) dT
          replace dv := Dp.tk (TK.ch k2 f1) _ _ (web_only _ _) dv
          replace kk := Ch.trans kk k2
          replace sR := TK.ch k2 f1 _ _ sR
          repeat' (walk_at "jv")
          exact hN _ _ ⟨y, rfl, gy, sR, dv, dT, f2.mono (by omega), kk⟩
        · exact hN _ _ ⟨.ref R, rfl, gr_strs sR (by omega) (fun z hz => nmOk_str (nmr z hz)), sR, dv, dT, f1.mono (by omega), kk⟩
      clear sR dv dT f1 kk
      obtain ⟨y, rfl, ⟨dy, oy, hy⟩, sR, dv, dT, f1, kk⟩ := h'
      repeat' (walk_at "jv")
      refine ⟨a, T, v, y, dy, ps, rs, l, rfl, dv, W, dT, hA, oy, hy, fun H3 k3 => ?_⟩
      replace dv := Dp.same k3 _ _ dv
      replace dT := Dp.same k3 _ _ dT
      replace f1 := Fd.same f1 k3
      replace kk := Ch.trans kk (Ch.of_same k3)
      replace oy := Ob.same oy k3
      replace sR := TK.same k3 _ _ sR
      clear k3
      repeat' (walk_at "jv")
      refine ⟨_, rfl, ?_⟩
      repeat' (walk_at "jv")
      refine i_cS ?_
      repeat' (walk_at "jv")
      refine holds_ok dv W dT hA oy hy (fun H4 k4 => ?_)
      replace dv := Dp.same k4 _ _ dv
      replace dT := Dp.same k4 _ _ dT
      replace f1 := Fd.same f1 k4
      replace kk := Ch.trans kk (Ch.of_same k4)
      replace oy := Ob.same oy k4
      replace sR := TK.same k4 _ _ sR
      clear k4
      repeat' (walk_at "jv")
      refine ⟨_, rfl, ?_⟩
      repeat' (walk_at "jv")
      · rename_i hne
        exact absurd rfl hne
      refine i_ckX ?_
      repeat' (walk_at "jv")
      refine holds_ok dv W dT hA oy hy (fun H5 k5 => ?_)
      replace dv := Dp.same k5 _ _ dv
      replace dT := Dp.same k5 _ _ dT
      replace f1 := Fd.same f1 k5
      replace kk := Ch.trans kk (Ch.of_same k5)
      replace oy := Ob.same oy k5
      replace sR := TK.same k5 _ _ sR
      clear k5
      repeat' (walk_at "jv")
      refine ⟨_, rfl, ?_⟩
      repeat' (walk_at "jv")
      · rename_i hne
        exact absurd rfl hne
      exact ⟨_, _, _, rfl, sR, dv, dT, f1, kk⟩
    · obtain ⟨y6, y7, y8, rfl, sR, dv, dT, f1, kk⟩ := h
      repeat' (walk_at "jv")
      exact q _ (f1.mono (by omega)) kk
end
end
section
open L2 PySem PySem.Spec PyProof.Rows
abbrev s_law : Stmt := topS 47
theorem sc_law : FnScope ["_law_script", "_law_k", "_law_feed_here", "_law_web_here", "_law_turn", "_law_thing"] ["_law_script"] (defScope s_law) := ⟨rfl, rfl, rfl, by decide +kernel, rfl, by decide +kernel, by decide +kernel⟩
def spLaw (K : PySem.W.Frag) : Sp := fun vs H Q _ => ∃ (a : Addr) (ns : List Int), vs = [.ref a] ∧ SqL K H a (ns.map V.int) ∧ ns.length ≤ 63 ∧ ∀ H', Q (.bl true) H'
section
variable {base : Heap} {P : Program} {w : World} {K : PySem.W.Frag} {mg : Str → Option Value}
theorem arrl_arrR {rs : List (Str × Str)} (qs : List Str) : ArrL rs (arr qs rs) := by
  refine ⟨arr_len .., fun i hi => ?_⟩
  unfold arr
  rw [List.getD_eq_getElem?_getD, List.getD_eq_getElem?_getD, List.getElem?_map, List.getElem?_eq_getElem hi]
  exact arr1_or qs rs[i]
theorem ok_law {fL : Addr} {fdL : FuncData} (F : Fun K "law" "law" s_law fL fdL) (B : Bn mg) (C__law_feed : Cl P w K mg base 1 "_law_feed" ["_law_script", "_law_k"] (spFeed K)) (C__law_any_web : Cl P w K mg base 5 "_law_any_web" ["_law_feed_here", "_law_most"] (spAnyWeb K))
    (C__law_order : Cl P w K mg base 3 "_law_order" ["_law_feed_here", "_law_web_here"] (spOrderF K)) (C__law_arrows : Cl P w K mg base 1 "_law_arrows" ["_law_web_here", "_law_order_here"] (spArrows K))
    (C__law_drawn_arrows : Cl P w K mg base 2 "_law_drawn_arrows" ["_law_feed_here", "_law_web_here"] (spDrawnA K)) (C__law_are_arrows : Cl P w K mg base 1 "_law_are_arrows" ["_law_web_here", "_law_thing"] (spAreA K))
    (C__law_bent_arrows : Cl P w K mg base 3 "_law_bent_arrows" ["_law_feed_here", "_law_web_here", "_law_some"] (spBentA K)) (C__law_words : Cl P w K mg base 7 "_law_words" ["_law_web_here", "_law_thing"] (spWords K))
    (C__law_right : ClG P w K mg base 7 "_law_right" ["_law_feed_here", "_law_web_here", "_law_some"] (spRightR K)) : FnG P w K mg base 9 fL fdL ["_law_script"] (spLaw K) := by
  refine okG F sc_law (fun vs H Q E h => ?_) (fun cdv A outer s H vs Q E hgd hr h => ?_)
  · obtain ⟨a, ns, rfl, _⟩ := h
    rfl
  · obtain ⟨a, ns, rfl, ha, hl, q⟩ := h
    refine ⟨_, (pss_cons (ps_for PassesOwn.never rfl (pi_range1 rfl B.range_ (pa_cons (pe_callB (j_max rfl) rfl B.max_ (by decide +kernel) (pa_cons pe_int (pa_cons (pe_callB (j_min rfl) rfl B.min_ (by decide +kernel) (pa_cons (pe_callB (k_len (K := K)) rfl B.len_ (by decide +kernel) (pa_cons (pv 0) pa_nil)) (pa_cons pe_int pa_nil))) pa_nil))) pa_nil)) (pg_name (i := 1) sc_law.nd rfl (by first | exact Or.inl rfl | exact Or.inr rfl)) (pss_cons (ps_set (i := 2) sc_law.nd rfl (by first | exact Or.inl rfl | exact Or.inr rfl) (pe_c C__law_feed hr (pa_cons (pv 0) (pa_cons (pv 1) pa_nil))))
      (pss_cons (ps_set (i := 3) sc_law.nd rfl (by first | exact Or.inl rfl | exact Or.inr rfl) (pe_c C__law_any_web hr (pa_cons (pv 2) (pa_cons pe_int pa_nil))))
      (pss_cons (ps_if (pt_not (pt_val (pe_cG C__law_right hgd hr (pa_cons (pv 2) (pa_cons (pv 3) (pa_cons (pe_c C__law_arrows hr (pa_cons (pv 3) (pa_cons (pe_c C__law_order hr (pa_cons (pv 2) (pa_cons (pv 3) pa_nil))) pa_nil))) pa_nil)))))) (pss_one (ps_ret pe_bl)) pss_nil)
      (pss_cons (ps_for PassesOwn.never rfl (pi_range1 rfl B.range_ (pa_cons pe_int pa_nil)) (pg_name (i := 4) sc_law.nd rfl (by first | exact Or.inl rfl | exact Or.inr rfl)) (pss_one (ps_if (pt_not (pt_val (pe_cG C__law_right hgd hr (pa_cons (pv 2) (pa_cons (pv 3) (pa_cons (pe_c C__law_drawn_arrows hr (pa_cons (pv 2) (pa_cons (pv 3) pa_nil))) pa_nil)))))) (pss_one (ps_ret pe_bl)) pss_nil)))
      (pss_one (ps_for PassesOwn.never rfl (pi_range1 rfl B.range_ (pa_cons pe_int pa_nil)) (pg_name (i := 4) sc_law.nd rfl (by first | exact Or.inl rfl | exact Or.inr rfl)) (pss_cons (ps_set (i := 5) sc_law.nd rfl (by first | exact Or.inl rfl | exact Or.inr rfl) (pe_c C__law_bent_arrows hr (pa_cons (pv 2) (pa_cons (pv 3) (pa_cons (pe_c C__law_drawn_arrows hr (pa_cons (pv 2) (pa_cons (pv 3) pa_nil))) pa_nil)))))
      (pss_one (ps_if (pt_cmpR (k_neD (K := K) hr.units) (pe_c C__law_words hr (pa_cons (pv 3) (pa_cons (pv 5) pa_nil))) (pe_op op_rep (pe_lst (pa_cons (pe_ix (k_ixL (K := K)) (pe_lst (pa_cons pe_str (pa_cons pe_str pa_nil))) (pe_callTy (j_int) rfl B.int_ (by decide +kernel) (pa_cons (pe_c C__law_are_arrows hr (pa_cons (pv 3) (pa_cons (pv 5) pa_nil))) pa_nil)) (fun _ _ => rfl)) pa_nil)) pe_int) (nomark _)) (pss_one (ps_ret pe_bl)) pss_nil))))))))))
      (pss_one (ps_ret pe_bl))), ?_⟩
    repeat' (walk_at "jv")
    have hm : (max (1 : Int) (min (((ns.map V.int).length : Nat) : Int) 3)).toNat ≤ 3 := by omega
    generalize (max (1 : Int) (min (((ns.map V.int).length : Nat) : Int) 3)).toNat = m at hm ⊢
    refine f_range (fun i σ H' => ∃ y1 y2 y3 y4 y5, σ = [some (.ref a), y1, y2, y3, y4, y5] ∧ SqL K H' a (ns.map V.int)) ⟨none, none, none, none, none, rfl, ha⟩ (fun i σ H0 hi h => ?_) (fun σ H0 h => ?_)
    · obtain ⟨y1, y2, y3, y4, y5, rfl, ha0⟩ := h
      have e0 : (0 : Int) + (i : Int) = (i : Int) := by omega
      rw [e0]
      repeat' (walk_at "jv")
      refine ⟨a, ns, (i : Int), rfl, ha0, hl, by omega, by omega, fun q1 H1 nq f1 s1 => ?_⟩
      have k1 : Ch q1 H0 H1 := Ch.of_same s1
      repeat' (walk_at "jv")
      refine ⟨q1, 8, 0, rfl, f1, by decide, by decide, by decide, fun v ps rs H2 W hb dv f2 k2 => ?_⟩
      replace k1 := k1.trans k2
      clear f1 k2 s1 H1
      have h8 := W.le8
      repeat' (walk_at "jv")
      refine ⟨q1, v, ps, rs, _, rfl, f2, dv, W.le8, by omega, fun o qs H3 pm fo f3 k3 => ?_⟩
      replace dv := Dp.tk (TK.ch k3 f2) _ _ (web_only _ _) dv
      replace k1 := Ch.trans k1 k3
      clear f2 k3 H2
      repeat' (walk_at "jv")
      refine ⟨v, o, qs, ps, rs, rfl, dv, W, fo, pm, fun T H4 k4 d4 => ?_⟩
      replace d4 : Dp K H4 (.ref T) (rsD (arr qs rs)) := d4
      replace dv := Dp.same k4 _ _ dv
      replace k1 := Ch.trans k1 (Ch.of_same k4)
      replace f3 := Fd.same f3 k4
      clear k4 fo H3
      repeat' (walk_at "jv")
      refine ⟨q1, T, v, _, ps, rs, arr qs rs, rfl, f3, by omega, dv, W, d4, arrl_arrR qs, fun H5 f5 k5 => ?_⟩
      replace dv := Dp.tk (TK.ch k5 f3) _ _ (web_only _ _) dv
      replace k1 := Ch.trans k1 k5
      clear f3 k5 d4
      repeat' (walk_at "jv")
      refine f_range (fun j σ H' => ∃ y4 y5, σ = [some (.ref a), some (.int i), some (.ref q1), some v, y4, y5] ∧ Dp K H' v (webD ps rs) ∧ Ch q1 H0 H' ∧ Fd H' q1 (200000 + 100000 * j)) ⟨_, _, rfl, dv, k1, f5.mono (by omega)⟩ (fun j σ H6 hj h => ?_) (fun σ H6 h => ?_)
      · clear dv k1 f5 H5
        obtain ⟨y4, y5, rfl, dv, k1, f5⟩ := h
        repeat' (walk_at "jv")
        refine ⟨q1, v, _, ps, rs, rfl, f5, by omega, dv, W, fun T2 l H7 hA2 d7 f7 k7 => ?_⟩
        replace dv := Dp.tk (TK.ch k7 f5) _ _ (web_only _ _) dv
        replace k1 := Ch.trans k1 k7
        clear f5 k7 H6
        repeat' (walk_at "jv")
        refine ⟨q1, T2, v, _, ps, rs, l, rfl, f7, by omega, dv, W, d7, hA2, fun H8 f8 k8 => ?_⟩
        replace dv := Dp.tk (TK.ch k8 f7) _ _ (web_only _ _) dv
        replace k1 := Ch.trans k1 k8
        clear f7 k8 d7 H7
        repeat' (walk_at "jv")
        exact ⟨_, _, rfl, dv, k1, f8.mono (by omega)⟩
      · clear dv k1 f5 H5
        obtain ⟨y4, y5, rfl, dv, k1, f5⟩ := h
        repeat' (walk_at "jv")
        refine f_range (fun j σ H' => ∃ y4 y5, σ = [some (.ref a), some (.int i), some (.ref q1), some v, y4, y5] ∧ Dp K H' v (webD ps rs) ∧ Ch q1 H0 H' ∧ Fd H' q1 (700000 + 100000 * j)) ⟨_, _, rfl, dv, k1, f5.mono (by omega)⟩ (fun j σ H7 hj h => ?_) (fun σ H7 h => ?_)
        · clear dv k1 f5 H6
          obtain ⟨y4, y5, rfl, dv, k1, f5⟩ := h
          repeat' (walk_at "jv")
          refine ⟨q1, v, _, ps, rs, rfl, f5, by omega, dv, W, fun T2 l H8 hA2 d8 f8 k8 => ?_⟩
          replace dv := Dp.tk (TK.ch k8 f5) _ _ (web_only _ _) dv
          replace k1 := Ch.trans k1 k8
          clear f5 k8 H7
          repeat' (walk_at "jv")
          refine ⟨q1, T2, v, _, ps, rs, l, rfl, f8, by omega, dv, W, d8, hA2, fun y H9 nt f9 k9 => ?_⟩
          replace dv := Dp.tk (TK.ch k9 f8) _ _ (web_only _ _) dv
          replace k1 := Ch.trans k1 k9
          clear f8 k9 d8 H8
          obtain ⟨d, oy, nd⟩ := nt
          repeat' (walk_at "jv")
          refine ⟨q1, v, y, d, ps, rs, rfl, dv, W, oy, near_hd nd, fun L H10 k10 eL => ?_⟩
          replace dv := Dp.same k10 _ _ dv
          replace k1 := Ch.trans k1 (Ch.of_same k10)
          replace f9 := Fd.same f9 k10
          replace oy := Ob.same oy k10
          clear k10 H9
          repeat' (walk_at "jv")
          intro B1 nB1
          have kB1 := Same.upd_new (o := .lst [.str "bad", .str "told"]) nB1
          have eB1 : (upd H10 B1 (.lst [.str "bad", .str "told"])) B1 = some (.lst [.str "bad", .str "told"]) := upd_same
          replace dv := Dp.same kB1 _ _ dv
          replace k1 := Ch.trans k1 (Ch.of_same kB1)
          replace f9 := Fd.same f9 kB1
          replace oy := Ob.same oy kB1
          replace eL := kB1 _ _ eL
          generalize upd H10 B1 (.lst [.str "bad", .str "told"]) = H11 at *
          clear kB1 nB1
          repeat' (walk_at "jv")
          refine ⟨q1, v, y, d, ps, rs, rfl, dv, W, oy, nd, fun H12 k12 => ?_⟩
          replace dv := Dp.same k12 _ _ dv
          replace k1 := Ch.trans k1 (Ch.of_same k12)
          replace f9 := Fd.same f9 k12
          replace oy := Ob.same oy k12
          replace eL := k12 _ _ eL
          replace eB1 := k12 _ _ eB1
          clear k12
          repeat' (walk_at "jv")
          have ix : atI [V.str "bad", V.str "told"] (if arrOk d rs = true then 1 else 0) = some (.str (wordB (arrOk d rs))) := by cases arrOk d rs <;> rfl
          refine i_ixL (sq_lst eB1) ix ?_
          have ow : PyData.strOk (wordB (arrOk d rs)) = true := by cases arrOk d rs <;> decide +kernel
          have sw : SeqAt.shaped (.list [.str (wordB (arrOk d rs)), .str (wordB (arrOk d rs))]) = true := by cases arrOk d rs <;> decide +kernel
          have ew : PyData.eqv (.list [.str (wordB (arrOk d rs)), .str (wordB (arrOk d rs))]) (.list [.str (wordB (arrOk d rs)), .str (wordB (arrOk d rs))]) = true := by cases arrOk d rs <;> decide +kernel
          clear ix oy eB1
          generalize wordB (arrOk d rs) = wd at *
          repeat' (walk_at "jv")
          intro B2 nB2
          have kB2 := Same.upd_new (o := .lst [.str wd]) nB2
          have eB2 : (upd H12 B2 (.lst [.str wd])) B2 = some (.lst [.str wd]) := upd_same
          replace dv := Dp.same kB2 _ _ dv
          replace k1 := Ch.trans k1 (Ch.of_same kB2)
          replace f9 := Fd.same f9 kB2
          replace eL := kB2 _ _ eL
          generalize upd H12 B2 (.lst [.str wd]) = H13 at *
          clear kB2 nB2
          repeat' (walk_at "jv")
          refine ⟨B2, 2, _, rfl, rfl, eB2, by decide, by decide, by show 1 * 2 ≤ _; decide, fun B3 nB3 => ?_⟩
          have kB3 := Same.upd_new (o := .lst (List.replicate (2 : Int).toNat [V.str wd]).flatten) nB3
          have eB3 : (upd H13 B3 (.lst (List.replicate (2 : Int).toNat [V.str wd]).flatten)) B3 = some (.lst [.str wd, .str wd]) := upd_same
          replace dv := Dp.same kB3 _ _ dv
          replace k1 := Ch.trans k1 (Ch.of_same kB3)
          replace f9 := Fd.same f9 kB3
          replace eL := kB3 _ _ eL
          generalize upd H13 B3 (.lst (List.replicate (2 : Int).toNat [V.str wd]).flatten) = H14 at *
          clear kB3 nB3
          refine ⟨.list [.str wd, .str wd], .list [.str wd, .str wd], .lst (sq_lst eL) (.cons (.str _) (.cons (.str _) .nil)), .lst (sq_lst eB3) (.cons (.str _) (.cons (.str _) .nil)), sw, sw, ?_⟩
          rw [ew]
          refine ⟨false, rfl, ?_⟩
          rw [if_neg (by decide)]
          repeat' (walk_at "jv")
          exact ⟨_, _, rfl, dv, k1, f9.mono (by omega)⟩
        · obtain ⟨y4, y5, rfl, dv, k1, f5⟩ := h
          repeat' (walk_at "jv")
          exact ⟨_, _, _, _, _, rfl, sqL_ch ha0 nq k1⟩
    · obtain ⟨y1, y2, y3, y4, y5, rfl, ha0⟩ := h
      repeat' (walk_at "jv")
      exact q _
end
end
section
open L2 PySem PySem.Spec PyProof.Rows
def frees : List Str := ["int", "str", "tuple", "list", "bool", "len", "isinstance", "all", "any", "max", "min", "sum", "sorted", "repr", "range", "enumerate", "zip", "set", "dict", "ValueError"]
def freeB (K : PySem.W.Frag) : Bool := frees.all fun x => decide (PySem.W.nsIn K mainGlobals x = some none)
theorem bn_of {K : PySem.W.Frag} {mg : Str → Option Value} {h : Heap} (X : K.In h) (G : h.Ns mainGlobals mg) (b : freeB K = true) : Bn mg := by
  have z : ∀ x ∈ frees, mg x = none := fun x hx => PySem.W.mg_none_of X G (of_decide_eq_true (List.all_eq_true.mp b x hx))
  exact ⟨z _ (by simp [frees]), z _ (by simp [frees]), z _ (by simp [frees]), z _ (by simp [frees]), z _ (by simp [frees]), z _ (by simp [frees]), z _ (by simp [frees]), z _ (by simp [frees]), z _ (by simp [frees]), z _ (by simp [frees]), z _ (by simp [frees]), z _ (by simp [frees]), z _ (by simp [frees]), z _ (by simp [frees]), z _ (by simp [frees]), z _ (by simp [frees]), z _ (by simp [frees]), z _ (by simp [frees])⟩
def clsOk (K : PySem.W.Frag) : Bool := isClsX K "BadArrows" && xcOk K (clsX K "BadArrows") && isClsX K "TurnError" && xcOk K (clsX K "TurnError") && caughtB K (clsX K "BadArrows") (clsX K "TurnError")
theorem bd_of {K : PySem.W.Frag} {mg : Str → Option Value} {h : Heap} (X : K.In h) (G : h.Ns mainGlobals mg) (b : freeB K = true) : mg "dict" = none :=
  PySem.W.mg_none_of X G (of_decide_eq_true (List.all_eq_true.mp b "dict" (by simp [frees])))
theorem all_mk {P : Program} {w : World} {K : PySem.W.Frag} {h : Heap} {mg : Str → Option Value} {fa : Addr} (X : K.In h) (G : h.Ns mainGlobals mg) (hfa : mg "law" = some (.ref fa)) (b : freeB K = true) (bc : clsOk K = true)
    {f0 f1 f2 f3 f4 f5 f6 f7 f8 f9 f10 f11 f12 f13 f14 f15 f16 f17 f18 f19 f20 f21 f22 f23 f24 f25 f26 f27 f28 f29 f30 f31 f32 f33 : Addr} {od0 an0 od1 an1 od2 an2 od3 an3 od4 an4 od5 an5 od6 an6 od7 an7 od8 an8 od9 an9 od10 an10 od11 an11 od12 an12 od13 an13 od14 an14 od15 an15 od16 an16 od17 an17 od18 an18 od19 an19 od20 an20 od21 an21 od22 an22 od23 an23 od24 an24 od25 an25 od26 an26 od27 an27 od28 an28 od29 an29 od30 an30 od31 an31 od32 an32 od33 an33 : Option Addr} {sl0 sl1 sl2 sl3 sl4 sl5 sl6 sl7 sl8 sl9 sl10 sl11 sl12 sl13 sl14 sl15 sl16 sl17 sl18 sl19 sl20 sl21 sl22 sl23 sl24 sl25 sl26 sl27 sl28 sl29 sl30 sl31 sl32 sl33 : Array (Option Value)} {oc0 kV0 dc0 pm0 cd0 ct0 oc1 kV1 dc1 pm1 cd1 ct1 oc2 kV2 dc2 pm2 cd2 ct2 oc3 kV3 dc3 pm3 cd3 ct3 oc4 kV4 dc4 pm4 cd4 ct4 oc5 kV5 dc5 pm5 cd5 ct5 oc6 kV6 dc6 pm6 cd6 ct6 oc7 kV7 dc7 pm7 cd7 ct7 oc8 kV8 dc8 pm8 cd8 ct8 oc9 kV9 dc9 pm9 cd9 ct9 oc10 kV10 dc10 pm10 cd10 ct10 oc11 kV11 dc11 pm11 cd11 ct11 oc12 kV12 dc12 pm12 cd12 ct12 oc13 kV13 dc13 pm13 cd13 ct13 oc14 kV14 dc14 pm14 cd14 ct14 oc15 kV15 dc15 pm15 cd15 ct15 oc16 kV16 dc16 pm16 cd16 ct16 oc17 kV17 dc17 pm17 cd17 ct17 oc18 kV18 dc18 pm18 cd18 ct18 oc19 kV19 dc19 pm19 cd19 ct19 oc20 kV20 dc20 pm20 cd20 ct20 oc21 kV21 dc21 pm21 cd21 ct21 oc22 kV22 dc22 pm22 cd22 ct22 oc23 kV23 dc23 pm23 cd23 ct23 oc24 kV24 dc24 pm24 cd24 ct24 oc25 kV25 dc25 pm25 cd25 ct25 oc26 kV26 dc26 pm26 cd26 ct26 oc27 kV27 dc27 pm27 cd27 ct27 oc28 kV28 dc28 pm28 cd28 ct28 oc29 kV29 dc29 pm29 cd29 ct29 oc30 kV30 dc30 pm30 cd30 ct30 oc31 kV31 dc31 pm31 cd31 ct31 oc32 kV32 dc32 pm32 cd32 ct32 oc33 kV33 dc33 pm33 cd33 ct33 : Value} {t0 t1 t2 t3 t4 t5 : Tok}
    (g0 : PySem.W.nsIn K mainGlobals "LONGEST_NAME" = some (some (.int 8 t0)))
    (g1 : PySem.W.nsIn K mainGlobals "MOST_PLACES" = some (some (.int 8 t1)))
    (g2 : PySem.W.nsIn K mainGlobals "MOST_ROADS" = some (some (.int 14 t2)))
    (g3 : PySem.W.nsIn K mainGlobals "LETTERS" = some (some (.str "abcdefghijklmnopqrstuvwxyz" t3)))
    (g4 : PySem.W.nsIn K mainGlobals "NAME_SIGNS" = some (some (.str "abcdefghijklmnopqrstuvwxyz0123456789" t4)))
    (g5 : PySem.W.nsIn K mainGlobals "FEWEST_IN_RING" = some (some (.int 3 t5)))
    (a0 : PySem.W.nsIn K mainGlobals "is_name" = some (some (.ref f0))) (l0 : K.lookup f0 = some ⟨oc0, od0, .func (PySem.W.fnOf "is_name" "is_name" (defArgs s_is_name) (defBody s_is_name) (defScope s_is_name) .none kV0 dc0 pm0 an0 cd0 ct0), sl0⟩) (c0 : PySem.W.codeIn K cd0 "is_name" = true) (k0 : PySem.W.keepIn K (.ref f0) = true)
    (a1 : PySem.W.nsIn K mainGlobals "is_web" = some (some (.ref f1))) (l1 : K.lookup f1 = some ⟨oc1, od1, .func (PySem.W.fnOf "is_web" "is_web" (defArgs s_is_web) (defBody s_is_web) (defScope s_is_web) .none kV1 dc1 pm1 an1 cd1 ct1), sl1⟩) (c1 : PySem.W.codeIn K cd1 "is_web" = true) (k1 : PySem.W.keepIn K (.ref f1) = true)
    (a2 : PySem.W.nsIn K mainGlobals "_are_places" = some (some (.ref f2))) (l2 : K.lookup f2 = some ⟨oc2, od2, .func (PySem.W.fnOf "_are_places" "_are_places" (defArgs s__are_places) (defBody s__are_places) (defScope s__are_places) .none kV2 dc2 pm2 an2 cd2 ct2), sl2⟩) (c2 : PySem.W.codeIn K cd2 "_are_places" = true) (k2 : PySem.W.keepIn K (.ref f2) = true)
    (a3 : PySem.W.nsIn K mainGlobals "_are_roads" = some (some (.ref f3))) (l3 : K.lookup f3 = some ⟨oc3, od3, .func (PySem.W.fnOf "_are_roads" "_are_roads" (defArgs s__are_roads) (defBody s__are_roads) (defScope s__are_roads) .none kV3 dc3 pm3 an3 cd3 ct3), sl3⟩) (c3 : PySem.W.codeIn K cd3 "_are_roads" = true) (k3 : PySem.W.keepIn K (.ref f3) = true)
    (a4 : PySem.W.nsIn K mainGlobals "_is_road" = some (some (.ref f4))) (l4 : K.lookup f4 = some ⟨oc4, od4, .func (PySem.W.fnOf "_is_road" "_is_road" (defArgs s__is_road) (defBody s__is_road) (defScope s__is_road) .none kV4 dc4 pm4 an4 cd4 ct4), sl4⟩) (c4 : PySem.W.codeIn K cd4 "_is_road" = true) (k4 : PySem.W.keepIn K (.ref f4) = true)
    (a5 : PySem.W.nsIn K mainGlobals "is_one_of" = some (some (.ref f5))) (l5 : K.lookup f5 = some ⟨oc5, od5, .func (PySem.W.fnOf "is_one_of" "is_one_of" (defArgs s_is_one_of) (defBody s_is_one_of) (defScope s_is_one_of) .none kV5 dc5 pm5 an5 cd5 ct5), sl5⟩) (c5 : PySem.W.codeIn K cd5 "is_one_of" = true) (k5 : PySem.W.keepIn K (.ref f5) = true)
    (a6 : PySem.W.nsIn K mainGlobals "need_web" = some (some (.ref f6))) (l6 : K.lookup f6 = some ⟨oc6, od6, .func (PySem.W.fnOf "need_web" "need_web" (defArgs s_need_web) (defBody s_need_web) (defScope s_need_web) .none kV6 dc6 pm6 an6 cd6 ct6), sl6⟩) (c6 : PySem.W.codeIn K cd6 "need_web" = true) (k6 : PySem.W.keepIn K (.ref f6) = true)
    (a7 : PySem.W.nsIn K mainGlobals "could_be_ring" = some (some (.ref f7))) (l7 : K.lookup f7 = some ⟨oc7, od7, .func (PySem.W.fnOf "could_be_ring" "could_be_ring" (defArgs s_could_be_ring) (defBody s_could_be_ring) (defScope s_could_be_ring) .none kV7 dc7 pm7 an7 cd7 ct7), sl7⟩) (c7 : PySem.W.codeIn K cd7 "could_be_ring" = true) (k7 : PySem.W.keepIn K (.ref f7) = true)
    (a8 : PySem.W.nsIn K mainGlobals "next_pairs" = some (some (.ref f8))) (l8 : K.lookup f8 = some ⟨oc8, od8, .func (PySem.W.fnOf "next_pairs" "next_pairs" (defArgs s_next_pairs) (defBody s_next_pairs) (defScope s_next_pairs) .none kV8 dc8 pm8 an8 cd8 ct8), sl8⟩) (c8 : PySem.W.codeIn K cd8 "next_pairs" = true) (k8 : PySem.W.keepIn K (.ref f8) = true)
    (a9 : PySem.W.nsIn K mainGlobals "free_places" = some (some (.ref f9))) (l9 : K.lookup f9 = some ⟨oc9, od9, .func (PySem.W.fnOf "free_places" "free_places" (defArgs s_free_places) (defBody s_free_places) (defScope s_free_places) .none kV9 dc9 pm9 an9 cd9 ct9), sl9⟩) (c9 : PySem.W.codeIn K cd9 "free_places" = true) (k9 : PySem.W.keepIn K (.ref f9) = true)
    (a10 : PySem.W.nsIn K mainGlobals "freed" = some (some (.ref f10))) (l10 : K.lookup f10 = some ⟨oc10, od10, .func (PySem.W.fnOf "freed" "freed" (defArgs s_freed) (defBody s_freed) (defScope s_freed) .none kV10 dc10 pm10 an10 cd10 ct10), sl10⟩) (c10 : PySem.W.codeIn K cd10 "freed" = true) (k10 : PySem.W.keepIn K (.ref f10) = true)
    (a11 : PySem.W.nsIn K mainGlobals "_need_arrows" = some (some (.ref f11))) (l11 : K.lookup f11 = some ⟨oc11, od11, .func (PySem.W.fnOf "_need_arrows" "_need_arrows" (defArgs s__need_arrows) (defBody s__need_arrows) (defScope s__need_arrows) .none kV11 dc11 pm11 an11 cd11 ct11), sl11⟩) (c11 : PySem.W.codeIn K cd11 "_need_arrows" = true) (k11 : PySem.W.keepIn K (.ref f11) = true)
    (a12 : PySem.W.nsIn K mainGlobals "_is_arrow" = some (some (.ref f12))) (l12 : K.lookup f12 = some ⟨oc12, od12, .func (PySem.W.fnOf "_is_arrow" "_is_arrow" (defArgs s__is_arrow) (defBody s__is_arrow) (defScope s__is_arrow) .none kV12 dc12 pm12 an12 cd12 ct12), sl12⟩) (c12 : PySem.W.codeIn K cd12 "_is_arrow" = true) (k12 : PySem.W.keepIn K (.ref f12) = true)
    (a13 : PySem.W.nsIn K mainGlobals "arrow_ring" = some (some (.ref f13))) (l13 : K.lookup f13 = some ⟨oc13, od13, .func (PySem.W.fnOf "arrow_ring" "arrow_ring" (defArgs s_arrow_ring) (defBody s_arrow_ring) (defScope s_arrow_ring) .none kV13 dc13 pm13 an13 cd13 ct13), sl13⟩) (c13 : PySem.W.codeIn K cd13 "arrow_ring" = true) (k13 : PySem.W.keepIn K (.ref f13) = true)
    (a14 : PySem.W.nsIn K mainGlobals "arrow_ring_holds" = some (some (.ref f14))) (l14 : K.lookup f14 = some ⟨oc14, od14, .func (PySem.W.fnOf "arrow_ring_holds" "arrow_ring_holds" (defArgs s_arrow_ring_holds) (defBody s_arrow_ring_holds) (defScope s_arrow_ring_holds) .none kV14 dc14 pm14 an14 cd14 ct14), sl14⟩) (c14 : PySem.W.codeIn K cd14 "arrow_ring_holds" = true) (k14 : PySem.W.keepIn K (.ref f14) = true)
    (a15 : PySem.W.nsIn K mainGlobals "_law_feed" = some (some (.ref f15))) (l15 : K.lookup f15 = some ⟨oc15, od15, .func (PySem.W.fnOf "_law_feed" "_law_feed" (defArgs s__law_feed) (defBody s__law_feed) (defScope s__law_feed) .none kV15 dc15 pm15 an15 cd15 ct15), sl15⟩) (c15 : PySem.W.codeIn K cd15 "_law_feed" = true) (k15 : PySem.W.keepIn K (.ref f15) = true)
    (a16 : PySem.W.nsIn K mainGlobals "_law_draw" = some (some (.ref f16))) (l16 : K.lookup f16 = some ⟨oc16, od16, .func (PySem.W.fnOf "_law_draw" "_law_draw" (defArgs s__law_draw) (defBody s__law_draw) (defScope s__law_draw) .none kV16 dc16 pm16 an16 cd16 ct16), sl16⟩) (c16 : PySem.W.codeIn K cd16 "_law_draw" = true) (k16 : PySem.W.keepIn K (.ref f16) = true)
    (a17 : PySem.W.nsIn K mainGlobals "_law_one" = some (some (.ref f17))) (l17 : K.lookup f17 = some ⟨oc17, od17, .func (PySem.W.fnOf "_law_one" "_law_one" (defArgs s__law_one) (defBody s__law_one) (defScope s__law_one) .none kV17 dc17 pm17 an17 cd17 ct17), sl17⟩) (c17 : PySem.W.codeIn K cd17 "_law_one" = true) (k17 : PySem.W.keepIn K (.ref f17) = true)
    (a18 : PySem.W.nsIn K mainGlobals "_law_mixed" = some (some (.ref f18))) (l18 : K.lookup f18 = some ⟨oc18, od18, .func (PySem.W.fnOf "_law_mixed" "_law_mixed" (defArgs s__law_mixed) (defBody s__law_mixed) (defScope s__law_mixed) .none kV18 dc18 pm18 an18 cd18 ct18), sl18⟩) (c18 : PySem.W.codeIn K cd18 "_law_mixed" = true) (k18 : PySem.W.keepIn K (.ref f18) = true)
    (a19 : PySem.W.nsIn K mainGlobals "_law_names" = some (some (.ref f19))) (l19 : K.lookup f19 = some ⟨oc19, od19, .func (PySem.W.fnOf "_law_names" "_law_names" (defArgs s__law_names) (defBody s__law_names) (defScope s__law_names) .none kV19 dc19 pm19 an19 cd19 ct19), sl19⟩) (c19 : PySem.W.codeIn K cd19 "_law_names" = true) (k19 : PySem.W.keepIn K (.ref f19) = true)
    (a20 : PySem.W.nsIn K mainGlobals "_law_web" = some (some (.ref f20))) (l20 : K.lookup f20 = some ⟨oc20, od20, .func (PySem.W.fnOf "_law_web" "_law_web" (defArgs s__law_web) (defBody s__law_web) (defScope s__law_web) .none kV20 dc20 pm20 an20 cd20 ct20), sl20⟩) (c20 : PySem.W.codeIn K cd20 "_law_web" = true) (k20 : PySem.W.keepIn K (.ref f20) = true)
    (a21 : PySem.W.nsIn K mainGlobals "_law_order" = some (some (.ref f21))) (l21 : K.lookup f21 = some ⟨oc21, od21, .func (PySem.W.fnOf "_law_order" "_law_order" (defArgs s__law_order) (defBody s__law_order) (defScope s__law_order) .none kV21 dc21 pm21 an21 cd21 ct21), sl21⟩) (c21 : PySem.W.codeIn K cd21 "_law_order" = true) (k21 : PySem.W.keepIn K (.ref f21) = true)
    (a22 : PySem.W.nsIn K mainGlobals "_law_arrows" = some (some (.ref f22))) (l22 : K.lookup f22 = some ⟨oc22, od22, .func (PySem.W.fnOf "_law_arrows" "_law_arrows" (defArgs s__law_arrows) (defBody s__law_arrows) (defScope s__law_arrows) .none kV22 dc22 pm22 an22 cd22 ct22), sl22⟩) (c22 : PySem.W.codeIn K cd22 "_law_arrows" = true) (k22 : PySem.W.keepIn K (.ref f22) = true)
    (a23 : PySem.W.nsIn K mainGlobals "_law_wide_web" = some (some (.ref f23))) (l23 : K.lookup f23 = some ⟨oc23, od23, .func (PySem.W.fnOf "_law_wide_web" "_law_wide_web" (defArgs s__law_wide_web) (defBody s__law_wide_web) (defScope s__law_wide_web) .none kV23 dc23 pm23 an23 cd23 ct23), sl23⟩) (c23 : PySem.W.codeIn K cd23 "_law_wide_web" = true) (k23 : PySem.W.keepIn K (.ref f23) = true)
    (a24 : PySem.W.nsIn K mainGlobals "_law_any_web" = some (some (.ref f24))) (l24 : K.lookup f24 = some ⟨oc24, od24, .func (PySem.W.fnOf "_law_any_web" "_law_any_web" (defArgs s__law_any_web) (defBody s__law_any_web) (defScope s__law_any_web) .none kV24 dc24 pm24 an24 cd24 ct24), sl24⟩) (c24 : PySem.W.codeIn K cd24 "_law_any_web" = true) (k24 : PySem.W.keepIn K (.ref f24) = true)
    (a25 : PySem.W.nsIn K mainGlobals "_law_first" = some (some (.ref f25))) (l25 : K.lookup f25 = some ⟨oc25, od25, .func (PySem.W.fnOf "_law_first" "_law_first" (defArgs s__law_first) (defBody s__law_first) (defScope s__law_first) .none kV25 dc25 pm25 an25 cd25 ct25), sl25⟩) (c25 : PySem.W.codeIn K cd25 "_law_first" = true) (k25 : PySem.W.keepIn K (.ref f25) = true)
    (a26 : PySem.W.nsIn K mainGlobals "_law_drawn_arrows" = some (some (.ref f26))) (l26 : K.lookup f26 = some ⟨oc26, od26, .func (PySem.W.fnOf "_law_drawn_arrows" "_law_drawn_arrows" (defArgs s__law_drawn_arrows) (defBody s__law_drawn_arrows) (defScope s__law_drawn_arrows) .none kV26 dc26 pm26 an26 cd26 ct26), sl26⟩) (c26 : PySem.W.codeIn K cd26 "_law_drawn_arrows" = true) (k26 : PySem.W.keepIn K (.ref f26) = true)
    (a27 : PySem.W.nsIn K mainGlobals "_law_are_arrows" = some (some (.ref f27))) (l27 : K.lookup f27 = some ⟨oc27, od27, .func (PySem.W.fnOf "_law_are_arrows" "_law_are_arrows" (defArgs s__law_are_arrows) (defBody s__law_are_arrows) (defScope s__law_are_arrows) .none kV27 dc27 pm27 an27 cd27 ct27), sl27⟩) (c27 : PySem.W.codeIn K cd27 "_law_are_arrows" = true) (k27 : PySem.W.keepIn K (.ref f27) = true)
    (a28 : PySem.W.nsIn K mainGlobals "_law_bent_arrows" = some (some (.ref f28))) (l28 : K.lookup f28 = some ⟨oc28, od28, .func (PySem.W.fnOf "_law_bent_arrows" "_law_bent_arrows" (defArgs s__law_bent_arrows) (defBody s__law_bent_arrows) (defScope s__law_bent_arrows) .none kV28 dc28 pm28 an28 cd28 ct28), sl28⟩) (c28 : PySem.W.codeIn K cd28 "_law_bent_arrows" = true) (k28 : PySem.W.keepIn K (.ref f28) = true)
    (a29 : PySem.W.nsIn K mainGlobals "_law_goes_round" = some (some (.ref f29))) (l29 : K.lookup f29 = some ⟨oc29, od29, .func (PySem.W.fnOf "_law_goes_round" "_law_goes_round" (defArgs s__law_goes_round) (defBody s__law_goes_round) (defScope s__law_goes_round) .none kV29 dc29 pm29 an29 cd29 ct29), sl29⟩) (c29 : PySem.W.codeIn K cd29 "_law_goes_round" = true) (k29 : PySem.W.keepIn K (.ref f29) = true)
    (a30 : PySem.W.nsIn K mainGlobals "_law_bent" = some (some (.ref f30))) (l30 : K.lookup f30 = some ⟨oc30, od30, .func (PySem.W.fnOf "_law_bent" "_law_bent" (defArgs s__law_bent) (defBody s__law_bent) (defScope s__law_bent) .none kV30 dc30 pm30 an30 cd30 ct30), sl30⟩) (c30 : PySem.W.codeIn K cd30 "_law_bent" = true) (k30 : PySem.W.keepIn K (.ref f30) = true)
    (a31 : PySem.W.nsIn K mainGlobals "_law_words" = some (some (.ref f31))) (l31 : K.lookup f31 = some ⟨oc31, od31, .func (PySem.W.fnOf "_law_words" "_law_words" (defArgs s__law_words) (defBody s__law_words) (defScope s__law_words) .none kV31 dc31 pm31 an31 cd31 ct31), sl31⟩) (c31 : PySem.W.codeIn K cd31 "_law_words" = true) (k31 : PySem.W.keepIn K (.ref f31) = true)
    (a32 : PySem.W.nsIn K mainGlobals "_law_right" = some (some (.ref f32))) (l32 : K.lookup f32 = some ⟨oc32, od32, .func (PySem.W.fnOf "_law_right" "_law_right" (defArgs s__law_right) (defBody s__law_right) (defScope s__law_right) .none kV32 dc32 pm32 an32 cd32 ct32), sl32⟩) (c32 : PySem.W.codeIn K cd32 "_law_right" = true) (k32 : PySem.W.keepIn K (.ref f32) = true)
    (a33 : PySem.W.nsIn K mainGlobals "law" = some (some (.ref f33))) (l33 : K.lookup f33 = some ⟨oc33, od33, .func (PySem.W.fnOf "law" "law" (defArgs s_law) (defBody s_law) (defScope s_law) .none kV33 dc33 pm33 an33 cd33 ct33), sl33⟩) (c33 : PySem.W.codeIn K cd33 "law" = true) (k33 : PySem.W.keepIn K (.ref f33) = true)
    : ∃ fd : FuncData, (∀ (s : Shared) (u : Value), BindsTo s fd ⟨[u], []⟩ [("_law_script", u)]) ∧ ∀ bs : Heap, K.In bs → bs.Ns mainGlobals mg → FnG P w K mg bs 9 fa fd ["_law_script"] (spLaw K) := by
  have B := bn_of X G b
  have Bd := bd_of X G b
  unfold clsOk at bc
  simp only [Bool.and_eq_true] at bc
  obtain ⟨⟨⟨⟨zc0, zc1⟩, zc2⟩, zc3⟩, zc4⟩ := bc
  have XC_BadArrows := xc_of X G zc0 zc1
  have XC_TurnError := xc_of X G zc2 zc3
  have xi := xi_of zc4
  have BValueError : mg "ValueError" = none := PySem.W.mg_none_of X G (of_decide_eq_true (List.all_eq_true.mp b "ValueError" (by simp [frees])))
  have Gg : Gn mg := ⟨⟨_, PySem.W.mg_of X G g0⟩, ⟨_, PySem.W.mg_of X G g1⟩, ⟨_, PySem.W.mg_of X G g2⟩, ⟨_, PySem.W.mg_of X G g3⟩, ⟨_, PySem.W.mg_of X G g4⟩⟩
  have hfr : ∃ t, mg "FEWEST_IN_RING" = some (.int 3 t) := ⟨_, PySem.W.mg_of X G g5⟩
  have F0 := fun_mk (st := s_is_name) l0 c0 k0
  have h0 := PySem.W.mg_of X G a0
  have D0 : Dn K mg "is_name" s_is_name ["thing"] := ⟨_, _, F0, h0, F0.binds fun _ _ _ _ _ _ us hl => match us, hl with | [_], _ => rfl⟩
  have F1 := fun_mk (st := s_is_web) l1 c1 k1
  have h1 := PySem.W.mg_of X G a1
  have D1 : Dn K mg "is_web" s_is_web ["thing"] := ⟨_, _, F1, h1, F1.binds fun _ _ _ _ _ _ us hl => match us, hl with | [_], _ => rfl⟩
  have F2 := fun_mk (st := s__are_places) l2 c2 k2
  have h2 := PySem.W.mg_of X G a2
  have D2 : Dn K mg "_are_places" s__are_places ["thing"] := ⟨_, _, F2, h2, F2.binds fun _ _ _ _ _ _ us hl => match us, hl with | [_], _ => rfl⟩
  have F3 := fun_mk (st := s__are_roads) l3 c3 k3
  have h3 := PySem.W.mg_of X G a3
  have D3 : Dn K mg "_are_roads" s__are_roads ["thing", "places"] := ⟨_, _, F3, h3, F3.binds fun _ _ _ _ _ _ us hl => match us, hl with | [_, _], _ => rfl⟩
  have F4 := fun_mk (st := s__is_road) l4 c4 k4
  have h4 := PySem.W.mg_of X G a4
  have D4 : Dn K mg "_is_road" s__is_road ["thing", "places"] := ⟨_, _, F4, h4, F4.binds fun _ _ _ _ _ _ us hl => match us, hl with | [_, _], _ => rfl⟩
  have F5 := fun_mk (st := s_is_one_of) l5 c5 k5
  have h5 := PySem.W.mg_of X G a5
  have D5 : Dn K mg "is_one_of" s_is_one_of ["thing", "places"] := ⟨_, _, F5, h5, F5.binds fun _ _ _ _ _ _ us hl => match us, hl with | [_, _], _ => rfl⟩
  have F6 := fun_mk (st := s_need_web) l6 c6 k6
  have h6 := PySem.W.mg_of X G a6
  have D6 : Dn K mg "need_web" s_need_web ["web"] := ⟨_, _, F6, h6, F6.binds fun _ _ _ _ _ _ us hl => match us, hl with | [_], _ => rfl⟩
  have F7 := fun_mk (st := s_could_be_ring) l7 c7 k7
  have h7 := PySem.W.mg_of X G a7
  have D7 : Dn K mg "could_be_ring" s_could_be_ring ["thing"] := ⟨_, _, F7, h7, F7.binds fun _ _ _ _ _ _ us hl => match us, hl with | [_], _ => rfl⟩
  have F8 := fun_mk (st := s_next_pairs) l8 c8 k8
  have h8 := PySem.W.mg_of X G a8
  have D8 : Dn K mg "next_pairs" s_next_pairs ["ring"] := ⟨_, _, F8, h8, F8.binds fun _ _ _ _ _ _ us hl => match us, hl with | [_], _ => rfl⟩
  have F9 := fun_mk (st := s_free_places) l9 c9 k9
  have h9 := PySem.W.mg_of X G a9
  have D9 : Dn K mg "free_places" s_free_places ["web", "told", "gone"] := ⟨_, _, F9, h9, F9.binds fun _ _ _ _ _ _ us hl => match us, hl with | [_, _, _], _ => rfl⟩
  have F10 := fun_mk (st := s_freed) l10 c10 k10
  have h10 := PySem.W.mg_of X G a10
  have D10 : Dn K mg "freed" s_freed ["web", "told"] := ⟨_, _, F10, h10, F10.binds fun _ _ _ _ _ _ us hl => match us, hl with | [_, _], _ => rfl⟩
  have F11 := fun_mk (st := s__need_arrows) l11 c11 k11
  have h11 := PySem.W.mg_of X G a11
  have D11 : Dn K mg "_need_arrows" s__need_arrows ["web", "told"] := ⟨_, _, F11, h11, F11.binds fun _ _ _ _ _ _ us hl => match us, hl with | [_, _], _ => rfl⟩
  have F12 := fun_mk (st := s__is_arrow) l12 c12 k12
  have h12 := PySem.W.mg_of X G a12
  have D12 : Dn K mg "_is_arrow" s__is_arrow ["thing", "road"] := ⟨_, _, F12, h12, F12.binds fun _ _ _ _ _ _ us hl => match us, hl with | [_, _], _ => rfl⟩
  have F13 := fun_mk (st := s_arrow_ring) l13 c13 k13
  have h13 := PySem.W.mg_of X G a13
  have D13 : Dn K mg "arrow_ring" s_arrow_ring ["web", "arrows"] := ⟨_, _, F13, h13, F13.binds fun _ _ _ _ _ _ us hl => match us, hl with | [_, _], _ => rfl⟩
  have F14 := fun_mk (st := s_arrow_ring_holds) l14 c14 k14
  have h14 := PySem.W.mg_of X G a14
  have D14 : Dn K mg "arrow_ring_holds" s_arrow_ring_holds ["web", "arrows", "thing"] := ⟨_, _, F14, h14, F14.binds fun _ _ _ _ _ _ us hl => match us, hl with | [_, _, _], _ => rfl⟩
  have F15 := fun_mk (st := s__law_feed) l15 c15 k15
  have h15 := PySem.W.mg_of X G a15
  have D15 : Dn K mg "_law_feed" s__law_feed ["_law_script", "_law_k"] := ⟨_, _, F15, h15, F15.binds fun _ _ _ _ _ _ us hl => match us, hl with | [_, _], _ => rfl⟩
  have F16 := fun_mk (st := s__law_draw) l16 c16 k16
  have h16 := PySem.W.mg_of X G a16
  have D16 : Dn K mg "_law_draw" s__law_draw ["_law_feed_here", "_law_many"] := ⟨_, _, F16, h16, F16.binds fun _ _ _ _ _ _ us hl => match us, hl with | [_, _], _ => rfl⟩
  have F17 := fun_mk (st := s__law_one) l17 c17 k17
  have h17 := PySem.W.mg_of X G a17
  have D17 : Dn K mg "_law_one" s__law_one ["_law_feed_here", "_law_things"] := ⟨_, _, F17, h17, F17.binds fun _ _ _ _ _ _ us hl => match us, hl with | [_, _], _ => rfl⟩
  have F18 := fun_mk (st := s__law_mixed) l18 c18 k18
  have h18 := PySem.W.mg_of X G a18
  have D18 : Dn K mg "_law_mixed" s__law_mixed ["_law_feed_here", "_law_things"] := ⟨_, _, F18, h18, F18.binds fun _ _ _ _ _ _ us hl => match us, hl with | [_, _], _ => rfl⟩
  have F19 := fun_mk (st := s__law_names) l19 c19 k19
  have h19 := PySem.W.mg_of X G a19
  have D19 : Dn K mg "_law_names" s__law_names ["_law_feed_here", "_law_many"] := ⟨_, _, F19, h19, F19.binds fun _ _ _ _ _ _ us hl => match us, hl with | [_, _], _ => rfl⟩
  have F20 := fun_mk (st := s__law_web) l20 c20 k20
  have h20 := PySem.W.mg_of X G a20
  have D20 : Dn K mg "_law_web" s__law_web ["_law_feed_here", "_law_way", "_law_most"] := ⟨_, _, F20, h20, F20.binds fun _ _ _ _ _ _ us hl => match us, hl with | [_, _, _], _ => rfl⟩
  have F21 := fun_mk (st := s__law_order) l21 c21 k21
  have h21 := PySem.W.mg_of X G a21
  have D21 : Dn K mg "_law_order" s__law_order ["_law_feed_here", "_law_web_here"] := ⟨_, _, F21, h21, F21.binds fun _ _ _ _ _ _ us hl => match us, hl with | [_, _], _ => rfl⟩
  have F22 := fun_mk (st := s__law_arrows) l22 c22 k22
  have h22 := PySem.W.mg_of X G a22
  have D22 : Dn K mg "_law_arrows" s__law_arrows ["_law_web_here", "_law_order_here"] := ⟨_, _, F22, h22, F22.binds fun _ _ _ _ _ _ us hl => match us, hl with | [_, _], _ => rfl⟩
  have F23 := fun_mk (st := s__law_wide_web) l23 c23 k23
  have h23 := PySem.W.mg_of X G a23
  have D23 : Dn K mg "_law_wide_web" s__law_wide_web ["_law_feed_here", "_law_most"] := ⟨_, _, F23, h23, F23.binds fun _ _ _ _ _ _ us hl => match us, hl with | [_, _], _ => rfl⟩
  have F24 := fun_mk (st := s__law_any_web) l24 c24 k24
  have h24 := PySem.W.mg_of X G a24
  have D24 : Dn K mg "_law_any_web" s__law_any_web ["_law_feed_here", "_law_most"] := ⟨_, _, F24, h24, F24.binds fun _ _ _ _ _ _ us hl => match us, hl with | [_, _], _ => rfl⟩
  have F25 := fun_mk (st := s__law_first) l25 c25 k25
  have h25 := PySem.W.mg_of X G a25
  have D25 : Dn K mg "_law_first" s__law_first ["_law_web_here", "_law_told"] := ⟨_, _, F25, h25, F25.binds fun _ _ _ _ _ _ us hl => match us, hl with | [_, _], _ => rfl⟩
  have F26 := fun_mk (st := s__law_drawn_arrows) l26 c26 k26
  have h26 := PySem.W.mg_of X G a26
  have D26 : Dn K mg "_law_drawn_arrows" s__law_drawn_arrows ["_law_feed_here", "_law_web_here"] := ⟨_, _, F26, h26, F26.binds fun _ _ _ _ _ _ us hl => match us, hl with | [_, _], _ => rfl⟩
  have F27 := fun_mk (st := s__law_are_arrows) l27 c27 k27
  have h27 := PySem.W.mg_of X G a27
  have D27 : Dn K mg "_law_are_arrows" s__law_are_arrows ["_law_web_here", "_law_thing"] := ⟨_, _, F27, h27, F27.binds fun _ _ _ _ _ _ us hl => match us, hl with | [_, _], _ => rfl⟩
  have F28 := fun_mk (st := s__law_bent_arrows) l28 c28 k28
  have h28 := PySem.W.mg_of X G a28
  have D28 : Dn K mg "_law_bent_arrows" s__law_bent_arrows ["_law_feed_here", "_law_web_here", "_law_some"] := ⟨_, _, F28, h28, F28.binds fun _ _ _ _ _ _ us hl => match us, hl with | [_, _, _], _ => rfl⟩
  have F29 := fun_mk (st := s__law_goes_round) l29 c29 k29
  have h29 := PySem.W.mg_of X G a29
  have D29 : Dn K mg "_law_goes_round" s__law_goes_round ["_law_web_here", "_law_arrows_here", "_law_thing"] := ⟨_, _, F29, h29, F29.binds fun _ _ _ _ _ _ us hl => match us, hl with | [_, _, _], _ => rfl⟩
  have F30 := fun_mk (st := s__law_bent) l30 c30 k30
  have h30 := PySem.W.mg_of X G a30
  have D30 : Dn K mg "_law_bent" s__law_bent ["_law_feed_here", "_law_web_here", "_law_ring"] := ⟨_, _, F30, h30, F30.binds fun _ _ _ _ _ _ us hl => match us, hl with | [_, _, _], _ => rfl⟩
  have F31 := fun_mk (st := s__law_words) l31 c31 k31
  have h31 := PySem.W.mg_of X G a31
  have D31 : Dn K mg "_law_words" s__law_words ["_law_web_here", "_law_thing"] := ⟨_, _, F31, h31, F31.binds fun _ _ _ _ _ _ us hl => match us, hl with | [_, _], _ => rfl⟩
  have F32 := fun_mk (st := s__law_right) l32 c32 k32
  have h32 := PySem.W.mg_of X G a32
  have D32 : Dn K mg "_law_right" s__law_right ["_law_feed_here", "_law_web_here", "_law_some"] := ⟨_, _, F32, h32, F32.binds fun _ _ _ _ _ _ us hl => match us, hl with | [_, _, _], _ => rfl⟩
  have F33 := fun_mk (st := s_law) l33 c33 k33
  have h33 := PySem.W.mg_of X G a33
  have e := hfa.symm.trans h33
  cases e
  have DKX_arrow_ring : DkX K mg "arrow_ring" s_arrow_ring ["web", "arrows"] ["arrows", "web"] J.g2 := ⟨_, _, _, F13, h13, kb2 rfl fun _ _  => rfl⟩
  have DKX_arrow_ring_holds : DkX K mg "arrow_ring_holds" s_arrow_ring_holds ["web", "arrows", "thing"] ["thing", "arrows", "web"] J.g2 := ⟨_, _, _, F14, h14, kb3 rfl fun _ _ _  => rfl⟩
  refine ⟨PySem.W.fnOf "law" "law" (defArgs s_law) (defBody s_law) (defScope s_law) .none kV33 dc33 pm33 an33 cd33 ct33, fun s u => .of_eq rfl, fun bs _ _ => ?_⟩
  have r_C__law_draw := ok_draw (P := P) (w := w) (base := bs)  D16 B
  have r_C__law_one := ok_one (P := P) (w := w) (base := bs)  D17 B r_C__law_draw
  have r_C__law_mixed := ok_mixed (P := P) (w := w) (base := bs)  D18 B r_C__law_draw
  have r_C__law_names := ok_names (P := P) (w := w) (base := bs)  D19 B r_C__law_mixed
  have r_C__law_web := ok_web (P := P) (w := w) (base := bs)  D20 B r_C__law_draw r_C__law_mixed r_C__law_names
  have r_C__law_feed := ok_feed (P := P) (w := w) (base := bs)  D15 B
  have r_C__law_mixed_spMixedT := ok_mixedT (P := P) (w := w) (base := bs)  D18 B r_C__law_draw
  have r_C__law_order := ok_order (P := P) (w := w) (base := bs)  D21 B r_C__law_mixed_spMixedT
  have r_C__law_wide_web := ok_wide_web (P := P) (w := w) (base := bs)  D23 B r_C__law_draw r_C__law_mixed r_C__law_names
  have r_C_is_name := ok_is_name (P := P) (w := w) (base := bs)  D0 B Gg
  have r_C_is_one_of := ok_is_one_of (P := P) (w := w) (base := bs)  D5 B
  have r_C__is_road := ok_is_road (P := P) (w := w) (base := bs)  D4 B r_C_is_one_of
  have r_C__are_places := ok_are_places (P := P) (w := w) (base := bs)  D2 B Gg r_C_is_name
  have r_C__are_roads := ok_are_roads (P := P) (w := w) (base := bs)  D3 B Gg r_C__is_road
  have r_C_is_web := ok_is_web (P := P) (w := w) (base := bs)  D1 B r_C__are_places r_C__are_roads
  have r_C_need_web := ok_need_web (P := P) (w := w) (base := bs)  D6 B r_C_is_web
  have r_C__law_order_spOrderF := ok_orderF (P := P) (w := w) (base := bs)  D21 B r_C__law_mixed_spMixedT
  have r_C__law_arrows := ok_law_arrows (P := P) (w := w) (base := bs)  D22 B
  have r_C_free_places := ok_free (P := P) (w := w) (base := bs)  D9 B
  have r_C_freed := ok_freed (P := P) (w := w) (base := bs)  D10 B r_C_free_places
  have r_C__law_first := ok_lfirst (P := P) (w := w) (base := bs)  D25 B
  have r_C__is_arrow := ok_is_arrow (P := P) (w := w) (base := bs)  D12 B
  have r_CX__need_arrows := ok_need_arrows (P := P) (w := w) (base := bs) XC_BadArrows D11 B r_C__is_arrow
  have r_C__law_drawn_arrows := ok_law_drawn (P := P) (w := w) (base := bs)  D26 B r_C__law_draw
  have r_C__law_are_arrows := ok_law_are (P := P) (w := w) (base := bs)  D27 B
  have r_C_could_be_ring := ok_could (P := P) (w := w) (base := bs)  D7 B hfr
  have r_C_next_pairs := ok_next (P := P) (w := w) (base := bs)  D8 B
  have r_CX_arrow_ring := ok_arrow_ring (P := P) (w := w) (base := bs)  D13 B r_C_need_web r_CX__need_arrows r_C_freed
  have r_CX_arrow_ring_holds := ok_arrow_ring_holds (P := P) (w := w) (base := bs)  D14 B r_C_need_web r_CX__need_arrows r_C_could_be_ring r_C_next_pairs
  have r_KX_arrow_ring := ok_arrow_ringK (P := P) (w := w) (base := bs)  DKX_arrow_ring B r_C_need_web r_CX__need_arrows r_C_freed
  have r_KX_arrow_ring_holds := ok_arrow_ring_holdsK (P := P) (w := w) (base := bs)  DKX_arrow_ring_holds B r_C_need_web r_CX__need_arrows r_C_could_be_ring r_C_next_pairs
  have r_C__law_goes_round := ok_goes (P := P) (w := w) (base := bs)  D29 B
  have r_C__law_bent := ok_law_bentR (P := P) (w := w) (base := bs)  D30 B r_C__law_draw r_C__law_one r_C__law_mixed_spMixedT
  have r_C__law_one_spOneT := ok_oneT (P := P) (w := w) (base := bs)  D17 B r_C__law_draw
  have r_C__law_bent_arrows := ok_law_bent (P := P) (w := w) (base := bs)  D28 B r_C__law_draw r_C__law_one r_C__law_mixed_spMixedT r_C__law_one_spOneT
  have r_C__law_words := ok_law_words (P := P) (w := w) (base := bs) XC_BadArrows XC_TurnError xi D31 B r_CX_arrow_ring r_CX_arrow_ring_holds
  have r_C__law_right := ok_law_rightR (P := P) (w := w) (base := bs)  D32 B r_CX_arrow_ring r_KX_arrow_ring r_CX_arrow_ring_holds r_KX_arrow_ring_holds r_C__law_first r_C__law_goes_round r_C__law_mixed_spMixedT r_C__law_bent
  have r_C__law_any_web := ok_any_web (P := P) (w := w) (base := bs)  D24 B r_C__law_draw r_C__law_one r_C__law_web r_C__law_wide_web
  exact ok_law (P := P) (w := w) (base := bs)  F33 B r_C__law_feed r_C__law_any_web r_C__law_order_spOrderF r_C__law_arrows r_C__law_drawn_arrows r_C__law_are_arrows r_C__law_bent_arrows r_C__law_words r_C__law_right
end
end J
open PySem PySem.W PyProof.Rows in
set_option maxRecDepth 100000 in
set_option maxHeartbeats 0 in
theorem PySem.Challenge.cw_eachinturn_k32_rings_of_arrows_holds : PySem.Challenge.rw_eachinturn_k32_rings_of_arrows.Holds := by
  w_on; o_law; k_head; (case hw => w_witness2)
  k_fill
  refine J.walk_ofG (l := PySem.Challenge.rw_eachinturn_k32_rings_of_arrows) (n := 63) (k := 9) (x := "_law_script") (sp := fun K => J.spLaw K) rfl (by decide) rfl ⟨rfl, by decide, by decide⟩ (fun w h Y => PySem.W.kIn_of Y) ?F (fun K H a ns hl _ hS => ⟨a, ns, rfl, hS, hl, fun _ => rfl⟩)
  case F =>
    intro w mg fa h KX G hmg
    refine' J.all_mk KX G hmg ?u_bs ?u_bc ?u_g0 ?u_g1 ?u_g2 ?u_g3 ?u_g4 ?u_g5 ?u_a0 ?u_l0 ?u_c0 ?u_k0 ?u_a1 ?u_l1 ?u_c1 ?u_k1 ?u_a2 ?u_l2 ?u_c2 ?u_k2 ?u_a3 ?u_l3 ?u_c3 ?u_k3 ?u_a4 ?u_l4 ?u_c4 ?u_k4 ?u_a5 ?u_l5 ?u_c5 ?u_k5 ?u_a6 ?u_l6 ?u_c6 ?u_k6 ?u_a7 ?u_l7 ?u_c7 ?u_k7 ?u_a8 ?u_l8 ?u_c8 ?u_k8 ?u_a9 ?u_l9 ?u_c9 ?u_k9 ?u_a10 ?u_l10 ?u_c10 ?u_k10 ?u_a11 ?u_l11 ?u_c11 ?u_k11 ?u_a12 ?u_l12 ?u_c12 ?u_k12 ?u_a13 ?u_l13 ?u_c13 ?u_k13 ?u_a14 ?u_l14 ?u_c14 ?u_k14 ?u_a15 ?u_l15 ?u_c15 ?u_k15 ?u_a16 ?u_l16 ?u_c16 ?u_k16 ?u_a17 ?u_l17 ?u_c17 ?u_k17 ?u_a18 ?u_l18 ?u_c18 ?u_k18 ?u_a19 ?u_l19 ?u_c19 ?u_k19 ?u_a20 ?u_l20 ?u_c20 ?u_k20 ?u_a21 ?u_l21 ?u_c21 ?u_k21 ?u_a22 ?u_l22 ?u_c22 ?u_k22 ?u_a23 ?u_l23 ?u_c23 ?u_k23 ?u_a24 ?u_l24 ?u_c24 ?u_k24 ?u_a25 ?u_l25 ?u_c25 ?u_k25 ?u_a26 ?u_l26 ?u_c26 ?u_k26 ?u_a27 ?u_l27 ?u_c27 ?u_k27 ?u_a28 ?u_l28 ?u_c28 ?u_k28 ?u_a29 ?u_l29 ?u_c29 ?u_k29 ?u_a30 ?u_l30 ?u_c30 ?u_k30 ?u_a31 ?u_l31 ?u_c31 ?u_k31 ?u_a32 ?u_l32 ?u_c32 ?u_k32 ?u_a33 ?u_l33 ?u_c33 ?u_k33
    (case u_g0 => k_is)
    (case u_g1 => k_is)
    (case u_g2 => k_is)
    (case u_g3 => k_is)
    (case u_g4 => k_is)
    (case u_g5 => k_is)
    (case u_a0 => k_is)
    (case u_l0 => k_is)
    (case u_c0 => k_is)
    (case u_k0 => k_is)
    (case u_a1 => k_is)
    (case u_l1 => k_is)
    (case u_c1 => k_is)
    (case u_k1 => k_is)
    (case u_a2 => k_is)
    (case u_l2 => k_is)
    (case u_c2 => k_is)
    (case u_k2 => k_is)
    (case u_a3 => k_is)
    (case u_l3 => k_is)
    (case u_c3 => k_is)
    (case u_k3 => k_is)
    (case u_a4 => k_is)
    (case u_l4 => k_is)
    (case u_c4 => k_is)
    (case u_k4 => k_is)
    (case u_a5 => k_is)
    (case u_l5 => k_is)
    (case u_c5 => k_is)
    (case u_k5 => k_is)
    (case u_a6 => k_is)
    (case u_l6 => k_is)
    (case u_c6 => k_is)
    (case u_k6 => k_is)
    (case u_a7 => k_is)
    (case u_l7 => k_is)
    (case u_c7 => k_is)
    (case u_k7 => k_is)
    (case u_a8 => k_is)
    (case u_l8 => k_is)
    (case u_c8 => k_is)
    (case u_k8 => k_is)
    (case u_a9 => k_is)
    (case u_l9 => k_is)
    (case u_c9 => k_is)
    (case u_k9 => k_is)
    (case u_a10 => k_is)
    (case u_l10 => k_is)
    (case u_c10 => k_is)
    (case u_k10 => k_is)
    (case u_a11 => k_is)
    (case u_l11 => k_is)
    (case u_c11 => k_is)
    (case u_k11 => k_is)
    (case u_a12 => k_is)
    (case u_l12 => k_is)
    (case u_c12 => k_is)
    (case u_k12 => k_is)
    (case u_a13 => k_is)
    (case u_l13 => k_is)
    (case u_c13 => k_is)
    (case u_k13 => k_is)
    (case u_a14 => k_is)
    (case u_l14 => k_is)
    (case u_c14 => k_is)
    (case u_k14 => k_is)
    (case u_a15 => k_is)
    (case u_l15 => k_is)
    (case u_c15 => k_is)
    (case u_k15 => k_is)
    (case u_a16 => k_is)
    (case u_l16 => k_is)
    (case u_c16 => k_is)
    (case u_k16 => k_is)
    (case u_a17 => k_is)
    (case u_l17 => k_is)
    (case u_c17 => k_is)
    (case u_k17 => k_is)
    (case u_a18 => k_is)
    (case u_l18 => k_is)
    (case u_c18 => k_is)
    (case u_k18 => k_is)
    (case u_a19 => k_is)
    (case u_l19 => k_is)
    (case u_c19 => k_is)
    (case u_k19 => k_is)
    (case u_a20 => k_is)
    (case u_l20 => k_is)
    (case u_c20 => k_is)
    (case u_k20 => k_is)
    (case u_a21 => k_is)
    (case u_l21 => k_is)
    (case u_c21 => k_is)
    (case u_k21 => k_is)
    (case u_a22 => k_is)
    (case u_l22 => k_is)
    (case u_c22 => k_is)
    (case u_k22 => k_is)
    (case u_a23 => k_is)
    (case u_l23 => k_is)
    (case u_c23 => k_is)
    (case u_k23 => k_is)
    (case u_a24 => k_is)
    (case u_l24 => k_is)
    (case u_c24 => k_is)
    (case u_k24 => k_is)
    (case u_a25 => k_is)
    (case u_l25 => k_is)
    (case u_c25 => k_is)
    (case u_k25 => k_is)
    (case u_a26 => k_is)
    (case u_l26 => k_is)
    (case u_c26 => k_is)
    (case u_k26 => k_is)
    (case u_a27 => k_is)
    (case u_l27 => k_is)
    (case u_c27 => k_is)
    (case u_k27 => k_is)
    (case u_a28 => k_is)
    (case u_l28 => k_is)
    (case u_c28 => k_is)
    (case u_k28 => k_is)
    (case u_a29 => k_is)
    (case u_l29 => k_is)
    (case u_c29 => k_is)
    (case u_k29 => k_is)
    (case u_a30 => k_is)
    (case u_l30 => k_is)
    (case u_c30 => k_is)
    (case u_k30 => k_is)
    (case u_a31 => k_is)
    (case u_l31 => k_is)
    (case u_c31 => k_is)
    (case u_k31 => k_is)
    (case u_a32 => k_is)
    (case u_l32 => k_is)
    (case u_c32 => k_is)
    (case u_k32 => k_is)
    (case u_a33 => k_is)
    (case u_l33 => k_is)
    (case u_c33 => k_is)
    (case u_k33 => k_is)
    (case u_bs => kernel_rfl)
    (case u_bc => kernel_rfl)
