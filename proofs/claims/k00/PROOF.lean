import PyProof.Rows.All
import Wide.All
import OpenK.AllK
import Wide.FinOn
import PySem.Challenge.RW_eachinturn_k00_error_classes
import HandS.ForMost
import HandS.Deep
import HandS.Wide
import HandS.IsInst
import HandS.TupAny
import HandS.Style
import PyProof.P3In
import PyProof.Rows.EqDataRows
import HandS.Conv
import HandS.Exc
import HandS.Defaults
import HandS.ExcValue
import HandS.ExcInit
import HandS.ExcField
import HandS.ExcBuiltin
import HandS.FStr
import HandS.TryMany
import HandS.RaiseMore
import KE.KExcIs
set_option Elab.async false
set_option linter.all false
set_option maxRecDepth 100000
set_option maxHeartbeats 8000000
namespace J
section
open L2 PySem PySem.Spec PyProof.Rows
/-! ### texts of data -/
def rShow (K : PySem.W.Frag) : List V → Hp → VK → Prop := fun xs H Q => ∃ (x : V) (d : PyData), xs = [x] ∧ Dp K H x d ∧ d.showable = true ∧ d.hasDict = false ∧ d.depth ≤ 40 ∧ d.shown.length ≤ sizeLine ∧ (∃ a, x = .ref a) ∧ Q (.str d.shown) H
theorem call_show {X : Cx} (hg : X.A.guards = some []) (hu : X.A.units + 64 < cLine) : CallR X (.builtin "repr") (rShow X.K) := by
  intro pins s σ H xs us Q I r h
  obtain ⟨x, d, rfl, hd, hs, hn, h40, hl, ⟨a, rfl⟩, q⟩ := h
  match us, r with
  | [u], .cons ru .nil =>
    obtain ⟨as, rd⟩ := Dp.reads I d _ u hd ru
    obtain rfl : u = Value.ref a := ru
    exact repr_of_reads' rd hs (fun z => by rw [hn] at z; cases z) hg (by omega) (fun b o e => e) (fun h' t tk k => ⟨.str d.shown, H, I.kept k, ⟨t, rfl⟩, q⟩) hl

/-! ### promises for calls under which no text is being made -/
structure FnG (P : Program) (w : World) (K : PySem.W.Frag) (mg : Str → Option Value) (base : Heap) (k : Nat) (f : Addr) (fd : FuncData) (ps : List Str) (sp : Sp) : Prop where
  len : ∀ us H Q E, sp us H Q E → us.length = ps.length
  go : ∀ (A : Around) (fr : List Env) (s : Shared) (H : Hp) (ar : Args) (us : List Value) (vs : List V) (Q : VK) (E : XK), A.guards = some [] → Room k A → Env0 P w K mg base A fr s H → BindsTo s fd ar (ps.zip us) →
    Vals vs us → sp vs H Q E → codeAny (model P w) A (.call (.ref f) ar) (CR CX0 fr P w H s Q E) s
section
variable {base : Heap} {P : Program} {w : World} {K : PySem.W.Frag} {mg : Str → Option Value}
theorem okG {x qual : Str} {st : Stmt} {f : Addr} {fd : FuncData} {N ps : List Str} {k : Nat} {sp : Sp} (F : Fun K x qual st f fd) (S : FnScope N ps (defScope st)) (len : ∀ vs H Q E, sp vs H Q E → vs.length = ps.length)
    (bd : ∀ (cdv : Value) (A : Around) (fr : List Env) (s : Shared) (H : Hp) (vs : List V) (Q : VK) (E : XK), A.guards = some [] → Room k (A.deeper (envOfC qual (defScope st) s.heap.objs.size f cdv)) → sp vs H Q E →
      ∃ t, PSs (cxOf CX0 P w K mg base N qual (defScope st) f cdv A fr s H E).nox (defBody st) t ∧ t { nx := fun _ H' => Q .non H', rt := Q } (start N vs) H) :
    FnG P w K mg base (k + 1) f fd ps sp := by
  obtain ⟨oc, od, kV, doc, pm, an, cdv, ct, osl, rfl, lk, hcd⟩ := F.ex
  refine ⟨len, fun A fr s H ar us vs Q E hg hr e0 hb r hsp => ?_⟩
  have hlen := len _ _ _ _ hsp
  have kin : K.In s.heap := PySem.W.Frag.In.keeps e0.mod.kin (fun b o e => (e0.bs b o e).1)
  have nol : s.heap.NoLimit := Heap.NoLimit.keeps e0.mod.nolimit (fun b o e => (e0.bs b o e).1)
  obtain ⟨t, ht, hq⟩ := bd cdv A fr s H vs Q E hg (hr.deeper _) hsp
  have kd : ∀ z ∈ ps.zip us, (defScope st).names.lookup z.1 = some .local ∨ ((defScope st).names.lookup z.1 = some .cell ∧ ((cellsFrom (s.heap.objs.size + 1) (defScope st).names []).lookup z.1).isSome = true) := by
    rintro ⟨n, v⟩ hz
    cases S.par n (List.of_mem_zip hz).1 with
    | inl q => exact .inl q
    | inr q => exact .inr ⟨q, PySem.W.cellsFrom_some _ _ _ (.inl q)⟩
  refine codeAny_call_function hr.depth (kin _ _ lk) rfl S.co S.gen rfl (PySem.W.codeRec_of kin hcd) (hb _ _ _ _ (wpAny_newFunctionEnv_cells S.kind kd ?_))
  rintro env rfl s1 x
  refine ⟨nol.keeps x.toInCall.keep, codeAny_func (wpAny_mono (ht.nox.run [] s1 (start N vs) H _ (inv_start S hr.hd e0 hlen r x) hq) ?_ fun _ _ z => z)⟩
  rintro (_ | _ | _ | u) s' hs
  · obtain ⟨_, _, J, q⟩ := hs
    exact ⟨V.non, _, J.os, J.bare, J.base, J.hok, rfl, q⟩
  · obtain ⟨_, _, _, q⟩ := hs
    exact q.elim
  · obtain ⟨_, _, _, q⟩ := hs
    exact q.elim
  · obtain ⟨v, _, _, J, rv, q⟩ := hs
    exact ⟨v, _, J.os, J.bare, J.base, J.hok, rv, q⟩
theorem FnOk.g {k : Nat} {f : Addr} {fd : FuncData} {ps : List Str} {sp : Sp} (F : FnOk P w K mg base CX0 k f fd ps sp) : FnG P w K mg base k f fd ps sp :=
  ⟨F.len, fun A fr s H ar us vs Q E _ hr e0 hb r h => F.run A fr s H ar us vs Q E hr e0 hb r h⟩
end
section
variable {X : Cx} {k : Nat} {f : Addr} {fd : FuncData} {ps : List Str} {sp : Sp} {dvs : List V} {ds : List Value} {E : XK} {x : Str} {p pos : Pos} {e : Expr} {es : List Expr} {t : TA}
theorem go_fn {pins : List (Addr × Obj)} {σ : L2.St} {H : Hp} {s : Shared} {Q : VK} {us : List Value} {vs : List V} (F : FnG X.prog X.w X.K X.mg X.base k f fd ps sp) (gd : X.A.guards = some []) (hr : Room k X.A) (hb : Binds X.K fd ps ds) (hd : Vals dvs ds) (hx : Passes CX0 X E)
    (I : Inv X pins σ H s) (r : Vals vs us)
    (h : sp (vs ++ dvs) H Q E) : wpAny (model X.prog X.w) X.A (call (.ref f) us) (EP X pins σ Q) X.xe s := by
  have rr : Vals (vs ++ dvs) (us ++ ds) := r.append hd
  have ll : (us ++ ds).length = ps.length := rr.length.symm.trans (F.len _ _ _ _ h)
  have fin := F.go X.A X.stack s H ⟨us, []⟩ (us ++ ds) (vs ++ dvs) Q E gd hr I.env0 (hb s us I.kIn ll) rr h
  refine wpAny_call (codeAny_mono fin ?_)
  rintro (err | (_ | _ | _ | u)) s' hq
  · exact hx pins σ H s err s' I hq
  · exact hq.elim
  · exact hq.elim
  · exact hq.elim
  · exact I.after hq
theorem pe_callG (F : FnG X.prog X.w X.K X.mg X.base k f fd ps sp) (gd : X.A.guards = some []) (hr : Room k X.A) (hg : Gl X x) (hm : X.mg x = some (.ref f)) (hk : PySem.W.keepIn X.K (.ref f) = true) (hb : Binds X.K fd ps ds) (hd : Vals dvs ds) (hx : Passes CX0 X E)
    (ha : PA X (e :: es) t) (h1 : (x == ("__debug__" : Str)) = false := by decide) (h2 : starEach (e :: es) X.env = (false, eval e X.env) :: starEach es X.env := by rfl) (h3 : (backTo pos (starEach es X.env)).any (·.1) = false := by rfl) : PE X (.Call (.Name x p) (e :: es) [] pos) (tCall sp dvs E t) := by
  constructor
  intro pins s σ H Q I h
  refine wpAny_Call_Name_kw (ld_glob I hg hm (PySem.W.callWith_K (h₀ := X.base) I.ok.mod.kin hk (thn (ha.run pos pins s σ H _ I h) ?_) h2 h3) h1)
  rintro us s1 ⟨vs, H1, I1, r, q⟩
  exact ⟨I1.kIn, go_fn F gd hr hb hd hx I1 r q⟩
end
/-! ### the end of a law whose def makes texts of data -/
section
variable {P : Program} {w : World} {K : PySem.W.Frag} {mg mb : Str → Option Value} {k : Nat} {fa a : Addr} {fd : FuncData} {x : Str} {sp : Sp} {s₁ : Shared} {vs : List Value} {ns : List Int}
abbrev Told (s₁ : Shared) : Result → Shared → Prop := fun r s' => r = .ok (.ret (.bool true)) ∧ OldK s₁.heap s'.heap ∧ s'.os = s₁.os ∧ AllBare s'.gens
theorem run_core {H : Hp} (KX : K.In s₁.heap) (hns : s₁.heap.Ns mainGlobals mg) (hb : s₁.heap.Ns builtinsNs mb) (hbb : ∀ y : Str, y ≠ "__name__" → mb y = bootBuiltins y) (hlim : s₁.heap.NoLimit) (hg : s₁.gens = #[])
    (ha : s₁.heap.get? a = some { cls := .type "list", data := .seq vs.toArray }) (hr : Room k callerA)
    (F : ∀ bs : Heap, K.In bs → bs.Ns mainGlobals mg → FnG P w K mg bs k fa fd [x] sp) (hbind : ∀ (s : Shared) (u : Value), BindsTo s fd ⟨[u], []⟩ [(x, u)])
    (hO : Only H) (hsp : sp [.ref a] H (fun v _ => v = .bl true) fun _ _ _ => False) (hok : HOk P w H s₁.heap) (hA : ∀ b u, H b = some u → b = a) (hK : ∀ u, H a = some u → K.lookup a = none) :
    codeAny (model P w) callerA (.call (.ref fa) ⟨[.ref a], []⟩) (Told s₁) s₁ := by
  have away : ∀ {b : Addr} {o : Obj}, s₁.heap.get? b = some o → (∀ ws n, o.data ≠ .seq ws n) → H b = none := by
    intro b o e nd
    cases q : H b with
    | none => rfl
    | some u =>
      have eb := hA b u q
      rw [eb, ha] at e
      exact absurd (congrArg Obj.data (Option.some.inj e)).symm (nd _ _)
  have ns' : ∀ {b : Addr} {m : Str → Option Value}, s₁.heap.Ns b m → (hidT s₁.heap H).Ns b m := by
    rintro b m ⟨o, es, ep, e, dt, r⟩
    exact ⟨o, es, ep, hidT_get e (away e fun ws n z => by rw [dt] at z; cases z), dt, r⟩
  have kb : K.In (hidT s₁.heap H) := by
    intro b o e
    refine hidT_get (KX b o e) ?_
    cases q : H b with
    | none => rfl
    | some u =>
      have eb := hA b u q
      subst eb
      rw [hK u q] at e
      cases e
  have mo : Mod K mg (hidT s₁.heap H) := ⟨kb, ns' hns, ⟨mb, ns' hb, hbb⟩, by obtain ⟨mc, l1, l2⟩ := hlim; exact ⟨mc, ns' l1, l2⟩⟩
  have ev : Env0 P w K mg (hidT s₁.heap H) callerA [] s₁ H := ⟨rfl, mo, fun b o z => of_hidT z, Nat.le_of_eq (hidT_size _ _), trivial, by rintro b ⟨⟩, hok, .of_eq hg⟩
  have go := (F _ kb (ns' hns)).go callerA [] s₁ H ⟨[.ref a], []⟩ [.ref a] [.ref a] _ _ rfl hr ev (hbind s₁ (.ref a)) (.cons rfl .nil) hsp
  refine codeAny_mono go ?_
  rintro (err | (_ | _ | _ | u)) s' h
  · exact (show False by simpa [CR, CX0] using h).elim
  · exact h.elim
  · exact h.elim
  · exact h.elim
  · obtain ⟨v, H', os, bare, un, hok', r', q⟩ := h
    obtain rfl : v = .bl true := q
    obtain rfl : u = Value.bool true := r'
    refine ⟨rfl, OldK.of_keep ?_, os, bare⟩
    intro b o e
    rcases hO b with z | ⟨ob, xs, z⟩
    · exact un.keep b o e z (by rintro ⟨⟩) (by simp)
    · have f1 := (hok b _ z).1
      have f2 := (hok' b _ (un.frzs b ob _ z)).1
      rw [e] at f1
      cases f1
      exact f2
theorem law_callG (KX : K.In s₁.heap) (hns : s₁.heap.Ns mainGlobals mg) (hb : s₁.heap.Ns builtinsNs mb) (hbb : ∀ y : Str, y ≠ "__name__" → mb y = bootBuiltins y) (hlim : s₁.heap.NoLimit) (hg : s₁.gens = #[])
    (ha : s₁.heap.get? a = some { cls := .type "list", data := .seq vs.toArray })
    (hi : IntsAre vs ns) (hl : ns.length ≤ sizeLine) (hr : Room k callerA)
    (F : ∀ bs : Heap, K.In bs → bs.Ns mainGlobals mg → FnG P w K mg bs k fa fd [x] sp) (hbind : ∀ (s : Shared) (u : Value), BindsTo s fd ⟨[u], []⟩ [(x, u)])
    (hsp : ∀ H : Hp, Only H → SqL K H a (ns.map V.int) → sp [.ref a] H (fun v _ => v = .bl true) fun _ _ _ => False) :
    codeAny (model P w) callerA (.call (.ref fa) ⟨[.ref a], []⟩) (Told s₁) s₁ := by
  have rv := vals_ints hi
  have ln := hi.length
  by_cases hk : ∃ o, K.lookup a = some o
  · obtain ⟨o, hk⟩ := hk
    have e := KX a o hk
    rw [ha] at e
    cases e
    have hO : Only (fun _ => none) := fun _ => .inl rfl
    refine run_core (H := fun _ => none) KX hns hb hbb hlim hg ha hr F hbind hO (hsp _ hO (.inr ⟨_, vs.toArray, _, hk, rfl, rfl, rfl, ?_, by simpa using rv⟩)) ?_ ?_ ?_
    · rw [List.size_toArray, ln]
      exact hl
    · intro b u z
      cases z
    · intro b u z
      cases z
    · intro u z
      cases z
  · have hk0 : K.lookup a = none := by
      cases q : K.lookup a with
      | none => rfl
      | some o => exact absurd ⟨o, q⟩ hk
    let fz : HO := .frz { cls := .type "list", data := .seq vs.toArray } (.lst (ns.map V.int))
    let H : Hp := upd (fun _ => none) a fz
    have hO : Only H := by
      intro b
      by_cases e : b = a
      · subst e
        exact .inr ⟨_, _, upd_same⟩
      · exact .inl (upd_ne e)
    have one : ∀ b u, H b = some u → b = a := by
      intro b u z
      by_cases e : b = a
      · exact e
      · rw [show H b = none from upd_ne e] at z
        cases z
    refine run_core (H := H) KX hns hb hbb hlim hg ha hr F hbind hO (hsp _ hO (.inl (.inr ⟨_, upd_same⟩))) ?_ one fun _ _ => hk0
    intro b u z
    have eb := one b u z
    subst eb
    rw [show H b = some fz from upd_same] at z
    cases z
    refine ⟨ha, ?_, vs, _, rv, ha⟩
    rw [List.length_map]
    exact hl
end
theorem walk_ofG {l : PySem.W.OpenLaw} {n k : Nat} {q : Program} {loose : List Str} {XP : (Str → Option Value) → Heap → Prop} {YP : World → Heap → Prop} {d : DefRec} {K : Params → PySem.W.Frag} {sp : PySem.W.Frag → Sp} {x : Str}
    (hn : l.most = some n) (hn2 : n ≤ sizeLine)
    (hdf : d.params.defaults = []) (hr : Room k callerA) (hY : ∀ (w : World) (h : Heap), YP w h → (K w.params).In h)
    (F : ∀ (w : World) (mg : Str → Option Value) (fa : Addr) (h : Heap), (K w.params).In h → h.Ns mainGlobals mg →
      mg d.name = some (.ref fa) → ∃ fd : FuncData, (∀ (s : Shared) (u : Value), BindsTo s fd ⟨[u], []⟩ [(x, u)]) ∧ ∀ bs : Heap, (K w.params).In bs → bs.Ns mainGlobals mg → FnG l.prog w (K w.params) mg bs k fa fd [x] (sp (K w.params)))
    (hsp : ∀ (K : PySem.W.Frag) (H : Hp) (a : Addr) (ns : List Int), ns.length ≤ n → Only H → SqL K H a (ns.map V.int) → sp K [.ref a] H (fun v _ => v = .bl true) fun _ _ _ => False) :
    PySem.W.WalkO q loose XP YP l.row.toRowW d []
      (fun f vs => PySem.call f vs) := by
  refine Att.attach_call hn hdf fun w s0 s1 mg mb fa o pm cd doc a vs ns G Y ho hd hcd hmg hobj hints hlen hg => ?_
  have kk := hY w _ Y
  obtain ⟨fd, h1, h2⟩ := F w mg fa _ kk G.T.g hmg
  exact law_callG kk G.T.g G.T.b G.T.builtins G.T.nolimit hg hobj hints (Nat.le_trans hlen hn2) hr h2 h1 fun H hO hS => hsp _ H a ns hlen hO hS
end
section
open L2 PySem PySem.Spec PyProof.Rows
/-- the built-in names that the module leaves alone -/
structure Bn (mg : Str → Option Value) : Prop where
  int_ : mg "int" = none
  str_ : mg "str" = none
  tuple_ : mg "tuple" = none
  list_ : mg "list" = none
  bool_ : mg "bool" = none
  len_ : mg "len" = none
  isinstance_ : mg "isinstance" = none
  all_ : mg "all" = none
  any_ : mg "any" = none
  max_ : mg "max" = none
  min_ : mg "min" = none
  sum_ : mg "sum" = none
  sorted_ : mg "sorted" = none
  repr_ : mg "repr" = none
  range_ : mg "range" = none
  enumerate_ : mg "enumerate" = none
  zip_ : mg "zip" = none
  set_ : mg "set" = none
/-- the name x of the module is a def that keeps the promise sp -/
structure Cl (P : Program) (w : World) (K : PySem.W.Frag) (mg : Str → Option Value) (base : Heap) (k : Nat) (x : Str) (ps : List Str) (sp : Sp) : Prop where
  ex : ∃ (f : Addr) (fd : FuncData), FnOk P w K mg base CX0 k f fd ps sp ∧ mg x = some (.ref f) ∧ PySem.W.keepIn K (.ref f) = true ∧ Binds K fd ps []
structure ClG (P : Program) (w : World) (K : PySem.W.Frag) (mg : Str → Option Value) (base : Heap) (k : Nat) (x : Str) (ps : List Str) (sp : Sp) : Prop where
  ex : ∃ (f : Addr) (fd : FuncData), FnG P w K mg base k f fd ps sp ∧ mg x = some (.ref f) ∧ PySem.W.keepIn K (.ref f) = true ∧ Binds K fd ps []
section
variable {X : Cx} {k k' : Nat} {ps : List Str} {sp : Sp} {E : XK} {x : Str} {p pos : Pos} {e : Expr} {es : List Expr} {t : TA}
theorem pe_c (C : Cl X.prog X.w X.K X.mg X.base k x ps sp) (hr : Room k' X.A) (ha : PA X (e :: es) t) (hg : Gl X x := by rfl) (hk : k ≤ k' := by decide) (h1 : (x == ("__debug__" : Str)) = false := by decide)
    (h2 : starEach (e :: es) X.env = (false, eval e X.env) :: starEach es X.env := by rfl) (h3 : (backTo pos (starEach es X.env)).any (·.1) = false := by rfl) :
    PE X (.Call (.Name x p) (e :: es) [] pos) (tCall sp [] (fun _ _ _ => False) t) := by
  obtain ⟨f, fd, F, hm, kp, b⟩ := C.ex
  exact pe_call F (hr.mono hk) hg hm kp b .nil pass0 ha h1 h2 h3
theorem pe_cG (C : ClG X.prog X.w X.K X.mg X.base k x ps sp) (gd : X.A.guards = some []) (hr : Room k' X.A) (ha : PA X (e :: es) t) (hg : Gl X x := by rfl) (hk : k ≤ k' := by decide) (h1 : (x == ("__debug__" : Str)) = false := by decide)
    (h2 : starEach (e :: es) X.env = (false, eval e X.env) :: starEach es X.env := by rfl) (h3 : (backTo pos (starEach es X.env)).any (·.1) = false := by rfl) :
    PE X (.Call (.Name x p) (e :: es) [] pos) (tCall sp [] (fun _ _ _ => False) t) := by
  obtain ⟨f, fd, F, hm, kp, b⟩ := C.ex
  exact pe_callG F gd (hr.mono hk) hg hm kp b .nil pass0 ha h1 h2 h3
end
/-- a def of the text -/
structure Dn (K : PySem.W.Frag) (mg : Str → Option Value) (x : String) (st : Stmt) (ps : List Str) : Prop where
  ex : ∃ (f : Addr) (fd : FuncData), Fun K x x st f fd ∧ mg x = some (.ref f) ∧ Binds K fd ps []
section
variable {base : Heap} {P : Program} {w : World} {K : PySem.W.Frag} {mg : Str → Option Value}
theorem Dn.cl {x : String} {st : Stmt} {N ps : List Str} {k : Nat} {sp : Sp} (D : Dn K mg x st ps) (S : FnScope N ps (defScope st)) (len : ∀ vs H Q E, sp vs H Q E → vs.length = ps.length)
    (bd : ∀ (f : Addr) (cdv : Value) (A : Around) (fr : List Env) (s : Shared) (H : Hp) (vs : List V) (Q : VK) (E : XK), Room k (A.deeper (envOfC x (defScope st) s.heap.objs.size f cdv)) → sp vs H Q E →
      ∃ t, PSs (cxOf CX0 P w K mg base N x (defScope st) f cdv A fr s H E).nox (defBody st) t ∧ t { nx := fun _ H' => Q .non H', rt := Q } (start N vs) H) : Cl P w K mg base (k + 1) x ps sp := by
  obtain ⟨f, fd, F, hm, b⟩ := D.ex
  exact ⟨f, fd, F.ok S len (bd f), hm, F.kp, b⟩
theorem Dn.clG {x : String} {st : Stmt} {N ps : List Str} {k : Nat} {sp : Sp} (D : Dn K mg x st ps) (S : FnScope N ps (defScope st)) (len : ∀ vs H Q E, sp vs H Q E → vs.length = ps.length)
    (bd : ∀ (f : Addr) (cdv : Value) (A : Around) (fr : List Env) (s : Shared) (H : Hp) (vs : List V) (Q : VK) (E : XK), A.guards = some [] → Room k (A.deeper (envOfC x (defScope st) s.heap.objs.size f cdv)) → sp vs H Q E →
      ∃ t, PSs (cxOf CX0 P w K mg base N x (defScope st) f cdv A fr s H E).nox (defBody st) t ∧ t { nx := fun _ H' => Q .non H', rt := Q } (start N vs) H) : ClG P w K mg base (k + 1) x ps sp := by
  obtain ⟨f, fd, F, hm, b⟩ := D.ex
  exact ⟨f, fd, okG F S len (bd f), hm, F.kp, b⟩
end
end
section
open L2 PySem PySem.Spec PyProof.Rows
/-! ### relations of built-ins by name -/
section
variable {X : Cx}
def rInt : List V → Hp → VK → Prop := fun xs H Q => (∃ i, xs = [.int i] ∧ Q (.int i) H) ∨ ∃ k, xs = [.bl k] ∧ Q (.int (if k then 1 else 0)) H
theorem j_int : CallR X (.type "int") rInt := call_int1
def rStrI : List V → Hp → VK → Prop := fun xs H Q => ∃ i : Int, xs = [.int i] ∧ i.natAbs.log2 < 1920 ∧ Q (.str (toString i)) H
theorem j_str : CallR X (.type "str") rStrI := call_str_int
def rTupleOf (K : PySem.W.Frag) : List V → Hp → VK → Prop := fun xs H Q => ∃ p ys, xs = [.ref p] ∧ ((SqL K H p ys ∧ ∀ l, H l = none → Q (.ref l) (upd H l (.tup ys))) ∨ (SqT K H p ys ∧ Q (.ref p) H))
theorem j_tuple (h : CallR X (.type "tuple") (rTupleOf X.K) := by exact call_tuple_of) : CallR X (.type "tuple") (rTupleOf X.K) := h
def rListOf (K : PySem.W.Frag) : List V → Hp → VK → Prop := fun xs H Q => ∃ p ys, xs = [.ref p] ∧ (SqL K H p ys ∨ SqT K H p ys) ∧ ∀ l, H l = none → Q (.ref l) (upd H l (.lst ys))
theorem j_list (h : CallR X (.type "list") (rListOf X.K) := by exact call_list_of) : CallR X (.type "list") (rListOf X.K) := h
def rLenQ (K : PySem.W.Frag) : List V → Hp → VK → Prop := fun xs H Q => ∃ p ys, xs = [.ref p] ∧ (SqL K H p ys ∨ SqT K H p ys) ∧ Q (.int (ys.length : Nat)) H
theorem j_len (h : CallR X (.builtin "len") (rLenQ X.K) := by exact call_len_seq) : CallR X (.builtin "len") (rLenQ X.K) := h
def rMax : List V → Hp → VK → Prop := fun xs H Q => ∃ i j : Int, xs = [.int i, .int j] ∧ Q (.int (if j > i then j else i)) H
theorem j_max (hc : X.calm = true) : CallR X (.builtin "max") rMax := call_max2 hc
def rMin : List V → Hp → VK → Prop := fun xs H Q => ∃ i j : Int, xs = [.int i, .int j] ∧ Q (.int (if j < i then j else i)) H
theorem j_min (hc : X.calm = true) : CallR X (.builtin "min") rMin := call_min2 hc
def rAddS : R2 := fun x y H Q => ∃ i j : Str, x = .str i ∧ y = .str j ∧ i.length + j.length ≤ sizeLine ∧ Q (.str (i ++ j)) H
theorem o_addS : OpR X (binaryOp .Add) rAddS := op_add_str
end
/-! ### one step of a reading each -/
section
variable {σ : L2.St} {H : Hp} {D : Ends} {Q : VK} {QB : Bool → Hp → Prop} {K : PySem.W.Frag}
theorem i_nx {n : L2.St → Hp → Prop} {r : VK} {b c : L2.St → Hp → Prop} (h : n σ H) : (Ends.mk n r b c).nx σ H := h
theorem i_rt {n : L2.St → Hp → Prop} {r : VK} {b c : L2.St → Hp → Prop} {v : V} (h : r v H) : (Ends.mk n r b c).rt v H := h
theorem i_bk {n : L2.St → Hp → Prop} {r : VK} {b c : L2.St → Hp → Prop} (h : b σ H) : (Ends.mk n r b c).bk σ H := h
theorem i_ct {n : L2.St → Hp → Prop} {r : VK} {b c : L2.St → Hp → Prop} (h : c σ H) : (Ends.mk n r b c).ct σ H := h
theorem i_seq {t u : TS} {n : L2.St → Hp → Prop} {r : VK} {b c : L2.St → Hp → Prop} (h : t ⟨u ⟨n, r, b, c⟩, r, b, c⟩ σ H) : tSeq t u ⟨n, r, b, c⟩ σ H := h
theorem i_next {n : L2.St → Hp → Prop} {r : VK} {b c : L2.St → Hp → Prop} (h : n σ H) : tNext ⟨n, r, b, c⟩ σ H := h
theorem i_asg {te : TE} {g : TG} {n : L2.St → Hp → Prop} {r : VK} {b c : L2.St → Hp → Prop} (h : te σ H fun x H1 => g x σ H1 n) : tAsg te g ⟨n, r, b, c⟩ σ H := h
theorem i_gname {i : Nat} {v : V} {q : L2.St → Hp → Prop} (h : q (σ.set i (some v)) H) : gName i v σ H q := h
theorem i_ret {te : TE} {n : L2.St → Hp → Prop} {r : VK} {b c : L2.St → Hp → Prop} (h : te σ H r) : tRet te ⟨n, r, b, c⟩ σ H := h
theorem i_retN {n : L2.St → Hp → Prop} {r : VK} {b c : L2.St → Hp → Prop} (h : r .non H) : tRetN ⟨n, r, b, c⟩ σ H := h
theorem i_drop {te : TE} {n : L2.St → Hp → Prop} {r : VK} {b c : L2.St → Hp → Prop} (h : te σ H fun _ H1 => n σ H1) : tDrop te ⟨n, r, b, c⟩ σ H := h
theorem i_ifS {k : TT} {t u : TS} {n : L2.St → Hp → Prop} {r : VK} {b c : L2.St → Hp → Prop} (h : k σ H fun d H1 => if d = true then t ⟨n, r, b, c⟩ σ H1 else u ⟨n, r, b, c⟩ σ H1) : tIfS k t u ⟨n, r, b, c⟩ σ H := h
theorem i_test {t : TE} (h : t σ H fun x H' => ∃ k, x = .bl k ∧ QB k H') : tTest t σ H QB := h
theorem i_tB {t : TE} (h : t σ H fun x H' => ∃ k, x = .bl k ∧ QB k H') : tB t σ H QB := h
theorem i_bl {b : Bool} (h : QB b H) : ∃ k, V.bl b = .bl k ∧ QB k H := ⟨b, rfl, h⟩
theorem i_not {t : TT} (h : t σ H fun c H1 => QB (!c) H1) : tNot t σ H QB := h
theorem i_and {t u : TT} (h : t σ H fun c H1 => if c = true then u σ H1 QB else QB false H1) : tAnd t u σ H QB := h
theorem i_or {t u : TT} (h : t σ H fun c H1 => if c = true then QB true H1 else u σ H1 QB) : tOr t u σ H QB := h
theorem i_notV {t : TE} (h : t σ H fun x H1 => ∃ c, x = .bl c ∧ Q (.bl (!c)) H1) : tNotV t σ H Q := h
theorem i_andV {t u : TE} (h : t σ H fun x H1 => ∃ c, x = .bl c ∧ if c = true then u σ H1 Q else Q (.bl false) H1) : tAndV t u σ H Q := h
theorem i_orV {t u : TE} (h : t σ H fun x H1 => ∃ c, x = .bl c ∧ if c = true then Q (.bl true) H1 else u σ H1 Q) : tOrV t u σ H Q := h
theorem i_blQ {b : Bool} {P : Bool → Prop} (h : P b) : ∃ k, V.bl b = .bl k ∧ P k := ⟨b, rfl, h⟩
theorem i_if {t : TT} {a b : TE} (h : t σ H fun c H1 => if c = true then a σ H1 Q else b σ H1 Q) : tIf t a b σ H Q := h
theorem i_op {r : R2} {a b : TE} (h : a σ H fun x H1 => b σ H1 fun y H2 => r x y H2 Q) : tOp r a b σ H Q := h
theorem i_un {r : V → Hp → VK → Prop} {a : TE} (h : a σ H fun x H1 => r x H1 Q) : tUn r a σ H Q := h
theorem i_chain {r r' : R2} {a b c : TE} (h : a σ H fun x H1 => b σ H1 fun y H2 => r x y H2 fun z H3 => ∃ k, z = .bl k ∧ if k = true then c σ H3 fun w' H4 => r' y w' H4 Q else Q (.bl false) H3) : tChain r r' a b c σ H Q := h
theorem i_var {i : Nat} {v : V} (e : σ[i]? = some (some v)) (h : Q v H) : tVar i σ H Q := ⟨v, e, h⟩
theorem i_c {v : V} (h : Q v H) : tC v σ H Q := h
theorem i_rI0 {g : Int → Int → V} {i j : Int} (h : Q (g i j) H) : rI0 g (.int i) (.int j) H Q := ⟨i, j, rfl, rfl, h⟩
theorem i_rI {C : Int → Int → Prop} {g : Int → Int → V} {i j : Int} (c : C i j) (h : Q (g i j) H) : rI C g (.int i) (.int j) H Q := ⟨i, j, rfl, rfl, c, h⟩
theorem i_rU {g : Int → V} {i : Int} (h : Q (g i) H) : rU g (.int i) H Q := ⟨i, rfl, h⟩
theorem i_add {i j : Int} (h : Q (.int (i + j)) H) : rAdd (.int i) (.int j) H Q := ⟨i, j, rfl, rfl, h⟩
theorem i_sub {i j : Int} (h : Q (.int (i - j)) H) : rSub (.int i) (.int j) H Q := ⟨i, j, rfl, rfl, h⟩
theorem i_eqI {i j : Int} (h : Q (.bl (decide (i = j))) H) : rEq (.int i) (.int j) H Q := ⟨rfl, by
  have e : decide (V.int i = V.int j) = decide (i = j) := by
    by_cases z : i = j
    · subst z
      simp
    · rw [decide_eq_false z, decide_eq_false (fun k => z (V.int.inj k))]
  rw [e]
  exact h⟩
theorem i_neI {i j : Int} (h : Q (.bl (decide (i ≠ j))) H) : rNe (.int i) (.int j) H Q := ⟨rfl, by
  have e : (!decide (V.int i = V.int j)) = decide (i ≠ j) := by
    by_cases z : i = j
    · subst z
      simp
    · rw [decide_eq_true z, decide_eq_false (fun k => z (V.int.inj k))]
      rfl
  rw [e]
  exact h⟩
theorem i_eqS {i j : Str} (h : Q (.bl (decide (i = j))) H) : rEq (.str i) (.str j) H Q := ⟨rfl, by
  have e : decide (V.str i = V.str j) = decide (i = j) := by
    by_cases z : i = j
    · subst z
      simp
    · rw [decide_eq_false z, decide_eq_false (fun k => z (V.str.inj k))]
  rw [e]
  exact h⟩
theorem i_neS {i j : Str} (h : Q (.bl (decide (i ≠ j))) H) : rNe (.str i) (.str j) H Q := ⟨rfl, by
  have e : (!decide (V.str i = V.str j)) = decide (i ≠ j) := by
    by_cases z : i = j
    · subst z
      simp
    · rw [decide_eq_true z, decide_eq_false (fun k => z (V.str.inj k))]
      rfl
  rw [e]
  exact h⟩
theorem i_ixL {p : Addr} {xs : List V} {i : Int} {v : V} (e : SqL K H p xs) (z : atI xs i = some v) (h : Q v H) : rIxL K (.ref p) (.int i) H Q := ⟨p, xs, i, v, rfl, rfl, e, z, h⟩
theorem i_ixT {p : Addr} {xs : List V} {i : Int} {v : V} (e : SqT K H p xs) (z : atI xs i = some v) (h : Q v H) : rIxT K (.ref p) (.int i) H Q := ⟨p, xs, i, v, rfl, rfl, e, z, h⟩
theorem i_setL {p : Addr} {xs : List V} {i : Int} {v : V} {j : Nat} {q : Hp → Prop} (e : H p = some (.lst xs)) (z : ixN xs.length i = some j) (h : q (upd H p (.lst (xs.set j v)))) : rSetL (.ref p) (.int i) v H q := ⟨p, xs, i, j, rfl, rfl, e, z, h⟩
theorem i_gsub {to ti : TE} {t : TSet} {v : V} {q : L2.St → Hp → Prop} (h : to σ H fun o H1 => ti σ H1 fun i H2 => t o i v H2 fun H3 => q σ H3) : gSub to ti t v σ H q := h
theorem i_cons {a : TE} {r : TA} {q : List V → Hp → Prop} (h : a σ H fun x H1 => r σ H1 fun xs H2 => q (x :: xs) H2) : tCons a r σ H q := h
theorem i_nil {q : List V → Hp → Prop} (h : q [] H) : tNil σ H q := h
theorem i_cb {r : List V → Hp → VK → Prop} {t : TA} (h : t σ H fun vs H1 => r vs H1 Q) : tCB r t σ H Q := h
theorem i_call {sp : Sp} {E : XK} {t : TA} (h : t σ H fun vs H1 => sp (vs ++ []) H1 Q E) : tCall sp [] E t σ H Q := h
theorem i_tup {t : TA} (h : t σ H fun xs H1 => xs.length ≤ sizeLine ∧ ∀ p, H1 p = none → Q (.ref p) (upd H1 p (.tup xs))) : tTup t σ H Q := h
theorem i_lst {t : TA} (h : t σ H fun xs H1 => xs.length ≤ sizeLine ∧ ∀ p, H1 p = none → Q (.ref p) (upd H1 p (.lst xs))) : tLst t σ H Q := h
theorem i_par {i j : Nat} {ta : TA} {n : L2.St → Hp → Prop} {r : VK} {b c : L2.St → Hp → Prop} (h : ta σ H fun vs H1 => ∃ v w, vs = [v, w] ∧ n ((σ.set i (some v)).set j (some w)) H1) : tPar i j ta ⟨n, r, b, c⟩ σ H := h
theorem i_par3 {i j l : Nat} {ta : TA} {n : L2.St → Hp → Prop} {r : VK} {b c : L2.St → Hp → Prop} (h : ta σ H fun vs H1 => ∃ u v w, vs = [u, v, w] ∧ n (((σ.set i (some u)).set j (some v)).set l (some w)) H1) : tPar3 i j l ta ⟨n, r, b, c⟩ σ H := h
theorem i_par3' {u v w : V} {P : V → V → V → Prop} (h : P u v w) : ∃ a b c, [u, v, w] = [a, b, c] ∧ P a b c := ⟨u, v, w, rfl, h⟩
theorem i_par' {v w : V} {P : V → V → Prop} (h : P v w) : ∃ a b, [v, w] = [a, b] ∧ P a b := ⟨v, w, rfl, h⟩
theorem i_int {i : Int} (h : Q (.int i) H) : rInt [.int i] H Q := .inl ⟨i, rfl, h⟩
theorem i_intB {b : Bool} (h : Q (.int (if b then 1 else 0)) H) : rInt [.bl b] H Q := .inr ⟨b, rfl, h⟩
theorem i_strI {i : Int} (c : i.natAbs.log2 < 1920) (h : Q (.str (toString i)) H) : rStrI [.int i] H Q := ⟨i, rfl, c, h⟩
theorem i_tupL {p : Addr} {ys : List V} (e : SqL K H p ys) (h : ∀ l, H l = none → Q (.ref l) (upd H l (.tup ys))) : rTupleOf K [.ref p] H Q := ⟨p, ys, rfl, .inl ⟨e, h⟩⟩
theorem i_tupT {p : Addr} {ys : List V} (e : SqT K H p ys) (h : Q (.ref p) H) : rTupleOf K [.ref p] H Q := ⟨p, ys, rfl, .inr ⟨e, h⟩⟩
theorem i_lstL {p : Addr} {ys : List V} (e : SqL K H p ys) (h : ∀ l, H l = none → Q (.ref l) (upd H l (.lst ys))) : rListOf K [.ref p] H Q := ⟨p, ys, rfl, .inl e, h⟩
theorem i_lstT {p : Addr} {ys : List V} (e : SqT K H p ys) (h : ∀ l, H l = none → Q (.ref l) (upd H l (.lst ys))) : rListOf K [.ref p] H Q := ⟨p, ys, rfl, .inr e, h⟩
theorem i_lenL {p : Addr} {ys : List V} (e : SqL K H p ys) (h : Q (.int (ys.length : Nat)) H) : rLenQ K [.ref p] H Q := ⟨p, ys, rfl, .inl e, h⟩
theorem i_lenT {p : Addr} {ys : List V} (e : SqT K H p ys) (h : Q (.int (ys.length : Nat)) H) : rLenQ K [.ref p] H Q := ⟨p, ys, rfl, .inr e, h⟩
theorem i_all {p : Addr} {bs : List Bool} (e : SqL K H p (bs.map V.bl)) (h : Q (.bl (bs.all id)) H) : rAll K [.ref p] H Q := ⟨p, bs, rfl, e, h⟩
theorem i_max {i j : Int} (h : Q (.int (max i j)) H) : rMax [.int i, .int j] H Q := ⟨i, j, rfl, by
  have e : (if j > i then j else i) = max i j := by
    split <;> omega
  rw [e]
  exact h⟩
theorem i_min {i j : Int} (h : Q (.int (min i j)) H) : rMin [.int i, .int j] H Q := ⟨i, j, rfl, by
  have e : (if j < i then j else i) = min i j := by
    split <;> omega
  rw [e]
  exact h⟩
theorem i_addS {i j : Str} (c : i.length + j.length ≤ sizeLine) (h : Q (.str (i ++ j)) H) : rAddS (.str i) (.str j) H Q := ⟨i, j, rfl, rfl, c, h⟩
theorem i_ite {c : Prop} [Decidable c] {A B : Prop} (h1 : c → A) (h2 : ¬ c → B) : if decide c = true then A else B := by
  by_cases z : c
  · rw [decide_eq_true z, if_pos rfl]
    exact h1 z
  · rw [decide_eq_false z, if_neg Bool.false_ne_true]
    exact h2 z
theorem i_iteN {c : Prop} [Decidable c] {A B : Prop} (h1 : ¬ c → A) (h2 : c → B) : if (!decide c) = true then A else B := by
  by_cases z : c
  · rw [decide_eq_true z, if_neg (by decide)]
    exact h2 z
  · rw [decide_eq_false z, if_pos (by decide)]
    exact h1 z
theorem i_iteT {A B : Prop} (h : A) : if true = true then A else B := by rw [if_pos rfl]; exact h
theorem i_iteF {A B : Prop} (h : B) : if false = true then A else B := by rw [if_neg Bool.false_ne_true]; exact h
theorem sq_lst {p : Addr} {xs : List V} (e : H p = some (.lst xs)) : SqL K H p xs := .inl (.inl e)
theorem sq_tup {p : Addr} {xs : List V} (e : H p = some (.tup xs)) : SqT K H p xs := .inl (.inl e)
theorem at0 {α : Type} {x : α} {xs : List α} : atI (x :: xs) 0 = some x := atI_nat (j := 0) rfl
theorem at1 {α : Type} {x y : α} {xs : List α} : atI (x :: y :: xs) 1 = some y := atI_nat (j := 1) rfl
theorem at2 {α : Type} {x y z : α} {xs : List α} : atI (x :: y :: z :: xs) 2 = some z := atI_nat (j := 2) rfl
theorem ix_nat {n k : Nat} (h : k < n) : ixN n (k : Int) = some k := by
  unfold ixN
  rw [if_pos (by omega), if_pos (by omega)]
  simp
end
end
section
open L2 PySem PySem.Spec PyProof.Rows
section
variable {σ : L2.St} {H : Hp} {D : Ends} {Q : VK} {K : PySem.W.Frag}
/-! ### slices, methods -/
theorem i_sl {r : V → Option Int → Option Int → Hp → VK → Prop} {te : TE} {tl th : TO} (h : te σ H fun x H1 => tl σ H1 fun l H2 => th σ H2 fun u H3 => r x l u H3 Q) : tSl r te tl th σ H Q := h
theorem i_npart {q : Option Int → Hp → Prop} (h : q none H) : tNoPart σ H q := h
def partK (q : Option Int → Hp → Prop) : VK := fun x H1 => ∃ i, x = .int i ∧ q (some i) H1
theorem i_part {te : TE} {q : Option Int → Hp → Prop} (h : te σ H (partK q)) : tPart te σ H q := h
theorem i_partI {i : Int} {q : Option Int → Hp → Prop} (h : q (some i) H) : partK q (.int i) H := ⟨i, rfl, h⟩
theorem i_slL {p : Addr} {xs : List V} {lo hi : Option Int} (e : SqL K H p xs) (h : ∀ l, H l = none → Q (.ref l) (upd H l (.lst (cutV xs lo hi)))) : rSlL K (.ref p) lo hi H Q := ⟨p, xs, rfl, e, h⟩
theorem i_slS {z : Str} {lo hi : Option Int} (e : z.length ≤ sizeLine) (h : Q (.str (cutS z lo hi)) H) : rSlS (.str z) lo hi H Q := ⟨z, rfl, e, h⟩
theorem i_bm {T : String} {r : V → List V → Hp → VK → Prop} {to : TE} {t : TA} (h : to σ H fun x H1 => tyV K T x H1 ∧ t σ H1 fun xs H2 => r x xs H2 Q) : tBM K T r to t σ H Q := h
theorem i_tyL {p : Addr} {xs : List V} {A : Prop} (e : SqL K H p xs) (h : A) : tyV K "list" (.ref p) H ∧ A := ⟨.inl ⟨rfl, xs, e⟩, h⟩
theorem i_app {p : Addr} {xs : List V} {y : V} (e : H p = some (.lst xs)) (z : xs.length < sizeLine) (h : Q .non (upd H p (.lst (xs ++ [y])))) : rAppend (.ref p) [y] H Q := ⟨p, xs, y, rfl, rfl, e, z, h⟩
theorem i_popAt {p : Addr} {xs : List V} {k : Nat} {y : V} (e : H p = some (.lst xs)) (b : k < 2 ^ 60) (z : xs[k]? = some y) (h : Q y (upd H p (.lst (xs.eraseIdx k)))) : rPopAt (.ref p) [.int (k : Int)] H Q :=
  ⟨p, xs, k, k, y, rfl, rfl, e, by omega, by omega, by
    have hk := (List.getElem?_eq_some_iff.mp z).1
    exact (ixN_seq (ix_nat hk)).1, z, h⟩
theorem i_ext {p q : Addr} {xs zs : List V} (e : H p = some (.lst xs)) (e2 : H q = some (.lst zs)) (z : xs.length + zs.length ≤ sizeLine) (h : Q .non (upd H p (.lst (xs ++ zs)))) : rExtend (.ref p) [.ref q] H Q := ⟨p, q, xs, zs, rfl, rfl, e, e2, z, h⟩
theorem i_gtup {n : Nat} {t : TGs} {p : Addr} {xs : List V} {q : L2.St → Hp → Prop} (e : SqT K H p xs) (z : xs.length = n) (h : t xs σ H q) : gTup K n t (.ref p) σ H q := ⟨p, xs, rfl, e, z, h⟩
theorem i_gcons {t : TG} {u : TGs} {v : V} {r : List V} {q : L2.St → Hp → Prop} (h : t v σ H fun σ' H' => u r σ' H' q) : gCons t u (v :: r) σ H q := ⟨v, r, rfl, h⟩
theorem i_gnil {q : L2.St → Hp → Prop} (h : q σ H) : gNil [] σ H q := ⟨rfl, h⟩
theorem i_sum {p : Addr} {ns : List Int} (e : SqL K H p (ns.map V.int)) (h : Q (.int ns.sum) H) : rSum K [.ref p] H Q := ⟨p, ns, rfl, e, h⟩
/-- a subscript of a list or a tuple -/
def rIxA (K : PySem.W.Frag) : R2 := fun x y H Q => rIxL K x y H Q ∨ rIxT K x y H Q
theorem ix_any {X : Cx} : IxR X (rIxA X.K) := by
  intro e1 e2 ps st sl hp x y v u Q I r1 r2 h hs
  rcases h with h | h
  · exact ix_list e1 e2 ps st sl hp x y v u Q I r1 r2 h hs
  · exact ix_tup e1 e2 ps st sl hp x y v u Q I r1 r2 h hs
/-- read as a sequence -/
def SqA (K : PySem.W.Frag) (H : Hp) (p : Addr) (xs : List V) : Prop := SqL K H p xs ∨ SqT K H p xs
theorem i_ixA {p : Addr} {xs : List V} {i : Int} {v : V} (e : SqA K H p xs) (z : atI xs i = some v) (h : Q v H) : rIxA K (.ref p) (.int i) H Q := by
  rcases e with e | e
  · exact .inl (i_ixL e z h)
  · exact .inr (i_ixT e z h)
theorem i_lenA {p : Addr} {ys : List V} (e : SqA K H p ys) (h : Q (.int (ys.length : Nat)) H) : rLenQ K [.ref p] H Q := ⟨p, ys, rfl, e, h⟩
theorem i_lstA {p : Addr} {ys : List V} (e : SqA K H p ys) (h : ∀ l, H l = none → Q (.ref l) (upd H l (.lst ys))) : rListOf K [.ref p] H Q := ⟨p, ys, rfl, e, h⟩
theorem perm_erase {α : Type} : ∀ (l : List α) (k : Nat) (h : k < l.length), (l[k] :: l.eraseIdx k).Perm l
  | [], _, h => absurd h (Nat.not_lt_zero _)
  | x :: r, 0, _ => List.Perm.refl _
  | x :: r, k + 1, h => by
    have hk : k < r.length := Nat.lt_of_succ_lt_succ h
    have ih := perm_erase r k hk
    show (r[k] :: x :: r.eraseIdx k).Perm (x :: r)
    exact (List.Perm.swap x r[k] _).trans (ih.cons x)
/-! ### loops -/
def forK (g : TG) (tb : TS) (D : Ends) (σ : L2.St) : It → Hp → Prop := fun J h => tFor (fun _ h' R => R J h') g tb D σ h
theorem i_for {wi : TI} {g : TG} {tb : TS} (h : wi σ H (forK g tb D σ)) : tFor wi g tb D σ H := h
def lcK (g : TG) (tt : TT) (te : TE) (vs : List Nat) (σ : L2.St) (Q : VK) : It → Hp → Prop := fun J h => tLc (fun _ h' R => R J h') g tt te vs σ h Q
theorem i_lc {wi : TI} {g : TG} {tt : TT} {te : TE} {vs : List Nat} (h : wi σ H (lcK g tt te vs σ Q)) : tLc wi g tt te vs σ H Q := h
section
variable {R : It → Hp → Prop}
def rgK (R : It → Hp → Prop) : List V → Hp → Prop := fun vs H => ∃ j : Int, vs = [.int j] ∧ -(2 ^ 62) ≤ j ∧ j < 2 ^ 62 ∧ R (Itr 0 j.toNat) H
def rgK2 (R : It → Hp → Prop) : List V → Hp → Prop := fun vs H => ∃ i j : Int, vs = [.int i, .int j] ∧ (-(2 ^ 62) ≤ i ∧ i < 2 ^ 62 ∧ -(2 ^ 62) ≤ j ∧ j < 2 ^ 62) ∧ R (Itr i (j - i).toNat) H
theorem i_rng1 {ta : TA} (h : ta σ H (rgK R)) : iRng1 ta σ H R := h
theorem i_rng2 {ta : TA} (h : ta σ H (rgK2 R)) : iRng2 ta σ H R := h
theorem i_rgK {j : Int} (b : -(2 ^ 62) ≤ j ∧ j < 2 ^ 62) (h : R (Itr 0 j.toNat) H) : rgK R [.int j] H := ⟨j, rfl, b.1, b.2, h⟩
theorem i_rgK2 {i j : Int} (b : -(2 ^ 62) ≤ i ∧ i < 2 ^ 62 ∧ -(2 ^ 62) ≤ j ∧ j < 2 ^ 62) (h : R (Itr i (j - i).toNat) H) : rgK2 R [.int i, .int j] H := ⟨i, j, rfl, b, h⟩
def ilK (K : PySem.W.Frag) (R : It → Hp → Prop) : V → Hp → Prop := fun x H1 => ∃ a, x = .ref a ∧ (∃ xs, SqL K H1 a xs) ∧ R (Itl K a) H1
def itK (K : PySem.W.Frag) (R : It → Hp → Prop) : V → Hp → Prop := fun x H1 => ∃ a, x = .ref a ∧ (∃ xs, SqT K H1 a xs) ∧ R (Itt K a) H1
theorem i_ilist {t : TE} (h : t σ H (ilK K R)) : iList K t σ H R := h
theorem i_itup {t : TE} (h : t σ H (itK K R)) : iTup K t σ H R := h
theorem i_ilK {p : Addr} {xs : List V} (e : SqL K H p xs) (h : R (Itl K p) H) : ilK K R (.ref p) H := ⟨p, rfl, ⟨xs, e⟩, h⟩
theorem i_itK {p : Addr} {xs : List V} (e : SqT K H p xs) (h : R (Itt K p) H) : itK K R (.ref p) H := ⟨p, rfl, ⟨xs, e⟩, h⟩
end
section
variable {g : TG} {tb : TS} {a : Addr} {xs : List V}
variable {n : L2.St → Hp → Prop} {r : VK} {b c : L2.St → Hp → Prop}
theorem f_list (xs : List V) (Pv : Nat → L2.St → Hp → Prop) (h0 : Pv 0 σ H) (hl : ∀ i σ H, i ≤ xs.length → Pv i σ H → SqL K H a xs)
    (hs : ∀ i x σ H, xs[i]? = some x → Pv i σ H → g x σ H fun σ2 H2 => tb ⟨Pv (i + 1), r, n, Pv (i + 1)⟩ σ2 H2) (hd : ∀ σ H, Pv xs.length σ H → n σ H) : forK g tb ⟨n, r, b, c⟩ σ (Itl K a) H := for_list Pv h0 hl hs hd
theorem f_tup (xs : List V) (Pv : Nat → L2.St → Hp → Prop) (h0 : Pv 0 σ H) (hl : ∀ i σ H, i ≤ xs.length → Pv i σ H → SqT K H a xs)
    (hs : ∀ i x σ H, xs[i]? = some x → Pv i σ H → g x σ H fun σ2 H2 => tb ⟨Pv (i + 1), r, n, Pv (i + 1)⟩ σ2 H2) (hd : ∀ σ H, Pv xs.length σ H → n σ H) : forK g tb ⟨n, r, b, c⟩ σ (Itt K a) H := for_tup Pv h0 hl hs hd
theorem f_range {lo : Int} {m : Nat} (Pv : Nat → L2.St → Hp → Prop) (h0 : Pv 0 σ H)
    (hs : ∀ i σ H, i < m → Pv i σ H → g (.int (lo + i)) σ H fun σ2 H2 => tb ⟨Pv (i + 1), r, n, Pv (i + 1)⟩ σ2 H2) (hd : ∀ σ H, Pv m σ H → n σ H) : forK g tb ⟨n, r, b, c⟩ σ (Itr lo m) H := for_range Pv h0 hs hd
end
section
variable {g : TG} {tt : TT} {te : TE} {vs : List Nat} {a : Addr}
/-- a comprehension's turn: what is wanted behind the element -/
def lcE (D : Addr) (N : Hp → Prop) : VK := fun y H4 => ∃ acc, H4 D = some (.lst acc) ∧ acc.length < sizeLine ∧ N (upd H4 D (.lst (acc ++ [y])))
theorem c_list (xs : List V) (Pv : Addr → Nat → Hp → Prop) (h0 : ∀ D, H D = none → Pv D 0 (upd H D (.lst []))) (hl : ∀ D i H, i ≤ xs.length → Pv D i H → SqL K H a xs)
    (hs : ∀ D i x H, xs[i]? = some x → Pv D i H → g x (wipe σ vs) H fun σ2 H2 => wipe σ2 vs = wipe σ vs ∧ tt σ2 H2 fun b H3 => if b = true then te σ2 H3 (lcE D (Pv D (i + 1))) else Pv D (i + 1) H3)
    (hd : ∀ D H, Pv D xs.length H → Q (.ref D) H) : lcK g tt te vs σ Q (Itl K a) H := fun D hD => lc_list (Qd := fun H => Q (.ref D) H) (Pv D) (h0 D hD) (hl D) (hs D) (hd D)
theorem c_tup (xs : List V) (Pv : Addr → Nat → Hp → Prop) (h0 : ∀ D, H D = none → Pv D 0 (upd H D (.lst []))) (hl : ∀ D i H, i ≤ xs.length → Pv D i H → SqT K H a xs)
    (hs : ∀ D i x H, xs[i]? = some x → Pv D i H → g x (wipe σ vs) H fun σ2 H2 => wipe σ2 vs = wipe σ vs ∧ tt σ2 H2 fun b H3 => if b = true then te σ2 H3 (lcE D (Pv D (i + 1))) else Pv D (i + 1) H3)
    (hd : ∀ D H, Pv D xs.length H → Q (.ref D) H) : lcK g tt te vs σ Q (Itt K a) H := fun D hD => lc_tup (Qd := fun H => Q (.ref D) H) (Pv D) (h0 D hD) (hl D) (hs D) (hd D)
theorem c_range {lo : Int} {n : Nat} (Pv : Addr → Nat → Hp → Prop) (h0 : ∀ D, H D = none → Pv D 0 (upd H D (.lst [])))
    (hs : ∀ D i H, i < n → Pv D i H → g (.int (lo + i)) (wipe σ vs) H fun σ2 H2 => wipe σ2 vs = wipe σ vs ∧ tt σ2 H2 fun b H3 => if b = true then te σ2 H3 (lcE D (Pv D (i + 1))) else Pv D (i + 1) H3)
    (hd : ∀ D H, Pv D n H → Q (.ref D) H) : lcK g tt te vs σ Q (Itr lo n) H := fun D hD => lc_range (Qd := fun H => Q (.ref D) H) (Pv D) (h0 D hD) (hs D) (hd D)
theorem upd_upd {h : Hp} {a : Addr} {o u : HO} : upd (upd h a o) a u = upd h a u := by
  funext b
  by_cases e : b = a
  · subst e
    rw [upd_same, upd_same]
  · rw [upd_ne e, upd_ne e, upd_ne e]
theorem i_yes {σ : L2.St} {H : Hp} {q : Bool → Hp → Prop} (h : q true H) : tYes σ H q := h
theorem i_wip {σ2 σ1 : L2.St} {vs : List Nat} {A : Prop} (e : wipe σ2 vs = wipe σ1 vs) (h : A) : wipe σ2 vs = wipe σ1 vs ∧ A := ⟨e, h⟩
theorem i_lcE {D : Addr} {N : Hp → Prop} {acc : List V} {y : V} (e : H D = some (.lst acc)) (z : acc.length < sizeLine) (h : N (upd H D (.lst (acc ++ [y])))) : lcE D N y H := ⟨acc, e, z, h⟩
/-- elements that change nothing -/
theorem p_list {v : Nat} (xs : List V) (f : Nat → V) (e : SqL K H a xs) (hz : xs.length ≤ 100000)
    (hs : ∀ D acc i x (N : VK), H D = none → xs[i]? = some x → N (f i) (upd H D (.lst acc)) → te ((wipe σ [v]).set v (some x)) (upd H D (.lst acc)) N)
    (hd : ∀ D, H D = none → Q (.ref D) (upd H D (.lst ((List.range xs.length).map f)))) : lcK (gName v) tYes te [v] σ Q (Itl K a) H := by
  refine c_list xs (fun D i H' => H D = none ∧ H' = upd H D (.lst ((List.range i).map f))) (fun D hD => ⟨hD, rfl⟩) (fun D i H' _ h => ?_) (fun D i x H' hx h => ?_) (fun D H' h => ?_)
  · obtain ⟨hD, rfl⟩ := h
    exact Same.seq (fun b o z => by rw [upd_ne (ne_of_none z hD)]; exact z) e
  · obtain ⟨hD, rfl⟩ := h
    have hi := (List.getElem?_eq_some_iff.mp hx).1
    refine ⟨?_, ?_⟩
    · show List.set (List.set (List.set σ v none) v (some x)) v none = List.set σ v none
      rw [List.set_set, List.set_set]
    · show te _ _ _
      refine hs D _ i x _ hD hx (i_lcE upd_same ?_ ⟨hD, ?_⟩)
      · rw [List.length_map, List.length_range, sizeLine_eq]
        omega
      · rw [upd_upd, List.range_succ, List.map_append]
        rfl
  · obtain ⟨hD, rfl⟩ := h
    exact hd D hD
theorem p_tup {v : Nat} (xs : List V) (f : Nat → V) (e : SqT K H a xs) (hz : xs.length ≤ 100000)
    (hs : ∀ D acc i x (N : VK), H D = none → xs[i]? = some x → N (f i) (upd H D (.lst acc)) → te ((wipe σ [v]).set v (some x)) (upd H D (.lst acc)) N)
    (hd : ∀ D, H D = none → Q (.ref D) (upd H D (.lst ((List.range xs.length).map f)))) : lcK (gName v) tYes te [v] σ Q (Itt K a) H := by
  have ke : ∀ D o, H D = none → SqT K (upd H D o) a xs := by
    intro D o hD
    rcases e with (e | ⟨ob, e⟩) | e
    · exact .inl (.inl (by rw [upd_ne (ne_of_none e hD)]; exact e))
    · exact .inl (.inr ⟨ob, by rw [upd_ne (ne_of_none e hD)]; exact e⟩)
    · exact .inr e
  refine c_tup xs (fun D i H' => H D = none ∧ H' = upd H D (.lst ((List.range i).map f))) (fun D hD => ⟨hD, rfl⟩) (fun D i H' _ h => ?_) (fun D i x H' hx h => ?_) (fun D H' h => ?_)
  · obtain ⟨hD, rfl⟩ := h
    exact ke D _ hD
  · obtain ⟨hD, rfl⟩ := h
    have hi := (List.getElem?_eq_some_iff.mp hx).1
    refine ⟨?_, ?_⟩
    · show List.set (List.set (List.set σ v none) v (some x)) v none = List.set σ v none
      rw [List.set_set, List.set_set]
    · show te _ _ _
      refine hs D _ i x _ hD hx (i_lcE upd_same ?_ ⟨hD, ?_⟩)
      · rw [List.length_map, List.length_range, sizeLine_eq]
        omega
      · rw [upd_upd, List.range_succ, List.map_append]
        rfl
  · obtain ⟨hD, rfl⟩ := h
    exact hd D hD
theorem p_range {v : Nat} {lo : Int} {n : Nat} (f : Nat → V) (hz : n ≤ 100000)
    (hs : ∀ D acc i (N : VK), H D = none → i < n → N (f i) (upd H D (.lst acc)) → te ((wipe σ [v]).set v (some (.int (lo + (i : Nat))))) (upd H D (.lst acc)) N)
    (hd : ∀ D, H D = none → Q (.ref D) (upd H D (.lst ((List.range n).map f)))) : lcK (gName v) tYes te [v] σ Q (Itr lo n) H := by
  refine c_range (fun D i H' => H D = none ∧ H' = upd H D (.lst ((List.range i).map f))) (fun D hD => ⟨hD, rfl⟩) (fun D i H' hi h => ?_) (fun D H' h => ?_)
  · obtain ⟨hD, rfl⟩ := h
    refine ⟨?_, ?_⟩
    · show List.set (List.set (List.set σ v none) v (some _)) v none = List.set σ v none
      rw [List.set_set, List.set_set]
    · show te _ _ _
      refine hs D _ i _ hD hi (i_lcE upd_same ?_ ⟨hD, ?_⟩)
      · rw [List.length_map, List.length_range, sizeLine_eq]
        omega
      · rw [upd_upd, List.range_succ, List.map_append]
        rfl
  · obtain ⟨hD, rfl⟩ := h
    exact hd D hD
end
end
end
section
open L2 PySem PySem.Spec PyProof.Rows
/-- the feed: no more than c draws so far -/
def Fd (H : Hp) (a : Addr) (c : Int) : Prop := ∃ x y n : Int, H a = some (.lst [.int x, .int y, .int n]) ∧ 0 ≤ x ∧ 0 ≤ y ∧ y < 10 ^ 39 + 23 ∧ 0 ≤ n ∧ n ≤ c
/-- all but a stands as it stood -/
def Ch (a : Addr) (H H' : Hp) : Prop := ∀ b o, b ≠ a → H b = some o → H' b = some o
section
variable {a b p q : Addr} {c d : Int} {H H1 H2 H' : Hp} {o : HO} {K : PySem.W.Frag} {xs : List V}
theorem Fd.mono (h : Fd H a c) (z : c ≤ d) : Fd H a d := by
  obtain ⟨x, y, n, h1, h2, h3, h4, h5, h6⟩ := h
  exact ⟨x, y, n, h1, h2, h3, h4, h5, by omega⟩
theorem Fd.ne (h : Fd H a c) (n : H q = none) : q ≠ a := by
  obtain ⟨x, y, m, h1, _⟩ := h
  exact fun z => by rw [z, h1] at n; cases n
theorem Fd.upd (h : Fd H a c) (n : a ≠ q) : Fd (upd H q o) a c := by
  obtain ⟨x, y, m, h1, r⟩ := h
  exact ⟨x, y, m, (upd_ne n).trans h1, r⟩
theorem Ch.refl (H : Hp) : Ch a H H := fun _ _ _ h => h
theorem Ch.trans (h : Ch a H H1) (k : Ch a H1 H2) : Ch a H H2 := fun b o n e => k b o n (h b o n e)
theorem Ch.of_same (h : Same H H') : Ch a H H' := fun b o _ e => h b o e
theorem Ch.upd_new (n : H q = none) : Ch a H (upd H q o) := fun b u _ e => by
  rw [upd_ne (ne_of_none e n)]
  exact e
theorem Ch.upd_self : Ch a H (upd H a o) := fun b u n e => by
  rw [upd_ne n]
  exact e
theorem Ch.upd_l (C : Ch a H H2) (n : H q = none) : Ch a H (upd H2 q o) := fun b u nb e => by
  rw [upd_ne (ne_of_none e n)]
  exact C b u nb e
theorem Ch.upd_n (C : Ch a H H2) (n : H2 q = none) : Ch a H (upd H2 q o) := fun b u nb e => by
  have z := C b u nb e
  rw [upd_ne (ne_of_none z n)]
  exact z
theorem Ch.upd_a (C : Ch a H H2) : Ch a H (upd H2 a o) := fun b u nb e => by
  rw [upd_ne nb]
  exact C b u nb e
theorem i_al {n : Nat} {A : Prop} (z : n ≤ sizeLine) (h : A) : n ≤ sizeLine ∧ A := ⟨z, h⟩
theorem Ch.at (C : Ch a H H') (n : b ≠ a) (e : H b = some o) : H' b = some o := C b o n e
theorem Ch.free (C : Ch a H H') (n : q ≠ a) (e : H' q = none) : H q = none := by
  cases z : H q with
  | none => rfl
  | some o =>
    rw [C q o n z] at e
    cases e
theorem Ch.sqL (C : Ch a H H') (n : p ≠ a) (e : SqL K H p xs) : SqL K H' p xs := by
  rcases e with (e | ⟨o, e⟩) | e
  · exact .inl (.inl (C p _ n e))
  · exact .inl (.inr ⟨o, C p _ n e⟩)
  · exact .inr e
theorem Ch.sqT (C : Ch a H H') (n : p ≠ a) (e : SqT K H p xs) : SqT K H' p xs := by
  rcases e with (e | ⟨o, e⟩) | e
  · exact .inl (.inl (C p _ n e))
  · exact .inl (.inr ⟨o, C p _ n e⟩)
  · exact .inr e
theorem Ch.sqA (C : Ch a H H') (n : p ≠ a) (e : SqA K H p xs) : SqA K H' p xs := by
  rcases e with e | e
  · exact .inl (C.sqL n e)
  · exact .inr (C.sqT n e)
theorem SqA.l (e : SqL K H p xs) : SqA K H p xs := .inl e
theorem SqA.t (e : SqT K H p xs) : SqA K H p xs := .inr e
theorem Same.upd_new (n : H q = none) : Same H (upd H q o) := fun b u e => by
  rw [upd_ne (ne_of_none e n)]
  exact e
theorem sqA_same (C : Same H H') (e : SqA K H p xs) : SqA K H' p xs := by
  rcases e with e | (e | ⟨o, e⟩) | e
  · exact .inl (C.seq e)
  · exact .inr (.inl (.inl (C p _ e)))
  · exact .inr (.inl (.inr ⟨o, C p _ e⟩))
  · exact .inr (.inr e)
end
theorem cube_ok {s : Int} (h0 : 0 ≤ s) (h1 : s < 2 ^ 160) : CMulW s s ∧ CMulW (s * s) s := by
  have a : s.natAbs < 2 ^ 160 := by omega
  exact ⟨wide_mul a a (by decide) (by decide) (by decide), wide_mul (wide_lt a a) a (by decide) (by decide) (by decide)⟩
/-! ### names -/
def nmSign (c : Nat) : Bool := (decide (97 ≤ c) && decide (c ≤ 122)) || (decide (48 ≤ c) && decide (c ≤ 57))
def nmOk (z : Str) : Bool := match z.cps.toList with
  | [] => false
  | c :: r => decide (r.length ≤ 7) && (decide (97 ≤ c) && decide (c ≤ 122)) && r.all nmSign
def IsNames (ns : List Str) : Prop := ns.Nodup ∧ ∀ z ∈ ns, nmOk z = true
theorem IsNames.perm {ns ms : List Str} (h : IsNames ns) (p : ms.Perm ns) : IsNames ms := ⟨p.nodup_iff.mpr h.1, fun z hz => h.2 z (p.mem_iff.mp hz)⟩
theorem IsNames.take {ns : List Str} (h : IsNames ns) (k : Nat) : IsNames (ns.take k) := ⟨h.1.sublist (List.take_sublist _ _), fun z hz => h.2 z (List.mem_of_mem_take hz)⟩
/-! ### promises of what draws -/
def spDraw : Sp := fun vs H Q _ => ∃ (a : Addr) (m c : Int), vs = [.ref a, .int m] ∧ Fd H a c ∧ 0 < m ∧ m < 1000000 ∧ c < 10 ^ 15 ∧ ∀ (r : Int) (H' : Hp), 0 ≤ r → r < m → Fd H' a (c + 1) → Ch a H H' → Q (.int r) H'
def spFeed (K : PySem.W.Frag) : Sp := fun vs H Q _ => ∃ (a : Addr) (ns : List Int) (k : Int), vs = [.ref a, .int k] ∧ SqL K H a (ns.map V.int) ∧ ns.length ≤ 63 ∧ 0 ≤ k ∧ k ≤ 100 ∧ ∀ (q : Addr) (H' : Hp), H q = none → Fd H' q 0 → Same H H' → Q (.ref q) H'
def spOne (K : PySem.W.Frag) : Sp := fun vs H Q _ => ∃ (a p : Addr) (c : Int) (xs : List V), vs = [.ref a, .ref p] ∧ Fd H a c ∧ SqA K H p xs ∧ p ≠ a ∧ 0 < xs.length ∧ xs.length < 1000000 ∧ c < 10 ^ 15 ∧
  ∀ (v : V) (H' : Hp), v ∈ xs → Fd H' a (c + 1) → Ch a H H' → Q v H'
def spMixed (K : PySem.W.Frag) : Sp := fun vs H Q _ => ∃ (a p : Addr) (c : Int) (xs : List V), vs = [.ref a, .ref p] ∧ Fd H a c ∧ SqA K H p xs ∧ p ≠ a ∧ xs.length ≤ 1000 ∧ c < 10 ^ 14 ∧
  ∀ (q : Addr) (ys : List V) (H' : Hp), ys.Perm xs → H q = none → H' q = some (.lst ys) → Fd H' a (c + 1000) → Ch a H H' → Q (.ref q) H'
def spNames : Sp := fun vs H Q _ => ∃ (a : Addr) (m c : Int), vs = [.ref a, .int m] ∧ Fd H a c ∧ 0 ≤ m ∧ m ≤ 12 ∧ c < 10 ^ 14 ∧
  ∀ (q : Addr) (ns : List Str) (H' : Hp), IsNames ns → (ns.length : Int) = m → H q = none → H' q = some (.lst (ns.map V.str)) → Fd H' a (c + 1000) → Ch a H H' → Q (.ref q) H'
end
section
open L2 PySem PySem.Spec PyProof.Rows
/-! ### data of tuples -/
mutual
def tupOnly : PyData → Bool
  | .none | .bool _ | .int _ => true
  | .str _ => true
  | .tuple xs => tupOnlyAll xs
  | .list _ | .dict _ => false
def tupOnlyAll : List PyData → Bool
  | [] => true
  | x :: xs => tupOnly x && tupOnlyAll xs
end
/-- what is a tuple stays one -/
def TK (K : PySem.W.Frag) (H H' : Hp) : Prop := ∀ b xs, SqT K H b xs → SqT K H' b xs
section
variable {K : PySem.W.Frag} {H H1 H2 H' : Hp} {a p q : Addr} {o : HO} {c : Int}
theorem TK.refl (H : Hp) : TK K H H := fun _ _ h => h
theorem TK.trans (h : TK K H H1) (k : TK K H1 H2) : TK K H H2 := fun b xs e => k b xs (h b xs e)
theorem TK.of_at (h : ∀ b xs, H b = some (.tup xs) → H' b = some (.tup xs)) (k : ∀ b ob xs, H b = some (.frz ob (.tup xs)) → H' b = some (.frz ob (.tup xs))) : TK K H H' := fun b xs e => by
  rcases e with (e | ⟨ob, e⟩) | e
  · exact .inl (.inl (h b xs e))
  · exact .inl (.inr ⟨ob, k b ob xs e⟩)
  · exact .inr e
theorem TK.same (h : Same H H') : TK K H H' := TK.of_at (fun b _ e => h b _ e) fun b _ _ e => h b _ e
theorem TK.new (n : H q = none) : TK K H (upd H q o) := TK.same (Same.upd_new n)
theorem TK.lst {xs : List V} (e : H q = some (.lst xs)) : TK K H (upd H q o) := by
  refine TK.of_at (fun b ys z => ?_) fun b ob ys z => ?_
  · rw [upd_ne (fun w => by rw [w, e] at z; cases z)]
    exact z
  · rw [upd_ne (fun w => by rw [w, e] at z; cases z)]
    exact z
theorem TK.ch (h : Ch a H H') (f : Fd H a c) : TK K H H' := by
  obtain ⟨x, y, n, e, _⟩ := f
  refine TK.of_at (fun b ys z => h b _ (fun w => ?_) z) fun b ob ys z => h b _ (fun w => ?_) z
  · rw [w, e] at z; cases z
  · rw [w, e] at z; cases z
theorem TK.new' (t : TK K H H2) (n : H2 q = none) : TK K H (upd H2 q o) := t.trans (TK.new n)
theorem TK.lst' {xs : List V} (t : TK K H H2) (e : H2 q = some (.lst xs)) : TK K H (upd H2 q o) := t.trans (TK.lst e)
theorem TK.ch' (t : TK K H H1) (k : Ch a H1 H2) (f : Fd H1 a c) : TK K H H2 := t.trans (TK.ch k f)
mutual
theorem Dp.tk (h : TK K H H') : ∀ (d : PyData) (v : V), tupOnly d = true → Dp K H v d → Dp K H' v d
  | .none, _, _, e => by cases e; exact .non
  | .bool b, _, _, e => by cases e; exact .bl b
  | .int i, _, _, e => by cases e; exact .int i
  | .str s, _, _, e => by cases e; exact .str s
  | .list _, _, t, _ => by simp [tupOnly] at t
  | .dict _, _, t, _ => by simp [tupOnly] at t
  | .tuple ds, _, t, e => by
    cases e with
    | tup hs ha => exact .tup (h _ _ hs) (DpAll.tk h ds _ (by simpa [tupOnly] using t) ha)
theorem DpAll.tk (h : TK K H H') : ∀ (ds : List PyData) (vs : List V), tupOnlyAll ds = true → DpAll K H vs ds → DpAll K H' vs ds
  | [], _, _, e => by cases e; exact .nil
  | d :: ds, _, t, e => by
    have t' : tupOnly d = true ∧ tupOnlyAll ds = true := by simpa [tupOnlyAll] using t
    cases e with
    | cons e1 e2 => exact .cons (Dp.tk h d _ t'.1 e1) (DpAll.tk h ds _ t'.2 e2)
end
mutual
theorem Dp.same (h : Same H H') : ∀ (d : PyData) (v : V), Dp K H v d → Dp K H' v d
  | .none, _, e => by cases e; exact .non
  | .bool b, _, e => by cases e; exact .bl b
  | .int i, _, e => by cases e; exact .int i
  | .str s, _, e => by cases e; exact .str s
  | .list ds, _, e => by
    cases e with
    | lst hs ha => exact .lst (h.seq hs) (DpAll.same h ds _ ha)
  | .dict _, _, e => by cases e
  | .tuple ds, _, e => by
    cases e with
    | tup hs ha => exact .tup (TK.same h _ _ hs) (DpAll.same h ds _ ha)
theorem DpAll.same (h : Same H H') : ∀ (ds : List PyData) (vs : List V), DpAll K H vs ds → DpAll K H' vs ds
  | [], _, e => by cases e; exact .nil
  | d :: ds, _, e => by
    cases e with
    | cons e1 e2 => exact .cons (Dp.same h d _ e1) (DpAll.same h ds _ e2)
end
theorem DpAll.strs : ∀ (ns : List Str), DpAll K H (ns.map V.str) (ns.map PyData.str)
  | [] => .nil
  | z :: r => .cons (.str z) (DpAll.strs r)
theorem DpAll.app : ∀ {vs us : List V} {ds es : List PyData}, DpAll K H vs ds → DpAll K H us es → DpAll K H (vs ++ us) (ds ++ es)
  | _, _, _, _, .nil, k => k
  | _, _, _, _, .cons h t, k => .cons h (DpAll.app t k)
theorem DpAll.len : ∀ {vs : List V} {ds : List PyData}, DpAll K H vs ds → vs.length = ds.length
  | _, _, .nil => rfl
  | _, _, .cons _ t => congrArg (· + 1) (DpAll.len t)
theorem DpAll.get : ∀ {vs : List V} {ds : List PyData} {i : Nat} {v : V}, DpAll K H vs ds → vs[i]? = some v → ∃ d, ds[i]? = some d ∧ Dp K H v d
  | _, _, 0, _, .cons h _, e => by cases e; exact ⟨_, rfl, h⟩
  | _, _, n + 1, _, .cons _ t, e => DpAll.get (i := n) t (by simpa using e)
theorem DpAll.get' : ∀ {vs : List V} {ds : List PyData} {i : Nat} {d : PyData}, DpAll K H vs ds → ds[i]? = some d → ∃ v, vs[i]? = some v ∧ Dp K H v d
  | _, _, 0, _, .cons h _, e => by cases e; exact ⟨_, rfl, h⟩
  | _, _, n + 1, _, .cons _ t, e => by
    obtain ⟨v, h1, h2⟩ := DpAll.get' (i := n) t (by simpa using e)
    exact ⟨v, by simpa using h1, h2⟩
theorem DpAll.take : ∀ {vs : List V} {ds : List PyData} (k : Nat), DpAll K H vs ds → DpAll K H (vs.take k) (ds.take k)
  | _, _, 0, _ => .nil
  | _, _, k + 1, .nil => .nil
  | _, _, k + 1, .cons h t => .cons h (DpAll.take k t)
theorem DpAll.strs_inv : ∀ {vs : List V} {ns : List Str}, DpAll K H vs (ns.map PyData.str) → vs = ns.map V.str
  | _, [], .nil => rfl
  | _, z :: r, h => by
    cases h with
    | cons h1 h2 =>
      cases h1
      rw [DpAll.strs_inv h2]
      rfl
/-- a permutation of the values is one of the data -/
theorem DpAll.perm {us vs : List V} (pm : us.Perm vs) : ∀ {ds : List PyData}, DpAll K H vs ds → ∃ es, es.Perm ds ∧ DpAll K H us es := by
  induction pm with
  | nil => intro ds h; exact ⟨ds, .refl _, h⟩
  | cons x _ ih =>
    intro ds h
    cases h with
    | cons h1 h2 =>
      obtain ⟨es, p1, p2⟩ := ih h2
      exact ⟨_ :: es, p1.cons _, .cons h1 p2⟩
  | swap x y l =>
    intro ds h
    cases h with
    | cons h1 h2 =>
      cases h2 with
      | cons h2 h3 => exact ⟨_, .swap _ _ _, .cons h2 (.cons h1 h3)⟩
  | trans _ _ ih1 ih2 =>
    intro ds h
    obtain ⟨es, p1, k1⟩ := ih2 h
    obtain ⟨fs, p2, k2⟩ := ih1 k1
    exact ⟨fs, p2.trans p1, k2⟩
end
/-- at L: a list of these data (tuples, texts, numbers) -/
def LsD (K : PySem.W.Frag) (H : Hp) (L : Addr) (ds : List PyData) : Prop := ∃ vs, H L = some (.lst vs) ∧ DpAll K H vs ds ∧ tupOnlyAll ds = true
theorem tupOnlyAll_app : ∀ (ds es : List PyData), tupOnlyAll ds = true → tupOnlyAll es = true → tupOnlyAll (ds ++ es) = true
  | [], _, _, k => k
  | d :: ds, es, h, k => by
    have h' : tupOnly d = true ∧ tupOnlyAll ds = true := by simpa [tupOnlyAll] using h
    show (tupOnly d && tupOnlyAll (ds ++ es)) = true
    rw [h'.1, tupOnlyAll_app ds es h'.2 k]
    rfl
section
variable {K : PySem.W.Frag} {H H1 H2 H' : Hp} {a p q L : Addr} {o : HO} {c : Int} {ds : List PyData} {d : PyData} {vs : List V} {y : V}
theorem LsD.nil (e : H L = some (.lst [])) : LsD K H L [] := ⟨[], e, .nil, rfl⟩
theorem LsD.tk (h : LsD K H L ds) (t : TK K H H') (e : ∀ vs, H L = some (.lst vs) → H' L = some (.lst vs)) : LsD K H' L ds := by
  obtain ⟨vs, h1, h2, h3⟩ := h
  exact ⟨vs, e vs h1, DpAll.tk t _ _ h3 h2, h3⟩
theorem LsD.ch (h : LsD K H L ds) (k : Ch a H H') (f : Fd H a c) (n : L ≠ a) : LsD K H' L ds := h.tk (TK.ch k f) fun _ e => k _ _ n e
theorem LsD.new (h : LsD K H L ds) (n : H q = none) : LsD K (upd H q o) L ds := h.tk (TK.new n) fun _ e => (upd_ne (ne_of_none e n)).trans e
theorem LsD.other {us : List V} (h : LsD K H L ds) (e : H q = some (.lst us)) (n : L ≠ q) : LsD K (upd H q o) L ds := h.tk (TK.lst e) fun _ z => (upd_ne n).trans z
theorem LsD.push (e : H L = some (.lst vs)) (h : DpAll K H vs ds) (t : tupOnlyAll ds = true) (hy : Dp K H y d) (td : tupOnly d = true) : LsD K (upd H L (.lst (vs ++ [y]))) L (ds ++ [d]) :=
  ⟨vs ++ [y], upd_same, DpAll.tk (TK.lst e) _ _ (tupOnlyAll_app _ _ t (by show (tupOnly d && true) = true; rw [td]; rfl)) (DpAll.app h (.cons hy .nil)), tupOnlyAll_app _ _ t (by show (tupOnly d && true) = true; rw [td]; rfl)⟩
theorem LsD.ext {us : List V} {es : List PyData} (e : H L = some (.lst vs)) (h : DpAll K H vs ds) (t : tupOnlyAll ds = true) (h2 : DpAll K H us es) (t2 : tupOnlyAll es = true) : LsD K (upd H L (.lst (vs ++ us))) L (ds ++ es) :=
  ⟨vs ++ us, upd_same, DpAll.tk (TK.lst e) _ _ (tupOnlyAll_app _ _ t t2) (DpAll.app h h2), tupOnlyAll_app _ _ t t2⟩
/-- a new tuple of two scalars pushed -/
theorem LsD.push2 {x z : V} {dx dz : PyData} (e : H L = some (.lst vs)) (h : DpAll K H vs ds) (t : tupOnlyAll ds = true) (n : H p = none) (hx : Dp K H x dx) (hz : Dp K H z dz) (tx : tupOnly dx = true) (tz : tupOnly dz = true) :
    LsD K (upd (upd H p (.tup [x, z])) L (.lst (vs ++ [.ref p]))) L (ds ++ [.tuple [dx, dz]]) := by
  have t1 : TK K H (upd H p (.tup [x, z])) := TK.new n
  refine LsD.push ((upd_ne (ne_of_none e n)).trans e) (DpAll.tk t1 _ _ t h) t (.tup (xs := [x, z]) (.inl (.inl upd_same)) (.cons (Dp.tk t1 _ _ tx hx) (.cons (Dp.tk t1 _ _ tz hz) .nil))) ?_
  show (tupOnly dx && (tupOnly dz && true)) = true
  rw [tx, tz]
  rfl
end
/-! ### in, not in, ==, != of data -/
section
variable {X : Cx}
mutual
/-- data without truths -/
def noB : PyData → Bool
  | .none | .int _ | .str _ => true
  | .tuple xs | .list xs => noBAll xs
  | .bool _ | .dict _ => false
def noBAll : List PyData → Bool
  | [] => true
  | x :: xs => noB x && noBAll xs
end
mutual
theorem eqv_dec : ∀ (d e : PyData), noB d = true → noB e = true → (PyData.eqv d e = true ↔ d = e)
  | .none, e, _, k => by cases e <;> simp_all [PyData.eqv, noB]
  | .bool b, _, h, _ => by simp [noB] at h
  | .int i, e, _, k => by cases e <;> simp_all [PyData.eqv, noB]
  | .str s, e, _, k => by cases e <;> simp_all [PyData.eqv, noB]
  | .dict _, _, h, _ => by simp [noB] at h
  | .list xs, e, h, k => by
    cases e with
    | list ys => simpa [PyData.eqv] using eqvAll_dec xs ys (by simpa [noB] using h) (by simpa [noB] using k)
    | _ => simp_all [PyData.eqv, noB]
  | .tuple xs, e, h, k => by
    cases e with
    | tuple ys => simpa [PyData.eqv] using eqvAll_dec xs ys (by simpa [noB] using h) (by simpa [noB] using k)
    | _ => simp_all [PyData.eqv, noB]
theorem eqvAll_dec : ∀ (ds es : List PyData), noBAll ds = true → noBAll es = true → (PyData.eqvAll ds es = true ↔ ds = es)
  | [], [], _, _ => by simp [PyData.eqvAll]
  | [], _ :: _, _, _ => by simp [PyData.eqvAll]
  | _ :: _, [], _, _ => by simp [PyData.eqvAll]
  | d :: ds, e :: es, h, k => by
    have h' : noB d = true ∧ noBAll ds = true := by simpa [noBAll] using h
    have k' : noB e = true ∧ noBAll es = true := by simpa [noBAll] using k
    have h1 := eqv_dec d e h'.1 k'.1
    have h2 := eqvAll_dec ds es h'.2 k'.2
    simp only [PyData.eqvAll, Bool.and_eq_true, h1, h2, List.cons.injEq]
end
def rInQ (K : PySem.W.Frag) (neg : Bool) : R2 := fun x y H Q => ∃ d ds, Dp K H x d ∧ (Dp K H y (.list ds) ∨ Dp K H y (.tuple ds)) ∧ d.canLay0 = true ∧ PyData.canLayAll0 ds = true ∧ d.depth ≤ 60 ∧ Q (.bl (if neg then !(ds.any fun z => PyData.eqv z d) else ds.any fun z => PyData.eqv z d)) H
theorem o_inQ (hu : X.A.units + 64 < cLine) : OpR X (compareOp .In) (rInQ X.K false) := by
  intro pins s σ H x y v u Q I rx ry h
  obtain ⟨d, ds, hd, he | he, sd, se, hz, q⟩ := h
  · obtain ⟨as, r1⟩ := Dp.reads I d x v hd rx
    obtain ⟨bs, r2⟩ := Dp.reads I (.list ds) y u he ry
    exact SeqAt.in_list_reads r2 r1 se sd (by have := Nat.min_le_right (PyData.depthAll ds) d.depth; omega) ⟨.bl _, H, I, rfl, q⟩
  · obtain ⟨as, r1⟩ := Dp.reads I d x v hd rx
    obtain ⟨bs, r2⟩ := Dp.reads I (.tuple ds) y u he ry
    exact SeqAt.in_tuple_reads r2 r1 se sd (by have := Nat.min_le_right (PyData.depthAll ds) d.depth; omega) ⟨.bl _, H, I, rfl, q⟩
theorem o_notInQ (hu : X.A.units + 64 < cLine) : OpR X (compareOp .NotIn) (rInQ X.K true) := by
  intro pins s σ H x y v u Q I rx ry h
  obtain ⟨d, ds, hd, he | he, sd, se, hz, q⟩ := h
  · obtain ⟨as, r1⟩ := Dp.reads I d x v hd rx
    obtain ⟨bs, r2⟩ := Dp.reads I (.list ds) y u he ry
    exact SeqAt.notIn_list_reads r2 r1 se sd (by have := Nat.min_le_right (PyData.depthAll ds) d.depth; omega) ⟨.bl _, H, I, rfl, q⟩
  · obtain ⟨as, r1⟩ := Dp.reads I d x v hd rx
    obtain ⟨bs, r2⟩ := Dp.reads I (.tuple ds) y u he ry
    exact SeqAt.notIn_tuple_reads r2 r1 se sd (by have := Nat.min_le_right (PyData.depthAll ds) d.depth; omega) ⟨.bl _, H, I, rfl, q⟩
end
end
section
open L2 PySem PySem.Spec PyProof.Rows
/-! ### webs as data -/
def roadD (r : Str × Str) : PyData := .tuple [.str r.1, .str r.2]
def webD (ps : List Str) (rs : List (Str × Str)) : PyData := .tuple [.tuple (ps.map .str), .tuple (rs.map roadD)]
structure IsWeb (ps : List Str) (rs : List (Str × Str)) : Prop where
  names : IsNames ps
  pos : 0 < ps.length
  le8 : ps.length ≤ 8
  le14 : rs.length ≤ 14
  ends : ∀ r ∈ rs, r.1 ∈ ps ∧ r.2 ∈ ps ∧ r.1 ≠ r.2
  uniq : rs.Pairwise fun r s => r ≠ s ∧ r ≠ (s.2, s.1)
section
variable {σ : L2.St} {H : Hp} {Q : VK} {K : PySem.W.Frag}
theorem inV_strs {z : Str} {ns : List Str} : inV (.str z) (ns.map V.str) = decide (z ∈ ns) := by
  unfold inV
  induction ns with
  | nil => rfl
  | cons y r ih =>
    rw [List.map_cons, List.any_cons, ih]
    have e : eqV (V.str y) (V.str z) = decide (z = y) := by
      by_cases h : z = y
      · subst h
        simp [eqV]
      · rw [decide_eq_false h]
        simp [eqV]
        exact fun k => h k.symm
    rw [e]
    by_cases h : z = y
    · subst h
      simp
    · simp [h]
theorem flat_str {ns : List Str} : (ns.map V.str).all flatV = true := by
  induction ns with
  | nil => rfl
  | cons y r ih =>
    rw [List.map_cons, List.all_cons, ih]
    rfl
theorem i_inS {z : Str} {p : Addr} {ns : List Str} (e : SqA K H p (ns.map V.str)) (h : Q (.bl (decide (z ∈ ns))) H) : rIn K false (.str z) (.ref p) H Q :=
  ⟨p, ns.map V.str, rfl, e, rfl, flat_str, by
    rw [inV_strs]
    exact h⟩
theorem i_cut {te : TE} (P : V → Hp → Prop) (main : ∀ Q' : VK, (∀ v H', P v H' → Q' v H') → te σ H Q') (rest : ∀ v H', P v H' → Q v H') : te σ H Q := main Q rest
theorem i_cutS {t : TS} {n : L2.St → Hp → Prop} {r : VK} {b c : L2.St → Hp → Prop} (P : L2.St → Hp → Prop) (main : ∀ N : L2.St → Hp → Prop, (∀ σ' H', P σ' H' → N σ' H') → t ⟨N, r, b, c⟩ σ H) (rest : ∀ σ' H', P σ' H' → n σ' H') : t ⟨n, r, b, c⟩ σ H := main n rest
theorem i_iteB {b : Bool} {A B : Prop} (h1 : b = true → A) (h2 : b = false → B) : if b = true then A else B := by
  cases b
  · exact h2 rfl
  · exact h1 rfl
end
/-- pairs of numbers as data -/
def pairD (p : Nat × Nat) : PyData := .tuple [.int p.1, .int p.2]
theorem pairs_any (pl : List (Nat × Nat)) (p : Nat × Nat) : ((pl.map pairD).any fun z => PyData.eqv z (pairD p)) = decide (p ∈ pl) := by
  induction pl with
  | nil => rfl
  | cons x r ih =>
    rw [List.map_cons, List.any_cons, ih]
    have e : PyData.eqv (pairD x) (pairD p) = decide (p = x) := by
      have h := eqv_dec (pairD x) (pairD p) rfl rfl
      by_cases k : p = x
      · subst k
        rw [decide_eq_true rfl]
        exact h.mpr rfl
      · rw [decide_eq_false k]
        cases q : PyData.eqv (pairD x) (pairD p) with
        | false => rfl
        | true =>
          have z := h.mp q
          simp only [pairD, PyData.tuple.injEq, List.cons.injEq, PyData.int.injEq, and_true] at z
          exact absurd (Prod.ext (Int.ofNat.inj z.1.symm) (Int.ofNat.inj z.2.symm)) k
    rw [e]
    by_cases k : p = x
    · subst k
      simp
    · simp [k]
theorem pairs_lay (pl : List (Nat × Nat)) : PyData.canLayAll0 (pl.map pairD) = true := by
  induction pl with
  | nil => rfl
  | cons x r ih =>
    rw [List.map_cons]
    show ((pairD x).canLay0 && PyData.canLayAll0 (r.map pairD)) = true
    rw [ih]
    rfl
theorem pairs_only (pl : List (Nat × Nat)) : tupOnlyAll (pl.map pairD) = true := by
  induction pl with
  | nil => rfl
  | cons x r ih =>
    rw [List.map_cons]
    show (tupOnly (pairD x) && tupOnlyAll (r.map pairD)) = true
    rw [ih]
    rfl
theorem roads_only (rs : List (Str × Str)) : tupOnlyAll (rs.map roadD) = true := by
  induction rs with
  | nil => rfl
  | cons x r ih =>
    rw [List.map_cons]
    show (tupOnly (roadD x) && tupOnlyAll (r.map roadD)) = true
    rw [ih]
    rfl
theorem strs_only (ns : List Str) : tupOnlyAll (ns.map PyData.str) = true := by
  induction ns with
  | nil => rfl
  | cons x r ih =>
    rw [List.map_cons]
    show (tupOnly (.str x) && tupOnlyAll (r.map PyData.str)) = true
    rw [ih]
    rfl
theorem web_only (ps : List Str) (rs : List (Str × Str)) : tupOnly (webD ps rs) = true := by
  show (tupOnlyAll (ps.map PyData.str) && (tupOnlyAll (rs.map roadD) && true)) = true
  rw [strs_only, roads_only]
  rfl
theorem perm_map_inv {α β : Type} {f : α → β} {es ms : List β} (h : es.Perm ms) : ∀ {l : List α}, ms = l.map f → ∃ l' : List α, l'.Perm l ∧ es = l'.map f := by
  induction h with
  | nil => intro l e; exact ⟨[], by rw [List.map_eq_nil_iff.mp e.symm], rfl⟩
  | cons x _ ih =>
    intro l e
    match l, e with
    | y :: r, e =>
      rw [List.map_cons, List.cons.injEq] at e
      obtain ⟨l', p, q⟩ := ih e.2
      exact ⟨y :: l', p.cons y, by rw [List.map_cons, e.1, q]⟩
  | swap x y k =>
    intro l e
    match l, e with
    | u :: v :: r, e =>
      rw [List.map_cons, List.map_cons, List.cons.injEq, List.cons.injEq] at e
      exact ⟨v :: u :: r, .swap _ _ _, by rw [List.map_cons, List.map_cons, e.1, e.2.1, e.2.2]⟩
    | [_], e => cases e
  | trans _ _ ih1 ih2 =>
    intro l e
    obtain ⟨l1, p1, q1⟩ := ih2 e
    obtain ⟨l2, p2, q2⟩ := ih1 q1
    exact ⟨l2, p2.trans p1, q2⟩
def RoadOf (ns : List Str) (p : Nat × Nat) (r : Str × Str) : Prop := (ns[p.1]? = some r.1 ∧ ns[p.2]? = some r.2) ∨ (ns[p.1]? = some r.2 ∧ ns[p.2]? = some r.1)
theorem nodup_at {α : Type} {l : List α} (h : l.Nodup) {i j : Nat} {x : α} (a : l[i]? = some x) (b : l[j]? = some x) : i = j := by
  obtain ⟨ha, ea⟩ := List.getElem?_eq_some_iff.mp a
  obtain ⟨hb, eb⟩ := List.getElem?_eq_some_iff.mp b
  exact (List.getElem_inj h).mp (ea.trans eb.symm)
theorem web_of {ns ps : List Str} {pl : List (Nat × Nat)} {rs : List (Str × Str)} (hn : IsNames ns) (pm : ps.Perm ns) (h0 : 0 < ns.length) (h8 : ns.length ≤ 8) (nd : pl.Nodup) (lt : ∀ p ∈ pl, p.1 < p.2) (l14 : pl.length ≤ 14) (len : rs.length = pl.length)
    (ro : ∀ (k : Nat) p r, pl[k]? = some p → rs[k]? = some r → RoadOf ns p r) : IsWeb ps rs := by
  have at_ : ∀ {k : Nat} {r : Str × Str}, rs[k]? = some r → ∃ p, pl[k]? = some p ∧ RoadOf ns p r := by
    intro k r h
    have hk : k < pl.length := len ▸ (List.getElem?_eq_some_iff.mp h).1
    exact ⟨pl[k], List.getElem?_eq_getElem hk, ro k _ r (List.getElem?_eq_getElem hk) h⟩
  have mem : ∀ {i : Nat} {z : Str}, ns[i]? = some z → z ∈ ps := fun h => pm.mem_iff.mpr (List.mem_of_getElem? h)
  refine ⟨hn.perm pm, by rw [pm.length_eq]; exact h0, by rw [pm.length_eq]; exact h8, by omega, fun r hr => ?_, ?_⟩
  · obtain ⟨k, hk⟩ := List.getElem?_of_mem hr
    obtain ⟨p, hp, q⟩ := at_ hk
    have hlt := lt p (List.mem_of_getElem? hp)
    have ne : ∀ {i j : Nat} {x y : Str}, ns[i]? = some x → ns[j]? = some y → i ≠ j → x ≠ y := fun a b n e => n (nodup_at hn.1 a (e ▸ b))
    rcases q with ⟨q1, q2⟩ | ⟨q1, q2⟩
    · exact ⟨mem q1, mem q2, ne q1 q2 (by omega)⟩
    · exact ⟨mem q2, mem q1, ne q2 q1 (by omega)⟩
  · rw [(List.pairwise_iff_getElem)]
    intro i j hi hj hij
    obtain ⟨p, hp, q⟩ := at_ (List.getElem?_eq_getElem hi)
    obtain ⟨p', hp', q'⟩ := at_ (List.getElem?_eq_getElem hj)
    have hlt := lt p (List.mem_of_getElem? hp)
    have hlt' := lt p' (List.mem_of_getElem? hp')
    have key : p ≠ p' := fun e => by
      have := nodup_at nd hp (e ▸ hp')
      omega
    have inj : ∀ {a b : Nat} {x : Str}, ns[a]? = some x → ns[b]? = some x → a = b := fun a b => nodup_at hn.1 a b
    have cross : ∀ {x y : Str}, (ns[p.1]? = some x ∧ ns[p.2]? = some y) → (ns[p'.1]? = some x ∧ ns[p'.2]? = some y) → False := fun a b => key (Prod.ext (inj a.1 b.1) (inj a.2 b.2))
    have anti : ∀ {x y : Str}, (ns[p.1]? = some x ∧ ns[p.2]? = some y) → (ns[p'.1]? = some y ∧ ns[p'.2]? = some x) → False := fun a b => by
      have h1 := inj a.1 b.2
      have h2 := inj a.2 b.1
      omega
    constructor
    · intro e
      rw [e] at q
      rcases q with q | q <;> rcases q' with q' | q'
      · exact cross q q'
      · exact anti q q'
      · exact anti q q'
      · exact cross q q'
    · intro e
      rw [e] at q
      rcases q with q | q <;> rcases q' with q' | q'
      · exact anti q q'
      · exact cross q q'
      · exact cross q q'
      · exact anti q q'
/-! ### names by their signs -/
theorem nm_of {z : Str} {c : Nat} {r : List Nat} (e : z.cps.toList = c :: r) (h7 : r.length ≤ 7) (hc : 97 ≤ c ∧ c ≤ 122) (hr : ∀ x ∈ r, nmSign x = true) : nmOk z = true := by
  unfold nmOk
  rw [e]
  simp only [Bool.and_eq_true, decide_eq_true_eq, List.all_eq_true]
  exact ⟨⟨h7, hc⟩, hr⟩
theorem sl_of {c : Nat} (hc : 97 ≤ c ∧ c ≤ 122) : nmSign c = true := by
  unfold nmSign
  simp only [Bool.or_eq_true, Bool.and_eq_true, decide_eq_true_eq]
  exact .inl hc
theorem app_cps (x y : Str) : (x ++ y).cps.toList = x.cps.toList ++ y.cps.toList := by
  show (x.cps ++ y.cps).toList = _
  simp
theorem cut_cps (z : Str) (k : Nat) : (cutS z none (some (k : Int))).cps.toList = z.cps.toList.take k := by
  unfold cutS
  rw [HT.sIx_none, HT.sIx_nat]
  show ((z.cps.toList.drop 0).take (min k z.length - 0)).toArray.toList = _
  have : z.length = z.cps.toList.length := by
    show z.cps.size = _
    simp
  rw [this]
  rw [List.drop_zero, Nat.sub_zero]
  show List.take (min k z.cps.toList.length) z.cps.toList = _
  by_cases h : k ≤ z.cps.toList.length
  · rw [Nat.min_eq_left h]
  · rw [Nat.min_eq_right (by omega), List.take_of_length_le (by omega), List.take_of_length_le (by omega)]
theorem str_ext {x y : Str} (h : x.cps.toList = y.cps.toList) : x = y := by
  obtain ⟨a⟩ := x
  obtain ⟨b⟩ := y
  congr 1
  exact Array.toList_inj.mp h
def abc : Str := "abcdefghijklmnopqrstuvwxyz"
theorem abc_at : ∀ k : Nat, k < 26 → abc.cps[k]? = some (97 + k) := by decide +kernel
/-- a sign of a text -/
def rItS : R2 := fun x y H Q => ∃ (z : Str) (i : Int) (c : Nat), x = .str z ∧ y = .int i ∧ 0 ≤ i ∧ i < 2 ^ 63 ∧ i < z.length ∧ z.cps[i.toNat]? = some c ∧ Q (.str ⟨#[c]⟩) H
theorem pe_its {X : Cx} {e b : Expr} {ta tb : TE} {pos : Pos} (ha : PE X e ta) (hb : PE X b tb) (hs : PlainIxT b) : PE X (.Subscript e b pos) (tOp rItS ta tb) := pe_item_str ha hb hs
theorem i_abc {i : Int} {H : Hp} {Q : VK} (h0 : 0 ≤ i) (h1 : i < 26) (h : Q (.str ⟨#[97 + i.toNat]⟩) H) : rItS (.str abc) (.int i) H Q :=
  ⟨abc, i, 97 + i.toNat, rfl, rfl, h0, by omega, by show i < 26; exact h1, abc_at _ (by omega), h⟩
def NmBy (ns : List Str) (sh : Nat → Str → Prop) : Prop := ∀ (k : Nat) (z : Str), ns[k]? = some z → sh k z
theorem NmBy.nil {sh : Nat → Str → Prop} : NmBy [] sh := fun k z h => by simp at h
theorem NmBy.snoc {ns : List Str} {sh : Nat → Str → Prop} {z : Str} (h : NmBy ns sh) (hz : sh ns.length z) : NmBy (ns ++ [z]) sh := fun k y hy => by
  by_cases hk : k < ns.length
  · rw [List.getElem?_append_left hk] at hy
    exact h k y hy
  · rw [List.getElem?_append_right (by omega)] at hy
    cases e : k - ns.length with
    | succ m => rw [e] at hy; simp at hy
    | zero =>
      rw [e] at hy
      have : z = y := by simpa using hy
      subst this
      have : k = ns.length := by omega
      rw [this]
      exact hz
theorem NmBy.names {ns : List Str} {sh : Nat → Str → Prop} {n : Nat} (h : NmBy ns sh) (hl : ns.length = n) (ok : ∀ k z, k < n → sh k z → nmOk z = true) (inj : ∀ k l z, k < l → l < n → sh k z → sh l z → False) : IsNames ns := by
  refine ⟨?_, fun z hz => ?_⟩
  · rw [List.nodup_iff_pairwise_ne, List.pairwise_iff_getElem]
    intro i j hi hj hij e
    have a := h i _ (List.getElem?_eq_getElem hi)
    have b := h j _ (List.getElem?_eq_getElem hj)
    rw [← e] at b
    exact inj i j _ hij (by omega) a b
  · obtain ⟨k, hk⟩ := List.getElem?_of_mem hz
    have := (List.getElem?_eq_some_iff.mp hk).1
    exact ok k z (by omega) (h k z hk)
def sh1 (s : Nat) (k : Nat) (z : Str) : Prop := ∃ r, z.cps.toList = (97 + (s + 3 * k) % 26) :: r ∧ r.length ≤ 7 ∧ ∀ x ∈ r, nmSign x = true
def sh2 (st : List Nat) (s : Nat) (k : Nat) (z : Str) : Prop := z.cps.toList = st ++ [97 + (s + k) % 26]
def sh3 (s : Nat) (k : Nat) (z : Str) : Prop := z.cps.toList = (97 + s) :: List.replicate k 48
theorem names1 {ns : List Str} {s n : Nat} (h : NmBy ns (sh1 s)) (hl : ns.length = n) (h8 : n ≤ 8) : IsNames ns := by
  refine h.names hl (fun k z hk q => ?_) (fun k l z hkl hln a b => ?_)
  · obtain ⟨r, e, e7, er⟩ := q
    exact nm_of e e7 (by omega) er
  · obtain ⟨r, e, _⟩ := a
    obtain ⟨r', e', _⟩ := b
    rw [e] at e'
    have := (List.cons.inj e').1
    omega
theorem names2 {ns : List Str} {st : List Nat} {s n : Nat} (hst : ∃ c r, st = c :: r ∧ r.length ≤ 6 ∧ (97 ≤ c ∧ c ≤ 122) ∧ ∀ x ∈ r, nmSign x = true) (h : NmBy ns (sh2 st s)) (hl : ns.length = n) (h8 : n ≤ 8) : IsNames ns := by
  obtain ⟨c, r, rfl, h6, hc, hr⟩ := hst
  refine h.names hl (fun k z hk q => ?_) (fun k l z hkl hln a b => ?_)
  · refine nm_of (r := r ++ [97 + (s + k) % 26]) q (by rw [List.length_append]; show r.length + 1 ≤ 7; omega) hc fun x hx => ?_
    rcases List.mem_append.mp hx with hx | hx
    · exact hr x hx
    · rcases List.mem_singleton.mp hx with rfl
      exact sl_of (by omega)
  · have e : (c :: r) ++ [97 + (s + k) % 26] = (c :: r) ++ [97 + (s + l) % 26] := a.symm.trans b
    have := List.append_cancel_left e
    have := (List.cons.inj this).1
    omega
theorem names3 {ns : List Str} {s n : Nat} (hs : s < 26) (h : NmBy ns (sh3 s)) (hl : ns.length = n) (h8 : n ≤ 8) : IsNames ns := by
  refine h.names hl (fun k z hk q => ?_) (fun k l z hkl hln a b => ?_)
  · refine nm_of (r := List.replicate k 48) q (by rw [List.length_replicate]; omega) (by omega) fun x hx => ?_
    rw [(List.mem_replicate.mp hx).2]
    decide
  · have e := a.symm.trans b
    have := congrArg List.length e
    simp at this
    omega
def stOk (l : List Nat) : Bool := match l with
  | [] => false
  | c :: r => decide (r.length ≤ 6) && (decide (97 ≤ c) && decide (c ≤ 122)) && r.all nmSign
theorem stOk_is {l : List Nat} (h : stOk l = true) : ∃ c r, l = c :: r ∧ r.length ≤ 6 ∧ (97 ≤ c ∧ c ≤ 122) ∧ ∀ x ∈ r, nmSign x = true := by
  match l, h with
  | c :: r, h =>
    unfold stOk at h
    simp only [Bool.and_eq_true, decide_eq_true_eq, List.all_eq_true] at h
    exact ⟨c, r, rfl, h.1.1, h.1.2, h.2⟩
theorem stems_ok : ∀ m : Nat, m < 7 → stOk (("q7x0abc" : Str).cps.toList.take (1 + m)) = true := by decide +kernel
theorem tails_ok : ∀ m : Nat, m < 8 → (("z9a0b1c" : Str).cps.toList.take m).all nmSign = true := by decide +kernel
theorem noughts_ok : ∀ m : Nat, m < 8 → ("0000000" : Str).cps.toList.take m = List.replicate m 48 := by decide +kernel
theorem len_add (x y : Str) : x.length + y.length = (x ++ y).cps.toList.length := by
  rw [app_cps, List.length_append]
  show x.cps.size + y.cps.size = _
  simp
theorem one_cps (k : Nat) : (⟨#[k]⟩ : Str).cps.toList = [k] := rfl
theorem name1_cps (s j x : Nat) : ((⟨#[97 + (((s : Int) + 3 * (j : Int)) % 26).toNat]⟩ : Str) ++ cutS "z9a0b1c" none (some (x : Int))).cps.toList = (97 + (s + 3 * j) % 26) :: ("z9a0b1c" : Str).cps.toList.take x := by
  rw [app_cps, cut_cps, one_cps]
  have e : (((s : Int) + 3 * (j : Int)) % 26).toNat = (s + 3 * j) % 26 := by omega
  rw [e]
  rfl
theorem name2_cps (S : Str) (s j : Nat) : (S ++ (⟨#[97 + (((s : Int) + (j : Int)) % 26).toNat]⟩ : Str)).cps.toList = S.cps.toList ++ [97 + (s + j) % 26] := by
  rw [app_cps, one_cps]
  have e : (((s : Int) + (j : Int)) % 26).toNat = (s + j) % 26 := by omega
  rw [e]
theorem name3_cps (s j : Nat) (h : j < 8) : ((⟨#[97 + ((s : Int)).toNat]⟩ : Str) ++ cutS "0000000" none (some (j : Int))).cps.toList = (97 + s) :: List.replicate j 48 := by
  rw [app_cps, cut_cps, one_cps, noughts_ok j h]
  rfl
theorem tail_is {x : Nat} (h : x < 8) : (("z9a0b1c" : Str).cps.toList.take x).length ≤ 7 ∧ ∀ y ∈ ("z9a0b1c" : Str).cps.toList.take x, nmSign y = true :=
  ⟨by rw [List.length_take]; exact Nat.le_trans (Nat.min_le_right _ _) (by decide), List.all_eq_true.mp (tails_ok x h)⟩
def spWeb (K : PySem.W.Frag) : Sp := fun vs H Q _ => ∃ (a : Addr) (way : Str) (most c : Int), vs = [.ref a, .str way, .int most] ∧ Fd H a c ∧ 1 ≤ most ∧ most ≤ 8 ∧ c < 10 ^ 13 ∧
  ∀ (v : V) (ps : List Str) (rs : List (Str × Str)) (H' : Hp), IsWeb ps rs → (ps.length : Int) ≤ max 3 most → Dp K H' v (webD ps rs) → Fd H' a (c + 10000) → Ch a H H' → Q v H'
def spGreatWeb (K : PySem.W.Frag) : Sp := fun vs H Q _ => ∃ (a : Addr) (c : Int), vs = [.ref a] ∧ Fd H a c ∧ c < 10 ^ 13 ∧
  ∀ (v : V) (ps : List Str) (rs : List (Str × Str)) (H' : Hp), IsWeb ps rs → Dp K H' v (webD ps rs) → Fd H' a (c + 10000) → Ch a H H' → Q v H'
end
section
open L2 PySem PySem.Spec PyProof.Rows
/-! ### neighbours as lists of names -/
def isRoad (rs : List (Str × Str)) (x y : Str) : Bool := decide ((x, y) ∈ rs) || decide ((y, x) ∈ rs)
def nearL (ps : List Str) (rs : List (Str × Str)) (x : Str) : List Str := ps.filter fun y => isRoad rs x y
theorem nmOk_str {z : Str} (h : nmOk z = true) : PyData.strOk z = true := by
  unfold nmOk at h
  split at h
  · cases h
  · rename_i c r e
    simp only [Bool.and_eq_true, decide_eq_true_eq, List.all_eq_true] at h
    unfold PyData.strOk
    rw [← Array.all_toList, e, List.all_eq_true]
    intro x hx
    rcases List.mem_cons.mp hx with rfl | hx
    · simp; omega
    · have := h.2 x hx
      unfold nmSign at this
      simp only [Bool.or_eq_true, Bool.and_eq_true, decide_eq_true_eq] at this
      simp; omega
theorem strs_lay {ns : List Str} (h : ∀ z ∈ ns, nmOk z = true) : PyData.canLayAll0 (ns.map PyData.str) = true := by
  induction ns with
  | nil => rfl
  | cons x r ih =>
    show (PyData.canLay0 (.str x) && PyData.canLayAll0 (r.map PyData.str)) = true
    rw [ih fun z hz => h z (List.mem_cons_of_mem _ hz)]
    show (PyData.strOk x && true) = true
    rw [nmOk_str (h x List.mem_cons_self)]
    rfl
theorem road_lay {r : Str × Str} (h1 : nmOk r.1 = true) (h2 : nmOk r.2 = true) : (roadD r).canLay0 = true := by
  show (PyData.strOk r.1 && (PyData.strOk r.2 && true)) = true
  rw [nmOk_str h1, nmOk_str h2]
  rfl
theorem roads_lay {ps : List Str} {rs : List (Str × Str)} (W : IsWeb ps rs) : PyData.canLayAll0 (rs.map roadD) = true := by
  have all : ∀ l : List (Str × Str), (∀ r ∈ l, r ∈ rs) → PyData.canLayAll0 (l.map roadD) = true := by
    intro l
    induction l with
    | nil => intro _; rfl
    | cons x r ih =>
      intro h
      show ((roadD x).canLay0 && PyData.canLayAll0 (r.map roadD)) = true
      have hx := W.ends x (h x List.mem_cons_self)
      rw [ih fun z hz => h z (List.mem_cons_of_mem _ hz), road_lay (W.names.2 _ hx.1) (W.names.2 _ hx.2.1)]
      rfl
  exact all rs fun _ h => h
theorem roads_any (rs : List (Str × Str)) (p : Str × Str) : ((rs.map roadD).any fun z => PyData.eqv z (roadD p)) = decide (p ∈ rs) := by
  induction rs with
  | nil => rfl
  | cons x r ih =>
    rw [List.map_cons, List.any_cons, ih]
    have h := eqv_dec (roadD x) (roadD p) rfl rfl
    have e : PyData.eqv (roadD x) (roadD p) = decide (p = x) := by
      by_cases k : p = x
      · subst k
        rw [decide_eq_true rfl]
        exact h.mpr rfl
      · rw [decide_eq_false k]
        cases q : PyData.eqv (roadD x) (roadD p) with
        | false => rfl
        | true =>
          have z := h.mp q
          simp only [roadD, PyData.tuple.injEq, List.cons.injEq, PyData.str.injEq, and_true] at z
          exact absurd (Prod.ext z.1.symm z.2.symm) k
    rw [e]
    by_cases k : p = x
    · subst k
      simp
    · simp [k]
/-- a web's value taken apart -/
theorem web_parts {K : PySem.W.Frag} {H : Hp} {v : V} {ps : List Str} {rs : List (Str × Str)} (h : Dp K H v (webD ps rs)) : ∃ (t tp tr : Addr) (xs : List V), v = .ref t ∧ SqT K H t [.ref tp, .ref tr] ∧ SqT K H tp (ps.map V.str) ∧ SqT K H tr xs ∧ DpAll K H xs (rs.map roadD) ∧
    Dp K H (.ref tr) (.tuple (rs.map roadD)) ∧ Dp K H (.ref tp) (.tuple (ps.map .str)) := by
  unfold webD at h
  cases h with
  | tup hs ha =>
    cases ha with
    | cons g1 g2 =>
      cases g2 with
      | cons g3 g4 =>
        cases g4
        have g1' := g1
        have g3' := g3
        cases g1 with
        | tup s1 a1 =>
          cases g3 with
          | tup s3 a3 =>
            have e := DpAll.strs_inv a1
            subst e
            exact ⟨_, _, _, _, rfl, hs, s1, s3, a3, g3', g1'⟩
def spNear (K : PySem.W.Frag) : Sp := fun vs H Q _ => ∃ (v : V) (x : Str) (ps : List Str) (rs : List (Str × Str)), vs = [v, .str x] ∧ Dp K H v (webD ps rs) ∧ IsWeb ps rs ∧ x ∈ ps ∧
  ∀ (p : Addr) (H' : Hp), H p = none → Same H H' → H' p = some (.lst ((nearL ps rs x).map V.str)) → Q (.ref p) H'
section
variable {σ : L2.St} {H : Hp} {Q : VK} {K : PySem.W.Frag}
def lrgK (Q : VK) : VK := fun x H1 => ∃ n, x = .int n ∧ (RgOk 0 n ∧ ∀ q, H1 q = none → Q (.ref q) (upd H1 q (.lst (rgV 0 n))))
theorem i_lrg {ta : TE} (h : ta σ H (lrgK Q)) : tLstRg (tRg1 ta) σ H Q := h
theorem i_lrgK {n : Nat} (z : n ≤ 100000) (h : ∀ q, H q = none → Q (.ref q) (upd H q (.lst ((List.range n).map fun i => V.int ((i : Nat) : Int))))) : lrgK Q (.int (n : Int)) H := by
  refine ⟨n, rfl, RgOk.of_le (by omega) (by omega) (by omega) (by omega), fun q nq => ?_⟩
  have e : rgV 0 (n : Int) = (List.range n).map fun i => V.int ((i : Nat) : Int) := by
    unfold rgV
    rw [show ((n : Int) - 0).toNat = n by omega]
    refine List.map_congr_left fun i _ => ?_
    rw [Int.zero_add]
  rw [e]
  exact h q nq
theorem nil_eqv (ns : List Str) : PyData.eqv (.list (ns.map PyData.str)) (.list []) = ns.isEmpty := by
  cases ns <;> rfl
theorem strs_shaped {ns : List Str} (h : ∀ z ∈ ns, nmOk z = true) : SeqAt.shaped (.list (ns.map PyData.str)) = true := by
  have hd : PyData.depth (.list (ns.map PyData.str)) ≤ 64 := by
    show PyData.depthAll (ns.map PyData.str) + 1 ≤ 64
    have : PyData.depthAll (ns.map PyData.str) = 0 := by
      clear h
      induction ns with
      | nil => rfl
      | cons x r ih =>
        show max 0 (PyData.depthAll (r.map PyData.str)) = 0
        rw [ih]
        rfl
    omega
  show (PyData.canLayAll0 (ns.map PyData.str) && decide (PyData.depth (.list (ns.map PyData.str)) ≤ 64)) = true
  rw [strs_lay h, decide_eq_true hd]
  rfl
theorem i_eqNil {p q : Addr} {ns : List Str} (e : SqL K H p (ns.map V.str)) (e2 : SqL K H q []) (ok : ∀ z ∈ ns, nmOk z = true) (h : Q (.bl ns.isEmpty) H) : rEqD K (.ref p) (.ref q) H Q :=
  ⟨.list (ns.map .str), .list [], .lst e (DpAll.strs ns), .lst e2 .nil, strs_shaped ok, by decide, by rw [nil_eqv]; exact h⟩
theorem i_neNil {p q : Addr} {ns : List Str} (e : SqL K H p (ns.map V.str)) (e2 : SqL K H q []) (ok : ∀ z ∈ ns, nmOk z = true) (h : Q (.bl (!ns.isEmpty)) H) : rNeD K (.ref p) (.ref q) H Q :=
  ⟨.list (ns.map .str), .list [], .lst e (DpAll.strs ns), .lst e2 .nil, strs_shaped ok, by decide, by rw [nil_eqv]; exact h⟩
end
/-! ### rules as data -/
def intsD (t : List Nat) : PyData := .tuple (t.map fun n => .int ((n : Nat) : Int))
inductive RuleD (k : Nat) (near : List Str) : PyData → Prop
  | table (t : List Nat) (hl : t.length = k ^ (near.length + 1)) (hk : ∀ x ∈ t, x < k) : RuleD k near (.tuple [.str "table", intsD t])
  | sum (ts : List (List Nat)) (hl : ts.length = k) (hk : ∀ t ∈ ts, t.length = near.length * (k - 1) + 1 ∧ ∀ x ∈ t, x < k) : RuleD k near (.tuple [.str "sum", .tuple (ts.map intsD)])
  | keep : RuleD k near (.tuple [.str "keep"])
  | least : RuleD k near (.tuple [.str "least"])
  | greatest : RuleD k near (.tuple [.str "greatest"])
  | odd : RuleD k near (.tuple [.str "odd"])
  | most (n : Nat) (h : n ≤ 9) : RuleD k near (.tuple [.str "most", .int n])
  | copy (z : Str) (h : z ∈ near) : RuleD k near (.tuple [.str "copy", .str z])
theorem ints_only (t : List Nat) : tupOnlyAll (t.map fun n => PyData.int ((n : Nat) : Int)) = true := by
  induction t with
  | nil => rfl
  | cons x r ih =>
    show (true && tupOnlyAll (r.map fun n => PyData.int ((n : Nat) : Int))) = true
    rw [ih]
    rfl
theorem intss_only (ts : List (List Nat)) : tupOnlyAll (ts.map intsD) = true := by
  induction ts with
  | nil => rfl
  | cons x r ih =>
    show (tupOnlyAll (x.map fun n => PyData.int ((n : Nat) : Int)) && tupOnlyAll (r.map intsD)) = true
    rw [ih, ints_only]
    rfl
theorem rule_only {k : Nat} {near : List Str} {d : PyData} (h : RuleD k near d) : tupOnly d = true := by
  cases h with
  | table t _ _ =>
    show (tupOnlyAll (t.map fun n => PyData.int ((n : Nat) : Int)) && true) = true
    rw [ints_only]
    rfl
  | sum ts _ _ =>
    show (tupOnlyAll (ts.map intsD) && true) = true
    rw [intss_only]
    rfl
  | _ => rfl
theorem ints_dp {K : PySem.W.Frag} {H : Hp} : ∀ t : List Nat, DpAll K H (t.map fun n => V.int ((n : Nat) : Int)) (t.map fun n => PyData.int ((n : Nat) : Int))
  | [] => .nil
  | x :: r => .cons (.int x) (ints_dp r)
def spRule (K : PySem.W.Frag) : Sp := fun vs H Q _ => ∃ (a p : Addr) (k : Nat) (near : List Str) (sort : Str) (c : Int), vs = [.ref a, .int k, .ref p, .str sort] ∧ Fd H a c ∧ (k = 2 ∨ k = 3) ∧ H p = some (.lst (near.map V.str)) ∧ p ≠ a ∧ near.length ≤ 7 ∧ (∀ z ∈ near, nmOk z = true) ∧ c < 10 ^ 12 ∧
  ∀ (v : V) (d : PyData) (H' : Hp), RuleD k near d → Dp K H' v d → Fd H' a (c + 10000000) → Ch a H H' → Q v H'
end
section
open L2 PySem PySem.Spec PyProof.Rows
/-! ### the rules that name the written part, by its own letter -/
section
variable {X : Cx} {K : PySem.W.Frag}
theorem k_tuple (hK : X.K = K := by rfl) : CallR X (.type "tuple") (rTupleOf K) := by subst hK; exact j_tuple
theorem k_list (hK : X.K = K := by rfl) : CallR X (.type "list") (rListOf K) := by subst hK; exact j_list
theorem k_len (hK : X.K = K := by rfl) : CallR X (.builtin "len") (rLenQ K) := by subst hK; exact j_len
theorem k_all (hc : X.calm = true) (hK : X.K = K := by rfl) : CallR X (.builtin "all") (rAll K) := by subst hK; exact cr_all hc
theorem k_any (hc : X.calm = true) (hK : X.K = K := by rfl) : CallR X (.builtin "any") (rAny K) := by subst hK; exact cr_any hc
theorem k_sum (hc : X.calm = true) (hK : X.K = K := by rfl) : CallR X (.builtin "sum") (rSum K) := by subst hK; exact cr_sum hc
theorem k_isi (hK : X.K = K := by rfl) : CallR X (.builtin "isinstance") (rIsi K) := by subst hK; exact call_isi
theorem k_show (hg : X.A.guards = some []) (hu : X.A.units + 64 < cLine) (hK : X.K = K := by rfl) : CallR X (.builtin "repr") (rShow K) := by subst hK; exact call_show hg hu
theorem k_ixL (hK : X.K = K := by rfl) : IxR X (rIxL K) := by subst hK; exact ix_list
theorem k_ixT (hK : X.K = K := by rfl) : IxR X (rIxT K) := by subst hK; exact ix_tup
theorem k_ixA (hK : X.K = K := by rfl) : IxR X (rIxA K) := by subst hK; exact ix_any
theorem k_slL (hK : X.K = K := by rfl) : SlR X (rSlL K) := by subst hK; exact sl_list
theorem ksl_tup (hK : X.K = K := by rfl) : SlR X (rSlA K) := by subst hK; exact sl_tupA
theorem k_inS (hK : X.K = K := by rfl) : OpR X (compareOp .In) (rIn K false) := by subst hK; exact op_in_seq
theorem k_inQ (hu : X.A.units + 64 < cLine) (hK : X.K = K := by rfl) : OpR X (compareOp .In) (rInQ K false) := by subst hK; exact o_inQ hu
theorem k_notInQ (hu : X.A.units + 64 < cLine) (hK : X.K = K := by rfl) : OpR X (compareOp .NotIn) (rInQ K true) := by subst hK; exact o_notInQ hu
theorem k_eqD (hu : X.A.units + 64 < cLine) (hK : X.K = K := by rfl) : OpR X (compareOp .Eq) (rEqD K) := by subst hK; exact op_eqD hu
theorem k_neD (hu : X.A.units + 64 < cLine) (hK : X.K = K := by rfl) : OpR X (compareOp .NotEq) (rNeD K) := by subst hK; exact op_neD hu
variable {e : Expr} {es : List Expr} {t : TE} {tg : Expr} {to : TE} {ta : TA} {name : Str} {apos cpos pos : Pos} {T id : String} {r : V → List V → Hp → VK → Prop} {o : Expr}
theorem kpi_list (h : PE X e t) (hK : X.K = K := by rfl) : PI X tg e (iList K t) := by subst hK; exact pi_list h
theorem kpi_tup (h : PE X e t) (hK : X.K = K := by rfl) : PI X tg e (iTup K t) := by subst hK; exact pi_tup h
theorem kpg_tup {k n : Nat} {u : TGs} (hc : X.calm = true) (h : PGs X es u) (hK : X.K = K := by rfl) (h1 : (assignEach es X.env).length = n := by rfl) (h2 : List.findIdx? (fun x => x.fst) (assignEach es X.env) = none := by rfl) : PG X (.Tuple es k pos) (gTup K n u) := by subst hK; exact pg_tup hc h h1 h2
end
end
section
open PySem PySem.W PySem.Calls PyProof.Rows PySem.HandSPX Builtin Builtin.ObjectAttr
/-! ### an own exception class with its own __init__, called with keywords -/
section
variable {M : Model} {A : Around} {E : Value → Shared → Prop} {h : Heap} {g : Array GenState} {d : Drawn} {t : Nat} {os : OsState}
variable {nm q : Str} {C N : Addr} {bs bm bmB : List Value} {hdct : Bool} {sn : List Str} {sub : List Value} {ab : Bool} {col : Option Bool} {dd : Option Addr} {k0 k1 k2 k3 k5 : Option Value} {B newId initId : String}
theorem chk_newK (F : ExcBaseFacts B newId initId bmB) (hT : ∀ y : String, bm.contains (.type y) = bmB.contains (.type y)) {rest : List Value} {kw : List (Str × Value)} {Q : Unit → Shared → Prop}
    (hcl : h.get? C = some (excClassObj nm q C N bs bm hdct sn sub ab col dd k0 k1 k2 k3 k5 newId)) (hq : Q () ⟨h, g, d, t, os⟩)
    (hk : Bind.checkArgs newId ⟨.any, B, B, .cls, [⟨"args", .varPos, false⟩, ⟨"kwargs", .varKw, false⟩]⟩ ⟨.ref C :: rest, kw⟩ = pure ()) : wpAny M A (checkBuiltinCall newId ⟨.ref C :: rest, kw⟩) Q E ⟨h, g, d, t, os⟩ := by
  have hb : (Value.ref C :: bm).contains (.type B) = true := by rw [List.contains_cons, hT, F.hasB, Bool.or_true]
  simp only [checkBuiltinCall, F.newKind, F.newSplit, F.newRow, hk]
  repeat (first | refine wpAny_loadPart_at hcl ?_ | (refine wpAny_isSubtype_exc hcl ?_; rw [hb]) | refine wpAny_staticBase_exc hcl ?_ | refine wpAny_madeBy_exc hcl ?_ | simp only [bne_self_eq_false, Bool.false_eq_true, if_false] | wp_step)
  exact hq
theorem chk_tyK {rest : List Value} {kw : List (Str × Value)} {Q : Unit → Shared → Prop} (hcl : h.get? C = some (excClassObj nm q C N bs bm hdct sn sub ab col dd k0 k1 k2 k3 k5 newId))
    (hq : Q () ⟨h, g, d, t, os⟩) : wpAny M A (checkBuiltinCall "type.__call__" ⟨.ref C :: rest, kw⟩) Q E ⟨h, g, d, t, os⟩ := by
  have f3 := tc_sub
  have hty : (⟨h, g, d, t, os⟩ : Shared).TypeIs (.ref C) "type" := ⟨_, hcl, rfl⟩
  simp only [checkBuiltinCall, tc_kind, tc_split]
  repeat (any_goals (first | assumption | with_reducible refine wpAny_loadPart_at hcl ?_ | with_reducible refine wpAny_onRaise ?_ | with_reducible refine wpAny_map ?_ | wp_step))
end
section
variable {prog : Program} {w : World} {A : Around} {E : Value → Shared → Prop} {R : Result → Shared → Prop} {h : Heap} {g : Array GenState} {d : Drawn} {t : Nat} {os : OsState}
variable {nm q : Str} {C N : Addr} {bs bm bmB : List Value} {hdct : Bool} {sn : List Str} {sub : List Value} {ab : Bool} {col : Option Bool} {dd : Option Addr} {k0 k1 k2 k3 k5 : Option Value} {B newId initId : String}
theorem newK (F : ExcBaseFacts B newId initId bmB) (hT : ∀ y : String, bm.contains (.type y) = bmB.contains (.type y)) {rest : List Value} {kw : List (Str × Value)}
    (hcl : h.get? C = some (excClassObj nm q C N bs bm hdct sn sub ab col dd k0 k1 k2 k3 k5 newId))
    (hq : R (.ok (.ret (.ref (h.objs.size + 1)))) ⟨(h.push (W.kdv_tup rest)).push (excO C h.objs.size), g, d, t, os⟩) (hz : rest.length ≤ sizeLine) :
    codeAny (model prog w) A (.builtin newId ⟨.ref C :: rest, kw⟩) R ⟨h, g, d, t, os⟩ := by
  have e1 : (Value.ref C :: bm).contains (.type B) = true := by rw [List.contains_cons, hT, F.hasB, Bool.or_true]
  have e2 : (Value.ref C :: bm).contains (.type "AttributeError") = false := by rw [List.contains_cons, hT, F.noAttr]; rfl
  have e3 : (Value.ref C :: bm).contains (.type "NameError") = false := by rw [List.contains_cons, hT, F.noName]; rfl
  have e4 := F.ends
  refine codeAny_builtinAt F.entry ?_
  unfold PySem.Builtin.«BaseException.__new__»
  refine PySem.wpAt_bind ?_
  show PySem.wpAt _ _ _ (stack >>= _) _ _ _
  refine PySem.wpAt_bind (PySem.wpAt_stack fun p below => PySem.wpAt_of_wpAny ?_)
  wp_walk
  refine PySem.wpAt_of_wpAny ?_
  rw [F.owner]
  repeat (first | with_reducible refine wpAny_madeHere_exc F.canon hcl ?_ | with_reducible refine wpAny_loadPart_at hcl ?_ | (with_reducible refine wpAny_isSubtype_exc hcl ?_; first | rw [e1] | rw [e2] | rw [e3]) | wp_step)
  show R _ _
  rw [Heap.size_push]
  exact hq
theorem ty_callK (F : ExcBaseFacts B newId initId bmB) (hT : ∀ y : String, bm.contains (.type y) = bmB.contains (.type y)) {rest : List Value} {kw : List (Str × Value)} {fI : Addr} {Q : Fin → Shared → Prop}
    (hcl : h.get? C = some (excClassObj nm q C N bs bm hdct sn sub ab col dd k0 k1 k2 k3 k5 newId))
    (hk : Bind.checkArgs newId ⟨.any, B, B, .cls, [⟨"args", .varPos, false⟩, ⟨"kwargs", .varKw, false⟩]⟩ ⟨.ref C :: rest, kw⟩ = pure ())
    (hi : W.Looks (model prog w) h (typeLookup (.ref C) "__init__") (some (.ref fI))) (hb : ∀ self, W.Looks (model prog w) h (bindSpecial (.ref fI) self) (.ref fI, [self])) (hz : rest.length ≤ sizeLine)
    (hq : codeAny (model prog w) A (.call (.ref fI) ⟨.ref (h.objs.size + 1) :: rest, kw⟩)
      (fun r s' => match r with | .ok (.ret v) => v = .none ∧ Q (.done (.ret (.ref (h.objs.size + 1)))) s' | .ok _ => False | .error e => E e s')
      ⟨(h.push (W.kdv_tup rest)).push (excO C h.objs.size), g, d, t, os⟩) :
    wpAny (model prog w) A (Builtin.«type.__call__» ⟨.ref C :: rest, kw⟩) Q E ⟨h, g, d, t, os⟩ := by
  repeat (first | with_reducible refine wpAny_loadPart_at hcl ?_ | with_reducible refine wpAny_madeBy_exc hcl ?_ | wp_step)
  refine codeAny_call_builtin_code (Code.quiet_builtin _ F.quiet) (chk_newK F hT hcl ?_ hk)
  refine newK F hT hcl ?_ hz
  show wpAny _ _ _ _ _ _
  have k : ∀ b o, h.get? b = some o → ((h.push (W.kdv_tup rest)).push (excO C h.objs.size)).get? b = some o := fun b o e => Heap.get?_push_of_some _ (Heap.get?_push_of_some _ e)
  have c2 := k _ _ hcl
  have hget : ((h.push (W.kdv_tup rest)).push (excO C h.objs.size)).get? (h.objs.size + 1) = some (excO C h.objs.size) := by heap_get
  have own : (Value.ref C :: bm).contains (.ref C) = true := by simp
  have i1 := hi.keeps k
  have b1 := (hb (.ref (h.objs.size + 1))).keeps k
  unfold isInstance
  repeat (first | with_reducible refine wpAny_loadPart_at hget ?_ | (with_reducible refine wpAny_isSubtype_exc c2 ?_; rw [own]) | wp_step)
  show wpAny _ _ (typeLookup (.ref C) _) _ _ _
  refine i1.at ?_
  refine wpAny_holding (wpAny_bind (b1.at ?_))
  refine wpAny_bind (wpAny_call (codeAny_mono hq fun r s' z => ?_))
  rcases r with e | (v | _ | _ | _) <;> first | exact z | exact z.elim | skip
  obtain ⟨rfl, z⟩ := z
  first
    | exact wpAny_pure (wpAny_pure z)
    | (wp_walk; exact z)
theorem call_ownK (F : ExcBaseFacts B newId initId bmB) (hT : ∀ y : String, bm.contains (.type y) = bmB.contains (.type y)) {rest : List Value} {kw : List (Str × Value)} {fI : Addr}
    (hcl : h.get? C = some (excClassObj nm q C N bs bm hdct sn sub ab col dd k0 k1 k2 k3 k5 newId))
    (hk : Bind.checkArgs newId ⟨.any, B, B, .cls, [⟨"args", .varPos, false⟩, ⟨"kwargs", .varKw, false⟩]⟩ ⟨.ref C :: rest, kw⟩ = pure ())
    (hi : W.Looks (model prog w) h (typeLookup (.ref C) "__init__") (some (.ref fI))) (hb : ∀ self, W.Looks (model prog w) h (bindSpecial (.ref fI) self) (.ref fI, [self])) (hz : rest.length ≤ sizeLine)
    (hq : codeAny (model prog w) (A.under (.builtin "type.__call__" ⟨.ref C :: rest, kw⟩)) (.call (.ref fI) ⟨.ref (h.objs.size + 1) :: rest, kw⟩) (W.InitBack (h.objs.size + 1) R)
      ⟨(h.push (W.kdv_tup rest)).push (excO C h.objs.size), g, d, t, os⟩) :
    codeAny (model prog w) A (.call (.ref C) ⟨rest, kw⟩) R ⟨h, g, d, t, os⟩ := by
  have f1 := tc_lookup
  have f2 := tc_bind (.ref C)
  have hty : (⟨h, g, d, t, os⟩ : Shared).TypeIs (.ref C) "type" := ⟨_, hcl, rfl⟩
  refine codeAny_of_tree ?_
  show wpAny _ _ (callAny (.ref C) _) _ _ _
  repeat (any_goals (first | assumption | with_reducible refine wpAny_loadPart_at hcl ?_ | wp_step))
  refine ⟨rfl, ?_⟩
  refine codeAny_call_builtin_at (Code.quiet_builtin _ (by decide +kernel)) entry_typeCall (chk_tyK hcl (ty_callK F hT hcl hk hi hb hz ?_))
  refine codeAny_mono hq fun r s' z => ?_
  rcases r with e | (v | _ | _ | _) <;> exact z
end
end
section
open L2 PySem PySem.Spec PyProof.Rows
/-! ### exceptions as values -/
/-- what is asked of an own class of exceptions -/
structure XcC (K : PySem.W.Frag) (C : Addr) : Prop where
  hg : PySem.W.findIn K (.ref C) "__getattribute__" = some (some (.builtin "BaseException.__getattribute__"))
  hk : PySem.W.findIn K (.ref C) "__getattr__" = some none
  hs : PySem.W.subIn K (.ref C) (.type "BaseException") = some true
  hd : (PySem.W.hasDictIn K C) = true
  ha : PySem.W.findIn K (.ref C) "__class__" = some (some (.builtin "object.__class__"))
  hn : PySem.W.specialIn K (.builtin "object.__class__") "__get__" = some (some (.builtin "getset_descriptor.__get__"))
  ht : PySem.W.takesIn K (.builtin "object.__class__") = some true
  hm : PySem.W.mroIn K C (.type "object") = some true
theorem XcC.cl {K : PySem.W.Frag} {C : Addr} (h : XcC K C) : (PySem.W.clsIn K C).isSome = true := by
  have z := h.hd
  unfold PySem.W.hasDictIn at z
  cases e : PySem.W.clsIn K C with
  | none =>
    rw [e] at z
    cases z
  | some _ => rfl
theorem XcC.xf {K : PySem.W.Frag} {C : Addr} (h : XcC K C) : XfC K C := ⟨h.hg, h.hk, h.hs, h.hd⟩
/-- an exception of the class D stands at a -/
def ExAt (K : PySem.W.Frag) (H : Hp) (a : Addr) (D : Value) : Prop :=
  (∃ C, D = .ref C ∧ XcC K C ∧ (H a = some (ExO (.ref C) a) ∨ ∃ d fs, H a = some (exo a C (some d)) ∧ H d = some (exd d fs))) ∨ (D = .type "ValueError" ∧ H a = some (ExO (.type "ValueError") a))
theorem ExAt.same {K : PySem.W.Frag} {H H' : Hp} {a : Addr} {D : Value} (k : Same H H') (h : ExAt K H a D) : ExAt K H' a D := by
  rcases h with ⟨C, e, c, h | ⟨d, fs, h1, h2⟩⟩ | ⟨e, h⟩
  · exact .inl ⟨C, e, c, .inl (k _ _ h)⟩
  · exact .inl ⟨C, e, c, .inr ⟨d, fs, k _ _ h1, k _ _ h2⟩⟩
  · exact .inr ⟨e, k _ _ h⟩
def rIsX (K : PySem.W.Frag) : List V → Hp → VK → Prop := fun xs H Q => ∃ (a : Addr) (D : Value) (c : V) (cv : Value) (b : Bool), xs = [.ref a, c] ∧ (∀ u, RelV c u → u = cv) ∧ ExAt K H a D ∧ PySem.W.kitOne K D cv = some b ∧ Q (.bl b) H
theorem call_isX {X : Cx} : CallR X (.builtin "isinstance") (rIsX X.K) := by
  intro pins s σ H xs us Q I r h
  obtain ⟨a, D, c, cv, b, rfl, hcv, hx, e, q⟩ := h
  match us, r with
  | [u1, u2], .cons r1 (.cons r2 .nil) =>
    obtain rfl : u1 = Value.ref a := r1
    have e2 := hcv _ r2
    subst e2
    have fin : ∀ {C : Addr} {oe : Obj} {od : Option Obj}, XcC X.K C → D = .ref C → PySem.W.InstAt s.heap a oe C od → wpAny (model X.prog X.w) X.A (call (.builtin "isinstance") [.ref a, u2]) (EP X pins σ Q) X.xe s := by
      intro C oe od hc eD J
      subst eD
      exact PySem.W.kia_one (PySem.W.kitx_exc hc.cl hc.hg hc.hk hc.hs hc.ha hc.hn hc.ht hc.hm) I.kIn J e (fun z => nomatch z) fun tk => ⟨.bl b, H, I.kept (t' := tk) fun _ _ z => z, rfl, q⟩
    rcases hx with ⟨C, eD, hc, hx | ⟨d, fs, hx, hd⟩⟩ | ⟨eD, hx⟩
    · obtain ⟨⟨oe, vs, ho, hz, hv, _⟩, _, _⟩ := I.hok a _ hx
      exact fin (od := none) hc eD ⟨ho, hz.1, by unfold PySem.W.notCls; rw [hv] <;> rfl, by rw [hz.2]; trivial⟩
    · obtain ⟨t1, ho⟩ := exo_at I.hok hx
      obtain ⟨mA, hns, hr⟩ := exd_at I.hok hd
      obtain ⟨od, hod, _⟩ := lookIn_ns hns
      exact fin (od := some od) hc eD ⟨ho, rfl, rfl, hod⟩
    · subst eD
      obtain ⟨⟨oe, vs, ho, hz, hv, _⟩, _, _⟩ := I.hok a _ hx
      exact PySem.W.kia_one (PySem.W.kitx_bexc (T := "ValueError") PySem.F.excAttr_ValueError PySem.F.lkClass_ValueError PySem.F.soClass_ValueError (by decide +kernel)) I.kIn ⟨oe, ho, hz.1⟩ e (fun z => nomatch z) fun tk => ⟨.bl b, H, I.kept (t' := tk) fun _ _ z => z, rfl, q⟩
/-- isinstance of the exception that a suite holds, with a dict of its own -/
def rIsS (K : PySem.W.Frag) (D a : Addr) (d : Option Addr) : List V → Hp → VK → Prop := fun xs H Q => ∃ (c : V) (cv : Value) (b : Bool), xs = [.ref a, c] ∧ (∀ u, RelV c u → u = cv) ∧ (∃ dd fs, d = some dd ∧ H dd = some (.xd fs)) ∧ PySem.W.kitOne K (.ref D) cv = some b ∧ Q (.bl b) H
theorem call_isS {X : Cx} {a D : Addr} {oe : Obj} {d : Option Addr} {pn : List (Addr × Obj)} (hc : XcC X.K D) (hz : Zc (.ref D) d oe) (hf : ∃ vs, oe.data = .fields vs) : CallR (X.suite a ((a, oe) :: pn)) (.builtin "isinstance") (rIsS X.K D a d) := by
  intro pins s σ H xs us Q I r h
  obtain ⟨c, cv, b, rfl, hcv, ⟨dd, fs, ed, hd⟩, e, q⟩ := h
  match us, r with
  | [u1, u2], .cons r1 (.cons r2 .nil) =>
    obtain rfl : u1 = Value.ref a := r1
    have e2 := hcv _ r2
    subst e2
    subst ed
    obtain ⟨hget, _⟩ := I.pin (a, oe) (List.mem_append.mpr (.inl List.mem_cons_self))
    obtain ⟨vs, hv⟩ := hf
    obtain ⟨mA, hns, hr⟩ := (show ObjOk X.prog X.w H s.heap dd (.xd fs) from I.hok dd _ hd)
    obtain ⟨od, hod, _⟩ := lookIn_ns hns
    have J : PySem.W.InstAt s.heap a oe D (some od) := ⟨hget, hz.1, by unfold PySem.W.notCls; rw [hv] <;> rfl, by rw [hz.2]; exact hod⟩
    exact PySem.W.kia_one (PySem.W.kitx_exc hc.cl hc.hg hc.hk hc.hs hc.ha hc.hn hc.ht hc.hm) I.kIn J e (fun z => nomatch z) fun tk => ⟨.bl b, H, I.kept (t' := tk) fun _ _ z => z, rfl, q⟩
/-! ### made -/
section
variable {X : Cx} {x : Str} {p p1 p2 pos : Pos} {e : Expr} {es : List Expr} {t : TA} {te ta' : TE}
def tVal1 (te : TE) (D : Value) : TE := fun σ H Q => te σ H fun _ H1 => ∀ a, H1 a = none → Q (.ref a) (upd H1 a (ExO D a))
theorem pe_ex1 {C : Addr} (q : PySem.W.excIn X.K C [.type "ValueError", .type "Exception", .type "BaseException", .type "object"] "ValueError.__new__" = true) (gC : X.mg x = some (.ref C)) (kC : PySem.W.keepIn X.K (.ref C) = true)
    (he : PE X e te) (hg : Gl X x := by rfl) (hs : starEach [e] X.env = (false, eval e X.env) :: starEach [] X.env := by rfl) (hdb : (x == ("__debug__" : Str)) = false := by decide) :
    PE X (.Call (.Name x p) [e] [] pos) (tVal1 te (.ref C)) := pe_exc1 PySem.F.excBase_ValueError q gC kC hg he hs hdb
def tValA (t : TA) (D : Value) : TE := fun σ H Q => t σ H fun vs H1 => vs.length ≤ sizeLine ∧ ∀ a, H1 a = none → Q (.ref a) (upd H1 a (ExO D a))
theorem pe_exV (hm : X.mg "ValueError" = none) (ha : PA X (e :: es) t) (hg : Gl X "ValueError" := by rfl) (hs : starEach (e :: es) X.env = (false, eval e X.env) :: starEach es X.env := by rfl) (hpl : (backTo pos (starEach es X.env)).any (·.1) = false := by rfl) :
    PE X (.Call (.Name "ValueError" p) (e :: es) [] pos) (tValA t (.type "ValueError")) := by
  refine ⟨fun pins s σ H Q I h => ?_⟩
  refine wpAny_Call_Name_kw (ld_blt I hg hm boot_ValueError ?_ (by decide) (by decide))
  refine PyProof.Rows.callWith_type1 (thn (ha.run pos pins s σ H _ I h) fun us s1 hh => ?_) hs hpl
  obtain ⟨vs, H1, I1, r1, q0, q1⟩ := hh
  obtain ⟨hp1, g1, d1, tk1, os1⟩ := s1
  refine wpAny_call_exc exb_ValueError.call (fun h' a mk => ?_) (Nat.le_trans (Nat.le_of_eq r1.length.symm) q0)
  have mk' := PySem.Heap.MadeExc.of mk
  have hn : H1 a = none := I1.hok.gone mk.new
  obtain ⟨t0, ht, _, _⟩ := mk'.there
  exact ⟨.ref a, upd H1 a (ExO (.type "ValueError") a), I1.laidN mk.keeps mk.new hn (exO_ok ht ⟨rfl, rfl⟩ rfl rfl rfl (show 4 < 6 by decide)), rfl, q1 a hn⟩
end
/-! ### with an own __init__ -/
/-- what the written part says of the class at C, its __init__ at f -/
structure OxC (K : PySem.W.Frag) (mg : Str → Option Value) (x : Str) (C f : Addr) : Prop where
  gC : mg x = some (.ref C)
  ox : OexC K C
  ini : PySem.W.findIn K (.ref C) "__init__" = some (some (.ref f))
  tI : PySem.W.typeIn K (.ref f) = some (.type "function")
/-- C(e, ..) as a value -/
def tOex (C : Addr) (sp : Sp) (ta : TA) : TE := fun σ H Q => ta σ H fun vs H1 => vs.length ≤ 1000 ∧ ∀ a, H1 a = none → sp (.ref a :: vs) (upd H1 a (exo a C none)) (fun v H2 => v = .non ∧ Q (.ref a) H2) (fun _ _ _ => False)
/-- C(k = v, ..) as a value -/
def tOexK (C : Addr) (n : Nat) (sp : Sp) (gV : List V → List V → List V) (tk : TA) : TE := fun σ H Q => tk σ H fun zs H1 => zs.length = n ∧ ∀ a, H1 a = none → sp (gV [.ref a] zs) (upd H1 a (exo a C none)) (fun v H2 => v = .non ∧ Q (.ref a) H2) (fun _ _ _ => False)
section
variable {X : Cx} {x : Str} {C f : Addr} {k : Nat} {fd : FuncData} {ps ks : List Str} {sp : Sp} {p pos : Pos} {e : Expr} {es : List Expr} {kws : List Keyword} {t tk : TA} {g : List Value → List Value → List Value} {gV : List V → List V → List V}
theorem run_oex {pins : List (Addr × Obj)} {σ : L2.St} {H : Hp} {s : Shared} {Q : VK} {us ws : List Value} {vs zs : List V} (O : OxC X.K X.mg x C f) (F : FnOk X.prog X.w X.K X.mg X.base CX0 k f fd ps sp) (hr : Room (k + 1) X.A)
    (hb : KBn X.K fd ps (vs.length + 1) ks g gV) (I : Inv X pins σ H s) (r : Vals vs us) (rz : Vals zs ws) (l2 : zs.length = ks.length) (hl : vs.length ≤ 1000)
    (hk : PySem.Bind.checkArgs "ValueError.__new__" ⟨.any, "ValueError", "ValueError", .cls, [⟨"args", .varPos, false⟩, ⟨"kwargs", .varKw, false⟩]⟩ ⟨.ref C :: us, ks.zip ws⟩ = pure ())
    (h : ∀ a, H a = none → sp (gV (.ref a :: vs) zs) (upd H a (exo a C none)) (fun v H2 => v = .non ∧ Q (.ref a) H2) (fun _ _ _ => False)) :
    wpAny (model X.prog X.w) X.A (call (.ref C) us (ks.zip ws)) (EP X pins σ Q) X.xe s := by
  obtain ⟨nm, q, N, bs, bm, sn, sub, ab, col, dd, k0, k1, k2, k3, k5, hC, hbm⟩ := O.ox.cls
  obtain ⟨hp, g1, dr, tk1, os⟩ := s
  have hsz : hp.objs.size ≤ hp.objs.size + 1 := Nat.le_succ _
  have hn : H (hp.objs.size + 1) = none := I.hok.fresh hsz
  have hq := h (hp.objs.size + 1) hn
  have kk : ∀ b o, hp.get? b = some o → ((hp.push (PySem.W.kdv_tup us)).push (PySem.HandSPX.excO C hp.objs.size)).get? b = some o := fun b o e => Heap.get?_push_of_some _ (Heap.get?_push_of_some _ e)
  have hget : ((hp.push (PySem.W.kdv_tup us)).push (PySem.HandSPX.excO C hp.objs.size)).get? (hp.objs.size + 1) = some (PySem.HandSPX.excO C hp.objs.size) := by heap_get
  have I2 : Inv X pins σ (upd H (hp.objs.size + 1) (exo (hp.objs.size + 1) C none)) ⟨(hp.push (PySem.W.kdv_tup us)).push (PySem.HandSPX.excO C hp.objs.size), g1, dr, tk1, os⟩ :=
    I.laid (t' := tk1) (a := hp.objs.size + 1) (o := exo (hp.objs.size + 1) C none) (h' := (hp.push (PySem.W.kdv_tup us)).push (PySem.HandSPX.excO C hp.objs.size)) kk hsz (exo_ok hget)
  have r1 : Vals (V.ref (hp.objs.size + 1) :: vs) (Value.ref (hp.objs.size + 1) :: us) := .cons rfl r
  have r2 := hb.rel r1 rz
  have n1 : (Value.ref (hp.objs.size + 1) :: us).length = vs.length + 1 := r1.length.symm
  have n2 : ws.length = ks.length := rz.length.symm.trans l2
  have hus : us.length ≤ sizeLine := by
    rw [← Paired.length r, sizeLine_eq]
    omega
  refine wpAny_call (call_ownK PySem.F.excBase_ValueError (fun y => PySem.HandSPX.refsVE_contains y bm hbm) (I.kIn _ _ hC) hk (PySem.W.looks_findIn I.kIn O.ini) (fun self => PySem.W.bind_fn I.kIn self O.tI) hus
    (codeAny_mono (F.run _ X.stack _ _ ⟨Value.ref (hp.objs.size + 1) :: us, ks.zip ws⟩ (g (Value.ref (hp.objs.size + 1) :: us) ws) _ _ (fun _ _ _ => False) (hr.make C us (ks.zip ws)) (I2.env0.make C us (ks.zip ws))
      (hb.to _ (Value.ref (hp.objs.size + 1) :: us) ws I2.kIn n1 n2) r2 hq) fun r s' hq' => ?_))
  cases r with
  | error er => exact hq'.elim
  | ok fl =>
    cases fl with
    | ret u =>
      obtain ⟨v, H2, I3, rv, ev, q3⟩ := I2.after hq'
      subst ev
      exact ⟨rv, ⟨V.ref (hp.objs.size + 1), H2, I3, rfl, q3⟩⟩
    | next => exact (False.elim hq')
    | brk => exact False.elim hq'
    | cont => exact (False.elim hq')
theorem pe_oex (O : OxC X.K X.mg x C f) (F : FnOk X.prog X.w X.K X.mg X.base CX0 k f fd ps sp) (hr : Room (k + 1) X.A) (hb : Binds X.K fd ps []) (ha : PA X (e :: es) t) (hg : Gl X x := by rfl) (hdb : (x == ("__debug__" : Str)) = false := by decide)
    (he : starEach (e :: es) X.env = (false, eval e X.env) :: starEach es X.env := by rfl) (hpl : (backTo pos (starEach es X.env)).any (·.1) = false := by rfl) :
    PE X (.Call (.Name x p) (e :: es) [] pos) (tOex C sp t) := by
  refine ⟨fun pins s σ H Q I h => ?_⟩
  refine wpAny_Call_Name_kw (ld_glob I hg O.gC ?_ hdb)
  refine PySem.W.callWith_K (h₀ := X.base) I.ok.mod.kin O.ox.kC (thn (ha.run pos pins s σ H _ I h) fun us s1 ⟨vs, H1, I1, r1, hz, q1⟩ => ⟨I1.kIn, ?_⟩) he hpl
  show wpAny _ _ (call (.ref C) us (List.zip [] [])) _ _ _
  have lps : vs.length + 1 = ps.length := by
    have z := F.len _ _ _ _ (q1 (s1.heap.objs.size) (I1.hok.fresh (Nat.le_refl _)))
    exact z
  have kb : KBn X.K fd ps (vs.length + 1) [] (fun us _ => us) (fun vs _ => vs) := ⟨fun s us ws X l1 l2 => by
    have e0 : ([] : List Str).zip ws = [] := rfl
    rw [e0]
    have z := hb s us X (by rw [List.append_nil, l1, lps])
    rw [List.append_nil] at z
    exact z, fun r _ => r⟩
  exact run_oex (ks := []) O F hr kb I1 r1 .nil rfl hz (by kernel_rfl) q1
theorem pe_oexK (O : OxC X.K X.mg x C f) (F : FnOk X.prog X.w X.K X.mg X.base CX0 k f fd ps sp) (hr : Room (k + 1) X.A) (hb : KBn X.K fd ps 1 ks g gV) (hkw : PK X kws tk)
    (hk : ∀ ws : List Value, ws.length = ks.length → PySem.Bind.checkArgs "ValueError.__new__" ⟨.any, "ValueError", "ValueError", .cls, [⟨"args", .varPos, false⟩, ⟨"kwargs", .varKw, false⟩]⟩ ⟨[.ref C], ks.zip ws⟩ = pure ())
    (hg : Gl X x := by rfl) (hall : (backToKw pos (keywordEach kws X.env)).all (·.1.isSome) = true := by rfl) (hks : (backToKw pos (keywordEach kws X.env)).filterMap (·.1) = ks := by rfl) (hdb : (x == ("__debug__" : Str)) = false := by decide)
    (hpl : ((backTo pos (starEach [] X.env)).any (·.1) || (backToKw pos (keywordEach kws X.env)).any (·.1.isNone)) = false := by rfl) :
    PE X (.Call (.Name x p) [] kws pos) (tOexK C ks.length sp gV tk) := by
  refine ⟨fun pins s σ H Q I h => ?_⟩
  refine wpAny_Call_Name_kw (ld_glob I hg O.gC ?_ hdb)
  refine PySem.W.callWith_KW0 (h₀ := X.base) I.ok.mod.kin O.ox.kC hall ?_ hpl
  refine thn (hkw.run pos pins s σ H _ I h) fun ws s2 ⟨zs, H2, I2, rz, l2, q2⟩ => ⟨I2.kIn, ?_⟩
  rw [hks]
  exact run_oex (us := []) (vs := []) O F hr hb I2 .nil rz l2 (by decide) (hk ws (rz.length.symm.trans l2)) q2
/-- T.__init__(self, ..), T an own class without an __init__ over ValueError -/
theorem pe_cinit {T : Addr} {p1 p2 : Pos} {pl : Sem Bool} (hm : X.mg x = some (.ref T)) (rd : PySem.W.readsIn X.K T (.type "type") = true) (ga : PySem.W.specialIn X.K (.ref T) "__getattribute__" = some (some (.builtin "type.__getattribute__")))
    (vV : PySem.W.findCls X.K (.ref T) (.type "type") "__init__" = some (.val (.builtin "ValueError.__init__"))) (ha : PA X (e :: es) t) (hg : Gl X x := by rfl) (hdb : (x == ("__debug__" : Str)) = false := by decide)
    (hc : eval (.Call (.Attribute (.Name x p1) "__init__" p2) (e :: es) [] pos) X.env = (do
      let ov ← eval (.Name x p1) X.env
      standAt p2.atName
      let (f, first) ← holding [ov] (getMethod ov "__init__" pl)
      callWith pos f first (backTo pos (starEach (e :: es) X.env)) (backToKw pos (keywordEach [] X.env))) := by rfl)
    (he : starEach (e :: es) X.env = (false, eval e X.env) :: starEach es X.env := by rfl) (hpl : (backTo pos (starEach es X.env)).any (·.1) = false := by rfl) :
    PE X (.Call (.Attribute (.Name x p1) "__init__" p2) (e :: es) [] pos) (tVeI X.K t) := by
  refine ⟨fun pins s σ H Q I h => ?_⟩
  refine PySem.W.methodCall_KW (ld_glob I hg hm ?_ hdb) hc
  refine PySem.W.method_cls I.kIn ga ?_
  refine PySem.W.cls_value I.kIn rd vV rfl ?_
  show wpAny _ _ (callWith pos (Value.builtin "ValueError.__init__") [] (backTo pos (starEach (e :: es) X.env)) []) _ _ _
  refine PyProof.Rows.callWith_method1 (thn (ha.run pos pins _ σ H _ (I.tok _) h) fun us s1 ⟨vs, H1, I1, r1, a, C, ws, ev, hl, T, ea, q⟩ => ?_) he hpl
  subst ev
  cases r1 with
  | @cons _ u0 _ ur ra rw' =>
    obtain rfl : u0 = Value.ref a := ra
    have hlen : ur.length ≤ sizeLine := by
      rw [← Paired.length rw', sizeLine_eq]
      omega
    exact oinit_ok T I1 ea hlen fun s' J => ⟨.non, H1, J, rfl, q⟩
/-- e.f, e an exception with a dict of its own -/
def tXfl (K : PySem.W.Frag) (f : Str) (te : TE) : TE := fun σ H Q => te σ H fun x H1 => ∃ (a C d : Addr) (fs : List (Str × V)) (v : V), x = .ref a ∧ XcC K C ∧ PySem.W.findIn K (.ref C) f = some none ∧ H1 a = some (exo a C (some d)) ∧ H1 d = some (exd d fs) ∧ fs.lookup f = some v ∧ Q v H1
theorem pe_xfl {n : Str} {te : TE} (he : PE X e te) (hb : attributeBase e n X.env (eval e X.env) = eval e X.env := by rfl) : PE X (.Attribute e n pos) (tXfl X.K n te) := by
  refine ⟨fun pins s σ H Q I h => ?_⟩
  refine attr_of hb (thn (he.run pins s σ H _ I h) fun u s1 hh => ?_)
  obtain ⟨x, H1, I1, rx, a, C, d, fs, v, ex, hc, hno, ea, ed, l, q⟩ := hh
  subst ex
  obtain rfl : u = Value.ref a := rx
  obtain ⟨t1, ho⟩ := exo_at I1.hok ea
  obtain ⟨mA, hns, hr⟩ := exd_at I1.hok ed
  obtain ⟨od, hod, hl⟩ := lookIn_ns hns
  obtain ⟨u, hu, ru⟩ := RelO.some_of (v := v) (o := mA n) (by rw [← l]; exact hr n)
  have J : PySem.W.InstAt s1.heap a _ C (some od) := ⟨ho, rfl, rfl, hod⟩
  exact HandSPX.exc_get I1.kIn J hc.hg hc.hk hc.hs (PySem.W.findObj_own hc.hd hno rfl (by rw [hl, hu])) (handed_of ru) ⟨v, H1, I1.tok _, ru, q⟩
end
end
section
open L2 PySem PySem.Spec PyProof.Rows
section
variable {X : Cx} {K : PySem.W.Frag} {e : Expr} {te : TE} {n : Str} {pos : Pos}
theorem k_isX (hK : X.K = K := by rfl) : CallR X (.builtin "isinstance") (rIsX K) := by subst hK; exact call_isX
theorem pe_gref {x : Str} {C : Addr} (hm : X.mg x = some (.ref C)) (hg : Gl X x := by rfl) (hd : (x == ("__debug__" : Str)) = false := by decide) : PE X (.Name x pos) (tC (.ref C)) := pe_glob hg hm rfl hd
theorem kpe_xfl (he : PE X e te) (hK : X.K = K := by rfl) (hb : attributeBase e n X.env (eval e X.env) = eval e X.env := by rfl) : PE X (.Attribute e n pos) (tXfl K n te) := by subst hK; exact pe_xfl he hb
end
section
variable {σ : L2.St} {H : Hp} {D : Ends} {Q : VK} {K : PySem.W.Frag} {a b c : Addr}
theorem i_isR {Dv : Value} {C : Addr} {k : Bool} (hx : ExAt K H a Dv) (hk : PySem.W.kitOne K Dv (.ref C) = some k) (h : Q (.bl k) H) : rIsX K [.ref a, .ref C] H Q := ⟨a, Dv, .ref C, .ref C, k, rfl, fun _ r => r, hx, hk, h⟩
theorem i_isV {Dv : Value} {k : Bool} {T : String} (hx : ExAt K H a Dv) (hk : PySem.W.kitOne K Dv (.type T) = some k) (h : Q (.bl k) H) : rIsX K [.ref a, .ty T] H Q := ⟨a, Dv, .ty T, .type T, k, rfl, fun _ r => r, hx, hk, h⟩
theorem i_lstG {xs : List V} (z : xs.length ≤ sizeLine) (h : ∀ p H', Same H H' → H' p = some (.lst xs) → Q (.ref p) H') : xs.length ≤ sizeLine ∧ ∀ p, H p = none → Q (.ref p) (upd H p (.lst xs)) :=
  ⟨z, fun p n => h p _ (Same.upd_new n) upd_same⟩
theorem i_cat {xs zs : List V} (e1 : H a = some (.lst xs)) (e2 : H b = some (.lst zs)) (z : xs.length + zs.length ≤ sizeLine) (h : ∀ p H', Same H H' → H' p = some (.lst (xs ++ zs)) → Q (.ref p) H') : rCat (.ref a) (.ref b) H Q :=
  ⟨a, b, xs, zs, rfl, rfl, e1, e2, z, fun p n => h p _ (Same.upd_new n) upd_same⟩
theorem i_ex {i : Nat} {v : V} {C : Addr} (e : σ[i]? = some (some v)) (hc : XcC K C) (h : ∀ a H', Same H H' → ExAt K H' a (.ref C) → Q (.ref a) H') : tVal1 (tVar i) (.ref C) σ H Q :=
  ⟨v, e, fun a n => h a _ (Same.upd_new n) (.inl ⟨C, rfl, hc, .inl upd_same⟩)⟩
theorem i_exV {i : Nat} {v : V} (e : σ[i]? = some (some v)) (h : ∀ a H', Same H H' → ExAt K H' a (.type "ValueError") → Q (.ref a) H') : tValA (tCons (tVar i) tNil) (.type "ValueError") σ H Q :=
  ⟨v, e, by show 1 ≤ sizeLine; rw [sizeLine_eq]; omega, fun a n => h a _ (Same.upd_new n) (.inr ⟨rfl, upd_same⟩)⟩
theorem same_trans {H1 H2 H3 : Hp} (h : Same H1 H2) (k : Same H2 H3) : Same H1 H3 := fun b o e => k b o (h b o e)
/-- each item of a list in a new pair -/
theorem f_enum {g : TG} {tb : TS} {n : L2.St → Hp → Prop} {r : VK} {bk ct : L2.St → Hp → Prop} (xs : List V) (Pv : Nat → L2.St → Hp → Prop) (h0 : Pv 0 σ H) (hl : ∀ i σ H, i ≤ xs.length → Pv i σ H → SqL K H a xs)
    (hs : ∀ i x σ H T, xs[i]? = some x → Pv i σ H → H T = none → g (.ref T) σ (upd H T (.tup [.int (i : Nat), x])) fun σ2 H2 => tb ⟨Pv (i + 1), r, n, Pv (i + 1)⟩ σ2 H2) (hd : ∀ σ H, Pv xs.length σ H → n σ H) : forK g tb ⟨n, r, bk, ct⟩ σ (Ite K a) H := by
  refine ⟨fun i m σ H => m = xs.length - i ∧ i ≤ xs.length ∧ Pv i σ H, ⟨xs.length, by simp, Nat.zero_le _, h0⟩, ?_⟩
  rintro i m σ H ⟨rfl, hi, p⟩
  have q := hl i σ H hi p
  by_cases hlt : i < xs.length
  · refine .inr ⟨⟨xs, xs[i], q, by simp [hlt]⟩, Pv (i + 1), fun σ' H' p' => ⟨xs.length - (i + 1), by omega, rfl, hlt, p'⟩, fun x H' y => ?_⟩
    obtain ⟨T, z, rfl, hT, rfl, y⟩ := y
    exact hs i z σ H T (y xs q) p hT
  · have e : i = (xs.length) := by omega
    subst e
    exact .inl ⟨⟨xs, q, Nat.le_refl _⟩, hd σ H p⟩
def ieK (K : PySem.W.Frag) (R : It → Hp → Prop) : List V → Hp → Prop := fun vs H1 => ∃ a xs, vs = [.ref a] ∧ SqL K H1 a xs ∧ R (Ite K a) H1
theorem i_ienum {R : It → Hp → Prop} {ta : TA} (h : ta σ H (ieK K R)) : iEnum K ta σ H R := h
theorem i_ieK {R : It → Hp → Prop} {p : Addr} {xs : List V} (e : SqL K H p xs) (h : R (Ite K p) H) : ieK K R [.ref p] H := ⟨p, xs, rfl, e, h⟩
end
/-- isinstance of the exception that a suite holds, its class told by the reading -/
def rIsT (K : PySem.W.Frag) (cls : Value) (a : Addr) (d : Option Addr) : List V → Hp → VK → Prop := fun xs H Q => ∃ (Dc : Addr) (c : V) (cv : Value) (b : Bool), cls = .ref Dc ∧ XcC K Dc ∧ xs = [.ref a, c] ∧ (∀ u, RelV c u → u = cv) ∧ (∃ dd fs, d = some dd ∧ H dd = some (.xd fs)) ∧ PySem.W.kitOne K (.ref Dc) cv = some b ∧ Q (.bl b) H
theorem call_isT {X : Cx} {a : Addr} {cls : Value} {oe : Obj} {d : Option Addr} {pn : List (Addr × Obj)} (hz : Zc cls d oe) (hf : ∃ vs, oe.data = .fields vs) : CallR (X.suite a ((a, oe) :: pn)) (.builtin "isinstance") (rIsT X.K cls a d) := by
  intro pins s σ H xs us Q I r h
  obtain ⟨Dc, c, cv, b, ec, hc, rfl, hcv, hd, e, q⟩ := h
  subst ec
  exact call_isS hc hz hf pins s σ H _ us Q I r ⟨c, cv, b, rfl, hcv, hd, e, q⟩
theorem k_notInS {X : Cx} {K : PySem.W.Frag} (hK : X.K = K := by rfl) : OpR X (compareOp .NotIn) (rIn K true) := by subst hK; exact op_notIn_seq
theorem small_text : ∀ n : Nat, n < 1000 → (toString (n : Int) : Str).length ≤ 3 := by
  have h : (List.range 1000).all (fun n => decide ((toString (n : Int) : Str).length ≤ 3)) = true := by decide +kernel
  intro n hn
  exact of_decide_eq_true (List.all_eq_true.mp h n (List.mem_range.mpr hn))
theorem small_log (n : Nat) (h : n < 1000) : (n : Int).natAbs.log2 < 1920 := by
  rw [Int.natAbs_natCast]
  by_cases z : n = 0
  · subst z
    decide
  · exact (Nat.log2_lt z).mpr (Nat.lt_of_lt_of_le h (Nat.le_trans (show 1000 ≤ 2 ^ 10 by decide) (Nat.pow_le_pow_right (by decide) (by decide))))
/-! ### the classes of a text of errors -/
def clsAt (K : PySem.W.Frag) (x : Str) : Addr := match PySem.W.nsIn K mainGlobals x with
  | some (some (.ref C)) => C
  | _ => 0
def isAt (K : PySem.W.Frag) (x : Str) : Bool := match PySem.W.nsIn K mainGlobals x with
  | some (some (.ref _)) => true
  | _ => false
theorem isAt_ok {K : PySem.W.Frag} {x : Str} (h : isAt K x = true) : PySem.W.nsIn K mainGlobals x = some (some (.ref (clsAt K x))) := by
  unfold isAt at h
  unfold clsAt
  split at h
  · rename_i C e
    rw [e]
  · cases h
def xcB (K : PySem.W.Frag) (C : Addr) : Bool :=
  decide (PySem.W.findIn K (.ref C) "__getattribute__" = some (some (.builtin "BaseException.__getattribute__"))) && (decide (PySem.W.findIn K (.ref C) "__getattr__" = some none) && (decide (PySem.W.subIn K (.ref C) (.type "BaseException") = some true) && (PySem.W.hasDictIn K C &&
  (decide (PySem.W.findIn K (.ref C) "__class__" = some (some (.builtin "object.__class__"))) && (decide (PySem.W.specialIn K (.builtin "object.__class__") "__get__" = some (some (.builtin "getset_descriptor.__get__"))) && (decide (PySem.W.takesIn K (.builtin "object.__class__") = some true) && decide (PySem.W.mroIn K C (.type "object") = some true)))))))
theorem xcB_ok {K : PySem.W.Frag} {C : Addr} (h : xcB K C = true) : XcC K C := by
  obtain ⟨h1, h⟩ := Bool.and_eq_true_iff.mp h
  obtain ⟨h2, h⟩ := Bool.and_eq_true_iff.mp h
  obtain ⟨h3, h⟩ := Bool.and_eq_true_iff.mp h
  obtain ⟨h4, h⟩ := Bool.and_eq_true_iff.mp h
  obtain ⟨h5, h⟩ := Bool.and_eq_true_iff.mp h
  obtain ⟨h6, h⟩ := Bool.and_eq_true_iff.mp h
  obtain ⟨h7, h8⟩ := Bool.and_eq_true_iff.mp h
  exact ⟨of_decide_eq_true h1, of_decide_eq_true h2, of_decide_eq_true h3, h4, of_decide_eq_true h5, of_decide_eq_true h6, of_decide_eq_true h7, of_decide_eq_true h8⟩
end
section
open L2 PySem PySem.Spec PyProof.Rows
local macro_rules | `(tactic| walk_at "jz") => `(tactic| first
  | assumption
  | (rw [sizeLine_eq]; simp only [List.length_map, List.length_append, List.length_cons, List.length_nil, List.length_range, List.length_take, List.length_drop]; omega)
  | (rw [sizeLine_eq]; omega)
  | fail "none")
local macro_rules | `(tactic| walk_at "jc") => `(tactic| first
  | assumption
  | (refine ⟨?_, ?_⟩ <;> omega)
  | (show (0 : Int) < _; omega)
  | (show (0 : Int) < _; decide)
  | (refine ⟨?_, ?_, ?_⟩ <;> decide)
  | (refine ⟨?_, ?_⟩ <;> decide)
  | (left; refine ⟨?_, ?_⟩ <;> omega)
  | (right; refine ⟨?_, ?_⟩ <;> omega)
  | fail "none")
local macro_rules | `(tactic| walk_at "jn") => `(tactic| first
  | assumption
  | (apply Ne.symm; assumption)
  | (refine Fd.ne (H := ?h0) (c := ?c0) ?e0 ?n0; (case n0 => assumption); (case e0 => walk_at "jf"))
  | (apply Ne.symm; refine Fd.ne (H := ?h0) (c := ?c0) ?e0 ?n0; (case n0 => assumption); (case e0 => walk_at "jf"))
  | (refine ne_of_none (H := ?h0) (o := ?o0) ?e0 ?n0; (case n0 => assumption); (case e0 => walk_at "jl"))
  | (apply Ne.symm; refine ne_of_none (H := ?h0) (o := ?o0) ?e0 ?n0; (case n0 => assumption); (case e0 => walk_at "jl"))
  | fail "none")
local macro_rules | `(tactic| walk_at "jl") => `(tactic| first
  | assumption
  | exact upd_same
  | (refine Ch.at (a := ?a0) (H := ?h0) ?c0 ?n0 ?e0; (case c0 => assumption); (case n0 => walk_at "jn"); (case e0 => walk_at "jl"))
  | (refine (upd_ne ?_).trans ?_; (walk_at "jn"); (walk_at "jl"))
  | fail "none")
local macro_rules | `(tactic| walk_at "jq") => `(tactic| first
  | assumption
  | ((with_reducible refine sq_lst ?_); (walk_at "jl"))
  | ((with_reducible refine sq_tup ?_); (walk_at "jl"))
  | ((with_reducible refine Ch.sqA (a := ?a0) (H := ?h0) ?c0 ?n0 ?e0); (case c0 => assumption); (case n0 => walk_at "jn"); (case e0 => walk_at "jq"))
  | ((with_reducible refine Ch.sqL (a := ?a0) (H := ?h0) ?c0 ?n0 ?e0); (case c0 => assumption); (case n0 => walk_at "jn"); (case e0 => walk_at "jq"))
  | ((with_reducible refine Ch.sqT (a := ?a0) (H := ?h0) ?c0 ?n0 ?e0); (case c0 => assumption); (case n0 => walk_at "jn"); (case e0 => walk_at "jq"))
  | ((with_reducible refine sqA_same (H := ?h0) ?c0 ?e0); (case c0 => first | assumption | (refine Same.upd_new ?_; assumption)); (case e0 => walk_at "jq"))
  | ((with_reducible refine SqA.l ?_); (walk_at "jq"))
  | ((with_reducible refine SqA.t ?_); (walk_at "jq"))
  | fail "none")
local macro_rules | `(tactic| walk_at "jf") => `(tactic| first
  | assumption
  | (refine Fd.upd ?_ ?_; (walk_at "jf"); (walk_at "jn"))
  | fail "none")
local macro_rules | `(tactic| walk_at "jh") => `(tactic| first
  | assumption
  | exact Ch.refl _
  | exact Ch.upd_self
  | (refine Ch.upd_l ?_ ?_; (walk_at "jh"); assumption)
  | (refine Ch.upd_a ?_; (walk_at "jh"))
  | (refine Ch.upd_n ?c0 ?c1; (case c1 => assumption); (case c0 => walk_at "jh"))
  | (refine Ch.trans (H1 := ?h1) ?c0 ?c1; (case c1 => assumption); (case c0 => walk_at "jh"))
  | fail "none")
local macro_rules | `(tactic| walk_at "jt") => `(tactic| first
  | assumption
  | exact TK.refl _
  | ((with_reducible refine TK.new' ?c0 ?c1); (case c1 => assumption); (case c0 => walk_at "jt"))
  | ((with_reducible refine TK.lst' (xs := ?xs1) ?c0 ?c1); (case c1 => walk_at "jl"); (case c0 => walk_at "jt"))
  | ((with_reducible refine TK.ch' (H1 := ?h1) (a := ?a1) (c := ?k1) ?c0 ?c1 ?c2); (case c1 => assumption); (case c2 => walk_at "jf"); (case c0 => walk_at "jt"))
  | fail "jt")
local macro_rules | `(tactic| walk_at "js") => `(tactic| with_reducible (first
  | refine i_nx ?_ | refine i_rt ?_ | refine i_bk ?_ | refine i_ct ?_
  | refine i_seq ?_ | refine i_asg ?_ | refine i_gname ?_ | refine i_ifS ?_ | refine i_test ?_ | refine i_tB ?_ | refine i_ret ?_ | refine i_retN ?_ | refine i_drop ?_ | refine i_next ?_
  | refine i_op ?_ | refine i_un ?_ | refine i_c ?_ | refine i_rI0 ?_ | refine i_rU ?_ | refine i_add ?_ | refine i_sub ?_ | refine i_eqI ?_ | refine i_neI ?_ | refine i_eqS ?_ | refine i_neS ?_
  | refine i_bl ?_ | refine i_blQ ?_ | refine i_not ?_ | refine i_and ?_ | refine i_or ?_ | refine i_notV ?_ | refine i_andV ?_ | refine i_orV ?_ | refine i_if ?_ | refine i_chain ?_
  | refine i_gsub ?_ | refine i_cons ?_ | refine i_nil ?_ | refine i_cb ?_ | refine i_call ?_ | refine i_tup ?_ | refine i_lst ?_ | refine i_par ?_ | refine i_par' ?_ | refine i_par3 ?_ | refine i_par3' ?_
  | refine i_sl ?_ | refine i_npart ?_ | refine i_part ?_ | refine i_partI ?_ | refine i_bm ?_ | refine i_for ?_ | refine i_lc ?_ | refine i_yes ?_ | refine i_lrg ?_ | refine i_gcons ?_ | refine i_gnil ?_ | refine i_rng1 ?_ | refine i_rng2 ?_ | refine i_ilist ?_ | refine i_itup ?_
  | refine i_iteT ?_ | refine i_iteF ?_ | refine i_iteNT ?_ | refine i_iteNF ?_
  | fail "js"))
local macro_rules | `(tactic| walk_at "jv") => `(tactic| first
  | walk_at "js"
  | ((with_reducible refine i_var (v := ?v) ?e ?_); (case e => rfl))
  | ((with_reducible refine i_ixL (v := ?v) (xs := ?xs) ?e ?z ?_); (case e => walk_at "jq"); (case z => first | exact at0 | exact at1 | exact at2 | assumption))
  | ((with_reducible refine i_ixT (v := ?v) (xs := ?xs) ?e ?z ?_); (case e => walk_at "jq"); (case z => first | exact at0 | exact at1 | exact at2 | assumption))
  | ((with_reducible refine i_setL (xs := ?xs) (j := ?j) ?e ?z ?_); (case e => walk_at "jl"); (case z => first | rfl | assumption))
  | (with_reducible refine i_ite (fun _ => ?_) (fun _ => ?_))
  | (with_reducible refine i_iteN (fun _ => ?_) (fun _ => ?_))
  | ((with_reducible refine i_rI (i := ?i) (j := ?j) ?c ?_); (case c => walk_at "jc"))
  | (with_reducible refine i_int ?_)
  | (with_reducible refine i_intB ?_)
  | (with_reducible refine i_max ?_)
  | (with_reducible refine i_min ?_)
  | ((with_reducible refine i_tupL (ys := ?ys) ?e ?_); (case e => walk_at "jq"))
  | ((with_reducible refine i_tupT (ys := ?ys) ?e ?_); (case e => walk_at "jq"))
  | ((with_reducible refine i_lstL (ys := ?ys) ?e ?_); (case e => walk_at "jq"))
  | ((with_reducible refine i_lstT (ys := ?ys) ?e ?_); (case e => walk_at "jq"))
  | ((with_reducible refine i_lenL (ys := ?ys) ?e ?_); (case e => walk_at "jq"))
  | ((with_reducible refine i_lenT (ys := ?ys) ?e ?_); (case e => walk_at "jq"))
  | ((with_reducible refine i_all (bs := ?bs) ?e ?_); (case e => walk_at "jq"))
  | ((with_reducible refine i_slL (xs := ?xs) ?e ?_); (case e => walk_at "jq"))
  | ((with_reducible refine i_tyL (xs := ?xs) ?e ?_); (case e => walk_at "jq"))
  | ((with_reducible refine i_app (xs := ?xs) ?e ?z ?_); (case e => walk_at "jl"); (case z => walk_at "jz"))
  | ((with_reducible refine i_ixA (v := ?v) (xs := ?xs) ?e ?z ?_); (case e => walk_at "jq"); (case z => first | exact at0 | exact at1 | exact at2 | assumption))
  | ((with_reducible refine i_lenA (ys := ?ys) ?e ?_); (case e => walk_at "jq"))
  | ((with_reducible refine i_lstA (ys := ?ys) ?e ?_); (case e => walk_at "jq"))
  | ((with_reducible refine i_sum (ns := ?ns) ?e ?_); (case e => walk_at "jq"))
  | ((with_reducible refine i_rgK ?b ?_); (case b => first | assumption | (refine ⟨?_, ?_⟩ <;> omega)))
  | ((with_reducible refine i_rgK2 ?b ?_); (case b => first | assumption | (refine ⟨?_, ?_, ?_, ?_⟩ <;> omega)))
  | ((with_reducible refine i_ilK (xs := ?xs) ?e ?_); (case e => walk_at "jq"))
  | ((with_reducible refine i_itK (xs := ?xs) ?e ?_); (case e => walk_at "jq"))
  | ((with_reducible refine i_gtup (xs := ?xs) ?e ?z ?_); (case e => walk_at "jq"); (case z => rfl))
  | (with_reducible refine is_int _ ?_)
  | (with_reducible refine is_int_bool _ ?_)
  | (with_reducible refine is_str _ ?_)
  | ((with_reducible refine is_tup (xs := ?xs) ?e ?_); (case e => walk_at "jq"))
  | ((with_reducible refine i_wip ?z ?_); (case z => rfl))
  | ((with_reducible refine i_lcE (acc := ?acc) ?e ?z ?_); (case e => walk_at "jl"); (case z => walk_at "jz"))
  | ((with_reducible refine i_inS (ns := ?ns) ?e ?_); (case e => walk_at "jq"))
  | ((with_reducible refine i_al ?z ?_); (case z => first | (show _ ≤ sizeLine; decide) | walk_at "jz"))
  | fail "none")
def topS (i : Nat) : Stmt := PySem.Challenge.pw_eachinturn_k00_error_classes.main.body.getD i (.Pass ⟨0, 0, 0, 0⟩)
/-- the classes by their places in the statement's own list -/
def cN : List Str := ["BadWeb", "BadPlace", "BadHall", "BadState", "BadRows", "BadOrder", "BadCount", "BadArrows", "BadRing", "BadMoves", "BadPieces", "BadDays", "BadRules", "BadRule", "BadJoin", "BadTurns", "BadLengths", "BadPart", "BadSamples", "BadOrders", "BadIndex", "NothingToUndo", "Full", "BadCommand", "TooMany"]
def Ca (K : PySem.W.Frag) (i : Nat) : Addr := clsAt K (cN.getD i "")
def Ta (K : PySem.W.Frag) : Addr := clsAt K "TurnError"
def gWR {α : Type} : List α → List α → List α
  | [a], [w, r] => [a, r, w]
  | x, _ => x
abbrev bmV : List Value := [.type "ValueError", .type "Exception", .type "BaseException", .type "object"]
structure Wd (K : PySem.W.Frag) (mg : Str → Option Value) (fI : Addr) : Prop where
  g : ∀ i, i < 25 → mg (cN.getD i "") = some (.ref (Ca K i))
  gT : mg "TurnError" = some (.ref (Ta K))
  gV : mg "ValueError" = none
  kp : ∀ i, i < 25 → PySem.W.keepIn K (.ref (Ca K i)) = true
  kpT : PySem.W.keepIn K (.ref (Ta K)) = true
  ex : ∀ i, i < 25 → i ≠ 4 → PySem.W.excIn K (Ca K i) bmV "ValueError.__new__" = true
  exT : PySem.W.excIn K (Ta K) bmV "ValueError.__new__" = true
  xc : ∀ i, i < 25 → XcC K (Ca K i)
  xcT : XcC K (Ta K)
  ty : ∀ i, i < 25 → PySem.W.typeIn K (.ref (Ca K i)) = some (.type "type")
  kit : ∀ i j, i < 25 → j < 25 → PySem.W.kitOne K (.ref (Ca K i)) (.ref (Ca K j)) = some (decide (i = j))
  kitT : ∀ i, i < 25 → PySem.W.kitOne K (.ref (Ca K i)) (.ref (Ta K)) = some true
  kitV : ∀ i, i < 25 → PySem.W.kitOne K (.ref (Ca K i)) (.type "ValueError") = some true
  tk : ∀ j, j < 25 → PySem.W.kitOne K (.ref (Ta K)) (.ref (Ca K j)) = some false
  tV : PySem.W.kitOne K (.ref (Ta K)) (.type "ValueError") = some true
  vk : ∀ j, j < 25 → PySem.W.kitOne K (.type "ValueError") (.ref (Ca K j)) = some false
  em : ∀ i j, i ∈ [0, 5, 9, 22, 24] → j ∈ [0, 5, 9, 22, 24] → PySem.W.exmOne K (.ref (Ca K i)) (.ref (Ca K j)) = some (decide (i = j))
  emT : PySem.W.exmOne K (.ref (Ca K 4)) (.ref (Ta K)) = some true
  ox : OxC K mg "BadRows" (Ca K 4) fI
  nr : PySem.W.findIn K (.ref (Ca K 4)) "row" = some none
  nw : PySem.W.findIn K (.ref (Ca K 4)) "word" = some none
  rd : PySem.W.readsIn K (Ta K) (.type "type") = true
  ga : PySem.W.specialIn K (.ref (Ta K)) "__getattribute__" = some (some (.builtin "type.__getattribute__"))
  vV : PySem.W.findCls K (.ref (Ta K)) (.type "type") "__init__" = some (.val (.builtin "ValueError.__init__"))
  ck : ∀ ws : List Value, ws.length = 2 → PySem.Bind.checkArgs "ValueError.__new__" ⟨.any, "ValueError", "ValueError", .cls, [⟨"args", .varPos, false⟩, ⟨"kwargs", .varKw, false⟩]⟩ ⟨[.ref (Ca K 4)], (["word", "row"] : List Str).zip ws⟩ = pure ()
theorem i_newG {H : Hp} {xs : List V} {Q : VK} (h : ∀ p H', Same H H' → H' p = some (.lst xs) → Q (.ref p) H') : ∀ p, H p = none → Q (.ref p) (upd H p (.lst xs)) := fun p n => h p _ (Same.upd_new n) upd_same
/-- the answers of the statement's look at an error -/
def spFlags (K : PySem.W.Frag) : Sp := fun vs H Q _ => ∃ (a : Addr) (Dv : Value) (f : Nat → Bool), vs = [.ref a] ∧ ExAt K H a Dv ∧ (∀ j, j < 25 → PySem.W.kitOne K Dv (.ref (Ca K j)) = some (f j)) ∧
  ∀ p H', Same H H' → H' p = some (.lst ((List.range 25).map fun j => V.bl (f j))) → Q (.ref p) H'
abbrev s__law_flags : Stmt := topS 28
theorem sc__law_flags : FnScope ["_law_e", "_law_got"] ["_law_e"] (defScope s__law_flags) := ⟨rfl, rfl, rfl, by decide +kernel, rfl, by decide +kernel, by decide +kernel⟩
section
variable {base : Heap} {P : Program} {w : World} {K : PySem.W.Frag} {mg : Str → Option Value} {fI : Addr}
theorem ok_flags (D : Dn K mg "_law_flags" s__law_flags ["_law_e"]) (B : Bn mg) (W : Wd K mg fI) : Cl P w K mg base 1 "_law_flags" ["_law_e"] (spFlags K) := by
  refine D.cl sc__law_flags (fun vs H Q E h => ?_) (fun f cdv A outer s H vs Q E hr h => ?_)
  · obtain ⟨a, Dv, f, rfl, _⟩ := h
    rfl
  · obtain ⟨a, Dv, fb, rfl, hx, hk, q⟩ := h
    refine ⟨_, (pss_cons (ps_set (i := 1) sc__law_flags.nd rfl (by first | exact Or.inl rfl | exact Or.inr rfl) (pe_lst (pa_cons (pe_callB (k_isX (K := K)) rfl B.isinstance_ (by decide +kernel) (pa_cons (pv 0) (pa_cons (pe_gref (W.g 0 (by decide))) pa_nil))) (pa_cons (pe_callB (k_isX (K := K)) rfl B.isinstance_ (by decide +kernel) (pa_cons (pv 0) (pa_cons (pe_gref (W.g 1 (by decide))) pa_nil))) (pa_cons (pe_callB (k_isX (K := K)) rfl B.isinstance_ (by decide +kernel) (pa_cons (pv 0) (pa_cons (pe_gref (W.g 2 (by decide))) pa_nil))) (pa_cons (pe_callB (k_isX (K := K)) rfl B.isinstance_ (by decide +kernel) (pa_cons (pv 0) (pa_cons (pe_gref (W.g 3 (by decide))) pa_nil))) pa_nil))))))
      (pss_cons (ps_set (i := 1) sc__law_flags.nd rfl (by first | exact Or.inl rfl | exact Or.inr rfl) (pe_op op_cat (pv 1) (pe_lst (pa_cons (pe_callB (k_isX (K := K)) rfl B.isinstance_ (by decide +kernel) (pa_cons (pv 0) (pa_cons (pe_gref (W.g 4 (by decide))) pa_nil))) (pa_cons (pe_callB (k_isX (K := K)) rfl B.isinstance_ (by decide +kernel) (pa_cons (pv 0) (pa_cons (pe_gref (W.g 5 (by decide))) pa_nil))) (pa_cons (pe_callB (k_isX (K := K)) rfl B.isinstance_ (by decide +kernel) (pa_cons (pv 0) (pa_cons (pe_gref (W.g 6 (by decide))) pa_nil))) (pa_cons (pe_callB (k_isX (K := K)) rfl B.isinstance_ (by decide +kernel) (pa_cons (pv 0) (pa_cons (pe_gref (W.g 7 (by decide))) pa_nil))) pa_nil)))))))
      (pss_cons (ps_set (i := 1) sc__law_flags.nd rfl (by first | exact Or.inl rfl | exact Or.inr rfl) (pe_op op_cat (pv 1) (pe_lst (pa_cons (pe_callB (k_isX (K := K)) rfl B.isinstance_ (by decide +kernel) (pa_cons (pv 0) (pa_cons (pe_gref (W.g 8 (by decide))) pa_nil))) (pa_cons (pe_callB (k_isX (K := K)) rfl B.isinstance_ (by decide +kernel) (pa_cons (pv 0) (pa_cons (pe_gref (W.g 9 (by decide))) pa_nil))) (pa_cons (pe_callB (k_isX (K := K)) rfl B.isinstance_ (by decide +kernel) (pa_cons (pv 0) (pa_cons (pe_gref (W.g 10 (by decide))) pa_nil))) (pa_cons (pe_callB (k_isX (K := K)) rfl B.isinstance_ (by decide +kernel) (pa_cons (pv 0) (pa_cons (pe_gref (W.g 11 (by decide))) pa_nil))) pa_nil)))))))
      (pss_cons (ps_set (i := 1) sc__law_flags.nd rfl (by first | exact Or.inl rfl | exact Or.inr rfl) (pe_op op_cat (pv 1) (pe_lst (pa_cons (pe_callB (k_isX (K := K)) rfl B.isinstance_ (by decide +kernel) (pa_cons (pv 0) (pa_cons (pe_gref (W.g 12 (by decide))) pa_nil))) (pa_cons (pe_callB (k_isX (K := K)) rfl B.isinstance_ (by decide +kernel) (pa_cons (pv 0) (pa_cons (pe_gref (W.g 13 (by decide))) pa_nil))) (pa_cons (pe_callB (k_isX (K := K)) rfl B.isinstance_ (by decide +kernel) (pa_cons (pv 0) (pa_cons (pe_gref (W.g 14 (by decide))) pa_nil))) (pa_cons (pe_callB (k_isX (K := K)) rfl B.isinstance_ (by decide +kernel) (pa_cons (pv 0) (pa_cons (pe_gref (W.g 15 (by decide))) pa_nil))) pa_nil)))))))
      (pss_cons (ps_set (i := 1) sc__law_flags.nd rfl (by first | exact Or.inl rfl | exact Or.inr rfl) (pe_op op_cat (pv 1) (pe_lst (pa_cons (pe_callB (k_isX (K := K)) rfl B.isinstance_ (by decide +kernel) (pa_cons (pv 0) (pa_cons (pe_gref (W.g 16 (by decide))) pa_nil))) (pa_cons (pe_callB (k_isX (K := K)) rfl B.isinstance_ (by decide +kernel) (pa_cons (pv 0) (pa_cons (pe_gref (W.g 17 (by decide))) pa_nil))) (pa_cons (pe_callB (k_isX (K := K)) rfl B.isinstance_ (by decide +kernel) (pa_cons (pv 0) (pa_cons (pe_gref (W.g 18 (by decide))) pa_nil))) (pa_cons (pe_callB (k_isX (K := K)) rfl B.isinstance_ (by decide +kernel) (pa_cons (pv 0) (pa_cons (pe_gref (W.g 19 (by decide))) pa_nil))) pa_nil)))))))
      (pss_cons (ps_set (i := 1) sc__law_flags.nd rfl (by first | exact Or.inl rfl | exact Or.inr rfl) (pe_op op_cat (pv 1) (pe_lst (pa_cons (pe_callB (k_isX (K := K)) rfl B.isinstance_ (by decide +kernel) (pa_cons (pv 0) (pa_cons (pe_gref (W.g 20 (by decide))) pa_nil))) (pa_cons (pe_callB (k_isX (K := K)) rfl B.isinstance_ (by decide +kernel) (pa_cons (pv 0) (pa_cons (pe_gref (W.g 21 (by decide))) pa_nil))) (pa_cons (pe_callB (k_isX (K := K)) rfl B.isinstance_ (by decide +kernel) (pa_cons (pv 0) (pa_cons (pe_gref (W.g 22 (by decide))) pa_nil))) (pa_cons (pe_callB (k_isX (K := K)) rfl B.isinstance_ (by decide +kernel) (pa_cons (pv 0) (pa_cons (pe_gref (W.g 23 (by decide))) pa_nil))) pa_nil)))))))
      (pss_cons (ps_set (i := 1) sc__law_flags.nd rfl (by first | exact Or.inl rfl | exact Or.inr rfl) (pe_op op_cat (pv 1) (pe_lst (pa_cons (pe_callB (k_isX (K := K)) rfl B.isinstance_ (by decide +kernel) (pa_cons (pv 0) (pa_cons (pe_gref (W.g 24 (by decide))) pa_nil))) pa_nil))))
      (pss_one (ps_ret (pv 1)))))))))), ?_⟩
    repeat' (walk_at "jv")
    refine i_isR hx (hk 0 (by decide)) ?_
    repeat' (walk_at "jv")
    refine i_isR hx (hk 1 (by decide)) ?_
    repeat' (walk_at "jv")
    refine i_isR hx (hk 2 (by decide)) ?_
    repeat' (walk_at "jv")
    refine i_isR hx (hk 3 (by decide)) ?_
    repeat' (walk_at "jv")
    intro p1 n1
    have s1 := Same.upd_new (o := .lst [.bl (fb 0), .bl (fb 1), .bl (fb 2), .bl (fb 3)]) n1
    have e1 := upd_same (H := H) (a := p1) (o := .lst [.bl (fb 0), .bl (fb 1), .bl (fb 2), .bl (fb 3)])
    generalize upd H p1 (.lst [.bl (fb 0), .bl (fb 1), .bl (fb 2), .bl (fb 3)]) = H1 at *
    have x1 := ExAt.same s1 hx
    repeat' (walk_at "jv")
    refine i_isR x1 (hk 4 (by decide)) ?_
    repeat' (walk_at "jv")
    refine i_isR x1 (hk 5 (by decide)) ?_
    repeat' (walk_at "jv")
    refine i_isR x1 (hk 6 (by decide)) ?_
    repeat' (walk_at "jv")
    refine i_isR x1 (hk 7 (by decide)) ?_
    repeat' (walk_at "jv")
    intro p2 n2
    have s2 := Same.upd_new (o := .lst [.bl (fb 4), .bl (fb 5), .bl (fb 6), .bl (fb 7)]) n2
    have e2 := upd_same (H := H1) (a := p2) (o := .lst [.bl (fb 4), .bl (fb 5), .bl (fb 6), .bl (fb 7)])
    generalize upd H1 p2 (.lst [.bl (fb 4), .bl (fb 5), .bl (fb 6), .bl (fb 7)]) = H2 at *
    have x2 := ExAt.same s2 x1
    repeat' (walk_at "jv")
    refine i_cat (s2 _ _ e1) e2 (by simp only [List.length_append, List.length_cons, List.length_nil]; rw [sizeLine_eq]; omega) fun p3 H3 s3 e3 => ?_
    have x3 := ExAt.same s3 x2
    repeat' (walk_at "jv")
    refine i_isR x3 (hk 8 (by decide)) ?_
    repeat' (walk_at "jv")
    refine i_isR x3 (hk 9 (by decide)) ?_
    repeat' (walk_at "jv")
    refine i_isR x3 (hk 10 (by decide)) ?_
    repeat' (walk_at "jv")
    refine i_isR x3 (hk 11 (by decide)) ?_
    repeat' (walk_at "jv")
    intro p4 n4
    have s4 := Same.upd_new (o := .lst [.bl (fb 8), .bl (fb 9), .bl (fb 10), .bl (fb 11)]) n4
    have e4 := upd_same (H := H3) (a := p4) (o := .lst [.bl (fb 8), .bl (fb 9), .bl (fb 10), .bl (fb 11)])
    generalize upd H3 p4 (.lst [.bl (fb 8), .bl (fb 9), .bl (fb 10), .bl (fb 11)]) = H4 at *
    have x4 := ExAt.same s4 x3
    repeat' (walk_at "jv")
    refine i_cat (s4 _ _ e3) e4 (by simp only [List.length_append, List.length_cons, List.length_nil]; rw [sizeLine_eq]; omega) fun p5 H5 s5 e5 => ?_
    have x5 := ExAt.same s5 x4
    repeat' (walk_at "jv")
    refine i_isR x5 (hk 12 (by decide)) ?_
    repeat' (walk_at "jv")
    refine i_isR x5 (hk 13 (by decide)) ?_
    repeat' (walk_at "jv")
    refine i_isR x5 (hk 14 (by decide)) ?_
    repeat' (walk_at "jv")
    refine i_isR x5 (hk 15 (by decide)) ?_
    repeat' (walk_at "jv")
    intro p6 n6
    have s6 := Same.upd_new (o := .lst [.bl (fb 12), .bl (fb 13), .bl (fb 14), .bl (fb 15)]) n6
    have e6 := upd_same (H := H5) (a := p6) (o := .lst [.bl (fb 12), .bl (fb 13), .bl (fb 14), .bl (fb 15)])
    generalize upd H5 p6 (.lst [.bl (fb 12), .bl (fb 13), .bl (fb 14), .bl (fb 15)]) = H6 at *
    have x6 := ExAt.same s6 x5
    repeat' (walk_at "jv")
    refine i_cat (s6 _ _ e5) e6 (by simp only [List.length_append, List.length_cons, List.length_nil]; rw [sizeLine_eq]; omega) fun p7 H7 s7 e7 => ?_
    have x7 := ExAt.same s7 x6
    repeat' (walk_at "jv")
    refine i_isR x7 (hk 16 (by decide)) ?_
    repeat' (walk_at "jv")
    refine i_isR x7 (hk 17 (by decide)) ?_
    repeat' (walk_at "jv")
    refine i_isR x7 (hk 18 (by decide)) ?_
    repeat' (walk_at "jv")
    refine i_isR x7 (hk 19 (by decide)) ?_
    repeat' (walk_at "jv")
    intro p8 n8
    have s8 := Same.upd_new (o := .lst [.bl (fb 16), .bl (fb 17), .bl (fb 18), .bl (fb 19)]) n8
    have e8 := upd_same (H := H7) (a := p8) (o := .lst [.bl (fb 16), .bl (fb 17), .bl (fb 18), .bl (fb 19)])
    generalize upd H7 p8 (.lst [.bl (fb 16), .bl (fb 17), .bl (fb 18), .bl (fb 19)]) = H8 at *
    have x8 := ExAt.same s8 x7
    repeat' (walk_at "jv")
    refine i_cat (s8 _ _ e7) e8 (by simp only [List.length_append, List.length_cons, List.length_nil]; rw [sizeLine_eq]; omega) fun p9 H9 s9 e9 => ?_
    have x9 := ExAt.same s9 x8
    repeat' (walk_at "jv")
    refine i_isR x9 (hk 20 (by decide)) ?_
    repeat' (walk_at "jv")
    refine i_isR x9 (hk 21 (by decide)) ?_
    repeat' (walk_at "jv")
    refine i_isR x9 (hk 22 (by decide)) ?_
    repeat' (walk_at "jv")
    refine i_isR x9 (hk 23 (by decide)) ?_
    repeat' (walk_at "jv")
    intro p10 n10
    have s10 := Same.upd_new (o := .lst [.bl (fb 20), .bl (fb 21), .bl (fb 22), .bl (fb 23)]) n10
    have e10 := upd_same (H := H9) (a := p10) (o := .lst [.bl (fb 20), .bl (fb 21), .bl (fb 22), .bl (fb 23)])
    generalize upd H9 p10 (.lst [.bl (fb 20), .bl (fb 21), .bl (fb 22), .bl (fb 23)]) = H10 at *
    have x10 := ExAt.same s10 x9
    repeat' (walk_at "jv")
    refine i_cat (s10 _ _ e9) e10 (by simp only [List.length_append, List.length_cons, List.length_nil]; rw [sizeLine_eq]; omega) fun p11 H11 s11 e11 => ?_
    have x11 := ExAt.same s11 x10
    repeat' (walk_at "jv")
    refine i_isR x11 (hk 24 (by decide)) ?_
    repeat' (walk_at "jv")
    intro p12 n12
    have s12 := Same.upd_new (o := .lst [.bl (fb 24)]) n12
    have e12 := upd_same (H := H11) (a := p12) (o := .lst [.bl (fb 24)])
    generalize upd H11 p12 (.lst [.bl (fb 24)]) = H12 at *
    have x12 := ExAt.same s12 x11
    repeat' (walk_at "jv")
    refine i_cat (s12 _ _ e11) e12 (by simp only [List.length_append, List.length_cons, List.length_nil]; rw [sizeLine_eq]; omega) fun p13 H13 s13 e13 => ?_
    have x13 := ExAt.same s13 x12
    repeat' (walk_at "jv")
    exact q _ _ (same_trans (same_trans (same_trans (same_trans (same_trans (same_trans (same_trans (same_trans (same_trans (same_trans (same_trans (same_trans s1 s2) s3) s4) s5) s6) s7) s8) s9) s10) s11) s12) s13) e13
end
end
section
open L2 PySem PySem.Spec PyProof.Rows
def clsBody : Stmt → List Stmt
  | .ClassDef (body := b) .. => b
  | _ => []
abbrev s_init : Stmt := (clsBody (topS 6)).getD 0 (.Pass ⟨0, 0, 0, 0⟩)
theorem sc_init : FnScope ["self", "row", "word"] ["self", "row", "word"] (defScope s_init) := ⟨rfl, rfl, rfl, by decide +kernel, rfl, by decide +kernel, by decide +kernel⟩
def spInit (K : PySem.W.Frag) : Sp := fun vs H Q _ => ∃ (a : Addr) (r w : Nat), vs = [.ref a, .int (r : Int), .int (w : Int)] ∧ r < 1000 ∧ w < 1000 ∧ H a = some (exo a (Ca K 4) none) ∧
  ∀ d H', H d = none → (∀ b o, b ≠ a → H b = some o → H' b = some o) → H' a = some (exo a (Ca K 4) (some d)) → H' d = some (exd d [("word", .int (w : Int)), ("row", .int (r : Int))]) → Q .non H'
section
variable {base : Heap} {P : Program} {w : World} {K : PySem.W.Frag} {mg : Str → Option Value} {fI : Addr} {fd : FuncData}
theorem ok_init (F : Fun K "__init__" "BadRows.__init__" s_init fI fd) (W : Wd K mg fI) : FnOk P w K mg base CX0 1 fI fd ["self", "row", "word"] (spInit K) := by
  refine F.ok sc_init (fun vs H Q E h => ?_) (fun cdv A outer s H vs Q E hr h => ?_)
  · obtain ⟨a, r, w, rfl, _⟩ := h
    rfl
  · obtain ⟨a, r, w, rfl, hr3, hw3, ha, q⟩ := h
    refine ⟨_, pss_cons (ps_expr (pe_cinit W.gT W.rd W.ga W.vV (pa_cons (pv 0) (pa_cons (pe_joined (PJ.cons pe_str (PJ.cons (pe_fmt (pv 1)) (PJ.cons pe_str (PJ.cons (pe_fmt (pv 2)) (PJ.cons pe_str PJ.nil)))))) pa_nil)))) (pss_cons (ps_ost (pv 0) (pv 1)) (pss_one (ps_ost (pv 0) (pv 2)))), ?_⟩
    have l1 := small_text r hr3
    have l2 := small_text w hw3
    refine i_seq (i_drop ?_)
    refine i_cons (i_var (v := .ref a) rfl ?_)
    refine i_cons ?_
    refine ⟨_, rfl, ?_, _, rfl, .inr ⟨_, rfl, small_log r hr3, _, rfl, ?_, _, rfl, ?_, _, rfl, .inr ⟨_, rfl, small_log w hw3, _, rfl, ?_, _, rfl, ?_, ?_⟩⟩⟩
    · decide
    · rw [Str.length_append, sizeLine_eq]
      have : (Str.empty ++ Str.ofString "row " : Str).length = 4 := by decide +kernel
      omega
    · rw [Str.length_append, Str.length_append, sizeLine_eq]
      have : (Str.empty ++ Str.ofString "row " : Str).length = 4 := by decide +kernel
      have : (Str.ofString ", word " : Str).length = 7 := by decide +kernel
      omega
    · rw [Str.length_append, Str.length_append, Str.length_append, sizeLine_eq]
      have : (Str.empty ++ Str.ofString "row " : Str).length = 4 := by decide +kernel
      have : (Str.ofString ", word " : Str).length = 7 := by decide +kernel
      omega
    · rw [Str.length_append, Str.length_append, Str.length_append, Str.length_append, sizeLine_eq]
      have : (Str.empty ++ Str.ofString "row " : Str).length = 4 := by decide +kernel
      have : (Str.ofString ", word " : Str).length = 7 := by decide +kernel
      have : (Str.ofString " does not fit" : Str).length = 13 := by decide +kernel
      omega
    · dsimp only [tJs, tNil]
      refine ⟨a, Ca K 4, [_], rfl, (by show 1 ≤ 1000; decide), W.ox.ox, ha, ?_⟩
      refine i_seq ?_
      refine ⟨_, rfl, _, rfl, a, Ca K 4, rfl, W.ox.ox, W.nr, .inl ⟨ha, fun d n ne => ?_⟩⟩
      refine ⟨_, rfl, _, rfl, a, Ca K 4, rfl, W.ox.ox, W.nw, .inr ⟨d, _, upd_same, (upd_ne ne).trans upd_same, (by show 1 ≤ 900; decide), ?_⟩⟩
      refine q d _ n (fun b o hb e => ?_) ?_ upd_same
      · have nd : b ≠ d := ne_of_none e n
        rw [upd_ne nd, upd_ne hb, upd_ne nd]
        exact e
      · rw [upd_ne (Ne.symm ne)]
        exact upd_same
end
end
section
open L2 PySem PySem.Spec PyProof.Rows
local macro_rules | `(tactic| walk_at "jz") => `(tactic| first
  | assumption
  | (rw [sizeLine_eq]; simp only [List.length_map, List.length_append, List.length_cons, List.length_nil, List.length_range, List.length_take, List.length_drop]; omega)
  | (rw [sizeLine_eq]; omega)
  | fail "none")
local macro_rules | `(tactic| walk_at "jc") => `(tactic| first
  | assumption
  | (refine ⟨?_, ?_⟩ <;> omega)
  | (show (0 : Int) < _; omega)
  | (show (0 : Int) < _; decide)
  | (refine ⟨?_, ?_, ?_⟩ <;> decide)
  | (refine ⟨?_, ?_⟩ <;> decide)
  | (left; refine ⟨?_, ?_⟩ <;> omega)
  | (right; refine ⟨?_, ?_⟩ <;> omega)
  | fail "none")
local macro_rules | `(tactic| walk_at "jn") => `(tactic| first
  | assumption
  | (apply Ne.symm; assumption)
  | (refine Fd.ne (H := ?h0) (c := ?c0) ?e0 ?n0; (case n0 => assumption); (case e0 => walk_at "jf"))
  | (apply Ne.symm; refine Fd.ne (H := ?h0) (c := ?c0) ?e0 ?n0; (case n0 => assumption); (case e0 => walk_at "jf"))
  | (refine ne_of_none (H := ?h0) (o := ?o0) ?e0 ?n0; (case n0 => assumption); (case e0 => walk_at "jl"))
  | (apply Ne.symm; refine ne_of_none (H := ?h0) (o := ?o0) ?e0 ?n0; (case n0 => assumption); (case e0 => walk_at "jl"))
  | fail "none")
local macro_rules | `(tactic| walk_at "jl") => `(tactic| first
  | assumption
  | exact upd_same
  | (refine Ch.at (a := ?a0) (H := ?h0) ?c0 ?n0 ?e0; (case c0 => assumption); (case n0 => walk_at "jn"); (case e0 => walk_at "jl"))
  | (refine (upd_ne ?_).trans ?_; (walk_at "jn"); (walk_at "jl"))
  | fail "none")
local macro_rules | `(tactic| walk_at "jq") => `(tactic| first
  | assumption
  | ((with_reducible refine sq_lst ?_); (walk_at "jl"))
  | ((with_reducible refine sq_tup ?_); (walk_at "jl"))
  | ((with_reducible refine Ch.sqA (a := ?a0) (H := ?h0) ?c0 ?n0 ?e0); (case c0 => assumption); (case n0 => walk_at "jn"); (case e0 => walk_at "jq"))
  | ((with_reducible refine Ch.sqL (a := ?a0) (H := ?h0) ?c0 ?n0 ?e0); (case c0 => assumption); (case n0 => walk_at "jn"); (case e0 => walk_at "jq"))
  | ((with_reducible refine Ch.sqT (a := ?a0) (H := ?h0) ?c0 ?n0 ?e0); (case c0 => assumption); (case n0 => walk_at "jn"); (case e0 => walk_at "jq"))
  | ((with_reducible refine sqA_same (H := ?h0) ?c0 ?e0); (case c0 => first | assumption | (refine Same.upd_new ?_; assumption)); (case e0 => walk_at "jq"))
  | ((with_reducible refine SqA.l ?_); (walk_at "jq"))
  | ((with_reducible refine SqA.t ?_); (walk_at "jq"))
  | fail "none")
local macro_rules | `(tactic| walk_at "jf") => `(tactic| first
  | assumption
  | (refine Fd.upd ?_ ?_; (walk_at "jf"); (walk_at "jn"))
  | fail "none")
local macro_rules | `(tactic| walk_at "jh") => `(tactic| first
  | assumption
  | exact Ch.refl _
  | exact Ch.upd_self
  | (refine Ch.upd_l ?_ ?_; (walk_at "jh"); assumption)
  | (refine Ch.upd_a ?_; (walk_at "jh"))
  | (refine Ch.upd_n ?c0 ?c1; (case c1 => assumption); (case c0 => walk_at "jh"))
  | (refine Ch.trans (H1 := ?h1) ?c0 ?c1; (case c1 => assumption); (case c0 => walk_at "jh"))
  | fail "none")
local macro_rules | `(tactic| walk_at "jt") => `(tactic| first
  | assumption
  | exact TK.refl _
  | ((with_reducible refine TK.new' ?c0 ?c1); (case c1 => assumption); (case c0 => walk_at "jt"))
  | ((with_reducible refine TK.lst' (xs := ?xs1) ?c0 ?c1); (case c1 => walk_at "jl"); (case c0 => walk_at "jt"))
  | ((with_reducible refine TK.ch' (H1 := ?h1) (a := ?a1) (c := ?k1) ?c0 ?c1 ?c2); (case c1 => assumption); (case c2 => walk_at "jf"); (case c0 => walk_at "jt"))
  | fail "jt")
local macro_rules | `(tactic| walk_at "js") => `(tactic| with_reducible (first
  | refine i_nx ?_ | refine i_rt ?_ | refine i_bk ?_ | refine i_ct ?_
  | refine i_seq ?_ | refine i_asg ?_ | refine i_gname ?_ | refine i_ifS ?_ | refine i_test ?_ | refine i_tB ?_ | refine i_ret ?_ | refine i_retN ?_ | refine i_drop ?_ | refine i_next ?_
  | refine i_op ?_ | refine i_un ?_ | refine i_c ?_ | refine i_rI0 ?_ | refine i_rU ?_ | refine i_add ?_ | refine i_sub ?_ | refine i_eqI ?_ | refine i_neI ?_ | refine i_eqS ?_ | refine i_neS ?_
  | refine i_bl ?_ | refine i_blQ ?_ | refine i_not ?_ | refine i_and ?_ | refine i_or ?_ | refine i_notV ?_ | refine i_andV ?_ | refine i_orV ?_ | refine i_if ?_ | refine i_chain ?_
  | refine i_gsub ?_ | refine i_cons ?_ | refine i_nil ?_ | refine i_cb ?_ | refine i_call ?_ | refine i_tup ?_ | refine i_lst ?_ | refine i_par ?_ | refine i_par' ?_ | refine i_par3 ?_ | refine i_par3' ?_
  | refine i_sl ?_ | refine i_npart ?_ | refine i_part ?_ | refine i_partI ?_ | refine i_bm ?_ | refine i_for ?_ | refine i_lc ?_ | refine i_yes ?_ | refine i_lrg ?_ | refine i_gcons ?_ | refine i_gnil ?_ | refine i_rng1 ?_ | refine i_rng2 ?_ | refine i_ilist ?_ | refine i_itup ?_
  | refine i_iteT ?_ | refine i_iteF ?_ | refine i_iteNT ?_ | refine i_iteNF ?_
  | fail "js"))
local macro_rules | `(tactic| walk_at "jv") => `(tactic| first
  | walk_at "js"
  | ((with_reducible refine i_var (v := ?v) ?e ?_); (case e => rfl))
  | ((with_reducible refine i_ixL (v := ?v) (xs := ?xs) ?e ?z ?_); (case e => walk_at "jq"); (case z => first | exact at0 | exact at1 | exact at2 | assumption))
  | ((with_reducible refine i_ixT (v := ?v) (xs := ?xs) ?e ?z ?_); (case e => walk_at "jq"); (case z => first | exact at0 | exact at1 | exact at2 | assumption))
  | ((with_reducible refine i_setL (xs := ?xs) (j := ?j) ?e ?z ?_); (case e => walk_at "jl"); (case z => first | rfl | assumption))
  | (with_reducible refine i_ite (fun _ => ?_) (fun _ => ?_))
  | (with_reducible refine i_iteN (fun _ => ?_) (fun _ => ?_))
  | ((with_reducible refine i_rI (i := ?i) (j := ?j) ?c ?_); (case c => walk_at "jc"))
  | (with_reducible refine i_int ?_)
  | (with_reducible refine i_intB ?_)
  | (with_reducible refine i_max ?_)
  | (with_reducible refine i_min ?_)
  | ((with_reducible refine i_tupL (ys := ?ys) ?e ?_); (case e => walk_at "jq"))
  | ((with_reducible refine i_tupT (ys := ?ys) ?e ?_); (case e => walk_at "jq"))
  | ((with_reducible refine i_lstL (ys := ?ys) ?e ?_); (case e => walk_at "jq"))
  | ((with_reducible refine i_lstT (ys := ?ys) ?e ?_); (case e => walk_at "jq"))
  | ((with_reducible refine i_lenL (ys := ?ys) ?e ?_); (case e => walk_at "jq"))
  | ((with_reducible refine i_lenT (ys := ?ys) ?e ?_); (case e => walk_at "jq"))
  | ((with_reducible refine i_all (bs := ?bs) ?e ?_); (case e => walk_at "jq"))
  | ((with_reducible refine i_slL (xs := ?xs) ?e ?_); (case e => walk_at "jq"))
  | ((with_reducible refine i_tyL (xs := ?xs) ?e ?_); (case e => walk_at "jq"))
  | ((with_reducible refine i_app (xs := ?xs) ?e ?z ?_); (case e => walk_at "jl"); (case z => walk_at "jz"))
  | ((with_reducible refine i_ixA (v := ?v) (xs := ?xs) ?e ?z ?_); (case e => walk_at "jq"); (case z => first | exact at0 | exact at1 | exact at2 | assumption))
  | ((with_reducible refine i_lenA (ys := ?ys) ?e ?_); (case e => walk_at "jq"))
  | ((with_reducible refine i_lstA (ys := ?ys) ?e ?_); (case e => walk_at "jq"))
  | ((with_reducible refine i_sum (ns := ?ns) ?e ?_); (case e => walk_at "jq"))
  | ((with_reducible refine i_rgK ?b ?_); (case b => first | assumption | (refine ⟨?_, ?_⟩ <;> omega)))
  | ((with_reducible refine i_rgK2 ?b ?_); (case b => first | assumption | (refine ⟨?_, ?_, ?_, ?_⟩ <;> omega)))
  | ((with_reducible refine i_ilK (xs := ?xs) ?e ?_); (case e => walk_at "jq"))
  | ((with_reducible refine i_itK (xs := ?xs) ?e ?_); (case e => walk_at "jq"))
  | ((with_reducible refine i_gtup (xs := ?xs) ?e ?z ?_); (case e => walk_at "jq"); (case z => rfl))
  | (with_reducible refine is_int _ ?_)
  | (with_reducible refine is_int_bool _ ?_)
  | (with_reducible refine is_str _ ?_)
  | ((with_reducible refine is_tup (xs := ?xs) ?e ?_); (case e => walk_at "jq"))
  | ((with_reducible refine i_wip ?z ?_); (case z => rfl))
  | ((with_reducible refine i_lcE (acc := ?acc) ?e ?z ?_); (case e => walk_at "jl"); (case z => walk_at "jz"))
  | ((with_reducible refine i_inS (ns := ?ns) ?e ?_); (case e => walk_at "jq"))
  | ((with_reducible refine i_al ?z ?_); (case z => first | (show _ ≤ sizeLine; decide) | walk_at "jz"))
  | fail "none")
abbrev s__law_is_caught : Stmt := topS 29
theorem sc__law_is_caught : FnScope ["_law_number", "_law_text"] ["_law_number", "_law_text"] (defScope s__law_is_caught) := ⟨rfl, rfl, rfl, by decide +kernel, rfl, by decide +kernel, by decide +kernel⟩
abbrev s__law_is_base_caught : Stmt := topS 30
theorem sc__law_is_base_caught : FnScope ["_law_row", "_law_word", "_law_e"] ["_law_row", "_law_word"] (defScope s__law_is_base_caught) := ⟨rfl, rfl, rfl, by decide +kernel, rfl, by decide +kernel, by decide +kernel⟩
def spCaught : Sp := fun vs H Q _ => ∃ (n : Int) (t : Str), vs = [.int n, .str t] ∧ (n = 0 ∨ n = 5 ∨ n = 9 ∨ n = 22 ∨ n = 24) ∧ ∀ H', Same H H' → Q (.bl true) H'
def spBase : Sp := fun vs H Q _ => ∃ (r w : Nat), vs = [.int (r : Int), .int (w : Int)] ∧ r < 1000 ∧ w < 1000 ∧ ∀ H', Same H H' → Q (.bl true) H'
section
variable {base : Heap} {P : Program} {w : World} {K : PySem.W.Frag} {mg : Str → Option Value} {fI : Addr} {fd : FuncData}
theorem w_skip {Wo : WX} {D : Ends} {l : List (Value × (Addr → Value → Option Addr → TS))} {c : Value} {ts : Addr → Value → Option Addr → TS} {cls : Value} {d : Option Addr} {σ : L2.St} {H : Hp} (e : PySem.W.exmOne K cls c = some false) (h : wMany K Wo D l cls d σ H) :
    wMany K Wo D ((c, ts) :: l) cls d σ H := ⟨false, e, fun z => (nomatch z), fun _ => h⟩
theorem w_take {Wo : WX} {D : Ends} {l : List (Value × (Addr → Value → Option Addr → TS))} {c : Value} {ts : Addr → Value → Option Addr → TS} {cls : Value} {d : Option Addr} {σ : L2.St} {H : Hp} (e : PySem.W.exmOne K cls c = some true) (h : ∀ a, H a = none → ts a cls d D σ H) :
    wMany K Wo D ((c, ts) :: l) cls d σ H := ⟨true, e, fun _ => h, fun z => (nomatch z)⟩
theorem lk_row (r w : V) : List.lookup ("row" : Str) [(("word" : Str), w), (("row" : Str), r)] = some r := by
  have e : (("row" : Str) == ("word" : Str)) = false := by decide +kernel
  simp [List.lookup, e]
theorem lk_word (r w : V) : List.lookup ("word" : Str) [(("word" : Str), w), (("row" : Str), r)] = some w := by
  simp [List.lookup]
theorem ok_caught (D : Dn K mg "_law_is_caught" s__law_is_caught ["_law_number", "_law_text"]) (B : Bn mg) (W : Wd K mg fI) : Cl P w K mg base 2 "_law_is_caught" ["_law_number", "_law_text"] spCaught := by
  refine D.cl sc__law_is_caught (fun vs H Q E h => ?_) (fun f cdv A outer s H vs Q E hr h => ?_)
  · obtain ⟨n, t, rfl, _⟩ := h
    rfl
  · obtain ⟨n, t, rfl, hn, q⟩ := h
    refine ⟨_, (pss_one (ps_try_many rfl rfl takes_none5 (fun Wi pn xe tk _ => (pss_cons (ps_if (pt_cmpR op_eq (pv 0) pe_int (nomark _)) (pss_one (ps_raise rfl tk (SkE.pmk_own1 PySem.F.excBase_ValueError (W.ex 0 (by decide) (by decide)) (W.g 0 (by decide)) (W.kp 0 (by decide)) (raises_own (W.xc 0 (by decide)).hs (W.ty 0 (by decide))) rfl (pv 1)))) pss_nil)
        (pss_cons (ps_if (pt_cmpR op_eq (pv 0) pe_int (nomark _)) (pss_one (ps_raise rfl tk (SkE.pmk_own1 PySem.F.excBase_ValueError (W.ex 5 (by decide) (by decide)) (W.g 5 (by decide)) (W.kp 5 (by decide)) (raises_own (W.xc 5 (by decide)).hs (W.ty 5 (by decide))) rfl (pv 1)))) pss_nil)
        (pss_cons (ps_if (pt_cmpR op_eq (pv 0) pe_int (nomark _)) (pss_one (ps_raise rfl tk (SkE.pmk_own1 PySem.F.excBase_ValueError (W.ex 9 (by decide) (by decide)) (W.g 9 (by decide)) (W.kp 9 (by decide)) (raises_own (W.xc 9 (by decide)).hs (W.ty 9 (by decide))) rfl (pv 1)))) pss_nil)
        (pss_cons (ps_if (pt_cmpR op_eq (pv 0) pe_int (nomark _)) (pss_one (ps_raise rfl tk (SkE.pmk_own1 PySem.F.excBase_ValueError (W.ex 22 (by decide) (by decide)) (W.g 22 (by decide)) (W.kp 22 (by decide)) (raises_own (W.xc 22 (by decide)).hs (W.ty 22 (by decide))) rfl (pv 1)))) pss_nil)
        (pss_one (ps_raise rfl tk (SkE.pmk_own1 PySem.F.excBase_ValueError (W.ex 24 (by decide) (by decide)) (W.g 24 (by decide)) (W.kp 24 (by decide)) (raises_own (W.xc 24 (by decide)).hs (W.ty 24 (by decide))) rfl (pv 1)))))))))
      (HdsOk.cons ⟨rfl, by decide, .inl (W.g 0 (by decide))⟩ (fun a oe cls d pn hz hf => (pss_one (ps_ret (pe_cmpR op_eq (pv 0) pe_int (nomark _)))))
        (HdsOk.cons ⟨rfl, by decide, .inl (W.g 5 (by decide))⟩ (fun a oe cls d pn hz hf => (pss_one (ps_ret (pe_cmpR op_eq (pv 0) pe_int (nomark _)))))
        (HdsOk.cons ⟨rfl, by decide, .inl (W.g 9 (by decide))⟩ (fun a oe cls d pn hz hf => (pss_one (ps_ret (pe_cmpR op_eq (pv 0) pe_int (nomark _)))))
        (HdsOk.cons ⟨rfl, by decide, .inl (W.g 22 (by decide))⟩ (fun a oe cls d pn hz hf => (pss_one (ps_ret (pe_cmpR op_eq (pv 0) pe_int (nomark _)))))
        (HdsOk.cons ⟨rfl, by decide, .inl (W.g 24 (by decide))⟩ (fun a oe cls d pn hz hf => (pss_one (ps_ret (pe_cmpR (k_notInS (K := K)) (pv 0) (pe_lst (pa_cons pe_int (pa_cons pe_int (pa_cons pe_int (pa_cons pe_int pa_nil))))) (by rfl)))))
        HdsOk.nil))))))), ?_⟩
    have em := W.em
    have sr : Same H H := fun _ _ e => e
    rcases hn with rfl | rfl | rfl | rfl | rfl
    all_goals repeat' (walk_at "jv")
    all_goals first | (exfalso; omega) | skip
    · refine w_take (em 0 0 (by decide) (by decide)) fun a ha => ?_
      repeat' (walk_at "jv")
      exact q H sr
    · refine w_skip (em 5 0 (by decide) (by decide)) (w_take (em 5 5 (by decide) (by decide)) fun a ha => ?_)
      repeat' (walk_at "jv")
      exact q H sr
    · refine w_skip (em 9 0 (by decide) (by decide)) (w_skip (em 9 5 (by decide) (by decide)) (w_take (em 9 9 (by decide) (by decide)) fun a ha => ?_))
      repeat' (walk_at "jv")
      exact q H sr
    · refine w_skip (em 22 0 (by decide) (by decide)) (w_skip (em 22 5 (by decide) (by decide)) (w_skip (em 22 9 (by decide) (by decide)) (w_take (em 22 22 (by decide) (by decide)) fun a ha => ?_)))
      repeat' (walk_at "jv")
      exact q H sr
    · refine w_skip (em 24 0 (by decide) (by decide)) (w_skip (em 24 5 (by decide) (by decide)) (w_skip (em 24 9 (by decide) (by decide)) (w_skip (em 24 22 (by decide) (by decide)) (w_take (em 24 24 (by decide) (by decide)) fun a ha => ?_))))
      repeat' (walk_at "jv")
      intro p np
      refine ⟨p, _, rfl, .inl (sq_lst upd_same), rfl, rfl, ?_⟩
      have e : (!inV (.int 24) [V.int 0, V.int 5, V.int 9, V.int 22]) = true := by decide +kernel
      show Q (.bl (!inV (.int 24) [V.int 0, V.int 5, V.int 9, V.int 22])) _
      rw [e]
      exact q _ (Same.upd_new np)
theorem ok_base (D : Dn K mg "_law_is_base_caught" s__law_is_base_caught ["_law_row", "_law_word"]) (B : Bn mg) (W : Wd K mg fI) (F_init : FnOk P w K mg base CX0 1 fI fd ["self", "row", "word"] (spInit K)) (b_init : Binds K fd ["self", "row", "word"] []) :
    Cl P w K mg base 3 "_law_is_base_caught" ["_law_row", "_law_word"] spBase := by
  refine D.cl sc__law_is_base_caught (fun vs H Q E h => ?_) (fun f cdv A outer s H vs Q E hr h => ?_)
  · obtain ⟨r, w, rfl, _⟩ := h
    rfl
  · obtain ⟨r, w, rfl, hr3, hw3, q⟩ := h
    refine ⟨_, (pss_one (ps_try_as (i := 2) rfl rfl sc__law_is_base_caught.nd rfl rfl ⟨rfl, by decide, .inl W.gT⟩ takes_none5
      (fun Wi pn xe tk _ => pss_one (ps_raise rfl tk (pmk_oex W.ox.ox W.ox.ini W.ox.tI F_init (hr.mono (by decide)) b_init .nil pass0 rfl W.ox.gC (pa_cons (pv 0) (pa_cons (pv 1) pa_nil)))))
      (fun a oe cls d pn hz hf => pss_one (ps_ret (pe_and (pe_callB (call_isT hz hf) rfl B.isinstance_ (by decide +kernel) (pa_cons (pv 2) (pa_cons (pe_gref (W.g 4 (by decide))) pa_nil)))
        (pe_and (pe_cmpR op_eq (pe_xf (W.xc 4 (by decide)).xf W.nr hz hf (pv 2)) (pv 0) (nomark _)) (pe_one (pe_cmpR op_eq (pe_xf (W.xc 4 (by decide)).xf W.nw hz hf (pv 2)) (pv 1) (nomark _))))))))), ?_⟩
    refine i_cons (i_var rfl (i_cons (i_var rfl (i_nil ?_))))
    refine ⟨(by show 2 ≤ 1000; decide), fun a n => ?_⟩
    refine ⟨a, r, w, rfl, hr3, hw3, upd_same, fun d H' nd k ea ed => ?_⟩
    have nda : d ≠ a := fun z => by
      rw [z, upd_same] at nd
      cases nd
    have nd0 : H d = none := by
      rw [upd_ne nda] at nd
      exact nd
    refine ⟨rfl, d, _, ea, ed, nd0, ?_⟩
    refine ⟨true, W.emT, fun _ a0 n0 => ?_, fun z => nomatch z⟩
    refine i_ret (i_andV (i_cb (i_cons (i_var rfl (i_cons (i_c (i_nil ?_)))))))
    refine ⟨Ca K 4, _, _, true, rfl, W.xc 4 (by decide), rfl, fun _ r => r, ⟨d, _, rfl, upd_same⟩, W.kit 4 4 (by decide) (by decide), ?_⟩
    refine i_blQ (i_iteT (i_andV (i_op ?_)))
    refine ⟨_, rfl, rfl, rfl, d, _, .int (r : Int), rfl, upd_same, lk_row _ _, ?_⟩
    repeat' (walk_at "jv")
    · refine ⟨_, rfl, rfl, rfl, d, _, .int (w : Int), rfl, upd_same, lk_word _ _, ?_⟩
      repeat' (walk_at "jv")
      have sm : Same H (upd (del H' a) d (.xd [("word", .int (w : Int)), ("row", .int (r : Int))])) := fun b o e => by
        have hb : b ≠ a := ne_of_none e n
        rw [upd_ne (ne_of_none e nd0), del_ne hb]
        exact k b o hb (by rw [upd_ne hb]; exact e)
      have ed : decide ((w : Int) = (w : Int)) = true := decide_eq_true rfl
      rw [ed]
      exact q _ sm
    · rename_i z
      exact absurd rfl z
end
end
section
open L2 PySem PySem.Spec PyProof.Rows
section
variable {σ : L2.St} {H : Hp} {Q : VK} {K : PySem.W.Frag} {p q : Addr}
theorem dp_bls (f : Nat → Bool) : ∀ l : List Nat, DpAll K H (l.map fun j => V.bl (f j)) (l.map fun j => PyData.bool (f j))
  | [] => .nil
  | x :: r => .cons (.bl _) (dp_bls f r)
theorem i_neBls {f g : Nat → Bool} (e1 : SqL K H p ((List.range 25).map fun j => V.bl (f j))) (e2 : SqL K H q ((List.range 25).map fun j => V.bl (g j))) (hfg : ∀ j, j < 25 → f j = g j) (h : Q (.bl false) H) : rNeD K (.ref p) (.ref q) H Q := by
  have eg : ((List.range 25).map fun j => V.bl (g j)) = (List.range 25).map fun j => V.bl (f j) := List.map_congr_left fun j hj => by rw [hfg j (List.mem_range.mp hj)]
  rw [eg] at e2
  have sh : SeqAt.shaped (.list ((List.range 25).map fun j => PyData.bool (f j))) = true := by kernel_rfl
  refine ⟨_, _, .lst e1 (dp_bls f _), .lst e2 (dp_bls f _), sh, sh, ?_⟩
  have e : (!PyData.eqv (.list ((List.range 25).map fun j => PyData.bool (f j))) (.list ((List.range 25).map fun j => PyData.bool (f j)))) = false := by
    rw [SeqAt.eqv_refl _ (SeqAt.canLay_of_shaped sh)]
    rfl
  rw [e]
  exact h
theorem i_oex {i j : Nat} {r w : Nat} (e1 : σ[i]? = some (some (.int (r : Int)))) (e2 : σ[j]? = some (some (.int (w : Int)))) (hr : r < 1000) (hw : w < 1000)
    (h : ∀ a H' d, Same H H' → H' a = some (exo a (Ca K 4) (some d)) → H' d = some (exd d [("word", .int (w : Int)), ("row", .int (r : Int))]) → Q (.ref a) H') :
    tOex (Ca K 4) (spInit K) (tCons (tVar i) (tCons (tVar j) tNil)) σ H Q := by
  refine ⟨_, e1, _, e2, (by show 2 ≤ 1000; decide), fun a n => ?_⟩
  refine ⟨a, r, w, rfl, hr, hw, upd_same, fun d H' nd k ea ed => ?_⟩
  refine ⟨rfl, h a H' d (fun b o e => ?_) ea ed⟩
  have hb : b ≠ a := ne_of_none e n
  exact k b o hb (by rw [upd_ne hb]; exact e)
theorem i_oexK {i j : Nat} {r w : Nat} (e1 : σ[i]? = some (some (.int (r : Int)))) (e2 : σ[j]? = some (some (.int (w : Int)))) (hr : r < 1000) (hw : w < 1000)
    (h : ∀ a H' d, Same H H' → H' a = some (exo a (Ca K 4) (some d)) → H' d = some (exd d [("word", .int (w : Int)), ("row", .int (r : Int))]) → Q (.ref a) H') :
    tOexK (Ca K 4) 2 (spInit K) gWR (tCons (tVar j) (tCons (tVar i) tNil)) σ H Q := by
  refine ⟨_, e2, _, e1, rfl, fun a n => ?_⟩
  refine ⟨a, r, w, rfl, hr, hw, upd_same, fun d H' nd k ea ed => ?_⟩
  refine ⟨rfl, h a H' d (fun b o e => ?_) ea ed⟩
  have hb : b ≠ a := ne_of_none e n
  exact k b o hb (by rw [upd_ne hb]; exact e)
theorem i_xfl {te : TE} {n : Str} (h : te σ H fun x H1 => ∃ (a C d : Addr) (fs : List (Str × V)) (v : V), x = .ref a ∧ XcC K C ∧ PySem.W.findIn K (.ref C) n = some none ∧ H1 a = some (exo a C (some d)) ∧ H1 d = some (exd d fs) ∧ fs.lookup n = some v ∧ Q v H1) : tXfl K n te σ H Q := h
theorem i_flags {a : Addr} {Dv : Value} {f : Nat → Bool} {E : XK} (hx : ExAt K H a Dv) (hk : ∀ j, j < 25 → PySem.W.kitOne K Dv (.ref (Ca K j)) = some (f j)) (h : ∀ p H', Same H H' → H' p = some (.lst ((List.range 25).map fun j => V.bl (f j))) → Q (.ref p) H') :
    spFlags K ([.ref a] ++ []) H Q E := ⟨a, Dv, f, rfl, hx, hk, h⟩
theorem i_show4 {r w : Nat} (e : SqL K H p [.int (r : Int), .int (w : Int), .int (r : Int), .int (w : Int)]) (hr : r < 1000) (hw : w < 1000)
    (h : Q (.str (PyData.shown (.list [.int (r : Int), .int (w : Int), .int (r : Int), .int (w : Int)]))) H) : rShow K [.ref p] H Q := by
  have l1 := small_log r hr
  have l2 := small_log w hw
  refine ⟨.ref p, .list [.int r, .int w, .int r, .int w], rfl, .lst e (.cons (.int _) (.cons (.int _) (.cons (.int _) (.cons (.int _) .nil)))), ?_, rfl, ?_, ?_, ⟨p, rfl⟩, h⟩
  · show (decide _ && (decide _ && (decide _ && (decide _ && true)))) = true
    rw [decide_eq_true l1, decide_eq_true l2]
    rfl
  · exact Nat.le_of_ble_eq_true (by kernel_rfl)
  · have t1 := small_text r hr
    have t2 := small_text w hw
    simp only [PyData.shown, PyData.shownAll, listText, textFrom, Str.length_append, sizeLine_eq]
    have sp : ∀ k : Nat, (Str.ofString (if k > 0 then ", " else "")).length ≤ 2 := by
      intro k
      split
      · decide +kernel
      · decide +kernel
    have b1 : (Str.ofString "[").length = 1 := by decide +kernel
    have b2 : (Str.ofString "]").length = 1 := by decide +kernel
    have q0 := sp 0
    have q1 := sp (0 + 1)
    have q2 := sp (0 + 1 + 1)
    have q3 := sp (0 + 1 + 1 + 1)
    omega
theorem i_iteNT {A B : Prop} (h : B) : if (!true) = true then A else B := h
theorem i_iteNF {A B : Prop} (h : A) : if (!false) = true then A else B := h
theorem in_false : inV (.bl true) ((List.range 25).map fun _ => V.bl false) = false := by decide +kernel
end
end
section
open L2 PySem PySem.Spec PyProof.Rows
local macro_rules | `(tactic| walk_at "jz") => `(tactic| first
  | assumption
  | (rw [sizeLine_eq]; simp only [List.length_map, List.length_append, List.length_cons, List.length_nil, List.length_range, List.length_take, List.length_drop]; omega)
  | (rw [sizeLine_eq]; omega)
  | fail "none")
local macro_rules | `(tactic| walk_at "jc") => `(tactic| first
  | assumption
  | (refine ⟨?_, ?_⟩ <;> omega)
  | (show (0 : Int) < _; omega)
  | (show (0 : Int) < _; decide)
  | (refine ⟨?_, ?_, ?_⟩ <;> decide)
  | (refine ⟨?_, ?_⟩ <;> decide)
  | (left; refine ⟨?_, ?_⟩ <;> omega)
  | (right; refine ⟨?_, ?_⟩ <;> omega)
  | fail "none")
local macro_rules | `(tactic| walk_at "jn") => `(tactic| first
  | assumption
  | (apply Ne.symm; assumption)
  | (refine Fd.ne (H := ?h0) (c := ?c0) ?e0 ?n0; (case n0 => assumption); (case e0 => walk_at "jf"))
  | (apply Ne.symm; refine Fd.ne (H := ?h0) (c := ?c0) ?e0 ?n0; (case n0 => assumption); (case e0 => walk_at "jf"))
  | (refine ne_of_none (H := ?h0) (o := ?o0) ?e0 ?n0; (case n0 => assumption); (case e0 => walk_at "jl"))
  | (apply Ne.symm; refine ne_of_none (H := ?h0) (o := ?o0) ?e0 ?n0; (case n0 => assumption); (case e0 => walk_at "jl"))
  | fail "none")
local macro_rules | `(tactic| walk_at "jl") => `(tactic| first
  | assumption
  | exact upd_same
  | (refine Ch.at (a := ?a0) (H := ?h0) ?c0 ?n0 ?e0; (case c0 => assumption); (case n0 => walk_at "jn"); (case e0 => walk_at "jl"))
  | (refine (upd_ne ?_).trans ?_; (walk_at "jn"); (walk_at "jl"))
  | fail "none")
local macro_rules | `(tactic| walk_at "jq") => `(tactic| first
  | assumption
  | ((with_reducible refine sq_lst ?_); (walk_at "jl"))
  | ((with_reducible refine sq_tup ?_); (walk_at "jl"))
  | ((with_reducible refine Ch.sqA (a := ?a0) (H := ?h0) ?c0 ?n0 ?e0); (case c0 => assumption); (case n0 => walk_at "jn"); (case e0 => walk_at "jq"))
  | ((with_reducible refine Ch.sqL (a := ?a0) (H := ?h0) ?c0 ?n0 ?e0); (case c0 => assumption); (case n0 => walk_at "jn"); (case e0 => walk_at "jq"))
  | ((with_reducible refine Ch.sqT (a := ?a0) (H := ?h0) ?c0 ?n0 ?e0); (case c0 => assumption); (case n0 => walk_at "jn"); (case e0 => walk_at "jq"))
  | ((with_reducible refine sqA_same (H := ?h0) ?c0 ?e0); (case c0 => first | assumption | (refine Same.upd_new ?_; assumption)); (case e0 => walk_at "jq"))
  | ((with_reducible refine SqA.l ?_); (walk_at "jq"))
  | ((with_reducible refine SqA.t ?_); (walk_at "jq"))
  | fail "none")
local macro_rules | `(tactic| walk_at "jf") => `(tactic| first
  | assumption
  | (refine Fd.upd ?_ ?_; (walk_at "jf"); (walk_at "jn"))
  | fail "none")
local macro_rules | `(tactic| walk_at "jh") => `(tactic| first
  | assumption
  | exact Ch.refl _
  | exact Ch.upd_self
  | (refine Ch.upd_l ?_ ?_; (walk_at "jh"); assumption)
  | (refine Ch.upd_a ?_; (walk_at "jh"))
  | (refine Ch.upd_n ?c0 ?c1; (case c1 => assumption); (case c0 => walk_at "jh"))
  | (refine Ch.trans (H1 := ?h1) ?c0 ?c1; (case c1 => assumption); (case c0 => walk_at "jh"))
  | fail "none")
local macro_rules | `(tactic| walk_at "jt") => `(tactic| first
  | assumption
  | exact TK.refl _
  | ((with_reducible refine TK.new' ?c0 ?c1); (case c1 => assumption); (case c0 => walk_at "jt"))
  | ((with_reducible refine TK.lst' (xs := ?xs1) ?c0 ?c1); (case c1 => walk_at "jl"); (case c0 => walk_at "jt"))
  | ((with_reducible refine TK.ch' (H1 := ?h1) (a := ?a1) (c := ?k1) ?c0 ?c1 ?c2); (case c1 => assumption); (case c2 => walk_at "jf"); (case c0 => walk_at "jt"))
  | fail "jt")
local macro_rules | `(tactic| walk_at "js") => `(tactic| with_reducible (first
  | refine i_nx ?_ | refine i_rt ?_ | refine i_bk ?_ | refine i_ct ?_
  | refine i_seq ?_ | refine i_asg ?_ | refine i_gname ?_ | refine i_ifS ?_ | refine i_test ?_ | refine i_tB ?_ | refine i_ret ?_ | refine i_retN ?_ | refine i_drop ?_ | refine i_next ?_
  | refine i_op ?_ | refine i_un ?_ | refine i_c ?_ | refine i_rI0 ?_ | refine i_rU ?_ | refine i_add ?_ | refine i_sub ?_ | refine i_eqI ?_ | refine i_neI ?_ | refine i_eqS ?_ | refine i_neS ?_
  | refine i_bl ?_ | refine i_blQ ?_ | refine i_not ?_ | refine i_and ?_ | refine i_or ?_ | refine i_notV ?_ | refine i_andV ?_ | refine i_orV ?_ | refine i_if ?_ | refine i_chain ?_
  | refine i_gsub ?_ | refine i_cons ?_ | refine i_nil ?_ | refine i_cb ?_ | refine i_call ?_ | refine i_tup ?_ | refine i_lst ?_ | refine i_par ?_ | refine i_par' ?_ | refine i_par3 ?_ | refine i_par3' ?_
  | refine i_sl ?_ | refine i_npart ?_ | refine i_part ?_ | refine i_partI ?_ | refine i_bm ?_ | refine i_for ?_ | refine i_lc ?_ | refine i_yes ?_ | refine i_lrg ?_ | refine i_gcons ?_ | refine i_gnil ?_ | refine i_rng1 ?_ | refine i_rng2 ?_ | refine i_ilist ?_ | refine i_itup ?_
  | refine i_iteT ?_ | refine i_iteF ?_ | refine i_iteNT ?_ | refine i_iteNF ?_
  | fail "js"))
local macro_rules | `(tactic| walk_at "jv") => `(tactic| first
  | walk_at "js"
  | ((with_reducible refine i_var (v := ?v) ?e ?_); (case e => rfl))
  | ((with_reducible refine i_ixL (v := ?v) (xs := ?xs) ?e ?z ?_); (case e => walk_at "jq"); (case z => first | exact at0 | exact at1 | exact at2 | assumption))
  | ((with_reducible refine i_ixT (v := ?v) (xs := ?xs) ?e ?z ?_); (case e => walk_at "jq"); (case z => first | exact at0 | exact at1 | exact at2 | assumption))
  | ((with_reducible refine i_setL (xs := ?xs) (j := ?j) ?e ?z ?_); (case e => walk_at "jl"); (case z => first | rfl | assumption))
  | (with_reducible refine i_ite (fun _ => ?_) (fun _ => ?_))
  | (with_reducible refine i_iteN (fun _ => ?_) (fun _ => ?_))
  | ((with_reducible refine i_rI (i := ?i) (j := ?j) ?c ?_); (case c => walk_at "jc"))
  | (with_reducible refine i_int ?_)
  | (with_reducible refine i_intB ?_)
  | (with_reducible refine i_max ?_)
  | (with_reducible refine i_min ?_)
  | ((with_reducible refine i_tupL (ys := ?ys) ?e ?_); (case e => walk_at "jq"))
  | ((with_reducible refine i_tupT (ys := ?ys) ?e ?_); (case e => walk_at "jq"))
  | ((with_reducible refine i_lstL (ys := ?ys) ?e ?_); (case e => walk_at "jq"))
  | ((with_reducible refine i_lstT (ys := ?ys) ?e ?_); (case e => walk_at "jq"))
  | ((with_reducible refine i_lenL (ys := ?ys) ?e ?_); (case e => walk_at "jq"))
  | ((with_reducible refine i_lenT (ys := ?ys) ?e ?_); (case e => walk_at "jq"))
  | ((with_reducible refine i_all (bs := ?bs) ?e ?_); (case e => walk_at "jq"))
  | ((with_reducible refine i_slL (xs := ?xs) ?e ?_); (case e => walk_at "jq"))
  | ((with_reducible refine i_tyL (xs := ?xs) ?e ?_); (case e => walk_at "jq"))
  | ((with_reducible refine i_app (xs := ?xs) ?e ?z ?_); (case e => walk_at "jl"); (case z => walk_at "jz"))
  | ((with_reducible refine i_ixA (v := ?v) (xs := ?xs) ?e ?z ?_); (case e => walk_at "jq"); (case z => first | exact at0 | exact at1 | exact at2 | assumption))
  | ((with_reducible refine i_lenA (ys := ?ys) ?e ?_); (case e => walk_at "jq"))
  | ((with_reducible refine i_lstA (ys := ?ys) ?e ?_); (case e => walk_at "jq"))
  | ((with_reducible refine i_sum (ns := ?ns) ?e ?_); (case e => walk_at "jq"))
  | ((with_reducible refine i_rgK ?b ?_); (case b => first | assumption | (refine ⟨?_, ?_⟩ <;> omega)))
  | ((with_reducible refine i_rgK2 ?b ?_); (case b => first | assumption | (refine ⟨?_, ?_, ?_, ?_⟩ <;> omega)))
  | ((with_reducible refine i_ilK (xs := ?xs) ?e ?_); (case e => walk_at "jq"))
  | ((with_reducible refine i_itK (xs := ?xs) ?e ?_); (case e => walk_at "jq"))
  | ((with_reducible refine i_gtup (xs := ?xs) ?e ?z ?_); (case e => walk_at "jq"); (case z => rfl))
  | (with_reducible refine is_int _ ?_)
  | (with_reducible refine is_int_bool _ ?_)
  | (with_reducible refine is_str _ ?_)
  | ((with_reducible refine is_tup (xs := ?xs) ?e ?_); (case e => walk_at "jq"))
  | ((with_reducible refine i_wip ?z ?_); (case z => rfl))
  | ((with_reducible refine i_lcE (acc := ?acc) ?e ?z ?_); (case e => walk_at "jl"); (case z => walk_at "jz"))
  | ((with_reducible refine i_inS (ns := ?ns) ?e ?_); (case e => walk_at "jq"))
  | ((with_reducible refine i_al ?z ?_); (case z => first | (show _ ≤ sizeLine; decide) | walk_at "jz"))
  | fail "none")
section
variable {K : PySem.W.Frag} {mg : Str → Option Value} {fI : Addr} {a q4 : Addr} {S : Int} {tx : Str} {r w0 : Nat} {G : Hp} {L : List V} {n : L2.St → Hp → Prop} {rt : VK} {bk ct : L2.St → Hp → Prop}
theorem law_loop (W : Wd K mg fI) (hL : L.length = 25) (eL : G q4 = some (.lst L)) (acc : ∀ i, i < 25 → ∃ b, L[i]? = some (.ref b) ∧ ExAt K G b (.ref (Ca K i)))
    (hn : ∀ (u v : Option V) H', Same G H' → n [some (.ref a), some (.int S), some (.str tx), some (.int (r : Int)), some (.int (w0 : Int)), some (.ref q4), u, v, none, none, none] H') :
    iEnum K (tCons (tVar 5) tNil) [some (.ref a), some (.int S), some (.str tx), some (.int (r : Int)), some (.int (w0 : Int)), some (.ref q4), none, none, none, none, none] G
      (forK (gTup K 2 (gCons (gName 6) (gCons (gName 7) gNil)))
        (tIfS (tOr (tTest (tOp (rNeD K) (tCall (spFlags K) [] (fun _ _ _ => False) (tCons (tVar 7) tNil)) (tLc (iRng1 (tCons (tCB (rLenQ K) (tCons (tVar 5) tNil)) tNil)) (gName 10) tYes (tOp rEq (tVar 6) (tVar 10)) [10])))
          (tOr (tNot (tB (tCB (rIsX K) (tCons (tVar 7) (tCons (tC (V.ref (Ta K))) tNil))))) (tNot (tB (tCB (rIsX K) (tCons (tVar 7) (tCons (tC (V.ty "ValueError")) tNil)))))))
          (tRet (tC (V.bl false))) tNext) ⟨n, rt, bk, ct⟩ [some (.ref a), some (.int S), some (.str tx), some (.int (r : Int)), some (.int (w0 : Int)), some (.ref q4), none, none, none, none, none]) := by
  refine i_ienum (i_cons (i_var rfl (i_nil ?_)))
  refine i_ieK (sq_lst eL) ?_
  refine f_enum L (fun i σ H' => Same G H' ∧ ∃ u v : Option V, σ = [some (.ref a), some (.int S), some (.str tx), some (.int (r : Int)), some (.int (w0 : Int)), some (.ref q4), u, v, none, none, none]) ⟨fun _ _ e => e, none, none, rfl⟩
    (fun i σ H' _ h => sq_lst (h.1 _ _ eL)) (fun i x σ H' T hx h nT => ?_) (fun σ H' h => ?_)
  · obtain ⟨sm, u, v, rfl⟩ := h
    have hi : i < 25 := by
      rw [← hL]
      exact (List.getElem?_eq_some_iff.mp hx).1
    obtain ⟨b, hb, xb⟩ := acc i hi
    rw [hb] at hx
    obtain rfl : V.ref b = x := Option.some.inj hx
    refine i_gtup (sq_tup upd_same) rfl ?_
    have sm2 : Same G (upd H' T (.tup [.int (i : Nat), .ref b])) := same_trans sm (Same.upd_new nT)
    generalize upd H' T (.tup [.int (i : Nat), .ref b]) = H2 at *
    refine i_gcons (i_gname (i_gcons (i_gname (i_gnil ?_))))
    refine i_ifS (i_or (i_test (i_op (i_call (i_cons (i_var rfl (i_nil (i_flags (xb.same sm2) (f := fun j => decide (i = j)) (fun j hj => W.kit i j hi hj) fun p H3 s3 e3 => ?_))))))))
    have sm3 := same_trans sm2 s3
    refine i_lc (i_rng1 (i_cons (i_cb (i_cons (i_var rfl (i_nil (i_lenL (sq_lst (sm3 _ _ eL)) (i_nil (i_rgK (by rw [hL]; decide) ?_)))))))))
    rw [hL]
    refine p_range (fun j => .bl (decide (i = j))) (by decide) (fun D2 ac j N hD hj hN => ?_) (fun D2 hD => ?_)
    · refine i_op (i_var rfl (i_var rfl (i_eqI ?_)))
      have e : decide ((i : Int) = 0 + (j : Int)) = decide (i = j) := by
        by_cases z : i = j
        · subst z
          rw [decide_eq_true rfl, decide_eq_true (by omega)]
        · rw [decide_eq_false z, decide_eq_false (by omega)]
      rw [e]
      exact hN
    · have sm4 := same_trans sm3 (Same.upd_new (o := .lst ((List.range 25).map fun j => V.bl (decide (i = j)))) hD)
      have e4 := Same.upd_new (o := .lst ((List.range 25).map fun j => V.bl (decide (i = j)))) hD _ _ e3
      refine i_neBls (f := fun j => decide (i = j)) (g := fun j => decide (i = j)) (sq_lst e4) (sq_lst upd_same) (fun _ _ => rfl) ?_
      repeat' (walk_at "jv")
      refine i_isR (xb.same sm4) (W.kitT i hi) ?_
      repeat' (walk_at "jv")
      refine i_isV (xb.same sm4) (W.kitV i hi) ?_
      repeat' (walk_at "jv")
      exact ⟨sm4, _, _, rfl⟩
  · obtain ⟨sm, u, v, rfl⟩ := h
    exact hn u v H' sm
end
end
section
open L2 PySem PySem.Spec PyProof.Rows
local macro_rules | `(tactic| walk_at "jz") => `(tactic| first
  | assumption
  | (rw [sizeLine_eq]; simp only [List.length_map, List.length_append, List.length_cons, List.length_nil, List.length_range, List.length_take, List.length_drop]; omega)
  | (rw [sizeLine_eq]; omega)
  | fail "none")
local macro_rules | `(tactic| walk_at "jc") => `(tactic| first
  | assumption
  | (refine ⟨?_, ?_⟩ <;> omega)
  | (show (0 : Int) < _; omega)
  | (show (0 : Int) < _; decide)
  | (refine ⟨?_, ?_, ?_⟩ <;> decide)
  | (refine ⟨?_, ?_⟩ <;> decide)
  | (left; refine ⟨?_, ?_⟩ <;> omega)
  | (right; refine ⟨?_, ?_⟩ <;> omega)
  | fail "none")
local macro_rules | `(tactic| walk_at "jn") => `(tactic| first
  | assumption
  | (apply Ne.symm; assumption)
  | (refine Fd.ne (H := ?h0) (c := ?c0) ?e0 ?n0; (case n0 => assumption); (case e0 => walk_at "jf"))
  | (apply Ne.symm; refine Fd.ne (H := ?h0) (c := ?c0) ?e0 ?n0; (case n0 => assumption); (case e0 => walk_at "jf"))
  | (refine ne_of_none (H := ?h0) (o := ?o0) ?e0 ?n0; (case n0 => assumption); (case e0 => walk_at "jl"))
  | (apply Ne.symm; refine ne_of_none (H := ?h0) (o := ?o0) ?e0 ?n0; (case n0 => assumption); (case e0 => walk_at "jl"))
  | fail "none")
local macro_rules | `(tactic| walk_at "jl") => `(tactic| first
  | assumption
  | exact upd_same
  | (refine Ch.at (a := ?a0) (H := ?h0) ?c0 ?n0 ?e0; (case c0 => assumption); (case n0 => walk_at "jn"); (case e0 => walk_at "jl"))
  | (refine (upd_ne ?_).trans ?_; (walk_at "jn"); (walk_at "jl"))
  | fail "none")
local macro_rules | `(tactic| walk_at "jq") => `(tactic| first
  | assumption
  | ((with_reducible refine sq_lst ?_); (walk_at "jl"))
  | ((with_reducible refine sq_tup ?_); (walk_at "jl"))
  | ((with_reducible refine Ch.sqA (a := ?a0) (H := ?h0) ?c0 ?n0 ?e0); (case c0 => assumption); (case n0 => walk_at "jn"); (case e0 => walk_at "jq"))
  | ((with_reducible refine Ch.sqL (a := ?a0) (H := ?h0) ?c0 ?n0 ?e0); (case c0 => assumption); (case n0 => walk_at "jn"); (case e0 => walk_at "jq"))
  | ((with_reducible refine Ch.sqT (a := ?a0) (H := ?h0) ?c0 ?n0 ?e0); (case c0 => assumption); (case n0 => walk_at "jn"); (case e0 => walk_at "jq"))
  | ((with_reducible refine sqA_same (H := ?h0) ?c0 ?e0); (case c0 => first | assumption | (refine Same.upd_new ?_; assumption)); (case e0 => walk_at "jq"))
  | ((with_reducible refine SqA.l ?_); (walk_at "jq"))
  | ((with_reducible refine SqA.t ?_); (walk_at "jq"))
  | fail "none")
local macro_rules | `(tactic| walk_at "jf") => `(tactic| first
  | assumption
  | (refine Fd.upd ?_ ?_; (walk_at "jf"); (walk_at "jn"))
  | fail "none")
local macro_rules | `(tactic| walk_at "jh") => `(tactic| first
  | assumption
  | exact Ch.refl _
  | exact Ch.upd_self
  | (refine Ch.upd_l ?_ ?_; (walk_at "jh"); assumption)
  | (refine Ch.upd_a ?_; (walk_at "jh"))
  | (refine Ch.upd_n ?c0 ?c1; (case c1 => assumption); (case c0 => walk_at "jh"))
  | (refine Ch.trans (H1 := ?h1) ?c0 ?c1; (case c1 => assumption); (case c0 => walk_at "jh"))
  | fail "none")
local macro_rules | `(tactic| walk_at "jt") => `(tactic| first
  | assumption
  | exact TK.refl _
  | ((with_reducible refine TK.new' ?c0 ?c1); (case c1 => assumption); (case c0 => walk_at "jt"))
  | ((with_reducible refine TK.lst' (xs := ?xs1) ?c0 ?c1); (case c1 => walk_at "jl"); (case c0 => walk_at "jt"))
  | ((with_reducible refine TK.ch' (H1 := ?h1) (a := ?a1) (c := ?k1) ?c0 ?c1 ?c2); (case c1 => assumption); (case c2 => walk_at "jf"); (case c0 => walk_at "jt"))
  | fail "jt")
local macro_rules | `(tactic| walk_at "js") => `(tactic| with_reducible (first
  | refine i_nx ?_ | refine i_rt ?_ | refine i_bk ?_ | refine i_ct ?_
  | refine i_seq ?_ | refine i_asg ?_ | refine i_gname ?_ | refine i_ifS ?_ | refine i_test ?_ | refine i_tB ?_ | refine i_ret ?_ | refine i_retN ?_ | refine i_drop ?_ | refine i_next ?_
  | refine i_op ?_ | refine i_un ?_ | refine i_c ?_ | refine i_rI0 ?_ | refine i_rU ?_ | refine i_add ?_ | refine i_sub ?_ | refine i_eqI ?_ | refine i_neI ?_ | refine i_eqS ?_ | refine i_neS ?_
  | refine i_bl ?_ | refine i_blQ ?_ | refine i_not ?_ | refine i_and ?_ | refine i_or ?_ | refine i_notV ?_ | refine i_andV ?_ | refine i_orV ?_ | refine i_if ?_ | refine i_chain ?_
  | refine i_gsub ?_ | refine i_cons ?_ | refine i_nil ?_ | refine i_cb ?_ | refine i_call ?_ | refine i_tup ?_ | refine i_lst ?_ | refine i_par ?_ | refine i_par' ?_ | refine i_par3 ?_ | refine i_par3' ?_
  | refine i_sl ?_ | refine i_npart ?_ | refine i_part ?_ | refine i_partI ?_ | refine i_bm ?_ | refine i_for ?_ | refine i_lc ?_ | refine i_yes ?_ | refine i_lrg ?_ | refine i_gcons ?_ | refine i_gnil ?_ | refine i_rng1 ?_ | refine i_rng2 ?_ | refine i_ilist ?_ | refine i_itup ?_
  | refine i_iteT ?_ | refine i_iteF ?_ | refine i_iteNT ?_ | refine i_iteNF ?_
  | fail "js"))
local macro_rules | `(tactic| walk_at "jv") => `(tactic| first
  | walk_at "js"
  | ((with_reducible refine i_var (v := ?v) ?e ?_); (case e => rfl))
  | ((with_reducible refine i_ixL (v := ?v) (xs := ?xs) ?e ?z ?_); (case e => walk_at "jq"); (case z => first | exact at0 | exact at1 | exact at2 | assumption))
  | ((with_reducible refine i_ixT (v := ?v) (xs := ?xs) ?e ?z ?_); (case e => walk_at "jq"); (case z => first | exact at0 | exact at1 | exact at2 | assumption))
  | ((with_reducible refine i_setL (xs := ?xs) (j := ?j) ?e ?z ?_); (case e => walk_at "jl"); (case z => first | rfl | assumption))
  | (with_reducible refine i_ite (fun _ => ?_) (fun _ => ?_))
  | (with_reducible refine i_iteN (fun _ => ?_) (fun _ => ?_))
  | ((with_reducible refine i_rI (i := ?i) (j := ?j) ?c ?_); (case c => walk_at "jc"))
  | (with_reducible refine i_int ?_)
  | (with_reducible refine i_intB ?_)
  | (with_reducible refine i_max ?_)
  | (with_reducible refine i_min ?_)
  | ((with_reducible refine i_tupL (ys := ?ys) ?e ?_); (case e => walk_at "jq"))
  | ((with_reducible refine i_tupT (ys := ?ys) ?e ?_); (case e => walk_at "jq"))
  | ((with_reducible refine i_lstL (ys := ?ys) ?e ?_); (case e => walk_at "jq"))
  | ((with_reducible refine i_lstT (ys := ?ys) ?e ?_); (case e => walk_at "jq"))
  | ((with_reducible refine i_lenL (ys := ?ys) ?e ?_); (case e => walk_at "jq"))
  | ((with_reducible refine i_lenT (ys := ?ys) ?e ?_); (case e => walk_at "jq"))
  | ((with_reducible refine i_all (bs := ?bs) ?e ?_); (case e => walk_at "jq"))
  | ((with_reducible refine i_slL (xs := ?xs) ?e ?_); (case e => walk_at "jq"))
  | ((with_reducible refine i_tyL (xs := ?xs) ?e ?_); (case e => walk_at "jq"))
  | ((with_reducible refine i_app (xs := ?xs) ?e ?z ?_); (case e => walk_at "jl"); (case z => walk_at "jz"))
  | ((with_reducible refine i_ixA (v := ?v) (xs := ?xs) ?e ?z ?_); (case e => walk_at "jq"); (case z => first | exact at0 | exact at1 | exact at2 | assumption))
  | ((with_reducible refine i_lenA (ys := ?ys) ?e ?_); (case e => walk_at "jq"))
  | ((with_reducible refine i_lstA (ys := ?ys) ?e ?_); (case e => walk_at "jq"))
  | ((with_reducible refine i_sum (ns := ?ns) ?e ?_); (case e => walk_at "jq"))
  | ((with_reducible refine i_rgK ?b ?_); (case b => first | assumption | (refine ⟨?_, ?_⟩ <;> omega)))
  | ((with_reducible refine i_rgK2 ?b ?_); (case b => first | assumption | (refine ⟨?_, ?_, ?_, ?_⟩ <;> omega)))
  | ((with_reducible refine i_ilK (xs := ?xs) ?e ?_); (case e => walk_at "jq"))
  | ((with_reducible refine i_itK (xs := ?xs) ?e ?_); (case e => walk_at "jq"))
  | ((with_reducible refine i_gtup (xs := ?xs) ?e ?z ?_); (case e => walk_at "jq"); (case z => rfl))
  | (with_reducible refine is_int _ ?_)
  | (with_reducible refine is_int_bool _ ?_)
  | (with_reducible refine is_str _ ?_)
  | ((with_reducible refine is_tup (xs := ?xs) ?e ?_); (case e => walk_at "jq"))
  | ((with_reducible refine i_wip ?z ?_); (case z => rfl))
  | ((with_reducible refine i_lcE (acc := ?acc) ?e ?z ?_); (case e => walk_at "jl"); (case z => walk_at "jz"))
  | ((with_reducible refine i_inS (ns := ?ns) ?e ?_); (case e => walk_at "jq"))
  | ((with_reducible refine i_al ?z ?_); (case z => first | (show _ ≤ sizeLine; decide) | walk_at "jz"))
  | fail "none")
section
variable {K : PySem.W.Frag} {mg : Str → Option Value} {fI : Addr} {a q4 a4 d4 : Addr} {S : Int} {tx : Str} {r w0 : Nat} {G : Hp} {L : List V} {n0 : L2.St → Hp → Prop} {rt : VK} {bk ct : L2.St → Hp → Prop}
theorem law_tail (W : Wd K mg fI) (hr3 : r < 1000) (hw3 : w0 < 1000) (eL : G q4 = some (.lst L)) (h4 : L[4]? = some (.ref a4)) (ea : G a4 = some (exo a4 (Ca K 4) (some d4))) (ed : G d4 = some (exd d4 [("word", .int (w0 : Int)), ("row", .int (r : Int))]))
    (u v : Option V) (hq : ∀ H', rt (.bl true) H') :
    tSeq (tPar 8 9 (tCons (tOexK (Ca K 4) (["word", "row"] : List Str).length (spInit K) gWR (tCons (tVar 4) (tCons (tVar 3) tNil))) (tCons (tVal1 (tVar 2) (Value.ref (Ta K))) tNil)))
      (tSeq
        (tIfS (tOr (tTest (tOp rNe
              (tCB (rShow K) (tCons (tLst (tCons (tXfl K "row" (tVar 8)) (tCons (tXfl K "word" (tVar 8)) (tCons (tXfl K "row" (tOp (rIxL K) (tVar 5) (tC (V.int 4)))) (tCons (tXfl K "word" (tOp (rIxL K) (tVar 5) (tC (V.int 4)))) tNil))))) tNil))
              (tCB (rShow K) (tCons (tLst (tCons (tVar 3) (tCons (tVar 4) (tCons (tVar 3) (tCons (tVar 4) tNil))))) tNil))))
            (tTest (tOp (rNeD K) (tCall (spFlags K) [] (fun _ _ _ => False) (tCons (tVar 8) tNil)) (tCall (spFlags K) [] (fun _ _ _ => False) (tCons (tOp (rIxL K) (tVar 5) (tC (V.int 4))) tNil)))))
          (tRet (tC (V.bl false))) tNext)
        (tSeq
          (tIfS (tOr (tTest (tOp (rIn K false) (tC (V.bl true)) (tCall (spFlags K) [] (fun _ _ _ => False) (tCons (tVar 9) tNil))))
              (tOr (tNot (tB (tCB (rIsX K) (tCons (tVar 9) (tCons (tC (V.ty "ValueError")) tNil)))))
                (tTest (tOp (rIn K false) (tC (V.bl true)) (tCall (spFlags K) [] (fun _ _ _ => False) (tCons (tValA (tCons (tVar 2) tNil) (Value.type "ValueError")) tNil))))))
            (tRet (tC (V.bl false))) tNext)
          (tRet (tAndV
            (tOp (rIn K true) (tC (V.bl false)) (tLc (iList K (tLst (tCons (tC (V.int 0)) (tCons (tC (V.int 5)) (tCons (tC (V.int 9)) (tCons (tC (V.int 22)) (tCons (tC (V.int 24)) tNil))))))) (gName 6) tYes
              (tCall spCaught [] (fun _ _ _ => False) (tCons (tVar 6) (tCons (tVar 2) tNil))) [6]))
            (tCall spBase [] (fun _ _ _ => False) (tCons (tVar 3) (tCons (tVar 4) tNil)))))))
      ⟨n0, rt, bk, ct⟩ [some (.ref a), some (.int S), some (.str tx), some (.int (r : Int)), some (.int (w0 : Int)), some (.ref q4), u, v, none, none, none] G := by
  refine i_seq (i_par (i_cons (i_oexK (K := K) rfl rfl hr3 hw3 fun an H1 dn s1 ean edn => ?_)))
  refine i_cons (i_ex (K := K) rfl W.xcT fun ab H2 s2 xb => ?_)
  refine i_nil (i_par' ?_)
  have c2 := same_trans s1 s2
  have xn : ExAt K H2 an (.ref (Ca K 4)) := .inl ⟨_, rfl, W.xc 4 (by decide), .inr ⟨dn, _, s2 _ _ ean, s2 _ _ edn⟩⟩
  have xm : ExAt K G a4 (.ref (Ca K 4)) := .inl ⟨_, rfl, W.xc 4 (by decide), .inr ⟨d4, _, ea, ed⟩⟩
  have at4 : atI L 4 = some (.ref a4) := atI_nat (j := 4) h4
  refine i_seq (i_ifS (i_or (i_test (i_op (i_cb (i_cons (i_lst ?_)))))))
  refine i_cons (i_xfl (i_var rfl ⟨an, Ca K 4, dn, _, .int (r : Int), rfl, W.xc 4 (by decide), W.nr, s2 _ _ ean, s2 _ _ edn, lk_row _ _, ?_⟩))
  refine i_cons (i_xfl (i_var rfl ⟨an, Ca K 4, dn, _, .int (w0 : Int), rfl, W.xc 4 (by decide), W.nw, s2 _ _ ean, s2 _ _ edn, lk_word _ _, ?_⟩))
  refine i_cons (i_xfl (i_op (i_var rfl (i_c (i_ixL (sq_lst (c2 _ _ eL)) at4 ⟨a4, Ca K 4, d4, _, .int (r : Int), rfl, W.xc 4 (by decide), W.nr, c2 _ _ ea, c2 _ _ ed, lk_row _ _, ?_⟩)))))
  refine i_cons (i_xfl (i_op (i_var rfl (i_c (i_ixL (sq_lst (c2 _ _ eL)) at4 ⟨a4, Ca K 4, d4, _, .int (w0 : Int), rfl, W.xc 4 (by decide), W.nw, c2 _ _ ea, c2 _ _ ed, lk_word _ _, ?_⟩)))))
  refine i_nil (i_al (by show 4 ≤ sizeLine; decide) ?_)
  intro p3 np3
  have s3 := Same.upd_new (o := .lst [.int (r : Int), .int (w0 : Int), .int (r : Int), .int (w0 : Int)]) np3
  have e3 := upd_same (H := H2) (a := p3) (o := .lst [.int (r : Int), .int (w0 : Int), .int (r : Int), .int (w0 : Int)])
  generalize upd H2 p3 (.lst [.int (r : Int), .int (w0 : Int), .int (r : Int), .int (w0 : Int)]) = H3 at *
  refine i_nil (i_show4 (sq_lst e3) hr3 hw3 ?_)
  refine i_cb (i_cons (i_lst (i_cons (i_var rfl (i_cons (i_var rfl (i_cons (i_var rfl (i_cons (i_var rfl (i_nil (i_al (by show 4 ≤ sizeLine; decide) ?_)))))))))))) 
  intro p4 np4
  have s4 := Same.upd_new (o := .lst [.int (r : Int), .int (w0 : Int), .int (r : Int), .int (w0 : Int)]) np4
  have e4 := upd_same (H := H3) (a := p4) (o := .lst [.int (r : Int), .int (w0 : Int), .int (r : Int), .int (w0 : Int)])
  generalize upd H3 p4 (.lst [.int (r : Int), .int (w0 : Int), .int (r : Int), .int (w0 : Int)]) = H4 at *
  refine i_nil (i_show4 (sq_lst e4) hr3 hw3 ?_)
  refine i_neS ?_
  rw [decide_eq_false (fun z => z rfl)]
  have s14 := same_trans s3 s4
  repeat' (walk_at "jv")
  refine i_flags (f := fun j => decide (4 = j)) (xn.same s14) (fun j hj => W.kit 4 j (by decide) hj) fun p5 H5 s5 e5 => ?_
  have c5 := same_trans c2 (same_trans s14 s5)
  refine i_call (i_cons (i_op (i_var rfl (i_c (i_ixL (sq_lst (c5 _ _ eL)) at4 (i_nil ?_))))))
  refine i_flags (f := fun j => decide (4 = j)) (xm.same c5) (fun j hj => W.kit 4 j (by decide) hj) fun p6 H6 s6 e6 => ?_
  refine i_neBls (f := fun j => decide (4 = j)) (g := fun j => decide (4 = j)) (sq_lst (s6 _ _ e5)) (sq_lst e6) (fun _ _ => rfl) ?_
  have xb6 := xb.same (same_trans s14 (same_trans s5 s6))
  repeat' (walk_at "jv")
  refine i_flags (f := fun _ => false) xb6 (fun j hj => W.tk j hj) fun p7 H7 s7 e7 => ?_
  refine ⟨p7, _, rfl, .inl (sq_lst e7), rfl, by decide +kernel, ?_⟩
  rw [if_neg Bool.false_ne_true, in_false]
  repeat' (walk_at "jv")
  refine i_isV (xb6.same s7) W.tV ?_
  repeat' (walk_at "jv")
  refine i_exV (K := K) rfl fun av H8 s8 xv => ?_
  repeat' (walk_at "jv")
  refine i_flags (f := fun _ => false) xv (fun j hj => W.vk j hj) fun p9 H9 s9 e9 => ?_
  refine ⟨p9, _, rfl, .inl (sq_lst e9), rfl, by decide +kernel, ?_⟩
  rw [if_neg Bool.false_ne_true, in_false]
  repeat' (walk_at "jv")
  intro p10 np10
  have e10 := upd_same (H := H9) (a := p10) (o := .lst [.int 0, .int 5, .int 9, .int 22, .int 24])
  generalize upd H9 p10 (.lst [.int 0, .int 5, .int 9, .int 22, .int 24]) = H10 at *
  refine i_ilK (sq_lst e10) ?_
  refine c_list [.int 0, .int 5, .int 9, .int 22, .int 24] (fun D2 i H' => H10 D2 = none ∧ Same H10 H' ∧ H' D2 = some (.lst (List.replicate i (.bl true)))) (fun D2 hD => ⟨hD, Same.upd_new hD, upd_same⟩) (fun D2 i H' _ h => sq_lst (h.2.1 _ _ e10)) (fun D2 i x H' hx h => ?_) (fun D2 H' h => ?_)
  · obtain ⟨hD, sm, e⟩ := h
    have hi : i < 5 := (List.getElem?_eq_some_iff.mp hx).1
    have hn : ∃ n : Int, x = .int n ∧ (n = 0 ∨ n = 5 ∨ n = 9 ∨ n = 22 ∨ n = 24) := by
      match i, hi, hx with
      | 0, _, hx => exact ⟨0, (Option.some.inj hx).symm, by omega⟩
      | 1, _, hx => exact ⟨5, (Option.some.inj hx).symm, by omega⟩
      | 2, _, hx => exact ⟨9, (Option.some.inj hx).symm, by omega⟩
      | 3, _, hx => exact ⟨22, (Option.some.inj hx).symm, by omega⟩
      | 4, _, hx => exact ⟨24, (Option.some.inj hx).symm, by omega⟩
      | (k + 5), hi, _ => exact absurd hi (by omega)
    obtain ⟨n, rfl, hn⟩ := hn
    refine i_gname (i_wip rfl (i_yes (i_iteT ?_)))
    refine i_call (i_cons (i_var rfl (i_cons (i_var rfl (i_nil ?_)))))
    refine ⟨n, tx, rfl, hn, fun H'' sw => ?_⟩
    refine i_lcE (sw _ _ e) (by rw [List.length_replicate, sizeLine_eq]; omega) ⟨hD, fun b o eb => ?_, ?_⟩
    · rw [upd_ne (ne_of_none eb hD)]
      exact sw _ _ (sm _ _ eb)
    · rw [upd_same, List.replicate_succ']
  · obtain ⟨hD, sm, e⟩ := h
    refine ⟨D2, _, rfl, .inl (sq_lst e), rfl, by decide +kernel, ?_⟩
    have z : (if true = true then !inV (.bl false) (List.replicate ([.int 0, .int 5, .int 9, .int 22, .int 24] : List V).length (V.bl true)) else inV (.bl false) (List.replicate ([.int 0, .int 5, .int 9, .int 22, .int 24] : List V).length (V.bl true))) = true := by decide +kernel
    rw [z]
    refine i_blQ (i_iteT (i_call (i_cons (i_var rfl (i_cons (i_var rfl (i_nil ?_)))))))
    exact ⟨r, w0, rfl, hr3, hw3, fun H'' _ => hq H''⟩
end
end
section
open L2 PySem PySem.Spec PyProof.Rows
local macro_rules | `(tactic| walk_at "jz") => `(tactic| first
  | assumption
  | (rw [sizeLine_eq]; simp only [List.length_map, List.length_append, List.length_cons, List.length_nil, List.length_range, List.length_take, List.length_drop]; omega)
  | (rw [sizeLine_eq]; omega)
  | fail "none")
local macro_rules | `(tactic| walk_at "jc") => `(tactic| first
  | assumption
  | (refine ⟨?_, ?_⟩ <;> omega)
  | (show (0 : Int) < _; omega)
  | (show (0 : Int) < _; decide)
  | (refine ⟨?_, ?_, ?_⟩ <;> decide)
  | (refine ⟨?_, ?_⟩ <;> decide)
  | (left; refine ⟨?_, ?_⟩ <;> omega)
  | (right; refine ⟨?_, ?_⟩ <;> omega)
  | fail "none")
local macro_rules | `(tactic| walk_at "jn") => `(tactic| first
  | assumption
  | (apply Ne.symm; assumption)
  | (refine Fd.ne (H := ?h0) (c := ?c0) ?e0 ?n0; (case n0 => assumption); (case e0 => walk_at "jf"))
  | (apply Ne.symm; refine Fd.ne (H := ?h0) (c := ?c0) ?e0 ?n0; (case n0 => assumption); (case e0 => walk_at "jf"))
  | (refine ne_of_none (H := ?h0) (o := ?o0) ?e0 ?n0; (case n0 => assumption); (case e0 => walk_at "jl"))
  | (apply Ne.symm; refine ne_of_none (H := ?h0) (o := ?o0) ?e0 ?n0; (case n0 => assumption); (case e0 => walk_at "jl"))
  | fail "none")
local macro_rules | `(tactic| walk_at "jl") => `(tactic| first
  | assumption
  | exact upd_same
  | (refine Ch.at (a := ?a0) (H := ?h0) ?c0 ?n0 ?e0; (case c0 => assumption); (case n0 => walk_at "jn"); (case e0 => walk_at "jl"))
  | (refine (upd_ne ?_).trans ?_; (walk_at "jn"); (walk_at "jl"))
  | fail "none")
local macro_rules | `(tactic| walk_at "jq") => `(tactic| first
  | assumption
  | ((with_reducible refine sq_lst ?_); (walk_at "jl"))
  | ((with_reducible refine sq_tup ?_); (walk_at "jl"))
  | ((with_reducible refine Ch.sqA (a := ?a0) (H := ?h0) ?c0 ?n0 ?e0); (case c0 => assumption); (case n0 => walk_at "jn"); (case e0 => walk_at "jq"))
  | ((with_reducible refine Ch.sqL (a := ?a0) (H := ?h0) ?c0 ?n0 ?e0); (case c0 => assumption); (case n0 => walk_at "jn"); (case e0 => walk_at "jq"))
  | ((with_reducible refine Ch.sqT (a := ?a0) (H := ?h0) ?c0 ?n0 ?e0); (case c0 => assumption); (case n0 => walk_at "jn"); (case e0 => walk_at "jq"))
  | ((with_reducible refine sqA_same (H := ?h0) ?c0 ?e0); (case c0 => first | assumption | (refine Same.upd_new ?_; assumption)); (case e0 => walk_at "jq"))
  | ((with_reducible refine SqA.l ?_); (walk_at "jq"))
  | ((with_reducible refine SqA.t ?_); (walk_at "jq"))
  | fail "none")
local macro_rules | `(tactic| walk_at "jf") => `(tactic| first
  | assumption
  | (refine Fd.upd ?_ ?_; (walk_at "jf"); (walk_at "jn"))
  | fail "none")
local macro_rules | `(tactic| walk_at "jh") => `(tactic| first
  | assumption
  | exact Ch.refl _
  | exact Ch.upd_self
  | (refine Ch.upd_l ?_ ?_; (walk_at "jh"); assumption)
  | (refine Ch.upd_a ?_; (walk_at "jh"))
  | (refine Ch.upd_n ?c0 ?c1; (case c1 => assumption); (case c0 => walk_at "jh"))
  | (refine Ch.trans (H1 := ?h1) ?c0 ?c1; (case c1 => assumption); (case c0 => walk_at "jh"))
  | fail "none")
local macro_rules | `(tactic| walk_at "jt") => `(tactic| first
  | assumption
  | exact TK.refl _
  | ((with_reducible refine TK.new' ?c0 ?c1); (case c1 => assumption); (case c0 => walk_at "jt"))
  | ((with_reducible refine TK.lst' (xs := ?xs1) ?c0 ?c1); (case c1 => walk_at "jl"); (case c0 => walk_at "jt"))
  | ((with_reducible refine TK.ch' (H1 := ?h1) (a := ?a1) (c := ?k1) ?c0 ?c1 ?c2); (case c1 => assumption); (case c2 => walk_at "jf"); (case c0 => walk_at "jt"))
  | fail "jt")
local macro_rules | `(tactic| walk_at "js") => `(tactic| with_reducible (first
  | refine i_nx ?_ | refine i_rt ?_ | refine i_bk ?_ | refine i_ct ?_
  | refine i_seq ?_ | refine i_asg ?_ | refine i_gname ?_ | refine i_ifS ?_ | refine i_test ?_ | refine i_tB ?_ | refine i_ret ?_ | refine i_retN ?_ | refine i_drop ?_ | refine i_next ?_
  | refine i_op ?_ | refine i_un ?_ | refine i_c ?_ | refine i_rI0 ?_ | refine i_rU ?_ | refine i_add ?_ | refine i_sub ?_ | refine i_eqI ?_ | refine i_neI ?_ | refine i_eqS ?_ | refine i_neS ?_
  | refine i_bl ?_ | refine i_blQ ?_ | refine i_not ?_ | refine i_and ?_ | refine i_or ?_ | refine i_notV ?_ | refine i_andV ?_ | refine i_orV ?_ | refine i_if ?_ | refine i_chain ?_
  | refine i_gsub ?_ | refine i_cons ?_ | refine i_nil ?_ | refine i_cb ?_ | refine i_call ?_ | refine i_tup ?_ | refine i_lst ?_ | refine i_par ?_ | refine i_par' ?_ | refine i_par3 ?_ | refine i_par3' ?_
  | refine i_sl ?_ | refine i_npart ?_ | refine i_part ?_ | refine i_partI ?_ | refine i_bm ?_ | refine i_for ?_ | refine i_lc ?_ | refine i_yes ?_ | refine i_lrg ?_ | refine i_gcons ?_ | refine i_gnil ?_ | refine i_rng1 ?_ | refine i_rng2 ?_ | refine i_ilist ?_ | refine i_itup ?_
  | refine i_iteT ?_ | refine i_iteF ?_ | refine i_iteNT ?_ | refine i_iteNF ?_
  | fail "js"))
local macro_rules | `(tactic| walk_at "jv") => `(tactic| first
  | walk_at "js"
  | ((with_reducible refine i_var (v := ?v) ?e ?_); (case e => rfl))
  | ((with_reducible refine i_ixL (v := ?v) (xs := ?xs) ?e ?z ?_); (case e => walk_at "jq"); (case z => first | exact at0 | exact at1 | exact at2 | assumption))
  | ((with_reducible refine i_ixT (v := ?v) (xs := ?xs) ?e ?z ?_); (case e => walk_at "jq"); (case z => first | exact at0 | exact at1 | exact at2 | assumption))
  | ((with_reducible refine i_setL (xs := ?xs) (j := ?j) ?e ?z ?_); (case e => walk_at "jl"); (case z => first | rfl | assumption))
  | (with_reducible refine i_ite (fun _ => ?_) (fun _ => ?_))
  | (with_reducible refine i_iteN (fun _ => ?_) (fun _ => ?_))
  | ((with_reducible refine i_rI (i := ?i) (j := ?j) ?c ?_); (case c => walk_at "jc"))
  | (with_reducible refine i_int ?_)
  | (with_reducible refine i_intB ?_)
  | (with_reducible refine i_max ?_)
  | (with_reducible refine i_min ?_)
  | ((with_reducible refine i_tupL (ys := ?ys) ?e ?_); (case e => walk_at "jq"))
  | ((with_reducible refine i_tupT (ys := ?ys) ?e ?_); (case e => walk_at "jq"))
  | ((with_reducible refine i_lstL (ys := ?ys) ?e ?_); (case e => walk_at "jq"))
  | ((with_reducible refine i_lstT (ys := ?ys) ?e ?_); (case e => walk_at "jq"))
  | ((with_reducible refine i_lenL (ys := ?ys) ?e ?_); (case e => walk_at "jq"))
  | ((with_reducible refine i_lenT (ys := ?ys) ?e ?_); (case e => walk_at "jq"))
  | ((with_reducible refine i_all (bs := ?bs) ?e ?_); (case e => walk_at "jq"))
  | ((with_reducible refine i_slL (xs := ?xs) ?e ?_); (case e => walk_at "jq"))
  | ((with_reducible refine i_tyL (xs := ?xs) ?e ?_); (case e => walk_at "jq"))
  | ((with_reducible refine i_app (xs := ?xs) ?e ?z ?_); (case e => walk_at "jl"); (case z => walk_at "jz"))
  | ((with_reducible refine i_ixA (v := ?v) (xs := ?xs) ?e ?z ?_); (case e => walk_at "jq"); (case z => first | exact at0 | exact at1 | exact at2 | assumption))
  | ((with_reducible refine i_lenA (ys := ?ys) ?e ?_); (case e => walk_at "jq"))
  | ((with_reducible refine i_lstA (ys := ?ys) ?e ?_); (case e => walk_at "jq"))
  | ((with_reducible refine i_sum (ns := ?ns) ?e ?_); (case e => walk_at "jq"))
  | ((with_reducible refine i_rgK ?b ?_); (case b => first | assumption | (refine ⟨?_, ?_⟩ <;> omega)))
  | ((with_reducible refine i_rgK2 ?b ?_); (case b => first | assumption | (refine ⟨?_, ?_, ?_, ?_⟩ <;> omega)))
  | ((with_reducible refine i_ilK (xs := ?xs) ?e ?_); (case e => walk_at "jq"))
  | ((with_reducible refine i_itK (xs := ?xs) ?e ?_); (case e => walk_at "jq"))
  | ((with_reducible refine i_gtup (xs := ?xs) ?e ?z ?_); (case e => walk_at "jq"); (case z => rfl))
  | (with_reducible refine is_int _ ?_)
  | (with_reducible refine is_int_bool _ ?_)
  | (with_reducible refine is_str _ ?_)
  | ((with_reducible refine is_tup (xs := ?xs) ?e ?_); (case e => walk_at "jq"))
  | ((with_reducible refine i_wip ?z ?_); (case z => rfl))
  | ((with_reducible refine i_lcE (acc := ?acc) ?e ?z ?_); (case e => walk_at "jl"); (case z => walk_at "jz"))
  | ((with_reducible refine i_inS (ns := ?ns) ?e ?_); (case e => walk_at "jq"))
  | ((with_reducible refine i_al ?z ?_); (case z => first | (show _ ≤ sizeLine; decide) | walk_at "jz"))
  | fail "none")
abbrev s_law : Stmt := topS 31
theorem sc_law : FnScope ["_law_script", "_law_number", "_law_text", "_law_row", "_law_word", "_law_made", "_law_at", "_law_one", "_law_named", "_law_base", "_law_other"] ["_law_script"] (defScope s_law) := ⟨rfl, rfl, rfl, by decide +kernel, rfl, by decide +kernel, by decide +kernel⟩
theorem pe_ty {X : Cx} {x : Str} {T : String} {p : Pos} (hm : X.mg x = none) (hv : bootBuiltins x = some (.type T)) (hg : Gl X x := by rfl) (h1 : x ≠ "__name__" := by decide) (h2 : (x == ("__debug__" : Str)) = false := by decide) : PE X (.Name x p) (tC (.ty T)) := pe_bltn (v := .ty T) hg hm hv rfl h1 h2
theorem cut_one (x : Int) (r : List Int) : cutV ((x :: r).map V.int) none (some 1) = ((x :: r).take 1).map V.int := by
  show cutV (V.int x :: r.map V.int) none (some 1) = [V.int x]
  unfold cutV HT.sIx
  simp
def spLaw (K : PySem.W.Frag) : Sp := fun vs H Q _ => ∃ (a : Addr) (ns : List Int), vs = [.ref a] ∧ SqL K H a (ns.map V.int) ∧ ns.length ≤ 63 ∧ ∀ H', Q (.bl true) H'
section
variable {base : Heap} {P : Program} {w : World} {K : PySem.W.Frag} {mg : Str → Option Value} {fI : Addr} {fd : FuncData}
theorem ok_law {fL : Addr} {fdL : FuncData} (F : Fun K "law" "law" s_law fL fdL) (B : Bn mg) (W : Wd K mg fI) (F_init : FnOk P w K mg base CX0 1 fI fd ["self", "row", "word"] (spInit K)) (b_init : Binds K fd ["self", "row", "word"] []) (b_kw : KBn K fd ["self", "row", "word"] 1 ["word", "row"] gWR gWR)
    (C__law_flags : Cl P w K mg base 1 "_law_flags" ["_law_e"] (spFlags K)) (C__law_is_caught : Cl P w K mg base 2 "_law_is_caught" ["_law_number", "_law_text"] spCaught) (C__law_is_base_caught : Cl P w K mg base 3 "_law_is_base_caught" ["_law_row", "_law_word"] spBase) :
    FnG P w K mg base 4 fL fdL ["_law_script"] (spLaw K) := by
  refine okG F sc_law (fun vs H Q E h => ?_) (fun cdv A outer s H vs Q E hgd hr h => ?_)
  · obtain ⟨a, ns, rfl, _⟩ := h
    rfl
  · obtain ⟨a, ns, rfl, ha, hl, q⟩ := h
    refine ⟨_, (pss_cons (ps_set (i := 1) sc_law.nd rfl (by first | exact Or.inl rfl | exact Or.inr rfl) (pe_callB (cr_sum rfl) rfl B.sum_ (by decide +kernel) (pa_cons (pe_slice (k_slL (K := K)) (pv 0) po_none (po_some pe_int)) pa_nil)))
      (pss_cons (ps_asg (pe_tup (pa_cons (pe_op o_addS pe_str (pe_callTy (j_str) rfl B.str_ (by decide +kernel) (pa_cons (pe_op op_mod (pe_callTy (j_int) rfl B.int_ (by decide +kernel) (pa_cons (pv 1) pa_nil)) pe_int) pa_nil))) (pa_cons (pe_op op_mod (pe_callTy (j_int) rfl B.int_ (by decide +kernel) (pa_cons (pv 1) pa_nil)) pe_int) (pa_cons (pe_op op_mod (pe_callTy (j_int) rfl B.int_ (by decide +kernel) (pa_cons (pe_op op_fdiv (pv 1) pe_int) pa_nil)) pe_int) pa_nil)))) (kpg_tup (K := K) (n := 3) rfl (pgs_cons (pg_name (i := 2) sc_law.nd rfl (by first | exact Or.inl rfl | exact Or.inr rfl)) (pgs_cons (pg_name (i := 3) sc_law.nd rfl (by first | exact Or.inl rfl | exact Or.inr rfl)) (pgs_cons (pg_name (i := 4) sc_law.nd rfl (by first | exact Or.inl rfl | exact Or.inr rfl)) pgs_nil)))))
      (pss_cons (ps_set (i := 5) sc_law.nd rfl (by first | exact Or.inl rfl | exact Or.inr rfl) (pe_lst (pa_cons (pe_ex1 (W.ex 0 (by decide) (by decide)) (W.g 0 (by decide)) (W.kp 0 (by decide)) (pv 2)) (pa_cons (pe_ex1 (W.ex 1 (by decide) (by decide)) (W.g 1 (by decide)) (W.kp 1 (by decide)) (pv 2)) (pa_cons (pe_ex1 (W.ex 2 (by decide) (by decide)) (W.g 2 (by decide)) (W.kp 2 (by decide)) (pv 2)) (pa_cons (pe_ex1 (W.ex 3 (by decide) (by decide)) (W.g 3 (by decide)) (W.kp 3 (by decide)) (pv 2)) (pa_cons (pe_oex W.ox F_init (hr.mono (by decide)) b_init (pa_cons (pv 3) (pa_cons (pv 4) pa_nil))) (pa_cons (pe_ex1 (W.ex 5 (by decide) (by decide)) (W.g 5 (by decide)) (W.kp 5 (by decide)) (pv 2)) (pa_cons (pe_ex1 (W.ex 6 (by decide) (by decide)) (W.g 6 (by decide)) (W.kp 6 (by decide)) (pv 2)) pa_nil)))))))))
      (pss_cons (ps_set (i := 5) sc_law.nd rfl (by first | exact Or.inl rfl | exact Or.inr rfl) (pe_op op_cat (pv 5) (pe_lst (pa_cons (pe_ex1 (W.ex 7 (by decide) (by decide)) (W.g 7 (by decide)) (W.kp 7 (by decide)) (pv 2)) (pa_cons (pe_ex1 (W.ex 8 (by decide) (by decide)) (W.g 8 (by decide)) (W.kp 8 (by decide)) (pv 2)) (pa_cons (pe_ex1 (W.ex 9 (by decide) (by decide)) (W.g 9 (by decide)) (W.kp 9 (by decide)) (pv 2)) (pa_cons (pe_ex1 (W.ex 10 (by decide) (by decide)) (W.g 10 (by decide)) (W.kp 10 (by decide)) (pv 2)) (pa_cons (pe_ex1 (W.ex 11 (by decide) (by decide)) (W.g 11 (by decide)) (W.kp 11 (by decide)) (pv 2)) (pa_cons (pe_ex1 (W.ex 12 (by decide) (by decide)) (W.g 12 (by decide)) (W.kp 12 (by decide)) (pv 2)) (pa_cons (pe_ex1 (W.ex 13 (by decide) (by decide)) (W.g 13 (by decide)) (W.kp 13 (by decide)) (pv 2)) pa_nil))))))))))
      (pss_cons (ps_set (i := 5) sc_law.nd rfl (by first | exact Or.inl rfl | exact Or.inr rfl) (pe_op op_cat (pv 5) (pe_lst (pa_cons (pe_ex1 (W.ex 14 (by decide) (by decide)) (W.g 14 (by decide)) (W.kp 14 (by decide)) (pv 2)) (pa_cons (pe_ex1 (W.ex 15 (by decide) (by decide)) (W.g 15 (by decide)) (W.kp 15 (by decide)) (pv 2)) (pa_cons (pe_ex1 (W.ex 16 (by decide) (by decide)) (W.g 16 (by decide)) (W.kp 16 (by decide)) (pv 2)) (pa_cons (pe_ex1 (W.ex 17 (by decide) (by decide)) (W.g 17 (by decide)) (W.kp 17 (by decide)) (pv 2)) (pa_cons (pe_ex1 (W.ex 18 (by decide) (by decide)) (W.g 18 (by decide)) (W.kp 18 (by decide)) (pv 2)) (pa_cons (pe_ex1 (W.ex 19 (by decide) (by decide)) (W.g 19 (by decide)) (W.kp 19 (by decide)) (pv 2)) (pa_cons (pe_ex1 (W.ex 20 (by decide) (by decide)) (W.g 20 (by decide)) (W.kp 20 (by decide)) (pv 2)) pa_nil))))))))))
      (pss_cons (ps_set (i := 5) sc_law.nd rfl (by first | exact Or.inl rfl | exact Or.inr rfl) (pe_op op_cat (pv 5) (pe_lst (pa_cons (pe_ex1 (W.ex 21 (by decide) (by decide)) (W.g 21 (by decide)) (W.kp 21 (by decide)) (pv 2)) (pa_cons (pe_ex1 (W.ex 22 (by decide) (by decide)) (W.g 22 (by decide)) (W.kp 22 (by decide)) (pv 2)) (pa_cons (pe_ex1 (W.ex 23 (by decide) (by decide)) (W.g 23 (by decide)) (W.kp 23 (by decide)) (pv 2)) (pa_cons (pe_ex1 (W.ex 24 (by decide) (by decide)) (W.g 24 (by decide)) (W.kp 24 (by decide)) (pv 2)) pa_nil)))))))
      (pss_cons (ps_for PassesOwn.never rfl (pi_enum rfl B.enumerate_ (pa_cons (pv 5) pa_nil)) (kpg_tup (K := K) (n := 2) rfl (pgs_cons (pg_name (i := 6) sc_law.nd rfl (by first | exact Or.inl rfl | exact Or.inr rfl)) (pgs_cons (pg_name (i := 7) sc_law.nd rfl (by first | exact Or.inl rfl | exact Or.inr rfl)) pgs_nil))) (pss_one (ps_if (PW.pt (pw_or (pt_cmpR (k_neD hr.units (K := K)) (pe_c C__law_flags hr (pa_cons (pv 7) pa_nil)) (pe_lc (own := [("_law_other", 10)]) rfl sc_law.nd (pi_range1 rfl B.range_ (pa_cons (pe_callB (k_len (K := K)) rfl B.len_ (by decide +kernel) (pa_cons (pv 5) pa_nil)) pa_nil)) (blkOk_by (N := ["_law_script", "_law_number", "_law_text", "_law_row", "_law_word", "_law_made", "_law_at", "_law_one", "_law_named", "_law_base", "_law_other"]) (sc := defScope s_law) (by decide +kernel)) (fun _ _ _ _ _ => (pg_name (i := 10) sc_law.nd rfl (by first | exact Or.inl rfl | exact Or.inr rfl))) (fun _ _ _ _ _ => pts_nil) (fun _ _ _ _ _ => (pe_cmpR op_eq (pv 6) (pv 10) (nomark _)))) (nomark _)) (pw_or (pt_not (pt_val (pe_callB (k_isX (K := K)) rfl B.isinstance_ (by decide +kernel) (pa_cons (pv 7) (pa_cons (pe_gref W.gT) pa_nil))))) (pw_or1 (pt_not (pt_val (pe_callB (k_isX (K := K)) rfl B.isinstance_ (by decide +kernel) (pa_cons (pv 7) (pa_cons (pe_ty (T := "ValueError") W.gV (by decide +kernel)) pa_nil))))))))) (pss_one (ps_ret pe_bl)) pss_nil)))
      (pss_cons (ps_par (i := 8) (j := 9) rfl sc_law.nd rfl rfl (by decide) rfl rfl (pa_cons (pe_oexK (g := gWR) (gV := gWR) (ks := ["word", "row"]) W.ox F_init (hr.mono (by decide)) b_kw (pk_cons (pv 4) (pk_cons (pv 3) pk_nil)) W.ck) (pa_cons (pe_ex1 W.exT W.gT W.kpT (pv 2)) pa_nil)) (by rfl))
      (pss_cons (ps_if (PW.pt (pw_or (pt_cmpR op_ne (pe_callB (k_show (K := K) hgd hr.units) rfl B.repr_ (by decide +kernel) (pa_cons (pe_lst (pa_cons (kpe_xfl (K := K) (pv 8)) (pa_cons (kpe_xfl (K := K) (pv 8)) (pa_cons (kpe_xfl (K := K) (pe_ix (k_ixL (K := K)) (pv 5) pe_int (fun _ _ => rfl))) (pa_cons (kpe_xfl (K := K) (pe_ix (k_ixL (K := K)) (pv 5) pe_int (fun _ _ => rfl))) pa_nil))))) pa_nil)) (pe_callB (k_show (K := K) hgd hr.units) rfl B.repr_ (by decide +kernel) (pa_cons (pe_lst (pa_cons (pv 3) (pa_cons (pv 4) (pa_cons (pv 3) (pa_cons (pv 4) pa_nil))))) pa_nil)) (nomark _)) (pw_or1 (pt_cmpR (k_neD hr.units (K := K)) (pe_c C__law_flags hr (pa_cons (pv 8) pa_nil)) (pe_c C__law_flags hr (pa_cons (pe_ix (k_ixL (K := K)) (pv 5) pe_int (fun _ _ => rfl)) pa_nil)) (nomark _))))) (pss_one (ps_ret pe_bl)) pss_nil)
      (pss_cons (ps_if (PW.pt (pw_or (pt_cmpR (k_inS (K := K)) pe_bl (pe_c C__law_flags hr (pa_cons (pv 9) pa_nil)) (by rfl)) (pw_or (pt_not (pt_val (pe_callB (k_isX (K := K)) rfl B.isinstance_ (by decide +kernel) (pa_cons (pv 9) (pa_cons (pe_ty (T := "ValueError") W.gV (by decide +kernel)) pa_nil))))) (pw_or1 (pt_cmpR (k_inS (K := K)) pe_bl (pe_c C__law_flags hr (pa_cons (pe_exV W.gV (pa_cons (pv 2) pa_nil)) pa_nil)) (by rfl)))))) (pss_one (ps_ret pe_bl)) pss_nil)
      (pss_one (ps_ret (pe_and (pe_cmpR (k_notInS (K := K)) pe_bl (pe_lc (own := [("_law_at", 6)]) rfl sc_law.nd (kpi_list (K := K) (pe_lst (pa_cons pe_int (pa_cons pe_int (pa_cons pe_int (pa_cons pe_int (pa_cons pe_int pa_nil))))))) (blkOk_by (N := ["_law_script", "_law_number", "_law_text", "_law_row", "_law_word", "_law_made", "_law_at", "_law_one", "_law_named", "_law_base", "_law_other"]) (sc := defScope s_law) (by decide +kernel)) (fun _ _ _ _ _ => (pg_name (i := 6) sc_law.nd rfl (by first | exact Or.inl rfl | exact Or.inr rfl))) (fun _ _ _ _ _ => pts_nil) (fun _ _ _ _ _ => (pe_c C__law_is_caught hr (pa_cons (pv 6) (pa_cons (pv 2) pa_nil))))) (by rfl)) (pe_one (pe_c C__law_is_base_caught hr (pa_cons (pv 3) (pa_cons (pv 4) pa_nil))))))))))))))))), ?_⟩
    have cv : cutV (ns.map V.int) none (some 1) = (ns.take 1).map V.int := by
      cases ns with
      | nil => rfl
      | cons x r => exact cut_one x r
    refine i_seq (i_asg ?_)
    repeat' (walk_at "jv")
    intro l0 nl0
    rw [cv]
    have sm0 := Same.upd_new (o := .lst ((ns.take 1).map V.int)) nl0
    have e0 := upd_same (H := H) (a := l0) (o := .lst ((ns.take 1).map V.int))
    generalize upd H l0 (.lst ((ns.take 1).map V.int)) = H0 at *
    repeat' (walk_at "jv")
    generalize (ns.take 1).sum = S
    obtain ⟨t0, ht0, ht3⟩ : ∃ t : Nat, S % 1000 = (t : Int) ∧ t < 1000 := ⟨(S % 1000).toNat, by omega, by omega⟩
    obtain ⟨r, hr0, hr3⟩ : ∃ r : Nat, S % 997 = (r : Int) ∧ r < 1000 := ⟨(S % 997).toNat, by omega, by omega⟩
    obtain ⟨w0, hw0, hw3⟩ : ∃ u : Nat, S / 7 % 89 = (u : Int) ∧ u < 1000 := ⟨(S / 7 % 89).toNat, by omega, by omega⟩
    rw [ht0]
    refine i_strI (small_log t0 ht3) (i_addS ?_ ?_)
    · have z1 := small_text t0 ht3
      have z2 : (Str.ofString "t").length = 1 := by decide +kernel
      rw [sizeLine_eq]
      omega
    repeat' (walk_at "jv")
    generalize (Str.ofString "t" ++ Str.ofString (toString (t0 : Int))) = tx
    rw [hr0, hw0]
    intro p0 np0
    have sm1 := Same.upd_new (o := .tup [.str tx, .int (r : Int), .int (w0 : Int)]) np0
    have e1 := upd_same (H := H0) (a := p0) (o := .tup [.str tx, .int (r : Int), .int (w0 : Int)])
    generalize upd H0 p0 (.tup [.str tx, .int (r : Int), .int (w0 : Int)]) = K0 at *
    repeat' (walk_at "jv")
    refine i_ex (K := K) rfl (W.xc 0 (by decide)) fun a0 K1 s1 x0 => ?_
    refine i_cons (i_ex (K := K) rfl (W.xc 1 (by decide)) fun a1 K2 s2 x1 => ?_)
    refine i_cons (i_ex (K := K) rfl (W.xc 2 (by decide)) fun a2 K3 s3 x2 => ?_)
    refine i_cons (i_ex (K := K) rfl (W.xc 3 (by decide)) fun a3 K4 s4 x3 => ?_)
    refine i_cons (i_oex (K := K) rfl rfl hr3 hw3 fun a4 K5 d4 s5 ea4 ed4 => ?_)
    have x4 : ExAt K K5 a4 (.ref (Ca K 4)) := .inl ⟨_, rfl, W.xc 4 (by decide), .inr ⟨d4, _, ea4, ed4⟩⟩
    refine i_cons (i_ex (K := K) rfl (W.xc 5 (by decide)) fun a5 K6 s6 x5 => ?_)
    refine i_cons (i_ex (K := K) rfl (W.xc 6 (by decide)) fun a6 K7 s7 x6 => ?_)
    repeat' (walk_at "jv")
    intro p1 n1
    have s8 := Same.upd_new (o := .lst [.ref a0, .ref a1, .ref a2, .ref a3, .ref a4, .ref a5, .ref a6]) n1
    have e8 := upd_same (H := K7) (a := p1) (o := .lst [.ref a0, .ref a1, .ref a2, .ref a3, .ref a4, .ref a5, .ref a6])
    generalize upd K7 p1 (.lst [.ref a0, .ref a1, .ref a2, .ref a3, .ref a4, .ref a5, .ref a6]) = K8 at *
    repeat' (walk_at "jv")
    refine i_ex (K := K) rfl (W.xc 7 (by decide)) fun a7 K9 s9 x7 => ?_
    refine i_cons (i_ex (K := K) rfl (W.xc 8 (by decide)) fun a8 K10 s10 x8 => ?_)
    refine i_cons (i_ex (K := K) rfl (W.xc 9 (by decide)) fun a9 K11 s11 x9 => ?_)
    refine i_cons (i_ex (K := K) rfl (W.xc 10 (by decide)) fun a10 K12 s12 x10 => ?_)
    refine i_cons (i_ex (K := K) rfl (W.xc 11 (by decide)) fun a11 K13 s13 x11 => ?_)
    refine i_cons (i_ex (K := K) rfl (W.xc 12 (by decide)) fun a12 K14 s14 x12 => ?_)
    refine i_cons (i_ex (K := K) rfl (W.xc 13 (by decide)) fun a13 K15 s15 x13 => ?_)
    repeat' (walk_at "jv")
    intro p2 n2
    have s16 := Same.upd_new (o := .lst [.ref a7, .ref a8, .ref a9, .ref a10, .ref a11, .ref a12, .ref a13]) n2
    have e16 := upd_same (H := K15) (a := p2) (o := .lst [.ref a7, .ref a8, .ref a9, .ref a10, .ref a11, .ref a12, .ref a13])
    generalize upd K15 p2 (.lst [.ref a7, .ref a8, .ref a9, .ref a10, .ref a11, .ref a12, .ref a13]) = K16 at *
    repeat' (walk_at "jv")
    refine i_cat (s16 _ _ (s15 _ _ (s14 _ _ (s13 _ _ (s12 _ _ (s11 _ _ (s10 _ _ (s9 _ _ e8)))))))) e16 (by simp only [List.length_append, List.length_cons, List.length_nil]; rw [sizeLine_eq]; omega) fun q2 K17 s17 e17 => ?_
    repeat' (walk_at "jv")
    refine i_ex (K := K) rfl (W.xc 14 (by decide)) fun a14 K18 s18 x14 => ?_
    refine i_cons (i_ex (K := K) rfl (W.xc 15 (by decide)) fun a15 K19 s19 x15 => ?_)
    refine i_cons (i_ex (K := K) rfl (W.xc 16 (by decide)) fun a16 K20 s20 x16 => ?_)
    refine i_cons (i_ex (K := K) rfl (W.xc 17 (by decide)) fun a17 K21 s21 x17 => ?_)
    refine i_cons (i_ex (K := K) rfl (W.xc 18 (by decide)) fun a18 K22 s22 x18 => ?_)
    refine i_cons (i_ex (K := K) rfl (W.xc 19 (by decide)) fun a19 K23 s23 x19 => ?_)
    refine i_cons (i_ex (K := K) rfl (W.xc 20 (by decide)) fun a20 K24 s24 x20 => ?_)
    repeat' (walk_at "jv")
    intro p3 n3
    have s25 := Same.upd_new (o := .lst [.ref a14, .ref a15, .ref a16, .ref a17, .ref a18, .ref a19, .ref a20]) n3
    have e25 := upd_same (H := K24) (a := p3) (o := .lst [.ref a14, .ref a15, .ref a16, .ref a17, .ref a18, .ref a19, .ref a20])
    generalize upd K24 p3 (.lst [.ref a14, .ref a15, .ref a16, .ref a17, .ref a18, .ref a19, .ref a20]) = K25 at *
    repeat' (walk_at "jv")
    refine i_cat (s25 _ _ (s24 _ _ (s23 _ _ (s22 _ _ (s21 _ _ (s20 _ _ (s19 _ _ (s18 _ _ e17)))))))) e25 (by simp only [List.length_append, List.length_cons, List.length_nil]; rw [sizeLine_eq]; omega) fun q3 K26 s26 e26 => ?_
    repeat' (walk_at "jv")
    refine i_ex (K := K) rfl (W.xc 21 (by decide)) fun a21 K27 s27 x21 => ?_
    refine i_cons (i_ex (K := K) rfl (W.xc 22 (by decide)) fun a22 K28 s28 x22 => ?_)
    refine i_cons (i_ex (K := K) rfl (W.xc 23 (by decide)) fun a23 K29 s29 x23 => ?_)
    refine i_cons (i_ex (K := K) rfl (W.xc 24 (by decide)) fun a24 K30 s30 x24 => ?_)
    repeat' (walk_at "jv")
    intro p4 n4
    have s31 := Same.upd_new (o := .lst [.ref a21, .ref a22, .ref a23, .ref a24]) n4
    have e31 := upd_same (H := K30) (a := p4) (o := .lst [.ref a21, .ref a22, .ref a23, .ref a24])
    generalize upd K30 p4 (.lst [.ref a21, .ref a22, .ref a23, .ref a24]) = K31 at *
    repeat' (walk_at "jv")
    refine i_cat (s31 _ _ (s30 _ _ (s29 _ _ (s28 _ _ (s27 _ _ e26))))) e31 (by simp only [List.length_append, List.length_cons, List.length_nil]; rw [sizeLine_eq]; omega) fun q4 K32 s32 e32 => ?_
    repeat' (walk_at "jv")
    have z32 : Same K32 K32 := fun _ _ e => e
    have z31 : Same K31 K32 := same_trans s32 z32
    have z30 : Same K30 K32 := same_trans s31 z31
    have z29 : Same K29 K32 := same_trans s30 z30
    have z28 : Same K28 K32 := same_trans s29 z29
    have z27 : Same K27 K32 := same_trans s28 z28
    have z26 : Same K26 K32 := same_trans s27 z27
    have z25 : Same K25 K32 := same_trans s26 z26
    have z24 : Same K24 K32 := same_trans s25 z25
    have z23 : Same K23 K32 := same_trans s24 z24
    have z22 : Same K22 K32 := same_trans s23 z23
    have z21 : Same K21 K32 := same_trans s22 z22
    have z20 : Same K20 K32 := same_trans s21 z21
    have z19 : Same K19 K32 := same_trans s20 z20
    have z18 : Same K18 K32 := same_trans s19 z19
    have z17 : Same K17 K32 := same_trans s18 z18
    have z16 : Same K16 K32 := same_trans s17 z17
    have z15 : Same K15 K32 := same_trans s16 z16
    have z14 : Same K14 K32 := same_trans s15 z15
    have z13 : Same K13 K32 := same_trans s14 z14
    have z12 : Same K12 K32 := same_trans s13 z13
    have z11 : Same K11 K32 := same_trans s12 z12
    have z10 : Same K10 K32 := same_trans s11 z11
    have z9 : Same K9 K32 := same_trans s10 z10
    have z8 : Same K8 K32 := same_trans s9 z9
    have z7 : Same K7 K32 := same_trans s8 z8
    have z6 : Same K6 K32 := same_trans s7 z7
    have z5 : Same K5 K32 := same_trans s6 z6
    have z4 : Same K4 K32 := same_trans s5 z5
    have z3 : Same K3 K32 := same_trans s4 z4
    have z2 : Same K2 K32 := same_trans s3 z3
    have z1 : Same K1 K32 := same_trans s2 z2
    have eL : K32 q4 = some (.lst [.ref a0, .ref a1, .ref a2, .ref a3, .ref a4, .ref a5, .ref a6, .ref a7, .ref a8, .ref a9, .ref a10, .ref a11, .ref a12, .ref a13, .ref a14, .ref a15, .ref a16, .ref a17, .ref a18, .ref a19, .ref a20, .ref a21, .ref a22, .ref a23, .ref a24]) := e32
    have y0 := ExAt.same z1 x0
    have y1 := ExAt.same z2 x1
    have y2 := ExAt.same z3 x2
    have y3 := ExAt.same z4 x3
    have y4 := ExAt.same z5 x4
    have y5 := ExAt.same z6 x5
    have y6 := ExAt.same z7 x6
    have y7 := ExAt.same z9 x7
    have y8 := ExAt.same z10 x8
    have y9 := ExAt.same z11 x9
    have y10 := ExAt.same z12 x10
    have y11 := ExAt.same z13 x11
    have y12 := ExAt.same z14 x12
    have y13 := ExAt.same z15 x13
    have y14 := ExAt.same z18 x14
    have y15 := ExAt.same z19 x15
    have y16 := ExAt.same z20 x16
    have y17 := ExAt.same z21 x17
    have y18 := ExAt.same z22 x18
    have y19 := ExAt.same z23 x19
    have y20 := ExAt.same z24 x20
    have y21 := ExAt.same z27 x21
    have y22 := ExAt.same z28 x22
    have y23 := ExAt.same z29 x23
    have y24 := ExAt.same z30 x24
    have ea := z5 _ _ ea4
    have ed := z5 _ _ ed4
    have acc : ∀ i, i < 25 → ∃ b, ([.ref a0, .ref a1, .ref a2, .ref a3, .ref a4, .ref a5, .ref a6, .ref a7, .ref a8, .ref a9, .ref a10, .ref a11, .ref a12, .ref a13, .ref a14, .ref a15, .ref a16, .ref a17, .ref a18, .ref a19, .ref a20, .ref a21, .ref a22, .ref a23, .ref a24] : List V)[i]? = some (.ref b) ∧ ExAt K K32 b (.ref (Ca K i)) := fun i hi => match i, hi with
      | 0, _ => ⟨a0, rfl, y0⟩
      | 1, _ => ⟨a1, rfl, y1⟩
      | 2, _ => ⟨a2, rfl, y2⟩
      | 3, _ => ⟨a3, rfl, y3⟩
      | 4, _ => ⟨a4, rfl, y4⟩
      | 5, _ => ⟨a5, rfl, y5⟩
      | 6, _ => ⟨a6, rfl, y6⟩
      | 7, _ => ⟨a7, rfl, y7⟩
      | 8, _ => ⟨a8, rfl, y8⟩
      | 9, _ => ⟨a9, rfl, y9⟩
      | 10, _ => ⟨a10, rfl, y10⟩
      | 11, _ => ⟨a11, rfl, y11⟩
      | 12, _ => ⟨a12, rfl, y12⟩
      | 13, _ => ⟨a13, rfl, y13⟩
      | 14, _ => ⟨a14, rfl, y14⟩
      | 15, _ => ⟨a15, rfl, y15⟩
      | 16, _ => ⟨a16, rfl, y16⟩
      | 17, _ => ⟨a17, rfl, y17⟩
      | 18, _ => ⟨a18, rfl, y18⟩
      | 19, _ => ⟨a19, rfl, y19⟩
      | 20, _ => ⟨a20, rfl, y20⟩
      | 21, _ => ⟨a21, rfl, y21⟩
      | 22, _ => ⟨a22, rfl, y22⟩
      | 23, _ => ⟨a23, rfl, y23⟩
      | 24, _ => ⟨a24, rfl, y24⟩
      | (n + 25), h => absurd h (by omega)
    clear x0 y0 x1 y1 x2 y2 x3 y3 x5 y5 x6 y6 x7 y7 x8 y8 x9 y9 x10 y10 x11 y11 x12 y12 x13 y13 x14 y14 x15 y15 x16 y16 x17 y17 x18 y18 x19 y19 x20 y20 x21 y21 x22 y22 x23 y23 x24 y24 z32 z31 z30 z29 z28 z27 z26 z25 z24 z23 z22 z21 z20 z19 z18 z17 z16 z15 z14 z13 z12 z11 z10 z9 z8 z7 z6 z5 z4 z3 z2 z1 s1 s2 s3 s4 s5 s6 s7 s8 s9 s10 s11 s12 s13 s14 s15 s16 s17 s18 s19 s20 s21 s22 s23 s24 s25 s26 s27 s28 s29 s30 s31 s32
    refine law_loop (K := K) (L := [.ref a0, .ref a1, .ref a2, .ref a3, .ref a4, .ref a5, .ref a6, .ref a7, .ref a8, .ref a9, .ref a10, .ref a11, .ref a12, .ref a13, .ref a14, .ref a15, .ref a16, .ref a17, .ref a18, .ref a19, .ref a20, .ref a21, .ref a22, .ref a23, .ref a24]) W rfl eL acc ?_
    intro u v H' sm
    exact law_tail W hr3 hw3 (sm _ _ eL) rfl (sm _ _ ea) (sm _ _ ed) u v q
end
end
section
open L2 PySem PySem.Spec PyProof.Rows
/-! ### the written part tells all that is asked of the classes -/
def all25 (p : Nat → Bool) : Bool := (List.range 25).all p
theorem all25_ok {p : Nat → Bool} (h : all25 p = true) : ∀ i, i < 25 → p i = true := fun i hi => List.all_eq_true.mp h i (List.mem_range.mpr hi)
def oexB (K : PySem.W.Frag) (C : Addr) : Bool := match K.lookup C with
  | some ⟨.type "type", _, .cls cd, sl⟩ => (match cd.mro, sl.toList with
    | .ref C' :: bm, [_, _, _, _, some (.builtin n), _] => C' == C && n == "ValueError.__new__" && !cd.hasDel && cd.hasDict && PySem.HandSPX.refsVE bm
    | _, _ => false)
  | _ => false
theorem oexB_ok {K : PySem.W.Frag} {C : Addr} (q : oexB K C = true) : ∃ nm q N bs bm sn sub ab col dd k0 k1 k2 k3 k5, K.lookup C = some (excClassObj nm q C N bs bm true sn sub ab col dd k0 k1 k2 k3 k5 "ValueError.__new__") ∧ PySem.HandSPX.refsVE bm = true := by
  unfold oexB at q
  split at q
  · rename_i dd cd sl ho
    split at q
    · rename_i C2 bm k0 k1 k2 k3 n k5 hm hs
      simp only [Bool.and_eq_true, beq_iff_eq, Bool.not_eq_true'] at q
      obtain ⟨⟨⟨⟨rfl, rfl⟩, hdel⟩, hdict⟩, hv⟩ := q
      obtain ⟨nm, bs, mro, ns, qn, hd, sn, sub, ab, col, del⟩ := cd
      dsimp only at hm hdel hdict
      subst hm hdel hdict
      have hsl : sl = #[k0, k1, k2, k3, some (.builtin "ValueError.__new__"), k5] := by
        obtain ⟨l⟩ := sl
        simp only at hs
        rw [hs]
      subst hsl
      exact ⟨nm, qn, ns, bs, bm, sn, sub, ab, col, dd, k0, k1, k2, k3, k5, ho, hv⟩
    · cases q
  · cases q
def vvB (K : PySem.W.Frag) : Bool := match PySem.W.findCls K (.ref (Ta K)) (.type "type") "__init__" with
  | some (.val (.builtin n)) => n == "ValueError.__init__"
  | _ => false
theorem vvB_ok {K : PySem.W.Frag} (h : vvB K = true) : PySem.W.findCls K (.ref (Ta K)) (.type "type") "__init__" = some (.val (.builtin "ValueError.__init__")) := by
  unfold vvB at h
  split at h
  · rename_i n e
    rw [e, beq_iff_eq.mp h]
  · cases h
def frees : List Str := ["int", "str", "tuple", "list", "bool", "len", "isinstance", "all", "any", "max", "min", "sum", "sorted", "repr", "range", "enumerate", "zip", "set", "ValueError"]
def freeB (K : PySem.W.Frag) : Bool := frees.all fun x => decide (PySem.W.nsIn K mainGlobals x = some none)
structure Bs (K : PySem.W.Frag) : Prop where
  b1 : all25 (fun i => isAt K (cN.getD i "")) = true
  b2 : isAt K "TurnError" = true
  b3 : freeB K = true
  b4 : all25 (fun i => PySem.W.keepIn K (.ref (Ca K i))) = true
  b5 : PySem.W.keepIn K (.ref (Ta K)) = true
  b6 : all25 (fun i => i == 4 || PySem.W.excIn K (Ca K i) bmV "ValueError.__new__") = true
  b7 : PySem.W.excIn K (Ta K) bmV "ValueError.__new__" = true
  b8 : all25 (fun i => xcB K (Ca K i)) = true
  b9 : xcB K (Ta K) = true
  b10 : all25 (fun i => decide (PySem.W.typeIn K (.ref (Ca K i)) = some (.type "type"))) = true
  b11 : all25 (fun i => all25 fun j => decide (PySem.W.kitOne K (.ref (Ca K i)) (.ref (Ca K j)) = some (decide (i = j)))) = true
  b12 : all25 (fun i => decide (PySem.W.kitOne K (.ref (Ca K i)) (.ref (Ta K)) = some true)) = true
  b13 : all25 (fun i => decide (PySem.W.kitOne K (.ref (Ca K i)) (.type "ValueError") = some true)) = true
  b14 : all25 (fun i => decide (PySem.W.kitOne K (.ref (Ta K)) (.ref (Ca K i)) = some false)) = true
  b15 : PySem.W.kitOne K (.ref (Ta K)) (.type "ValueError") = some true
  b16 : all25 (fun i => decide (PySem.W.kitOne K (.type "ValueError") (.ref (Ca K i)) = some false)) = true
  b17 : (([0, 5, 9, 22, 24] : List Nat).all fun i => ([0, 5, 9, 22, 24] : List Nat).all fun j => decide (PySem.W.exmOne K (.ref (Ca K i)) (.ref (Ca K j)) = some (decide (i = j)))) = true
  b18 : PySem.W.exmOne K (.ref (Ca K 4)) (.ref (Ta K)) = some true
  b19 : oexB K (Ca K 4) = true
  b20 : decide (PySem.W.findIn K (.ref (Ca K 4)) "__setattr__" = some (some (.builtin "object.__setattr__"))) = true
  b21 : decide (PySem.W.findIn K (.ref (Ca K 4)) "row" = some none) = true
  b22 : decide (PySem.W.findIn K (.ref (Ca K 4)) "word" = some none) = true
  b23 : PySem.W.readsIn K (Ta K) (.type "type") = true
  b24 : decide (PySem.W.specialIn K (.ref (Ta K)) "__getattribute__" = some (some (.builtin "type.__getattribute__"))) = true
  b25 : vvB K = true
theorem ck_ok (C : Addr) : ∀ ws : List Value, ws.length = 2 → PySem.Bind.checkArgs "ValueError.__new__" ⟨.any, "ValueError", "ValueError", .cls, [⟨"args", .varPos, false⟩, ⟨"kwargs", .varKw, false⟩]⟩ ⟨[.ref C], (["word", "row"] : List Str).zip ws⟩ = pure () := by
  intro ws h
  match ws, h with
  | [x, y], _ => kernel_rfl
theorem wd_of {K : PySem.W.Frag} {mg : Str → Option Value} {h : Heap} {C fI : Addr} (X : K.In h) (G : h.Ns mainGlobals mg) (b : Bs K) (eC : PySem.W.nsIn K mainGlobals "BadRows" = some (some (.ref C))) (aI : PySem.W.findIn K (.ref C) "__init__" = some (some (.ref fI))) (tI : PySem.W.typeIn K (.ref fI) = some (.type "function")) : Wd K mg fI := by
  have gg : ∀ i, i < 25 → mg (cN.getD i "") = some (.ref (Ca K i)) := fun i hi => PySem.W.mg_of X G (isAt_ok (all25_ok b.b1 i hi))
  have e4 : Ca K 4 = C := by
    show (match PySem.W.nsIn K mainGlobals "BadRows" with | some (some (.ref C)) => C | _ => 0) = C
    rw [eC]
  have x4 := xcB_ok (all25_ok b.b8 4 (by decide))
  exact {
    g := gg
    gT := PySem.W.mg_of X G (isAt_ok b.b2)
    gV := PySem.W.mg_none_of X G (of_decide_eq_true (List.all_eq_true.mp b.b3 "ValueError" (by simp [frees])))
    kp := all25_ok b.b4
    kpT := b.b5
    ex := fun i hi hn => by
      have z := all25_ok b.b6 i hi
      rcases Bool.or_eq_true_iff.mp z with z | z
      · exact absurd (beq_iff_eq.mp z) hn
      · exact z
    exT := b.b7
    xc := fun i hi => xcB_ok (all25_ok b.b8 i hi)
    xcT := xcB_ok b.b9
    ty := fun i hi => of_decide_eq_true (all25_ok b.b10 i hi)
    kit := fun i j hi hj => of_decide_eq_true (all25_ok (all25_ok b.b11 i hi) j hj)
    kitT := fun i hi => of_decide_eq_true (all25_ok b.b12 i hi)
    kitV := fun i hi => of_decide_eq_true (all25_ok b.b13 i hi)
    tk := fun i hi => of_decide_eq_true (all25_ok b.b14 i hi)
    tV := b.b15
    vk := fun i hi => of_decide_eq_true (all25_ok b.b16 i hi)
    em := fun i j hi hj => of_decide_eq_true (List.all_eq_true.mp (List.all_eq_true.mp b.b17 i hi) j hj)
    emT := b.b18
    ox := ⟨gg 4 (by decide), ⟨oexB_ok b.b19, of_decide_eq_true b.b20, x4.hs, of_decide_eq_true (all25_ok b.b10 4 (by decide)), all25_ok b.b4 4 (by decide)⟩, by rw [e4]; exact aI, tI⟩
    nr := of_decide_eq_true b.b21
    nw := of_decide_eq_true b.b22
    rd := b.b23
    ga := of_decide_eq_true b.b24
    vV := vvB_ok b.b25
    ck := ck_ok _ }
theorem bn_of {K : PySem.W.Frag} {mg : Str → Option Value} {h : Heap} (X : K.In h) (G : h.Ns mainGlobals mg) (b : freeB K = true) : Bn mg := by
  have z : ∀ x ∈ frees, mg x = none := fun x hx => PySem.W.mg_none_of X G (of_decide_eq_true (List.all_eq_true.mp b x hx))
  exact ⟨z _ (by simp [frees]), z _ (by simp [frees]), z _ (by simp [frees]), z _ (by simp [frees]), z _ (by simp [frees]), z _ (by simp [frees]), z _ (by simp [frees]), z _ (by simp [frees]), z _ (by simp [frees]), z _ (by simp [frees]),
    z _ (by simp [frees]), z _ (by simp [frees]), z _ (by simp [frees]), z _ (by simp [frees]), z _ (by simp [frees]), z _ (by simp [frees]), z _ (by simp [frees]), z _ (by simp [frees])⟩
theorem gWR_rel : ∀ {vs : List V} {us : List Value} {zs : List V} {ws : List Value}, Vals vs us → Vals zs ws → Vals (gWR vs zs) (gWR us ws)
  | [], [], _, _, .nil, _ => .nil
  | [_], [_], [], [], r1, .nil => r1
  | [_], [_], [_], [_], r1, .cons _ .nil => r1
  | [_], [_], [_, _], [_, _], .cons x .nil, .cons w (.cons r .nil) => .cons x (.cons r (.cons w .nil))
  | [_], [_], _ :: _ :: _ :: _, _ :: _ :: _ :: _, r1, .cons _ (.cons _ (.cons _ _)) => r1
  | _ :: _ :: _, _ :: _ :: _, _, _, r1, _ => r1
theorem all_mk {P : Program} {w : World} {K : PySem.W.Frag} {h : Heap} {mg : Str → Option Value} {fa C fI f1 f2 f3 f4 : Addr} (X : K.In h) (G : h.Ns mainGlobals mg) (hfa : mg "law" = some (.ref fa)) (b : Bs K)
    {odI anI od1 an1 od2 an2 od3 an3 od4 an4 : Option Addr} {slI sl1 sl2 sl3 sl4 : Array (Option Value)} {ocI kVI dcI pmI cdI ctI oc1 kV1 dc1 pm1 cd1 ct1 oc2 kV2 dc2 pm2 cd2 ct2 oc3 kV3 dc3 pm3 cd3 ct3 oc4 kV4 dc4 pm4 cd4 ct4 : Value}
    (aC : PySem.W.nsIn K mainGlobals "BadRows" = some (some (.ref C))) (aI : PySem.W.findIn K (.ref C) "__init__" = some (some (.ref fI))) (tI : PySem.W.typeIn K (.ref fI) = some (.type "function"))
    (lI : K.lookup fI = some ⟨ocI, odI, .func (PySem.W.fnOf "__init__" "BadRows.__init__" (defArgs s_init) (defBody s_init) (defScope s_init) .none kVI dcI pmI anI cdI ctI), slI⟩) (cI : PySem.W.codeIn K cdI "BadRows.__init__" = true) (kI : PySem.W.keepIn K (.ref fI) = true)
    (a1 : PySem.W.nsIn K mainGlobals "_law_flags" = some (some (.ref f1))) (l1 : K.lookup f1 = some ⟨oc1, od1, .func (PySem.W.fnOf "_law_flags" "_law_flags" (defArgs s__law_flags) (defBody s__law_flags) (defScope s__law_flags) .none kV1 dc1 pm1 an1 cd1 ct1), sl1⟩) (c1 : PySem.W.codeIn K cd1 "_law_flags" = true) (k1 : PySem.W.keepIn K (.ref f1) = true)
    (a2 : PySem.W.nsIn K mainGlobals "_law_is_caught" = some (some (.ref f2))) (l2 : K.lookup f2 = some ⟨oc2, od2, .func (PySem.W.fnOf "_law_is_caught" "_law_is_caught" (defArgs s__law_is_caught) (defBody s__law_is_caught) (defScope s__law_is_caught) .none kV2 dc2 pm2 an2 cd2 ct2), sl2⟩) (c2 : PySem.W.codeIn K cd2 "_law_is_caught" = true) (k2 : PySem.W.keepIn K (.ref f2) = true)
    (a3 : PySem.W.nsIn K mainGlobals "_law_is_base_caught" = some (some (.ref f3))) (l3 : K.lookup f3 = some ⟨oc3, od3, .func (PySem.W.fnOf "_law_is_base_caught" "_law_is_base_caught" (defArgs s__law_is_base_caught) (defBody s__law_is_base_caught) (defScope s__law_is_base_caught) .none kV3 dc3 pm3 an3 cd3 ct3), sl3⟩) (c3 : PySem.W.codeIn K cd3 "_law_is_base_caught" = true) (k3 : PySem.W.keepIn K (.ref f3) = true)
    (a4 : PySem.W.nsIn K mainGlobals "law" = some (some (.ref f4))) (l4 : K.lookup f4 = some ⟨oc4, od4, .func (PySem.W.fnOf "law" "law" (defArgs s_law) (defBody s_law) (defScope s_law) .none kV4 dc4 pm4 an4 cd4 ct4), sl4⟩) (c4 : PySem.W.codeIn K cd4 "law" = true) (k4 : PySem.W.keepIn K (.ref f4) = true) :
    ∃ fd : FuncData, (∀ (s : Shared) (u : Value), BindsTo s fd ⟨[u], []⟩ [("_law_script", u)]) ∧ ∀ bs : Heap, K.In bs → bs.Ns mainGlobals mg → FnG P w K mg bs 4 fa fd ["_law_script"] (spLaw K) := by
  have W := wd_of X G b aC aI tI
  have B := bn_of X G b.b3
  have FI := fun_mk (st := s_init) lI cI kI
  have F1 := fun_mk (st := s__law_flags) l1 c1 k1
  have F2 := fun_mk (st := s__law_is_caught) l2 c2 k2
  have F3 := fun_mk (st := s__law_is_base_caught) l3 c3 k3
  have F4 := fun_mk (st := s_law) l4 c4 k4
  have bI := FI.binds (ps := ["self", "row", "word"]) fun _ _ _ _ _ _ us hl => match us, hl with | [_, _, _], _ => rfl
  have b1 := F1.binds (ps := ["_law_e"]) fun _ _ _ _ _ _ us hl => match us, hl with | [_], _ => rfl
  have b2 := F2.binds (ps := ["_law_number", "_law_text"]) fun _ _ _ _ _ _ us hl => match us, hl with | [_, _], _ => rfl
  have b3 := F3.binds (ps := ["_law_row", "_law_word"]) fun _ _ _ _ _ _ us hl => match us, hl with | [_, _], _ => rfl
  have b4 := F4.binds (ps := ["_law_script"]) fun _ _ _ _ _ _ us hl => match us, hl with | [_], _ => rfl
  have g1 := PySem.W.mg_of X G a1
  have g2 := PySem.W.mg_of X G a2
  have g3 := PySem.W.mg_of X G a3
  have g4 := PySem.W.mg_of X G a4
  have e := hfa.symm.trans g4
  cases e
  have bk : KBn K (PySem.W.fnOf "__init__" "BadRows.__init__" (defArgs s_init) (defBody s_init) (defScope s_init) .none kVI dcI pmI anI cdI ctI) ["self", "row", "word"] 1 ["word", "row"] gWR gWR := ⟨fun s us ws _ l1 l2 => match us, l1, ws, l2 with | [_], _, [_, _], _ => .of_eq rfl, gWR_rel⟩
  refine ⟨PySem.W.fnOf "law" "law" (defArgs s_law) (defBody s_law) (defScope s_law) .none kV4 dc4 pm4 an4 cd4 ct4, fun s u => .of_eq rfl, fun bs _ _ => ?_⟩
  have okI := ok_init (P := P) (w := w) (base := bs) FI W
  have C1 := ok_flags (P := P) (w := w) (base := bs) ⟨_, _, F1, g1, b1⟩ B W
  have C2 := ok_caught (P := P) (w := w) (base := bs) ⟨_, _, F2, g2, b2⟩ B W
  have C3 := ok_base (P := P) (w := w) (base := bs) ⟨_, _, F3, g3, b3⟩ B W okI bI
  exact ok_law (P := P) (w := w) (base := bs) F4 B W okI bI bk C1 C2 C3
end
end J
open PySem PySem.W PyProof.Rows in
set_option maxRecDepth 100000 in
set_option maxHeartbeats 0 in
theorem PySem.Challenge.cw_eachinturn_k00_error_classes_holds : PySem.Challenge.rw_eachinturn_k00_error_classes.Holds := by
  w_on; o_law; k_head; (case hw => w_witness2)
  k_fill
  refine J.walk_ofG (l := PySem.Challenge.rw_eachinturn_k00_error_classes) (n := 63) (k := 4) (x := "_law_script") (sp := fun K => J.spLaw K) rfl (by decide) rfl ⟨rfl, by decide, by decide⟩ (fun w h Y => PySem.W.kIn_of Y) ?F (fun K H a ns hl _ hS => ⟨a, ns, rfl, hS, hl, fun _ => rfl⟩)
  case F =>
    intro w mg fa h KX G hmg
    refine' J.all_mk KX G hmg ?bs ?aC ?aI ?tI ?lI ?cI ?kI ?a1 ?l1 ?c1 ?k1 ?a2 ?l2 ?c2 ?k2 ?a3 ?l3 ?c3 ?k3 ?a4 ?l4 ?c4 ?k4
    (case aC => k_is)
    (case aI => k_is)
    (case tI => k_is)
    (case lI => k_is)
    (case cI => k_is)
    (case kI => k_is)
    (case a1 => k_is)
    (case l1 => k_is)
    (case c1 => k_is)
    (case k1 => k_is)
    (case a2 => k_is)
    (case l2 => k_is)
    (case c2 => k_is)
    (case k2 => k_is)
    (case a3 => k_is)
    (case l3 => k_is)
    (case c3 => k_is)
    (case k3 => k_is)
    (case a4 => k_is)
    (case l4 => k_is)
    (case c4 => k_is)
    (case k4 => k_is)
    (case bs => exact { b1 := by kernel_rfl, b2 := by kernel_rfl, b3 := by kernel_rfl, b4 := by kernel_rfl, b5 := by kernel_rfl, b6 := by kernel_rfl, b7 := by kernel_rfl, b8 := by kernel_rfl, b9 := by kernel_rfl, b10 := by kernel_rfl, b11 := by kernel_rfl, b12 := by kernel_rfl, b13 := by kernel_rfl, b14 := by kernel_rfl, b15 := by kernel_rfl, b16 := by kernel_rfl, b17 := by kernel_rfl, b18 := by kernel_rfl, b19 := by kernel_rfl, b20 := by kernel_rfl, b21 := by kernel_rfl, b22 := by kernel_rfl, b23 := by kernel_rfl, b24 := by kernel_rfl, b25 := by kernel_rfl })
