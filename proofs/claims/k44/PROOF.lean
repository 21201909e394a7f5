import PyProof.Rows.All
import Wide.All
import OpenK.AllK
import Wide.FinOn
import PySem.Challenge.RW_eachinturn_k44_told_rings_and_their_coun
import HandS.ForMost
import HandS.Deep
import HandS.Wide
import HandS.IsInst
import HandS.TupAny
import HandS.Style
import PyProof.P3In
import PyProof.Rows.EqDataRows
import HandS.Conv
import HandS.TupSets
import HandS.SetBool
import HandS.Strs
import HandS.ExcOwn
import HandS.ExcValue
import HandS.Text
import PyProof.Rows.SortShellAny
import PyProof.ReprLen
import PyProof.Rows.RegFStrParts
import HandS.Zip
import KE.KSortTupG
import HandS.RaiseMore
import HandS.Walk
import KE.KDictZip
import KE.GoesMore
import KE.KItemsList
import HandS.TupMul
import KE.KDictPairs
import KE.KDictKeyed
import HandS.Flow
import HandS.TupLen
import HandS.DictComp
import HandS.SetFor
import PyProof.Rows.ChunkEnd
import KE.SortData
import KE.KDictDisplayH
import KE.KeyNested
import HandS.List
import KE.KDictCopyH
import KE.DataMinMax
import HandS.WordsExc
import HandS.ExcIs
import HandS.ListItems
import HandS.SortInts
import KE.DatumIndex
import PyProof.NeKinds
import HandS.Dict
set_option Elab.async false
set_option linter.all false
set_option maxRecDepth 100000
set_option maxHeartbeats 8000000
section
open PySem PySem.W PyProof.Rows
set_option maxRecDepth 100000
set_option maxHeartbeats 0
open_top k44_top for PySem.Challenge.rw_eachinturn_k44_told_rings_and_their_coun
end
namespace J
section
open L2 PySem PySem.Spec PyProof.Rows
def rShow (K : PySem.W.Frag) : List V → Hp → VK → Prop := fun xs H Q => ∃ (x : V) (d : PyData), xs = [x] ∧ Dp K H x d ∧ d.showable = true ∧ d.hasDict = false ∧ d.depth ≤ 40 ∧ d.shown.length ≤ sizeLine ∧ (∃ a, x = .ref a) ∧ Q (.str d.shown) H
theorem call_show {X : Cx} (hg : X.A.guards = some []) (hu : X.A.units + 64 < cLine) : CallR X (.builtin "repr") (rShow X.K) := by
  intro pins s σ H xs us Q I r h
  obtain ⟨x, d, rfl, hd, hs, hn, h40, hl, ⟨a, rfl⟩, q⟩ := h
  match us, r with
  | [u], .cons ru .nil =>
    obtain ⟨as, rd⟩ := Dp.reads I d _ u hd ru
    obtain rfl : u = Value.ref a := ru
    exact repr_of_reads' rd hs (fun z => by rw [hn] at z; cases z) hg (by omega) (fun b o e => e) (fun h' t tk k => ⟨.str d.shown, H, I.kept k, ⟨t, rfl⟩, q⟩) hl
structure FnG (P : Program) (w : World) (K : PySem.W.Frag) (mg : Str → Option Value) (base : Heap) (k : Nat) (f : Addr) (fd : FuncData) (ps : List Str) (sp : Sp) : Prop where
  len : ∀ us H Q E, sp us H Q E → us.length = ps.length
  go : ∀ (A : Around) (fr : List Env) (s : Shared) (H : Hp) (ar : Args) (us : List Value) (vs : List V) (Q : VK) (E : XK), A.guards = some [] → Room k A → Env0 P w K mg base A fr s H → BindsTo s fd ar (ps.zip us) →
    Vals vs us → sp vs H Q E → codeAny (model P w) A (.call (.ref f) ar) (CR CX0 fr P w H s Q E) s
section
variable {base : Heap} {P : Program} {w : World} {K : PySem.W.Frag} {mg : Str → Option Value}
theorem okG {x qual : Str} {st : Stmt} {f : Addr} {fd : FuncData} {N ps : List Str} {k : Nat} {sp : Sp} (F : Fun K x qual st f fd) (S : FnScope N ps (defScope st)) (len : ∀ vs H Q E, sp vs H Q E → vs.length = ps.length)
    (bd : ∀ (cdv : Value) (A : Around) (fr : List Env) (s : Shared) (H : Hp) (vs : List V) (Q : VK) (E : XK), A.guards = some [] → Room k (A.deeper (envOfC qual (defScope st) s.heap.objs.size f cdv)) → sp vs H Q E →
      ∃ t, PSs (cxOf CX0 P w K mg base N qual (defScope st) f cdv A fr s H E).nox (defBody st) t ∧ t { nx := fun _ H' => Q .non H', rt := Q } (start N vs) H) :
    FnG P w K mg base (k + 1) f fd ps sp := by
  obtain ⟨oc, od, kV, doc, pm, an, cdv, ct, osl, rfl, lk, hcd⟩ := F.ex
  refine ⟨len, fun A fr s H ar us vs Q E hg hr e0 hb r hsp => ?_⟩
  have hlen := len _ _ _ _ hsp
  have kin : K.In s.heap := PySem.W.Frag.In.keeps e0.mod.kin (fun b o e => (e0.bs b o e).1)
  have nol : s.heap.NoLimit := Heap.NoLimit.keeps e0.mod.nolimit (fun b o e => (e0.bs b o e).1)
  obtain ⟨t, ht, hq⟩ := bd cdv A fr s H vs Q E hg (hr.deeper _) hsp
  have kd : ∀ z ∈ ps.zip us, (defScope st).names.lookup z.1 = some .local ∨ ((defScope st).names.lookup z.1 = some .cell ∧ ((cellsFrom (s.heap.objs.size + 1) (defScope st).names []).lookup z.1).isSome = true) := by
    rintro ⟨n, v⟩ hz
    cases S.par n (List.of_mem_zip hz).1 with
    | inl q => exact .inl q
    | inr q => exact .inr ⟨q, PySem.W.cellsFrom_some _ _ _ (.inl q)⟩
  refine codeAny_call_function hr.depth (kin _ _ lk) rfl S.co S.gen rfl (PySem.W.codeRec_of kin hcd) (hb _ _ _ _ (wpAny_newFunctionEnv_cells S.kind kd ?_))
  rintro env rfl s1 x
  refine ⟨nol.keeps x.toInCall.keep, codeAny_func (wpAny_mono (ht.nox.run [] s1 (start N vs) H _ (inv_start S hr.hd e0 hlen r x) hq) ?_ fun _ _ z => z)⟩
  rintro (_ | _ | _ | u) s' hs
  · obtain ⟨_, _, J, q⟩ := hs
    exact ⟨V.non, _, J.os, J.bare, J.base, J.hok, rfl, q⟩
  · obtain ⟨_, _, _, q⟩ := hs
    exact q.elim
  · obtain ⟨_, _, _, q⟩ := hs
    exact q.elim
  · obtain ⟨v, _, _, J, rv, q⟩ := hs
    exact ⟨v, _, J.os, J.bare, J.base, J.hok, rv, q⟩
end
section
variable {P : Program} {w : World} {K : PySem.W.Frag} {mg mb : Str → Option Value} {k : Nat} {fa a : Addr} {fd : FuncData} {x : Str} {sp : Sp} {s₁ : Shared} {vs : List Value} {ns : List Int}
abbrev Told (s₁ : Shared) : Result → Shared → Prop := fun r s' => r = .ok (.ret (.bool true)) ∧ OldK s₁.heap s'.heap ∧ s'.os = s₁.os ∧ AllBare s'.gens
theorem run_core {H : Hp} (KX : K.In s₁.heap) (hns : s₁.heap.Ns mainGlobals mg) (hb : s₁.heap.Ns builtinsNs mb) (hbb : ∀ y : Str, y ≠ "__name__" → mb y = bootBuiltins y) (hlim : s₁.heap.NoLimit) (hg : s₁.gens = #[])
    (ha : s₁.heap.get? a = some { cls := .type "list", data := .seq vs.toArray }) (hr : Room k callerA)
    (F : ∀ bs : Heap, K.In bs → bs.Ns mainGlobals mg → FnG P w K mg bs k fa fd [x] sp) (hbind : ∀ (s : Shared) (u : Value), BindsTo s fd ⟨[u], []⟩ [(x, u)])
    (hO : Only H) (hsp : sp [.ref a] H (fun v _ => v = .bl true) fun _ _ _ => False) (hok : HOk P w H s₁.heap) (hA : ∀ b u, H b = some u → b = a) (hK : ∀ u, H a = some u → K.lookup a = none) :
    codeAny (model P w) callerA (.call (.ref fa) ⟨[.ref a], []⟩) (Told s₁) s₁ := by
  have away : ∀ {b : Addr} {o : Obj}, s₁.heap.get? b = some o → (∀ ws n, o.data ≠ .seq ws n) → H b = none := by
    intro b o e nd
    cases q : H b with
    | none => rfl
    | some u =>
      have eb := hA b u q
      rw [eb, ha] at e
      exact absurd (congrArg Obj.data (Option.some.inj e)).symm (nd _ _)
  have ns' : ∀ {b : Addr} {m : Str → Option Value}, s₁.heap.Ns b m → (hidT s₁.heap H).Ns b m := by
    rintro b m ⟨o, es, ep, e, dt, r⟩
    exact ⟨o, es, ep, hidT_get e (away e fun ws n z => by rw [dt] at z; cases z), dt, r⟩
  have kb : K.In (hidT s₁.heap H) := by
    intro b o e
    refine hidT_get (KX b o e) ?_
    cases q : H b with
    | none => rfl
    | some u =>
      have eb := hA b u q
      subst eb
      rw [hK u q] at e
      cases e
  have mo : Mod K mg (hidT s₁.heap H) := ⟨kb, ns' hns, ⟨mb, ns' hb, hbb⟩, by obtain ⟨mc, l1, l2⟩ := hlim; exact ⟨mc, ns' l1, l2⟩⟩
  have ev : Env0 P w K mg (hidT s₁.heap H) callerA [] s₁ H := ⟨rfl, mo, fun b o z => of_hidT z, Nat.le_of_eq (hidT_size _ _), trivial, by rintro b ⟨⟩, hok, .of_eq hg⟩
  have go := (F _ kb (ns' hns)).go callerA [] s₁ H ⟨[.ref a], []⟩ [.ref a] [.ref a] _ _ rfl hr ev (hbind s₁ (.ref a)) (.cons rfl .nil) hsp
  refine codeAny_mono go ?_
  rintro (err | (_ | _ | _ | u)) s' h
  · exact (show False by simpa [CR, CX0] using h).elim
  · exact h.elim
  · exact h.elim
  · exact h.elim
  · obtain ⟨v, H', os, bare, un, hok', r', q⟩ := h
    obtain rfl : v = .bl true := q
    obtain rfl : u = Value.bool true := r'
    refine ⟨rfl, OldK.of_keep ?_, os, bare⟩
    intro b o e
    rcases hO b with z | ⟨ob, xs, z⟩
    · exact un.keep b o e z (by rintro ⟨⟩) (by simp)
    · have f1 := (hok b _ z).1
      have f2 := (hok' b _ (un.frzs b ob _ z)).1
      rw [e] at f1
      cases f1
      exact f2
theorem law_callG (KX : K.In s₁.heap) (hns : s₁.heap.Ns mainGlobals mg) (hb : s₁.heap.Ns builtinsNs mb) (hbb : ∀ y : Str, y ≠ "__name__" → mb y = bootBuiltins y) (hlim : s₁.heap.NoLimit) (hg : s₁.gens = #[])
    (ha : s₁.heap.get? a = some { cls := .type "list", data := .seq vs.toArray })
    (hi : IntsAre vs ns) (hl : ns.length ≤ sizeLine) (hr : Room k callerA)
    (F : ∀ bs : Heap, K.In bs → bs.Ns mainGlobals mg → FnG P w K mg bs k fa fd [x] sp) (hbind : ∀ (s : Shared) (u : Value), BindsTo s fd ⟨[u], []⟩ [(x, u)])
    (hsp : ∀ H : Hp, Only H → SqL K H a (ns.map V.int) → sp [.ref a] H (fun v _ => v = .bl true) fun _ _ _ => False) :
    codeAny (model P w) callerA (.call (.ref fa) ⟨[.ref a], []⟩) (Told s₁) s₁ := by
  have rv := vals_ints hi
  have ln := hi.length
  by_cases hk : ∃ o, K.lookup a = some o
  · obtain ⟨o, hk⟩ := hk
    have e := KX a o hk
    rw [ha] at e
    cases e
    have hO : Only (fun _ => none) := fun _ => .inl rfl
    refine run_core (H := fun _ => none) KX hns hb hbb hlim hg ha hr F hbind hO (hsp _ hO (.inr ⟨_, vs.toArray, _, hk, rfl, rfl, rfl, ?_, by simpa using rv⟩)) ?_ ?_ ?_
    · rw [List.size_toArray, ln]
      exact hl
    · intro b u z
      cases z
    · intro b u z
      cases z
    · intro u z
      cases z
  · have hk0 : K.lookup a = none := by
      cases q : K.lookup a with
      | none => rfl
      | some o => exact absurd ⟨o, q⟩ hk
    let fz : HO := .frz { cls := .type "list", data := .seq vs.toArray } (.lst (ns.map V.int))
    let H : Hp := upd (fun _ => none) a fz
    have hO : Only H := by
      intro b
      by_cases e : b = a
      · subst e
        exact .inr ⟨_, _, upd_same⟩
      · exact .inl (upd_ne e)
    have one : ∀ b u, H b = some u → b = a := by
      intro b u z
      by_cases e : b = a
      · exact e
      · rw [show H b = none from upd_ne e] at z
        cases z
    refine run_core (H := H) KX hns hb hbb hlim hg ha hr F hbind hO (hsp _ hO (.inl (.inr ⟨_, upd_same⟩))) ?_ one fun _ _ => hk0
    intro b u z
    have eb := one b u z
    subst eb
    rw [show H b = some fz from upd_same] at z
    cases z
    refine ⟨ha, ?_, vs, _, rv, ha⟩
    rw [List.length_map]
    exact hl
end
theorem walk_ofG {l : PySem.W.OpenLaw} {n k : Nat} {q : Program} {loose : List Str} {XP : (Str → Option Value) → Heap → Prop} {YP : World → Heap → Prop} {d : DefRec} {K : Params → PySem.W.Frag} {sp : PySem.W.Frag → Sp} {x : Str}
    (hn : l.most = some n) (hn2 : n ≤ sizeLine)
    (hdf : d.params.defaults = []) (hr : Room k callerA) (hY : ∀ (w : World) (h : Heap), YP w h → (K w.params).In h)
    (F : ∀ (w : World) (mg : Str → Option Value) (fa : Addr) (h : Heap), (K w.params).In h → h.Ns mainGlobals mg →
      mg d.name = some (.ref fa) → ∃ fd : FuncData, (∀ (s : Shared) (u : Value), BindsTo s fd ⟨[u], []⟩ [(x, u)]) ∧ ∀ bs : Heap, (K w.params).In bs → bs.Ns mainGlobals mg → FnG l.prog w (K w.params) mg bs k fa fd [x] (sp (K w.params)))
    (hsp : ∀ (K : PySem.W.Frag) (H : Hp) (a : Addr) (ns : List Int), ns.length ≤ n → Only H → SqL K H a (ns.map V.int) → sp K [.ref a] H (fun v _ => v = .bl true) fun _ _ _ => False) :
    PySem.W.WalkO q loose XP YP l.row.toRowW d []
      (fun f vs => PySem.call f vs) := by
  refine Att.attach_call hn hdf fun w s0 s1 mg mb fa o pm cd doc a vs ns G Y ho hd hcd hmg hobj hints hlen hg => ?_
  have kk := hY w _ Y
  obtain ⟨fd, h1, h2⟩ := F w mg fa _ kk G.T.g hmg
  exact law_callG kk G.T.g G.T.b G.T.builtins G.T.nolimit hg hobj hints (Nat.le_trans hlen hn2) hr h2 h1 fun H hO hS => hsp _ H a ns hlen hO hS
end
section
open L2 PySem PySem.Spec PyProof.Rows
structure Bn (mg : Str → Option Value) : Prop where
  int_ : mg "int" = none
  str_ : mg "str" = none
  tuple_ : mg "tuple" = none
  list_ : mg "list" = none
  bool_ : mg "bool" = none
  len_ : mg "len" = none
  isinstance_ : mg "isinstance" = none
  all_ : mg "all" = none
  any_ : mg "any" = none
  max_ : mg "max" = none
  min_ : mg "min" = none
  sum_ : mg "sum" = none
  sorted_ : mg "sorted" = none
  repr_ : mg "repr" = none
  range_ : mg "range" = none
  enumerate_ : mg "enumerate" = none
  zip_ : mg "zip" = none
  set_ : mg "set" = none
structure Cl (P : Program) (w : World) (K : PySem.W.Frag) (mg : Str → Option Value) (base : Heap) (k : Nat) (x : Str) (ps : List Str) (sp : Sp) : Prop where
  ex : ∃ (f : Addr) (fd : FuncData), FnOk P w K mg base CX0 k f fd ps sp ∧ mg x = some (.ref f) ∧ PySem.W.keepIn K (.ref f) = true ∧ Binds K fd ps []
section
variable {X : Cx} {k k' : Nat} {ps : List Str} {sp : Sp} {E : XK} {x : Str} {p pos : Pos} {e : Expr} {es : List Expr} {t : TA}
theorem pe_c (C : Cl X.prog X.w X.K X.mg X.base k x ps sp) (hr : Room k' X.A) (ha : PA X (e :: es) t) (hg : Gl X x := by rfl) (hk : k ≤ k' := by decide) (h1 : (x == ("__debug__" : Str)) = false := by decide)
    (h2 : starEach (e :: es) X.env = (false, eval e X.env) :: starEach es X.env := by rfl) (h3 : (backTo pos (starEach es X.env)).any (·.1) = false := by rfl) :
    PE X (.Call (.Name x p) (e :: es) [] pos) (tCall sp [] (fun _ _ _ => False) t) := by
  obtain ⟨f, fd, F, hm, kp, b⟩ := C.ex
  exact pe_call F (hr.mono hk) hg hm kp b .nil pass0 ha h1 h2 h3
end
structure Dn (K : PySem.W.Frag) (mg : Str → Option Value) (x : String) (st : Stmt) (ps : List Str) : Prop where
  ex : ∃ (f : Addr) (fd : FuncData), Fun K x x st f fd ∧ mg x = some (.ref f) ∧ Binds K fd ps []
section
variable {base : Heap} {P : Program} {w : World} {K : PySem.W.Frag} {mg : Str → Option Value}
theorem Dn.cl {x : String} {st : Stmt} {N ps : List Str} {k : Nat} {sp : Sp} (D : Dn K mg x st ps) (S : FnScope N ps (defScope st)) (len : ∀ vs H Q E, sp vs H Q E → vs.length = ps.length)
    (bd : ∀ (f : Addr) (cdv : Value) (A : Around) (fr : List Env) (s : Shared) (H : Hp) (vs : List V) (Q : VK) (E : XK), Room k (A.deeper (envOfC x (defScope st) s.heap.objs.size f cdv)) → sp vs H Q E →
      ∃ t, PSs (cxOf CX0 P w K mg base N x (defScope st) f cdv A fr s H E).nox (defBody st) t ∧ t { nx := fun _ H' => Q .non H', rt := Q } (start N vs) H) : Cl P w K mg base (k + 1) x ps sp := by
  obtain ⟨f, fd, F, hm, b⟩ := D.ex
  exact ⟨f, fd, F.ok S len (bd f), hm, F.kp, b⟩
end
end
section
open L2 PySem PySem.Spec PyProof.Rows
section
variable {X : Cx}
def rInt : List V → Hp → VK → Prop := fun xs H Q => (∃ i, xs = [.int i] ∧ Q (.int i) H) ∨ ∃ k, xs = [.bl k] ∧ Q (.int (if k then 1 else 0)) H
theorem j_int : CallR X (.type "int") rInt := call_int1
def rTupleOf (K : PySem.W.Frag) : List V → Hp → VK → Prop := fun xs H Q => ∃ p ys, xs = [.ref p] ∧ ((SqL K H p ys ∧ ∀ l, H l = none → Q (.ref l) (upd H l (.tup ys))) ∨ (SqT K H p ys ∧ Q (.ref p) H))
theorem j_tuple (h : CallR X (.type "tuple") (rTupleOf X.K) := by exact call_tuple_of) : CallR X (.type "tuple") (rTupleOf X.K) := h
def rListOf (K : PySem.W.Frag) : List V → Hp → VK → Prop := fun xs H Q => ∃ p ys, xs = [.ref p] ∧ (SqL K H p ys ∨ SqT K H p ys) ∧ ∀ l, H l = none → Q (.ref l) (upd H l (.lst ys))
theorem j_list (h : CallR X (.type "list") (rListOf X.K) := by exact call_list_of) : CallR X (.type "list") (rListOf X.K) := h
def rLenQ (K : PySem.W.Frag) : List V → Hp → VK → Prop := fun xs H Q => ∃ p ys, xs = [.ref p] ∧ (SqL K H p ys ∨ SqT K H p ys) ∧ Q (.int (ys.length : Nat)) H
theorem j_len (h : CallR X (.builtin "len") (rLenQ X.K) := by exact call_len_seq) : CallR X (.builtin "len") (rLenQ X.K) := h
def rMax : List V → Hp → VK → Prop := fun xs H Q => ∃ i j : Int, xs = [.int i, .int j] ∧ Q (.int (if j > i then j else i)) H
theorem j_max (hc : X.calm = true) : CallR X (.builtin "max") rMax := call_max2 hc
def rMin : List V → Hp → VK → Prop := fun xs H Q => ∃ i j : Int, xs = [.int i, .int j] ∧ Q (.int (if j < i then j else i)) H
theorem j_min (hc : X.calm = true) : CallR X (.builtin "min") rMin := call_min2 hc
def rAddS : R2 := fun x y H Q => ∃ i j : Str, x = .str i ∧ y = .str j ∧ i.length + j.length ≤ sizeLine ∧ Q (.str (i ++ j)) H
theorem o_addS : OpR X (binaryOp .Add) rAddS := op_add_str
end
section
variable {σ : L2.St} {H : Hp} {D : Ends} {Q : VK} {QB : Bool → Hp → Prop} {K : PySem.W.Frag}
theorem i_nx {n : L2.St → Hp → Prop} {r : VK} {b c : L2.St → Hp → Prop} (h : n σ H) : (Ends.mk n r b c).nx σ H := h
theorem i_seq {t u : TS} {n : L2.St → Hp → Prop} {r : VK} {b c : L2.St → Hp → Prop} (h : t ⟨u ⟨n, r, b, c⟩, r, b, c⟩ σ H) : tSeq t u ⟨n, r, b, c⟩ σ H := h
theorem i_next {n : L2.St → Hp → Prop} {r : VK} {b c : L2.St → Hp → Prop} (h : n σ H) : tNext ⟨n, r, b, c⟩ σ H := h
theorem i_asg {te : TE} {g : TG} {n : L2.St → Hp → Prop} {r : VK} {b c : L2.St → Hp → Prop} (h : te σ H fun x H1 => g x σ H1 n) : tAsg te g ⟨n, r, b, c⟩ σ H := h
theorem i_gname {i : Nat} {v : V} {q : L2.St → Hp → Prop} (h : q (σ.set i (some v)) H) : gName i v σ H q := h
theorem i_ret {te : TE} {n : L2.St → Hp → Prop} {r : VK} {b c : L2.St → Hp → Prop} (h : te σ H r) : tRet te ⟨n, r, b, c⟩ σ H := h
theorem i_drop {te : TE} {n : L2.St → Hp → Prop} {r : VK} {b c : L2.St → Hp → Prop} (h : te σ H fun _ H1 => n σ H1) : tDrop te ⟨n, r, b, c⟩ σ H := h
theorem i_ifS {k : TT} {t u : TS} {n : L2.St → Hp → Prop} {r : VK} {b c : L2.St → Hp → Prop} (h : k σ H fun d H1 => if d = true then t ⟨n, r, b, c⟩ σ H1 else u ⟨n, r, b, c⟩ σ H1) : tIfS k t u ⟨n, r, b, c⟩ σ H := h
theorem i_test {t : TE} (h : t σ H fun x H' => ∃ k, x = .bl k ∧ QB k H') : tTest t σ H QB := h
theorem i_tB {t : TE} (h : t σ H fun x H' => ∃ k, x = .bl k ∧ QB k H') : tB t σ H QB := h
theorem i_not {t : TT} (h : t σ H fun c H1 => QB (!c) H1) : tNot t σ H QB := h
theorem i_and {t u : TT} (h : t σ H fun c H1 => if c = true then u σ H1 QB else QB false H1) : tAnd t u σ H QB := h
theorem i_or {t u : TT} (h : t σ H fun c H1 => if c = true then QB true H1 else u σ H1 QB) : tOr t u σ H QB := h
theorem i_andV {t u : TE} (h : t σ H fun x H1 => ∃ c, x = .bl c ∧ if c = true then u σ H1 Q else Q (.bl false) H1) : tAndV t u σ H Q := h
theorem i_orV {t u : TE} (h : t σ H fun x H1 => ∃ c, x = .bl c ∧ if c = true then Q (.bl true) H1 else u σ H1 Q) : tOrV t u σ H Q := h
theorem i_blQ {b : Bool} {P : Bool → Prop} (h : P b) : ∃ k, V.bl b = .bl k ∧ P k := ⟨b, rfl, h⟩
theorem i_if {t : TT} {a b : TE} (h : t σ H fun c H1 => if c = true then a σ H1 Q else b σ H1 Q) : tIf t a b σ H Q := h
theorem i_op {r : R2} {a b : TE} (h : a σ H fun x H1 => b σ H1 fun y H2 => r x y H2 Q) : tOp r a b σ H Q := h
theorem i_un {r : V → Hp → VK → Prop} {a : TE} (h : a σ H fun x H1 => r x H1 Q) : tUn r a σ H Q := h
theorem i_chain {r r' : R2} {a b c : TE} (h : a σ H fun x H1 => b σ H1 fun y H2 => r x y H2 fun z H3 => ∃ k, z = .bl k ∧ if k = true then c σ H3 fun w' H4 => r' y w' H4 Q else Q (.bl false) H3) : tChain r r' a b c σ H Q := h
theorem i_var {i : Nat} {v : V} (e : σ[i]? = some (some v)) (h : Q v H) : tVar i σ H Q := ⟨v, e, h⟩
theorem i_c {v : V} (h : Q v H) : tC v σ H Q := h
theorem i_rI0 {g : Int → Int → V} {i j : Int} (h : Q (g i j) H) : rI0 g (.int i) (.int j) H Q := ⟨i, j, rfl, rfl, h⟩
theorem i_rI {C : Int → Int → Prop} {g : Int → Int → V} {i j : Int} (c : C i j) (h : Q (g i j) H) : rI C g (.int i) (.int j) H Q := ⟨i, j, rfl, rfl, c, h⟩
theorem i_rU {g : Int → V} {i : Int} (h : Q (g i) H) : rU g (.int i) H Q := ⟨i, rfl, h⟩
theorem i_eqI {i j : Int} (h : Q (.bl (decide (i = j))) H) : rEq (.int i) (.int j) H Q := ⟨rfl, by
  have e : decide (V.int i = V.int j) = decide (i = j) := by
    by_cases z : i = j
    · subst z
      simp
    · rw [decide_eq_false z, decide_eq_false (fun k => z (V.int.inj k))]
  rw [e]
  exact h⟩
theorem i_neI {i j : Int} (h : Q (.bl (decide (i ≠ j))) H) : rNe (.int i) (.int j) H Q := ⟨rfl, by
  have e : (!decide (V.int i = V.int j)) = decide (i ≠ j) := by
    by_cases z : i = j
    · subst z
      simp
    · rw [decide_eq_true z, decide_eq_false (fun k => z (V.int.inj k))]
      rfl
  rw [e]
  exact h⟩
theorem i_eqS {i j : Str} (h : Q (.bl (decide (i = j))) H) : rEq (.str i) (.str j) H Q := ⟨rfl, by
  have e : decide (V.str i = V.str j) = decide (i = j) := by
    by_cases z : i = j
    · subst z
      simp
    · rw [decide_eq_false z, decide_eq_false (fun k => z (V.str.inj k))]
  rw [e]
  exact h⟩
theorem i_neS {i j : Str} (h : Q (.bl (decide (i ≠ j))) H) : rNe (.str i) (.str j) H Q := ⟨rfl, by
  have e : (!decide (V.str i = V.str j)) = decide (i ≠ j) := by
    by_cases z : i = j
    · subst z
      simp
    · rw [decide_eq_true z, decide_eq_false (fun k => z (V.str.inj k))]
      rfl
  rw [e]
  exact h⟩
theorem i_ixL {p : Addr} {xs : List V} {i : Int} {v : V} (e : SqL K H p xs) (z : atI xs i = some v) (h : Q v H) : rIxL K (.ref p) (.int i) H Q := ⟨p, xs, i, v, rfl, rfl, e, z, h⟩
theorem i_ixT {p : Addr} {xs : List V} {i : Int} {v : V} (e : SqT K H p xs) (z : atI xs i = some v) (h : Q v H) : rIxT K (.ref p) (.int i) H Q := ⟨p, xs, i, v, rfl, rfl, e, z, h⟩
theorem i_setL {p : Addr} {xs : List V} {i : Int} {v : V} {j : Nat} {q : Hp → Prop} (e : H p = some (.lst xs)) (z : ixN xs.length i = some j) (h : q (upd H p (.lst (xs.set j v)))) : rSetL (.ref p) (.int i) v H q := ⟨p, xs, i, j, rfl, rfl, e, z, h⟩
theorem i_gsub {to ti : TE} {t : TSet} {v : V} {q : L2.St → Hp → Prop} (h : to σ H fun o H1 => ti σ H1 fun i H2 => t o i v H2 fun H3 => q σ H3) : gSub to ti t v σ H q := h
theorem i_cons {a : TE} {r : TA} {q : List V → Hp → Prop} (h : a σ H fun x H1 => r σ H1 fun xs H2 => q (x :: xs) H2) : tCons a r σ H q := h
theorem i_nil {q : List V → Hp → Prop} (h : q [] H) : tNil σ H q := h
theorem i_cb {r : List V → Hp → VK → Prop} {t : TA} (h : t σ H fun vs H1 => r vs H1 Q) : tCB r t σ H Q := h
theorem i_call {sp : Sp} {E : XK} {t : TA} (h : t σ H fun vs H1 => sp (vs ++ []) H1 Q E) : tCall sp [] E t σ H Q := h
theorem i_tup {t : TA} (h : t σ H fun xs H1 => xs.length ≤ sizeLine ∧ ∀ p, H1 p = none → Q (.ref p) (upd H1 p (.tup xs))) : tTup t σ H Q := h
theorem i_lst {t : TA} (h : t σ H fun xs H1 => xs.length ≤ sizeLine ∧ ∀ p, H1 p = none → Q (.ref p) (upd H1 p (.lst xs))) : tLst t σ H Q := h
theorem i_par {i j : Nat} {ta : TA} {n : L2.St → Hp → Prop} {r : VK} {b c : L2.St → Hp → Prop} (h : ta σ H fun vs H1 => ∃ v w, vs = [v, w] ∧ n ((σ.set i (some v)).set j (some w)) H1) : tPar i j ta ⟨n, r, b, c⟩ σ H := h
theorem i_par' {v w : V} {P : V → V → Prop} (h : P v w) : ∃ a b, [v, w] = [a, b] ∧ P a b := ⟨v, w, rfl, h⟩
theorem i_int {i : Int} (h : Q (.int i) H) : rInt [.int i] H Q := .inl ⟨i, rfl, h⟩
theorem i_tupL {p : Addr} {ys : List V} (e : SqL K H p ys) (h : ∀ l, H l = none → Q (.ref l) (upd H l (.tup ys))) : rTupleOf K [.ref p] H Q := ⟨p, ys, rfl, .inl ⟨e, h⟩⟩
theorem i_lstT {p : Addr} {ys : List V} (e : SqT K H p ys) (h : ∀ l, H l = none → Q (.ref l) (upd H l (.lst ys))) : rListOf K [.ref p] H Q := ⟨p, ys, rfl, .inr e, h⟩
theorem i_lenL {p : Addr} {ys : List V} (e : SqL K H p ys) (h : Q (.int (ys.length : Nat)) H) : rLenQ K [.ref p] H Q := ⟨p, ys, rfl, .inl e, h⟩
theorem i_lenT {p : Addr} {ys : List V} (e : SqT K H p ys) (h : Q (.int (ys.length : Nat)) H) : rLenQ K [.ref p] H Q := ⟨p, ys, rfl, .inr e, h⟩
theorem i_all {p : Addr} {bs : List Bool} (e : SqL K H p (bs.map V.bl)) (h : Q (.bl (bs.all id)) H) : rAll K [.ref p] H Q := ⟨p, bs, rfl, e, h⟩
theorem i_max {i j : Int} (h : Q (.int (max i j)) H) : rMax [.int i, .int j] H Q := ⟨i, j, rfl, by
  have e : (if j > i then j else i) = max i j := by
    split <;> omega
  rw [e]
  exact h⟩
theorem i_min {i j : Int} (h : Q (.int (min i j)) H) : rMin [.int i, .int j] H Q := ⟨i, j, rfl, by
  have e : (if j < i then j else i) = min i j := by
    split <;> omega
  rw [e]
  exact h⟩
theorem i_ite {c : Prop} [Decidable c] {A B : Prop} (h1 : c → A) (h2 : ¬ c → B) : if decide c = true then A else B := by
  by_cases z : c
  · rw [decide_eq_true z, if_pos rfl]
    exact h1 z
  · rw [decide_eq_false z, if_neg Bool.false_ne_true]
    exact h2 z
theorem i_iteN {c : Prop} [Decidable c] {A B : Prop} (h1 : ¬ c → A) (h2 : c → B) : if (!decide c) = true then A else B := by
  by_cases z : c
  · rw [decide_eq_true z, if_neg (by decide)]
    exact h2 z
  · rw [decide_eq_false z, if_pos (by decide)]
    exact h1 z
theorem i_iteT {A B : Prop} (h : A) : if true = true then A else B := by rw [if_pos rfl]; exact h
theorem i_iteF {A B : Prop} (h : B) : if false = true then A else B := by rw [if_neg Bool.false_ne_true]; exact h
theorem sq_lst {p : Addr} {xs : List V} (e : H p = some (.lst xs)) : SqL K H p xs := .inl (.inl e)
theorem sq_tup {p : Addr} {xs : List V} (e : H p = some (.tup xs)) : SqT K H p xs := .inl (.inl e)
theorem at0 {α : Type} {x : α} {xs : List α} : atI (x :: xs) 0 = some x := atI_nat (j := 0) rfl
theorem at1 {α : Type} {x y : α} {xs : List α} : atI (x :: y :: xs) 1 = some y := atI_nat (j := 1) rfl
theorem at2 {α : Type} {x y z : α} {xs : List α} : atI (x :: y :: z :: xs) 2 = some z := atI_nat (j := 2) rfl
theorem ix_nat {n k : Nat} (h : k < n) : ixN n (k : Int) = some k := by
  unfold ixN
  rw [if_pos (by omega), if_pos (by omega)]
  simp
end
end
section
open L2 PySem PySem.Spec PyProof.Rows
section
variable {σ : L2.St} {H : Hp} {D : Ends} {Q : VK} {K : PySem.W.Frag}
theorem i_sl {r : V → Option Int → Option Int → Hp → VK → Prop} {te : TE} {tl th : TO} (h : te σ H fun x H1 => tl σ H1 fun l H2 => th σ H2 fun u H3 => r x l u H3 Q) : tSl r te tl th σ H Q := h
theorem i_npart {q : Option Int → Hp → Prop} (h : q none H) : tNoPart σ H q := h
def partK (q : Option Int → Hp → Prop) : VK := fun x H1 => ∃ i, x = .int i ∧ q (some i) H1
theorem i_part {te : TE} {q : Option Int → Hp → Prop} (h : te σ H (partK q)) : tPart te σ H q := h
theorem i_partI {i : Int} {q : Option Int → Hp → Prop} (h : q (some i) H) : partK q (.int i) H := ⟨i, rfl, h⟩
theorem i_slL {p : Addr} {xs : List V} {lo hi : Option Int} (e : SqL K H p xs) (h : ∀ l, H l = none → Q (.ref l) (upd H l (.lst (cutV xs lo hi)))) : rSlL K (.ref p) lo hi H Q := ⟨p, xs, rfl, e, h⟩
theorem i_bm {T : String} {r : V → List V → Hp → VK → Prop} {to : TE} {t : TA} (h : to σ H fun x H1 => tyV K T x H1 ∧ t σ H1 fun xs H2 => r x xs H2 Q) : tBM K T r to t σ H Q := h
theorem i_tyL {p : Addr} {xs : List V} {A : Prop} (e : SqL K H p xs) (h : A) : tyV K "list" (.ref p) H ∧ A := ⟨.inl ⟨rfl, xs, e⟩, h⟩
theorem i_app {p : Addr} {xs : List V} {y : V} (e : H p = some (.lst xs)) (z : xs.length < sizeLine) (h : Q .non (upd H p (.lst (xs ++ [y])))) : rAppend (.ref p) [y] H Q := ⟨p, xs, y, rfl, rfl, e, z, h⟩
theorem i_popAt {p : Addr} {xs : List V} {k : Nat} {y : V} (e : H p = some (.lst xs)) (b : k < 2 ^ 60) (z : xs[k]? = some y) (h : Q y (upd H p (.lst (xs.eraseIdx k)))) : rPopAt (.ref p) [.int (k : Int)] H Q :=
  ⟨p, xs, k, k, y, rfl, rfl, e, by omega, by omega, by
    have hk := (List.getElem?_eq_some_iff.mp z).1
    exact (ixN_seq (ix_nat hk)).1, z, h⟩
theorem i_ext {p q : Addr} {xs zs : List V} (e : H p = some (.lst xs)) (e2 : H q = some (.lst zs)) (z : xs.length + zs.length ≤ sizeLine) (h : Q .non (upd H p (.lst (xs ++ zs)))) : rExtend (.ref p) [.ref q] H Q := ⟨p, q, xs, zs, rfl, rfl, e, e2, z, h⟩
theorem i_gtup {n : Nat} {t : TGs} {p : Addr} {xs : List V} {q : L2.St → Hp → Prop} (e : SqT K H p xs) (z : xs.length = n) (h : t xs σ H q) : gTup K n t (.ref p) σ H q := ⟨p, xs, rfl, e, z, h⟩
theorem i_gcons {t : TG} {u : TGs} {v : V} {r : List V} {q : L2.St → Hp → Prop} (h : t v σ H fun σ' H' => u r σ' H' q) : gCons t u (v :: r) σ H q := ⟨v, r, rfl, h⟩
theorem i_gnil {q : L2.St → Hp → Prop} (h : q σ H) : gNil [] σ H q := ⟨rfl, h⟩
theorem i_sum {p : Addr} {ns : List Int} (e : SqL K H p (ns.map V.int)) (h : Q (.int ns.sum) H) : rSum K [.ref p] H Q := ⟨p, ns, rfl, e, h⟩
def rIxA (K : PySem.W.Frag) : R2 := fun x y H Q => rIxL K x y H Q ∨ rIxT K x y H Q
theorem ix_any {X : Cx} : IxR X (rIxA X.K) := by
  intro e1 e2 ps st sl hp x y v u Q I r1 r2 h hs
  rcases h with h | h
  · exact ix_list e1 e2 ps st sl hp x y v u Q I r1 r2 h hs
  · exact ix_tup e1 e2 ps st sl hp x y v u Q I r1 r2 h hs
def SqA (K : PySem.W.Frag) (H : Hp) (p : Addr) (xs : List V) : Prop := SqL K H p xs ∨ SqT K H p xs
theorem i_ixA {p : Addr} {xs : List V} {i : Int} {v : V} (e : SqA K H p xs) (z : atI xs i = some v) (h : Q v H) : rIxA K (.ref p) (.int i) H Q := by
  rcases e with e | e
  · exact .inl (i_ixL e z h)
  · exact .inr (i_ixT e z h)
theorem i_lenA {p : Addr} {ys : List V} (e : SqA K H p ys) (h : Q (.int (ys.length : Nat)) H) : rLenQ K [.ref p] H Q := ⟨p, ys, rfl, e, h⟩
theorem i_lstA {p : Addr} {ys : List V} (e : SqA K H p ys) (h : ∀ l, H l = none → Q (.ref l) (upd H l (.lst ys))) : rListOf K [.ref p] H Q := ⟨p, ys, rfl, e, h⟩
theorem perm_erase {α : Type} : ∀ (l : List α) (k : Nat) (h : k < l.length), (l[k] :: l.eraseIdx k).Perm l
  | [], _, h => absurd h (Nat.not_lt_zero _)
  | x :: r, 0, _ => List.Perm.refl _
  | x :: r, k + 1, h => by
    have hk : k < r.length := Nat.lt_of_succ_lt_succ h
    have ih := perm_erase r k hk
    show (r[k] :: x :: r.eraseIdx k).Perm (x :: r)
    exact (List.Perm.swap x r[k] _).trans (ih.cons x)
def forK (g : TG) (tb : TS) (D : Ends) (σ : L2.St) : It → Hp → Prop := fun J h => tFor (fun _ h' R => R J h') g tb D σ h
theorem i_for {wi : TI} {g : TG} {tb : TS} (h : wi σ H (forK g tb D σ)) : tFor wi g tb D σ H := h
def lcK (g : TG) (tt : TT) (te : TE) (vs : List Nat) (σ : L2.St) (Q : VK) : It → Hp → Prop := fun J h => tLc (fun _ h' R => R J h') g tt te vs σ h Q
theorem i_lc {wi : TI} {g : TG} {tt : TT} {te : TE} {vs : List Nat} (h : wi σ H (lcK g tt te vs σ Q)) : tLc wi g tt te vs σ H Q := h
section
variable {R : It → Hp → Prop}
def rgK (R : It → Hp → Prop) : List V → Hp → Prop := fun vs H => ∃ j : Int, vs = [.int j] ∧ -(2 ^ 62) ≤ j ∧ j < 2 ^ 62 ∧ R (Itr 0 j.toNat) H
def rgK2 (R : It → Hp → Prop) : List V → Hp → Prop := fun vs H => ∃ i j : Int, vs = [.int i, .int j] ∧ (-(2 ^ 62) ≤ i ∧ i < 2 ^ 62 ∧ -(2 ^ 62) ≤ j ∧ j < 2 ^ 62) ∧ R (Itr i (j - i).toNat) H
theorem i_rng1 {ta : TA} (h : ta σ H (rgK R)) : iRng1 ta σ H R := h
theorem i_rng2 {ta : TA} (h : ta σ H (rgK2 R)) : iRng2 ta σ H R := h
theorem i_rgK {j : Int} (b : -(2 ^ 62) ≤ j ∧ j < 2 ^ 62) (h : R (Itr 0 j.toNat) H) : rgK R [.int j] H := ⟨j, rfl, b.1, b.2, h⟩
theorem i_rgK2 {i j : Int} (b : -(2 ^ 62) ≤ i ∧ i < 2 ^ 62 ∧ -(2 ^ 62) ≤ j ∧ j < 2 ^ 62) (h : R (Itr i (j - i).toNat) H) : rgK2 R [.int i, .int j] H := ⟨i, j, rfl, b, h⟩
def ilK (K : PySem.W.Frag) (R : It → Hp → Prop) : V → Hp → Prop := fun x H1 => ∃ a, x = .ref a ∧ (∃ xs, SqL K H1 a xs) ∧ R (Itl K a) H1
def itK (K : PySem.W.Frag) (R : It → Hp → Prop) : V → Hp → Prop := fun x H1 => ∃ a, x = .ref a ∧ (∃ xs, SqT K H1 a xs) ∧ R (Itt K a) H1
theorem i_ilist {t : TE} (h : t σ H (ilK K R)) : iList K t σ H R := h
theorem i_itup {t : TE} (h : t σ H (itK K R)) : iTup K t σ H R := h
theorem i_ilK {p : Addr} {xs : List V} (e : SqL K H p xs) (h : R (Itl K p) H) : ilK K R (.ref p) H := ⟨p, rfl, ⟨xs, e⟩, h⟩
theorem i_itK {p : Addr} {xs : List V} (e : SqT K H p xs) (h : R (Itt K p) H) : itK K R (.ref p) H := ⟨p, rfl, ⟨xs, e⟩, h⟩
end
section
variable {g : TG} {tb : TS} {a : Addr} {xs : List V}
variable {n : L2.St → Hp → Prop} {r : VK} {b c : L2.St → Hp → Prop}
theorem f_list (xs : List V) (Pv : Nat → L2.St → Hp → Prop) (h0 : Pv 0 σ H) (hl : ∀ i σ H, i ≤ xs.length → Pv i σ H → SqL K H a xs)
    (hs : ∀ i x σ H, xs[i]? = some x → Pv i σ H → g x σ H fun σ2 H2 => tb ⟨Pv (i + 1), r, n, Pv (i + 1)⟩ σ2 H2) (hd : ∀ σ H, Pv xs.length σ H → n σ H) : forK g tb ⟨n, r, b, c⟩ σ (Itl K a) H := for_list Pv h0 hl hs hd
theorem f_tup (xs : List V) (Pv : Nat → L2.St → Hp → Prop) (h0 : Pv 0 σ H) (hl : ∀ i σ H, i ≤ xs.length → Pv i σ H → SqT K H a xs)
    (hs : ∀ i x σ H, xs[i]? = some x → Pv i σ H → g x σ H fun σ2 H2 => tb ⟨Pv (i + 1), r, n, Pv (i + 1)⟩ σ2 H2) (hd : ∀ σ H, Pv xs.length σ H → n σ H) : forK g tb ⟨n, r, b, c⟩ σ (Itt K a) H := for_tup Pv h0 hl hs hd
theorem f_range {lo : Int} {m : Nat} (Pv : Nat → L2.St → Hp → Prop) (h0 : Pv 0 σ H)
    (hs : ∀ i σ H, i < m → Pv i σ H → g (.int (lo + i)) σ H fun σ2 H2 => tb ⟨Pv (i + 1), r, n, Pv (i + 1)⟩ σ2 H2) (hd : ∀ σ H, Pv m σ H → n σ H) : forK g tb ⟨n, r, b, c⟩ σ (Itr lo m) H := for_range Pv h0 hs hd
end
section
variable {g : TG} {tt : TT} {te : TE} {vs : List Nat} {a : Addr}
def lcE (D : Addr) (N : Hp → Prop) : VK := fun y H4 => ∃ acc, H4 D = some (.lst acc) ∧ acc.length < sizeLine ∧ N (upd H4 D (.lst (acc ++ [y])))
theorem c_list (xs : List V) (Pv : Addr → Nat → Hp → Prop) (h0 : ∀ D, H D = none → Pv D 0 (upd H D (.lst []))) (hl : ∀ D i H, i ≤ xs.length → Pv D i H → SqL K H a xs)
    (hs : ∀ D i x H, xs[i]? = some x → Pv D i H → g x (wipe σ vs) H fun σ2 H2 => wipe σ2 vs = wipe σ vs ∧ tt σ2 H2 fun b H3 => if b = true then te σ2 H3 (lcE D (Pv D (i + 1))) else Pv D (i + 1) H3)
    (hd : ∀ D H, Pv D xs.length H → Q (.ref D) H) : lcK g tt te vs σ Q (Itl K a) H := fun D hD => lc_list (Qd := fun H => Q (.ref D) H) (Pv D) (h0 D hD) (hl D) (hs D) (hd D)
theorem c_tup (xs : List V) (Pv : Addr → Nat → Hp → Prop) (h0 : ∀ D, H D = none → Pv D 0 (upd H D (.lst []))) (hl : ∀ D i H, i ≤ xs.length → Pv D i H → SqT K H a xs)
    (hs : ∀ D i x H, xs[i]? = some x → Pv D i H → g x (wipe σ vs) H fun σ2 H2 => wipe σ2 vs = wipe σ vs ∧ tt σ2 H2 fun b H3 => if b = true then te σ2 H3 (lcE D (Pv D (i + 1))) else Pv D (i + 1) H3)
    (hd : ∀ D H, Pv D xs.length H → Q (.ref D) H) : lcK g tt te vs σ Q (Itt K a) H := fun D hD => lc_tup (Qd := fun H => Q (.ref D) H) (Pv D) (h0 D hD) (hl D) (hs D) (hd D)
theorem c_range {lo : Int} {n : Nat} (Pv : Addr → Nat → Hp → Prop) (h0 : ∀ D, H D = none → Pv D 0 (upd H D (.lst [])))
    (hs : ∀ D i H, i < n → Pv D i H → g (.int (lo + i)) (wipe σ vs) H fun σ2 H2 => wipe σ2 vs = wipe σ vs ∧ tt σ2 H2 fun b H3 => if b = true then te σ2 H3 (lcE D (Pv D (i + 1))) else Pv D (i + 1) H3)
    (hd : ∀ D H, Pv D n H → Q (.ref D) H) : lcK g tt te vs σ Q (Itr lo n) H := fun D hD => lc_range (Qd := fun H => Q (.ref D) H) (Pv D) (h0 D hD) (hs D) (hd D)
theorem upd_upd {h : Hp} {a : Addr} {o u : HO} : upd (upd h a o) a u = upd h a u := by
  funext b
  by_cases e : b = a
  · subst e
    rw [upd_same, upd_same]
  · rw [upd_ne e, upd_ne e, upd_ne e]
theorem i_yes {σ : L2.St} {H : Hp} {q : Bool → Hp → Prop} (h : q true H) : tYes σ H q := h
theorem i_wip {σ2 σ1 : L2.St} {vs : List Nat} {A : Prop} (e : wipe σ2 vs = wipe σ1 vs) (h : A) : wipe σ2 vs = wipe σ1 vs ∧ A := ⟨e, h⟩
theorem i_lcE {D : Addr} {N : Hp → Prop} {acc : List V} {y : V} (e : H D = some (.lst acc)) (z : acc.length < sizeLine) (h : N (upd H D (.lst (acc ++ [y])))) : lcE D N y H := ⟨acc, e, z, h⟩
theorem p_tup {v : Nat} (xs : List V) (f : Nat → V) (e : SqT K H a xs) (hz : xs.length ≤ 100000)
    (hs : ∀ D acc i x (N : VK), H D = none → xs[i]? = some x → N (f i) (upd H D (.lst acc)) → te ((wipe σ [v]).set v (some x)) (upd H D (.lst acc)) N)
    (hd : ∀ D, H D = none → Q (.ref D) (upd H D (.lst ((List.range xs.length).map f)))) : lcK (gName v) tYes te [v] σ Q (Itt K a) H := by
  have ke : ∀ D o, H D = none → SqT K (upd H D o) a xs := by
    intro D o hD
    rcases e with (e | ⟨ob, e⟩) | e
    · exact .inl (.inl (by rw [upd_ne (ne_of_none e hD)]; exact e))
    · exact .inl (.inr ⟨ob, by rw [upd_ne (ne_of_none e hD)]; exact e⟩)
    · exact .inr e
  refine c_tup xs (fun D i H' => H D = none ∧ H' = upd H D (.lst ((List.range i).map f))) (fun D hD => ⟨hD, rfl⟩) (fun D i H' _ h => ?_) (fun D i x H' hx h => ?_) (fun D H' h => ?_)
  · obtain ⟨hD, rfl⟩ := h
    exact ke D _ hD
  · obtain ⟨hD, rfl⟩ := h
    have hi := (List.getElem?_eq_some_iff.mp hx).1
    refine ⟨?_, ?_⟩
    · show List.set (List.set (List.set σ v none) v (some x)) v none = List.set σ v none
      rw [List.set_set, List.set_set]
    · show te _ _ _
      refine hs D _ i x _ hD hx (i_lcE upd_same ?_ ⟨hD, ?_⟩)
      · rw [List.length_map, List.length_range, sizeLine_eq]
        omega
      · rw [upd_upd, List.range_succ, List.map_append]
        rfl
  · obtain ⟨hD, rfl⟩ := h
    exact hd D hD
end
end
end
section
open L2 PySem PySem.Spec PyProof.Rows
def Fd (H : Hp) (a : Addr) (c : Int) : Prop := ∃ x y n : Int, H a = some (.lst [.int x, .int y, .int n]) ∧ 0 ≤ x ∧ 0 ≤ y ∧ y < 10 ^ 39 + 23 ∧ 0 ≤ n ∧ n ≤ c
def Ch (a : Addr) (H H' : Hp) : Prop := ∀ b o, b ≠ a → H b = some o → H' b = some o
section
variable {a b p q : Addr} {c d : Int} {H H1 H2 H' : Hp} {o : HO} {K : PySem.W.Frag} {xs : List V}
theorem Fd.mono (h : Fd H a c) (z : c ≤ d) : Fd H a d := by
  obtain ⟨x, y, n, h1, h2, h3, h4, h5, h6⟩ := h
  exact ⟨x, y, n, h1, h2, h3, h4, h5, by omega⟩
theorem Fd.ne (h : Fd H a c) (n : H q = none) : q ≠ a := by
  obtain ⟨x, y, m, h1, _⟩ := h
  exact fun z => by rw [z, h1] at n; cases n
theorem Fd.upd (h : Fd H a c) (n : a ≠ q) : Fd (upd H q o) a c := by
  obtain ⟨x, y, m, h1, r⟩ := h
  exact ⟨x, y, m, (upd_ne n).trans h1, r⟩
theorem Ch.refl (H : Hp) : Ch a H H := fun _ _ _ h => h
theorem Ch.trans (h : Ch a H H1) (k : Ch a H1 H2) : Ch a H H2 := fun b o n e => k b o n (h b o n e)
theorem Ch.of_same (h : Same H H') : Ch a H H' := fun b o _ e => h b o e
theorem Ch.upd_new (n : H q = none) : Ch a H (upd H q o) := fun b u _ e => by
  rw [upd_ne (ne_of_none e n)]
  exact e
theorem Ch.upd_self : Ch a H (upd H a o) := fun b u n e => by
  rw [upd_ne n]
  exact e
theorem Ch.upd_l (C : Ch a H H2) (n : H q = none) : Ch a H (upd H2 q o) := fun b u nb e => by
  rw [upd_ne (ne_of_none e n)]
  exact C b u nb e
theorem Ch.upd_n (C : Ch a H H2) (n : H2 q = none) : Ch a H (upd H2 q o) := fun b u nb e => by
  have z := C b u nb e
  rw [upd_ne (ne_of_none z n)]
  exact z
theorem i_al {n : Nat} {A : Prop} (z : n ≤ sizeLine) (h : A) : n ≤ sizeLine ∧ A := ⟨z, h⟩
theorem Ch.at (C : Ch a H H') (n : b ≠ a) (e : H b = some o) : H' b = some o := C b o n e
theorem Ch.free (C : Ch a H H') (n : q ≠ a) (e : H' q = none) : H q = none := by
  cases z : H q with
  | none => rfl
  | some o =>
    rw [C q o n z] at e
    cases e
theorem Ch.sqL (C : Ch a H H') (n : p ≠ a) (e : SqL K H p xs) : SqL K H' p xs := by
  rcases e with (e | ⟨o, e⟩) | e
  · exact .inl (.inl (C p _ n e))
  · exact .inl (.inr ⟨o, C p _ n e⟩)
  · exact .inr e
theorem Ch.sqT (C : Ch a H H') (n : p ≠ a) (e : SqT K H p xs) : SqT K H' p xs := by
  rcases e with (e | ⟨o, e⟩) | e
  · exact .inl (.inl (C p _ n e))
  · exact .inl (.inr ⟨o, C p _ n e⟩)
  · exact .inr e
theorem Ch.sqA (C : Ch a H H') (n : p ≠ a) (e : SqA K H p xs) : SqA K H' p xs := by
  rcases e with e | e
  · exact .inl (C.sqL n e)
  · exact .inr (C.sqT n e)
theorem SqA.l (e : SqL K H p xs) : SqA K H p xs := .inl e
theorem SqA.t (e : SqT K H p xs) : SqA K H p xs := .inr e
theorem Same.upd_new (n : H q = none) : Same H (upd H q o) := fun b u e => by
  rw [upd_ne (ne_of_none e n)]
  exact e
theorem sqA_same (C : Same H H') (e : SqA K H p xs) : SqA K H' p xs := by
  rcases e with e | (e | ⟨o, e⟩) | e
  · exact .inl (C.seq e)
  · exact .inr (.inl (.inl (C p _ e)))
  · exact .inr (.inl (.inr ⟨o, C p _ e⟩))
  · exact .inr (.inr e)
end
theorem cube_ok {s : Int} (h0 : 0 ≤ s) (h1 : s < 2 ^ 160) : CMulW s s ∧ CMulW (s * s) s := by
  have a : s.natAbs < 2 ^ 160 := by omega
  exact ⟨wide_mul a a (by decide) (by decide) (by decide), wide_mul (wide_lt a a) a (by decide) (by decide) (by decide)⟩
def nmSign (c : Nat) : Bool := (decide (97 ≤ c) && decide (c ≤ 122)) || (decide (48 ≤ c) && decide (c ≤ 57))
def nmOk (z : Str) : Bool := match z.cps.toList with
  | [] => false
  | c :: r => decide (r.length ≤ 7) && (decide (97 ≤ c) && decide (c ≤ 122)) && r.all nmSign
def IsNames (ns : List Str) : Prop := ns.Nodup ∧ ∀ z ∈ ns, nmOk z = true
theorem IsNames.perm {ns ms : List Str} (h : IsNames ns) (p : ms.Perm ns) : IsNames ms := ⟨p.nodup_iff.mpr h.1, fun z hz => h.2 z (p.mem_iff.mp hz)⟩
theorem IsNames.take {ns : List Str} (h : IsNames ns) (k : Nat) : IsNames (ns.take k) := ⟨h.1.sublist (List.take_sublist _ _), fun z hz => h.2 z (List.mem_of_mem_take hz)⟩
def spDraw : Sp := fun vs H Q _ => ∃ (a : Addr) (m c : Int), vs = [.ref a, .int m] ∧ Fd H a c ∧ 0 < m ∧ m < 1000000 ∧ c < 10 ^ 15 ∧ ∀ (r : Int) (H' : Hp), 0 ≤ r → r < m → Fd H' a (c + 1) → Ch a H H' → Q (.int r) H'
def spFeed (K : PySem.W.Frag) : Sp := fun vs H Q _ => ∃ (a : Addr) (ns : List Int) (k : Int), vs = [.ref a, .int k] ∧ SqL K H a (ns.map V.int) ∧ ns.length ≤ 63 ∧ 0 ≤ k ∧ k ≤ 100 ∧ ∀ (q : Addr) (H' : Hp), H q = none → Fd H' q 0 → Same H H' → Q (.ref q) H'
def spOne (K : PySem.W.Frag) : Sp := fun vs H Q _ => ∃ (a p : Addr) (c : Int) (xs : List V), vs = [.ref a, .ref p] ∧ Fd H a c ∧ SqA K H p xs ∧ p ≠ a ∧ 0 < xs.length ∧ xs.length < 1000000 ∧ c < 10 ^ 15 ∧
  ∀ (v : V) (H' : Hp), v ∈ xs → Fd H' a (c + 1) → Ch a H H' → Q v H'
def spMixed (K : PySem.W.Frag) : Sp := fun vs H Q _ => ∃ (a p : Addr) (c : Int) (xs : List V), vs = [.ref a, .ref p] ∧ Fd H a c ∧ SqA K H p xs ∧ p ≠ a ∧ xs.length ≤ 1000 ∧ c < 10 ^ 14 ∧
  ∀ (q : Addr) (ys : List V) (H' : Hp), ys.Perm xs → H q = none → H' q = some (.lst ys) → Fd H' a (c + 1000) → Ch a H H' → Q (.ref q) H'
end
section
open L2 PySem PySem.Spec PyProof.Rows
mutual
def tupOnly : PyData → Bool
  | .none | .bool _ | .int _ => true
  | .str _ => true
  | .tuple xs => tupOnlyAll xs
  | .list _ | .dict _ => false
def tupOnlyAll : List PyData → Bool
  | [] => true
  | x :: xs => tupOnly x && tupOnlyAll xs
end
def TK (K : PySem.W.Frag) (H H' : Hp) : Prop := ∀ b xs, SqT K H b xs → SqT K H' b xs
section
variable {K : PySem.W.Frag} {H H1 H2 H' : Hp} {a p q : Addr} {o : HO} {c : Int}
theorem TK.trans (h : TK K H H1) (k : TK K H1 H2) : TK K H H2 := fun b xs e => k b xs (h b xs e)
theorem TK.of_at (h : ∀ b xs, H b = some (.tup xs) → H' b = some (.tup xs)) (k : ∀ b ob xs, H b = some (.frz ob (.tup xs)) → H' b = some (.frz ob (.tup xs))) : TK K H H' := fun b xs e => by
  rcases e with (e | ⟨ob, e⟩) | e
  · exact .inl (.inl (h b xs e))
  · exact .inl (.inr ⟨ob, k b ob xs e⟩)
  · exact .inr e
theorem TK.same (h : Same H H') : TK K H H' := TK.of_at (fun b _ e => h b _ e) fun b _ _ e => h b _ e
theorem TK.new (n : H q = none) : TK K H (upd H q o) := TK.same (Same.upd_new n)
theorem TK.lst {xs : List V} (e : H q = some (.lst xs)) : TK K H (upd H q o) := by
  refine TK.of_at (fun b ys z => ?_) fun b ob ys z => ?_
  · rw [upd_ne (fun w => by rw [w, e] at z; cases z)]
    exact z
  · rw [upd_ne (fun w => by rw [w, e] at z; cases z)]
    exact z
theorem TK.ch (h : Ch a H H') (f : Fd H a c) : TK K H H' := by
  obtain ⟨x, y, n, e, _⟩ := f
  refine TK.of_at (fun b ys z => h b _ (fun w => ?_) z) fun b ob ys z => h b _ (fun w => ?_) z
  · rw [w, e] at z; cases z
  · rw [w, e] at z; cases z
mutual
theorem Dp.tk (h : TK K H H') : ∀ (d : PyData) (v : V), tupOnly d = true → Dp K H v d → Dp K H' v d
  | .none, _, _, e => by cases e; exact .non
  | .bool b, _, _, e => by cases e; exact .bl b
  | .int i, _, _, e => by cases e; exact .int i
  | .str s, _, _, e => by cases e; exact .str s
  | .list _, _, t, _ => by simp [tupOnly] at t
  | .dict _, _, t, _ => by simp [tupOnly] at t
  | .tuple ds, _, t, e => by
    cases e with
    | tup hs ha => exact .tup (h _ _ hs) (DpAll.tk h ds _ (by simpa [tupOnly] using t) ha)
theorem DpAll.tk (h : TK K H H') : ∀ (ds : List PyData) (vs : List V), tupOnlyAll ds = true → DpAll K H vs ds → DpAll K H' vs ds
  | [], _, _, e => by cases e; exact .nil
  | d :: ds, _, t, e => by
    have t' : tupOnly d = true ∧ tupOnlyAll ds = true := by simpa [tupOnlyAll] using t
    cases e with
    | cons e1 e2 => exact .cons (Dp.tk h d _ t'.1 e1) (DpAll.tk h ds _ t'.2 e2)
end
mutual
theorem Dp.same (h : Same H H') : ∀ (d : PyData) (v : V), Dp K H v d → Dp K H' v d
  | .none, _, e => by cases e; exact .non
  | .bool b, _, e => by cases e; exact .bl b
  | .int i, _, e => by cases e; exact .int i
  | .str s, _, e => by cases e; exact .str s
  | .list ds, _, e => by
    cases e with
    | lst hs ha => exact .lst (h.seq hs) (DpAll.same h ds _ ha)
  | .dict _, _, e => by cases e
  | .tuple ds, _, e => by
    cases e with
    | tup hs ha => exact .tup (TK.same h _ _ hs) (DpAll.same h ds _ ha)
theorem DpAll.same (h : Same H H') : ∀ (ds : List PyData) (vs : List V), DpAll K H vs ds → DpAll K H' vs ds
  | [], _, e => by cases e; exact .nil
  | d :: ds, _, e => by
    cases e with
    | cons e1 e2 => exact .cons (Dp.same h d _ e1) (DpAll.same h ds _ e2)
end
theorem DpAll.strs : ∀ (ns : List Str), DpAll K H (ns.map V.str) (ns.map PyData.str)
  | [] => .nil
  | z :: r => .cons (.str z) (DpAll.strs r)
theorem DpAll.app : ∀ {vs us : List V} {ds es : List PyData}, DpAll K H vs ds → DpAll K H us es → DpAll K H (vs ++ us) (ds ++ es)
  | _, _, _, _, .nil, k => k
  | _, _, _, _, .cons h t, k => .cons h (DpAll.app t k)
theorem DpAll.len : ∀ {vs : List V} {ds : List PyData}, DpAll K H vs ds → vs.length = ds.length
  | _, _, .nil => rfl
  | _, _, .cons _ t => congrArg (· + 1) (DpAll.len t)
theorem DpAll.get : ∀ {vs : List V} {ds : List PyData} {i : Nat} {v : V}, DpAll K H vs ds → vs[i]? = some v → ∃ d, ds[i]? = some d ∧ Dp K H v d
  | _, _, 0, _, .cons h _, e => by cases e; exact ⟨_, rfl, h⟩
  | _, _, n + 1, _, .cons _ t, e => DpAll.get (i := n) t (by simpa using e)
theorem DpAll.take : ∀ {vs : List V} {ds : List PyData} (k : Nat), DpAll K H vs ds → DpAll K H (vs.take k) (ds.take k)
  | _, _, 0, _ => .nil
  | _, _, k + 1, .nil => .nil
  | _, _, k + 1, .cons h t => .cons h (DpAll.take k t)
theorem DpAll.strs_inv : ∀ {vs : List V} {ns : List Str}, DpAll K H vs (ns.map PyData.str) → vs = ns.map V.str
  | _, [], .nil => rfl
  | _, z :: r, h => by
    cases h with
    | cons h1 h2 =>
      cases h1
      rw [DpAll.strs_inv h2]
      rfl
theorem DpAll.perm {us vs : List V} (pm : us.Perm vs) : ∀ {ds : List PyData}, DpAll K H vs ds → ∃ es, es.Perm ds ∧ DpAll K H us es := by
  induction pm with
  | nil => intro ds h; exact ⟨ds, .refl _, h⟩
  | cons x _ ih =>
    intro ds h
    cases h with
    | cons h1 h2 =>
      obtain ⟨es, p1, p2⟩ := ih h2
      exact ⟨_ :: es, p1.cons _, .cons h1 p2⟩
  | swap x y l =>
    intro ds h
    cases h with
    | cons h1 h2 =>
      cases h2 with
      | cons h2 h3 => exact ⟨_, .swap _ _ _, .cons h2 (.cons h1 h3)⟩
  | trans _ _ ih1 ih2 =>
    intro ds h
    obtain ⟨es, p1, k1⟩ := ih2 h
    obtain ⟨fs, p2, k2⟩ := ih1 k1
    exact ⟨fs, p2.trans p1, k2⟩
end
def LsD (K : PySem.W.Frag) (H : Hp) (L : Addr) (ds : List PyData) : Prop := ∃ vs, H L = some (.lst vs) ∧ DpAll K H vs ds ∧ tupOnlyAll ds = true
theorem tupOnlyAll_app : ∀ (ds es : List PyData), tupOnlyAll ds = true → tupOnlyAll es = true → tupOnlyAll (ds ++ es) = true
  | [], _, _, k => k
  | d :: ds, es, h, k => by
    have h' : tupOnly d = true ∧ tupOnlyAll ds = true := by simpa [tupOnlyAll] using h
    show (tupOnly d && tupOnlyAll (ds ++ es)) = true
    rw [h'.1, tupOnlyAll_app ds es h'.2 k]
    rfl
section
variable {K : PySem.W.Frag} {H H1 H2 H' : Hp} {a p q L : Addr} {o : HO} {c : Int} {ds : List PyData} {d : PyData} {vs : List V} {y : V}
theorem LsD.nil (e : H L = some (.lst [])) : LsD K H L [] := ⟨[], e, .nil, rfl⟩
theorem LsD.tk (h : LsD K H L ds) (t : TK K H H') (e : ∀ vs, H L = some (.lst vs) → H' L = some (.lst vs)) : LsD K H' L ds := by
  obtain ⟨vs, h1, h2, h3⟩ := h
  exact ⟨vs, e vs h1, DpAll.tk t _ _ h3 h2, h3⟩
theorem LsD.ch (h : LsD K H L ds) (k : Ch a H H') (f : Fd H a c) (n : L ≠ a) : LsD K H' L ds := h.tk (TK.ch k f) fun _ e => k _ _ n e
theorem LsD.new (h : LsD K H L ds) (n : H q = none) : LsD K (upd H q o) L ds := h.tk (TK.new n) fun _ e => (upd_ne (ne_of_none e n)).trans e
theorem LsD.push (e : H L = some (.lst vs)) (h : DpAll K H vs ds) (t : tupOnlyAll ds = true) (hy : Dp K H y d) (td : tupOnly d = true) : LsD K (upd H L (.lst (vs ++ [y]))) L (ds ++ [d]) :=
  ⟨vs ++ [y], upd_same, DpAll.tk (TK.lst e) _ _ (tupOnlyAll_app _ _ t (by show (tupOnly d && true) = true; rw [td]; rfl)) (DpAll.app h (.cons hy .nil)), tupOnlyAll_app _ _ t (by show (tupOnly d && true) = true; rw [td]; rfl)⟩
theorem LsD.ext {us : List V} {es : List PyData} (e : H L = some (.lst vs)) (h : DpAll K H vs ds) (t : tupOnlyAll ds = true) (h2 : DpAll K H us es) (t2 : tupOnlyAll es = true) : LsD K (upd H L (.lst (vs ++ us))) L (ds ++ es) :=
  ⟨vs ++ us, upd_same, DpAll.tk (TK.lst e) _ _ (tupOnlyAll_app _ _ t t2) (DpAll.app h h2), tupOnlyAll_app _ _ t t2⟩
theorem LsD.push2 {x z : V} {dx dz : PyData} (e : H L = some (.lst vs)) (h : DpAll K H vs ds) (t : tupOnlyAll ds = true) (n : H p = none) (hx : Dp K H x dx) (hz : Dp K H z dz) (tx : tupOnly dx = true) (tz : tupOnly dz = true) :
    LsD K (upd (upd H p (.tup [x, z])) L (.lst (vs ++ [.ref p]))) L (ds ++ [.tuple [dx, dz]]) := by
  have t1 : TK K H (upd H p (.tup [x, z])) := TK.new n
  refine LsD.push ((upd_ne (ne_of_none e n)).trans e) (DpAll.tk t1 _ _ t h) t (.tup (xs := [x, z]) (.inl (.inl upd_same)) (.cons (Dp.tk t1 _ _ tx hx) (.cons (Dp.tk t1 _ _ tz hz) .nil))) ?_
  show (tupOnly dx && (tupOnly dz && true)) = true
  rw [tx, tz]
  rfl
end
section
variable {X : Cx}
mutual
/-- data without truths -/
def noB : PyData → Bool
  | .none | .int _ | .str _ => true
  | .tuple xs | .list xs => noBAll xs
  | .bool _ | .dict _ => false
def noBAll : List PyData → Bool
  | [] => true
  | x :: xs => noB x && noBAll xs
end
mutual
theorem eqv_dec : ∀ (d e : PyData), noB d = true → noB e = true → (PyData.eqv d e = true ↔ d = e)
  | .none, e, _, k => by cases e <;> simp_all [PyData.eqv, noB]
  | .bool b, _, h, _ => by simp [noB] at h
  | .int i, e, _, k => by cases e <;> simp_all [PyData.eqv, noB]
  | .str s, e, _, k => by cases e <;> simp_all [PyData.eqv, noB]
  | .dict _, _, h, _ => by simp [noB] at h
  | .list xs, e, h, k => by
    cases e with
    | list ys => simpa [PyData.eqv] using eqvAll_dec xs ys (by simpa [noB] using h) (by simpa [noB] using k)
    | _ => simp_all [PyData.eqv, noB]
  | .tuple xs, e, h, k => by
    cases e with
    | tuple ys => simpa [PyData.eqv] using eqvAll_dec xs ys (by simpa [noB] using h) (by simpa [noB] using k)
    | _ => simp_all [PyData.eqv, noB]
theorem eqvAll_dec : ∀ (ds es : List PyData), noBAll ds = true → noBAll es = true → (PyData.eqvAll ds es = true ↔ ds = es)
  | [], [], _, _ => by simp [PyData.eqvAll]
  | [], _ :: _, _, _ => by simp [PyData.eqvAll]
  | _ :: _, [], _, _ => by simp [PyData.eqvAll]
  | d :: ds, e :: es, h, k => by
    have h' : noB d = true ∧ noBAll ds = true := by simpa [noBAll] using h
    have k' : noB e = true ∧ noBAll es = true := by simpa [noBAll] using k
    have h1 := eqv_dec d e h'.1 k'.1
    have h2 := eqvAll_dec ds es h'.2 k'.2
    simp only [PyData.eqvAll, Bool.and_eq_true, h1, h2, List.cons.injEq]
end
def rInQ (K : PySem.W.Frag) (neg : Bool) : R2 := fun x y H Q => ∃ d ds, Dp K H x d ∧ (Dp K H y (.list ds) ∨ Dp K H y (.tuple ds)) ∧ d.canLay0 = true ∧ PyData.canLayAll0 ds = true ∧ d.depth ≤ 60 ∧ Q (.bl (if neg then !(ds.any fun z => PyData.eqv z d) else ds.any fun z => PyData.eqv z d)) H
theorem o_inQ (hu : X.A.units + 64 < cLine) : OpR X (compareOp .In) (rInQ X.K false) := by
  intro pins s σ H x y v u Q I rx ry h
  obtain ⟨d, ds, hd, he | he, sd, se, hz, q⟩ := h
  · obtain ⟨as, r1⟩ := Dp.reads I d x v hd rx
    obtain ⟨bs, r2⟩ := Dp.reads I (.list ds) y u he ry
    exact SeqAt.in_list_reads r2 r1 se sd (by have := Nat.min_le_right (PyData.depthAll ds) d.depth; omega) ⟨.bl _, H, I, rfl, q⟩
  · obtain ⟨as, r1⟩ := Dp.reads I d x v hd rx
    obtain ⟨bs, r2⟩ := Dp.reads I (.tuple ds) y u he ry
    exact SeqAt.in_tuple_reads r2 r1 se sd (by have := Nat.min_le_right (PyData.depthAll ds) d.depth; omega) ⟨.bl _, H, I, rfl, q⟩
theorem o_notInQ (hu : X.A.units + 64 < cLine) : OpR X (compareOp .NotIn) (rInQ X.K true) := by
  intro pins s σ H x y v u Q I rx ry h
  obtain ⟨d, ds, hd, he | he, sd, se, hz, q⟩ := h
  · obtain ⟨as, r1⟩ := Dp.reads I d x v hd rx
    obtain ⟨bs, r2⟩ := Dp.reads I (.list ds) y u he ry
    exact SeqAt.notIn_list_reads r2 r1 se sd (by have := Nat.min_le_right (PyData.depthAll ds) d.depth; omega) ⟨.bl _, H, I, rfl, q⟩
  · obtain ⟨as, r1⟩ := Dp.reads I d x v hd rx
    obtain ⟨bs, r2⟩ := Dp.reads I (.tuple ds) y u he ry
    exact SeqAt.notIn_tuple_reads r2 r1 se sd (by have := Nat.min_le_right (PyData.depthAll ds) d.depth; omega) ⟨.bl _, H, I, rfl, q⟩
end
end
section
open L2 PySem PySem.Spec PyProof.Rows
def roadD (r : Str × Str) : PyData := .tuple [.str r.1, .str r.2]
def webD (ps : List Str) (rs : List (Str × Str)) : PyData := .tuple [.tuple (ps.map .str), .tuple (rs.map roadD)]
structure IsWeb (ps : List Str) (rs : List (Str × Str)) : Prop where
  names : IsNames ps
  pos : 0 < ps.length
  le8 : ps.length ≤ 8
  le14 : rs.length ≤ 14
  ends : ∀ r ∈ rs, r.1 ∈ ps ∧ r.2 ∈ ps ∧ r.1 ≠ r.2
  uniq : rs.Pairwise fun r s => r ≠ s ∧ r ≠ (s.2, s.1)
section
variable {σ : L2.St} {H : Hp} {Q : VK} {K : PySem.W.Frag}
theorem inV_strs {z : Str} {ns : List Str} : inV (.str z) (ns.map V.str) = decide (z ∈ ns) := by
  unfold inV
  induction ns with
  | nil => rfl
  | cons y r ih =>
    rw [List.map_cons, List.any_cons, ih]
    have e : eqV (V.str y) (V.str z) = decide (z = y) := by
      by_cases h : z = y
      · subst h
        simp [eqV]
      · rw [decide_eq_false h]
        simp [eqV]
        exact fun k => h k.symm
    rw [e]
    by_cases h : z = y
    · subst h
      simp
    · simp [h]
theorem flat_str {ns : List Str} : (ns.map V.str).all flatV = true := by
  induction ns with
  | nil => rfl
  | cons y r ih =>
    rw [List.map_cons, List.all_cons, ih]
    rfl
theorem i_inS {z : Str} {p : Addr} {ns : List Str} (e : SqA K H p (ns.map V.str)) (h : Q (.bl (decide (z ∈ ns))) H) : rIn K false (.str z) (.ref p) H Q :=
  ⟨p, ns.map V.str, rfl, e, rfl, flat_str, by
    rw [inV_strs]
    exact h⟩
theorem i_cut {te : TE} (P : V → Hp → Prop) (main : ∀ Q' : VK, (∀ v H', P v H' → Q' v H') → te σ H Q') (rest : ∀ v H', P v H' → Q v H') : te σ H Q := main Q rest
theorem i_cutS {t : TS} {n : L2.St → Hp → Prop} {r : VK} {b c : L2.St → Hp → Prop} (P : L2.St → Hp → Prop) (main : ∀ N : L2.St → Hp → Prop, (∀ σ' H', P σ' H' → N σ' H') → t ⟨N, r, b, c⟩ σ H) (rest : ∀ σ' H', P σ' H' → n σ' H') : t ⟨n, r, b, c⟩ σ H := main n rest
theorem i_iteB {b : Bool} {A B : Prop} (h1 : b = true → A) (h2 : b = false → B) : if b = true then A else B := by
  cases b
  · exact h2 rfl
  · exact h1 rfl
end
def pairD (p : Nat × Nat) : PyData := .tuple [.int p.1, .int p.2]
theorem pairs_any (pl : List (Nat × Nat)) (p : Nat × Nat) : ((pl.map pairD).any fun z => PyData.eqv z (pairD p)) = decide (p ∈ pl) := by
  induction pl with
  | nil => rfl
  | cons x r ih =>
    rw [List.map_cons, List.any_cons, ih]
    have e : PyData.eqv (pairD x) (pairD p) = decide (p = x) := by
      have h := eqv_dec (pairD x) (pairD p) rfl rfl
      by_cases k : p = x
      · subst k
        rw [decide_eq_true rfl]
        exact h.mpr rfl
      · rw [decide_eq_false k]
        cases q : PyData.eqv (pairD x) (pairD p) with
        | false => rfl
        | true =>
          have z := h.mp q
          simp only [pairD, PyData.tuple.injEq, List.cons.injEq, PyData.int.injEq, and_true] at z
          exact absurd (Prod.ext (Int.ofNat.inj z.1.symm) (Int.ofNat.inj z.2.symm)) k
    rw [e]
    by_cases k : p = x
    · subst k
      simp
    · simp [k]
theorem pairs_lay (pl : List (Nat × Nat)) : PyData.canLayAll0 (pl.map pairD) = true := by
  induction pl with
  | nil => rfl
  | cons x r ih =>
    rw [List.map_cons]
    show ((pairD x).canLay0 && PyData.canLayAll0 (r.map pairD)) = true
    rw [ih]
    rfl
theorem pairs_only (pl : List (Nat × Nat)) : tupOnlyAll (pl.map pairD) = true := by
  induction pl with
  | nil => rfl
  | cons x r ih =>
    rw [List.map_cons]
    show (tupOnly (pairD x) && tupOnlyAll (r.map pairD)) = true
    rw [ih]
    rfl
theorem roads_only (rs : List (Str × Str)) : tupOnlyAll (rs.map roadD) = true := by
  induction rs with
  | nil => rfl
  | cons x r ih =>
    rw [List.map_cons]
    show (tupOnly (roadD x) && tupOnlyAll (r.map roadD)) = true
    rw [ih]
    rfl
theorem strs_only (ns : List Str) : tupOnlyAll (ns.map PyData.str) = true := by
  induction ns with
  | nil => rfl
  | cons x r ih =>
    rw [List.map_cons]
    show (tupOnly (.str x) && tupOnlyAll (r.map PyData.str)) = true
    rw [ih]
    rfl
theorem web_only (ps : List Str) (rs : List (Str × Str)) : tupOnly (webD ps rs) = true := by
  show (tupOnlyAll (ps.map PyData.str) && (tupOnlyAll (rs.map roadD) && true)) = true
  rw [strs_only, roads_only]
  rfl
theorem perm_map_inv {α β : Type} {f : α → β} {es ms : List β} (h : es.Perm ms) : ∀ {l : List α}, ms = l.map f → ∃ l' : List α, l'.Perm l ∧ es = l'.map f := by
  induction h with
  | nil => intro l e; exact ⟨[], by rw [List.map_eq_nil_iff.mp e.symm], rfl⟩
  | cons x _ ih =>
    intro l e
    match l, e with
    | y :: r, e =>
      rw [List.map_cons, List.cons.injEq] at e
      obtain ⟨l', p, q⟩ := ih e.2
      exact ⟨y :: l', p.cons y, by rw [List.map_cons, e.1, q]⟩
  | swap x y k =>
    intro l e
    match l, e with
    | u :: v :: r, e =>
      rw [List.map_cons, List.map_cons, List.cons.injEq, List.cons.injEq] at e
      exact ⟨v :: u :: r, .swap _ _ _, by rw [List.map_cons, List.map_cons, e.1, e.2.1, e.2.2]⟩
    | [_], e => cases e
  | trans _ _ ih1 ih2 =>
    intro l e
    obtain ⟨l1, p1, q1⟩ := ih2 e
    obtain ⟨l2, p2, q2⟩ := ih1 q1
    exact ⟨l2, p2.trans p1, q2⟩
def RoadOf (ns : List Str) (p : Nat × Nat) (r : Str × Str) : Prop := (ns[p.1]? = some r.1 ∧ ns[p.2]? = some r.2) ∨ (ns[p.1]? = some r.2 ∧ ns[p.2]? = some r.1)
theorem nodup_at {α : Type} {l : List α} (h : l.Nodup) {i j : Nat} {x : α} (a : l[i]? = some x) (b : l[j]? = some x) : i = j := by
  obtain ⟨ha, ea⟩ := List.getElem?_eq_some_iff.mp a
  obtain ⟨hb, eb⟩ := List.getElem?_eq_some_iff.mp b
  exact (List.getElem_inj h).mp (ea.trans eb.symm)
theorem web_of {ns ps : List Str} {pl : List (Nat × Nat)} {rs : List (Str × Str)} (hn : IsNames ns) (pm : ps.Perm ns) (h0 : 0 < ns.length) (h8 : ns.length ≤ 8) (nd : pl.Nodup) (lt : ∀ p ∈ pl, p.1 < p.2) (l14 : pl.length ≤ 14) (len : rs.length = pl.length)
    (ro : ∀ (k : Nat) p r, pl[k]? = some p → rs[k]? = some r → RoadOf ns p r) : IsWeb ps rs := by
  have at_ : ∀ {k : Nat} {r : Str × Str}, rs[k]? = some r → ∃ p, pl[k]? = some p ∧ RoadOf ns p r := by
    intro k r h
    have hk : k < pl.length := len ▸ (List.getElem?_eq_some_iff.mp h).1
    exact ⟨pl[k], List.getElem?_eq_getElem hk, ro k _ r (List.getElem?_eq_getElem hk) h⟩
  have mem : ∀ {i : Nat} {z : Str}, ns[i]? = some z → z ∈ ps := fun h => pm.mem_iff.mpr (List.mem_of_getElem? h)
  refine ⟨hn.perm pm, by rw [pm.length_eq]; exact h0, by rw [pm.length_eq]; exact h8, by omega, fun r hr => ?_, ?_⟩
  · obtain ⟨k, hk⟩ := List.getElem?_of_mem hr
    obtain ⟨p, hp, q⟩ := at_ hk
    have hlt := lt p (List.mem_of_getElem? hp)
    have ne : ∀ {i j : Nat} {x y : Str}, ns[i]? = some x → ns[j]? = some y → i ≠ j → x ≠ y := fun a b n e => n (nodup_at hn.1 a (e ▸ b))
    rcases q with ⟨q1, q2⟩ | ⟨q1, q2⟩
    · exact ⟨mem q1, mem q2, ne q1 q2 (by omega)⟩
    · exact ⟨mem q2, mem q1, ne q2 q1 (by omega)⟩
  · rw [(List.pairwise_iff_getElem)]
    intro i j hi hj hij
    obtain ⟨p, hp, q⟩ := at_ (List.getElem?_eq_getElem hi)
    obtain ⟨p', hp', q'⟩ := at_ (List.getElem?_eq_getElem hj)
    have hlt := lt p (List.mem_of_getElem? hp)
    have hlt' := lt p' (List.mem_of_getElem? hp')
    have key : p ≠ p' := fun e => by
      have := nodup_at nd hp (e ▸ hp')
      omega
    have inj : ∀ {a b : Nat} {x : Str}, ns[a]? = some x → ns[b]? = some x → a = b := fun a b => nodup_at hn.1 a b
    have cross : ∀ {x y : Str}, (ns[p.1]? = some x ∧ ns[p.2]? = some y) → (ns[p'.1]? = some x ∧ ns[p'.2]? = some y) → False := fun a b => key (Prod.ext (inj a.1 b.1) (inj a.2 b.2))
    have anti : ∀ {x y : Str}, (ns[p.1]? = some x ∧ ns[p.2]? = some y) → (ns[p'.1]? = some y ∧ ns[p'.2]? = some x) → False := fun a b => by
      have h1 := inj a.1 b.2
      have h2 := inj a.2 b.1
      omega
    constructor
    · intro e
      rw [e] at q
      rcases q with q | q <;> rcases q' with q' | q'
      · exact cross q q'
      · exact anti q q'
      · exact anti q q'
      · exact cross q q'
    · intro e
      rw [e] at q
      rcases q with q | q <;> rcases q' with q' | q'
      · exact anti q q'
      · exact cross q q'
      · exact cross q q'
      · exact anti q q'
theorem nm_of {z : Str} {c : Nat} {r : List Nat} (e : z.cps.toList = c :: r) (h7 : r.length ≤ 7) (hc : 97 ≤ c ∧ c ≤ 122) (hr : ∀ x ∈ r, nmSign x = true) : nmOk z = true := by
  unfold nmOk
  rw [e]
  simp only [Bool.and_eq_true, decide_eq_true_eq, List.all_eq_true]
  exact ⟨⟨h7, hc⟩, hr⟩
theorem sl_of {c : Nat} (hc : 97 ≤ c ∧ c ≤ 122) : nmSign c = true := by
  unfold nmSign
  simp only [Bool.or_eq_true, Bool.and_eq_true, decide_eq_true_eq]
  exact .inl hc
theorem app_cps (x y : Str) : (x ++ y).cps.toList = x.cps.toList ++ y.cps.toList := by
  show (x.cps ++ y.cps).toList = _
  simp
theorem str_ext {x y : Str} (h : x.cps.toList = y.cps.toList) : x = y := by
  obtain ⟨a⟩ := x
  obtain ⟨b⟩ := y
  congr 1
  exact Array.toList_inj.mp h
def abc : Str := "abcdefghijklmnopqrstuvwxyz"
theorem abc_at : ∀ k : Nat, k < 26 → abc.cps[k]? = some (97 + k) := by decide +kernel
def rItS : R2 := fun x y H Q => ∃ (z : Str) (i : Int) (c : Nat), x = .str z ∧ y = .int i ∧ 0 ≤ i ∧ i < 2 ^ 63 ∧ i < z.length ∧ z.cps[i.toNat]? = some c ∧ Q (.str ⟨#[c]⟩) H
theorem pe_its {X : Cx} {e b : Expr} {ta tb : TE} {pos : Pos} (ha : PE X e ta) (hb : PE X b tb) (hs : PlainIxT b) : PE X (.Subscript e b pos) (tOp rItS ta tb) := pe_item_str ha hb hs
theorem i_abc {i : Int} {H : Hp} {Q : VK} (h0 : 0 ≤ i) (h1 : i < 26) (h : Q (.str ⟨#[97 + i.toNat]⟩) H) : rItS (.str abc) (.int i) H Q :=
  ⟨abc, i, 97 + i.toNat, rfl, rfl, h0, by omega, by show i < 26; exact h1, abc_at _ (by omega), h⟩
def sh1 (s : Nat) (k : Nat) (z : Str) : Prop := ∃ r, z.cps.toList = (97 + (s + 3 * k) % 26) :: r ∧ r.length ≤ 7 ∧ ∀ x ∈ r, nmSign x = true
def sh2 (st : List Nat) (s : Nat) (k : Nat) (z : Str) : Prop := z.cps.toList = st ++ [97 + (s + k) % 26]
def sh3 (s : Nat) (k : Nat) (z : Str) : Prop := z.cps.toList = (97 + s) :: List.replicate k 48
end
section
open L2 PySem PySem.Spec PyProof.Rows
def isRoad (rs : List (Str × Str)) (x y : Str) : Bool := decide ((x, y) ∈ rs) || decide ((y, x) ∈ rs)
def nearL (ps : List Str) (rs : List (Str × Str)) (x : Str) : List Str := ps.filter fun y => isRoad rs x y
theorem nmOk_str {z : Str} (h : nmOk z = true) : PyData.strOk z = true := by
  unfold nmOk at h
  split at h
  · cases h
  · rename_i c r e
    simp only [Bool.and_eq_true, decide_eq_true_eq, List.all_eq_true] at h
    unfold PyData.strOk
    rw [← Array.all_toList, e, List.all_eq_true]
    intro x hx
    rcases List.mem_cons.mp hx with rfl | hx
    · simp; omega
    · have := h.2 x hx
      unfold nmSign at this
      simp only [Bool.or_eq_true, Bool.and_eq_true, decide_eq_true_eq] at this
      simp; omega
theorem strs_lay {ns : List Str} (h : ∀ z ∈ ns, nmOk z = true) : PyData.canLayAll0 (ns.map PyData.str) = true := by
  induction ns with
  | nil => rfl
  | cons x r ih =>
    show (PyData.canLay0 (.str x) && PyData.canLayAll0 (r.map PyData.str)) = true
    rw [ih fun z hz => h z (List.mem_cons_of_mem _ hz)]
    show (PyData.strOk x && true) = true
    rw [nmOk_str (h x List.mem_cons_self)]
    rfl
theorem road_lay {r : Str × Str} (h1 : nmOk r.1 = true) (h2 : nmOk r.2 = true) : (roadD r).canLay0 = true := by
  show (PyData.strOk r.1 && (PyData.strOk r.2 && true)) = true
  rw [nmOk_str h1, nmOk_str h2]
  rfl
theorem roads_lay {ps : List Str} {rs : List (Str × Str)} (W : IsWeb ps rs) : PyData.canLayAll0 (rs.map roadD) = true := by
  have all : ∀ l : List (Str × Str), (∀ r ∈ l, r ∈ rs) → PyData.canLayAll0 (l.map roadD) = true := by
    intro l
    induction l with
    | nil => intro _; rfl
    | cons x r ih =>
      intro h
      show ((roadD x).canLay0 && PyData.canLayAll0 (r.map roadD)) = true
      have hx := W.ends x (h x List.mem_cons_self)
      rw [ih fun z hz => h z (List.mem_cons_of_mem _ hz), road_lay (W.names.2 _ hx.1) (W.names.2 _ hx.2.1)]
      rfl
  exact all rs fun _ h => h
theorem roads_any (rs : List (Str × Str)) (p : Str × Str) : ((rs.map roadD).any fun z => PyData.eqv z (roadD p)) = decide (p ∈ rs) := by
  induction rs with
  | nil => rfl
  | cons x r ih =>
    rw [List.map_cons, List.any_cons, ih]
    have h := eqv_dec (roadD x) (roadD p) rfl rfl
    have e : PyData.eqv (roadD x) (roadD p) = decide (p = x) := by
      by_cases k : p = x
      · subst k
        rw [decide_eq_true rfl]
        exact h.mpr rfl
      · rw [decide_eq_false k]
        cases q : PyData.eqv (roadD x) (roadD p) with
        | false => rfl
        | true =>
          have z := h.mp q
          simp only [roadD, PyData.tuple.injEq, List.cons.injEq, PyData.str.injEq, and_true] at z
          exact absurd (Prod.ext z.1.symm z.2.symm) k
    rw [e]
    by_cases k : p = x
    · subst k
      simp
    · simp [k]
theorem web_parts {K : PySem.W.Frag} {H : Hp} {v : V} {ps : List Str} {rs : List (Str × Str)} (h : Dp K H v (webD ps rs)) : ∃ (t tp tr : Addr) (xs : List V), v = .ref t ∧ SqT K H t [.ref tp, .ref tr] ∧ SqT K H tp (ps.map V.str) ∧ SqT K H tr xs ∧ DpAll K H xs (rs.map roadD) ∧
    Dp K H (.ref tr) (.tuple (rs.map roadD)) ∧ Dp K H (.ref tp) (.tuple (ps.map .str)) := by
  unfold webD at h
  cases h with
  | tup hs ha =>
    cases ha with
    | cons g1 g2 =>
      cases g2 with
      | cons g3 g4 =>
        cases g4
        have g1' := g1
        have g3' := g3
        cases g1 with
        | tup s1 a1 =>
          cases g3 with
          | tup s3 a3 =>
            have e := DpAll.strs_inv a1
            subst e
            exact ⟨_, _, _, _, rfl, hs, s1, s3, a3, g3', g1'⟩
def spNear (K : PySem.W.Frag) : Sp := fun vs H Q _ => ∃ (v : V) (x : Str) (ps : List Str) (rs : List (Str × Str)), vs = [v, .str x] ∧ Dp K H v (webD ps rs) ∧ IsWeb ps rs ∧ x ∈ ps ∧
  ∀ (p : Addr) (H' : Hp), H p = none → Same H H' → H' p = some (.lst ((nearL ps rs x).map V.str)) → Q (.ref p) H'
section
variable {σ : L2.St} {H : Hp} {Q : VK} {K : PySem.W.Frag}
theorem nil_eqv (ns : List Str) : PyData.eqv (.list (ns.map PyData.str)) (.list []) = ns.isEmpty := by
  cases ns <;> rfl
theorem strs_shaped {ns : List Str} (h : ∀ z ∈ ns, nmOk z = true) : SeqAt.shaped (.list (ns.map PyData.str)) = true := by
  have hd : PyData.depth (.list (ns.map PyData.str)) ≤ 64 := by
    show PyData.depthAll (ns.map PyData.str) + 1 ≤ 64
    have : PyData.depthAll (ns.map PyData.str) = 0 := by
      clear h
      induction ns with
      | nil => rfl
      | cons x r ih =>
        show max 0 (PyData.depthAll (r.map PyData.str)) = 0
        rw [ih]
        rfl
    omega
  show (PyData.canLayAll0 (ns.map PyData.str) && decide (PyData.depth (.list (ns.map PyData.str)) ≤ 64)) = true
  rw [strs_lay h, decide_eq_true hd]
  rfl
theorem i_neNil {p q : Addr} {ns : List Str} (e : SqL K H p (ns.map V.str)) (e2 : SqL K H q []) (ok : ∀ z ∈ ns, nmOk z = true) (h : Q (.bl (!ns.isEmpty)) H) : rNeD K (.ref p) (.ref q) H Q :=
  ⟨.list (ns.map .str), .list [], .lst e (DpAll.strs ns), .lst e2 .nil, strs_shaped ok, by decide, by rw [nil_eqv]; exact h⟩
end
end
section
open L2 PySem PySem.Spec PyProof.Rows
section
variable {X : Cx} {K : PySem.W.Frag}
theorem k_tuple (hK : X.K = K := by rfl) : CallR X (.type "tuple") (rTupleOf K) := by subst hK; exact j_tuple
theorem k_list (hK : X.K = K := by rfl) : CallR X (.type "list") (rListOf K) := by subst hK; exact j_list
theorem k_len (hK : X.K = K := by rfl) : CallR X (.builtin "len") (rLenQ K) := by subst hK; exact j_len
theorem k_all (hc : X.calm = true) (hK : X.K = K := by rfl) : CallR X (.builtin "all") (rAll K) := by subst hK; exact cr_all hc
theorem k_isi (hK : X.K = K := by rfl) : CallR X (.builtin "isinstance") (rIsi K) := by subst hK; exact call_isi
theorem k_show (hg : X.A.guards = some []) (hu : X.A.units + 64 < cLine) (hK : X.K = K := by rfl) : CallR X (.builtin "repr") (rShow K) := by subst hK; exact call_show hg hu
theorem k_ixL (hK : X.K = K := by rfl) : IxR X (rIxL K) := by subst hK; exact ix_list
theorem k_ixT (hK : X.K = K := by rfl) : IxR X (rIxT K) := by subst hK; exact ix_tup
theorem k_slL (hK : X.K = K := by rfl) : SlR X (rSlL K) := by subst hK; exact sl_list
theorem ksl_tup (hK : X.K = K := by rfl) : SlR X (rSlA K) := by subst hK; exact sl_tupA
theorem k_inS (hK : X.K = K := by rfl) : OpR X (compareOp .In) (rIn K false) := by subst hK; exact op_in_seq
theorem k_inQ (hu : X.A.units + 64 < cLine) (hK : X.K = K := by rfl) : OpR X (compareOp .In) (rInQ K false) := by subst hK; exact o_inQ hu
theorem k_eqD (hu : X.A.units + 64 < cLine) (hK : X.K = K := by rfl) : OpR X (compareOp .Eq) (rEqD K) := by subst hK; exact op_eqD hu
theorem k_neD (hu : X.A.units + 64 < cLine) (hK : X.K = K := by rfl) : OpR X (compareOp .NotEq) (rNeD K) := by subst hK; exact op_neD hu
variable {e : Expr} {es : List Expr} {t : TE} {tg : Expr} {to : TE} {ta : TA} {name : Str} {apos cpos pos : Pos} {T id : String} {r : V → List V → Hp → VK → Prop} {o : Expr}
theorem kpi_list (h : PE X e t) (hK : X.K = K := by rfl) : PI X tg e (iList K t) := by subst hK; exact pi_list h
theorem kpi_tup (h : PE X e t) (hK : X.K = K := by rfl) : PI X tg e (iTup K t) := by subst hK; exact pi_tup h
theorem kpg_tup {k n : Nat} {u : TGs} (hc : X.calm = true) (h : PGs X es u) (hK : X.K = K := by rfl) (h1 : (assignEach es X.env).length = n := by rfl) (h2 : List.findIdx? (fun x => x.fst) (assignEach es X.env) = none := by rfl) : PG X (.Tuple es k pos) (gTup K n u) := by subst hK; exact pg_tup hc h h1 h2
end
end
section
open L2 PySem PySem.Spec PyProof.Rows
theorem pe_ty {X : Cx} {x : Str} {T : String} {p : Pos} (hm : X.mg x = none) (hv : bootBuiltins x = some (.type T)) (hg : Gl X x := by rfl) (h1 : x ≠ "__name__" := by decide) (h2 : (x == ("__debug__" : Str)) = false := by decide) : PE X (.Name x p) (tC (.ty T)) := pe_bltn (v := .ty T) hg hm hv rfl h1 h2
section
variable {K : PySem.W.Frag} {H : Hp} {Q : VK}
theorem i_isi {x : V} {n T : String} {b : Bool} (ty : TyX K H x (.type n)) (e : kitB n T = some b) (h : Q (.bl b) H) : rIsi K [x, .ty T] H Q :=
  ⟨x, .ty T, .type n, .type T, b, rfl, .ty T, ty, kit_ty e, h⟩
theorem ty_tup {a : Addr} {xs : List V} (s : SqT K H a xs) : TyX K H (.ref a) (.type "tuple") := by
  rcases s with (e | ⟨o, e⟩) | ⟨o, its, n, e, c, _⟩
  · exact .base (.tup e)
  · exact .fTuple e
  · exact .kTuple e c
theorem is_str (z : Str) (h : Q (.bl true) H) : rIsi K [.str z, .ty "str"] H Q := i_isi (.base (.str z)) (by decide +kernel) h
theorem is_tup {a : Addr} {xs : List V} (s : SqT K H a xs) (h : Q (.bl true) H) : rIsi K [.ref a, .ty "tuple"] H Q := i_isi (ty_tup s) (by decide +kernel) h
end
theorem i_iteNT {A B : Prop} (h : B) : if (!true) = true then A else B := h
theorem i_iteNF {A B : Prop} (h : A) : if (!false) = true then A else B := h
theorem all_true {H : Hp} {K : PySem.W.Frag} {Q : VK} {p : Addr} {n : Nat} (e : SqL K H p ((List.range n).map fun _ => V.bl true)) (h : Q (.bl true) H) : rAll K [.ref p] H Q := by
  refine i_all (bs := (List.range n).map fun _ => true) ?_ ?_
  · rw [List.map_map]
    exact e
  · rw [List.all_eq_true.mpr fun x hx => by
      obtain ⟨_, _, rfl⟩ := List.mem_map.mp hx
      rfl]
    exact h
end
section
open L2 PySem PySem.Spec PyProof.Rows
abbrev Tt (P : Program) (w : World) (h : Heap) (k : List Str) (b : Addr) : Prop := IsTupleKey (PySem.strKind P w) h k b
abbrev tx (P : Program) (w : World) (k : List Str) : Int := tupleKeyHash (PySem.strKind P w) k
def trow (P : Program) (w : World) (p : Addr × List Str) : Int × Value := (tx P w p.2, .ref p.1)
abbrev pr (m : Nat) (h : Int) (c : Nat) : SetTable.Probe := nth m (runAt m (SetTable.bits h % (m + 1)) (SetTable.bits h)) c
section
variable {P : Program} {w : World} {A : Around} {E : Value → Shared → Prop} {s : Shared}
theorem texts_of {k : List Str} {vs : List Value} (h : ItemsAre (PySem.strKind P w) k vs) : ∀ v ∈ vs, ∃ z t, v = Value.str z t := by
  induction h with
  | nil => exact fun v hv => nomatch hv
  | cons h1 _ ih =>
    intro v hv
    cases hv with
    | head =>
      obtain ⟨t, e⟩ := Value.isStrOf_shape h1
      exact ⟨_, t, e⟩
    | tail _ hv => exact ih v hv
theorem noClass_str (n : Nat) (z : Str) (t : Tok) : ofAClassStatement n (.str z t) = pure false := by cases n <;> rfl
theorem byVal_str (n : Nat) (z : Str) (t : Tok) : hashByValue n (.str z t) = pure false := hashByValue_scannable n (rfl : (Value.str z t).scannable = true)
theorem noClass_tt {k : List Str} {b : Addr} {Q : Bool → Shared → Prop} (hk : Tt P w s.heap k b) (q : Q false s) : wpAny (model P w) A (ofAClassStatement 8 (.ref b)) Q E s := by
  have ty := hk.typeIs
  obtain ⟨o, its, n, g, _, d, al⟩ := hk
  have al := texts_of al
  unfold ofAClassStatement
  refine wpAny_bind (wpAny_typeOf ty ?_)
  dsimp only
  simp only [show (("tuple" : String) == "tuple") = true from by decide, if_true, Bool.not_true, Bool.false_eq_true, if_false]
  try refine wpAny_bind (wpAny_pure ?_)
  try simp only [Bool.not_true, Bool.false_eq_true, if_false]
  show wpAny _ _ (seqItems? (.ref b) >>= _) _ _ s
  refine wpAny_bind (wpAny_seqItems g d ?_)
  dsimp only
  refine wpAny_bind ?_
  show wpAny _ _ (forIn its _ _) _ _ s
  rw [← Array.forIn_toList]
  refine wpAny_forIn_list _ (fun l r z => (∀ v ∈ l, ∃ y t, v = Value.str y t) ∧ r.1 = none ∧ z = s) _ (fun v l r z => ?_) (fun r z => ?_) _ _ ⟨al, rfl, rfl⟩
  · rintro ⟨h1, h2, rfl⟩
    obtain ⟨y, t, rfl⟩ := h1 v (.head _)
    rw [noClass_str]
    refine wpAny_bind (wpAny_pure ?_)
    simp only [Bool.false_eq_true, if_false]
    exact wpAny_pure ⟨fun u hu => h1 u (.tail _ hu), rfl, rfl⟩
  · obtain ⟨r1, r2⟩ := r
    rintro ⟨_, h2, rfl⟩
    simp only at h2
    subst h2
    exact wpAny_pure q
theorem byVal_tt {k : List Str} {b : Addr} {Q : Bool → Shared → Prop} (hk : Tt P w s.heap k b) (q : ∀ v, Q v s) : wpAny (model P w) A (hashByValue 8 (.ref b)) Q E s := by
  have ty := hk.typeIs
  obtain ⟨o, its, n, g, _, d, al⟩ := hk
  have al := texts_of al
  unfold hashByValue
  refine wpAny_bind (wpAny_specialOf ty F.slot_tuple_hash.lookup ?_)
  show wpAny _ _ (seqItems? (.ref b) >>= _) _ _ s
  refine wpAny_bind (wpAny_seqItems g d (wpAny_bind ?_))
  show wpAny _ _ (forIn its _ _) _ _ s
  rw [← Array.forIn_toList]
  refine wpAny_forIn_list _ (fun l r z => (∀ v ∈ l, ∃ y t, v = Value.str y t) ∧ r.1 = none ∧ z = s) _ (fun v l r z => ?_) (fun r z => ?_) _ _ ⟨al, rfl, rfl⟩
  · rintro ⟨h1, h2, rfl⟩
    obtain ⟨y, t, rfl⟩ := h1 v (.head _)
    rw [byVal_str]
    refine wpAny_bind (wpAny_pure ?_)
    simp only [Bool.not_false, if_true]
    exact wpAny_pure (wpAny_pure (q _))
  · obtain ⟨r1, r2⟩ := r
    rintro ⟨_, h2, rfl⟩
    simp only at h2
    subst h2
    exact wpAny_pure (q _)
theorem unseen_tt {k : List Str} {b : Addr} {Q : Bool → Shared → Prop} (hk : Tt P w s.heap k b) {ys : List Value} (hy : ∀ y ∈ ys, ∃ k' c, y = Value.ref c ∧ Tt P w s.heap k' c) (q : Q false s) :
    wpAny (model P w) A (searchCouldBeSeen (.ref b) ys) Q E s := by
  unfold searchCouldBeSeen
  refine wpAny_bind (wpAny_forIn_list _ (fun l r z => (∀ y ∈ l, ∃ k' c, y = Value.ref c ∧ Tt P w s.heap k' c) ∧ r.1 = none ∧ z = s) _ (fun v l r z => ?_) (fun r z => ?_) _ _ ⟨hy, rfl, rfl⟩)
  · rintro ⟨h1, h2, rfl⟩
    obtain ⟨k', c, rfl, hc⟩ := h1 v (.head _)
    have on : ∀ u ∈ l, ∃ k' c, u = Value.ref c ∧ Tt P w z.heap k' c := fun u hu => h1 u (.tail _ hu)
    dsimp only
    by_cases e : (b == c || (carriedByValue (.ref b) && carriedByValue (.ref c))) = true
    · exact wp_if_pos e (wpAny_pure ⟨on, rfl, rfl⟩)
    · refine wp_if_neg e (wpAny_bind (wpAny_eqIsQuiet_tuple hk ?_))
      simp only [Bool.not_true, Bool.false_eq_true, if_false]
      refine wpAny_bind (wpAny_eqIsQuiet_tuple hc ?_)
      simp only [Bool.not_true, Bool.false_eq_true, if_false]
      refine wpAny_bind (noClass_tt hk ?_)
      simp only [Bool.false_eq_true, if_false]
      refine wpAny_bind (noClass_tt hc ?_)
      simp only [Bool.false_eq_true, if_false]
      exact wpAny_pure ⟨on, rfl, rfl⟩
  · obtain ⟨r1, r2⟩ := r
    rintro ⟨_, h2, rfl⟩
    simp only at h2
    subst h2
    exact wpAny_pure q
structure TxS (P : Program) (w : World) (h : Heap) (a : Addr) (L : List (Addr × List Str)) (es : Array (Int × Value)) (ep : Nat) (t : SetTable) : Prop where
  here : ∃ o, h.get? a = some o ∧ o.ExactSet ∧ o.data = .set es ep t
  rows : es.toList = L.map (trow P w)
  tab : TabOk t (L.map fun p => tx P w p.2)
  led : w.params.followText "set-order" = true ∨ t.led = true
  room : L.length * 5 < t.mask * 3
  few : L.length < 64
variable {a : Addr} {L : List (Addr × List Str)} {es : Array (Int × Value)} {ep : Nat} {t : SetTable}
theorem rows_size (r : es.toList = L.map (trow P w)) : es.size = L.length := by
  simpa using congrArg List.length r
theorem fits_of {hs : List Int} (T : TabOk t hs) (hn : es.size = hs.length) (hm : hs.length ≤ t.mask) : t.fits es.size = true := by
  have z := T.sz
  simp only [SetTable.fits, SetTable.fill, T.dm, Bool.and_eq_true, beq_iff_eq, decide_eq_true_eq]
  exact ⟨by omega, by show t.place.size + 0 ≤ t.mask; omega⟩
theorem TxS.size (R : TxS P w s.heap a L es ep t) : es.size = L.length := rows_size R.rows
theorem TxS.fits (R : TxS P w s.heap a L es ep t) : t.fits es.size = true := by
  refine fits_of R.tab (by rw [R.size, List.length_map]) ?_
  have z := R.room
  rw [List.length_map]
  omega
theorem TxS.entry (R : TxS P w s.heap a L es ep t) {i : Nat} {p : Addr × List Str} (h : L[i]? = some p) : es[i]? = some (trow P w p) := by
  rw [← Array.getElem?_toList, R.rows, List.getElem?_map, h, Option.map_some]
theorem pr_dummy (m : Nat) (h : Int) (c : Nat) : (pr m h c).dummy = none := by
  have z : ∀ n (p : SetTable.Probe), p.dummy = none → (nth m p n).dummy = none := by
    intro n
    induction n with
    | zero => exact fun p e => e
    | succ n ih =>
      intro p e
      exact ih _ (by unfold adv; split <;> exact e)
  exact z c _ rfl
theorem TxS.search (R : TxS P w s.heap a L es ep t) (hT : ∀ p ∈ L, Tt P w s.heap p.2 p.1) {x : Addr} {k : List Str} (hx : Tt P w s.heap k x) (hu : A.units < cLine) (hk : ∀ p ∈ L, p.2 ≠ k) {K : Nat}
    (hKf : K < 10 * SetTable.turns t.mask) (hK : way t.mask (tx P w k) K ∉ t.place.toList) (hKb : ∀ c, c < K → way t.mask (tx P w k) c ∈ t.place.toList) {Q : SetFound → Shared → Prop}
    (q : Q (.free (way t.mask (tx P w k) K) false) s) : ∀ (f c : Nat) (st : Option SetTable.Probe), st.getD (t.probeStart (tx P w k)) = pr t.mask (tx P w k) c → c ≤ K → K - c < f →
      wpAny (model P w) A (setSearchFrom a (.ref x) (tx P w k) true f st) Q E s := by
  obtain ⟨o, g, hex, hd⟩ := R.here
  intro f
  induction f with
  | zero => exact fun c st _ _ z => absurd z (Nat.not_lt_zero _)
  | succ f ih =>
    intro c st hst hc hf
    have on : ∀ n, nth t.mask (pr t.mask (tx P w k) c) n = pr t.mask (tx P w k) (c + n) := fun n => (nth_add t.mask c _ n).symm
    have end_ : (nth t.mask (pr t.mask (tx P w k) c) (K - c)).j = way t.mask (tx P w k) K := by rw [on, Nat.add_sub_cancel' hc]
    rw [setSearchFrom_succ]
    refine wpAny_bind (wpAny_setState_of g hd R.fits ?_)
    dsimp only
    refine wp_if_neg (by unfold SetTable.gaveWay; rw [mask_odd R.tab.mok]; decide) ?_
    try refine wpAny_bind (wpAny_pure ?_)
    rcases go_spec t R.tab.ris R.tab.dm (fun i => (es[i]?.map (·.1)).getD 0) (tx P w k) (10 * SetTable.turns t.mask) (K - c) _ (pr_dummy _ _ c) (by omega)
      (fun n hn => by rw [on]; exact hKb _ (by omega)) (by rw [end_]; exact hK) with ⟨n, i, hn, hi, _, _, e⟩ | ⟨_, e⟩
    · rw [on, on, ← hst] at e
      rw [show t.probe (fun i => (es[i]?.map (·.1)).getD 0) (tx P w k) (st.getD (t.probeStart (tx P w k))) = _ from e]
      dsimp only
      rw [on] at hi
      have hl : i < L.length := by
        have h1 := (List.getElem?_eq_some_iff.mp hi).1
        have h2 := R.tab.sz
        rw [List.length_map] at h2
        rw [Array.length_toList] at h1
        omega
      have hp := List.getElem?_eq_getElem hl
      have me : L[i] ∈ L := List.getElem_mem hl
      have go : wpAny (model P w) A (searchRest a (.ref x) (tx P w k) true f es t (way t.mask (tx P w k) (c + n)) i (pr t.mask (tx P w k) (c + (n + 1)))) Q E s := by
        unfold searchRest
        rw [R.entry hp]
        dsimp only [trow]
        refine wpAny_bind (wpAny_holding (wpAny_eqBool_tuple hu (hT _ me) hx ?_))
        rw [decide_eq_false (hk _ me)]
        refine wpAny_bind (wpAny_setState_of g hd R.fits ?_)
        dsimp only
        refine wp_if_neg (by decide) ?_
        try refine wpAny_bind (wpAny_pure ?_)
        rw [L2.sameMem]
        dsimp only
        simp only [if_true, slot_live R.tab.ris hi, R.entry hp]
        refine wpAny_bind (wpAny_isSame_ref_self (wpAny_bind (wpAny_pure ?_)))
        simp only [if_true]
        refine wp_if_neg Bool.false_ne_true ?_
        exact ih (c + (n + 1)) _ rfl (by omega) (by omega)
      by_cases hl : t.led = true
      · refine wp_if_neg (by simp [hl]) ?_
        try refine wpAny_bind (wpAny_pure ?_)
        exact go
      · refine wp_if_pos (by simp [hl]) (wpAny_bind (unseen_tt hx (fun y hy => ?_) ?_))
        · obtain ⟨u, hu1, hu2⟩ := List.mem_map.mp hy
          have hu3 : u ∈ es ∧ u.1 = tx P w k := by simpa using hu1
          have hu4 : u ∈ es.toList := by simpa using hu3.1
          rw [R.rows] at hu4
          obtain ⟨p, hp1, hp2⟩ := List.mem_map.mp hu4
          exact ⟨p.2, p.1, by rw [← hu2, ← hp2]; rfl, hT p hp1⟩
        · refine wp_if_neg (by decide) ?_
          try refine wpAny_bind (wpAny_pure ?_)
          exact go
    · rw [end_, ← hst] at e
      rw [show t.probe (fun i => (es[i]?.map (·.1)).getD 0) (tx P w k) (st.getD (t.probeStart (tx P w k))) = _ from e]
      dsimp only
      exact wpAny_pure q
theorem TxS.look (R : TxS P w s.heap a L es ep t) (hT : ∀ p ∈ L, Tt P w s.heap p.2 p.1) {x : Addr} {k : List Str} (hx : Tt P w s.heap k x) (hu : A.units < cLine) (hk : ∀ p ∈ L, p.2 ≠ k) {Q : SetFound → Shared → Prop}
    (q : ∀ K, way t.mask (tx P w k) K ∉ t.place.toList → (∀ c, c < K → way t.mask (tx P w k) c ∈ t.place.toList) → Q (.free (way t.mask (tx P w k) K) false) s) :
    wpAny (model P w) A (setSearch a (.ref x) (tx P w k) true) Q E s := by
  have rm := R.room
  obtain ⟨K, h1, h2, h3⟩ := R.tab.first (by rw [List.length_map]; omega) (tx P w k)
  have h4 : K < 100000 := by
    have : 10 * SetTable.turns t.mask ≤ 1420 := by
      unfold SetTable.turns
      rcases R.tab.mok with e | e | e <;> omega
    omega
  unfold setSearch
  exact R.search hT hx hu hk h1 h2 h3 (q K h2 h3) 100000 0 none rfl (Nat.zero_le _) (by omega)
theorem picked {α β : Type} (g : α → β) (d : β) (L : List α) : ∀ l : List Nat, (∀ i ∈ l, i < L.length) → (l.filterMap fun i => L[i]?).map g = l.map fun i => (L.map g).getD i d
  | [], _ => rfl
  | i :: l, h => by
    have hi : i < L.length := h i (.head _)
    rw [List.filterMap_cons_some (List.getElem?_eq_getElem hi), List.map_cons, List.map_cons, picked g d L l fun j hj => h j (.tail _ hj)]
    congr 1
    rw [List.getD_eq_getElem?_getD, List.getElem?_map, List.getElem?_eq_getElem hi]
    rfl
theorem all_picked {α : Type} (L : List α) : ∀ n, n ≤ L.length → (List.range n).filterMap (fun i => L[i]?) = L.take n
  | 0, _ => rfl
  | n + 1, h => by
    rw [List.range_succ, List.filterMap_append, all_picked L n (Nat.le_of_succ_le h), List.take_succ]
    cases e : L[n]? <;> simp [e]
variable {o : Obj}
theorem relay_tx (g : s.heap.get? a = some o) (hex : o.ExactSet) (hd : o.data = .set es ep t) (hr : es.toList = L.map (trow P w)) (T : TabOk t (L.map fun p => tx P w p.2)) (hm : L.length ≤ t.mask) (ld : w.params.followText "set-order" = true ∨ t.led = true) (few : L.length < 64)
    {wd M : Nat} (hw : SetTable.sizeAbove wd - 1 = M) (hM : MaskOk M) (h128 : SetTable.sizeAbove wd ≤ 128) (hn : L.length * 5 < M * 3) {Q : Unit → Shared → Prop}
    (q : ∀ h' L' es' ep' t', Heap.SameBut a s.heap h' → TxS P w h' a L' es' ep' t' → L'.Perm L → Q () { s with heap := h' }) : wpAny (model P w) A (setRelay a wd) Q E s := by
  have sz := rows_size hr
  have ft : t.fits es.size = true := fits_of T (by rw [sz, List.length_map]) (by rw [List.length_map]; exact hm)
  obtain ⟨t', od, e, pm, T', m', l', p', _⟩ := relaid_ok t (hs := es.map (·.1)) (wanted := wd) hw hM (by rw [Array.size_map, sz]; omega)
  rw [Array.size_map, sz] at pm
  have lt : ∀ i ∈ od.toList, i < L.length := fun i hi => List.mem_range.mp (pm.mem_iff.mp hi)
  have eL : (es.map (·.1)).toList = L.map fun p => tx P w p.2 := by
    rw [Array.toList_map, hr, List.map_map]
    rfl
  have e1 : (od.filterMap (es[·]?)).toList = (od.toList.filterMap fun i => L[i]?).map (trow P w) := by
    rw [Array.toList_filterMap, picked (trow P w) (0, .none) L _ lt]
    have : ∀ l : List Nat, (∀ i ∈ l, i < L.length) → l.filterMap (fun i => es[i]?) = l.map fun i => (L.map (trow P w)).getD i (0, .none) := by
      intro l
      induction l with
      | nil => exact fun _ => rfl
      | cons i l ih =>
        intro hl
        have z : es[i]? = some ((L.map (trow P w)).getD i (0, .none)) := by
          rw [← Array.getElem?_toList, hr, List.getD_eq_getElem?_getD, List.getElem?_map, List.getElem?_eq_getElem (hl i (.head _))]
          rfl
        rw [List.filterMap_cons_some z, ih fun j hj => hl j (.tail _ hj), List.map_cons]
    exact this _ lt
  have e2 : (od.toList.filterMap fun i => L[i]?).map (fun p => tx P w p.2) = od.toList.map fun i => (es.map (·.1)).getD i 0 := by
    rw [picked (fun p : Addr × List Str => tx P w p.2) 0 L _ lt]
    refine List.map_congr_left fun i _ => ?_
    rw [← eL]
    simp [List.getD_eq_getElem?_getD, Array.getD_eq_getD_getElem?]
  have e3 : (od.toList.filterMap fun i => L[i]?).Perm L := by
    have z := pm.filterMap fun i => L[i]?
    rw [all_picked L L.length (Nat.le_refl _), List.take_length] at z
    exact z
  rw [← e2] at T'
  generalize (od.toList.filterMap fun i => L[i]?) = L2 at e1 e3 T'
  have s2 := rows_size e1
  rw [e3.length_eq] at s2
  rw [setRelay_eq]
  refine wpAny_bind (wpAny_setState_of g hd ft ?_)
  dsimp only
  refine wp_if_neg (by rw [sizeLine_eq]; omega) ?_
  try refine wpAny_bind (wpAny_pure ?_)
  rw [e]
  dsimp only
  refine wpAny_bind (wp_if_neg (by rw [s2, sz]; simp) ?_)
  try refine wpAny_bind (wpAny_pure ?_)
  refine wpAny_pure ?_
  dsimp only
  refine wpAny_storeSet_of g hd (q _ L2 _ (ep + 1) t' (Heap.SameBut.update ..) ⟨⟨_, store_at g hd, hex, rfl⟩, e1, T', by rw [l']; exact ld, ?_, ?_⟩ e3) (by rw [s2, sizeLine_eq]; omega)
  · rw [e3.length_eq, m']
    exact hn
  · rw [e3.length_eq]
    exact few
theorem TxS.add (R : TxS P w s.heap a L es ep t) (hT : ∀ p ∈ L, Tt P w s.heap p.2 p.1) {x : Addr} {k : List Str} (hx : Tt P w s.heap k x) (hu : A.units < cLine) (hk : ∀ p ∈ L, p.2 ≠ k) (hf : L.length + 1 < 64) {Q : Bool → Shared → Prop}
    (q : ∀ h' L' es' ep' t', Heap.SameBut a s.heap h' → TxS P w h' a L' es' ep' t' → L'.Perm ((x, k) :: L) → Q true { s with heap := h' }) :
    wpAny (model P w) A (setAddHashed a (.ref x) (tx P w k)) Q E s := by
  obtain ⟨o, g, hex, hd⟩ := R.here
  have sz := R.size
  have rm := R.room
  unfold setAddHashed
  refine wpAny_holding ?_
  rw [show (100000 : Nat) = 99999 + 1 from rfl, setAddHashedIn_succ]
  refine wpAny_bind (wpAny_setState_of g hd R.fits ?_)
  dsimp only
  refine wp_if_neg (by simp [byScan, Value.scannable]) ?_
  try refine wpAny_bind (wpAny_pure ?_)
  refine wpAny_bind (R.look hT hx hu hk fun K hK hb => ?_)
  dsimp only
  refine wpAny_bind (wpAny_setState_of g hd R.fits ?_)
  dsimp only
  obtain ⟨q1, q2, q3, q4, q5, q6, q7, q8, q9⟩ := R.tab.put hK hb
  generalize hu1 : t.put (way t.mask (tx P w k) K) = u at q1 q3 q4 q5 q6 q7 q8 q9 ⊢
  obtain ⟨t1, n⟩ := u
  dsimp only at q1 q3 q4 q5 q6 q7 q8 q9 ⊢
  subst q1
  have key : ∀ t2 : SetTable, TabOk t2 ((L.map fun p => tx P w p.2).take (SetTable.below t.place (way t.mask (tx P w k) K)) ++ tx P w k :: (L.map fun p => tx P w p.2).drop (SetTable.below t.place (way t.mask (tx P w k) K))) → t2.mask = t.mask → t2.led = t.led → t2.fill = t1.fill →
      wpAny (model P w) A (do
        storeSet a (SetTable.insertAt es (SetTable.below t.place (way t.mask (tx P w k) K)) (tx P w k, Value.ref x)) t2
        if !false && t2.tooFull then setRelay a (SetTable.grown (es.size + 1))
        return true) Q E s := fun t2 q3 q4 q5 q9' => by
    generalize hn : SetTable.below t.place (way t.mask (tx P w k) K) = n at q2 q3
    have r1 : (SetTable.insertAt es n (tx P w k, Value.ref x)).toList = (L.take n ++ (x, k) :: L.drop n).map (trow P w) := by
      rw [SetTable.toList_insertAt, R.rows, List.map_append, List.map_cons, List.map_take, List.map_drop]
      rfl
    have e3 : (L.take n ++ (x, k) :: L.drop n).map (fun p => tx P w p.2) = (L.map fun p => tx P w p.2).take n ++ tx P w k :: (L.map fun p => tx P w p.2).drop n := by
      rw [List.map_append, List.map_cons, List.map_take, List.map_drop]
    rw [← e3] at q3
    have pm : (L.take n ++ (x, k) :: L.drop n).Perm ((x, k) :: L) := put_perm L n (x, k)
    generalize SetTable.insertAt es n (tx P w k, Value.ref x) = es1 at r1 ⊢
    generalize L.take n ++ (x, k) :: L.drop n = L1 at r1 q3 pm
    have l1 : L1.length = L.length + 1 := pm.length_eq
    have s1 := rows_size r1
    rw [l1] at s1
    refine wpAny_bind (wpAny_storeSet_of g hd ?_ (by rw [s1, sizeLine_eq]; omega))
    have sb : Heap.SameBut a s.heap (s.heap.update a (Obj.putSet es1 t2)) := Heap.SameBut.update ..
    have g1 := store_at (es' := es1) (t' := t2) g hd
    generalize s.heap.update a (Obj.putSet es1 t2) = h1 at sb g1 ⊢
    have ld1 : w.params.followText "set-order" = true ∨ t2.led = true := by rw [q5]; exact R.led
    by_cases hfull : t2.tooFull = true
    · have z := hfull
      unfold SetTable.tooFull at z
      rw [decide_eq_true_eq, q9', q9, List.length_map] at z
      have two : (t.mask = 7 ∧ L.length = 4) ∨ (t.mask = 31 ∧ L.length = 18) := by
        rcases R.tab.mok with e | e | e <;> rw [q4, e] at z <;> rw [e] at rm
        · exact .inl ⟨e, by omega⟩
        · exact .inr ⟨e, by omega⟩
        · omega
      have step : ∀ M, SetTable.sizeAbove (SetTable.grown (L.length + 1)) - 1 = M → MaskOk M → SetTable.sizeAbove (SetTable.grown (L.length + 1)) ≤ 128 → (L.length + 1) * 5 < M * 3 →
          wpAny (model P w) A (setRelay a (SetTable.grown (L.length + 1))) (fun _ s' => wpAny (model P w) A (pure true) Q E s') E { s with heap := h1 } := fun M a1 a2 a3 a4 =>
        relay_tx (s := { s with heap := h1 }) g1 hex rfl r1 q3 (by rw [l1, q4]; rcases two with ⟨e, e2⟩ | ⟨e, e2⟩ <;> omega) ld1 (by rw [l1]; exact hf) a1 a2 a3 (by rw [l1]; exact a4)
          fun h2 L2 es2 ep2 t2 sb2 R2 pm2 => wpAny_pure (q h2 L2 es2 ep2 t2 (sb.trans sb2) R2 (pm2.trans pm))
      first
        | (refine wpAny_bind ?_; refine wp_if_pos (by simp [hfull]) ?_)
        | (refine wp_if_pos (by simp [hfull]) ?_; refine wpAny_bind ?_)
      rw [sz]
      rcases two with ⟨_, e2⟩ | ⟨_, e2⟩
      · exact step 31 (by rw [e2, size_20]) (.inr (.inl rfl)) (by rw [e2, size_20]; decide) (by omega)
      · exact step 127 (by rw [e2, size_76]) (.inr (.inr rfl)) (by rw [e2, size_76]; decide) (by omega)
    · first
        | refine wp_if_neg (by simp [hfull]) ?_
        | (refine wpAny_bind ?_; refine wp_if_neg (by simp [hfull]) ?_; refine wpAny_pure ?_)
      have z := hfull
      unfold SetTable.tooFull at z
      rw [decide_eq_true_eq, q9', q9, List.length_map] at z
      exact wpAny_pure (q h1 L1 es1 (ep + 1) t2 sb ⟨⟨_, g1, hex, rfl⟩, r1, q3, ld1, by rw [l1]; omega, by rw [l1]; exact hf⟩ pm)
  have fin : ∀ b : Bool, wpAny (model P w) A (do
        storeSet a (SetTable.insertAt es (SetTable.below t.place (way t.mask (tx P w k) K)) (tx P w k, Value.ref x)) (if b = true then t1 else { t1 with plain := false })
        if !false && (if b = true then t1 else { t1 with plain := false }).tooFull then setRelay a (SetTable.grown (es.size + 1))
        return true) Q E s := fun b => by
    cases b with
    | true => exact key t1 q3 q4 q5 rfl
    | false => exact key { t1 with plain := false } ⟨q3.ris, q3.dm, q3.sz, q3.mok, q3.bd, q3.reach⟩ q4 q5 rfl
  by_cases p1 : t1.plain = true
  · first
      | (refine wpAny_bind ?_; refine wp_if_pos p1 ?_; refine byVal_tt hx fun b => ?_)
      | refine wp_if_pos p1 (wpAny_bind (byVal_tt hx fun b => ?_))
    exact fin b
  · first
      | (refine wpAny_bind ?_; refine wp_if_neg p1 ?_; refine wpAny_pure ?_)
      | refine wp_if_neg p1 (wpAny_bind (wpAny_pure ?_))
      | refine wp_if_neg p1 ?_
    exact fin true
end
end
section
open L2 PySem PySem.Spec PyProof.Rows
def TsO (P : Program) (w : World) (a : Addr) (L : List (Addr × List Str)) : HO := .ext fun h => ∃ es ep t, TxS P w h a L es ep t
abbrev setObj0 (w : World) : Obj := { cls := .type "set", dict := none, data := .set #[] 0 (.fresh 0 0 (!w.params.followText "set-order")) }
section
variable {P : Program} {w : World} {A : Around} {E : Value → Shared → Prop} {s : Shared}
theorem TxS.keep {h h' : Heap} {a : Addr} {L : List (Addr × List Str)} {es : Array (Int × Value)} {ep : Nat} {t : SetTable} (R : TxS P w h a L es ep t) (k : ∀ o, h.get? a = some o → h'.get? a = some o) : TxS P w h' a L es ep t :=
  let ⟨o, g, r⟩ := R.here
  ⟨⟨o, k o g, r⟩, R.rows, R.tab, R.led, R.room, R.few⟩
theorem txs_fresh {h : Heap} {a : Addr} (g : h.get? a = some (setObj0 w)) : TxS P w h a [] #[] 0 (.fresh 0 0 (!w.params.followText "set-order")) := by
  refine ⟨⟨_, g, ⟨rfl, rfl, rfl⟩, rfl⟩, rfl, ⟨List.Pairwise.nil, rfl, rfl, .inl rfl, fun x hx => (by cases hx), fun i h j hi => (by simp at hi)⟩, ?_, by show 0 * 5 < 7 * 3; decide, by show 0 < 64; decide⟩
  cases e : w.params.followText "set-order"
  · exact .inr rfl
  · exact .inl rfl
theorem ts_obj {H : Hp} {h : Heap} {a : Addr} {L : List (Addr × List Str)} (R : ∃ es ep t, TxS P w h a L es ep t) : ObjOk P w H h a (TsO P w a L) := by
  refine ⟨R, ?_, fun h1 h2 ⟨es, ep, t, z⟩ k => ⟨es, ep, t, z.keep k⟩⟩
  obtain ⟨es, ep, t, z⟩ := R
  obtain ⟨o, g, _⟩ := z.here
  exact ⟨o, g⟩
theorem txs_put {a x : Addr} {L : List (Addr × List Str)} {k : List Str} {es : Array (Int × Value)} {ep : Nat} {t : SetTable} (R : TxS P w s.heap a L es ep t) (hT : ∀ p ∈ L, Tt P w s.heap p.2 p.1) (hx : Tt P w s.heap k x) (hu : A.units + 64 < cLine) (hk : ∀ p ∈ L, p.2 ≠ k) (hf : L.length + 1 < 64) {Q : Value → Shared → Prop}
    (q : ∀ h' L' tk, Heap.SameBut a s.heap h' → (∃ es ep t, TxS P w h' a L' es ep t) → L'.Perm ((x, k) :: L) → Q .none { s with heap := h', toks := tk }) : wpAny (model P w) A (call (.builtin "set.add") [.ref a, .ref x]) Q E s := by
  obtain ⟨o, g, hex, hd⟩ := R.here
  have ty : s.TypeIs (.ref a) "set" := ⟨o, g, hex.1⟩
  refine wpAny_call_entry F.slot_set_add ty F.entry_set_add ?_ (F.args_set_add_2 _ _)
  unfold Builtin.«set.add» Builtin.Frozenset.oneOther
  simp only [List.isEmpty_nil, bind_assoc]
  unfold Builtin.Frozenset.addrOf setAdd
  refine wpAny_bind (wpAny_pure ?_)
  try dsimp only
  refine wpAny_bind (wpAny_pure ?_)
  try dsimp only
  refine wpAny_bind (wpAny_holding (wpAny_bind (wpAny_pyHash_tuple ?hun hx ?_)))
  case hun => first | omega | (show A.units + 1 < cLine; omega) | (show A.units < cLine; omega)
  refine (show TxS P w ({ s with toks := s.toks + (k.length + 1) } : Shared).heap a L es ep t from R).add (s := { s with toks := s.toks + (k.length + 1) }) hT hx ?hun hk hf fun h' L' es' ep' t' sb R' pm => ?_
  case hun => first | omega | (show A.units + 1 < cLine; omega) | (show A.units < cLine; omega)
  show wpAny _ _ (ret Value.none) _ _ _
  exact wpAny_pure ⟨_, rfl, q h' L' _ sb ⟨es', ep', t', R'⟩ pm⟩
end
section
variable {X : Cx}
theorem tt_of {pins : List (Addr × Obj)} {σ : L2.St} {H : Hp} {s : Shared} {b : Addr} {k : List Str} (I : Inv X pins σ H s) (h : SqT X.K H b (k.map V.str)) : Tt X.prog X.w s.heap k b := by
  obtain ⟨its, r, ⟨o, g, c, n, d⟩, _⟩ := I.tuple h
  refine ⟨o, its.toArray, n, g, c, d, ?_⟩
  show ItemsAre _ k its
  have key : ∀ {k : List Str} {us : List Value}, Vals (k.map V.str) us → ItemsAre (PySem.strKind X.prog X.w) k us := by
    intro k
    induction k with
    | nil => intro us v; cases v; exact .nil
    | cons z k ih =>
      intro us v
      cases v with
      | cons r t =>
        obtain ⟨tk, rfl⟩ := r
        exact .cons (PySem.strKind_is _ _ z tk) (ih t)
  exact key r
theorem ts_add {pins : List (Addr × Obj)} {σ : L2.St} {H : Hp} {s : Shared} {E : Value → Shared → Prop} {D x : Addr} {L : List (Addr × List Str)} {k : List Str} {Q : Value → Shared → Prop} (I : Inv X pins σ H s) (hu : X.A.units + 64 < cLine) (hD : H D = some (TsO X.prog X.w D L))
    (hT : ∀ p ∈ L, SqT X.K H p.1 (p.2.map V.str)) (hx : SqT X.K H x (k.map V.str)) (hk : ∀ p ∈ L, p.2 ≠ k) (hf : L.length + 1 < 64)
    (h : ∀ L' s', L'.Perm ((x, k) :: L) → Inv X pins σ (upd H D (TsO X.prog X.w D L')) s' → Q .none s') : wpAny (model X.prog X.w) X.A (call (.builtin "set.add") [.ref D, .ref x]) Q E s := by
  obtain ⟨es, ep, t, R⟩ : ∃ es ep t, TxS X.prog X.w s.heap D L es ep t := (I.hok D _ hD).1
  refine txs_put R (fun p hp => tt_of I (hT p hp)) (tt_of I hx) hu hk hf fun h' L' tk sb R' pm => ?_
  have he : ∃ u, h'.get? D = some u := by
    obtain ⟨_, _, _, z⟩ := R'
    obtain ⟨o, g, _⟩ := z.here
    exact ⟨o, g⟩
  exact h L' _ pm (I.write (e := D) (t' := tk) (by rw [hD]; trivial) (.inl rfl) (fun b u hb hu => (sb.2 b hb).trans hu) he (ts_obj R'))
def tSct (P : Program) (w : World) (K : PySem.W.Frag) (wi : TI) (g : TG) (tt : TT) (te : TE) (vs : List Nat) : TE := fun σ H Q => wi σ H fun J H1 => ∀ D, H1 D = none → ∃ W : Nat → Nat → Hp → Prop, (∃ m, W 0 m (upd H1 D (TsO P w D []))) ∧ ∀ i m H, W i m H →
  (J.stop i H ∧ Q (.ref D) H) ∨ (J.go i H ∧ ∃ Nx : Hp → Prop, (∀ H', Nx H' → ∃ m', m' < m ∧ W (i + 1) m' H') ∧ ∀ x H', J.yld i H x H' → g x (wipe σ vs) H' fun σ2 H2 => wipe σ2 vs = wipe σ vs ∧ tt σ2 H2 fun b H3 =>
    if b = true then te σ2 H3 fun y H4 => ∃ (p : Addr) (k : List Str) (L : List (Addr × List Str)), y = .ref p ∧ SqT K H4 p (k.map V.str) ∧ H4 D = some (TsO P w D L) ∧ (∀ q ∈ L, SqT K H4 q.1 (q.2.map V.str)) ∧ (∀ q ∈ L, q.2 ≠ k) ∧ L.length + 1 < 64 ∧
      ∀ L' : List (Addr × List Str), L'.Perm ((p, k) :: L) → Nx (upd H4 D (TsO P w D L')) else Nx H3)
theorem pe_sct {elt tg iter : Expr} {ifs : List Expr} {scope : Scope} {own : List (PySem.Str × Nat)} {pos : Pos} {wi : TI} {g : TG} {tt : TT} {te : TE} (hc : X.calm = true) (hu : X.A.units + 64 < cLine) (hN : X.N.Nodup) (hi : PI X tg iter wi) (ok : BlkOk X.N X.env.scope scope own)
    (hg : ∀ (s : Shared) (H : Hp) (C : Addr) (cl : List (PySem.Str × Addr)) (fp : List Addr), PG (X.blk s H scope (compEnvC scope cl C X.env) fp) tg g) (ht : ∀ (s : Shared) (H : Hp) (C : Addr) (cl : List (PySem.Str × Addr)) (fp : List Addr), PTs (X.blk s H scope (compEnvC scope cl C X.env) fp) ifs tt)
    (he : ∀ (s : Shared) (H : Hp) (C : Addr) (cl : List (PySem.Str × Addr)) (fp : List Addr), PE (X.blk s H scope (compEnvC scope cl C X.env) fp) elt te) (hs : ∀ x, foldedSetIterable iter X.env x = pure x := by intro _; rfl) :
    PE X (.SetComp elt [⟨tg, iter, ifs, 0⟩] scope pos) (tSct X.prog X.w X.K wi g tt te (own.map (·.2))) := by
  refine ⟨fun pins s σ H Q I h => ?_⟩
  rw [PpSet.eval_SetComp]
  have fr : ∀ y ∈ scope.names, y.2 = .free → ∃ c, X.env.cells.lookup y.1 = some c := fun y hy e => (ok.free y hy e).elim (fun k => I.ok.has _ (.inl k)) fun k => I.ok.has _ (.inr k)
  refine wpAny_comprehension_free rfl hs (closure_ok fr) ok.kind (fun y hy e => by rw [ok.uniq y hy, e]) (thn (hi.run pins s σ H _ I h) fun xv s1 hx => thn hx fun itv s2 ⟨it, fp, tn, J, H2, e, I2, T, st2, f2, q⟩ => ?_)
  subst e
  refine PpSet.newSet_ok (newEnv_comp ?_)
  obtain ⟨D, hD⟩ : ∃ D, D = s2.heap.objs.size := ⟨_, rfl⟩
  rw [← hD]
  have D0 : H2 D = none := I2.hok.fresh (Nat.le_of_eq hD.symm)
  obtain ⟨W, ⟨m0, w0⟩, turn⟩ := q D D0
  generalize es3 : ({ s2 with heap := s2.heap.push (setObj0 X.w) } : Shared) = s3
  have h3 : s3.heap = s2.heap.push (setObj0 X.w) := by rw [← es3]
  have I3 : Inv X pins σ (upd H2 D (TsO X.prog X.w D [])) s3 := by
    rw [← es3]
    refine I2.laid (t' := s2.toks) (fun b o e => Heap.get?_push_of_some _ e) (Nat.le_of_eq hD.symm) (ts_obj ⟨_, _, _, txs_fresh ?_⟩)
    rw [hD]
    exact Heap.get?_push_size _ rfl
  show codeAny _ _ (.compStart (.SetComp elt [⟨tg, iter, ifs, 0⟩] scope pos) 0 (.ref it) (.ref D) (compEnvC scope (cellsFrom (s3.heap.objs.size + 1) scope.names (cloFrom X.env.cells scope.names [])) s3.heap.objs.size X.env)) (compPost (model X.prog X.w) X.A X.xe none (EP X pins σ Q) (.ref D) s3.heap.objs.size) { s3 with heap := pushCells (s3.heap.push { cls := .type "dict", data := .dict #[] }) scope.names }
  have f3 : ∀ b ∈ fp, FpOk X pins (upd H2 D (TsO X.prog X.w D [])) b ∧ b < s3.heap.objs.size := fun b hb => by
    obtain ⟨o, e, _⟩ := T.obj _ _ st2 b hb
    have lt : b < s2.heap.objs.size := Heap.lt_size e
    refine ⟨⟨(upd_ne (by rw [hD]; exact Nat.ne_of_lt lt)).trans (f2 b hb).1, (f2 b hb).2⟩, ?_⟩
    rw [h3, Heap.size_push]
    exact Nat.lt_succ_of_lt lt
  have st3 : tn 0 s3.heap := T.keep _ _ _ st2 fun b _ o e => by rw [h3]; exact Heap.get?_push_of_some _ e
  obtain ⟨H3, eH3⟩ : ∃ H3, H3 = upd H2 D (TsO X.prog X.w D []) := ⟨_, rfl⟩
  rw [← eH3] at I3 f3 w0
  have I4 := block_start I3 ok hN f3
  have pg := hg s3 H3 s3.heap.objs.size (cellsFrom (s3.heap.objs.size + 1) scope.names (cloFrom X.env.cells scope.names [])) fp
  have pt := ht s3 H3 s3.heap.objs.size (cellsFrom (s3.heap.objs.size + 1) scope.names (cloFrom X.env.cells scope.names [])) fp
  have pe := he s3 H3 s3.heap.objs.size (cellsFrom (s3.heap.objs.size + 1) scope.names (cloFrom X.env.cells scope.names [])) fp
  obtain ⟨ce, ece⟩ : ∃ ce, ce = compEnvC scope (cellsFrom (s3.heap.objs.size + 1) scope.names (cloFrom X.env.cells scope.names [])) s3.heap.objs.size X.env := ⟨_, rfl⟩
  rw [← ece] at I4 pg pt pe
  have cL : ce.locals = s3.heap.objs.size := by rw [ece]; rfl
  obtain ⟨s4, es4⟩ : ∃ s4 : Shared, s4 = { s3 with heap := pushCells (s3.heap.push { cls := .type "dict", data := .dict #[] }) scope.names } := ⟨_, rfl⟩
  rw [← es4] at I4 ⊢
  have goal' : codeAny (model X.prog X.w) X.A (.compStart (.SetComp elt [⟨tg, iter, ifs, 0⟩] scope pos) 0 (.ref it) (.ref D) ce) (compPost (model X.prog X.w) X.A X.xe none (EP X pins σ Q) (.ref D) ce.locals) s4 := by
    have st4 : tn 0 s4.heap := T.keep _ _ _ st3 fun b _ o e => by rw [es4]; exact pushCells_keeps _ _ _ _ (Heap.get?_push_of_some _ e)
    have n4 : ∀ b ∈ fp, H3 b = none := fun b hb => (f3 b hb).1.1
    have own' : ∀ {σ' : L2.St} {H' : Hp} {s' : Shared}, Inv (X.blk s3 H3 scope ce fp) [] σ' H' s' → (∀ b ∈ fp, H' b = none) → ∀ b ∈ fp, FpOk (X.blk s3 H3 scope ce fp) [] H' b := fun I' n b hb =>
      ⟨n b hb, (I'.ok.exf b hb).1, I'.ok.exfs b hb, .inl hb, fun x c e => (I'.ok.exf b hb).2 x c e, fun p hp => absurd (show p ∈ ([] : List (Addr × Obj)) ++ [] from hp) (by simp)⟩
    have loop : codeAny (model X.prog X.w) X.A (.compLoop (.SetComp elt [⟨tg, iter, ifs, 0⟩] scope pos) 0 (.ref it) (.ref D) ce) (compPost (model X.prog X.w) X.A X.xe none (EP X pins σ Q) (.ref D) ce.locals) s4 := by
      refine PpSet.compLoopS_any (fun n s' => ∃ i H', W i n H' ∧ (∀ b ∈ fp, H' b = none) ∧ tn i s'.heap ∧ Inv (X.blk s3 H3 scope ce fp) [] (wipe σ (own.map (·.2))) H' s') ?_ m0 ⟨0, H3, w0, n4, st4, I4⟩
      rintro n s5 ⟨i, H5, w5, n5, st5, I5⟩
      rcases turn i n H5 w5 with ⟨stop, qq⟩ | ⟨go, Nx, hNx, step⟩
      · refine thnF (T.done (X.blk s3 H3 scope ce fp) rfl rfl rfl hc i [] s5 _ H5 (fun _ _ => False) I5 (own' I5 n5) st5 stop) fun r s6 ⟨hr, I6⟩ => ?_
        subst hr
        have I7 : Inv X pins σ H5 s6 := I3.call' (ch := fp) I6.os I6.base I6.hok I6.bare fun b hb => ⟨(f3 b hb).1.2.2.2.1, (f3 b hb).1.2.1, (f3 b hb).1.2.2.2.2.1, (f3 b hb).1.2.2.2.2.2⟩
        have nC : H5 s3.heap.objs.size = none := cL ▸ I6.free
        obtain ⟨m, hn, _⟩ := I6.loc
        have hn : s6.heap.Ns ce.locals m := hn
        obtain ⟨g0, g1, g3, g4, g5, g6⟩ := I3.fpOk (Nat.le_refl s3.heap.objs.size) nC
        rw [← cL] at g0 g1 g3 g4 g5 g6
        exact ⟨m, hn, fun h'' sb => ⟨.ref D, H5, I7.turned (t' := s6.toks) (fun b o hb e => (sb.2 b hb).trans e) g0 g1 g4 g5 g6, rfl, qq⟩⟩
      · refine thnF (T.item (X.blk s3 H3 scope ce fp) rfl rfl rfl hc i [] s5 _ H5 (fun _ _ => False) I5 (own' I5 n5) st5 go) fun r s6 ⟨u, hr, h6⟩ => ?_
        subst hr
        refine thnF h6 fun _ s7 ⟨x, H7, I7, r7, y7, st7, n7⟩ => ?_
        have I7' := I7.pinned (own' I7 n7) (T.obj _ _ st7)
        refine thnF (pg.run _ s7 _ H7 x u _ I7' r7 (step x H7 y7)) fun _ s8 ⟨σ8, H8, I8, hw8, q8⟩ => thnF (pt.run _ s8 σ8 H8 _ I8 q8) fun b s9 ⟨H9, I9, q9⟩ => ?_
        have fin : ∀ {s' : Shared} {H' : Hp}, Inv (X.blk s3 H3 scope ce fp) ([] ++ pinsAt fp s7.heap) σ8 H' s' → Nx H' → ∃ m, m < n ∧ ∃ i H', W i m H' ∧ (∀ b ∈ fp, H' b = none) ∧ tn i s'.heap ∧ Inv (X.blk s3 H3 scope ce fp) [] (wipe σ (own.map (·.2))) H' s' := fun {s' H'} I' nx => by
          obtain ⟨m', lt, w'⟩ := hNx H' nx
          have pin' : ∀ b ∈ fp, ∀ o, s7.heap.get? b = some o → s'.heap.get? b = some o ∧ H' b = none := fun b hb o e =>
            have z := I'.pin (b, o) (List.mem_append_right _ (List.mem_append_right _ (mem_pinsAt hb e)))
            ⟨z.1, z.2.1⟩
          refine ⟨m', lt, i + 1, H', w', fun b hb => ?_, T.keep _ _ _ st7 fun b hb o e => (pin' b hb o e).1, (I'.unpinned (pins := [])).weak (by rw [← hw8, wipe_length]) fun j v e => ?_⟩
          · obtain ⟨o, e, _⟩ := T.obj _ _ st7 b hb
            exact (pin' b hb o e).2
          · rw [← hw8] at e
            exact (wipe_some e).1
        cases b with
        | false =>
          simp only [Bool.false_eq_true, if_false] at q9 ⊢
          exact fin I9 q9
        | true =>
          simp only [if_true] at q9 ⊢
          refine thnF (pe.run _ s9 σ8 H9 _ I9 q9) fun z s10 ⟨yv, H10, I10, r10, p, k, L, ey, hp, hD10, hT, hk, hf, nx⟩ => ?_
          subst ey
          cases r10
          exact ts_add (X := X.blk s3 H3 scope ce fp) I10 hu hD10 hT hp hk hf fun L' s11 pm I11 => fin I11 (nx L' pm)
    exact PpSet.codeAny_compStart_set loop (T.self X.A 0 _ _ _ st4 loop)
  rw [cL, ece] at goal'
  exact goal'
def rLenTs (P : Program) (w : World) : List V → Hp → VK → Prop := fun xs H Q => ∃ (D : Addr) (L : List (Addr × List Str)), xs = [.ref D] ∧ H D = some (TsO P w D L) ∧ Q (.int L.length) H
theorem cr_lenTs : CallR X (.builtin "len") (rLenTs X.prog X.w) := by
  intro pins s σ H xs us Q I r h
  obtain ⟨D, L, rfl, hD, q⟩ := h
  rw [Vals.ref1 r]
  obtain ⟨es, ep, t, R⟩ : ∃ es ep t, TxS X.prog X.w s.heap D L es ep t := (I.hok D _ hD).1
  obtain ⟨o, g, hex, hd⟩ := R.here
  refine call_len_set g hex hd R.fits ?_ ⟨.int L.length, H, I.tok _, ⟨_, by rw [R.size]⟩, q⟩
  have := R.few
  rw [R.size]
  omega
end
end
section
open L2 PySem PySem.Spec PyProof.Rows
abbrev TxOf (P : Program) (w : World) (h : Heap) (a : Addr) (xs : List Str) : Prop := h.SetOf (PySem.strKind P w) a (fun k => decide (k ∈ xs)) xs.length
abbrev eset (led : Bool) : Obj := { cls := .type "set", dict := none, data := .set #[] 0 (.fresh 0 0 led) }
theorem TxOf.at {P : Program} {w : World} {h h' : Heap} {a : Addr} {xs : List Str} (z : TxOf P w h a xs) (k : ∀ o, h.get? a = some o → h'.get? a = some o) : TxOf P w h' a xs :=
  let ⟨o, es, ep, t, g, r⟩ := z
  ⟨o, es, ep, t, k o g, r⟩
section
variable {P : Program} {w : World} {A : Around} {R : Result → Shared → Prop} {I : Addr} {fp wr : List Addr} {G : Array GenState → Array GenState → Prop} {n : Nat} {Pv : Nat → Value → Prop} {St : Nat → Shared → Prop}
theorem fill_texts (W : WalksS P w A.in1 I fp wr G n Pv St) (S : Addr) (nS : S ∉ fp) (xs : List Str) (hl : xs.length = n) (nd : xs.Nodup) (hb : n + 1 < scanBound) (hv : ∀ i v, Pv i v → ∃ z t, xs[i]? = some z ∧ v = .str z t) :
    ∀ (m i : Nat) (s : Shared), n - i = m → i ≤ n → St i s → TxOf P w s.heap S (xs.take i) → (∀ s', Moved (S :: wr) G s s' → TxOf P w s'.heap S xs → R (.ok (.ret .none)) s') →
      codeAny (model P w) A (.builtin "set.update.loop" ⟨[.ref S, .ref I], []⟩) R s := by
  have nw : S ∉ wr := fun z => nS (W.sub _ z)
  have up : ∀ b ∈ wr, b ∈ S :: wr := fun b hb => .tail _ hb
  intro m
  induction m with
  | zero =>
    intro i s hm hi st z q
    have e : i = n := by omega
    refine codeAny_builtin PyProof.Rows.F.entry_set_update_loop ?_
    rw [Around.under_plainId PyProof.Rows.F.plain_set_update_loop _]
    show wpAny _ A.in1 (pyNext (.ref I) >>= _) _ _ s
    rw [e] at st z
    refine wpAny_bind (W.done s _ _ st fun s' mv => ?_)
    show wpAny _ A.in1 (ret Value.none) _ _ s'
    rw [← hl, List.take_length] at z
    exact wpAny_pure (q s' (mv.mono up) (z.at fun o g => mv.heap S o nw g))
  | succ m ih =>
    intro i s hm hi st z q
    have lt : i < n := by omega
    refine codeAny_builtin PyProof.Rows.F.entry_set_update_loop ?_
    rw [Around.under_plainId PyProof.Rows.F.plain_set_update_loop _]
    show wpAny _ A.in1 (pyNext (.ref I) >>= _) _ _ s
    refine wpAny_bind (W.item i s _ _ lt st fun v s' pv st' mv => ?_)
    obtain ⟨x, tk, hx, rfl⟩ := hv i v pv
    have z' : TxOf P w s'.heap S (xs.take i) := z.at fun o g => mv.heap S o nw g
    have ln : (xs.take i).length = i := by rw [List.length_take]; omega
    have new : x ∉ xs.take i := fun hm => by
      obtain ⟨j, hj, e⟩ := List.getElem_of_mem hm
      rw [List.length_take] at hj
      obtain ⟨hi2, e2⟩ := List.getElem?_eq_some_iff.mp hx
      rw [List.getElem_take] at e
      have := (List.getElem_inj nd).mp (e.trans e2.symm)
      omega
    show wpAny _ A.in1 (holding [Value.str x tk] (setAdd S (.str x tk)) >>= _) _ _ s'
    refine wpAny_bind (wpAny_holding ?_)
    unfold setAdd
    refine wpAny_holding (wpAny_bind ((PySem.strKind P w).pyHash (k := x) (PySem.strKind_is _ _ _ _) ?_))
    refine wpAny_setAddHashed_of (knd := PySem.strKind P w) (s := { s' with toks := s'.toks + 1 }) (PySem.strKind_is _ _ _ _) rfl z' (by omega) fun h' sb z2 => ?_
    have z3 : TxOf P w h' S (xs.take (i + 1)) := by
      have tk1 : xs.take (i + 1) = xs.take i ++ [x] := by rw [List.take_succ, hx]; rfl
      refine SetOf_congr z2 (fun k => ?_) (by rw [if_neg (by simpa using new), ln, List.length_take]; omega)
      rw [tk1]
      by_cases e : k = x <;> simp [e]
    refine wpAny_pure ⟨plainId_quiet PyProof.Rows.F.plain_set_update_loop _, ih (i + 1) _ (by omega) lt (W.frame _ s' _ _ st' (Nat.le_succ _) fun b hb o e => (sb.2 b fun h => nS (h ▸ hb)).trans e) z3 fun s2 mv2 z4 => q s2 (Moved.trans W.gtrans ((mv.mono up).then_heap (Nat.le_succ _) fun b o hb e => (sb.2 b fun h => hb (h ▸ .head _)).trans e) mv2) z4⟩
end
section
variable {P : Program} {w : World} {A : Around} {E : Value → Shared → Prop} {s : Shared}
theorem call_set_texts {l : Addr} {items : Array Value} {xs : List Str} {Q : Value → Shared → Prop} (hh : A.handled = none) (hl : s.heap.IsTuple l items) (hi : StrsAre items.toList xs) (nd : xs.Nodup) (hb : xs.length + 1 < scanBound)
    (q : ∀ (h' : Heap) (tk : Nat), TxOf P w h' s.heap.objs.size xs → (∀ b o, b < s.heap.objs.size → s.heap.get? b = some o → h'.get? b = some o) → Q (.ref s.heap.objs.size) { s with heap := h', toks := tk }) :
    wpAny (model P w) A (call (.type "set") [.ref l]) Q E s := by
  have c1 := PySem.F.called_set.made
  have c2 := PySem.F.called_set.sub
  have c3 := PySem.F.called_set.notType
  have c4 := PySem.F.called_set.canCreate
  have c5 := PySem.F.typeCall_set_1 (.ref l)
  obtain ⟨_, _, c6⟩ := PySem.F.called_set.mro
  refine wpAny_call (codeAny_of_tree ?_)
  show wpAny _ _ (callAny (.type "set") _) _ _ _
  refine wpAny_pure ⟨Code.quiet_builtin _ (by decide +kernel), codeAny_builtin PySem.F.entry_type_call ?_⟩
  rw [Around.under_plain (weight_type_call_type "set" [.ref l] []) rfl]
  repeat (any_goals (first | assumption | wp_step))
  refine codeAny_mono (code_set_new_1 (.ref l) (E := E) (Q₁ := fun v z => ∃ led : Bool, v = .ref s.heap.objs.size ∧ z = { s with heap := s.heap.push (eset led) }) fun led => ⟨led, rfl, rfl⟩) fun r z hr => ?_
  cases r with
  | error e => exact hr
  | ok fl =>
   cases fl with
   | ret obj =>
    obtain ⟨led, rfl, rfl⟩ := hr
    have g0 : (s.heap.push (eset led)).get? s.heap.objs.size = some (eset led) := Heap.get?_push_size _ rfl
    have ty : Shared.TypeIs { s with heap := s.heap.push (eset led) } (.ref s.heap.objs.size) "set" := ⟨_, g0, rfl⟩
    have d1 := PySem.F.called_set.init.lookup
    have d2 := PySem.F.called_set.init.bind (.ref s.heap.objs.size)
    repeat (any_goals (first | assumption | wp_step))
    refine codeAny_mono (codeAny_call_builtin (R := wants (fun v z => v = .none ∧ ∃ h' tk, z = { s with heap := h', toks := tk } ∧ TxOf P w h' s.heap.objs.size xs ∧ ∀ b o, b < s.heap.objs.size → s.heap.get? b = some o → h'.get? b = some o) E) PySem.F.called_set.init.plain PySem.F.entry_set_init (check_set_init_1 ty ?_)) fun r z hr => ?_
    · obtain ⟨⟨cl, di, da, sl⟩, hol, hcl, nl, hdl⟩ := hl
      simp only at hcl hdl
      subst hcl hdl
      have hol' : (s.heap.push (eset led)).get? l = some { cls := .type "tuple", dict := di, data := .seq items nl, slots := sl } := Heap.get?_push_of_some _ hol
      have f1 := PySem.F.sub_tuple_set
      have f2 := PySem.F.sub_tuple_frozenset
      have f3 : (Value.type "tuple" == Value.type "dict") = false := by decide
      have hl1 : (s.heap.push (eset led)).IsTuple l items := ⟨_, hol', rfl, nl, rfl⟩
      unfold Builtin.«set.__init__» noKeywords Builtin.Frozenset.updateFrom
      generalize hPI : pyIter = PI
      wp_walk
      subst hPI
      refine wpAny_pyIter_tuple hl1 (wpAny_bind (wpAny_runValue ?_))
      have lt : l < s.heap.objs.size := Heap.lt_size hol
      have sz : (s.heap.push (eset led)).objs.size = s.heap.objs.size + 1 := Heap.size_push ..
      have ne : l ≠ (s.heap.push (eset led)).objs.size := by rw [sz]; exact Nat.ne_of_lt (Nat.lt_succ_of_lt lt)
      have nS : s.heap.objs.size ∉ [(s.heap.push (eset led)).objs.size, l] := by
        rw [sz]
        simp only [List.mem_cons, List.not_mem_nil, or_false, not_or]
        exact ⟨Nat.ne_of_lt (Nat.lt_succ_self _), Nat.ne_of_gt lt⟩
      have len : xs.length = items.size := by rw [← StrsAre.len_eq hi, Array.length_toList]
      have at_ : ∀ (i : Nat) (v : Value), items[i]? = some v → ∃ z t, xs[i]? = some z ∧ v = .str z t := fun i v hv => by
        obtain ⟨t, e⟩ := SS.strs_at hi i v (by rw [Array.getElem?_toList]; exact hv)
        have hlt : i < xs.length := by
          rw [len]
          exact (Array.getElem?_eq_some_iff.mp hv).1
        refine ⟨xs[i], t, List.getElem?_eq_getElem hlt, ?_⟩
        rw [e, List.getD_eq_getElem?_getD, List.getElem?_eq_getElem hlt]
        rfl
      refine fill_texts ((Walks.tuple (by simp [hh]) _ l ne items).toS) s.heap.objs.size nS xs len nd (by rw [← len]; exact hb) at_ (items.size - 0) 0 _ (by omega) (Nat.zero_le _) ⟨⟨_, Heap.get?_push_size _ rfl, rfl, rfl⟩, (hl1.push _)⟩ ?_ fun s' mv z => ?_
      · exact SetOf_congr ((setObjOf_fresh (knd := PySem.strKind P w) led).setOf (Heap.get?_push_of_some _ g0) (by unfold scanBound; omega)) (fun _ => by simp) rfl
      · obtain ⟨h', g', d', tk', os'⟩ := s'
        obtain rfl : g' = s.gens := mv.gens
        obtain rfl : d' = s.drawn := mv.drawn
        obtain rfl : os' = s.os := mv.os
        show wpAny _ _ _ _ _ _
        refine wpAny_pure ?_
        show wpAny _ _ (ret Value.none) _ _ _
        refine wpAny_pure ⟨rfl, h', tk', rfl, z, fun b o hb e => mv.heap b o ?_ (Heap.get?_push_of_some _ (Heap.get?_push_of_some _ e))⟩
        rw [sz]
        simp only [List.mem_cons, List.not_mem_nil, or_false, not_or]
        exact ⟨Nat.ne_of_lt hb, Nat.ne_of_lt (Nat.lt_succ_of_lt hb)⟩
    · cases r with
      | error e => exact hr
      | ok fl =>
       cases fl with
       | ret v =>
        obtain ⟨rfl, h', tk, rfl, z, k⟩ := hr
        repeat (any_goals (first | assumption | wp_step))
        exact q _ _ z k
       | _ => exact hr.elim
   | _ => exact hr.elim
end
section
variable {X : Cx}
def TxsO (P : Program) (w : World) (a : Addr) (xs : List Str) : HO := .ext fun h => TxOf P w h a xs
def rSetTexts (K : PySem.W.Frag) (P : Program) (w : World) : List V → Hp → VK → Prop := fun vs H Q => ∃ (l : Addr) (xs : List Str), vs = [.ref l] ∧ SqT K H l (xs.map V.str) ∧ xs.Nodup ∧ xs.length < 60 ∧ ∀ D, H D = none → Q (.ref D) (upd H D (TxsO P w D xs))
theorem cr_setTexts (hc : X.calm = true) : CallR X (.type "set") (rSetTexts X.K X.prog X.w) := by
  intro pins s σ H vs us Q I r h
  obtain ⟨l, xs, rfl, hl, nd, lt, q⟩ := h
  rw [Vals.ref1 r]
  obtain ⟨its, rv, pl, hz⟩ := I.tuple hl
  refine call_set_texts (I.ok.hd hc) pl (by simpa using strsAre_of rv) nd (by unfold scanBound; omega) fun h' tk z k => ?_
  refine ⟨.ref s.heap.objs.size, upd H s.heap.objs.size (TxsO X.prog X.w s.heap.objs.size xs), I.laid (t' := tk) (fun b o e => k b o (Heap.lt_size e) e) (Nat.le_refl _) ⟨z, ?_, fun h1 h2 z k => TxOf.at z k⟩, rfl, q _ (I.hok.fresh (Nat.le_refl _))⟩
  obtain ⟨o, _, _, _, g, _⟩ := z
  exact ⟨o, g⟩
def rLenTexts (P : Program) (w : World) : List V → Hp → VK → Prop := fun vs H Q => ∃ (D : Addr) (xs : List Str), vs = [.ref D] ∧ H D = some (TxsO P w D xs) ∧ Q (.int xs.length) H
theorem cr_lenTexts : CallR X (.builtin "len") (rLenTexts X.prog X.w) := by
  intro pins s σ H vs us Q I r h
  obtain ⟨D, xs, rfl, hD, q⟩ := h
  rw [Vals.ref1 r]
  obtain ⟨o, es, ep, t, ho, hex, hd, _, _, hlt, hf, hn⟩ : TxOf X.prog X.w s.heap D xs := (I.hok D _ hD).1
  refine call_len_set ho hex hd hf ?_ ⟨.int xs.length, H, I.tok _, ⟨_, by rw [hn]⟩, q⟩
  unfold scanBound at hlt
  omega
end
end
section
open L2 PySem PySem.Spec PyProof.Rows
section
variable {P : Program} {w : World} {A : Around} {E : Value → Shared → Prop} {s : Shared}
theorem sorted_texts {l : Addr} {items : Array Value} {ss : List Str} {Q : Value → Shared → Prop} (hl : s.heap.IsTuple l items) (hS : StrsAre items.toList ss) (hL : items.size ≤ sizeLine)
    (q : ∀ (h' : Heap) (a : Addr) (out : Array Value) (e : Nat) (ss' : List Str), (∀ b o, s.heap.get? b = some o → h'.get? b = some o) → s.heap.get? a = none → h'.get? a = some (seqObj "list" out e) → StrsAre out.toList ss' → ss'.Perm ss → sortedS ss' = true → Q (.ref a) { s with heap := h' }) :
    wpAny (model P w) A (call (.builtin "sorted") [.ref l]) Q E s := by
  obtain ⟨o, ho, hc, n, hd⟩ := hl
  refine Calls.call_function_entry kind_sorted plain_sorted entry_sorted (args_sorted1 _) ?_
  unfold Builtin.«sorted»
  refine wpAny_bind (m := checkCount "sorted" 1 1 _) (wpAny_pure (wpAny_bind (wpAny_collect_seq l (.inr rfl) ho hc hd (fun h1 k1 => wpAny_bind (wpAny_newList ?_ ?_)) hL)))
  · have g0 : (h1.push (seqObj "list" items.toList.toArray 0)).get? h1.objs.size = some (seqObj "list" items.toList.toArray 0) := Heap.get?_push_size _ rfl
    show wpAny _ _ _ _ _ { s with heap := h1.push (seqObj "list" items.toList.toArray 0) }
    refine wpAny_bind (wpAny_holding (wpAny_call_entry slot_list_sort ⟨_, g0, rfl⟩ entry_list_sort (list_sort_treeKAny strKind_oneLt g0 hS.keysOf (fun v₁ v₂ rest e => keyKind_strs (by rw [← e]; exact hS)) (by rw [Array.length_toList]; exact hL) fun st a1 a2 => ⟨_, rfl, ?_⟩) (args_list_sort _)))
    refine wpAny_pure ?_
    obtain ⟨ss', b1, b2, b3⟩ := sorted_out_str hS a1 a2
    obtain ⟨e, ge⟩ := sortedHeap_at (vs := items.toList) (out := (arrOf st).map (·.2)) g0
    refine ⟨_, rfl, q _ h1.objs.size _ e ss' (fun b o' z => ?_) ?_ ge b1 b2 b3⟩
    · have lt : b < h1.objs.size := Heap.lt_size (k1 b o' z)
      rw [sortedHeap_old (Nat.ne_of_lt lt) (by rw [size_push']; exact Nat.lt_succ_of_lt lt)]
      exact Heap.get?_push_of_some _ (k1 b o' z)
    · cases z : s.heap.get? h1.objs.size with
      | none => rfl
      | some o' => exact absurd (Heap.lt_size (k1 _ o' z)) (Nat.lt_irrefl _)
  · rw [Array.length_toList]
    exact hL
end
section
variable {X : Cx}
def rSortedTx (K : PySem.W.Frag) : List V → Hp → VK → Prop := fun vs H Q => ∃ (a : Addr) (xs : List Str), vs = [.ref a] ∧ SqT K H a (xs.map V.str) ∧ ∀ (ys : List Str) (p : Addr), ys.Perm xs → sortedS ys = true → H p = none → Q (.ref p) (upd H p (.lst (ys.map V.str)))
theorem cr_sortedTx : CallR X (.builtin "sorted") (rSortedTx X.K) := by
  intro pins s σ H vs us Q I r h
  obtain ⟨a, xs, rfl, hs, q⟩ := h
  obtain ⟨its, rv, pl, hz⟩ := I.tuple hs
  rw [Vals.ref1 r]
  have hz' : its.toArray.size ≤ sizeLine := by
    rw [List.size_toArray, ← rv.length]
    exact hz
  refine sorted_texts (ss := xs) pl (by simpa using rv.strs) hz' fun h' p out e ys k n0 g b1 b2 b3 => ?_
  have hn : H p = none := I.hok.gone n0
  refine ⟨.ref p, upd H p (.lst (ys.map V.str)), I.laidN (t' := s.toks) k n0 hn ⟨?_, out.toList, e, vals_of_strs b1, ?_⟩, rfl, q ys p b2 b3 hn⟩
  · rw [List.length_map, b2.length_eq, ← List.length_map (f := V.str)]
    exact hz
  · rw [g]
end
end
section
open L2 PySem PySem.Spec PyProof.Rows
theorem ps_dead {X : Cx} {st : Stmt} : PS X st (fun _ _ _ => False) := ⟨fun pins s σ H D I h => h.elim⟩
section
variable {X : Cx} {K : PySem.W.Frag}
theorem k_sortedTx (hK : X.K = K := by rfl) : CallR X (.builtin "sorted") (rSortedTx K) := by subst hK; exact cr_sortedTx
def rTIndex (K : PySem.W.Frag) : V → List V → Hp → VK → Prop := fun x xs H Q => ∃ p, ∃ ys : List Str, ∃ z j, x = .ref p ∧ xs = [.str z] ∧ SqT K H p (ys.map V.str) ∧ ys[j]? = some z ∧ (∀ m, m < j → ys[m]? ≠ some z) ∧ Q (.int (j : Nat)) H
theorem k_tindex (hK : X.K = K := by rfl) : MtR X "tuple.index" (rTIndex K) := by subst hK; exact mt_tup_index
end
theorem idx_first {ys : List Str} {z : Str} (h : z ∈ ys) : ys[ys.idxOf z]? = some z ∧ ∀ m, m < ys.idxOf z → ys[m]? ≠ some z := by
  have lt := List.idxOf_lt_length_iff.mpr h
  refine ⟨by rw [List.getElem?_eq_getElem lt, List.getElem_idxOf], fun m hm e => ?_⟩
  obtain ⟨hm2, e2⟩ := List.getElem?_eq_some_iff.mp e
  have := List.not_of_lt_findIdx (p := (· == z)) (xs := ys) hm
  rw [e2] at this
  simp at this
section
variable {σ : L2.St} {H : Hp} {Q : VK} {K : PySem.W.Frag}
theorem i_tix {p : Addr} {ys : List Str} {z : Str} (e : SqT K H p (ys.map V.str)) (h : z ∈ ys) (q : Q (.int ((ys.idxOf z : Nat) : Int)) H) : rTIndex K (.ref p) [.str z] H Q :=
  ⟨p, ys, z, ys.idxOf z, rfl, rfl, e, (idx_first h).1, (idx_first h).2, q⟩
end
end
section
open L2 PySem PySem.Spec PyProof.Rows
def obOk (ob : Obj) : Prop := ob.cls = .type "tuple" ∧ ob.dict = none
def FT (H : Hp) (p : Addr) (xs : List V) : Prop := ∃ ob, H p = some (.frz ob (.tup xs)) ∧ obOk ob
theorem FT.sq {K : PySem.W.Frag} {H : Hp} {p : Addr} {xs : List V} (h : FT H p xs) : SqT K H p xs := let ⟨ob, e, _⟩ := h; .inl (.inr ⟨ob, e⟩)
theorem FT.new {H : Hp} {p : Addr} {xs : List V} {ob : Obj} (h : obOk ob) : FT (upd H p (.frz ob (.tup xs))) p xs := ⟨ob, upd_same, h⟩
theorem FT.same {H H' : Hp} {p : Addr} {xs : List V} (h : FT H p xs) (k : Same H H') : FT H' p xs := let ⟨ob, e, o⟩ := h; ⟨ob, k _ _ e, o⟩
theorem FT.ch {H H' : Hp} {a p : Addr} {c : Int} {xs : List V} (h : FT H p xs) (k : Ch a H H') (f : Fd H a c) : FT H' p xs := by
  obtain ⟨ob, e, o⟩ := h
  obtain ⟨x, y, n, e2, _⟩ := f
  exact ⟨ob, k p _ (fun z => by rw [z, e2] at e; cases e) e, o⟩
section
variable {X : Cx}
theorem lay_tup {pins : List (Addr × Obj)} {σ : L2.St} {H : Hp} {s : Shared} {xs : List V} {us : List Value} (I : Inv X pins σ H s) (r : Vals xs us) (z : xs.length ≤ sizeLine) :
    ∃ (p : Addr) (ob : Obj), p = s.heap.objs.size ∧ obOk ob ∧ H p = none ∧ Inv X pins σ (upd H p (.frz ob (.tup xs))) { s with heap := s.heap.push { cls := .type "tuple", data := .seq us.toArray } } :=
  ⟨s.heap.objs.size, { cls := .type "tuple", data := .seq us.toArray }, rfl, ⟨rfl, rfl⟩, I.hok.fresh (Nat.le_refl _), I.laid (t' := s.toks) (fun b u e => Heap.get?_push_of_some _ e) (Nat.le_refl _)
    ⟨Heap.get?_push_size _ rfl, z, us, r, ⟨_, Heap.get?_push_size _ rfl, rfl, _, rfl⟩⟩⟩
def tTupF (t : TA) : TE := fun σ H Q => t σ H fun xs H1 => xs.length ≤ sizeLine ∧ ∀ p ob, H1 p = none → obOk ob → Q (.ref p) (upd H1 p (.frz ob (.tup xs)))
theorem pe_tupF {es : List Expr} {t : TA} {k : Nat} {pos : Pos} (h : PA X es t) : PE X (.Tuple es k pos) (tTupF t) := by
  refine ⟨fun pins s σ H Q I hq => ?_⟩
  refine wpAny_Tuple_spliced (thn (h.run pos pins s σ H _ I hq) fun us s1 ⟨xs, H1, I1, r, z, q⟩ => ⟨by rw [← r.length]; exact z, ?_⟩)
  obtain ⟨p, ob, rfl, ok, n, J⟩ := lay_tup I1 r z
  exact ⟨.ref _, _, J, rfl, q _ ob n ok⟩
def rTupleF (K : PySem.W.Frag) : List V → Hp → VK → Prop := fun xs H Q => ∃ p ys, xs = [.ref p] ∧ SqL K H p ys ∧ ∀ l ob, H l = none → obOk ob → Q (.ref l) (upd H l (.frz ob (.tup ys)))
theorem cr_tupleF : CallR X (.type "tuple") (rTupleF X.K) := by
  intro pins s σ H xs us Q I r h
  obtain ⟨p, ys, rfl, hq, q⟩ := h
  rw [Vals.ref1 r]
  obtain ⟨its, r', pl, hz⟩ := I.list hq
  have hl := r'.length
  refine call_tuple_list pl.isList (fun h' kp => ?_) (by simp only [List.size_toArray] <;> omega)
  obtain ⟨p, ob, rfl, ok, n, J⟩ := lay_tup (I.kept (t' := s.toks) kp : Inv X pins σ H { s with heap := h' }) r' hz
  exact ⟨.ref _, _, J, rfl, q _ ob n ok⟩
def rSlF (K : PySem.W.Frag) : V → Option Int → Option Int → Hp → VK → Prop := fun x lo hi H Q => ∃ a xs, x = .ref a ∧ SqT K H a xs ∧
  (HT.sIx xs.length 0 lo = 0 ∧ HT.sIx xs.length xs.length hi = xs.length → Q (.ref a) H) ∧ (¬ (HT.sIx xs.length 0 lo = 0 ∧ HT.sIx xs.length xs.length hi = xs.length) → ∀ p ob, H p = none → obOk ob → Q (.ref p) (upd H p (.frz ob (.tup (cutV xs lo hi)))))
theorem sl_tupF : SlR X (rSlF X.K) := by
  intro pins s σ H x v vl vu lo hi sl Q I rx hs pl pu h
  obtain ⟨a, xs, rfl, hx, q1, q2⟩ := h
  cases rx
  obtain ⟨its, r, ht, hz⟩ := I.tuple hx
  have hl : its.toArray.size = xs.length := by rw [List.size_toArray]; exact r.length.symm
  refine ⟨"tuple", _, PyProof.Rows.slot_tuple_getitem.lookup, ht.typeIs, ?_⟩
  by_cases hw : HT.sIx xs.length 0 lo = 0 ∧ HT.sIx xs.length xs.length hi = xs.length
  · exact getItem_tuple_whole ht hs pl pu (by rw [hl]; exact hw) ⟨.ref a, H, I, rfl, q1 hw⟩
  · refine HT.getItem_tuple_cut ht hs pl pu (by rw [hl]; exact hw) ?_ (by rw [hl]; exact hz)
    rw [hl]
    obtain ⟨p, ob, rfl, ok, n, J⟩ := lay_tup I ((r.drop (HT.sIx xs.length 0 lo)).take (HT.sIx xs.length xs.length hi - HT.sIx xs.length 0 lo)) (Nat.le_trans (cutV_length xs lo hi) hz)
    exact ⟨.ref _, _, J, rfl, q2 hw _ ob n ok⟩
def rCatF (K : PySem.W.Frag) : R2 := fun x y H Q => ∃ a b xs ys, x = .ref a ∧ y = .ref b ∧ SqT K H a xs ∧ SqT K H b ys ∧ xs.length + ys.length ≤ sizeLine ∧
  (xs = [] → Q (.ref b) H) ∧ (xs ≠ [] → ys = [] → Q (.ref a) H) ∧ (xs ≠ [] → ys ≠ [] → ∀ p ob, H p = none → obOk ob → Q (.ref p) (upd H p (.frz ob (.tup (xs ++ ys)))))
theorem op_catF : OpR X (binaryOp .Add) (rCatF X.K) := by
  intro pins s σ H x y v u Q I rx ry h
  obtain ⟨a, b, xs, ys, rfl, rfl, ha, hb, hz, q0, q1, q2⟩ := h
  cases rx
  cases ry
  obtain ⟨its, r1, p1, _⟩ := I.tuple ha
  obtain ⟨its2, r2, p2, _⟩ := I.tuple hb
  by_cases hx : xs = []
  · subst hx
    cases r1
    exact cat_tup0 p1 p2 ⟨.ref b, H, I, rfl, q0 rfl⟩
  · refine HT.cat_tup p1 p2 (fun z => hx (r1.nil_iff.mp z)) (fun z => ⟨.ref a, H, I, rfl, q1 hx (r2.nil_iff.mp z)⟩) (fun z => ?_) (by rw [← r1.length, ← r2.length]; exact hz)
    obtain ⟨p, ob, rfl, ok, n, J⟩ := lay_tup I (r1.append r2) (by rw [List.length_append]; exact hz)
    exact ⟨.ref _, _, J, rfl, q2 hx (fun w => z (r2.nil_iff.mpr w)) _ ob n ok⟩
end
section
variable {P : Program} {w : World} {A : Around} {E : Value → Shared → Prop} {s : Shared}
theorem applied_back {sl : Addr} {c : Value} {n : Nat} {Q : Int × Int × Nat → Shared → Prop} (hs : s.heap.IsSliceOf sl .none .none c) (pc : IsPart c (some (-1))) (q : Q ((n : Int) - 1, -1, n) s) : wpAny (model P w) A (Builtin.Slice.sliceApplied (.ref sl) (pure (n : Int))) Q E s := by
  obtain ⟨os, hos, hcs, hds⟩ := id hs
  unfold Builtin.Slice.sliceApplied Builtin.Slice.sliceFields
  refine wpAny_bind (wpAny_bind (wpAny_field hos hds (x := .none) rfl (wpAny_bind (wpAny_field hos hds (x := .none) rfl (wpAny_bind (wpAny_field hos hds (x := c) rfl (wpAny_pure ?_)))))))
  refine wpAny_bind (HT.slicePart_ pc ?_)
  show wpAny _ _ (if ((-1 : Int) == 0) = true then _ else _) _ _ s
  rw [if_neg (by decide)]
  refine wpAny_bind (HT.slicePart_ .none (wpAny_bind (HT.slicePart_ .none (wpAny_bind (wpAny_pure ?_)))))
  have e1 : Builtin.Slice.sliceAdjust none none (-1) (n : Int) = ((n : Int) - 1, -1) := by
    unfold Builtin.Slice.sliceAdjust
    simp
  have e2 : Builtin.Slice.slicePlaces ((n : Int) - 1) (-1) (-1) = n := by
    unfold Builtin.Slice.slicePlaces
    have h1 : ¬ ((-1 : Int) > 0) := by decide
    simp only [h1, if_false]
    by_cases h : (n : Int) - 1 > -1
    · rw [if_pos h, show (- -1 : Int) = 1 from by decide, Int.ediv_one]
      omega
    · rw [if_neg h]
      omega
  show wpAny _ _ (match Builtin.Slice.sliceAdjust none none (-1) (n : Int) with | (lo, hi) => pure (lo, (-1 : Int), Builtin.Slice.slicePlaces lo hi (-1))) _ _ s
  rw [e1]
  show wpAny _ _ (pure ((n : Int) - 1, (-1 : Int), Builtin.Slice.slicePlaces ((n : Int) - 1) (-1) (-1))) _ _ s
  rw [e2]
  exact wpAny_pure q
theorem back_pick (xs : Array Value) : ((List.range xs.size).filterMap fun (k : Nat) => xs[(((xs.size : Int) - 1) + (k : Int) * -1).toNat]?) = xs.toList.reverse := by
  rw [show (fun (k : Nat) => xs[(((xs.size : Int) - 1) + (k : Int) * -1).toNat]?) = fun k => xs[xs.size - 1 - k]? from funext fun k => by
    rw [show (((xs.size : Int) - 1) + (k : Int) * -1).toNat = xs.size - 1 - k from by omega]]
  have h := PySem.W.krv_all xs
  have e : (List.range xs.size).filterMap (fun k => xs[xs.size - 1 - k]?) = ((List.range xs.size).map fun k => xs.size - 1 - k).filterMap (xs[·]?) := by
    rw [List.filterMap_map]
    rfl
  rw [e, PySem.W.krv_range, List.filterMap_reverse, h]
theorem getItem_back {t sl : Addr} {items : Array Value} {c : Value} {Q : Value → Shared → Prop} (ht : IsTup s.heap t items) (hs : s.heap.IsSliceOf sl .none .none c) (pc : IsPart c (some (-1)))
    (q : Q (.ref s.heap.objs.size) { s with heap := s.heap.push { cls := .type "tuple", data := .seq items.toList.reverse.toArray } }) (hz : items.size ≤ sizeLine) : wpAny (model P w) A (getItem (.ref t) (.ref sl)) Q E s := by
  obtain ⟨os, hos, hcs, _⟩ := id hs
  have ty : s.TypeIs (.ref sl) "slice" := ⟨os, hos, hcs⟩
  unfold getItem
  try with_reducible refine wpAny_holding ?_
  first | refine wpAny_bind (wpAny_pure ?_) | skip
  refine wpAny_bind (wpAny_sequenceKey ht.typeIs (by decide) ?_)
  refine wpAny_bind (wpAny_callSpecial?_slot (name := Str.ofString "__getitem__") ht.typeIs PyProof.Rows.slot_tuple_getitem (wpAny_call_entry PyProof.Rows.slot_tuple_getitem ht.typeIs entry_tuple_getitem ?_ (args_tuple_getitem _ _)))
  show wpAny _ _ (Builtin.Tuple.tupleItemsOf (.ref t) >>= _) _ _ s
  refine wpAny_bind (tupleItemsOf_ ht (wpAny_bind (wpAny_typeOf ty ?_)))
  rw [if_pos (by decide)]
  refine wpAny_bind (applied_back hs pc ?_)
  have no : ¬ ((((items.size : Int) - 1) == 0 && (-1 : Int) == 1 && items.size == items.size) = true) := by
    simp
  show wpAny _ _ (if (((items.size : Int) - 1) == 0 && (-1 : Int) == 1 && items.size == items.size) = true then _ else _) _ _ s
  rw [if_neg no]
  have fit : sizeOk (.seq items.toList.reverse.toArray) := by
    show items.toList.reverse.toArray.size ≤ sizeLine
    rw [List.size_toArray, List.length_reverse, Array.length_toList]
    exact hz
  rw [back_pick]
  first
    | exact wpAny_bind (m := Builtin.Tuple.tupleExact _) (wpAny_newObj_type (wpAny_pure ⟨_, rfl, wpAny_pure q⟩) fit)
    | exact wpAny_bind (m := Builtin.Tuple.tupleExact _) (wpAny_newObj_type (wpAny_bind (wpAny_pure (wpAny_pure ⟨_, rfl, wpAny_pure q⟩))) fit)
    | exact wpAny_bind (wpAny_bind (m := Builtin.Tuple.tupleExact _) (wpAny_newObj_type (wpAny_pure (wpAny_pure ⟨_, rfl, wpAny_pure q⟩)) fit))
    | exact wpAny_bind (wpAny_bind (m := Builtin.Tuple.tupleExact _) (wpAny_newObj_type (wpAny_pure ⟨_, rfl, wpAny_pure q⟩) fit))
end
section
variable {X : Cx} {K : PySem.W.Frag}
def tRevT (K : PySem.W.Frag) (te : TE) : TE := fun σ H Q => te σ H fun x H1 => ∃ a xs, x = .ref a ∧ SqT K H1 a xs ∧ ∀ p ob, H1 p = none → obOk ob → Q (.ref p) (upd H1 p (.frz ob (.tup xs.reverse)))
theorem pe_revT {e : Expr} {te : TE} {k : Nat} {p1 p2 p3 pos : Pos} (he : PE X e te) (hK : X.K = K := by rfl) : PE X (.Subscript e (.Slice none none (some (.UnaryOp .USub (.Constant (.int 1) k p1) p2)) p3) pos) (tRevT K te) := by
  subst hK
  refine ⟨fun pins s σ H Q I h => ?_⟩
  refine Subscript_ (thn (he.run pins s σ H _ I h) fun v s1 ⟨x, H1, I1, r1, a, xs, ex, hx, q⟩ => ?_)
  subst ex
  cases r1
  have st : PO X (some (.UnaryOp .USub (.Constant (.int 1) k p1) p2)) (tPart (tUn (rU fun i => .int (-i)) (tC (.int 1)))) := po_some (pe_un un_neg pe_int)
  refine wpAny_Slice (thn (po_none.run pins s1 σ H1 (fun o H2 => o = none ∧ H2 = H1) I1 ⟨rfl, rfl⟩) fun vl s2 ⟨l, H2, I2, pl, el, e2⟩ => ?_)
  subst el e2
  refine thn (po_none.run pins s2 σ H2 (fun o H3 => o = none ∧ H3 = H2) I2 ⟨rfl, rfl⟩) fun vu s3 ⟨u, H3, I3, pu, eu, e3⟩ => ?_
  subst eu e3
  refine thn (st.run pins s3 σ H3 (fun o H4 => o = some (-1) ∧ H4 = H3) I3 ⟨1, rfl, -1, rfl, rfl, rfl⟩) fun vs s4 ⟨o, H4, I4, ps, eo, e4⟩ => ?_
  subst eo e4
  cases pl
  cases pu
  have I5 : Inv X pins σ H4 { s4 with heap := s4.heap.push { cls := .type "slice", data := .fields #[.none, .none, vs] } } := I4.kept (t' := s4.toks) fun b ob q => Heap.get?_push_of_some _ q
  obtain ⟨its, r, ht, hz⟩ := I5.tuple hx
  have hl := r.length
  show wpAny (model X.prog X.w) X.A (subscriptTail e (.Slice none none (some (.UnaryOp .USub (.Constant (.int 1) k p1) p2)) p3) (.ref a) (.ref s4.heap.objs.size)) (EP X pins σ Q) X.xe { s4 with heap := s4.heap.push { cls := .type "slice", data := .fields #[.none, .none, vs] } }
  refine tail_any (ops := [.ref a, .ref s4.heap.objs.size]) (T := "tuple") ht.typeIs PyProof.Rows.slot_tuple_getitem.lookup ?_ (by with_unfolding_all rfl)
  refine getItem_back ht (Heap.IsSliceOf.new _ .none .none vs) ps ?_ (by rw [List.size_toArray]; omega)
  obtain ⟨p, ob, rfl, ok, n, J⟩ := lay_tup I5 (xs := xs.reverse) (us := its.toArray.toList.reverse) (by simpa using r.reverse) (by rw [List.length_reverse]; exact hz)
  exact ⟨.ref _, _, J, rfl, q _ ob n ok⟩
theorem k_tupleF (hK : X.K = K := by rfl) : CallR X (.type "tuple") (rTupleF K) := by subst hK; exact cr_tupleF
theorem ksl_tupF (hK : X.K = K := by rfl) : SlR X (rSlF K) := by subst hK; exact sl_tupF
theorem k_catF (hK : X.K = K := by rfl) : OpR X (binaryOp .Add) (rCatF K) := by subst hK; exact op_catF
def tBMF (r : V → List V → Hp → VK → Prop) (to : TE) (t : TA) : TE := fun σ H Q => to σ H fun x H1 => (∃ p xs, x = .ref p ∧ FT H1 p xs) ∧ t σ H1 fun vs H2 => r x vs H2 Q
variable {o e : Expr} {es : List Expr} {to : TE} {t : TA} {name : Str} {apos cpos : Pos} {id : String} {r : V → List V → Hp → VK → Prop}
theorem pe_bmF (pa : PlainAttrs "tuple") (slot : Slot "tuple" name id) (hty : typeOf (.builtin id) = pure (.type "method_descriptor")) (hm : MtR X id r) (ho : PE X o to) (ha : PA X (e :: es) t)
    (hbase : attributeBase o name X.env (eval o X.env) = eval o X.env := by rfl)
    (hfew : ((backTo cpos (starEach (e :: es) X.env)).all (fun x => !x.1) && (backToKw cpos (keywordEach [] X.env)).all (fun x => x.1.isSome)
      && decide ((e :: es).length + ([] : List Keyword).length + (if ([] : List Keyword).isEmpty then 0 else 1) < 30)) = true := by rfl)
    (hline : (apos.endLine == cpos.line) = true := by rfl) (hs : starEach (e :: es) X.env = (false, eval e X.env) :: starEach es X.env := by rfl) (hplain : (backTo cpos (starEach es X.env)).any (·.1) = false := by rfl) :
    PE X (.Call (.Attribute o name apos) (e :: es) [] cpos) (tBMF r to t) := by
  refine ⟨fun pins s σ H Q I h => ?_⟩
  refine wpAny_Call_method_late hbase hfew hline rfl (thn (ho.run pins s σ H _ I h) fun v s1 ⟨x, H1, I1, r1, ⟨p, xs, ex, ob, hp, oc, od⟩, q1⟩ => ?_)
  subst ex
  obtain rfl : v = Value.ref p := r1
  have g : s1.heap.get? p = some ob := (I1.hok p _ hp).1
  refine ⟨"tuple", id, pa, slot, hty, ⟨ob, g, oc⟩, fun a z => ?_, ?_⟩
  · injection z with z
    subst z
    exact ⟨ob, g, od⟩
  have hA := ha.run cpos pins s1 σ H1 _ I1 q1
  rw [hs] at hA ⊢
  refine Calls.callWith_builtin (by show (false || (backTo cpos (starEach es X.env)).any (·.1)) = false; rw [hplain] <;> rfl) (Calls.evalArgs_plain ?_)
  exact thn hA fun us s2 ⟨vs, H2, I2, r2, q2⟩ => hm pins s2 σ H2 (.ref p) vs (.ref p) us Q I2 rfl r2 q2
end
section
variable {σ : L2.St} {H : Hp} {Q : VK} {K : PySem.W.Frag}
theorem i_bmF {r : V → List V → Hp → VK → Prop} {to : TE} {t : TA} (h : to σ H fun x H1 => (∃ p xs, x = .ref p ∧ FT H1 p xs) ∧ t σ H1 fun vs H2 => r x vs H2 Q) : tBMF r to t σ H Q := h
theorem i_tyF {p : Addr} {xs : List V} {A : Prop} (e : FT H p xs) (h : A) : (∃ q ys, V.ref p = .ref q ∧ FT H q ys) ∧ A := ⟨⟨p, xs, rfl, e⟩, h⟩
theorem i_revT {te : TE} (h : te σ H fun x H1 => ∃ a xs, x = .ref a ∧ SqT K H1 a xs ∧ ∀ p ob, H1 p = none → obOk ob → Q (.ref p) (upd H1 p (.frz ob (.tup xs.reverse)))) : tRevT K te σ H Q := h
end
end
section
open L2 PySem PySem.Spec PyProof.Rows
def arr1 (qs : List Str) (r : Str × Str) : Str × Str := if qs.idxOf r.1 < qs.idxOf r.2 then r else (r.2, r.1)
def arr (qs : List Str) (rs : List (Str × Str)) : List (Str × Str) := rs.map (arr1 qs)
def spIsName : Sp := fun vs H Q _ => ∃ z : Str, vs = [.str z] ∧ nmOk z = true ∧ ∀ H', Same H H' → Q (.bl true) H'
def spArePlaces (K : PySem.W.Frag) : Sp := fun vs H Q _ => ∃ (p : Addr) (ps : List Str), vs = [.ref p] ∧ SqT K H p (ps.map V.str) ∧ IsNames ps ∧ 0 < ps.length ∧ ps.length ≤ 8 ∧ ∀ H', Same H H' → Q (.bl true) H'
def spIsOneOf (K : PySem.W.Frag) : Sp := fun vs H Q _ => ∃ (z : Str) (p : Addr) (ps : List Str), vs = [.str z, .ref p] ∧ SqT K H p (ps.map V.str) ∧ z ∈ ps ∧ Q (.bl true) H
def spIsRoad (K : PySem.W.Frag) : Sp := fun vs H Q _ => ∃ (v : V) (r : Str × Str) (p : Addr) (ps : List Str), vs = [v, .ref p] ∧ Dp K H v (roadD r) ∧ SqT K H p (ps.map V.str) ∧ r.1 ∈ ps ∧ r.2 ∈ ps ∧ r.1 ≠ r.2 ∧ ∀ H', Same H H' → Q (.bl true) H'
def spAreRoads (K : PySem.W.Frag) : Sp := fun vs H Q _ => ∃ (tr tp : Addr) (xs : List V) (ps : List Str) (rs : List (Str × Str)), vs = [.ref tr, .ref tp] ∧ SqT K H tr xs ∧ DpAll K H xs (rs.map roadD) ∧ SqT K H tp (ps.map V.str) ∧ IsWeb ps rs ∧ ∀ H', Same H H' → Q (.bl true) H'
def spIsWeb (K : PySem.W.Frag) : Sp := fun vs H Q _ => ∃ (v : V) (ps : List Str) (rs : List (Str × Str)), vs = [v] ∧ Dp K H v (webD ps rs) ∧ IsWeb ps rs ∧ ∀ H', Same H H' → Q (.bl true) H'
def spNeedWeb (K : PySem.W.Frag) : Sp := fun vs H Q _ => ∃ (v : V) (ps : List Str) (rs : List (Str × Str)), vs = [v] ∧ Dp K H v (webD ps rs) ∧ IsWeb ps rs ∧ ∀ H', Same H H' → Q .non H'
def spIsOrder (K : PySem.W.Frag) : Sp := fun vs H Q _ => ∃ (v : V) (o : Addr) (qs ps : List Str) (rs : List (Str × Str)), vs = [v, .ref o] ∧ Dp K H v (webD ps rs) ∧ IsWeb ps rs ∧ SqT K H o (qs.map V.str) ∧ qs.Perm ps ∧ ∀ H', Same H H' → Q (.bl true) H'
def spNeedOrder (K : PySem.W.Frag) : Sp := fun vs H Q _ => ∃ (v : V) (o : Addr) (qs ps : List Str) (rs : List (Str × Str)), vs = [v, .ref o] ∧ Dp K H v (webD ps rs) ∧ IsWeb ps rs ∧ SqT K H o (qs.map V.str) ∧ qs.Perm ps ∧ ∀ H', Same H H' → Q .non H'
end
section
open L2 PySem PySem.Spec PyProof.Rows
section
variable {σ : L2.St} {H : Hp} {Q : VK} {K : PySem.W.Frag} {te : TE} {R : It → Hp → Prop}
def isK (R : It → Hp → Prop) : V → Hp → Prop := fun x H1 => ∃ z, x = .str z ∧ R (Its z) H1
theorem i_istr {t : TE} (h : t σ H (isK R)) : iStr t σ H R := h
theorem i_isK {z : Str} (h : R (Its z) H) : isK R (.str z) H := ⟨z, rfl, h⟩
theorem p_str {v : Nat} (z : Str) (f : Nat → V) (hz : z.cps.size ≤ 100000)
    (hs : ∀ D acc i c (N : VK), H D = none → z.cps[i]? = some c → N (f i) (upd H D (.lst acc)) → te ((wipe σ [v]).set v (some (.str ⟨#[c]⟩))) (upd H D (.lst acc)) N)
    (hd : ∀ D, H D = none → Q (.ref D) (upd H D (.lst ((List.range z.cps.size).map f)))) : lcK (gName v) tYes te [v] σ Q (Its z) H := by
  intro D nD
  refine ⟨fun i m H' => m = z.cps.size - i ∧ i ≤ z.cps.size ∧ H' = upd H D (.lst ((List.range i).map f)), ⟨z.cps.size, by simp, Nat.zero_le _, rfl⟩, ?_⟩
  rintro i m H' ⟨rfl, hi, rfl⟩
  by_cases lt : i < z.cps.size
  · refine .inr ⟨lt, fun H' => H' = upd H D (.lst ((List.range (i + 1)).map f)), fun H' e => ⟨z.cps.size - (i + 1), by omega, rfl, lt, e⟩, ?_⟩
    rintro x H' ⟨rfl, c, hc, rfl⟩
    refine ⟨?_, ?_⟩
    · show List.set (List.set (List.set σ v none) v (some _)) v none = List.set σ v none
      rw [List.set_set, List.set_set]
    · show te _ _ _
      refine hs D _ i c _ nD hc ⟨_, upd_same, ?_, ?_⟩
      · rw [List.length_map, List.length_range, sizeLine_eq]
        omega
      · rw [upd_upd, List.range_succ, List.map_append]
        rfl
  · have e : i = z.cps.size := by omega
    subst e
    exact .inl ⟨Nat.le_refl _, hd D nD⟩
end
theorem nm_parts {z : Str} (h : nmOk z = true) : ∃ c r, z.cps.toList = c :: r ∧ r.length ≤ 7 ∧ (97 ≤ c ∧ c ≤ 122) ∧ ∀ x ∈ r, nmSign x = true := by
  unfold nmOk at h
  split at h
  · cases h
  · rename_i c r e
    simp only [Bool.and_eq_true, decide_eq_true_eq, List.all_eq_true] at h
    exact ⟨c, r, e, h.1.1, h.1.2, h.2⟩
theorem letter_in : ∀ k : Nat, k < 26 → (97 + k) ∈ (Str.ofString "abcdefghijklmnopqrstuvwxyz").cps.toList := by decide +kernel
theorem letter_in2 : ∀ k : Nat, k < 26 → (97 + k) ∈ (Str.ofString "abcdefghijklmnopqrstuvwxyz0123456789").cps.toList := by decide +kernel
theorem figure_in : ∀ k : Nat, k < 10 → (48 + k) ∈ (Str.ofString "abcdefghijklmnopqrstuvwxyz0123456789").cps.toList := by decide +kernel
theorem sign_in {c : Nat} (h : nmSign c = true) : c ∈ (Str.ofString "abcdefghijklmnopqrstuvwxyz0123456789").cps.toList := by
  unfold nmSign at h
  simp only [Bool.or_eq_true, Bool.and_eq_true, decide_eq_true_eq] at h
  rcases h with h | h
  · have := letter_in2 (c - 97) (by omega)
    rwa [show 97 + (c - 97) = c from by omega] at this
  · have := figure_in (c - 48) (by omega)
    rwa [show 48 + (c - 48) = c from by omega] at this
section
variable {P : Program} {w : World} {σ : L2.St} {H : Hp} {Q : VK} {K : PySem.W.Frag} {g : TG} {tt : TT} {te : TE} {vs : List Nat} {a : Addr}
def sctE (P : Program) (w : World) (K : PySem.W.Frag) (D : Addr) (N : Hp → Prop) : VK := fun y H4 => ∃ (p : Addr) (k : List Str) (L : List (Addr × List Str)), y = .ref p ∧ SqT K H4 p (k.map V.str) ∧ H4 D = some (TsO P w D L) ∧ (∀ q ∈ L, SqT K H4 q.1 (q.2.map V.str)) ∧ (∀ q ∈ L, q.2 ≠ k) ∧ L.length + 1 < 64 ∧
  ∀ L' : List (Addr × List Str), L'.Perm ((p, k) :: L) → N (upd H4 D (TsO P w D L'))
def sctK (P : Program) (w : World) (K : PySem.W.Frag) (g : TG) (tt : TT) (te : TE) (vs : List Nat) (σ : L2.St) (Q : VK) : It → Hp → Prop := fun J h => tSct P w K (fun _ h' R => R J h') g tt te vs σ h Q
theorem i_sct {wi : TI} (h : wi σ H (sctK P w K g tt te vs σ Q)) : tSct P w K wi g tt te vs σ H Q := h
theorem s_tup (xs : List V) (Pv : Addr → Nat → Hp → Prop) (h0 : ∀ D, H D = none → Pv D 0 (upd H D (TsO P w D []))) (hl : ∀ D i H, i ≤ xs.length → Pv D i H → SqT K H a xs)
    (hs : ∀ D i x H, xs[i]? = some x → Pv D i H → g x (wipe σ vs) H fun σ2 H2 => wipe σ2 vs = wipe σ vs ∧ tt σ2 H2 fun b H3 => if b = true then te σ2 H3 (sctE P w K D (Pv D (i + 1))) else Pv D (i + 1) H3)
    (hd : ∀ D H, Pv D xs.length H → Q (.ref D) H) : sctK P w K g tt te vs σ Q (Itt K a) H := by
  intro D nD
  refine ⟨fun i m H => m = xs.length - i ∧ i ≤ xs.length ∧ Pv D i H, ⟨xs.length, by simp, Nat.zero_le _, h0 D nD⟩, ?_⟩
  rintro i m H ⟨rfl, hi, p⟩
  have q := hl D i H hi p
  by_cases lt : i < xs.length
  · refine .inr ⟨⟨xs, xs[i], q, by simp [lt]⟩, Pv D (i + 1), fun H' p' => ⟨xs.length - (i + 1), by omega, rfl, lt, p'⟩, fun x H' y => ?_⟩
    obtain ⟨rfl, y⟩ := y
    exact hs D i x _ (y xs q) p
  · have e : i = xs.length := by omega
    subst e
    exact .inl ⟨⟨xs, q, Nat.le_refl _⟩, hd D H p⟩
end
theorem road_parts {K : PySem.W.Frag} {H : Hp} {v : V} {r : Str × Str} (h : Dp K H v (roadD r)) : ∃ t, v = .ref t ∧ SqT K H t [.str r.1, .str r.2] := by
  cases h with
  | tup s1 a1 =>
    cases a1 with
    | cons g1 g2 =>
      cases g1
      cases g2 with
      | cons g3 g4 =>
        cases g3
        cases g4
        exact ⟨_, rfl, s1⟩
section
variable {H : Hp} {Q : VK} {K : PySem.W.Frag}
theorem cut_whole {xs : List V} {lo hi : Option Int} (h : HT.sIx xs.length 0 lo = 0 ∧ HT.sIx xs.length xs.length hi = xs.length) : cutV xs lo hi = xs := by
  unfold cutV
  rw [h.1, h.2, List.drop_zero, Nat.sub_zero, List.take_of_length_le (Nat.le_refl _)]
theorem i_slF {a : Addr} {xs : List V} {lo hi : Option Int} (e : FT H a xs) (h : ∀ p H', Same H H' → FT H' p (cutV xs lo hi) → Q (.ref p) H') : rSlF K (.ref a) lo hi H Q :=
  ⟨a, xs, rfl, e.sq, fun w => h a H (fun _ _ z => z) (by rw [cut_whole w]; exact e), fun _ p ob n ok => h p _ (Same.upd_new n) (FT.new ok)⟩
theorem i_catF {a b : Addr} {xs ys : List V} (e : FT H a xs) (e2 : FT H b ys) (z : xs.length + ys.length ≤ sizeLine) (h : ∀ p H', Same H H' → FT H' p (xs ++ ys) → Q (.ref p) H') : rCatF K (.ref a) (.ref b) H Q :=
  ⟨a, b, xs, ys, rfl, rfl, e.sq, e2.sq, z, fun w => h b H (fun _ _ z => z) (by rw [w]; exact e2), fun _ w => h a H (fun _ _ z => z) (by rw [w, List.append_nil]; exact e), fun _ _ p ob n ok => h p _ (Same.upd_new n) (FT.new ok)⟩
theorem i_tupF {σ : L2.St} {t : TA} (h : t σ H fun xs H1 => xs.length ≤ sizeLine ∧ ∀ p ob, H1 p = none → obOk ob → Q (.ref p) (upd H1 p (.frz ob (.tup xs)))) : tTupF t σ H Q := h
theorem at_str {qs : List Str} {k : Nat} {z : Str} (h : qs[k]? = some z) : atI (qs.map V.str) (k : Int) = some (.str z) := atI_nat (by rw [List.getElem?_map, h]; rfl)
theorem cut_from {xs : List V} {k : Nat} : cutV xs (some (k : Int)) none = xs.drop k := by
  unfold cutV
  rw [HT.sIx_none, HT.sIx_nat]
  by_cases h : k ≤ xs.length
  · rw [Nat.min_eq_left h, List.take_of_length_le (by rw [List.length_drop]; exact Nat.le_refl _)]
  · rw [Nat.min_eq_right (by omega), List.drop_of_length_le (Nat.le_refl _), List.drop_of_length_le (by omega), List.take_nil]
end
def sw (qs : List Str) (i : Nat) : List Str := match qs[i]?, qs[i + 1]? with
  | some x, some y => qs.take i ++ y :: x :: qs.drop (i + 2)
  | _, _ => qs
end
section
open L2 PySem PySem.Spec PyProof.Rows
def g2 {α : Type} (us ws : List α) : List α := match us, ws with
  | [], [o] => [o]
  | [], [o, w] => [w, o]
  | [], [o, w, z] => [z, w, o]
  | [], [o, w, z, y] => [y, z, w, o]
  | _, _ => []
theorem g2_rel : ∀ {vs : List V} {us : List Value} {zs : List V} {ws : List Value}, Vals vs us → Vals zs ws → Vals (g2 vs zs) (g2 us ws)
  | [], [], [], [], _, _ => .nil
  | [], [], [_], [_], _, .cons x .nil => .cons x .nil
  | [], [], [_, _], [_, _], _, .cons x (.cons y .nil) => .cons y (.cons x .nil)
  | [], [], [_, _, _], [_, _, _], _, .cons x (.cons y (.cons z .nil)) => .cons z (.cons y (.cons x .nil))
  | [], [], [_, _, _, _], [_, _, _, _], _, .cons x (.cons y (.cons z (.cons a .nil))) => .cons a (.cons z (.cons y (.cons x .nil)))
  | [], [], _ :: _ :: _ :: _ :: _ :: _, _ :: _ :: _ :: _ :: _ :: _, _, _ => .nil
  | _ :: _, _ :: _, _, _, _, _ => .nil
theorem kb1 {K : PySem.W.Frag} {fd : FuncData} {ps ks : List Str} (hp : ps.length = 1) (h : ∀ a : Value, bindArgs fd ⟨[], ks.zip [a]⟩ = pure (ps.zip [a])) : KBinds K fd ps ks g2 g2 := by
  refine ⟨fun s us ws _ hl => ?_, g2_rel⟩
  rw [hp] at hl
  rcases us with _ | ⟨u, us⟩
  · rcases ws with _ | ⟨a, _ | ⟨b, _ | ⟨c, _ | ⟨d, _ | ⟨e, ws⟩⟩⟩⟩⟩
    · exact absurd hl (by simp [g2])
    · exact .of_eq (h a)
    · exact absurd hl (by simp [g2])
    · exact absurd hl (by simp [g2])
    · exact absurd hl (by simp [g2])
    · exact absurd hl (by simp [g2])
  · exact absurd hl (by simp [g2])
theorem kb2 {K : PySem.W.Frag} {fd : FuncData} {ps ks : List Str} (hp : ps.length = 2) (h : ∀ a b : Value, bindArgs fd ⟨[], ks.zip [a, b]⟩ = pure (ps.zip [b, a])) : KBinds K fd ps ks g2 g2 := by
  refine ⟨fun s us ws _ hl => ?_, g2_rel⟩
  rw [hp] at hl
  rcases us with _ | ⟨u, us⟩
  · rcases ws with _ | ⟨a, _ | ⟨b, _ | ⟨c, _ | ⟨d, _ | ⟨e, ws⟩⟩⟩⟩⟩
    · exact absurd hl (by simp [g2])
    · exact absurd hl (by simp [g2])
    · exact .of_eq (h a b)
    · exact absurd hl (by simp [g2])
    · exact absurd hl (by simp [g2])
    · exact absurd hl (by simp [g2])
  · exact absurd hl (by simp [g2])
structure ClK (P : Program) (w : World) (K : PySem.W.Frag) (mg : Str → Option Value) (base : Heap) (k : Nat) (x : Str) (ps ks : List Str) (sp : Sp) : Prop where
  ex : ∃ (f : Addr) (fd : FuncData), FnOk P w K mg base CX0 k f fd ps sp ∧ mg x = some (.ref f) ∧ PySem.W.keepIn K (.ref f) = true ∧ KBinds K fd ps ks g2 g2
structure Dk (K : PySem.W.Frag) (mg : Str → Option Value) (x : String) (st : Stmt) (ps ks : List Str) : Prop where
  ex : ∃ (f : Addr) (fd : FuncData), Fun K x x st f fd ∧ mg x = some (.ref f) ∧ KBinds K fd ps ks g2 g2
section
variable {base : Heap} {P : Program} {w : World} {K : PySem.W.Frag} {mg : Str → Option Value}
theorem Dk.cl {x : String} {st : Stmt} {N ps ks : List Str} {k : Nat} {sp : Sp} (D : Dk K mg x st ps ks) (S : FnScope N ps (defScope st)) (len : ∀ vs H Q E, sp vs H Q E → vs.length = ps.length)
    (bd : ∀ (f : Addr) (cdv : Value) (A : Around) (fr : List Env) (s : Shared) (H : Hp) (vs : List V) (Q : VK) (E : XK), Room k (A.deeper (envOfC x (defScope st) s.heap.objs.size f cdv)) → sp vs H Q E →
      ∃ t, PSs (cxOf CX0 P w K mg base N x (defScope st) f cdv A fr s H E).nox (defBody st) t ∧ t { nx := fun _ H' => Q .non H', rt := Q } (start N vs) H) : ClK P w K mg base (k + 1) x ps ks sp := by
  obtain ⟨f, fd, F, hm, b⟩ := D.ex
  exact ⟨f, fd, F.ok S len (bd f), hm, F.kp, b⟩
end
section
variable {X : Cx} {k k' : Nat} {ps ks : List Str} {sp : Sp} {x : Str} {p pos : Pos} {kws : List Keyword} {tk : TA}
def tCallK0 (sp : Sp) (tk : TA) : TE := fun σ H Q => tk σ H fun zs H1 => sp (g2 [] zs) H1 Q (fun _ _ _ => False)
theorem pe_ck (C : ClK X.prog X.w X.K X.mg X.base k x ps ks sp) (hr : Room k' X.A) (hkw : PK X kws tk) (hg : Gl X x := by rfl) (hk : k ≤ k' := by decide) (hall : (backToKw pos (keywordEach kws X.env)).all (·.1.isSome) = true := by rfl) (hks : (backToKw pos (keywordEach kws X.env)).filterMap (·.1) = ks := by rfl)
    (hdb : (x == ("__debug__" : Str)) = false := by decide) (hpl : ((backTo pos (starEach [] X.env)).any (·.1) || (backToKw pos (keywordEach kws X.env)).any (·.1.isNone)) = false := by rfl) : PE X (.Call (.Name x p) [] kws pos) (tCallK0 sp tk) := by
  obtain ⟨f, fd, F, hm, kp, b⟩ := C.ex
  refine ⟨fun pins s σ H Q I h => ?_⟩
  refine wpAny_Call_Name_kw (ld_glob I hg hm ?_ hdb)
  refine PySem.W.callWith_KW0 (h₀ := X.base) I.ok.mod.kin kp hall (thn (hkw.run pos pins s σ H _ I h) fun ws s2 ⟨zs, H2, I2, rz, q2⟩ => ⟨I2.kIn, ?_⟩) hpl
  rw [hks]
  exact run_fnk F (hr.mono hk) b pass0 I2 .nil rz q2
end
end
section
open L2 PySem PySem.Spec PyProof.Rows
theorem nm_size {z : Str} (h : nmOk z = true) : z.cps.size ≤ 8 := by
  obtain ⟨c, r, e, h7, _⟩ := nm_parts h
  rw [← Array.length_toList, e, List.length_cons]
  omega
abbrev rsD (l : List (Str × Str)) : PyData := .tuple (l.map roadD)
def swp (r : Str × Str) : Str × Str := (r.2, r.1)
theorem idx_is {l : List Str} (nd : l.Nodup) {k : Nat} {z : Str} (h : l[k]? = some z) : l.idxOf z = k := nodup_at nd (idx_first (List.mem_of_getElem? h)).1 h
theorem arr1_at {l : List Str} (nd : l.Nodup) {i j : Nat} {x y : Str} (hx : l[i]? = some x) (hy : l[j]? = some y) : arr1 l (x, y) = if i < j then (x, y) else (y, x) := by
  show (if l.idxOf x < l.idxOf y then (x, y) else (y, x)) = _
  rw [idx_is nd hx, idx_is nd hy]
theorem arr1_or (l : List Str) (r : Str × Str) : arr1 l r = r ∨ arr1 l r = swp r := by
  unfold arr1
  split
  · exact .inl rfl
  · exact .inr rfl
structure EndsAt (qs : List Str) (r : Str × Str) (i j : Nat) : Prop where
  fst : qs[i]? = some r.1
  snd : qs[j]? = some r.2
  ne : i ≠ j
theorem ends_at {qs : List Str} {r : Str × Str} (h1 : r.1 ∈ qs) (h2 : r.2 ∈ qs) (hne : r.1 ≠ r.2) : ∃ i j, EndsAt qs r i j := by
  obtain ⟨i, hi⟩ := List.getElem?_of_mem h1
  obtain ⟨j, hj⟩ := List.getElem?_of_mem h2
  exact ⟨i, j, hi, hj, fun e => hne (by rw [e, hj] at hi; exact (Option.some.inj hi).symm)⟩
theorem sw_at {qs : List Str} {i : Nat} {x y : Str} (hx : qs[i]? = some x) (hy : qs[i + 1]? = some y) : sw qs i = qs.take i ++ y :: x :: qs.drop (i + 2) := by
  unfold sw
  rw [hx, hy]
def swN (i k : Nat) : Nat := if k = i then i + 1 else if k = i + 1 then i else k
theorem sw_get {qs : List Str} {i : Nat} (hi : i + 1 < qs.length) {k : Nat} (hk : k < qs.length) : (sw qs i)[swN i k]? = qs[k]? := by
  have hx : qs[i]? = some qs[i] := List.getElem?_eq_getElem (by omega)
  have hy : qs[i + 1]? = some qs[i + 1] := List.getElem?_eq_getElem hi
  rw [sw_at hx hy]
  have hl : (qs.take i).length = i := by rw [List.length_take]; omega
  unfold swN
  by_cases h1 : k = i
  · subst h1
    rw [if_pos rfl, List.getElem?_append_right (by omega), hl, show k + 1 - k = 1 from by omega, hx]
    rfl
  · rw [if_neg h1]
    by_cases h2 : k = i + 1
    · subst h2
      rw [if_pos rfl, List.getElem?_append_right (by omega), hl, Nat.sub_self, hy]
      rfl
    · rw [if_neg h2]
      by_cases h3 : k < i
      · rw [List.getElem?_append_left (by omega), List.getElem?_take, if_pos h3]
      · rw [List.getElem?_append_right (by omega), hl, show k - i = (k - i - 2) + 2 from by omega]
        show (qs.drop (i + 2))[k - i - 2]? = _
        rw [List.getElem?_drop, show i + 2 + (k - i - 2) = k from by omega]
theorem sw_perm {qs : List Str} {i : Nat} (hi : i + 1 < qs.length) : (sw qs i).Perm qs := by
  have hx : qs[i]? = some qs[i] := List.getElem?_eq_getElem (by omega)
  have hy : qs[i + 1]? = some qs[i + 1] := List.getElem?_eq_getElem hi
  rw [sw_at hx hy]
  have e : qs = qs.take i ++ qs[i] :: qs[i + 1] :: qs.drop (i + 2) := by
    conv => lhs; rw [← List.take_append_drop i qs]
    rw [List.drop_eq_getElem_cons (by omega : i < qs.length), List.drop_eq_getElem_cons (by omega : i + 1 < qs.length)]
  conv => rhs; rw [e]
  exact List.Perm.append_left _ (List.Perm.swap _ _ _)
theorem arr1_sw {qs : List Str} (nd : qs.Nodup) {k : Nat} (hk : k + 1 < qs.length) {r : Str × Str} {i j : Nat} (e : EndsAt qs r i j) : arr1 (sw qs k) r = if arr1 qs r = (qs[k], qs[k + 1]) then swp (arr1 qs r) else arr1 qs r := by
  obtain ⟨x, y⟩ := r
  obtain ⟨hx, hy, ne⟩ := e
  have hi := (List.getElem?_eq_some_iff.mp hx).1
  have hj := (List.getElem?_eq_some_iff.mp hy).1
  have gx := (sw_get hk hi).trans hx
  have gy := (sw_get hk hj).trans hy
  have hnd : (sw qs k).Nodup := (sw_perm hk).nodup_iff.mpr nd
  have gk : qs[k]? = some qs[k] := List.getElem?_eq_getElem (by omega)
  have gk1 : qs[k + 1]? = some qs[k + 1] := List.getElem?_eq_getElem hk
  rw [arr1_at hnd gx gy, arr1_at nd hx hy]
  have xk : x = qs[k] → i = k := fun z => nodup_at nd (z ▸ hx) gk
  have yk : y = qs[k + 1] → j = k + 1 := fun z => nodup_at nd (z ▸ hy) gk1
  have yk0 : y = qs[k] → j = k := fun z => nodup_at nd (z ▸ hy) gk
  have xk1 : x = qs[k + 1] → i = k + 1 := fun z => nodup_at nd (z ▸ hx) gk1
  have kx : i = k → x = qs[k] := fun z => by subst z; rw [gk] at hx; exact (Option.some.inj hx).symm
  have ky : j = k + 1 → y = qs[k + 1] := fun z => by subst z; rw [gk1] at hy; exact (Option.some.inj hy).symm
  have ky0 : j = k → y = qs[k] := fun z => by subst z; rw [gk] at hy; exact (Option.some.inj hy).symm
  have kx1 : i = k + 1 → x = qs[k + 1] := fun z => by subst z; rw [gk1] at hx; exact (Option.some.inj hx).symm
  unfold swN
  by_cases h : i < j
  · rw [if_pos h]
    by_cases hp : i = k ∧ j = k + 1
    · rw [if_pos (Prod.ext (kx hp.1) (ky hp.2)), if_neg (by rw [if_pos hp.1, if_neg (by omega), if_pos hp.2]; omega)]
      rfl
    · rw [if_neg (fun z => hp ⟨xk (Prod.mk.inj z).1, yk (Prod.mk.inj z).2⟩), if_pos]
      repeat' split
      all_goals omega
  · rw [if_neg h]
    by_cases hp : j = k ∧ i = k + 1
    · rw [if_pos (Prod.ext (ky0 hp.1) (kx1 hp.2)), if_pos (by rw [if_neg (by omega), if_pos hp.2, if_pos hp.1]; omega)]
      rfl
    · rw [if_neg (fun z => hp ⟨yk0 (Prod.mk.inj z).1, xk1 (Prod.mk.inj z).2⟩), if_neg]
      repeat' split
      all_goals omega
def rot (qs : List Str) : List Str := qs.drop 1 ++ qs.take 1
theorem rot_perm (qs : List Str) : (rot qs).Perm qs := by
  unfold rot
  have h := List.perm_append_comm (l₁ := qs.drop 1) (l₂ := qs.take 1)
  rw [List.take_append_drop] at h
  exact h
end
section
open L2 PySem PySem.Spec PyProof.Rows
section
variable {σ : L2.St} {H : Hp} {Q : VK} {K : PySem.W.Frag} {te : TE}
theorem i_ck {sp : Sp} {tk : TA} (h : tk σ H fun zs H1 => sp (g2 [] zs) H1 Q (fun _ _ _ => False)) : tCallK0 sp tk σ H Q := h
theorem tup_parts {v : V} {ds : List PyData} (h : Dp K H v (.tuple ds)) : ∃ t xs, v = .ref t ∧ SqT K H t xs ∧ DpAll K H xs ds := by
  cases h with
  | tup s a => exact ⟨_, _, rfl, s, a⟩
theorem sqL_ch {H' : Hp} {a q : Addr} {xs : List V} (h : SqL K H a xs) (n : H q = none) (k : Ch q H H') : SqL K H' a xs := by
  rcases h with (e | ⟨o, e⟩) | e
  · exact .inl (.inl (k a _ (ne_of_none e n) e))
  · exact .inl (.inr ⟨o, k a _ (ne_of_none e n) e⟩)
  · exact .inr e
end
section
variable {qs ps : List Str} {rs : List (Str × Str)}
theorem ends_of (W : IsWeb ps rs) (pm : qs.Perm ps) {r : Str × Str} (hr : r ∈ rs) : ∃ i j, EndsAt qs r i j :=
  let ⟨h1, h2, h3⟩ := W.ends r hr
  ends_at (pm.mem_iff.mpr h1) (pm.mem_iff.mpr h2) h3
theorem arr_sw (W : IsWeb ps rs) (pm : qs.Perm ps) {k : Nat} {x y : Str} (hx : qs[k]? = some x) (hy : qs[k + 1]? = some y) : arr (sw qs k) rs = (arr qs rs).map fun r => if r = (x, y) then swp r else r := by
  have h1 := (List.getElem?_eq_some_iff.mp hy).1
  unfold arr
  rw [List.map_map]
  refine List.map_congr_left fun r hr => ?_
  obtain ⟨i, j, e⟩ := ends_of W pm hr
  have z := arr1_sw (pm.nodup_iff.mpr W.names.1) h1 e
  rw [(List.getElem?_eq_some_iff.mp hx).2, (List.getElem?_eq_some_iff.mp hy).2] at z
  exact z
end
end
section
open L2 PySem PySem.Spec PyProof.Rows
section
variable {X : Cx} {σ : L2.St} {H : Hp} {Q : VK} {K : PySem.W.Frag} {g : TG} {tt : TT} {te : TE} {vs : List Nat} {a b : Addr} {R : It → Hp → Prop}
theorem kpi_zip {e e2 : Expr} {ta : TA} {p pos tpos : Pos} {elts : List Expr} {kk : Nat} (hm : X.mg "zip" = none) (ha : PA X [e, e2] ta) (hK : X.K = K := by rfl) (hg : Gl X "zip" := by rfl)
    (hs : starEach [e, e2] X.env = (false, eval e X.env) :: starEach [e2] X.env := by rfl) (hpl : (backTo pos (starEach [e2] X.env)).any (·.1) = false := by rfl) : PI X (.Tuple elts kk tpos) (.Call (.Name "zip" p) [e, e2] [] pos) (RZ.iZipA K ta) := by
  subst hK
  exact RZ.pi_zipA hg hm ha hs hpl
def zipK (K : PySem.W.Frag) (R : It → Hp → Prop) : List V → Hp → Prop := fun us H1 => ∃ a b xs ys, us = [.ref a, .ref b] ∧ ((SqL K H1 a xs ∧ SqL K H1 b ys ∧ R (Itz K a b) H1) ∨ (SqT K H1 a xs ∧ SqT K H1 b ys ∧ R (RZ.ItzT K a b) H1))
theorem i_zip {ta : TA} (h : ta σ H (zipK K R)) : RZ.iZipA K ta σ H R := h
theorem i_zipT {xs ys : List V} (ha : SqT K H a xs) (hb : SqT K H b ys) (h : R (RZ.ItzT K a b) H) : zipK K R [.ref a, .ref b] H := ⟨a, b, xs, ys, rfl, .inr ⟨ha, hb, h⟩⟩
theorem c_zip (xs ys : List V) (hl : xs.length = ys.length) (Pv : Addr → Nat → Hp → Prop) (h0 : ∀ D, H D = none → Pv D 0 (upd H D (.lst []))) (ha : ∀ D i H, Pv D i H → SqT K H a xs ∧ SqT K H b ys)
    (hs : ∀ D i x y H T, xs[i]? = some x → ys[i]? = some y → Pv D i H → H T = none → g (.ref T) (wipe σ vs) (upd H T (.tup [x, y])) fun σ2 H2 => wipe σ2 vs = wipe σ vs ∧ tt σ2 H2 fun c H3 => if c = true then te σ2 H3 (lcE D (Pv D (i + 1))) else Pv D (i + 1) H3)
    (hd : ∀ D H, Pv D xs.length H → Q (.ref D) H) : lcK g tt te vs σ Q (RZ.ItzT K a b) H := by
  intro D nD
  refine ⟨fun i m H => m = xs.length - i ∧ i ≤ xs.length ∧ Pv D i H, ⟨xs.length, by simp, Nat.zero_le _, h0 D nD⟩, ?_⟩
  rintro i m H ⟨rfl, hi, p⟩
  obtain ⟨qa, qb⟩ := ha D i H p
  by_cases lt : i < xs.length
  · have lt2 : i < ys.length := by omega
    refine .inr ⟨⟨xs, ys, xs[i], ys[i], qa, qb, by simp [lt], by simp [lt2]⟩, Pv D (i + 1), fun H' p' => ⟨xs.length - (i + 1), by omega, rfl, lt, p'⟩, fun v H' y => ?_⟩
    obtain ⟨T, x, z, rfl, nT, rfl, hx, hz⟩ := y
    exact hs D i x z H T (hx xs qa) (hz ys qb) p nT
  · have e : i = xs.length := by omega
    subst e
    exact .inl ⟨⟨xs, ys, qa, qb, .inl (Nat.le_refl _)⟩, hd D H p⟩
end
def spJoined (K : PySem.W.Frag) : Sp := fun vs H Q _ => ∃ (v : V) (x y : Str) (ps : List Str) (rs : List (Str × Str)), vs = [v, .str x, .str y] ∧ Dp K H v (webD ps rs) ∧ IsWeb ps rs ∧ x ∈ ps ∧ y ∈ ps ∧ ∀ H', Same H H' → Q (.bl (isRoad rs x y)) H'
def natsV (t : List Nat) : List V := t.map fun n => V.int ((n : Nat) : Int)
end
section
open L2 PySem PySem.Spec PyProof.Rows
section
variable {σ : L2.St} {H : Hp} {Q : VK} {K : PySem.W.Frag} {te : TE}
theorem k_catA {X : Cx} {K : PySem.W.Frag} (hK : X.K = K := by rfl) : OpR X (binaryOp .Add) (rCatA K) := by subst hK; exact op_catA
theorem i_catA {a b : Addr} {xs ys : List V} (e : SqT K H a xs) (e2 : SqT K H b ys) (ne : ys ≠ []) (z : xs.length + ys.length ≤ sizeLine) (h : ∀ p H', Same H H' → SqT K H' p (xs ++ ys) → Q (.ref p) H') : rCatA K (.ref a) (.ref b) H Q := by
  refine ⟨a, b, xs, ys, rfl, rfl, e, e2, z, fun hx => ?_, fun hx hy => absurd hy ne, fun hx hy p np => ?_⟩
  · subst hx
    exact h b H (Same.refl _) e2
  · exact h p _ (Same.upd_new np) (sq_tup upd_same)
end
def intsI (s : List Nat) : List Int := s.map fun n => ((n : Nat) : Int)
end
section
open L2 PySem PySem.Spec PyProof.Rows
def iD (n : Nat) : PyData := .int ((n : Nat) : Int)
theorem small_all : ∀ n : Fin 300, ((iD n.1).canLay0 && decide ((iD n.1).weight ≤ 10) && PyData.intsShort 13 (iD n.1) && (iD n.1).showable) = true := by decide +kernel
theorem small_int {n : Nat} (h : n < 300) : (iD n).canLay0 = true ∧ (iD n).weight ≤ 10 ∧ PyData.intsShort 13 (iD n) = true ∧ (iD n).showable = true := by
  have := small_all ⟨n, h⟩
  simp only [Bool.and_eq_true, decide_eq_true_eq] at this
  exact ⟨this.1.1.1, this.1.1.2, this.1.2, this.2⟩
theorem ints_data : ∀ l : List Nat, (∀ n ∈ l, n < 300) → PyData.canLayAll0 (l.map iD) = true ∧ PyData.showableAll (l.map iD) = true ∧ PyData.hasDictAll (l.map iD) = false ∧ PyData.depthAll (l.map iD) = 0 ∧
    PyData.weightAll (l.map iD) ≤ 11 * l.length ∧ PyData.intsShortAll 13 (l.map iD) = true ∧ noBAll (l.map iD) = true
  | [], _ => ⟨rfl, rfl, rfl, rfl, Nat.le_refl _, rfl, rfl⟩
  | x :: l, h => by
    obtain ⟨a1, a2, a3, a4, a5, a6, a7⟩ := ints_data l fun r hr => h r (List.mem_cons_of_mem _ hr)
    obtain ⟨b1, b2, b3, b4⟩ := small_int (h x List.mem_cons_self)
    refine ⟨?_, ?_, ?_, ?_, ?_, ?_, ?_⟩
    · show ((iD x).canLay0 && PyData.canLayAll0 (l.map iD)) = true
      rw [b1, a1]
      rfl
    · show ((iD x).showable && PyData.showableAll (l.map iD)) = true
      rw [b4, a2]
      rfl
    · show (false || PyData.hasDictAll (l.map iD)) = false
      rw [a3]
      rfl
    · show max 0 (PyData.depthAll (l.map iD)) = 0
      omega
    · show (iD x).weight + 1 + PyData.weightAll (l.map iD) ≤ 11 * (l.length + 1)
      omega
    · show (PyData.intsShort 13 (iD x) && PyData.intsShortAll 13 (l.map iD)) = true
      rw [b3, a6]
      rfl
    · show (true && noBAll (l.map iD)) = true
      rw [a7]
      rfl
abbrev liD (l : List Nat) : PyData := .list (l.map iD)
theorem li_shaped {l : List Nat} (h : ∀ n ∈ l, n < 300) : SeqAt.shaped (liD l) = true := by
  obtain ⟨a1, _, _, a4, _⟩ := ints_data l h
  show (PyData.canLayAll0 (l.map iD) && decide (PyData.depthAll (l.map iD) + 1 ≤ 64)) = true
  rw [a1, decide_eq_true (by omega)]
  rfl
theorem LsD.same {K : PySem.W.Frag} {H H' : Hp} {D : Addr} {ds : List PyData} (h : LsD K H D ds) (k : Same H H') : LsD K H' D ds := let ⟨vs, e, d, t⟩ := h; ⟨vs, k _ _ e, DpAll.same k _ _ d, t⟩
theorem LsD.dp {K : PySem.W.Frag} {H : Hp} {D : Addr} {ds : List PyData} (h : LsD K H D ds) : Dp K H (.ref D) (.list ds) := let ⟨_, e, d, _⟩ := h; .lst (sq_lst e) d
theorem is_lst {K : PySem.W.Frag} {H : Hp} {Q : VK} {a : Addr} {xs : List V} (e : H a = some (.lst xs)) (h : Q (.bl true) H) : rIsi K [.ref a, .ty "list"] H Q := i_isi (.base (.lst e)) (by decide +kernel) h
theorem cut_take {xs : List V} {k : Nat} : cutV xs none (some (k : Int)) = xs.take k := by
  unfold cutV
  rw [HT.sIx_none, HT.sIx_nat, List.drop_zero, Nat.sub_zero]
  by_cases z : k ≤ xs.length
  · rw [Nat.min_eq_left z]
  · rw [Nat.min_eq_right (by omega), List.take_of_length_le (Nat.le_refl _), List.take_of_length_le (by omega)]
theorem dp_nts {K : PySem.W.Frag} {H : Hp} : ∀ t : List Nat, DpAll K H (natsV t) (t.map iD)
  | [] => .nil
  | x :: r => .cons (.int _) (dp_nts r)
end
section
open L2 PySem PySem.Spec PyProof.Rows
section
variable {K : PySem.W.Frag} {H H' : Hp} {a : Addr} {c : Int} {v : V} {k : Nat} {ps : List Str} {rs : List (Str × Str)} {ds : List PyData}
def WF (K : PySem.W.Frag) (H : Hp) (v : V) (ps : List Str) (rs : List (Str × Str)) : Prop := ∃ (t tp tr : Addr), v = .ref t ∧ SqT K H t [.ref tp, .ref tr] ∧ FT H tp (ps.map V.str) ∧ Dp K H (.ref tr) (.tuple (rs.map roadD))
theorem WF.dp (h : WF K H v ps rs) : Dp K H v (webD ps rs) := by
  obtain ⟨t, tp, tr, rfl, s, f, d⟩ := h
  exact .tup s (.cons (.tup f.sq (DpAll.strs ps)) (.cons d .nil))
theorem WF.same (h : WF K H v ps rs) (s : Same H H') : WF K H' v ps rs := by
  obtain ⟨t, tp, tr, rfl, q, f, d⟩ := h
  exact ⟨t, tp, tr, rfl, TK.same s _ _ q, f.same s, Dp.same s _ _ d⟩
theorem WF.ch (h : WF K H v ps rs) (s : Ch a H H') (f : Fd H a c) : WF K H' v ps rs := by
  obtain ⟨t, tp, tr, rfl, q, g, d⟩ := h
  have tk := TK.ch (K := K) s f
  exact ⟨t, tp, tr, rfl, tk _ _ q, g.ch s f, Dp.tk tk _ _ (roads_only rs) d⟩
end
end
section
open L2 PySem PySem.Spec PyProof.Rows
section
variable {K : PySem.W.Frag} {H : Hp} {Q : VK}
theorem nats_int (ss : List Nat) : natsV ss = (intsI ss).map V.int := by
  unfold natsV intsI
  rw [List.map_map]
  rfl
end
end
section
open L2 PySem PySem.Spec PyProof.Rows
theorem cut_all {xs : List V} {lo hi : Option Int} (h : HT.sIx xs.length 0 lo = 0 ∧ HT.sIx xs.length xs.length hi = xs.length) : cutV xs lo hi = xs := by
  unfold cutV
  rw [h.1, h.2, List.drop_zero, Nat.sub_zero, List.take_of_length_le (Nat.le_refl _)]
theorem i_slG {K : PySem.W.Frag} {H : Hp} {Q : VK} {p : Addr} {xs : List V} {lo hi : Option Int} (e : SqT K H p xs) (h : ∀ p' H', Same H H' → SqT K H' p' (cutV xs lo hi) → Q (.ref p') H') : rSlA K (.ref p) lo hi H Q :=
  ⟨p, xs, rfl, e, fun hf => h p H (Same.refl _) (by rw [cut_all hf]; exact e), fun _ p' np' => h p' _ (Same.upd_new np') (sq_tup upd_same)⟩
end
section
open L2 PySem PySem.Spec PyProof.Rows
section
variable {k : Nat} {ps : List Str} {rs : List (Str × Str)} {ds : List PyData} {t : List Nat}
theorem road_sym (x y : Str) : isRoad rs x y = isRoad rs y x := by
  unfold isRoad
  rw [Bool.or_comm]
end
end
section
open L2 PySem PySem.Spec PyProof.Rows
theorem rising_all : ∀ (l : List Str) (p : Str), risingS p l = true → (∀ y ∈ l, ¬ y.cps.toList < p.cps.toList) ∧ sortedS l = true
  | [], _, _ => ⟨fun _ h => absurd h List.not_mem_nil, rfl⟩
  | x :: r, p, h => by
    have h' : (!ltCps x.cps.toList p.cps.toList && risingS x r) = true := h
    rw [Bool.and_eq_true, PyProof.Rows.ltCps_eq, Bool.not_eq_true', decide_eq_false_iff_not] at h'
    obtain ⟨a1, _⟩ := rising_all r x h'.2
    refine ⟨fun y hy => ?_, h'.2⟩
    rcases List.mem_cons.mp hy with rfl | hy
    · exact h'.1
    · intro c
      have h1 := a1 y hy
      exact absurd c (List.not_lt.mpr (List.le_trans (List.not_lt.mp h'.1) (List.not_lt.mp h1)))
theorem sorted_head {x : Str} {r : List Str} (h : sortedS (x :: r) = true) : (∀ y ∈ r, ¬ y.cps.toList < x.cps.toList) ∧ sortedS r = true := rising_all r x h
theorem str_anti {x y : Str} (a : ¬ x.cps.toList < y.cps.toList) (b : ¬ y.cps.toList < x.cps.toList) : x = y :=
  str_ext (List.le_antisymm (List.not_lt.mp b) (List.not_lt.mp a))
theorem sorted_one : ∀ {a b : List Str}, a.Perm b → sortedS a = true → sortedS b = true → a = b
  | [], b, p, _, _ => (List.Perm.nil_eq p)
  | x :: r, [], p, _, _ => absurd p.length_eq (by simp)
  | x :: r, y :: s, p, ha, hb => by
    obtain ⟨a1, a2⟩ := sorted_head ha
    obtain ⟨b1, b2⟩ := sorted_head hb
    have e : x = y := by
      by_cases e : x = y
      · exact e
      · have hx : x ∈ s := by
          rcases List.mem_cons.mp (p.mem_iff.mp List.mem_cons_self) with q | q
          · exact absurd q e
          · exact q
        have hy : y ∈ r := by
          rcases List.mem_cons.mp (p.mem_iff.mpr List.mem_cons_self) with q | q
          · exact absurd q.symm e
          · exact q
        exact str_anti (b1 x hx) (a1 y hy)
    subst e
    rw [sorted_one ((List.perm_cons x).mp p) a2 b2]
def sgN (k : Nat) : Nat := if k < 26 then 97 + k else 22 + k
def sh4 (k : Nat) (z : Str) : Prop := ∃ c r, z.cps.toList = c :: (r ++ [sgN k]) ∧ r.length ≤ 6 ∧ (97 ≤ c ∧ c ≤ 122) ∧ ∀ x ∈ r, nmSign x = true
theorem join_cps : ∀ ys : List Str, (Txt.join "" ys).cps.toList = ys.flatMap fun y => y.cps.toList := by
  intro ys
  show (Builtin.Str.glued "" ys).cps.toList = _
  rw [StrLaws.glued_eq_join]
  induction ys with
  | nil => rfl
  | cons x r ih =>
    cases r with
    | nil => simp [Str.join]
    | cons y s =>
      show ((x ++ "" ++ Str.join "" (y :: s)).cps.toList) = _
      rw [app_cps, app_cps, ih, List.flatMap_cons (x := x)]
      have e : ("" : Str).cps.toList = [] := by decide +kernel
      rw [e, List.append_nil]
def rJoin (K : PySem.W.Frag) : V → List V → Hp → VK → Prop := fun x xs H Q => ∃ a p, ∃ ys : List Str, x = .str a ∧ xs = [.ref p] ∧ (SqL K H p (ys.map V.str) ∨ SqT K H p (ys.map V.str)) ∧ (ys.map (·.length)).sum + ys.length * a.length ≤ 16777216 ∧ Q (.str (Txt.join a ys)) H
theorem kpe_join {X : Cx} {K : PySem.W.Frag} {o e : Expr} {to te : TE} {apos pos : Pos} (ho : PE X o to) (he : PE X e te) (hK : X.K = K := by rfl) (hs : starEach [e] X.env = [(false, eval e X.env)] := by rfl) (hbase : attributeBase o "join" X.env (eval o X.env) = eval o X.env := by rfl) (hline : (apos.endLine == pos.line) = true := by rfl) :
    PE X (.Call (.Attribute o "join" apos) [e] [] pos) (tM1 (rJoin K) to te) := by subst hK; exact pe_join ho he hs hbase hline
theorem i_m1 {σ : L2.St} {H : Hp} {Q : VK} {r : V → List V → Hp → VK → Prop} {to te : TE} (h : to σ H fun x H1 => (∃ a, x = .str a) ∧ te σ H1 fun y H2 => r x [y] H2 Q) : tM1 r to te σ H Q := h
abbrev tsD (l : List Str) : PyData := .tuple (l.map .str)
theorem map_str_inj {l m : List Str} (e : l.map PyData.str = m.map PyData.str) : l = m := by
  induction l generalizing m with
  | nil =>
    cases m with
    | nil => rfl
    | cons y s => simp at e
  | cons x r ih =>
    cases m with
    | nil => simp at e
    | cons y s =>
      rw [List.map_cons, List.map_cons] at e
      injection e with e1 e2
      injection e1 with e3
      rw [e3, ih e2]
theorem ts_dp {K : PySem.W.Frag} {H : Hp} {p : Addr} {l : List Str} (h : SqT K H p (l.map V.str)) : Dp K H (.ref p) (tsD l) := .tup h (DpAll.strs l)
theorem Fd.same {H H' : Hp} {a : Addr} {c : Int} (h : Fd H a c) (s : Same H H') : Fd H' a c := let ⟨x, y, n, h1, h2⟩ := h; ⟨x, y, n, s _ _ h1, h2⟩
theorem i_neB {i j : Bool} {H : Hp} {Q : VK} (h : Q (.bl (!decide (i = j))) H) : rNe (.bl i) (.bl j) H Q := ⟨rfl, by
  have e : (!decide (V.bl i = V.bl j)) = (!decide (i = j)) := by
    by_cases z : i = j
    · subst z
      simp
    · rw [decide_eq_false z, decide_eq_false (fun c => z (by injection c))]
  rw [e]
  exact h⟩
end
section
open L2 PySem PySem.Spec PyProof.Rows
inductive Mv
  | turn
  | swap (i : Nat)
def mvD : Mv → PyData
  | .turn => .tuple [.str "turn"]
  | .swap i => .tuple [.str "swap", .int ((i : Nat) : Int)]
def Mv.run (qs : List Str) : Mv → List Str
  | .turn => rot qs
  | .swap i => sw qs i
def Mv.ok (rs : List (Str × Str)) (qs : List Str) : Mv → Prop
  | .turn => True
  | .swap i => ∃ x y, qs[i]? = some x ∧ qs[i + 1]? = some y ∧ isRoad rs x y = false
def okM (rs : List (Str × Str)) : List Mv → List Str → Prop
  | [], _ => True
  | m :: ms, qs => m.ok rs qs ∧ okM rs ms (m.run qs)
def runM (ms : List Mv) (qs : List Str) : List Str := ms.foldl Mv.run qs
theorem run_perm {rs : List (Str × Str)} {qs : List Str} {m : Mv} (h : m.ok rs qs) : (m.run qs).Perm qs := by
  cases m with
  | turn => exact rot_perm qs
  | swap i =>
    obtain ⟨x, y, hx, hy, _⟩ := h
    exact sw_perm (List.getElem?_eq_some_iff.mp hy).1
theorem runM_perm {rs : List (Str × Str)} : ∀ (ms : List Mv) (qs : List Str), okM rs ms qs → (runM ms qs).Perm qs
  | [], qs, _ => List.Perm.refl _
  | m :: ms, qs, h => (runM_perm ms _ h.2).trans (run_perm h.1)
theorem okM_app {rs : List (Str × Str)} : ∀ (ms more : List Mv) (qs : List Str), okM rs ms qs → okM rs more (runM ms qs) → okM rs (ms ++ more) qs
  | [], _, _, _, h => h
  | m :: ms, more, qs, h, h2 => ⟨h.1, okM_app ms more _ h.2 h2⟩
theorem runM_app (ms more : List Mv) (qs : List Str) : runM (ms ++ more) qs = runM more (runM ms qs) := List.foldl_append
end
section
open L2 PySem PySem.Spec PyProof.Rows
structure Gd (d : PyData) (w p : Nat) : Prop where
  lay : d.canLay0 = true
  sho : d.showable = true
  dct : d.hasDict = false
  dep : d.depth ≤ p
  wei : d.weight ≤ w
  sml : d.intsShort 13 = true
structure GA (ds : List PyData) (w p : Nat) : Prop where
  lay : PyData.canLayAll0 ds = true
  sho : PyData.showableAll ds = true
  dct : PyData.hasDictAll ds = false
  dep : PyData.depthAll ds ≤ p
  wei : PyData.weightAll ds ≤ w
  sml : PyData.intsShortAll 13 ds = true
theorem GA.nil {p : Nat} : GA [] 0 p := ⟨rfl, rfl, rfl, Nat.zero_le _, Nat.le_refl _, rfl⟩
theorem GA.cons {d : PyData} {ds : List PyData} {w1 w2 p : Nat} (a : Gd d w1 p) (b : GA ds w2 p) : GA (d :: ds) (w1 + 1 + w2) p where
  lay := by show (d.canLay0 && PyData.canLayAll0 ds) = true; rw [a.lay, b.lay]; rfl
  sho := by show (d.showable && PyData.showableAll ds) = true; rw [a.sho, b.sho]; rfl
  dct := by show (d.hasDict || PyData.hasDictAll ds) = false; rw [a.dct, b.dct]; rfl
  dep := by have h1 := a.dep; have h2 := b.dep; show max d.depth (PyData.depthAll ds) ≤ p; omega
  wei := by have h1 := a.wei; have h2 := b.wei; show d.weight + 1 + PyData.weightAll ds ≤ _; omega
  sml := by show (PyData.intsShort 13 d && PyData.intsShortAll 13 ds) = true; rw [a.sml, b.sml]; rfl
theorem GA.mono {ds : List PyData} {w w' p p' : Nat} (a : GA ds w p) (h : w ≤ w') (h2 : p ≤ p') : GA ds w' p' := ⟨a.lay, a.sho, a.dct, Nat.le_trans a.dep h2, Nat.le_trans a.wei h, a.sml⟩
theorem Gd.mono {d : PyData} {w w' p p' : Nat} (a : Gd d w p) (h : w ≤ w') (h2 : p ≤ p') : Gd d w' p' := ⟨a.lay, a.sho, a.dct, Nat.le_trans a.dep h2, Nat.le_trans a.wei h, a.sml⟩
theorem GA.tup {ds : List PyData} {w p : Nat} (a : GA ds w p) : Gd (.tuple ds) w (p + 1) := ⟨a.lay, a.sho, a.dct, Nat.succ_le_succ a.dep, a.wei, a.sml⟩
theorem GA.of {p w : Nat} : ∀ ds : List PyData, (∀ d ∈ ds, Gd d w p) → GA ds ((w + 1) * ds.length) p
  | [], _ => GA.nil.mono (Nat.zero_le _) (Nat.le_refl _)
  | d :: ds, h => (GA.cons (h d List.mem_cons_self) (GA.of ds fun e he => h e (List.mem_cons_of_mem _ he))).mono (by rw [List.length_cons, Nat.mul_succ]; omega) (Nat.le_refl _)
theorem Gd.text {z : Str} {p : Nat} (h : PyData.strOk z = true) (w : Nat) (hw : z.cps.size ≤ w) : Gd (.str z) w p := ⟨h, rfl, rfl, Nat.zero_le _, hw, rfl⟩
theorem Gd.name {z : Str} {p : Nat} (h : nmOk z = true) : Gd (.str z) 8 p := .text (nmOk_str h) 8 (nm_size h)
theorem Gd.nat {n p : Nat} (h : n < 300) : Gd (.int ((n : Nat) : Int)) 10 p := by
  obtain ⟨a, b, c, d⟩ := small_int h
  exact ⟨a, d, rfl, Nat.zero_le _, b, c⟩
end
section
open L2 PySem PySem.Spec PyProof.Rows
open PySem PySem.W
section
variable {prog : Program} {w : World} {A : Around} {E : Value → Shared → Prop} {s : Shared} {z TI TO i1 i2 : Addr} {fp1 fp2 : List Addr} {n1 n2 i : Nat} {P1 P2 : Nat → Value → Prop} {St1 St2 : Nat → Heap → Prop}
theorem heldNext {T : Addr} {f : Bool} {oT : Obj} {Q : Value → Shared → Prop} (S : ZipSep2 z TI TO i1 i2 fp1 fp2) (G1 : Draws prog w A i1 fp1 n1 P1 St1) (G2 : Draws prog w A i2 fp2 n2 P2 St2)
    (zH : IsZipHeld s.heap z TI TO T f) (oH : s.heap.get? T = some oT) (iH : IsTupOf2 s.heap TI (.ref i1) (.ref i2)) (a1 : St1 i s.heap) (a2 : St2 i s.heap) (l1 : i < n1) (l2 : i < n2)
    (q : ∀ x y g tk, P1 i x → P2 i y → IsZipHeld g z TI TO T true → St1 (i + 1) g → St2 (i + 1) g → IsTupOf2 g s.heap.objs.size x y → g.objs.size = s.heap.objs.size + 1 →
      (∀ c o, c ≠ z → c ≠ i1 → c ≠ i2 → s.heap.get? c = some o → g.get? c = some o) → Q (.ref s.heap.objs.size) { s with heap := g, toks := tk }) :
    wpAny (model prog w) A (Builtin.«zip.__next__» ⟨[.ref z], []⟩) (fun fin s' => ∃ v, fin = .done (.ret v) ∧ Q v s') E s := by
  obtain ⟨hp, ge, dr, tk0, os⟩ := s
  show wpAny _ _ (field (.ref z) 2 >>= _) _ _ _
  refine wpAny_bind (wpAny_field zH rfl (x := .bool false) rfl ?_)
  show wpAny _ _ (field (.ref z) 3 >>= _) _ _ _
  refine wpAny_bind (wpAny_field zH rfl (x := .ref TI) rfl (wpAny_bind (wpAny_seqItems iH rfl ?_)))
  show wpAny _ _ (Builtin.SmallTypes.ownedTupleIsFree (.ref z) >>= _) _ _ _
  refine wpAny_bind (wpAny_tupleHeld_zip zH oH fun g1 zG1 sG1 => ?_)
  replace sG1 : Heap.SameBut z hp g1 := sG1
  simp only [Bool.false_eq_true, if_false]
  refine wpAny_bind ?_
  rw [← Array.forIn_toList]
  simp only [List.forIn_nil, List.forIn_cons]
  refine wpAny_bind (wpAny_bind (wpAny_holding ?_))
  show wpAny _ _ (Builtin.SmallTypes.nextOf (.ref i1) >>= _) _ _ ⟨g1, ge, dr, tk0, os⟩
  refine wpAny_bind (G1.item i _ _ _ l1 (G1.over a1 sG1 S.zf1) fun x g2 tk1 px b1 sG2 => wpAny_pure (wpAny_pure ?_))
  replace sG2 : Heap.SameBut i1 g1 g2 := sG2
  refine wpAny_bind (wpAny_bind (wpAny_holding ?_))
  show wpAny _ _ (Builtin.SmallTypes.nextOf (.ref i2) >>= _) _ _ ⟨g2, ge, dr, tk1, os⟩
  refine wpAny_bind (G2.item i _ _ _ l2 (G2.over (G2.over a2 sG1 S.zf2) sG2 S.sep1_2) fun y g3 tk2 py b2 sG3 => wpAny_pure (wpAny_pure (wpAny_pure ?_)))
  replace sG3 : Heap.SameBut i2 g2 g3 := sG3
  show wpAny _ _ (newTuple [x, y] >>= _) _ _ ⟨g3, ge, dr, tk2, os⟩
  refine wpAny_bind (wpAny_newTuple (wpAny_pure ⟨_, rfl, ?_⟩))
  have sz : g3.objs.size = hp.objs.size := by rw [sG3.1, sG2.1, sG1.1]
  have up : ∀ c o, c ≠ z → c ≠ i1 → c ≠ i2 → hp.get? c = some o → g3.get? c = some o := fun c o c1 c2 c3 e => sG3.extBut _ _ c3 (sG2.extBut _ _ c2 (sG1.extBut _ _ c1 e))
  have zG3 : IsZipHeld g3 z TI TO T true := sG3.extBut _ _ S.zi2 (sG2.extBut _ _ S.zi1 zG1)
  have c1 : St1 (i + 1) g3 := G1.over b1 sG3 S.sep2_1
  have pN : IsTupOf2 (g3.push { cls := .type "tuple", data := .seq #[x, y] }) g3.objs.size x y := Heap.get?_push_size _ rfl
  have sN : (g3.push { cls := .type "tuple", data := .seq #[x, y] }).objs.size = g3.objs.size + 1 := Heap.size_push ..
  show Q (.ref g3.objs.size) _
  rw [sz] at pN sN ⊢
  exact q x y _ tk2 px py (Heap.get?_push_of_some _ zG3) (G1.frame _ _ _ c1 fun b _ o e => Heap.get?_push_of_some _ e) (G2.frame _ _ _ b2 fun b _ o e => Heap.get?_push_of_some _ e) pN sN fun c o d1 d2 d3 e => Heap.get?_push_of_some _ (up c o d1 d2 d3 e)
theorem heldStop {T : Addr} {f : Bool} {oT : Obj} {Q : Fin → Shared → Prop} (S : ZipSep2 z TI TO i1 i2 fp1 fp2) (G1 : Draws prog w A i1 fp1 n1 P1 St1)
    (zH : IsZipHeld s.heap z TI TO T f) (oH : s.heap.get? T = some oT) (iH : IsTupOf2 s.heap TI (.ref i1) (.ref i2)) (a1 : St1 n1 s.heap)
    (q : ∀ g e, (∀ c o, c ≠ z → c ≠ i1 → s.heap.get? c = some o → g.get? c = some o) → (∃ o, g.get? e = some o ∧ o.cls = .type "StopIteration") → E (.ref e) { s with heap := g }) :
    wpAny (model prog w) A (Builtin.«zip.__next__» ⟨[.ref z], []⟩) Q E s := by
  obtain ⟨hp, ge, dr, tk0, os⟩ := s
  show wpAny _ _ (field (.ref z) 2 >>= _) _ _ _
  refine wpAny_bind (wpAny_field zH rfl (x := .bool false) rfl ?_)
  show wpAny _ _ (field (.ref z) 3 >>= _) _ _ _
  refine wpAny_bind (wpAny_field zH rfl (x := .ref TI) rfl (wpAny_bind (wpAny_seqItems iH rfl ?_)))
  show wpAny _ _ (Builtin.SmallTypes.ownedTupleIsFree (.ref z) >>= _) _ _ _
  refine wpAny_bind (wpAny_tupleHeld_zip zH oH fun g1 zG1 sG1 => ?_)
  replace sG1 : Heap.SameBut z hp g1 := sG1
  simp only [Bool.false_eq_true, if_false]
  refine wpAny_bind ?_
  rw [← Array.forIn_toList]
  simp only [List.forIn_nil, List.forIn_cons]
  refine wpAny_bind (wpAny_bind (wpAny_holding ?_))
  show wpAny _ _ (Builtin.SmallTypes.nextOf (.ref i1) >>= _) _ _ ⟨g1, ge, dr, tk0, os⟩
  exact wpAny_bind (G1.done ⟨g1, ge, dr, tk0, os⟩ _ _ (G1.over a1 sG1 S.zf1) fun g e kG he => q g e (fun c o c1 c2 x => kG _ _ c2 (sG1.extBut _ _ c1 x)) he)
end
def ZKept (z TI TO i1 i2 S : Addr) (St1 St2 : Nat → Heap → Prop) (i : Nat) (h : Heap) : Prop :=
  ((i = 0 ∧ IsZip h z TI TO .none) ∨ ∃ T f oT, IsZipHeld h z TI TO T f ∧ h.get? T = some oT ∧ T ≠ S ∧ T ≠ z ∧ T ≠ i1 ∧ T ≠ i2) ∧ IsTupOf2 h TI (.ref i1) (.ref i2) ∧ (∃ a b, IsTupOf2 h TO a b) ∧ St1 i h ∧ St2 i h
section
variable {prog : Program} {w : World} {A : Around} {E : Value → Shared → Prop} {s : Shared} {z TI TO i1 i2 S : Addr} {fp1 fp2 : List Addr} {n1 n2 i : Nat} {P1 P2 : Nat → Value → Prop} {St1 St2 : Nat → Heap → Prop}
theorem ZKept.over {h g : Heap} (k : ZKept z TI TO i1 i2 S St1 St2 i h) (G1 : Draws prog w A i1 fp1 n1 P1 St1) (G2 : Draws prog w A i2 fp2 n2 P2 St2) (hz : z ≠ S) (hI : TI ≠ S) (hO : TO ≠ S) (h1 : S ∉ fp1) (h2 : S ∉ fp2)
    (up : ∀ b o, b ≠ S → h.get? b = some o → g.get? b = some o) : ZKept z TI TO i1 i2 S St1 St2 i g := by
  obtain ⟨k0, kI, ⟨a, b, kO⟩, k1, k2⟩ := k
  refine ⟨?_, up _ _ hI kI, ⟨a, b, up _ _ hO kO⟩, G1.frame _ _ _ k1 fun b hb o e => up b o (fun z => h1 (z ▸ hb)) e, G2.frame _ _ _ k2 fun b hb o e => up b o (fun z => h2 (z ▸ hb)) e⟩
  rcases k0 with ⟨e, k0⟩ | ⟨T, f, oT, k0, kT, c1, c2⟩
  · exact .inl ⟨e, up _ _ hz k0⟩
  · exact .inr ⟨T, f, oT, up _ _ hz k0, up _ _ c1 kT, c1, c2⟩
theorem keptNext {Q : Option Value → Shared → Prop} (D : ZipSep2 z TI TO i1 i2 fp1 fp2) (G1 : Draws prog w A.in1 i1 fp1 n1 P1 St1) (G2 : Draws prog w A.in1 i2 fp2 n2 P2 St2) (k : ZKept z TI TO i1 i2 S St1 St2 i s.heap) (hS : S < s.heap.objs.size) (l1 : i < n1) (l2 : i < n2)
    (q : ∀ x y g tk, P1 i x → P2 i y → ZKept z TI TO i1 i2 S St1 St2 (i + 1) g → IsTupOf2 g s.heap.objs.size x y → g.objs.size = s.heap.objs.size + 1 →
      (∀ c o, c ≠ z → c ≠ TO → c ≠ i1 → c ≠ i2 → s.heap.get? c = some o → g.get? c = some o) → Q (some (.ref s.heap.objs.size)) { s with heap := g, toks := tk }) : wpAny (model prog w) A (pyNext (.ref z)) Q E s := by
  obtain ⟨k0, kI, ⟨a, b, kO⟩, k1, k2⟩ := k
  have lt : ∀ {c o}, s.heap.get? c = some o → s.heap.objs.size ≠ c := fun e => Nat.ne_of_gt (Heap.lt_size e)
  have u1 : s.heap.objs.size ≠ i1 := let ⟨_, e⟩ := G1.live _ _ k1; lt e
  have u2 : s.heap.objs.size ≠ i2 := let ⟨_, e⟩ := G2.live _ _ k2; lt e
  rcases k0 with ⟨rfl, k0⟩ | ⟨T, f, oT, k0, kT, c1, c2, c3, c4⟩
  · exact wpAny_pyNext_zipD2_item D G1 G2 k0 kI kO k1 k2 l1 l2 fun x y g tk px py gz gO g1 g2 gp gs up =>
      q x y g tk px py ⟨.inr ⟨_, _, _, gz, gp, Nat.ne_of_gt hS, lt k0, u1, u2⟩, up _ _ D.TIz D.TITO D.TIi1 D.TIi2 kI, ⟨_, _, gO⟩, g1, g2⟩ gp gs up
  · have ty : s.TypeIs (.ref z) "zip" := ⟨_, k0, rfl⟩
    unfold pyNext
    exact wpAny_bind (wpAny_attempt (wpAny_callSpecial?_slot (name := Str.ofString "__next__") ty F.slot_zip_next
      (wpAny_call_entry F.slot_zip_next ty F.entry_zip_next (heldNext D G1 G2 k0 kT kI k1 k2 l1 l2 fun x y g tk px py gz g1 g2 gp gs up => wpAny_pure
        (q x y g tk px py ⟨.inr ⟨T, true, oT, gz, up _ _ c2 c3 c4 kT, c1, c2, c3, c4⟩, up _ _ D.TIz D.TIi1 D.TIi2 kI, ⟨a, b, up _ _ D.TOz D.Ti1 D.Ti2 kO⟩, g1, g2⟩ gp gs fun c o d1 _ d3 d4 e => up c o d1 d3 d4 e)) (F.args_zip_next_1 _))))
theorem keptStop {Q : Option Value → Shared → Prop} (D : ZipSep2 z TI TO i1 i2 fp1 fp2) (G1 : Draws prog w A.in1 i1 fp1 n1 P1 St1) (k : ZKept z TI TO i1 i2 S St1 St2 n1 s.heap) (h0 : 0 < n1)
    (q : ∀ g, (∀ c o, c ≠ z → c ≠ i1 → s.heap.get? c = some o → g.get? c = some o) → Q none { s with heap := g }) : wpAny (model prog w) A (pyNext (.ref z)) Q E s := by
  obtain ⟨k0, kI, _, k1, _⟩ := k
  rcases k0 with ⟨e, _⟩ | ⟨T, f, oT, k0, kT, _⟩
  · omega
  have ty : s.TypeIs (.ref z) "zip" := ⟨_, k0, rfl⟩
  unfold pyNext
  refine wpAny_bind (wpAny_attempt (wpAny_callSpecial?_slot (name := Str.ofString "__next__") ty F.slot_zip_next
    (wpAny_call_entry F.slot_zip_next ty F.entry_zip_next (heldStop D G1 k0 kT kI k1 fun g e up ⟨o, ho, hc⟩ => ?_) (F.args_zip_next_1 _))))
  exact wpAny_bind (wpAny_isInstance (T := "StopIteration") (b := true) ⟨o, ho, hc⟩ isSubtype_stop (wpAny_pure (q _ up)))
end
structure PairsAt (P1 P2 : Nat → Value → Prop) (lo : Addr) (h : Heap) (as : List Addr) : Prop where
  rise : as.Pairwise (· < ·)
  above : ∀ a ∈ as, lo < a
  pairs : ∀ (j : Nat) (a : Addr), as[j]? = some a → ∃ x y, P1 j x ∧ P2 j y ∧ IsTupOf2 h a x y
section
variable {prog : Program} {w : World} {A : Around} {s : Shared} {R : Result → Shared → Prop} {z TI TO i1 i2 S : Addr} {fp1 fp2 : List Addr} {n1 n2 : Nat} {P1 P2 : Nat → Value → Prop} {St1 St2 : Nat → Heap → Prop}
theorem keptLoop (D : ZipSep2 z TI TO i1 i2 fp1 fp2) (G1 : Draws prog w A.in1.in1 i1 fp1 n1 P1 St1) (G2 : Draws prog w A.in1.in1 i2 fp2 n2 P2 St2) (h0 : 0 < n1) (h12 : n1 ≤ n2) (hn : n1 ≤ 1000)
    (hz : z < S) (hI : TI < S) (hO : TO < S) (hi1 : i1 < S) (hi2 : i2 < S) (f1 : S ∉ fp1) (f2 : S ∉ fp2) (res : Value) {h1 : Heap}
    (hR : ∀ g tk acc c as, (∀ b o, b ≠ S → b ≠ z → b ≠ TO → b ≠ i1 → b ≠ i2 → h1.get? b = some o → g.get? b = some o) → g.get? S = some { cls := .type "list", dict := none, data := .seq acc c, slots := #[] } → as.length = n1 → PairsAt P1 P2 S g as →
      acc.toList = as.map Value.ref → R (.ok (.ret res)) { s with heap := g, toks := tk }) :
    ∀ (k i : Nat) (h : Heap) (tk c : Nat) (acc : Array Value) (as : List Addr), n1 - i = k → i ≤ n1 → ZKept z TI TO i1 i2 S St1 St2 i h → (∀ b o, b ≠ S → b ≠ z → b ≠ TO → b ≠ i1 → b ≠ i2 → h1.get? b = some o → h.get? b = some o) →
      h.get? S = some { cls := .type "list", dict := none, data := .seq acc c, slots := #[] } → acc.toList = as.map Value.ref → as.length = i → PairsAt P1 P2 S h as →
      codeAny (model prog w) A (.builtin "list.extend.loop" ⟨[.ref S, .ref z, res], []⟩) R { s with heap := h, toks := tk } := by
  intro k
  induction k with
  | zero =>
    intro i h tk c acc as hk hi hZ up hS hacc hal hP
    obtain rfl : i = n1 := by omega
    refine codeAny_builtin F.entry_extend_loop ?_
    rw [Around.under_plainId F.plain_extend_loop _]
    show wpAny _ A.in1 (pyNext (.ref z) >>= _) _ _ _
    refine wpAny_bind (keptStop (s := { s with heap := h, toks := tk }) (A := A.in1) D G1 hZ h0 fun g ug => ?_)
    refine wpAny_pure (hR g tk acc c as (fun b o c1 c2 c3 c4 c5 e => ug b o c2 c4 (up b o c1 c2 c3 c4 c5 e)) (ug S _ (Nat.ne_of_gt hz) (Nat.ne_of_gt hi1) hS) hal ⟨hP.rise, hP.above, fun j a hj => ?_⟩ hacc)
    obtain ⟨x, y, e1, e2, e3⟩ := hP.pairs j a hj
    have ha := hP.above a (List.mem_of_getElem? hj)
    exact ⟨x, y, e1, e2, ug a _ (Nat.ne_of_gt (Nat.lt_trans hz ha)) (Nat.ne_of_gt (Nat.lt_trans hi1 ha)) e3⟩
  | succ k ih =>
    intro i h tk c acc as hk hi hZ up hS hacc hal hP
    have hlt : i < n1 := by omega
    have hsz : acc.size = i := by rw [← Array.length_toList, hacc, List.length_map, hal]
    have hSl : S < h.objs.size := Heap.lt_size hS
    refine codeAny_builtin F.entry_extend_loop ?_
    rw [Around.under_plainId F.plain_extend_loop _]
    show wpAny _ A.in1 (pyNext (.ref z) >>= _) _ _ _
    refine wpAny_bind (keptNext (s := { s with heap := h, toks := tk }) (A := A.in1) D G1 G2 hZ hSl hlt (by omega) fun x y g tk2 px py zg gp gs ug => ?_)
    dsimp only at gp gs ug ⊢
    have hSg := ug S _ (Nat.ne_of_gt hz) (Nat.ne_of_gt hO) (Nat.ne_of_gt hi1) (Nat.ne_of_gt hi2) hS
    have vs : ∀ b o, b ≠ S → g.get? b = some o → (g.update S (Obj.mapSeq (·.push (Value.ref h.objs.size)))).get? b = some o := fun b o hb e => (Heap.get?_update_other _ _ (Ne.symm hb)).trans e
    have old : ∀ b o, S < b → h.get? b = some o → (g.update S (Obj.mapSeq (·.push (Value.ref h.objs.size)))).get? b = some o := fun b o hb e =>
      vs b o (Nat.ne_of_gt hb) (ug b o (Nat.ne_of_gt (Nat.lt_trans hz hb)) (Nat.ne_of_gt (Nat.lt_trans hO hb)) (Nat.ne_of_gt (Nat.lt_trans hi1 hb)) (Nat.ne_of_gt (Nat.lt_trans hi2 hb)) e)
    show wpAny _ A.in1 (updateSeq S (·.push (Value.ref h.objs.size)) >>= _) _ _ _
    refine wpAny_bind ?_
    refine wpAny_updateSeq hSg rfl (wpAny_pure ⟨plainId_quiet F.plain_extend_loop _, ih (i + 1) _ tk2 _ (acc.push (Value.ref h.objs.size)) (as ++ [h.objs.size]) (by omega) hlt
      (zg.over G1 G2 (Nat.ne_of_lt hz) (Nat.ne_of_lt hI) (Nat.ne_of_lt hO) f1 f2 vs) (fun b o c1 c2 c3 c4 c5 e => vs b o c1 (ug b o c2 c3 c4 c5 (up b o c1 c2 c3 c4 c5 e))) (Heap.get?_update_self _ hSg rfl)
      (by rw [Array.toList_push, hacc, List.map_append]; rfl) (by rw [List.length_append, hal]; rfl) ⟨?_, ?_, ?_⟩⟩) (by rw [hsz, sizeLine_eq]; omega) (by show (acc.push (Value.ref h.objs.size)).size ≤ sizeLine + 1; rw [Array.size_push, hsz, sizeLine_eq]; omega)
    · refine List.pairwise_append.mpr ⟨hP.rise, List.pairwise_singleton _ _, fun a ha b hb => ?_⟩
      rw [List.mem_singleton.mp hb]
      obtain ⟨j, hj⟩ := List.mem_iff_getElem?.mp ha
      obtain ⟨_, _, _, _, e⟩ := hP.pairs j a hj
      exact Heap.lt_size e
    · intro a ha
      rcases List.mem_append.mp ha with ha | ha
      · exact hP.above a ha
      · rw [List.mem_singleton.mp ha]
        exact hSl
    · intro j b hj
      by_cases h1 : j < as.length
      · rw [List.getElem?_append_left h1] at hj
        obtain ⟨x', y', e1, e2, e3⟩ := hP.pairs j b hj
        exact ⟨x', y', e1, e2, old b _ (hP.above b (List.mem_of_getElem? hj)) e3⟩
      · have hjl := (List.getElem?_eq_some_iff.mp hj).1
        rw [List.length_append, List.length_singleton] at hjl
        obtain rfl : j = as.length := by omega
        have hb : h.objs.size = b := by simpa using hj
        subst hb
        exact ⟨x, y, by rw [hal]; exact px, by rw [hal]; exact py, vs _ _ (Nat.ne_of_gt hSl) gp⟩
theorem zip_no_len : typeLookup (.type "zip") "__len__" = pure none := am_miss_of_fast (by decide +kernel)
theorem zip_no_hint : typeLookup (.type "zip") "__length_hint__" = pure none := am_miss_of_fast (by decide +kernel)
theorem keptExtend (D : ZipSep2 z TI TO i1 i2 fp1 fp2) (G1 : Draws prog w A.in1.in1 i1 fp1 n1 P1 St1) (G2 : Draws prog w A.in1.in1 i2 fp2 n2 P2 St2) (h0 : 0 < n1) (h12 : n1 ≤ n2) (hn : n1 ≤ 1000)
    (hz : z < S) (hI : TI < S) (hO : TO < S) (hi1 : i1 < S) (hi2 : i2 < S) (f1 : S ∉ fp1) (f2 : S ∉ fp2) (res : Value) (kz : IsZip s.heap z TI TO .none) (kI : IsTupOf2 s.heap TI (.ref i1) (.ref i2)) (kO : ∃ a b, IsTupOf2 s.heap TO a b) (a1 : St1 0 s.heap) (a2 : St2 0 s.heap)
    (c₀ : Nat) (hS : s.heap.get? S = some { cls := .type "list", data := .seq #[] c₀ })
    (hR : ∀ g tk acc c as, (∀ b o, b ≠ S → b ≠ z → b ≠ TO → b ≠ i1 → b ≠ i2 → s.heap.get? b = some o → g.get? b = some o) → g.get? S = some { cls := .type "list", dict := none, data := .seq acc c, slots := #[] } → as.length = n1 → PairsAt P1 P2 S g as →
      acc.toList = as.map Value.ref → R (.ok (.ret res)) { s with heap := g, toks := tk }) :
    wpAny (model prog w) A.in1 (Builtin.List.listExtendWith (.ref S) (.ref z) res)
      (fun fin s' => match fin with | .done f => R (.ok f) s' | .again c' => c'.quiet = true ∧ codeAny (model prog w) A c' R s') (fun e s' => R (.error e) s') s := by
  have ty : s.TypeIs (.ref z) "zip" := ⟨_, kz, rfl⟩
  have kZ : ZKept z TI TO i1 i2 S St1 St2 0 s.heap := ⟨.inl ⟨rfl, kz⟩, kI, kO, a1, a2⟩
  unfold Builtin.List.listExtendWith
  refine wpAny_bind (wpAny_typeOf ty ?_)
  have e1 : Builtin.List.listSameRef (.ref S) (.ref z) = false := by simp [Builtin.List.listSameRef, Nat.ne_of_gt hz]
  have e2 : (Value.type "zip" == Value.type "list") = false := by decide
  have e3 : (Value.type "zip" == Value.type "tuple") = false := by decide
  simp only [e1, e2, e3, Bool.or_false, Bool.false_eq_true, if_false]
  refine wpAny_bind (wpAny_pyIter_zip kz (wpAny_bind (wpAny_holding ?_)))
  unfold Builtin.List.listLengthHint
  refine wpAny_bind (wpAny_specialOf ty zip_no_len ?_)
  show wpAny _ A.in1 (specialOf (Value.ref z) (Str.ofString "__length_hint__") >>= _) _ _ _
  refine wpAny_bind (wpAny_specialOf ty zip_no_hint ?_)
  refine wpAny_pure ?_
  show wpAny _ A.in1 (rule "list.extend.makes-room" >>= fun _ => Builtin.List.listTouch (.ref S) >>= fun _ => again (.builtin "list.extend.loop" ⟨[.ref S, .ref z, res], []⟩)) _ _ _
  refine wpAny_bind (wpAny_rule (wpAny_bind ?_))
  show wpAny _ A.in1 (updateSeq S (·.push .none) >>= fun _ => updateSeq S (·.pop)) _ _ _
  refine wpAny_bind (wpAny_updateSeq hS rfl ?_)
  have hS2 := Heap.get?_update_self (Obj.mapSeq (·.push Value.none)) hS rfl
  refine wpAny_updateSeq (hz := by seq_fits) hS2 rfl ?_
  have hS3 := Heap.get?_update_self (Obj.mapSeq (·.pop)) hS2 rfl
  have up : ∀ b o, b ≠ S → s.heap.get? b = some o → ((s.heap.update S (Obj.mapSeq (·.push Value.none))).update S (Obj.mapSeq (·.pop))).get? b = some o :=
    fun b o hb e => (Heap.get?_update_other _ _ (Ne.symm hb)).trans ((Heap.get?_update_other _ _ (Ne.symm hb)).trans e)
  exact wpAny_pure ⟨plainId_quiet F.plain_extend_loop _, keptLoop (s := s) (h1 := s.heap) D G1 G2 h0 h12 hn hz hI hO hi1 hi2 f1 f2 res hR n1 0 _ s.toks _ #[] [] (Nat.sub_zero _) (Nat.zero_le _)
    (kZ.over G1 G2 (Nat.ne_of_lt hz) (Nat.ne_of_lt hI) (Nat.ne_of_lt hO) f1 f2 up) (fun b o hb _ _ _ _ e => up b o hb e) hS3 rfl rfl ⟨List.Pairwise.nil, (fun _ ha => nomatch ha), (fun j a hj => by simp at hj)⟩⟩
theorem keptInit (D : ZipSep2 z TI TO i1 i2 fp1 fp2) (G1 : Draws prog w A.in1.in1 i1 fp1 n1 P1 St1) (G2 : Draws prog w A.in1.in1 i2 fp2 n2 P2 St2) (h0 : 0 < n1) (h12 : n1 ≤ n2) (hn : n1 ≤ 1000)
    (hz : z < S) (hI : TI < S) (hO : TO < S) (hi1 : i1 < S) (hi2 : i2 < S) (f1 : S ∉ fp1) (f2 : S ∉ fp2) (kz : IsZip s.heap z TI TO .none) (kI : IsTupOf2 s.heap TI (.ref i1) (.ref i2)) (kO : ∃ a b, IsTupOf2 s.heap TO a b) (a1 : St1 0 s.heap) (a2 : St2 0 s.heap)
    (hS : s.heap.get? S = some { cls := .type "list", data := .seq #[] })
    (hR : ∀ g tk acc c as, (∀ b o, b ≠ S → b ≠ z → b ≠ TO → b ≠ i1 → b ≠ i2 → s.heap.get? b = some o → g.get? b = some o) → g.get? S = some { cls := .type "list", dict := none, data := .seq acc c, slots := #[] } → as.length = n1 → PairsAt P1 P2 S g as →
      acc.toList = as.map Value.ref → R (.ok (.ret .none)) { s with heap := g, toks := tk }) :
    wpAny (model prog w) A.in1 (Builtin.«list.__init__» ⟨[.ref S, .ref z], []⟩)
      (fun fin s' => match fin with | .done f => R (.ok f) s' | .again c' => c'.quiet = true ∧ codeAny (model prog w) A c' R s') (fun e s' => R (.error e) s') s := by
  show wpAny _ A.in1 (do let old ← Builtin.List.listItems (.ref S); Builtin.List.listUpdate (.ref S) (fun _ => #[]); letGo old.toList.reverse; Builtin.List.listExtendWith (.ref S) (.ref z) .none) _ _ s
  refine wpAny_bind ?_
  unfold Builtin.List.listItems
  refine wpAny_bind (wpAny_seqItems hS rfl (wpAny_pure ?_))
  show wpAny _ A.in1 (updateSeq S (fun _ => #[]) >>= fun _ => letGo (#[] : Array Value).toList.reverse >>= fun _ => Builtin.List.listExtendWith (.ref S) (.ref z) .none) _ _ s
  refine wpAny_bind (wpAny_updateSeq hS rfl ?_)
  have hS2 := Heap.get?_update_self (Obj.mapSeq (fun _ => (#[] : Array Value))) hS rfl
  have up : ∀ b o, b ≠ S → s.heap.get? b = some o → (s.heap.update S (Obj.mapSeq (fun _ => (#[] : Array Value)))).get? b = some o := fun b o hb e => (Heap.get?_update_other _ _ (Ne.symm hb)).trans e
  refine wpAny_bind (wpAny_letGo ?_)
  obtain ⟨a, b, kO⟩ := kO
  refine keptExtend D G1 G2 h0 h12 hn hz hI hO hi1 hi2 f1 f2 .none (up _ _ (Nat.ne_of_lt hz) kz) (up _ _ (Nat.ne_of_lt hI) kI) ⟨a, b, up _ _ (Nat.ne_of_lt hO) kO⟩ (G1.frame _ _ _ a1 fun b hb o e => up b o (fun z => f1 (z ▸ hb)) e) (G2.frame _ _ _ a2 fun b hb o e => up b o (fun z => f2 (z ▸ hb)) e) _ hS2 fun g tk acc c as ug gS hl hP hacc => ?_
  exact hR g tk acc c as (fun b o c1 c2 c3 c4 c5 e => ug b o c1 c2 c3 c4 c5 (up b o c1 e)) gS hl hP hacc
end
end
section
open L2 PySem PySem.Spec PyProof.Rows
open PySem PySem.W PySem.Spec PyProof.Rows L2
section
variable {prog : Program} {w : World} {A : Around} {E : Value → Shared → Prop} {s : Shared}
theorem nin2 {a x y : Nat} (h1 : a ≠ x) (h2 : a ≠ y) : a ∉ [x, y] := by
  intro z
  rcases List.mem_cons.mp z with z | z
  · exact h1 z
  · exact h2 (List.mem_singleton.mp z)
theorem ltk {t b : Nat} (k : Nat) (h : t < b) : b + k ≠ t := by omega
theorem lk {b : Nat} (k m : Nat) (h : k < m) : b + k < b + m := by omega
theorem nk {b : Nat} (k m : Nat) (h : k ≠ m) : b + k ≠ b + m := by omega
theorem apart5 {b t l : Nat} (ht : t < b) (hl : l < b) : ZipSep2 (b + 4) (b + 2) (b + 3) b (b + 1) [b, t] [b + 1, l] where
  TIz := nk 2 4 (by decide)
  TOz := nk 3 4 (by decide)
  TITO := nk 2 3 (by decide)
  TIi1 := nk 2 0 (by decide)
  mem1 := List.mem_cons_self
  zf1 := nin2 (nk 4 0 (by decide)) (ltk 4 ht)
  Tf1 := nin2 (nk 3 0 (by decide)) (ltk 3 ht)
  TIi2 := nk 2 1 (by decide)
  mem2 := List.mem_cons_self
  zf2 := nin2 (nk 4 1 (by decide)) (ltk 4 hl)
  Tf2 := nin2 (nk 3 1 (by decide)) (ltk 3 hl)
  sep1_2 := nin2 (nk 0 1 (by decide)) (ltk 0 hl)
  sep2_1 := nin2 (nk 1 0 (by decide)) (ltk 1 ht)
theorem ltn {a b : Nat} (k : Nat) (h : a < b) : a ≠ b + k := by omega
end
theorem Inv.laidAll {X : Cx} {pins : List (Addr × Obj)} {σ : List (Option V)} {H H' : Hp} {s : Shared} {h' : Heap} {t' : Nat} (I : Inv X pins σ H s) (k : ∀ b u, s.heap.get? b = some u → h'.get? b = some u) (sm : Same H H')
    (new : ∀ b, b < s.heap.objs.size → H b = none → H' b = none) (ok : ∀ b o, H' b = some o → H b = none → ObjOk X.prog X.w H' h' b o) : Inv X pins σ H' { s with heap := h', toks := t' } := by
  refine I.un ⟨fun b u q _ _ _ => k b u q, fun b u q _ _ _ => ⟨u.slots, k b u q⟩, fun b u q n _ => new b (Heap.lt_size q) n, fun b u q _ => ⟨u, k b u q⟩, fun b xs q => sm _ _ q, fun b u xs q => sm _ _ q, fun b ps q => ⟨#[], by rw [sm _ _ q]; simp⟩⟩ fun b o e => ?_
  cases hb : H b with
  | none => exact ok b o e hb
  | some u =>
    have e' := sm b u hb
    rw [e] at e'
    cases e'
    exact (I.hok b o hb).stay (fun c v _ q => k c v q) (fun c q => sm _ _ q) fun c xs q => sm _ _ q
structure ZipL (H H' : Hp) (q : Addr) (as : List Addr) (xs ys : List V) : Prop where
  same : Same H H'
  list : H' q = some (.lst (as.map V.ref))
  len : as.length = xs.length
  pair : ∀ (j : Nat) (a : Addr), as[j]? = some a → ∃ x y, xs[j]? = some x ∧ ys[j]? = some y ∧ H' a = some (.tup [x, y])
  free : H q = none
def zipH (H : Hp) (q : Addr) (as : List Addr) (xs ys : List V) : Hp := fun b =>
  if b ∈ as then some (.tup [xs.getD (as.idxOf b) .non, ys.getD (as.idxOf b) .non]) else if b = q then some (.lst (as.map V.ref)) else H b
end
section
open L2 PySem PySem.Spec PyProof.Rows
def dgK (Q : VK) (x y : V) : Hp → Prop := fun H2 => ∃ a u, x = .ref a ∧ DGet H2 a y (some u) ∧ Q u H2
theorem i_dg {td ty : TE} {σ : L2.St} {H : Hp} {Q : VK} (h : td σ H fun x H1 => ty σ H1 fun y H2 => dgK Q x y H2) : tDGet td ty σ H Q := h
theorem i_dget {d : Addr} {kvs : List (Key × V)} {z : Str} {v : V} {H : Hp} {Q : VK} (e : H d = some (.dK kvs)) (ev : valV kvs (.inr z) = some v) (h : Q v H) : dgK Q (.ref d) (.str z) H := by
  refine ⟨d, v, rfl, ?_, h⟩
  have := DGet.k (k := Sum.inr z) e
  rw [ev] at this
  exact this
theorem k_notInS {X : Cx} {K : PySem.W.Frag} (hK : X.K = K := by rfl) : OpR X (compareOp .NotIn) (rIn K true) := by subst hK; exact op_notIn_seq
theorem i_notInS {K : PySem.W.Frag} {H : Hp} {Q : VK} {z : Str} {p : Addr} {ns : List Str} (e : SqA K H p (ns.map V.str)) (h : Q (.bl (!decide (z ∈ ns))) H) : rIn K true (.str z) (.ref p) H Q :=
  ⟨p, ns.map V.str, rfl, e, rfl, flat_str, by
    rw [inV_strs]
    exact h⟩
theorem hu1 {k : Nat} {A : Around} (r : Room k A) : A.units + 1 < cLine := by have := r.units; omega
end
section
open L2 PySem PySem.Spec PyProof.Rows
theorem free_same {H H' : Hp} {b : Addr} (h : Same H H') (n : H' b = none) : H b = none := by
  cases e : H b with
  | none => rfl
  | some o => rw [h _ _ e] at n; cases n
theorem at_end {α : Type} {xs : List α} {y : α} {i : Nat} (hl : xs.length = i + 1) (h : xs[i]? = some y) : atI xs (-1) = some y := by
  have e : ixN xs.length (-1) = some i := by
    unfold ixN
    rw [if_neg (by decide), if_pos (by omega)]
    congr 1
    omega
  unfold atI
  rw [e]
  exact h
end
section
open L2 PySem PySem.Spec PyProof.Rows
theorem i_catG {K : PySem.W.Frag} {H : Hp} {Q : VK} {a b : Addr} {xs ys : List V} (e : SqT K H a xs) (e2 : SqT K H b ys) (z : xs.length + ys.length ≤ sizeLine) (h : ∀ p H', Same H H' → SqT K H' p (xs ++ ys) → Q (.ref p) H') : rCatA K (.ref a) (.ref b) H Q := by
  refine ⟨a, b, xs, ys, rfl, rfl, e, e2, z, fun hx => ?_, fun _ hy => ?_, fun _ _ p np => h p _ (Same.upd_new np) (sq_tup upd_same)⟩
  · subst hx
    exact h b H (Same.refl _) e2
  · subst hy
    exact h a H (Same.refl _) (by rw [List.append_nil]; exact e)
end
section
open L2 PySem PySem.Spec PyProof.Rows
theorem k_indexD {X : Cx} {K : PySem.W.Frag} (hu : X.A.units + 65 < cLine) (hK : X.K = K := by rfl) : MtR X "list.index" (rIndexD K) := by
  subst hK
  exact mt_indexD hu
theorem k_bm {X : Cx} {K : PySem.W.Frag} {o e : Expr} {es : List Expr} {to : TE} {t : TA} {name : Str} {apos cpos : Pos} {T id : String} {r : V → List V → Hp → VK → Prop} (pa : PlainAttrs T) (slot : Slot T name id) (hty : typeOf (.builtin id) = pure (.type "method_descriptor")) (hm : MtR X id r) (ho : PE X o to) (ha : PA X (e :: es) t)
    (hbase : attributeBase o name X.env (eval o X.env) = eval o X.env := by rfl)
    (hfew : ((backTo cpos (starEach (e :: es) X.env)).all (fun x => !x.1) && (backToKw cpos (keywordEach [] X.env)).all (fun x => x.1.isSome)
      && decide ((e :: es).length + ([] : List Keyword).length + (if ([] : List Keyword).isEmpty then 0 else 1) < 30)) = true := by rfl)
    (hline : (apos.endLine == cpos.line) = true := by rfl) (hs : starEach (e :: es) X.env = (false, eval e X.env) :: starEach es X.env := by rfl) (hplain : (backTo cpos (starEach es X.env)).any (·.1) = false := by rfl) (hK : X.K = K := by rfl) :
    PE X (.Call (.Attribute o name apos) (e :: es) [] cpos) (tBM K T r to t) := by
  subst hK
  exact pe_bm pa slot hty hm ho ha hbase hfew hline hs hplain
theorem hu65 {k : Nat} {A : Around} (r : Room k A) : A.units + 65 < cLine := by have := r.un; omega
section
variable {k : Nat} {ps : List Str} {rs : List (Str × Str)} {ds : List PyData} {ord : List Str}
theorem take_push {α : Type} {l : List α} {i : Nat} {x : α} (h : l[i]? = some x) : l.take (i + 1) = l.take i ++ [x] := by
  rw [List.take_add_one, h]
  rfl
end
theorem ft_lst {H : Hp} {p D : Addr} {o : HO} {xs us : List V} (h : FT H p xs) (e : H D = some (.lst us)) : FT (upd H D o) p xs := by
  obtain ⟨ob, e1, o1⟩ := h
  exact ⟨ob, (upd_ne (fun z => by rw [z, e] at e1; cases e1)).trans e1, o1⟩
end
section
open L2 PySem PySem.Spec PyProof.Rows
def itF (l : List Nat) (s : Nat) : Nat → Nat
  | 0 => s
  | n + 1 => l.getD (itF l s n) 0
structure Wk (l : List Nat) (s m b : Nat) : Prop where
  lt : b < m
  un : ∀ i j, i < j → j < m → itF l s i ≠ itF l s j
  back : itF l s m = itF l s b
end
section
open L2 PySem PySem.Spec PyProof.Rows
section
variable {σ : L2.St} {H : Hp} {Q : VK} {n : L2.St → Hp → Prop} {r : VK} {b c : L2.St → Hp → Prop}
theorem i_dNotIn {ty td : TE} (h : ty σ H fun y H1 => td σ H1 fun x H2 => ∃ a o, x = .ref a ∧ DGet H2 a y o ∧ Q (.bl (!o.isSome)) H2) : tDNotIn ty td σ H Q := h
theorem i_dIn {ty td : TE} (h : ty σ H fun y H1 => td σ H1 fun x H2 => ∃ a o, x = .ref a ∧ DGet H2 a y o ∧ Q (.bl o.isSome) H2) : tDIn ty td σ H Q := h
theorem i_dPut {td ty tv : TE} (h : tv σ H fun v H1 => td σ H1 fun x H2 => ty σ H2 fun y H3 => ∃ a H4, x = .ref a ∧ DPut H3 a y v H4 ∧ n σ H4) : sDPut td ty tv ⟨n, r, b, c⟩ σ H := h
theorem i_dGetK {td ty : TE} (h : td σ H fun x H1 => ty σ H1 fun y H2 => ∃ a v, x = .ref a ∧ DGet H2 a y (some v) ∧ Q v H2) : tDGet td ty σ H Q := h
theorem f_while {tc : TT} {tb : TS} (N : Nat) (Pv : Nat → L2.St → Hp → Prop) (h0 : Pv 0 σ H)
    (hs : ∀ i σ H, i ≤ N → Pv i σ H → tc σ H fun d H1 => if d = true then ∃ N' : L2.St → Hp → Prop, (∀ σ' H', N' σ' H' → ∃ m', m' < N - i ∧ ∃ i', i' ≤ N ∧ m' = N - i' ∧ Pv i' σ' H') ∧ tb ⟨N', r, n, N'⟩ σ H1 else n σ H1) : tWhile tc tb ⟨n, r, b, c⟩ σ H := by
  refine ⟨fun m σ H => ∃ i, i ≤ N ∧ m = N - i ∧ Pv i σ H, ⟨N, 0, Nat.zero_le _, rfl, h0⟩, ?_⟩
  rintro m σ H ⟨i, hi, rfl, p⟩
  exact hs i σ H hi p
theorem w_turn {tb : TS} {N i : Nat} {Pv : Nat → L2.St → Hp → Prop} (hi : i < N) (h : tb ⟨Pv (i + 1), r, n, Pv (i + 1)⟩ σ H) :
    ∃ N' : L2.St → Hp → Prop, (∀ σ' H', N' σ' H' → ∃ m', m' < N - i ∧ ∃ i', i' ≤ N ∧ m' = N - i' ∧ Pv i' σ' H') ∧ tb ⟨N', r, n, N'⟩ σ H :=
  ⟨Pv (i + 1), fun _ _ p => ⟨N - (i + 1), by omega, i + 1, hi, rfl, p⟩, h⟩
end
end
section
open L2 PySem PySem.Spec PyProof.Rows
def dcE (D : Addr) (N : Hp → Prop) (y : V) : VK := fun z H5 => ∃ kvs k, y = kV k ∧ H5 D = some (.dK kvs) ∧ kvs.length < sizeLine ∧ N (upd H5 D (.dK (putK kvs k z)))
def dcK (g : TG) (tt : TT) (tk tv : TE) (vs : List Nat) (σ : L2.St) (Q : VK) : It → Hp → Prop := fun J H1 => ∀ D, H1 D = none → ∃ W : Nat → Nat → Hp → Prop, (∃ m, W 0 m (upd H1 D (.dK []))) ∧ ∀ i m H, W i m H →
  (J.stop i H ∧ Q (.ref D) H) ∨ (J.go i H ∧ ∃ Nx : Hp → Prop, (∀ H', Nx H' → ∃ m', m' < m ∧ W (i + 1) m' H') ∧ ∀ x H', J.yld i H x H' → g x (wipe σ vs) H' fun σ2 H2 => wipe σ2 vs = wipe σ vs ∧ tt σ2 H2 fun b H3 =>
    if b = true then tk σ2 H3 fun y H4 => tv σ2 H4 fun z H5 => ∃ kvs k, y = kV k ∧ H5 D = some (.dK kvs) ∧ kvs.length < sizeLine ∧ Nx (upd H5 D (.dK (putK kvs k z))) else Nx H3)
section
variable {σ : L2.St} {H : Hp} {Q : VK} {K : PySem.W.Frag} {g : TG} {tt : TT} {te tk tv : TE} {vs : List Nat} {a b : Addr}
theorem i_dc {wi : TI} (h : wi σ H (dcK g tt tk tv vs σ Q)) : tDc wi g tt tk tv vs σ H Q := h
end
theorem i_catL {l b : Addr} {xs zs : List V} {H : Hp} {Q : VK} (e1 : H l = some (.lst xs)) (e2 : H b = some (.lst zs)) (z : xs.length + zs.length ≤ sizeLine) (h : ∀ p, H p = none → Q (.ref p) (upd H p (.lst (xs ++ zs)))) : rCat (.ref l) (.ref b) H Q := ⟨l, b, xs, zs, rfl, rfl, e1, e2, z, h⟩
def Sf (H : Hp) (p : Addr) : Prop := (∀ xs, H p ≠ some (.tup xs)) ∧ ∀ ob u, H p ≠ some (.frz ob u)
theorem sf_dk {H : Hp} {p : Addr} {kvs : List (L2.Key × V)} (e : H p = some (.dK kvs)) : Sf H p := ⟨fun ys c => (by rw [e] at c; cases c), fun ob u c => (by rw [e] at c; cases c)⟩
section
variable {K : PySem.W.Frag} {H H' : Hp} {p : Addr}
theorem tk_sf (k : Ch p H H') (s : Sf H p) : TK K H H' := TK.of_at (fun b xs e => k b _ (fun z => s.1 xs (z ▸ e)) e) (fun b ob xs e => k b _ (fun z => s.2 ob _ (z ▸ e)) e)
end
end
section
open L2 PySem PySem.Spec PyProof.Rows
theorem nd_le {α : Type} [DecidableEq α] : ∀ (L ns : List α), L.Nodup → (∀ x ∈ L, x ∈ ns) → L.length ≤ ns.length
  | [], _, _, _ => Nat.zero_le _
  | x :: L, ns, nd, h => by
    obtain ⟨n1, n2⟩ := List.nodup_cons.mp nd
    have hx := h x List.mem_cons_self
    have := nd_le L (ns.erase x) n2 (fun y hy => (List.mem_erase_of_ne (fun e => n1 (by rw [← e]; exact hy))).mpr (h y (List.mem_cons_of_mem _ hy)))
    rw [List.length_erase_of_mem hx] at this
    have := List.length_pos_of_mem hx
    rw [List.length_cons]
    omega
end
section
open L2 PySem PySem.Spec PyProof.Rows
theorem vals_refs {zp : List (Addr × List Int)} : ∀ {its : List Value}, Vals (zp.map fun z => V.ref z.1) its → its = zp.map fun z => Value.ref z.1 := by
  induction zp with
  | nil => intro its h; cases h; rfl
  | cons z r ih =>
    intro its h
    cases h with
    | cons h1 h2 => rw [ih h2]; cases h1; rfl
end
section
open L2 PySem PySem.Spec PyProof.Rows
def freeAt (rs : List (Str × Str)) (qs : List Str) (i : Nat) : Bool := match qs[i]?, qs[i + 1]? with
  | some x, some y => !isRoad rs x y
  | _, _ => false
section
variable {rs : List (Str × Str)} {ps qs os : List Str} {i a : Nat}
theorem free_iff : freeAt rs qs i = true ↔ ∃ x y, qs[i]? = some x ∧ qs[i + 1]? = some y ∧ isRoad rs x y = false := by
  unfold freeAt
  cases hx : qs[i]? with
  | none => simp
  | some x =>
    cases hy : qs[i + 1]? with
    | none => simp
    | some y => simp
theorem free_lt (h : freeAt rs qs i = true) : i + 1 < qs.length := by
  obtain ⟨x, y, _, hy, _⟩ := free_iff.mp h
  exact (List.getElem?_eq_some_iff.mp hy).1
theorem free_perm (h : freeAt rs qs i = true) : (sw qs i).Perm qs := sw_perm (free_lt h)
theorem arr_free (W : IsWeb ps rs) (pm : qs.Perm ps) (h : freeAt rs qs i = true) : arr (sw qs i) rs = arr qs rs := by
  obtain ⟨x, y, hx, hy, nr⟩ := free_iff.mp h
  rw [arr_sw W pm hx hy]
  have e : ∀ r ∈ arr qs rs, (if r = (x, y) then swp r else r) = r := fun r hr => by
    by_cases c : r = (x, y)
    · exfalso
      obtain ⟨u, hu, e⟩ := List.mem_map.mp hr
      unfold isRoad at nr
      rcases arr1_or qs u with z | z
      · rw [e] at z
        rw [← z, c] at hu
        rw [decide_eq_true hu] at nr
        cases nr
      · rw [e, c] at z
        have : u = (y, x) := by
          obtain ⟨u1, u2⟩ := u
          unfold swp at z
          injection z with z1 z2
          rw [z1, z2]
        rw [this] at hu
        rw [decide_eq_true hu, Bool.or_true] at nr
        cases nr
    · rw [if_neg c]
  rw [List.map_congr_left e, List.map_id']
end
end
section
open L2 PySem PySem.Spec PyProof.Rows
mutual
def nkOf : PyData → NestedKey
  | .int i => .num i
  | .str x => .text x
  | .tuple ds => .tup (nkAll ds)
  | .none => .none
  | .bool b => .num (if b = true then 1 else 0)
  | .list _ => .none
  | .dict _ => .none
def nkAll : List PyData → List NestedKey
  | [] => []
  | d :: ds => nkOf d :: nkAll ds
end
abbrev DnL := List (NestedKey × Addr × V)
def arrK (l : List (Str × Str)) : NestedKey := nkOf (rsD l)
end
section
open L2 PySem PySem.Spec PyProof.Rows
section
variable {σ : L2.St} {H : Hp} {Q : VK} {QB : Bool → Hp → Prop} {K : PySem.W.Frag} {g : TG} {tt : TT} {te tk tv : TE} {vs : List Nat} {a : Addr}
theorem d_tup (xs : List V) (Pv : Addr → Nat → Hp → Prop) (h0 : ∀ D, H D = none → Pv D 0 (upd H D (.dK []))) (hl : ∀ D i H, i ≤ xs.length → Pv D i H → SqT K H a xs)
    (hs : ∀ D i x H, xs[i]? = some x → Pv D i H → g x (wipe σ vs) H fun σ2 H2 => wipe σ2 vs = wipe σ vs ∧ tt σ2 H2 fun c H3 => if c = true then tk σ2 H3 fun y H4 => tv σ2 H4 (dcE D (Pv D (i + 1)) y) else Pv D (i + 1) H3)
    (hd : ∀ D H, Pv D xs.length H → Q (.ref D) H) : dcK g tt tk tv vs σ Q (Itt K a) H := fun D nD => dc_tup (Qd := fun H => Q (.ref D) H) (Pv D) (h0 D nD) (hl D) (hs D) (hd D)
end
theorem texts_noB : ∀ l : List Str, noBAll (l.map PyData.str) = true
  | [] => rfl
  | x :: l => by
    show (true && noBAll (l.map PyData.str)) = true
    rw [texts_noB l]
    rfl
end
section
open L2 PySem PySem.Spec PyProof.Rows
def okN (l : List (Str × Str)) (g : List Str) (z : Str) : Bool := !decide (z ∈ g) && l.all fun r => !decide (r.2 = z) || decide (r.1 ∈ g)
def growG (ps : List Str) (l : List (Str × Str)) : Nat → List (List Str)
  | 0 => [[]]
  | n + 1 => (growG ps l n).flatMap fun g => (ps.filter (okN l g)).map fun z => g ++ [z]
end
section
open L2 PySem PySem.Spec PyProof.Rows
def msk (ps g : List Str) : Nat := (g.map fun z => 2 ^ ps.idxOf z).sum
def pre (l : List (Str × Str)) (z : Str) : List Str := (l.filter fun r => decide (r.2 = z)).map Prod.fst
def okB (m k a : Nat) : Bool := decide (m &&& 2 ^ k = 0) && decide (m &&& a = a)
end
section
open L2 PySem PySem.Spec PyProof.Rows
def cM (ps : List Str) (l : List (Str × Str)) (n x : Nat) : Nat := ((growG ps l n).filter fun g => decide (msk ps g = x)).length
def cnt (ps : List Str) (l : List (Str × Str)) (x : Nat) : Nat := ((List.range (ps.length + 1)).map fun n => cM ps l n x).sum
def lastIn (ps : List Str) (l : List (Str × Str)) (z : Str) (x : Nat) : Bool := decide (2 ^ ps.idxOf z ≤ x) && okB (x - 2 ^ ps.idxOf z) (ps.idxOf z) (msk ps (pre l z))
section
variable {ps qs : List Str} {rs l : List (Str × Str)}
def partN (ps : List Str) (l : List (Str × Str)) (m j x : Nat) : Nat := (if x = 0 then 1 else 0) + (ps.map fun z => if (lastIn ps l z x && decide (x - 2 ^ ps.idxOf z < m ∨ x - 2 ^ ps.idxOf z = m ∧ ps.idxOf z < j)) = true then cnt ps l (x - 2 ^ ps.idxOf z) else 0).sum
end
end
section
open L2 PySem PySem.Spec PyProof.Rows
theorem nd_map_on {α β : Type} (f : α → β) : ∀ l : List α, l.Nodup → (∀ x ∈ l, ∀ y ∈ l, f x = f y → x = y) → (l.map f).Nodup
  | [], _, _ => List.nodup_nil
  | x :: l, nd, h => by
    obtain ⟨n1, n2⟩ := List.nodup_cons.mp nd
    rw [List.map_cons, List.nodup_cons]
    refine ⟨fun m => ?_, nd_map_on f l n2 fun y hy z hz => h y (List.mem_cons_of_mem _ hy) z (List.mem_cons_of_mem _ hz)⟩
    obtain ⟨y, hy, e⟩ := List.mem_map.mp m
    have := h y (List.mem_cons_of_mem _ hy) x List.mem_cons_self e
    exact n1 (this ▸ hy)
end
section
open L2 PySem PySem.Spec PyProof.Rows
def cs (ps : List Str) (l : List (Str × Str)) (m j : Nat) : List V := (List.range (2 ^ ps.length)).map fun x => V.int ((partN ps l m j x : Nat) : Int)
end
section
open L2 PySem PySem.Spec PyProof.Rows
theorem vals_at : ∀ {xs : List V} {us : List Value}, us.length = xs.length → (∀ (j : Nat) (v : Value), us[j]? = some v → ∃ x, xs[j]? = some x ∧ RelV x v) → Vals xs us
  | [], [], _, _ => .nil
  | [], _ :: _, h, _ => by simp at h
  | _ :: _, [], h, _ => by simp at h
  | x :: xs, u :: us, hl, h => by
    obtain ⟨y, e1, e2⟩ := h 0 u rfl
    obtain rfl : x = y := Option.some.inj e1
    exact .cons e2 (vals_at (by simpa using hl) fun j v e => by
      obtain ⟨y, a, b⟩ := h (j + 1) v (by simpa using e)
      exact ⟨y, by simpa using a, b⟩)
theorem paired_get {α β : Type} {R : α → β → Prop} {xs : List α} {ys : List β} (r : Paired R xs ys) : ∀ {i : Nat} {y : β}, ys[i]? = some y → ∃ x, xs[i]? = some x ∧ R x y := by
  induction r with
  | nil => intro i y h; simp at h
  | @cons a b _ _ h _ ih =>
    intro i y e
    cases i with
    | zero =>
      obtain rfl : b = y := by simpa using e
      exact ⟨a, rfl, h⟩
    | succ n =>
      obtain ⟨x, e1, e2⟩ := ih (i := n) (by simpa using e)
      exact ⟨x, by simpa using e1, e2⟩
def VwO (p D : Addr) : HO := .ext fun h => h.IsValuesView p D
end
section
open L2 PySem PySem.Spec PyProof.Rows
abbrev ARow := List (Str × Str) × Addr × Nat
def nL (R : List ARow) : DnL := R.map fun r => (arrK r.1, r.2.1, V.int (r.2.2 : Nat))
end
section
open L2 PySem PySem.Spec PyProof.Rows
section
variable {P : Program} {w : World} {A : Around} {E : Value → Shared → Prop} {s : Shared} {a : Addr} {L : List (Addr × List Str)} {es : Array (Int × Value)} {ep : Nat} {t : SetTable}
theorem TxS.seek (R : TxS P w s.heap a L es ep t) (hT : ∀ p ∈ L, Tt P w s.heap p.2 p.1) {x : Addr} {k : List Str} (hx : Tt P w s.heap k x) (hu : A.units < cLine) {i0 : Nat} {p0 : Addr × List Str} (h0 : L[i0]? = some p0) (e0 : p0.2 = k) {K : Nat}
    (hKf : K < 10 * SetTable.turns t.mask) (hK : way t.mask (tx P w k) K ∉ t.place.toList) (hKb : ∀ c, c < K → way t.mask (tx P w k) c ∈ t.place.toList) {Q : SetFound → Shared → Prop}
    (q : Q (.there none) s) : ∀ (f c : Nat) (st : Option SetTable.Probe), st.getD (t.probeStart (tx P w k)) = pr t.mask (tx P w k) c → c ≤ K → K - c < f →
      (∃ c0, c ≤ c0 ∧ c0 < K ∧ t.place.toList[i0]? = some (way t.mask (tx P w k) c0)) → wpAny (model P w) A (setSearchFrom a (.ref x) (tx P w k) true f st) Q E s := by
  obtain ⟨o, g, hex, hd⟩ := R.here
  intro f
  induction f with
  | zero => exact fun c st _ _ z _ => absurd z (Nat.not_lt_zero _)
  | succ f ih =>
    rintro c st hst hc hf ⟨c0, b1, b2, b3⟩
    have on : ∀ n, nth t.mask (pr t.mask (tx P w k) c) n = pr t.mask (tx P w k) (c + n) := fun n => (nth_add t.mask c _ n).symm
    have end_ : (nth t.mask (pr t.mask (tx P w k) c) (K - c)).j = way t.mask (tx P w k) K := by rw [on, Nat.add_sub_cancel' hc]
    have at0 : (nth t.mask (pr t.mask (tx P w k) c) (c0 - c)).j = way t.mask (tx P w k) c0 := by rw [on, Nat.add_sub_cancel' b1]
    have same : (es[i0]?.map (·.1)).getD 0 = tx P w k := by
      rw [R.entry h0, ← e0]
      rfl
    rw [setSearchFrom_succ]
    refine wpAny_bind (wpAny_setState_of g hd R.fits ?_)
    dsimp only
    refine wp_if_neg (by unfold SetTable.gaveWay; rw [mask_odd R.tab.mok]; decide) ?_
    try refine wpAny_bind (wpAny_pure ?_)
    rcases go_spec t R.tab.ris R.tab.dm (fun i => (es[i]?.map (·.1)).getD 0) (tx P w k) (10 * SetTable.turns t.mask) (K - c) _ (pr_dummy _ _ c) (by omega)
      (fun n hn => by rw [on]; exact hKb _ (by omega)) (by rw [end_]; exact hK) with ⟨n, i, hn, hi, _, no, e⟩ | ⟨no, e⟩
    · have le0 : c + n ≤ c0 := by
        rcases Nat.lt_or_ge c0 (c + n) with z | z
        · exact absurd same (no (c0 - c) i0 (by omega) (by rw [at0]; exact b3))
        · exact z
      rw [on, on, ← hst] at e
      rw [show t.probe (fun i => (es[i]?.map (·.1)).getD 0) (tx P w k) (st.getD (t.probeStart (tx P w k))) = _ from e]
      dsimp only
      rw [on] at hi
      have hl : i < L.length := by
        have h1 := (List.getElem?_eq_some_iff.mp hi).1
        have h2 := R.tab.sz
        rw [List.length_map] at h2
        rw [Array.length_toList] at h1
        omega
      have hp := List.getElem?_eq_getElem hl
      have me : L[i] ∈ L := List.getElem_mem hl
      have go : wpAny (model P w) A (searchRest a (.ref x) (tx P w k) true f es t (way t.mask (tx P w k) (c + n)) i (pr t.mask (tx P w k) (c + (n + 1)))) Q E s := by
        unfold searchRest
        rw [R.entry hp]
        dsimp only [trow]
        refine wpAny_bind (wpAny_holding (wpAny_eqBool_tuple hu (hT _ me) hx ?_))
        by_cases y : L[i].2 = k
        · rw [decide_eq_true y]
          refine wpAny_bind (wpAny_setState_of g hd R.fits ?_)
          dsimp only
          exact wp_if_pos (by decide) (wpAny_pure q)
        · rw [decide_eq_false y]
          refine wpAny_bind (wpAny_setState_of g hd R.fits ?_)
          dsimp only
          refine wp_if_neg (by decide) ?_
          try refine wpAny_bind (wpAny_pure ?_)
          rw [L2.sameMem]
          dsimp only
          have live := slot_live R.tab.ris hi
          simp only [if_true, live, R.entry hp]
          refine wpAny_bind (wpAny_isSame_ref_self (wpAny_bind (wpAny_pure ?_)))
          simp only [if_true]
          refine wp_if_neg Bool.false_ne_true ?_
          refine ih (c + (n + 1)) _ rfl (by omega) (by omega) ⟨c0, ?_, b2, b3⟩
          rcases Nat.lt_or_ge (c + n) c0 with z | z
          · omega
          · have ec : c0 = c + n := Nat.le_antisymm z le0
            rw [ec] at b3
            have l0 := slot_live R.tab.ris b3
            rw [live] at l0
            injection l0 with l0
            rw [← l0, hp] at h0
            exact absurd ((congrArg Prod.snd (Option.some.inj h0)).trans e0) y
      by_cases hl : t.led = true
      · refine wp_if_neg (by simp [hl]) ?_
        try refine wpAny_bind (wpAny_pure ?_)
        exact go
      · refine wp_if_pos (by simp [hl]) (wpAny_bind (unseen_tt hx (fun y hy => ?_) ?_))
        · obtain ⟨u, hu1, hu2⟩ := List.mem_map.mp hy
          have hu3 : u ∈ es ∧ u.1 = tx P w k := by simpa using hu1
          have hu4 : u ∈ es.toList := by simpa using hu3.1
          rw [R.rows] at hu4
          obtain ⟨p, hp1, hp2⟩ := List.mem_map.mp hu4
          exact ⟨p.2, p.1, by rw [← hu2, ← hp2]; rfl, hT p hp1⟩
        · refine wp_if_neg (by decide) ?_
          try refine wpAny_bind (wpAny_pure ?_)
          exact go
    · exact absurd same (no (c0 - c) i0 (by omega) (by rw [at0]; exact b3))
theorem TxS.meet (R : TxS P w s.heap a L es ep t) (hT : ∀ p ∈ L, Tt P w s.heap p.2 p.1) {x : Addr} {k : List Str} (hx : Tt P w s.heap k x) (hu : A.units < cLine) (hk : k ∈ L.map (·.2)) {Q : SetFound → Shared → Prop}
    (q : Q (.there none) s) : wpAny (model P w) A (setSearch a (.ref x) (tx P w k) true) Q E s := by
  have rm := R.room
  obtain ⟨K, h1, h2, h3⟩ := R.tab.first (by rw [List.length_map]; omega) (tx P w k)
  have h4 : K < 100000 := by
    have : 10 * SetTable.turns t.mask ≤ 1420 := by
      unfold SetTable.turns
      rcases R.tab.mok with e | e | e <;> omega
    omega
  obtain ⟨p0, m0, e0⟩ := List.mem_map.mp hk
  obtain ⟨i0, hi0⟩ := List.getElem?_of_mem m0
  have hash : (L.map fun p => tx P w p.2)[i0]? = some (tx P w k) := by rw [List.getElem?_map, hi0, ← e0]; rfl
  have hlt : i0 < t.place.toList.length := by
    have h5 := (List.getElem?_eq_some_iff.mp hi0).1
    have h6 := R.tab.sz
    rw [List.length_map] at h6
    rw [Array.length_toList]
    omega
  have hj := List.getElem?_eq_getElem hlt
  obtain ⟨c0, b1, b2⟩ := R.tab.before h2 hash hj
  unfold setSearch
  exact R.seek hT hx hu hi0 e0 h1 h2 h3 q 100000 0 none rfl (Nat.zero_le _) (by omega) ⟨c0, Nat.zero_le _, b1, by rw [hj, b2]⟩
theorem TxS.again (R : TxS P w s.heap a L es ep t) (hT : ∀ p ∈ L, Tt P w s.heap p.2 p.1) {x : Addr} {k : List Str} (hx : Tt P w s.heap k x) (hu : A.units < cLine) (hk : k ∈ L.map (·.2)) {Q : Bool → Shared → Prop} (q : Q false s) :
    wpAny (model P w) A (setAddHashed a (.ref x) (tx P w k)) Q E s := by
  obtain ⟨o, g, hex, hd⟩ := R.here
  unfold setAddHashed
  refine wpAny_holding ?_
  rw [show (100000 : Nat) = 99999 + 1 from rfl, setAddHashedIn_succ]
  refine wpAny_bind (wpAny_setState_of g hd R.fits ?_)
  dsimp only
  refine wp_if_neg (by simp [byScan, Value.scannable]) ?_
  try refine wpAny_bind (wpAny_pure ?_)
  refine wpAny_bind (R.meet hT hx hu hk ?_)
  dsimp only
  exact wpAny_pure q
structure GotX (ks : List (Addr × List Str)) (i : Nat) (L : List (Addr × List Str)) : Prop where
  sub : ∀ p ∈ L, p ∈ ks.take i
  all : ∀ p ∈ ks.take i, p.2 ∈ L.map (·.2)
  nd : (L.map (·.2)).Nodup
  len : L.length ≤ i
theorem GotX.start (ks : List (Addr × List Str)) : GotX ks 0 [] := ⟨(fun p h => nomatch h), (fun p h => by simp at h), List.nodup_nil, Nat.le_refl _⟩
theorem GotX.old {ks L : List (Addr × List Str)} {i : Nat} {x : Addr × List Str} (z : GotX ks i L) (h : ks[i]? = some x) (m : x.2 ∈ L.map (·.2)) : GotX ks (i + 1) L where
  sub p hp := by
    rw [List.take_add_one]
    exact List.mem_append_left _ (z.sub p hp)
  all p hp := by
    rw [List.take_add_one, h] at hp
    rcases List.mem_append.mp hp with c | c
    · exact z.all p c
    · obtain rfl : p = x := by simpa using c
      exact m
  nd := z.nd
  len := Nat.le_succ_of_le z.len
theorem GotX.new {ks L L' : List (Addr × List Str)} {i : Nat} {x : Addr × List Str} (z : GotX ks i L) (h : ks[i]? = some x) (m : x.2 ∉ L.map (·.2)) (pm : L'.Perm (x :: L)) : GotX ks (i + 1) L' where
  sub p hp := by
    rw [List.take_add_one, h]
    rcases List.mem_cons.mp (pm.mem_iff.mp hp) with rfl | c
    · exact List.mem_append_right _ (by simp)
    · exact List.mem_append_left _ (z.sub p c)
  all p hp := by
    rw [List.take_add_one, h] at hp
    rw [(pm.map (·.2)).mem_iff, List.map_cons]
    rcases List.mem_append.mp hp with c | c
    · exact List.mem_cons_of_mem _ (z.all p c)
    · obtain rfl : p = x := by simpa using c
      exact List.mem_cons_self
  nd := by
    rw [(pm.map (·.2)).nodup_iff, List.map_cons, List.nodup_cons]
    exact ⟨m, z.nd⟩
  len := by
    rw [pm.length_eq]
    exact Nat.succ_le_succ z.len
theorem tt_keep {h h' : Heap} {k : List Str} {b : Addr} (x : Tt P w h k b) (kp : ∀ c o, h.get? c = some o → h'.get? c = some o) : Tt P w h' k b := let ⟨o, us, n, g, r⟩ := x; ⟨o, us, n, kp b o g, r⟩
end
section
variable {P : Program} {w : World} {A : Around} {R : Result → Shared → Prop} {I : Addr} {fp wr : List Addr} {G : Array GenState → Array GenState → Prop} {n : Nat} {Pv : Nat → Value → Prop} {St : Nat → Shared → Prop}
theorem fill_tx (W : WalksS P w A.in1 I fp wr G n Pv St) (S : Addr) (nS : S ∉ fp) (ks : List (Addr × List Str)) (hl : ks.length = n) (few : ks.length < 60) (hv : ∀ i v, Pv i v → ∃ p, ks[i]? = some p ∧ v = .ref p.1) (h0 : Heap) (hT : ∀ p ∈ ks, Tt P w h0 p.2 p.1)
    (S0 : h0.get? S = none) (w0 : ∀ b ∈ wr, h0.get? b = none) (hu : A.in1.units < cLine) :
    ∀ (m i : Nat) (s : Shared), n - i = m → i ≤ n → St i s → (∀ b o, h0.get? b = some o → s.heap.get? b = some o) → (∃ L es ep t, TxS P w s.heap S L es ep t ∧ GotX ks i L) →
      (∀ s' L es ep t, Moved (S :: wr) G s s' → TxS P w s'.heap S L es ep t → GotX ks n L → (∀ b o, h0.get? b = some o → s'.heap.get? b = some o) → R (.ok (.ret .none)) s') →
      codeAny (model P w) A (.builtin "set.update.loop" ⟨[.ref S, .ref I], []⟩) R s := by
  have nw : S ∉ wr := fun z => nS (W.sub _ z)
  have up : ∀ b ∈ wr, b ∈ S :: wr := fun b hb => .tail _ hb
  have kpM : ∀ {s s' : Shared}, Moved wr G s s' → (∀ b o, h0.get? b = some o → s.heap.get? b = some o) → ∀ b o, h0.get? b = some o → s'.heap.get? b = some o := fun mv kp b o e =>
    mv.heap b o (fun hb => by rw [w0 b hb] at e; cases e) (kp b o e)
  intro m
  induction m with
  | zero =>
    rintro i s hm hi st kp ⟨L, es, ep, t, z, gx⟩ q
    obtain rfl : i = n := by omega
    refine codeAny_builtin PyProof.Rows.F.entry_set_update_loop ?_
    rw [Around.under_plainId PyProof.Rows.F.plain_set_update_loop _]
    show wpAny _ A.in1 (pyNext (.ref I) >>= _) _ _ s
    refine wpAny_bind (W.done s _ _ st fun s' mv => ?_)
    show wpAny _ A.in1 (ret Value.none) _ _ s'
    exact wpAny_pure (q s' L es ep t (mv.mono up) (z.keep fun o g => mv.heap S o nw g) gx (kpM mv kp))
  | succ m ih =>
    rintro i s hm hi st kp ⟨L, es, ep, t, z, gx⟩ q
    have lt : i < n := by omega
    refine codeAny_builtin PyProof.Rows.F.entry_set_update_loop ?_
    rw [Around.under_plainId PyProof.Rows.F.plain_set_update_loop _]
    show wpAny _ A.in1 (pyNext (.ref I) >>= _) _ _ s
    refine wpAny_bind (W.item i s _ _ lt st fun v s' pv st' mv => ?_)
    obtain ⟨p, hp, rfl⟩ := hv i v pv
    have kp' := kpM mv kp
    have z' : TxS P w s'.heap S L es ep t := z.keep fun o g => mv.heap S o nw g
    have tl : ∀ r ∈ L, Tt P w s'.heap r.2 r.1 := fun r hr => tt_keep (hT r (List.mem_of_mem_take (gx.sub r hr))) kp'
    have tp : Tt P w s'.heap p.2 p.1 := tt_keep (hT p (List.mem_of_getElem? hp)) kp'
    have gl := gx.len
    show wpAny _ A.in1 (holding [Value.ref p.1] (setAdd S (.ref p.1)) >>= _) _ _ s'
    refine wpAny_bind (wpAny_holding ?_)
    unfold setAdd
    refine wpAny_holding (wpAny_bind (wpAny_pyHash_tuple hu tp ?_))
    by_cases c : p.2 ∈ L.map (·.2)
    · refine (show TxS P w ({ s' with toks := s'.toks + (p.2.length + 1) } : Shared).heap S L es ep t from z').again (s := { s' with toks := s'.toks + (p.2.length + 1) }) tl tp hu c ?_
      refine wpAny_pure ⟨plainId_quiet PyProof.Rows.F.plain_set_update_loop _, ih (i + 1) _ (by omega) lt (W.frame _ s' _ _ st' (Nat.le_add_right _ _) fun b _ o e => e) kp' ⟨L, es, ep, t, z', gx.old hp c⟩ fun s2 L2 es2 ep2 t2 mv2 z4 g4 k4 => q s2 L2 es2 ep2 t2 (Moved.trans W.gtrans ((mv.mono up).then_heap (Nat.le_add_right _ _) fun b o _ e => e) mv2) z4 g4 k4⟩
    · refine (show TxS P w ({ s' with toks := s'.toks + (p.2.length + 1) } : Shared).heap S L es ep t from z').add (s := { s' with toks := s'.toks + (p.2.length + 1) }) tl tp hu (fun r hr e => c (List.mem_map.mpr ⟨r, hr, e⟩)) (by omega) fun h' L' es' ep' t' sb z2 pm => ?_
      have k2 : ∀ b o, h0.get? b = some o → h'.get? b = some o := fun b o e => (sb.2 b fun y => by rw [y, S0] at e; cases e).trans (kp' b o e)
      refine wpAny_pure ⟨plainId_quiet PyProof.Rows.F.plain_set_update_loop _, ih (i + 1) _ (by omega) lt (W.frame _ s' _ _ st' (Nat.le_add_right _ _) fun b hb o e => (sb.2 b fun h => nS (h ▸ hb)).trans e) k2 ⟨L', es', ep', t', z2, gx.new hp c pm⟩ fun s2 L2 es2 ep2 t2 mv2 z4 g4 k4 => q s2 L2 es2 ep2 t2 (Moved.trans W.gtrans ((mv.mono up).then_heap (Nat.le_add_right _ _) fun b o hb e => (sb.2 b fun h => hb (h ▸ List.mem_cons_self)).trans e) mv2) z4 g4 k4⟩
end
section
variable {P : Program} {w : World} {A : Around} {E : Value → Shared → Prop} {s : Shared}
theorem call_set_tx {l : Addr} {items : Array Value} (ks : List (Addr × List Str)) {Q : Value → Shared → Prop} (hh : A.handled = none) (hl : s.heap.IsList l items) (hi : items.toList = ks.map fun p => Value.ref p.1)
    (hT : ∀ p ∈ ks, Tt P w s.heap p.2 p.1) (few : ks.length < 60) (hu : A.units + 3 < cLine)
    (q : ∀ (h' : Heap) (tk : Nat) L, (∃ es ep t, TxS P w h' s.heap.objs.size L es ep t) → GotX ks ks.length L → (∀ b o, s.heap.get? b = some o → h'.get? b = some o) → Q (.ref s.heap.objs.size) { s with heap := h', toks := tk }) :
    wpAny (model P w) A (call (.type "set") [.ref l]) Q E s := by
  have len : ks.length = items.size := by
    have := congrArg List.length hi
    rw [Array.length_toList, List.length_map] at this
    exact this.symm
  have c1 := PySem.F.called_set.made
  have c2 := PySem.F.called_set.sub
  have c3 := PySem.F.called_set.notType
  have c4 := PySem.F.called_set.canCreate
  have c5 := PySem.F.typeCall_set_1 (.ref l)
  obtain ⟨_, _, c6⟩ := PySem.F.called_set.mro
  refine wpAny_call (codeAny_of_tree ?_)
  show wpAny _ _ (callAny (.type "set") _) _ _ _
  refine wpAny_pure ⟨Code.quiet_builtin _ (by decide +kernel), codeAny_builtin PySem.F.entry_type_call ?_⟩
  rw [Around.under_plain (weight_type_call_type "set" [.ref l] []) rfl]
  repeat (any_goals (first | assumption | wp_step))
  refine codeAny_mono (code_set_led1 (.ref l) (E := E) (Q₁ := fun v z => v = .ref s.heap.objs.size ∧ z = { s with heap := s.heap.push (setObj0 w) }) ⟨rfl, rfl⟩) fun r z hr => ?_
  cases r with
  | error e => exact hr
  | ok fl =>
   cases fl with
   | ret obj =>
    obtain ⟨rfl, rfl⟩ := hr
    have g0 : (s.heap.push (setObj0 w)).get? s.heap.objs.size = some (setObj0 w) := Heap.get?_push_size _ rfl
    have ty : Shared.TypeIs { s with heap := s.heap.push (setObj0 w) } (.ref s.heap.objs.size) "set" := ⟨_, g0, rfl⟩
    have d1 := PySem.F.called_set.init.lookup
    have d2 := PySem.F.called_set.init.bind (.ref s.heap.objs.size)
    repeat (any_goals (first | assumption | wp_step))
    refine codeAny_mono (codeAny_call_builtin (R := wants (fun v z => v = .none ∧ ∃ h' tk L, z = { s with heap := h', toks := tk } ∧ (∃ es ep t, TxS P w h' s.heap.objs.size L es ep t) ∧ GotX ks ks.length L ∧ ∀ b o, s.heap.get? b = some o → h'.get? b = some o) E) PySem.F.called_set.init.plain PySem.F.entry_set_init (check_set_init_1 ty ?_)) fun r z hr => ?_
    · obtain ⟨⟨cl, di, da, sl⟩, hol, hcl, nl, hdl⟩ := hl
      simp only at hcl hdl
      subst hcl hdl
      have hol' : (s.heap.push (setObj0 w)).get? l = some { cls := .type "list", dict := di, data := .seq items nl, slots := sl } := Heap.get?_push_of_some _ hol
      have f1 := PySem.F.sub_list_set
      have f2 := PySem.F.sub_list_frozenset
      have f3 : (Value.type "list" == Value.type "dict") = false := by decide
      have hl1 : (s.heap.push (setObj0 w)).IsList l items := ⟨_, hol', rfl, nl, rfl⟩
      unfold Builtin.«set.__init__» noKeywords Builtin.Frozenset.updateFrom
      generalize hPI : pyIter = PI
      wp_walk
      subst hPI
      refine wpAny_pyIter_list hl1 (wpAny_bind (wpAny_runValue ?_))
      have lt : l < s.heap.objs.size := Heap.lt_size hol
      have sz : (s.heap.push (setObj0 w)).objs.size = s.heap.objs.size + 1 := Heap.size_push ..
      have ne : l ≠ (s.heap.push (setObj0 w)).objs.size := by rw [sz]; exact Nat.ne_of_lt (Nat.lt_succ_of_lt lt)
      have nS : s.heap.objs.size ∉ [(s.heap.push (setObj0 w)).objs.size, l] := by
        rw [sz]
        simp only [List.mem_cons, List.not_mem_nil, or_false, not_or]
        exact ⟨Nat.ne_of_lt (Nat.lt_succ_self _), Nat.ne_of_gt lt⟩
      have at_ : ∀ (i : Nat) (v : Value), items[i]? = some v → ∃ p, ks[i]? = some p ∧ v = .ref p.1 := fun i v hv => by
        rw [← Array.getElem?_toList, hi, List.getElem?_map] at hv
        cases c : ks[i]? with
        | none => rw [c] at hv; cases hv
        | some p =>
          rw [c] at hv
          exact ⟨p, rfl, (Option.some.inj hv).symm⟩
      have gone : ∀ b, s.heap.objs.size ≤ b → s.heap.get? b = none := fun b hb => by
        cases c : s.heap.get? b with
        | none => rfl
        | some o => exact absurd (Heap.lt_size c) (Nat.not_lt.mpr hb)
      refine fill_tx ((Walks.list (by simp [hh]) _ l ne items).toS) s.heap.objs.size nS ks len few at_ s.heap hT (gone _ (Nat.le_refl _)) (fun b hb => gone b (by rw [List.mem_singleton.mp hb, sz]; exact Nat.le_succ _)) hu (items.size - 0) 0 _ (by omega) (Nat.zero_le _) ⟨⟨_, Heap.get?_push_size _ rfl, rfl, rfl⟩, (hl1.push _)⟩ (fun b o e => Heap.get?_push_of_some _ (Heap.get?_push_of_some _ e)) ?_ fun s' L es ep t mv z gx kp => ?_
      · exact ⟨[], #[], 0, _, txs_fresh (Heap.get?_push_of_some _ g0), GotX.start ks⟩
      · obtain ⟨h', g', d', tk', os'⟩ := s'
        obtain rfl : g' = s.gens := mv.gens
        obtain rfl : d' = s.drawn := mv.drawn
        obtain rfl : os' = s.os := mv.os
        show wpAny _ _ _ _ _ _
        refine wpAny_pure ?_
        show wpAny _ _ (ret Value.none) _ _ _
        rw [← len] at gx
        exact wpAny_pure ⟨rfl, h', tk', L, rfl, ⟨es, ep, t, z⟩, gx, kp⟩
    · cases r with
      | error e => exact hr
      | ok fl =>
       cases fl with
       | ret v =>
        obtain ⟨rfl, h', tk, L, rfl, z, gx, k⟩ := hr
        repeat (any_goals (first | assumption | wp_step))
        exact q _ _ _ z gx k
       | _ => exact hr.elim
   | _ => exact hr.elim
end
def rSetTx (K : PySem.W.Frag) (P : Program) (w : World) : List V → Hp → VK → Prop := fun vs H Q => ∃ (l : Addr) (ks : List (Addr × List Str)), vs = [.ref l] ∧ SqL K H l (ks.map fun p => V.ref p.1) ∧ (∀ p ∈ ks, SqT K H p.1 (p.2.map V.str)) ∧ ks.length < 60 ∧
  ∀ D L, H D = none → (∀ p ∈ L, p ∈ ks) → (∀ p ∈ ks, p.2 ∈ L.map (·.2)) → (L.map (·.2)).Nodup → Q (.ref D) (upd H D (TsO P w D L))
section
variable {X : Cx}
theorem refs_of : ∀ {ks : List (Addr × List Str)} {us : List Value}, Vals (ks.map fun p => V.ref p.1) us → us = ks.map fun p => Value.ref p.1
  | [], _, h => by cases h; rfl
  | p :: ks, _, h => by
    cases h with
    | cons r t =>
      cases r
      rw [refs_of t]
      rfl
theorem cr_setTx (hc : X.calm = true) (hu : X.A.units + 64 < cLine) : CallR X (.type "set") (rSetTx X.K X.prog X.w) := by
  intro pins s σ H vs us Q I r h
  obtain ⟨l, ks, rfl, hl, hk, few, q⟩ := h
  rw [Vals.ref1 r]
  obtain ⟨its, rv, pl, hz⟩ := I.list hl
  refine call_set_tx (P := X.prog) (w := X.w) ks (I.ok.hd hc) pl.isList (by simpa using refs_of rv) (fun p hp => tt_of I (hk p hp)) few (by omega) fun h' tk L R g k => ?_
  exact ⟨.ref s.heap.objs.size, _, I.laid (t' := tk) k (Nat.le_refl _) (ts_obj R), rfl, q _ L (I.hok.fresh (Nat.le_refl _)) (fun p hp => List.mem_of_mem_take (g.sub p hp)) (fun p hp => g.all p (by rw [List.take_length]; exact hp)) g.nd⟩
end
end
section
open L2 PySem PySem.Spec PyProof.Rows
section
variable {P : Program} {w : World} {A : Around} {E : Value → Shared → Prop} {s : Shared} {a : Addr} {L : List (Addr × List Str)} {es : Array (Int × Value)} {ep : Nat} {t : SetTable}
theorem tt_reads {h : Heap} {k : List Str} {b : Addr} (x : Tt P w h k b) : Reads h (.ref b) (tsD k) [] := by
  obtain ⟨o, us, n, g, c, d, it⟩ := x
  refine .tuple g c d ?_
  have key : ∀ {k : List Str} {us : List Value}, ItemsAre (PySem.strKind P w) k us → ReadsAll h us (k.map PyData.str) [] := by
    intro k us it
    induction it with
    | nil => exact .nil
    | cons h1 _ ih =>
      obtain ⟨t, rfl⟩ := Value.isStrOf_shape h1
      exact .cons (as := []) (bs := []) (.str _ t) ih
  exact key it
theorem strs_alike : ∀ a b : List Str, PySem.W.alikeAll (a.map PyData.str) (b.map PyData.str) = true
  | [], b => by cases b <;> rfl
  | x :: a, [] => rfl
  | x :: a, y :: b => by
    show (PySem.W.alike (.str x) (.str y) && PySem.W.alikeAll (a.map PyData.str) (b.map PyData.str)) = true
    rw [strs_alike a b]
    rfl
theorem ts_alike (a b : List Str) : PySem.W.alike (tsD a) (tsD b) = true := strs_alike a b
theorem strs_deep : ∀ a : List Str, PyData.depthAll (a.map PyData.str) = 0
  | [] => rfl
  | x :: a => by
    show max 0 (PyData.depthAll (a.map PyData.str)) = 0
    rw [strs_deep a]
    rfl
theorem ts_deep (a : List Str) : (tsD a).depth = 1 := by
  show PyData.depthAll (a.map PyData.str) + 1 = 1
  rw [strs_deep]
theorem each_ref : ∀ L : List (Addr × List Str), PySem.W.EachIs (fun v (p : Addr × List Str) => v = Value.ref p.1) (L.map fun p => Value.ref p.1) L
  | [] => .nil
  | p :: L => .cons rfl (each_ref L)
theorem each_refT {h : Heap} {b : Addr} : ∀ L : List (Addr × List Str), (∀ p ∈ L, Tt P w h p.2 p.1) → PySem.W.EachIs (fun v (p : Addr × List Str) => ∃ as, Reads h v (tsD p.2) as ∧ b ∉ as) (L.map fun p => Value.ref p.1) L
  | [], _ => .nil
  | p :: L, hT => .cons ⟨[], tt_reads (hT p List.mem_cons_self), List.not_mem_nil⟩ (each_refT L fun q hq => hT q (List.mem_cons_of_mem _ hq))
theorem refs_each : ∀ {L : List (Addr × List Str)} {vs : List Value}, PySem.W.EachIs (fun v (p : Addr × List Str) => v = Value.ref p.1) vs L → vs = L.map fun p => Value.ref p.1
  | _, _, .nil => rfl
  | _, _, .cons h t => by rw [h, refs_each t]; rfl
theorem sorted_tx (R : TxS P w s.heap a L es ep t) (hT : ∀ p ∈ L, Tt P w s.heap p.2 p.1) (ne : ∀ p ∈ L, p.2 ≠ []) (hh : A.handled = none) (hu : A.units + 64 < cLine) {Q : Value → Shared → Prop}
    (q : ∀ s' p (out : List Value) c (L1 : List (Addr × List Str)), (∀ b o, s.heap.get? b = some o → s'.heap.get? b = some o) → s'.gens = s.gens → s'.os = s.os → s.heap.objs.size ≤ p → s'.heap.get? p = some (seqObj "list" out.toArray c) → L1.Perm L →
      out = (L1.mergeSort (PySem.W.dataLe false fun p => tsD p.2)).map (fun p => Value.ref p.1) → Q (.ref p) s') :
    wpAny (model P w) A (call (.builtin "sorted") [.ref a]) Q E s := by
  obtain ⟨o, g, hex, hd⟩ := R.here
  have sz := R.size
  have few := R.few
  refine Calls.call_function_entry kind_sorted plain_sorted entry_sorted (args_sorted1 _) ?_
  unfold Builtin.«sorted»
  refine wpAny_bind (m := checkCount "sorted" 1 1 _) (wpAny_pure (wpAny_bind (collect_set (A := A.in1) hh ⟨o, g, hex.1, hd⟩ R.fits (by unfold scanBound; omega) R.tab.ris R.led fun s1 vs k1 hz g1 o1 pm => ?_)))
  have er : es.toList.map (·.2) = L.map fun p => Value.ref p.1 := by
    rw [R.rows, List.map_map]
    rfl
  obtain ⟨L1, p1, rfl⟩ := perm_map_inv pm er
  have hl : L1.length < 64 := by rw [p1.length_eq]; exact few
  refine wpAny_bind (wpAny_newList ?_ (by rw [List.length_map, sizeLine_eq]; omega))
  have g2 : (s1.heap.push (seqObj "list" (L1.map fun p => Value.ref p.1).toArray 0)).get? s1.heap.objs.size = some (seqObj "list" (L1.map fun p => Value.ref p.1).toArray 0) := Heap.get?_push_size _ rfl
  have tl : ∀ p ∈ L1, Tt P w (s1.heap.push (seqObj "list" (L1.map fun p => Value.ref p.1).toArray 0)) p.2 p.1 := fun p hp => tt_keep (hT p (p1.mem_iff.mp hp)) fun b u e => Heap.get?_push_of_some _ (k1 b u e)
  refine wpAny_bind (wpAny_holding (PySem.W.list_sort_data (s := { s1 with heap := s1.heap.push (seqObj "list" (L1.map fun p => Value.ref p.1).toArray 0) }) (enc := fun p : Addr × List Str => tsD p.2) g2 (each_ref L1) (each_refT L1 tl) (PySem.W.AllAlike.of fun b b' => ts_alike b.2 b'.2) (.inl fun d hd => ?_) (by rw [sizeLine_eq]; omega) (fun b _ => by show A.units + 1 + 1 + (tsD b.2).depth < _; rw [ts_deep]; omega) fun out hlen eo => ?_))
  · obtain ⟨p, hp, rfl⟩ := List.mem_map.mp hd
    have := ne p (p1.mem_iff.mp hp)
    show ∃ x r, PyData.tuple (p.2.map PyData.str) = .tuple (x :: r)
    cases c : p.2 with
    | nil => exact absurd c this
    | cons x r => exact ⟨_, _, rfl⟩
  · obtain ⟨c, hc⟩ := sortedHeap_at (vs := L1.map fun p => Value.ref p.1) (out := out.toArray) g2
    refine wpAny_pure ⟨_, rfl, q _ s1.heap.objs.size out c L1 (fun b u e => ?_) g1 o1 hz hc p1 (refs_each eo)⟩
    have z := k1 b u e
    have lt := Heap.lt_size z
    show (sortedHeap (s1.heap.push (seqObj "list" (L1.map fun p => Value.ref p.1).toArray 0)) s1.heap.objs.size (L1.map fun p => Value.ref p.1) out.toArray).get? b = some u
    rw [sortedHeap_old (Nat.ne_of_lt lt) (by rw [size_push']; exact Nat.lt_succ_of_lt lt)]
    exact Heap.get?_push_of_some _ z
end
def rSortedTs (K : PySem.W.Frag) (P : Program) (w : World) : List V → Hp → VK → Prop := fun vs H Q => ∃ (D : Addr) (L : List (Addr × List Str)), vs = [.ref D] ∧ H D = some (TsO P w D L) ∧ (∀ p ∈ L, SqT K H p.1 (p.2.map V.str)) ∧ (∀ p ∈ L, p.2 ≠ []) ∧
  ∀ (L1 : List (Addr × List Str)) p, L1.Perm L → H p = none → Q (.ref p) (upd H p (.lst ((L1.mergeSort (PySem.W.dataLe false fun p => tsD p.2)).map fun p => V.ref p.1)))
section
variable {X : Cx}
theorem vals_ref1 : ∀ L : List (Addr × List Str), Vals (L.map fun p => V.ref p.1) (L.map fun p => Value.ref p.1)
  | [] => .nil
  | p :: L => .cons rfl (vals_ref1 L)
theorem cr_sortedTs (hc : X.calm = true) (hu : X.A.units + 64 < cLine) : CallR X (.builtin "sorted") (rSortedTs X.K X.prog X.w) := by
  intro pins s σ H vs us Q I r h
  obtain ⟨D, L, rfl, hD, hk, ne, q⟩ := h
  rw [Vals.ref1 r]
  obtain ⟨es, ep, t, R⟩ : ∃ es ep t, TxS X.prog X.w s.heap D L es ep t := (I.hok D _ hD).1
  refine sorted_tx R (fun p hp => tt_of I (hk p hp)) ne (I.ok.hd hc) hu fun s' p out c L1 k g o hp hg pm eo => ?_
  have few : L1.length < 64 := by rw [pm.length_eq]; exact R.few
  have hl : ((L1.mergeSort (PySem.W.dataLe false fun p => tsD p.2)).map fun p => V.ref p.1).length ≤ sizeLine := by
    rw [List.length_map, (List.mergeSort_perm L1 _).length_eq, sizeLine_eq]
    omega
  have hn : H p = none := I.hok.fresh hp
  have J : Inv X pins σ (upd H p (.lst ((L1.mergeSort (PySem.W.dataLe false fun p => tsD p.2)).map fun p => V.ref p.1))) { s with heap := s'.heap, gens := s'.gens, drawn := s'.drawn, toks := s'.toks } :=
    I.call (ch := []) (Un.laid k hp hn) (I.hok.laid k hp ⟨hl, out, c, by rw [eo]; exact vals_ref1 _, hg⟩) (by rw [g]; exact I.bare) (fun _ z => nomatch z)
  have es' : s' = { s with heap := s'.heap, gens := s'.gens, drawn := s'.drawn, toks := s'.toks } := by
    cases s'
    cases s
    cases o
    rfl
  rw [es']
  exact ⟨.ref p, _, J, rfl, q L1 p pm hn⟩
end
section
variable {X : Cx} {K : PySem.W.Frag} {P : Program} {w : World}
theorem k_setTx (hc : X.calm = true) (hu : X.A.units + 64 < cLine) (hK : X.K = K := by rfl) (hP : X.prog = P := by rfl) (hw : X.w = w := by rfl) : CallR X (.type "set") (rSetTx K P w) := by
  subst hK hP hw
  exact cr_setTx hc hu
theorem k_sortedTs (hc : X.calm = true) (hu : X.A.units + 64 < cLine) (hK : X.K = K := by rfl) (hP : X.prog = P := by rfl) (hw : X.w = w := by rfl) : CallR X (.builtin "sorted") (rSortedTs K P w) := by
  subst hK hP hw
  exact cr_sortedTs hc hu
end
end
section
open L2 PySem PySem.Spec PyProof.Rows
abbrev Grp := Str → List Str
def stepG (g : Grp) (r : Str × Str) : Grp := if r.2 ∈ g r.1 then g else fun z => if z ∈ g r.1 ++ g r.2 then g r.1 ++ g r.2 else g z
def grp0 : Grp := fun z => [z]
def grpL (rs : List (Str × Str)) : Grp := rs.foldl stepG grp0
def mrg : List (Str × Str) → Grp → Nat
  | [], _ => 0
  | r :: rs, g => (if r.2 ∈ g r.1 then 0 else 1) + mrg rs (stepG g r)
def opensL : List (Str × Str) → Grp → Bool
  | [], _ => true
  | r :: rs, g => !decide (r.2 ∈ g r.1) && opensL rs (stepG g r)
theorem mrg_le : ∀ (rs : List (Str × Str)) (g : Grp), mrg rs g ≤ rs.length
  | [], _ => Nat.le_refl _
  | r :: rs, g => by
    have := mrg_le rs (stepG g r)
    show (if r.2 ∈ g r.1 then 0 else 1) + mrg rs (stepG g r) ≤ rs.length + 1
    split <;> omega
theorem opens_mrg : ∀ (rs : List (Str × Str)) (g : Grp), opensL rs g = decide (mrg rs g = rs.length)
  | [], _ => rfl
  | r :: rs, g => by
    have h1 := mrg_le rs (stepG g r)
    have h2 := opens_mrg rs (stepG g r)
    show (!decide (r.2 ∈ g r.1) && opensL rs (stepG g r)) = decide ((if r.2 ∈ g r.1 then 0 else 1) + mrg rs (stepG g r) = rs.length + 1)
    rw [h2]
    by_cases c : r.2 ∈ g r.1
    · rw [if_pos c, decide_eq_true c, decide_eq_false (show ¬ (0 + mrg rs (stepG g r) = rs.length + 1) by omega)]
      rfl
    · rw [if_neg c, decide_eq_false c]
      show decide _ = decide _
      by_cases e : mrg rs (stepG g r) = rs.length
      · rw [decide_eq_true e, decide_eq_true (by omega)]
      · rw [decide_eq_false e, decide_eq_false (by omega)]
theorem opens_snoc (r : Str × Str) : ∀ (rs : List (Str × Str)) (g : Grp), opensL (rs ++ [r]) g = (opensL rs g && !decide (r.2 ∈ (rs.foldl stepG g) r.1))
  | [], g => by
    show (!decide (r.2 ∈ g r.1) && true) = (true && !decide (r.2 ∈ g r.1))
    rw [Bool.and_true, Bool.true_and]
  | q :: rs, g => by
    show (!decide (q.2 ∈ g q.1) && opensL (rs ++ [r]) (stepG g q)) = ((!decide (q.2 ∈ g q.1) && opensL rs (stepG g q)) && _)
    rw [opens_snoc r rs, Bool.and_assoc]
    rfl
structure PartI (ps : List Str) (g : Grp) : Prop where
  own : ∀ z ∈ ps, z ∈ g z
  nd : ∀ z ∈ ps, (g z).Nodup
  mem : ∀ z ∈ ps, ∀ y ∈ g z, y ∈ ps ∧ g y = g z
structure ClsI (ps : List Str) (g : Grp) (D : List (List Str)) : Prop where
  nd : D.Nodup
  iff : ∀ v, v ∈ D ↔ ∃ z ∈ ps, g z = v
section
variable {ps : List Str} {g : Grp} {r : Str × Str}
theorem PartI.start : PartI ps grp0 where
  own z _ := List.mem_singleton.mpr rfl
  nd z _ := by simp [grp0]
  mem z hz y hy := by
    rcases List.mem_singleton.mp hy with rfl
    exact ⟨hz, rfl⟩
theorem PartI.off (h : PartI ps g) (h1 : r.1 ∈ ps) (h2 : r.2 ∈ ps) (c : r.2 ∉ g r.1) : ∀ y, y ∈ g r.1 → y ∉ g r.2 := fun y a b => by
  have e1 := (h.mem _ h1 y a).2
  have e2 := (h.mem _ h2 y b).2
  exact c (by rw [← e1, e2]; exact h.own _ h2)
theorem PartI.out (h : PartI ps g) (h1 : r.1 ∈ ps) (h2 : r.2 ∈ ps) {z y : Str} (hz : z ∈ ps) (n : z ∉ g r.1 ++ g r.2) (hy : y ∈ g z) : y ∉ g r.1 ++ g r.2 := fun m => n (by
  have e := (h.mem _ hz y hy).2
  rcases List.mem_append.mp m with m | m
  · have e1 := (h.mem _ h1 y m).2
    exact List.mem_append_left _ (by rw [← e1, e]; exact h.own _ hz)
  · have e1 := (h.mem _ h2 y m).2
    exact List.mem_append_right _ (by rw [← e1, e]; exact h.own _ hz))
theorem step_in (c : r.2 ∉ g r.1) {z : Str} (m : z ∈ g r.1 ++ g r.2) : stepG g r z = g r.1 ++ g r.2 := by
  unfold stepG
  rw [if_neg c]
  exact if_pos m
theorem step_out (c : r.2 ∉ g r.1) {z : Str} (m : z ∉ g r.1 ++ g r.2) : stepG g r z = g z := by
  unfold stepG
  rw [if_neg c]
  exact if_neg m
theorem step_old (c : r.2 ∈ g r.1) : stepG g r = g := by
  unfold stepG
  rw [if_pos c]
theorem PartI.step (h : PartI ps g) (h1 : r.1 ∈ ps) (h2 : r.2 ∈ ps) : PartI ps (stepG g r) := by
  by_cases c : r.2 ∈ g r.1
  · rw [step_old c]
    exact h
  · have off := h.off h1 h2 c
    refine ⟨fun z hz => ?_, fun z hz => ?_, fun z hz y hy => ?_⟩
    · by_cases m : z ∈ g r.1 ++ g r.2
      · rw [step_in c m]
        exact m
      · rw [step_out c m]
        exact h.own z hz
    · by_cases m : z ∈ g r.1 ++ g r.2
      · rw [step_in c m, List.nodup_append]
        exact ⟨h.nd _ h1, h.nd _ h2, fun a ha b hb e => off a ha (e ▸ hb)⟩
      · rw [step_out c m]
        exact h.nd z hz
    · by_cases m : z ∈ g r.1 ++ g r.2
      · rw [step_in c m] at hy ⊢
        refine ⟨?_, step_in c hy⟩
        rcases List.mem_append.mp hy with hy | hy
        · exact (h.mem _ h1 y hy).1
        · exact (h.mem _ h2 y hy).1
      · rw [step_out c m] at hy ⊢
        rw [step_out c (h.out h1 h2 hz m hy)]
        exact h.mem z hz y hy
theorem ClsI.start (nd : ps.Nodup) : ClsI ps grp0 (ps.map fun z => [z]) where
  nd := List.Pairwise.map _ (fun a b h e => h (by simpa using e)) nd
  iff v := by
    constructor
    · intro h
      obtain ⟨z, hz, e⟩ := List.mem_map.mp h
      exact ⟨z, hz, e⟩
    · rintro ⟨z, hz, rfl⟩
      exact List.mem_map.mpr ⟨z, hz, rfl⟩
theorem ClsI.step {D : List (List Str)} (k : ClsI ps g D) (h : PartI ps g) (h1 : r.1 ∈ ps) (h2 : r.2 ∈ ps) : ∃ D', ClsI ps (stepG g r) D' ∧ D'.length + (if r.2 ∈ g r.1 then 0 else 1) = D.length := by
  by_cases c : r.2 ∈ g r.1
  · rw [if_pos c, step_old c]
    exact ⟨D, k, rfl⟩
  · rw [if_neg c]
    have m1 : g r.1 ∈ D := (k.iff _).mpr ⟨_, h1, rfl⟩
    have m2 : g r.2 ∈ D := (k.iff _).mpr ⟨_, h2, rfl⟩
    have ne : g r.2 ≠ g r.1 := fun e => c (by rw [← e]; exact h.own _ h2)
    have m3 : g r.2 ∈ D.erase (g r.1) := (k.nd.mem_erase_iff).mpr ⟨ne, m2⟩
    have nb : g r.1 ++ g r.2 ∉ D := fun m => by
      obtain ⟨z, hz, e⟩ := (k.iff _).mp m
      have z1 : r.1 ∈ g z := by rw [e]; exact List.mem_append_left _ (h.own _ h1)
      have z2 : r.2 ∈ g z := by rw [e]; exact List.mem_append_right _ (h.own _ h2)
      exact c (by rw [(h.mem _ hz _ z1).2]; exact z2)
    have nd1 : ((D.erase (g r.1)).erase (g r.2)).Nodup := (k.nd.erase _).erase _
    refine ⟨(g r.1 ++ g r.2) :: (D.erase (g r.1)).erase (g r.2), ⟨List.nodup_cons.mpr ⟨fun m => nb (List.mem_of_mem_erase (List.mem_of_mem_erase m)), nd1⟩, fun v => ?_⟩, ?_⟩
    · rw [List.mem_cons, (k.nd.erase _).mem_erase_iff, k.nd.mem_erase_iff, k.iff]
      constructor
      · rintro (rfl | ⟨n2, n1, z, hz, rfl⟩)
        · exact ⟨r.1, h1, step_in c (List.mem_append_left _ (h.own _ h1))⟩
        · refine ⟨z, hz, step_out c fun m => ?_⟩
          rcases List.mem_append.mp m with m | m
          · exact n1 (h.mem _ h1 _ m).2
          · exact n2 (h.mem _ h2 _ m).2
      · rintro ⟨z, hz, rfl⟩
        by_cases m : z ∈ g r.1 ++ g r.2
        · exact .inl (step_in c m)
        · rw [step_out c m]
          refine .inr ⟨fun e => m ?_, fun e => m ?_, z, hz, rfl⟩
          · exact List.mem_append_right _ (by rw [← e]; exact h.own z hz)
          · exact List.mem_append_left _ (by rw [← e]; exact h.own z hz)
    · rw [List.length_cons, List.length_erase_of_mem m3, List.length_erase_of_mem m1]
      have l1 := List.length_pos_of_mem m3
      rw [List.length_erase_of_mem m1] at l1
      omega
end
theorem part_walk {ps : List Str} : ∀ (rs : List (Str × Str)) {g : Grp} {D : List (List Str)}, (∀ r ∈ rs, r.1 ∈ ps ∧ r.2 ∈ ps) → PartI ps g → ClsI ps g D → PartI ps (rs.foldl stepG g) ∧ ∃ D', ClsI ps (rs.foldl stepG g) D' ∧ D'.length + mrg rs g = D.length
  | [], g, D, _, h, k => ⟨h, D, k, rfl⟩
  | r :: rs, g, D, e, h, k => by
    obtain ⟨e1, e2⟩ := e r List.mem_cons_self
    obtain ⟨D1, k1, l1⟩ := k.step h e1 e2
    obtain ⟨p, D2, k2, l2⟩ := part_walk rs (fun q hq => e q (List.mem_cons_of_mem _ hq)) (h.step e1 e2) k1
    refine ⟨p, D2, k2, ?_⟩
    show D2.length + ((if r.2 ∈ g r.1 then 0 else 1) + mrg rs (stepG g r)) = D.length
    omega
abbrev tLe (a b : List Str) : Bool := PySem.W.dataLe false tsD a b
theorem sorted_up {β : Type} (k : β → List Str) (L : List β) : ((L.mergeSort (PySem.W.dataLe false fun b => tsD (k b))).map k).Pairwise fun x y => tLe x y = true := by
  have T := PySem.W.sortLe_total (listOrd itemOrd) false fun b => PySem.W.keyToks (tsD (k b))
  have h := List.pairwise_mergeSort (le := PySem.W.dataLe false fun b => tsD (k b)) T.trans (fun a b => by rw [Bool.or_eq_true]; exact T.total a b) L
  exact List.pairwise_map.mpr h
structure IsPcs (g : Grp) (ps : List Str) (out : List (List Str)) : Prop where
  all : ∀ z ∈ ps, ∃ k ∈ out, k.Perm (g z)
  each : ∀ k ∈ out, ∃ z ∈ ps, k.Perm (g z)
  up : ∀ k ∈ out, sortedS k = true
  nd : out.Nodup
  sorted : out.Pairwise fun x y => tLe x y = true
section
variable {ps : List Str} {g : Grp} {a b out : List (List Str)}
theorem pcs_meet (I : PartI ps g) (h : IsPcs g ps a) {x y : List Str} (hx : x ∈ a) (hy : y ∈ a) {z : Str} (m1 : z ∈ x) (m2 : z ∈ y) : x = y := by
  obtain ⟨u, hu, p1⟩ := h.each x hx
  obtain ⟨v, hv, p2⟩ := h.each y hy
  have e1 := (I.mem _ hu z (p1.mem_iff.mp m1)).2
  have e2 := (I.mem _ hv z (p2.mem_iff.mp m2)).2
  exact sorted_one (p1.trans (by rw [← e1, e2]; exact p2.symm)) (h.up x hx) (h.up y hy)
theorem flat_nd : ∀ {l : List (List Str)}, l.Nodup → (∀ x ∈ l, x.Nodup) → (∀ x ∈ l, ∀ y ∈ l, ∀ z, z ∈ x → z ∈ y → x = y) → l.flatten.Nodup
  | [], _, _, _ => List.nodup_nil
  | x :: l, nd, h1, h2 => by
    obtain ⟨n1, n2⟩ := List.nodup_cons.mp nd
    rw [List.flatten_cons, List.nodup_append]
    refine ⟨h1 x List.mem_cons_self, flat_nd n2 (fun y hy => h1 y (List.mem_cons_of_mem _ hy)) (fun y hy w hw => h2 y (List.mem_cons_of_mem _ hy) w (List.mem_cons_of_mem _ hw)), fun c hc d hd e => ?_⟩
    subst e
    obtain ⟨y, hy, hd2⟩ := List.mem_flatten.mp hd
    exact n1 (h2 x List.mem_cons_self y (List.mem_cons_of_mem _ hy) c hc hd2 ▸ hy)
theorem pcs_len (nd : ps.Nodup) (I : PartI ps g) (h : IsPcs g ps out) : (out.map List.length).sum = ps.length := by
  have n1 : out.flatten.Nodup := flat_nd h.nd (fun x hx => by obtain ⟨z, hz, p⟩ := h.each x hx; exact p.nodup_iff.mpr (I.nd z hz)) fun x hx y hy z m1 m2 => pcs_meet I h hx hy m1 m2
  have pm : out.flatten.Perm ps := (List.perm_ext_iff_of_nodup n1 nd).mpr fun z => by
    rw [List.mem_flatten]
    constructor
    · rintro ⟨x, hx, m⟩
      obtain ⟨u, hu, p⟩ := h.each x hx
      exact (I.mem _ hu z (p.mem_iff.mp m)).1
    · intro hz
      obtain ⟨x, hx, p⟩ := h.all z hz
      exact ⟨x, hx, p.mem_iff.mpr (I.own z hz)⟩
  rw [← pm.length_eq, List.length_flatten]
theorem pcs_cls {D : List (List Str)} (I : PartI ps g) (h : IsPcs g ps out) (k : ClsI ps g D) : out.length = D.length := by
  have hd : ∀ x ∈ out, ∃ z ∈ ps, x.Perm (g z) ∧ g (x.headD Str.empty) = g z := fun x hx => by
    obtain ⟨z, hz, p⟩ := h.each x hx
    refine ⟨z, hz, p, ?_⟩
    cases c : x with
    | nil =>
      rw [c] at p
      exact absurd (p.mem_iff.mpr (I.own z hz)) List.not_mem_nil
    | cons y r =>
      rw [c] at p
      exact (I.mem _ hz y (p.mem_iff.mp List.mem_cons_self)).2
  have n1 : (out.map fun x => g (x.headD Str.empty)).Nodup := nd_map_on _ _ h.nd fun x hx y hy e => by
    obtain ⟨u, _, p1, e1⟩ := hd x hx
    obtain ⟨v, _, p2, e2⟩ := hd y hy
    exact sorted_one (p1.trans (by rw [← e1, e, e2]; exact p2.symm)) (h.up x hx) (h.up y hy)
  refine Nat.le_antisymm ?_ ?_
  · rw [← List.length_map (f := fun x : List Str => g (x.headD Str.empty))]
    refine nd_le _ _ n1 fun v hv => ?_
    obtain ⟨x, hx, rfl⟩ := List.mem_map.mp hv
    obtain ⟨z, hz, _, e⟩ := hd x hx
    exact (k.iff _).mpr ⟨z, hz, e.symm⟩
  · rw [← List.length_map (as := out) (f := fun x : List Str => g (x.headD Str.empty))]
    refine nd_le _ _ k.nd fun v hv => ?_
    obtain ⟨z, hz, rfl⟩ := (k.iff _).mp hv
    obtain ⟨x, hx, p⟩ := h.all z hz
    refine List.mem_map.mpr ⟨x, hx, ?_⟩
    cases c : x with
    | nil =>
      rw [c] at p
      exact absurd (p.mem_iff.mpr (I.own z hz)) List.not_mem_nil
    | cons y r =>
      rw [c] at p
      exact (I.mem _ hz y (p.mem_iff.mp List.mem_cons_self)).2
end
theorem web_pcs {ps : List Str} {rs : List (Str × Str)} (W : IsWeb ps rs) : PartI ps (grpL rs) ∧ ∀ out, IsPcs (grpL rs) ps out → (out.map List.length).sum = ps.length ∧ out.length ≤ ps.length ∧ (decide (rs.length = ps.length - out.length) = opensL rs grp0) ∧ out.length + mrg rs grp0 = ps.length := by
  have nd := W.names.1
  obtain ⟨I, D, k, l⟩ := part_walk (ps := ps) rs (g := grp0) (fun r hr => ⟨(W.ends r hr).1, (W.ends r hr).2.1⟩) PartI.start (ClsI.start nd)
  refine ⟨I, fun out h => ?_⟩
  have e := pcs_cls I h k
  rw [List.length_map, ← e] at l
  refine ⟨pcs_len nd I h, by omega, ?_, l⟩
  rw [opens_mrg]
  by_cases c : mrg rs grp0 = rs.length
  · rw [decide_eq_true c, decide_eq_true (by omega)]
  · rw [decide_eq_false c, decide_eq_false (by omega)]
end
section
open L2 PySem PySem.Spec PyProof.Rows
def rListVk : List V → Hp → VK → Prop := fun xs H Q => ∃ (p D : Addr) (kvs : List (Key × V)), xs = [.ref p] ∧ H p = some (VwO p D) ∧ H D = some (.dK kvs) ∧ ∀ q, H q = none → Q (.ref q) (upd H q (.lst (kvs.map fun l => l.2)))
def tDkVals (td : TE) : TE := fun σ H Q => td σ H fun x H1 => ∃ (D : Addr) (kvs : List (Key × V)), x = .ref D ∧ H1 D = some (.dK kvs) ∧ ∀ p, H1 p = none → Q (.ref p) (upd H1 p (VwO p D))
section
variable {X : Cx} {pos apos cpos : Pos} {o : Expr} {td : TE}
theorem kv_at {kvs : List (Key × V)} {vs : List (Key × Value)} (r : KV kvs vs) : ∀ {i : Nat} {k : Key} {u : Value}, vs[i]? = some (k, u) → ∃ x, kvs[i]? = some x ∧ RelV x.2 u := fun {i k u} e => by
  obtain ⟨x, h1, h2⟩ := paired_get r e
  exact ⟨x, h1, h2.2⟩
theorem call_listVk (hc : X.calm = true) : CallR X (.type "list") rListVk := by
  intro pins s σ H xs us Q I r q
  obtain ⟨p, D, kvs, rfl, ep', e, q⟩ := q
  obtain ⟨u, rfl, rx⟩ := vals1 r
  cases rx
  obtain ⟨z, lo, vs, rel, dd⟩ := dk_rd I.hok (.inl e)
  obtain ⟨ep, hat⟩ := dd.dictAt
  have hv0 : s.heap.IsValuesView p D := (show ObjOk X.prog X.w H s.heap p (VwO p D) from I.hok p _ ep').1
  have hl : kvs.length = vs.length := Paired.length rel
  refine PySem.W.kdl_call (PySem.W.kdl_values (knd := mixKind X.prog X.w) (r := p) (d := D) (kvs := vs) (ep := ep)) (I.ok.hd hc) ⟨hv0, hat⟩ (by rw [← hl]; exact z) fun h' tk acc c' hk hD hacc => ?_
  have hv : Vals (kvs.map fun l => l.2) acc.toList := vals_at (by rw [Array.length_toList, hacc.1, List.length_map, hl]) fun j v ev => by
    obtain ⟨k, hi⟩ := hacc.2 j v (by rw [← Array.getElem?_toList]; exact ev)
    obtain ⟨x, x1, x2⟩ := kv_at rel hi
    exact ⟨x.2, by rw [List.getElem?_map, x1]; rfl, x2⟩
  exact ⟨.ref s.heap.objs.size, _, I.laid (t' := tk) hk (Nat.le_refl _) (show ObjOk X.prog X.w _ _ _ (.lst (kvs.map fun l => l.2)) from ⟨by rw [List.length_map]; exact z, acc.toList, c', hv, by rw [Array.toArray_toList]; exact hD⟩), rfl, q _ (I.hok.fresh (Nat.le_refl _))⟩
theorem pe_dkVals (ho : PE X o td) (hbase : attributeBase o "values" X.env (eval o X.env) = eval o X.env := by rfl) (hline : (apos.endLine == cpos.line) = true := by rfl) : PE X (.Call (.Attribute o "values" apos) [] [] cpos) (tDkVals td) := by
  refine ⟨fun pins s σ H Q I h => ?_⟩
  refine wpAny_Call_method0_late hbase hline (thn (ho.run pins s σ H _ I h) fun v s1 ⟨x, H1, I1, r1, D, kvs, ex, e, q1⟩ => ?_)
  subst ex
  obtain ⟨t1, t2⟩ := tyV_is (T := "dict") I1 r1 (.inr (.inr (.inl ⟨rfl, .inl ⟨kvs, e⟩⟩)))
  obtain rfl : v = Value.ref D := r1
  obtain ⟨z, lo, vs, rel, dd⟩ := dk_rd I1.hok (.inl e)
  obtain ⟨es, ep, h1, _⟩ := dd.raw
  refine ⟨"dict", "dict.values", PySem.F.plainAttrs_dict, PySem.F.slot_dict_values, PySem.F.type_dict_values, t1, t2, Calls.callWith_builtin rfl (PySem.evalArgs_none ?_)⟩
  refine call_meetsIn PySem.F.slot_dict_values t1 PySem.F.entry_dict_values (PySem.F.args_dict_values_1 _) (meets_dict_values_raw D lo) ⟨⟨es, ep, h1⟩, ?_⟩
  refine ⟨.ref s1.heap.objs.size, _, I1.laid (t' := s1.toks) (fun b o q => Heap.get?_push_of_some _ q) (Nat.le_refl _) ?_, rfl, q1 _ (I1.hok.fresh (Nat.le_refl _))⟩
  exact ⟨⟨_, Heap.get?_push_size _ rfl, rfl, rfl⟩, ⟨_, Heap.get?_push_size _ rfl⟩, fun h1 h2 ⟨o, g, q⟩ k => ⟨o, k _ g, q⟩⟩
end
theorem i_dkVals {σ : L2.St} {H : Hp} {Q : VK} {td : TE} (h : td σ H fun x H1 => ∃ (D : Addr) (kvs : List (Key × V)), x = .ref D ∧ H1 D = some (.dK kvs) ∧ ∀ p, H1 p = none → Q (.ref p) (upd H1 p (VwO p D))) : tDkVals td σ H Q := h
def fnK (ps : List Str) (A : Str → V) : List (Key × V) := ps.map fun z => (Sum.inr z, A z)
section
variable {ps : List Str} {A B : Str → V}
theorem fnK_len : (fnK ps A).length = ps.length := List.length_map ..
theorem fnK_snoc {z : Str} (h : z ∉ ps) : putK (fnK ps A) (.inr z) (A z) = fnK (ps ++ [z]) A := by
  have n : (fnK ps A).any (fun kv => decide (kv.1 = Sum.inr z)) = false := by
    rw [List.any_eq_false]
    intro kv hkv c
    obtain ⟨y, hy, rfl⟩ := List.mem_map.mp hkv
    have e : (Sum.inr y : Key) = Sum.inr z := of_decide_eq_true c
    exact h (Sum.inr.inj e ▸ hy)
  unfold putK
  rw [n, if_neg (by decide)]
  unfold fnK
  rw [List.map_append]
  rfl
theorem fnK_put {z : Str} {v : V} (h : z ∈ ps) : putK (fnK ps A) (.inr z) v = fnK ps fun y => if y = z then v else A y := by
  have n : (fnK ps A).any (fun kv => decide (kv.1 = Sum.inr z)) = true := by
    rw [List.any_eq_true]
    exact ⟨(.inr z, A z), List.mem_map.mpr ⟨z, h, rfl⟩, decide_eq_true rfl⟩
  unfold putK
  rw [n, if_pos rfl]
  unfold fnK
  rw [List.map_map]
  refine List.map_congr_left fun y _ => ?_
  show (if (Sum.inr y : Key) = Sum.inr z then _ else _) = _
  by_cases e : y = z
  · subst e
    rw [if_pos rfl]
    show _ = (Sum.inr y, if y = y then v else A y)
    rw [if_pos rfl]
  · rw [if_neg (fun c => e (Sum.inr.inj c))]
    show _ = (Sum.inr y, if y = z then v else A y)
    rw [if_neg e]
theorem fnK_val {z : Str} (h : z ∈ ps) : valV (fnK ps A) (.inr z) = some (A z) := by
  induction ps with
  | nil => cases h
  | cons y r ih =>
    show valV ((Sum.inr y, A y) :: fnK r A) (.inr z) = _
    by_cases e : y = z
    · subst e
      exact valV_pos rfl
    · rw [valV_neg (fun c => e (Sum.inr.inj c))]
      exact ih ((List.mem_cons.mp h).resolve_left fun c => e c.symm)
theorem fnK_congr (h : ∀ z ∈ ps, A z = B z) : fnK ps A = fnK ps B := List.map_congr_left fun z hz => by rw [h z hz]
theorem fnK_vals : (fnK ps A).map (fun l => l.2) = ps.map A := by
  unfold fnK
  rw [List.map_map]
  rfl
end
def spPieces (K : PySem.W.Frag) : Sp := fun vs H Q _ => ∃ (v : V) (ps : List Str) (rs : List (Str × Str)), vs = [v] ∧ Dp K H v (webD ps rs) ∧ IsWeb ps rs ∧
  ∀ (D : Addr) (H' : Hp) (out : List (List Str)) (us : List V), Same H H' → H D = none → H' D = some (.lst us) → DpAll K H' us (out.map tsD) → IsPcs (grpL rs) ps out → Q (.ref D) H'
end
section
open L2 PySem PySem.Spec PyProof.Rows
section
variable {X : Cx} {i : Nat} {y : Str} {py : Pos} {kx vx tg iter : Expr} {ifs : List Expr} {scope : Scope} {own : List (Str × Nat)} {pos spos : Pos} {wi : TI} {g : TG} {tt : TT} {tk tv : TE}
theorem ps_setDc (hc : X.calm = true) (nN : X.N.Nodup) (iy : X.N[i]? = some y) (ly : X.env.scope.names.lookup y = some .local) (sw : swapsWith (.DictComp kx vx [⟨tg, iter, ifs, 0⟩] scope pos) (some (.Name y py)) spos.line X.env = pure true)
    (hi : PI X tg iter wi) (ok : BlkOk X.N X.env.scope scope own) (pg : ∀ (s : Shared) (H : Hp) (C : Addr) (cl : List (Str × Addr)) (fp : List Addr), PG (X.blk s H scope (compEnvC scope cl C X.env) fp) tg g)
    (pt : ∀ (s : Shared) (H : Hp) (C : Addr) (cl : List (Str × Addr)) (fp : List Addr), PTs (X.blk s H scope (compEnvC scope cl C X.env) fp) ifs tt) (pk : ∀ (s : Shared) (H : Hp) (C : Addr) (cl : List (Str × Addr)) (fp : List Addr), PE (X.blk s H scope (compEnvC scope cl C X.env) fp) kx tk)
    (pv : ∀ (s : Shared) (H : Hp) (C : Addr) (cl : List (Str × Addr)) (fp : List Addr), PE (X.blk s H scope (compEnvC scope cl C X.env) fp) vx tv) (hs : ∀ x, foldedSetIterable iter X.env x = pure x := by intro _; rfl) :
    PS X (.Assign [.Name y py] (.DictComp kx vx [⟨tg, iter, ifs, 0⟩] scope pos) spos) (tAsg (tDc wi g tt tk tv (own.map (·.2))) (gName i)) := ⟨fun pins s σ H D I h => by
  rw [exec_Assign_Name_used _ _ _ _ sw]
  refine wpAny_bind (wpAny_standAt (wpAny_bind (show wpAny _ X.A (do let _ ← comprehension (.DictComp kx vx [⟨tg, iter, ifs, 0⟩] scope pos) scope X.env (firstIterPos [⟨tg, iter, ifs, 0⟩] pos) newDict false (eval iter X.env) (some (assign (.Name y py) X.env))) _ _ s from ?_)))
  have h0 : tDc wi g tt tk tv (own.map (·.2)) σ H (fun x H1 => gName i x σ H1 D.nx) := h
  refine wpAny_bind (thn (dc_core (Qf := fun _ z => SP X pins D .next z) hc nN I hi ok pg pt pk pv hs h0 fun L C z m H1 I1 q hn ⟨f0, f1, f2, f3, f4, f5⟩ => (show wpAny _ _ (assign (.Name y py) X.env (.ref L)) _ _ _ from ?_)) fun _ z hq => wpAny_pure (wpAny_pure hq))
  refine wpAny_assign_Name (store_ok2 (v := V.ref L) I1 nN iy (.inl ly) rfl (fun z2 I2 ⟨b, sb, hb⟩ => ?_) (.inr ly))
  have ne : C ≠ b := hb.elim (fun e => e ▸ f1) fun e c => f4 y b e c.symm
  exact ⟨m, hn.sameBut sb ne, fun h3 sb3 => ⟨_, H1, I2.turned (t' := z2.toks) (fun b o hb e => (sb3.2 b hb).trans e) f0 f1 f3 f4 f5, q⟩⟩⟩
theorem sw_dict {gs : List Comprehension} {l : Nat} {env : Env} (hk : env.scope.kind = .function) (ly : env.scope.names.lookup y = some .local) (hl : (py.line == pos.line) = true) (ha : (scope.names.any fun (n, k) => n == y && (k == .local || k == .cell)) = false) : swapsWith (.DictComp kx vx gs scope pos) (some (.Name y py)) l env = pure true := by
  have e1 : env.kindOf y = some .local := ly
  have e2 : env.blockKind = .function := by
    unfold Env.blockKind
    rw [hk]
    rfl
  unfold swapsWith
  simp only [e1, e2, ha, Expr.pos, hl]
  rfl
end
end
section
open L2 PySem PySem.Spec PyProof.Rows
section
variable {l : List Nat} {s m b p N : Nat}
def lstN : List Nat → Nat
  | [] => 0
  | x :: r => match r with
    | [] => x
    | _ :: _ => min x (lstN r)
theorem lstN_is : ∀ {r : List Nat}, r ≠ [] → lstN r ∈ r ∧ ∀ y ∈ r, lstN r ≤ y
  | [], h => absurd rfl h
  | [x], _ => ⟨List.mem_singleton.mpr rfl, fun y hy => by rw [List.mem_singleton.mp hy]; exact Nat.le_refl _⟩
  | x :: z :: r, _ => by
    obtain ⟨h1, h2⟩ := lstN_is (r := z :: r) (by simp)
    show min x (lstN (z :: r)) ∈ _ ∧ _
    refine ⟨?_, fun y hy => ?_⟩
    · rcases Nat.le_total x (lstN (z :: r)) with c | c
      · rw [Nat.min_eq_left c]
        exact List.mem_cons_self
      · rw [Nat.min_eq_right c]
        exact List.mem_cons_of_mem _ h1
    · show min x (lstN (z :: r)) ≤ y
      rcases List.mem_cons.mp hy with rfl | hy
      · exact Nat.min_le_left _ _
      · exact Nat.le_trans (Nat.min_le_right _ _) (h2 y hy)
theorem lstN_one {r : List Nat} {x : Nat} (h : x ∈ r) (k : ∀ y ∈ r, x ≤ y) : lstN r = x := by
  obtain ⟨h1, h2⟩ := lstN_is (fun e : r = [] => by rw [e] at h; exact absurd h List.not_mem_nil)
  exact Nat.le_antisymm (h2 x h) (k _ h1)
def rotM (r : List Nat) : List Nat := r.drop (r.idxOf (lstN r)) ++ r.take (r.idxOf (lstN r))
end
end
section
open L2 PySem PySem.Spec PyProof.Rows
abbrev dc2 (kx vx t0 i0 : Expr) (fs0 : List Expr) (t1 i1 : Expr) (fs1 : List Expr) (scope : Scope) (pos : Pos) : Expr := .DictComp kx vx [⟨t0, i0, fs0, 0⟩, ⟨t1, i1, fs1, 0⟩] scope pos
end
section
open L2 PySem PySem.Spec PyProof.Rows
def rMinN (K : PySem.W.Frag) : List V → Hp → VK → Prop := fun vs H Q => ∃ (a : Addr) (l : List Nat), vs = [V.ref a] ∧ SqL K H a (natsV l) ∧ l ≠ [] ∧ Q (.int (lstN l : Nat)) H
theorem mem_intsI {l : List Nat} {m : Int} (h : m ∈ intsI l) : ∃ n ∈ l, m = ((n : Nat) : Int) := by
  unfold intsI at h
  obtain ⟨n, hn, e⟩ := List.mem_map.mp h
  exact ⟨n, hn, e.symm⟩
theorem intsI_mem {l : List Nat} {n : Nat} (h : n ∈ l) : ((n : Nat) : Int) ∈ intsI l := List.mem_map.mpr ⟨n, h, rfl⟩
theorem intsI_pos {l : List Nat} (h : l ≠ []) : 0 < (intsI l).length := by
  unfold intsI
  rw [List.length_map]
  exact List.length_pos_iff.mpr h
theorem k_minN {X : Cx} {K : PySem.W.Frag} (hc : X.calm = true) (hK : X.K = K := by rfl) : CallR X (.builtin "min") (rMinN K) := by
  subst hK
  intro pins s σ H vs us Q I r h
  obtain ⟨a, l, rfl, hs, ne, q⟩ := h
  refine cr_min hc pins s σ H _ us Q I r ⟨a, intsI l, rfl, by rw [← nats_int]; exact hs, intsI_pos ne, fun m hm hle => ?_⟩
  obtain ⟨n, hn, rfl⟩ := mem_intsI hm
  have : lstN l = n := lstN_one hn fun y hy => by
    have := hle _ (intsI_mem hy)
    omega
  rw [← this]
  exact q
theorem idx_of {α : Type} [BEq α] [LawfulBEq α] {l : List α} {x : α} (h : x ∈ l) : l[l.idxOf x]? = some x ∧ ∀ m, m < l.idxOf x → ∀ y, l[m]? = some y → y ≠ x := by
  refine ⟨?_, fun m hm y hy e => ?_⟩
  · rw [List.getElem?_eq_getElem (List.idxOf_lt_length_iff.mpr h), List.getElem_idxOf]
  · subst e
    have := List.not_of_lt_findIdx (p := fun z => z == y) hm
    obtain ⟨h1, h2⟩ := List.getElem?_eq_some_iff.mp hy
    rw [h2] at this
    simp at this
theorem i_indexN {K : PySem.W.Frag} {H : Hp} {Q : VK} {a : Addr} {l : List Nat} {n : Nat} (hs : SqL K H a (natsV l)) (hl : ∀ x ∈ l, x < 300) (hn : n ∈ l) (q : Q (.int (l.idxOf n : Nat)) H) : rIndexD K (.ref a) [.int (n : Nat)] H Q := by
  obtain ⟨i1, i2⟩ := idx_of hn
  refine ⟨a, .int (n : Nat), iD n, l.map iD, l.idxOf n, iD n, rfl, rfl, .lst hs (dp_nts l), .int _, li_shaped hl, ?_, ?_, ?_, fun m z hm hz => ?_, q⟩
  · obtain ⟨b1, _⟩ := small_int (hl n hn)
    show ((iD n).canLay0 && decide (0 ≤ 64)) = true
    rw [b1]
    rfl
  · rw [List.getElem?_map, i1]; rfl
  · show ((n : Int) == (n : Int)) = true
    exact beq_self_eq_true _
  · rw [List.getElem?_map] at hz
    cases e : l[m]? with
    | none => rw [e] at hz; cases hz
    | some y =>
      rw [e] at hz
      obtain rfl := Option.some.inj hz
      show ((y : Int) == (n : Int)) = false
      have := i2 m hm y e
      exact beq_false_of_ne fun c => this (by omega)
theorem best_nat (f : Nat → Nat) : ∀ k, PySem.argBest (fun i j => decide (f i < f j)) k ≤ k ∧ ∀ j, j ≤ k → f (PySem.argBest (fun i j => decide (f i < f j)) k) ≤ f j
  | 0 => ⟨Nat.le_refl _, fun j hj => by rw [Nat.le_zero.mp hj]; exact Nat.le_refl _⟩
  | k + 1 => by
    obtain ⟨h1, h2⟩ := best_nat f k
    by_cases c : f (k + 1) < f (PySem.argBest (fun i j => decide (f i < f j)) k)
    · have e : PySem.argBest (fun i j => decide (f i < f j)) (k + 1) = k + 1 := if_pos (decide_eq_true c)
      rw [e]
      refine ⟨Nat.le_refl _, fun j hj => ?_⟩
      rcases Nat.lt_or_eq_of_le hj with d | d
      · have := h2 j (by omega)
        omega
      · rw [d]; exact Nat.le_refl _
    · have e : PySem.argBest (fun i j => decide (f i < f j)) (k + 1) = PySem.argBest (fun i j => decide (f i < f j)) k := if_neg (fun z => c (of_decide_eq_true z))
      rw [e]
      refine ⟨by omega, fun j hj => ?_⟩
      rcases Nat.lt_or_eq_of_le hj with d | d
      · exact h2 j (by omega)
      · rw [d]; omega
end
section
open L2 PySem PySem.Spec PyProof.Rows
def gS {α : Type} (us ws : List α) : List α := match us with
  | [] => ws
  | _ :: _ => []
end
section
open L2 PySem PySem.Spec PyProof.Rows
def Shp (z : Str) (p : Nat × Nat) : Prop := nmOk z = true ∧ p.1 < 26 ∧ ∃ r : List Nat, z.cps.toList = r ++ (97 + p.1) :: List.replicate p.2 49
theorem rep_inj {x y y' : Nat} (h : y ≠ x) (h' : y' ≠ x) : ∀ (m m' : Nat) (s s' : List Nat), List.replicate m x ++ y :: s = List.replicate m' x ++ y' :: s' → m = m' ∧ y = y'
  | 0, 0, s, s', e => ⟨rfl, (List.cons.inj e).1⟩
  | 0, m' + 1, s, s', e => absurd (List.cons.inj e).1 h
  | m + 1, 0, s, s', e => absurd (List.cons.inj e).1.symm h'
  | m + 1, m' + 1, s, s', e => by
    have e' : x :: (List.replicate m x ++ y :: s) = x :: (List.replicate m' x ++ y' :: s') := e
    obtain ⟨h1, h2⟩ := rep_inj h h' m m' s s' (List.cons.inj e').2
    exact ⟨by rw [h1], h2⟩
theorem shp_inj {z : Str} {p q : Nat × Nat} (h : Shp z p) (k : Shp z q) : p = q := by
  obtain ⟨_, _, r, e⟩ := h
  obtain ⟨_, _, r', e'⟩ := k
  rw [e] at e'
  have e2 := congrArg List.reverse e'
  rw [List.reverse_append, List.reverse_append, List.reverse_cons, List.reverse_cons, List.reverse_replicate, List.reverse_replicate, List.append_assoc, List.append_assoc, List.singleton_append, List.singleton_append] at e2
  obtain ⟨h1, h2⟩ := rep_inj (by omega) (by omega) _ _ _ _ e2
  exact Prod.ext (by omega) h1
structure WNm (ns : List Str) (ks : List (Nat × Nat)) : Prop where
  len : ks.length = ns.length
  shp : ∀ (k : Nat) (z : Str) (p : Nat × Nat), ns[k]? = some z → ks[k]? = some p → Shp z p
  nd : ks.Nodup
  lo : ∀ p ∈ ks, p.1 < ns.length
  mx : ∀ l, ks.getLast? = some l → ∀ p ∈ ks, p.1 = l.1 → p.2 ≤ l.2
theorem WNm.nil : WNm [] [] := ⟨rfl, fun k z p h => by simp at h, List.nodup_nil, fun p h => absurd h List.not_mem_nil, fun l h => by simp at h⟩
theorem push_at {α : Type} {l : List α} {x y : α} {k : Nat} (h : (l ++ [x])[k]? = some y) : (k < l.length ∧ l[k]? = some y) ∨ (k = l.length ∧ y = x) := by
  by_cases hk : k < l.length
  · rw [List.getElem?_append_left hk] at h
    exact .inl ⟨hk, h⟩
  · have hk2 := (List.getElem?_eq_some_iff.mp h).1
    rw [List.length_append] at hk2
    have hk3 : k = l.length := by
      have : [x].length = 1 := rfl
      omega
    subst hk3
    rw [List.getElem?_append_right (Nat.le_refl _), Nat.sub_self] at h
    exact .inr ⟨rfl, (Option.some.inj h).symm⟩
theorem WNm.push {ns : List Str} {ks : List (Nat × Nat)} {z : Str} {p : Nat × Nat} (h : WNm ns ks) (s : Shp z p) (nw : p ∉ ks) (lo : p.1 < ns.length + 1) (mx : ∀ q ∈ ks, q.1 = p.1 → q.2 ≤ p.2) : WNm (ns ++ [z]) (ks ++ [p]) where
  len := by rw [List.length_append, List.length_append, h.len]; rfl
  shp k y q a b := by
    rcases push_at a with ⟨h1, a⟩ | ⟨h1, rfl⟩
    · rcases push_at b with ⟨h2, b⟩ | ⟨h2, rfl⟩
      · exact h.shp k y q a b
      · have := h.len
        omega
    · rcases push_at b with ⟨h2, b⟩ | ⟨h2, rfl⟩
      · have := h.len
        omega
      · exact s
  nd := List.nodup_append.mpr ⟨h.nd, (List.nodup_cons.mpr ⟨List.not_mem_nil, List.nodup_nil⟩), fun x hx y hy e => by rw [List.mem_singleton.mp hy] at e; subst e; exact nw hx⟩
  lo q hq := by
    rw [List.length_append]
    rcases List.mem_append.mp hq with hq | hq
    · exact Nat.lt_succ_of_lt (h.lo q hq)
    · rw [List.mem_singleton.mp hq]
      exact lo
  mx l hl q hq e := by
    rw [List.getLast?_append, List.getLast?_singleton] at hl
    obtain rfl : p = l := by simpa using hl
    rcases List.mem_append.mp hq with hq | hq
    · exact mx q hq e
    · rw [List.mem_singleton.mp hq]
      exact Nat.le_refl _
theorem WNm.letter {ns : List Str} {ks : List (Nat × Nat)} {z : Str} (h : WNm ns ks) (s : Shp z (ns.length, 0)) : WNm (ns ++ [z]) (ks ++ [(ns.length, 0)]) :=
  h.push s (fun m => Nat.lt_irrefl _ (h.lo _ m)) (Nat.lt_succ_self _) fun q hq e => absurd (h.lo q hq) (by rw [e]; exact Nat.lt_irrefl _)
theorem WNm.one {ns : List Str} {ks : List (Nat × Nat)} {z : Str} (h : WNm ns ks) (hz : ns.getLast? = some z) (h8 : z.length < 8) : ∃ p, WNm (ns ++ [z ++ "1"]) (ks ++ [p]) := by
  have hne : ns ≠ [] := fun e => by rw [e] at hz; cases hz
  have hp : 0 < ns.length := List.length_pos_iff.mpr hne
  have hk : ks.length - 1 < ks.length := by have := h.len; omega
  have hl : ks.getLast? = some ks[ks.length - 1] := by rw [List.getLast?_eq_getElem?, List.getElem?_eq_getElem hk]
  generalize ks[ks.length - 1] = l at hl
  have sz : Shp z l := by
    refine h.shp (ns.length - 1) z l ?_ ?_
    · rw [← List.getLast?_eq_getElem?]
      exact hz
    · rw [← h.len, ← List.getLast?_eq_getElem?]
      exact hl
  have ml : l ∈ ks := List.mem_of_getLast? hl
  obtain ⟨b, m⟩ := l
  refine ⟨(b, m + 1), h.push ?_ (fun mm => ?_) ?_ fun q hq e => ?_⟩
  · obtain ⟨h1, h2, r, e⟩ := sz
    have ec : (z ++ "1").cps.toList = z.cps.toList ++ [49] := by
      rw [app_cps]
      rfl
    refine ⟨?_, h2, r, ?_⟩
    · unfold nmOk at h1
      split at h1
      · cases h1
      · rename_i c t et
        simp only [Bool.and_eq_true, decide_eq_true_eq, List.all_eq_true] at h1
        refine nm_of (c := c) (r := t ++ [49]) (by rw [ec, et]; rfl) ?_ h1.1.2 fun x hx => ?_
        · have e3 : z.length = z.cps.toList.length := by
            show z.cps.size = _
            simp
          rw [e3, et, List.length_cons] at h8
          rw [List.length_append]
          show t.length + 1 ≤ 7
          omega
        · rcases List.mem_append.mp hx with hx | hx
          · exact h1.2 x hx
          · rw [List.mem_singleton.mp hx]
            decide
    · rw [ec, e, List.append_assoc]
      show r ++ ((97 + b) :: (List.replicate m 49 ++ [49])) = r ++ (97 + b) :: List.replicate (m + 1) 49
      rw [List.replicate_succ']
  · have := h.mx _ hl _ mm rfl
    exact absurd this (by show ¬ (m + 1 ≤ m); omega)
  · exact Nat.lt_succ_of_lt (h.lo (b, m) ml)
  · exact Nat.le_succ_of_le (h.mx _ hl q hq e)
theorem WNm.names {ns : List Str} {ks : List (Nat × Nat)} (h : WNm ns ks) : IsNames ns := by
  have key : ∀ {k : Nat} {z : Str}, ns[k]? = some z → ∃ p, ks[k]? = some p ∧ Shp z p := fun {k z} hk => by
    have hk1 := (List.getElem?_eq_some_iff.mp hk).1
    have hk2 : k < ks.length := by have := h.len; omega
    exact ⟨ks[k], List.getElem?_eq_getElem hk2, h.shp k z _ hk (List.getElem?_eq_getElem hk2)⟩
  refine ⟨?_, fun z hz => ?_⟩
  · rw [List.nodup_iff_pairwise_ne, List.pairwise_iff_getElem]
    intro i j hi hj hij e
    obtain ⟨p, hp, sp⟩ := key (List.getElem?_eq_getElem hi)
    obtain ⟨q, hq, sq⟩ := key (List.getElem?_eq_getElem hj)
    rw [← e] at sq
    have := shp_inj sp sq
    subst this
    exact absurd (nodup_at h.nd hp hq) (by omega)
  · obtain ⟨k, hk⟩ := List.getElem?_of_mem hz
    obtain ⟨p, _, sp⟩ := key hk
    exact sp.1
theorem shp_join {z : Str} {i at_ : Nat} {cs : List Nat} (e : z.cps.toList = (97 + i) :: (cs ++ [97 + at_])) (hi : i < 26) (ha : at_ < 26) (hc : ∀ c ∈ cs, nmSign c = true) (hl : cs.length ≤ 6) : Shp z (at_, 0) := by
  refine ⟨nm_of e (by rw [List.length_append]; show cs.length + 1 ≤ 7; omega) ⟨by omega, by omega⟩ fun x hx => ?_, ha, (97 + i) :: cs, ?_⟩
  · rcases List.mem_append.mp hx with hx | hx
    · exact hc x hx
    · rw [List.mem_singleton.mp hx]
      exact sl_of ⟨by omega, by omega⟩
  · rw [e]
    rfl
def ch1 (k : Nat) : Str := ⟨#[k]⟩
theorem sum_ch (l : List Nat) : ((l.map ch1).map (·.length)).sum = l.length := by
  induction l with
  | nil => rfl
  | cons x r ih =>
    rw [List.map_cons, List.map_cons, List.sum_cons, ih, List.length_cons]
    show 1 + r.length = _
    omega
theorem join_ones (l : List Nat) : (Txt.join "" (l.map ch1)).cps.toList = l := by
  rw [join_cps]
  induction l with
  | nil => rfl
  | cons x r ih =>
    rw [List.map_cons, List.flatMap_cons, ih]
    rfl
theorem chs_are (x y : Nat) (cs : List Nat) : [V.str ⟨#[x]⟩] ++ cs.map (fun k => V.str ⟨#[k]⟩) ++ [V.str ⟨#[y]⟩] = ((x :: (cs ++ [y])).map ch1).map V.str := by
  simp [ch1]
def signs13 : Str := "0123456789xyz"
theorem signs13_at : ∀ k : Nat, k < 13 → ∃ c, signs13.cps[k]? = some c ∧ nmSign c = true := by decide +kernel
end
section
open L2 PySem PySem.Spec PyProof.Rows
open PySem PySem.W PySem.Spec PyProof.Rows L2
section
variable {prog : Program} {w : World} {A : Around} {E : Value → Shared → Prop} {s : Shared}
theorem callListZipT {Q : Value → Shared → Prop} {t l b : Addr} {xs ys : Array Value} (hh : A.handled = none) (ht : s.heap.IsTuple t xs) (hl : s.heap.IsTuple l ys) (lt : t < b) (ll : l < b) (b5 : s.heap.objs.size = b + 5)
    (hz : IsZip s.heap (b + 4) (b + 2) (b + 3) .none) (hI : IsTupOf2 s.heap (b + 2) (.ref b) (.ref (b + 1))) (hO : IsTupOf2 s.heap (b + 3) .none .none) (h1 : s.heap.IsTupleIter b t 0) (h2 : s.heap.IsTupleIter (b + 1) l 0)
    (p0 : 0 < xs.size) (p1 : xs.size ≤ ys.size) (p2 : xs.size ≤ 1000)
    (q : ∀ g tk acc c as, (∀ a o, a < b → s.heap.get? a = some o → g.get? a = some o) → g.get? (b + 5) = some { cls := .type "list", dict := none, data := .seq acc c, slots := #[] } → as.length = xs.size →
      PairsAt (fun j v => xs[j]? = some v) (fun j v => ys[j]? = some v) (b + 5) g as → acc.toList = as.map Value.ref → Q (.ref (b + 5)) { s with heap := g, toks := tk }) :
    wpAny (model prog w) A (call (.type "list") [.ref (b + 4)]) Q E s := by
  refine callType_codes (Q₁ := fun r s₁ => r = .ref s.heap.objs.size ∧ s₁ = { s with heap := s.heap.push { cls := .type "list", data := .seq #[] } }) F.called_list (F.typeCall_list_1 _) F.entry_list_init
    (code_list_new _ ⟨rfl, rfl⟩) fun r s₁ e₁ => ?_
  obtain ⟨rfl, rfl⟩ := e₁
  have hS : (s.heap.push { cls := .type "list", data := .seq #[] }).get? s.heap.objs.size = some { cls := .type "list", data := .seq #[] } := Heap.get?_push_size _ rfl
  have up : ∀ a o, s.heap.get? a = some o → (s.heap.push { cls := .type "list", data := .seq #[] }).get? a = some o := fun a o e => Heap.get?_push_of_some _ e
  rw [b5] at hS ⊢
  refine ⟨⟨_, hS, rfl⟩, F.args_list_init_2 _ _, ?_⟩
  refine keptInit (A := A.in1) (s := { s with heap := s.heap.push { cls := .type "list", data := .seq #[] } }) (apart5 lt ll) (Draws.tuple (A := A.in1.in1.in1) hh b t (Nat.ne_of_lt lt) xs) (Draws.tuple (A := A.in1.in1.in1) hh (b + 1) l (Nat.ne_of_lt (Nat.lt_succ_of_lt ll)) ys) p0 p1 p2
    (lk 4 5 (by decide)) (lk 2 5 (by decide)) (lk 3 5 (by decide)) (lk 0 5 (by decide)) (lk 1 5 (by decide)) (nin2 (nk 5 0 (by decide)) (ltk 5 lt)) (nin2 (nk 5 1 (by decide)) (ltk 5 ll)) (up _ _ hz) (up _ _ hI) ⟨_, _, up _ _ hO⟩ ⟨h1.at fun o e => up _ _ e, ht.at fun o e => up _ _ e⟩ ⟨h2.at fun o e => up _ _ e, hl.at fun o e => up _ _ e⟩ hS fun g tk acc c as ug gS hn hP ha => ?_
  exact ⟨rfl, q g tk acc c as (fun a o la e => ug a o (ltn 5 la) (ltn 4 la) (ltn 3 la) (ltn 0 la) (ltn 1 la) (up a o e)) gS hn hP ha⟩
end
def tLzT (K : PySem.W.Frag) (ta : TA) : TE := fun σ H Q => ta σ H fun vs H1 => ∃ a b xs ys, vs = [.ref a, .ref b] ∧ SqT K H1 a xs ∧ SqT K H1 b ys ∧ 0 < xs.length ∧ xs.length ≤ ys.length ∧ xs.length ≤ 1000 ∧ ∀ q as H2, ZipL H1 H2 q as xs ys → Q (.ref q) H2
section
variable {X : Cx}
theorem pe_listZipT {e e2 : Expr} {ta : TA} {p p2 pos pos2 : Pos} (hc : X.calm = true) (hg : Gl X "zip") (hm : X.mg "zip" = none) (gl : Gl X "list") (ml : X.mg "list" = none) (ha : PA X [e, e2] ta)
    (hs : starEach [e, e2] X.env = (false, eval e X.env) :: starEach [e2] X.env := by rfl) (hpl : (backTo pos2 (starEach [e2] X.env)).any (·.1) = false := by rfl)
    (na : starEach [.Call (.Name "zip" p2) [e, e2] [] pos2] X.env = (false, eval (.Call (.Name "zip" p2) [e, e2] [] pos2) X.env) :: starEach [] X.env := by rfl) :
    PE X (.Call (.Name "list" p) [.Call (.Name "zip" p2) [e, e2] [] pos2] [] pos) (tLzT X.K ta) := by
  refine ⟨fun pins s σ H Q I h => ?_⟩
  refine Call_ (ld_blt I gl ml PyProof.Rows.boot_list (PyProof.Rows.callWith_type1 (args_cons ?_ na) na))
  refine Call_ (ld_blt I hg hm PyProof.Rows.boot_zip (PyProof.Rows.callWith_type1 (thn (ha.run pos2 pins s σ H _ I h) fun us s1 ⟨vs, H1, I1, r1, q1⟩ => ?_) hs hpl))
  obtain ⟨a, b, xs, ys, ex, hqx, hqy, p0, p1, p2, q⟩ := q1
  subst ex
  cases r1 with
  | cons r rr =>
    cases rr with
    | cons r' rr =>
      cases rr
      cases r
      cases r'
      obtain ⟨its, rv, pt, _⟩ := I1.tuple hqx
      obtain ⟨its2, rv2, pl, _⟩ := I1.tuple hqy
      obtain ⟨o2, ho2, _⟩ := id pl
      obtain ⟨o1, ho1, _⟩ := id pt
      have l1 := rv.length
      have l2 := rv2.length
      refine zip_begins2 (begins_tuple a its.toArray) (begins_tuple b its2.toArray) (show s1.heap.IsTuple a its.toArray from pt) (show s1.heap.IsTuple b its2.toArray from pl) fun h' hz hTI hTO h1 h2 hsz hk => args_nil ?_
      refine callListZipT (s := { s1 with heap := h' }) (xs := its.toArray) (ys := its2.toArray) (I1.ok.hd hc) (Heap.IsTuple.at (show s1.heap.IsTuple a its.toArray from pt) fun o e => hk _ _ e) (Heap.IsTuple.at (show s1.heap.IsTuple b its2.toArray from pl) fun o e => hk _ _ e) (Heap.lt_size ho1) (Heap.lt_size ho2) hsz hz hTI hTO ⟨_, h1, rfl, rfl⟩ ⟨_, h2, rfl, rfl⟩
        (by simp; omega) (by simp; omega) (by simp; omega) fun g tk acc cc as kg gS hn hP hacc => ?_
      have nd : as.Nodup := hP.rise.imp fun z => Nat.ne_of_lt z
      have fr : ∀ c, s1.heap.objs.size ≤ c → H1 c = none := fun c z => I1.hok.fresh z
      have big : ∀ c, c ∈ as → s1.heap.objs.size ≤ c := fun c z => Nat.le_trans (Nat.le_add_right _ 5) (Nat.le_of_lt (hP.above c z))
      have nq : s1.heap.objs.size + 5 ∉ as := fun z => Nat.lt_irrefl _ (hP.above _ z)
      have hn' : as.length = xs.length := by rw [hn, l1]; simp
      have pr : ∀ (j : Nat) (c : Addr), as[j]? = some c → ∃ x y, xs[j]? = some x ∧ ys[j]? = some y ∧ (zipH H1 (s1.heap.objs.size + 5) as xs ys) c = some (.tup [x, y]) ∧ ObjOk X.prog X.w (zipH H1 (s1.heap.objs.size + 5) as xs ys) g c (.tup [x, y]) := by
        intro j c hj
        obtain ⟨u, u2, e1, e2, e3⟩ := hP.pairs j c hj
        have jl : j < as.length := (List.getElem?_eq_some_iff.mp hj).1
        have jc : as[j] = c := (List.getElem?_eq_some_iff.mp hj).2
        have jx : xs[j]? = some xs[j] := List.getElem?_eq_getElem (by omega)
        have jy : ys[j]? = some ys[j] := List.getElem?_eq_getElem (by omega)
        obtain ⟨w1, f1, r1⟩ := rv.get jx
        obtain ⟨w2, f2, r2⟩ := rv2.get jy
        have g1 : its[j]? = some u := by simpa using e1
        have g2 : its2[j]? = some u2 := by simpa using e2
        rw [f1] at g1; cases g1
        rw [f2] at g2; cases g2
        have ix : as.idxOf c = j := by rw [← jc]; exact nd.idxOf_getElem j jl
        refine ⟨xs[j], ys[j], jx, jy, ?_, by show 2 ≤ sizeLine; decide, [u, u2], .cons r1 (.cons r2 .nil), ⟨_, e3, rfl, _, rfl⟩⟩
        show (if c ∈ as then _ else _) = _
        rw [if_pos (List.mem_of_getElem? hj), ix, List.getD_eq_getElem?_getD, List.getD_eq_getElem?_getD, jx, jy]
        rfl
      have zq : (zipH H1 (s1.heap.objs.size + 5) as xs ys) (s1.heap.objs.size + 5) = some (.lst (as.map V.ref)) := by
        show (if _ ∈ as then _ else _) = _
        rw [if_neg nq, if_pos rfl]
      have sm : Same H1 (zipH H1 (s1.heap.objs.size + 5) as xs ys) := fun c o e => by
        have lc := I1.hok.lt e
        show (if c ∈ as then _ else _) = _
        rw [if_neg (fun z => Nat.lt_irrefl _ (Nat.lt_of_lt_of_le lc (big c z))), if_neg (ltn 5 lc)]
        exact e
      refine ⟨.ref (s1.heap.objs.size + 5), zipH H1 (s1.heap.objs.size + 5) as xs ys, Inv.laidAll (s := s1) (h' := g) (t' := tk) I1 (fun c o e => kg c o (Heap.lt_size e) (hk c o e)) sm (fun c lc e => ?_) (fun c o e n => ?_), rfl,
        q _ as _ ⟨sm, zq, hn', fun j c hj => let ⟨x, y, e1, e2, e3, _⟩ := pr j c hj; ⟨x, y, e1, e2, e3⟩, fr _ (Nat.le_add_right _ 5)⟩⟩
      · show (if c ∈ as then _ else _) = _
        rw [if_neg (fun z => Nat.lt_irrefl _ (Nat.lt_of_lt_of_le lc (big c z))), if_neg (ltn 5 lc)]
        exact e
      · by_cases hm : c ∈ as
        · obtain ⟨j, hj⟩ := List.mem_iff_getElem?.mp hm
          obtain ⟨x, y, _, _, e3, e4⟩ := pr j c hj
          rw [e] at e3
          cases e3
          exact e4
        · by_cases hq : c = s1.heap.objs.size + 5
          · subst hq
            rw [e] at zq
            cases zq
            refine ⟨by rw [List.length_map, hn', sizeLine_eq]; omega, acc.toList, cc, ?_, ?_⟩
            · rw [hacc]; exact L2.vals_refs as
            · rw [Array.toArray_toList]; exact gS
          · have : (if c ∈ as then some (HO.tup [xs.getD (as.idxOf c) .non, ys.getD (as.idxOf c) .non]) else if c = s1.heap.objs.size + 5 then some (.lst (as.map V.ref)) else H1 c) = some o := e
            rw [if_neg hm, if_neg hq, n] at this
            cases this
end
theorem k_listZipT {X : Cx} {K : PySem.W.Frag} {e e2 : Expr} {ta : TA} {p p2 pos pos2 : Pos} (hm : X.mg "zip" = none) (ml : X.mg "list" = none) (ha : PA X [e, e2] ta) (hK : X.K = K := by rfl) (hc : X.calm = true := by rfl) (hg : Gl X "zip" := by rfl) (gl : Gl X "list" := by rfl)
    (hs : starEach [e, e2] X.env = (false, eval e X.env) :: starEach [e2] X.env := by rfl) (hpl : (backTo pos2 (starEach [e2] X.env)).any (·.1) = false := by rfl)
    (na : starEach [.Call (.Name "zip" p2) [e, e2] [] pos2] X.env = (false, eval (.Call (.Name "zip" p2) [e, e2] [] pos2) X.env) :: starEach [] X.env := by rfl) :
    PE X (.Call (.Name "list" p) [.Call (.Name "zip" p2) [e, e2] [] pos2] [] pos) (tLzT K ta) := by
  subst hK
  exact pe_listZipT hc hg hm gl ml ha hs hpl na
def zipK2T (K : PySem.W.Frag) (Q : VK) : List V → Hp → Prop := fun vs H1 => ∃ a b xs ys, vs = [.ref a, .ref b] ∧ SqT K H1 a xs ∧ SqT K H1 b ys ∧ 0 < xs.length ∧ xs.length ≤ ys.length ∧ xs.length ≤ 1000 ∧ ∀ q as H2, ZipL H1 H2 q as xs ys → Q (.ref q) H2
theorem i_lzT {K : PySem.W.Frag} {ta : TA} {σ : L2.St} {H : Hp} {Q : VK} (h : ta σ H (zipK2T K Q)) : tLzT K ta σ H Q := h
end
section
open L2 PySem PySem.Spec PyProof.Rows
def edges : Str → List Str → Str → List (Str × Str)
  | x, [], y => [(x, y)]
  | x, z :: r, y => (x, z) :: edges z r y
def pairsR : List Str → List (Str × Str)
  | [] => []
  | x :: r => edges x r x
theorem zip_edges : ∀ (x : Str) (r : List Str) (y : Str), (x :: r).zip (r ++ [y]) = edges x r y
  | x, [], y => rfl
  | x, z :: r, y => by
    show (x, z) :: (z :: r).zip (r ++ [y]) = _
    rw [zip_edges z r y]
    rfl
theorem pairs_zip (l : List Str) : l.zip (l.drop 1 ++ l.take 1) = pairsR l := by
  cases l with
  | nil => rfl
  | cons x r => exact zip_edges x r x
theorem edges_len : ∀ (x : Str) (r : List Str) (y : Str), (edges x r y).length = r.length + 1
  | x, [], y => rfl
  | x, z :: r, y => by
    show (edges z r y).length + 1 = _
    rw [edges_len z r y]
    rfl
theorem pairs_len (l : List Str) : (pairsR l).length = l.length := by
  cases l with
  | nil => rfl
  | cons x r => exact edges_len x r x
theorem edges_split : ∀ (x : Str) (u : List Str) (b : Str) (v : List Str) (y : Str), edges x (u ++ b :: v) y = edges x u b ++ edges b v y
  | x, [], b, v, y => rfl
  | x, z :: u, b, v, y => by
    show (x, z) :: edges z (u ++ b :: v) y = _
    rw [edges_split z u b v y]
    rfl
theorem edges_rev : ∀ (x : Str) (r : List Str) (y : Str), edges y r.reverse x = ((edges x r y).map fun p => (p.2, p.1)).reverse
  | x, [], y => rfl
  | x, z :: r, y => by
    show edges y (z :: r).reverse x = (((x, z) :: edges z r y).map fun p => (p.2, p.1)).reverse
    rw [List.map_cons, List.reverse_cons, List.reverse_cons, edges_split y r.reverse z [] x, edges_rev z r y]
    rfl
theorem pairs_turn (u v : List Str) : (pairsR (u ++ v)).Perm (pairsR (v ++ u)) := by
  cases u with
  | nil => rw [List.nil_append, List.append_nil]
  | cons x u =>
    cases v with
    | nil => rw [List.nil_append, List.append_nil]
    | cons z v =>
      show (edges x (u ++ z :: v) x).Perm (edges z (v ++ x :: u) z)
      rw [edges_split, edges_split]
      exact List.perm_append_comm
theorem pairs_rev (l : List Str) : (pairsR l.reverse).Perm ((pairsR l).map fun p => (p.2, p.1)) := by
  cases l with
  | nil => exact List.Perm.refl _
  | cons x r =>
    rw [List.reverse_cons]
    refine (pairs_turn r.reverse [x]).trans ?_
    show (edges x r.reverse x).Perm ((edges x r x).map _)
    rw [edges_rev]
    exact List.reverse_perm _
theorem edges_mem : ∀ {x : Str} {r : List Str} {y : Str} {p : Str × Str}, p ∈ edges x r y → p.1 ∈ x :: r ∧ p.2 ∈ r ++ [y]
  | x, [], y, p, h => by
    rw [List.mem_singleton.mp h]
    exact ⟨List.mem_cons_self, List.mem_singleton.mpr rfl⟩
  | x, z :: r, y, p, h => by
    rcases List.mem_cons.mp h with rfl | h
    · exact ⟨List.mem_cons_self, List.mem_cons_self⟩
    · obtain ⟨h1, h2⟩ := edges_mem h
      exact ⟨List.mem_cons_of_mem _ h1, List.mem_cons_of_mem _ h2⟩
theorem pairsR_mem {l : List Str} {p : Str × Str} (h : p ∈ pairsR l) : p.1 ∈ l ∧ p.2 ∈ l := by
  cases l with
  | nil => exact absurd h List.not_mem_nil
  | cons x r =>
    obtain ⟨h1, h2⟩ := edges_mem h
    refine ⟨h1, ?_⟩
    rcases List.mem_append.mp h2 with h2 | h2
    · exact List.mem_cons_of_mem _ h2
    · rw [List.mem_singleton.mp h2]
      exact List.mem_cons_self
def fwdB (f : Str → Nat) (p : Str × Str) : Bool := decide (f p.1 < f p.2)
def fwdC (f : Str → Nat) (l : List Str) : Nat := ((pairsR l).filter (fwdB f)).length
theorem fwd_perm {f : Str → Nat} {l m : List Str} (h : (pairsR l).Perm (pairsR m)) : fwdC f l = fwdC f m := (h.filter _).length_eq
theorem chain_lt {f : Str → Nat} : ∀ {x : Str} {r : List Str} {y : Str}, (∀ p ∈ edges x r y, f p.1 < f p.2) → f x < f y
  | x, [], y, h => h (x, y) List.mem_cons_self
  | x, z :: r, y, h => Nat.lt_trans (h (x, z) List.mem_cons_self) (chain_lt fun p hp => h p (List.mem_cons_of_mem _ hp))
theorem fwd_lt {f : Str → Nat} {l : List Str} (hl : l ≠ []) : fwdC f l < l.length := by
  have h1 : ((pairsR l).filter (fwdB f)).length ≤ (pairsR l).length := List.length_filter_le _ _
  rw [pairs_len] at h1
  rcases Nat.lt_or_ge (fwdC f l) l.length with h | h
  · exact h
  · have e : ((pairsR l).filter (fwdB f)).length = (pairsR l).length := by
      rw [pairs_len]
      exact Nat.le_antisymm h1 h
    have all := List.length_filter_eq_length_iff.mp e
    cases l with
    | nil => exact absurd rfl hl
    | cons x r => exact absurd (chain_lt (f := f) (x := x) (r := r) (y := x) fun p hp => of_decide_eq_true (all p hp)) (Nat.lt_irrefl _)
theorem fwd_same {f g : Str → Nat} {l : List Str} (h : ∀ p ∈ pairsR l, (f p.1 < f p.2 ↔ g p.1 < g p.2)) : fwdC f l = fwdC g l := by
  unfold fwdC
  rw [List.filter_congr fun p hp => show fwdB f p = fwdB g p from decide_eq_decide.mpr (h p hp)]
def fwdN (qs l : List Str) : Nat := fwdC (fun z => qs.idxOf z) l
theorem fwd_sw {ps : List Str} {rs : List (Str × Str)} {qs l : List Str} {i : Nat} (W : IsWeb ps rs) (pm : qs.Perm ps) (fr : freeAt rs qs i = true) (h : ∀ p ∈ pairsR l, isRoad rs p.1 p.2 = true) : fwdN (sw qs i) l = fwdN qs l := by
  refine fwd_same fun p hp => ?_
  have key : ∀ r ∈ rs, ((sw qs i).idxOf r.1 < (sw qs i).idxOf r.2 ↔ qs.idxOf r.1 < qs.idxOf r.2) ∧ ((sw qs i).idxOf r.2 < (sw qs i).idxOf r.1 ↔ qs.idxOf r.2 < qs.idxOf r.1) := fun r hr => by
    obtain ⟨k, hk, er⟩ := List.getElem_of_mem hr
    have e := congrArg (fun z : List (Str × Str) => z[k]?) (arr_free W pm fr)
    have e2 : arr1 (sw qs i) r = arr1 qs r := by
      unfold arr at e
      simp only [List.getElem?_map, List.getElem?_eq_getElem hk, Option.map_some, er] at e
      exact Option.some.inj e
    obtain ⟨m1, m2, ne⟩ := W.ends r hr
    have pm2 : (sw qs i).Perm ps := (free_perm fr).trans pm
    have d1 : qs.idxOf r.1 ≠ qs.idxOf r.2 := fun z => ne (by
      have a := (idx_first (pm.mem_iff.mpr m1)).1
      have b := (idx_first (pm.mem_iff.mpr m2)).1
      rw [z, b] at a
      exact (Option.some.inj a).symm)
    have d2 : (sw qs i).idxOf r.1 ≠ (sw qs i).idxOf r.2 := fun z => ne (by
      have a := (idx_first (pm2.mem_iff.mpr m1)).1
      have b := (idx_first (pm2.mem_iff.mpr m2)).1
      rw [z, b] at a
      exact (Option.some.inj a).symm)
    have ne2 : r ≠ (r.2, r.1) := fun z => ne (congrArg Prod.fst z)
    unfold arr1 at e2
    by_cases c1 : (sw qs i).idxOf r.1 < (sw qs i).idxOf r.2
    · by_cases c2 : qs.idxOf r.1 < qs.idxOf r.2
      · exact ⟨⟨fun _ => c2, fun _ => c1⟩, ⟨fun z => by omega, fun z => by omega⟩⟩
      · rw [if_pos c1, if_neg c2] at e2
        exact absurd e2 ne2
    · by_cases c2 : qs.idxOf r.1 < qs.idxOf r.2
      · rw [if_neg c1, if_pos c2] at e2
        exact absurd e2.symm ne2
      · exact ⟨⟨fun z => absurd z c1, fun z => absurd z c2⟩, ⟨fun _ => by omega, fun _ => by omega⟩⟩
  have hr := h p hp
  unfold isRoad at hr
  rw [Bool.or_eq_true, decide_eq_true_iff, decide_eq_true_iff] at hr
  rcases hr with hr | hr
  · exact (key _ hr).1
  · exact (key _ hr).2
theorem fwd_path {f g : Str → Nat} {h : Str} : ∀ (z : Str) (w : List Str), (∀ a ∈ z :: w, ∀ b ∈ z :: w, (f a < f b ↔ g a < g b)) → (∀ a ∈ z :: w, ¬ f a < f h ∧ g a < g h) → ((edges z w h).filter (fwdB g)).length = ((edges z w h).filter (fwdB f)).length + 1
  | z, [], h1, h2 => by
    obtain ⟨a, b⟩ := h2 z List.mem_cons_self
    show ([(z, h)].filter (fwdB g)).length = ([(z, h)].filter (fwdB f)).length + 1
    rw [List.filter_cons, List.filter_cons, if_pos (show fwdB g (z, h) = true from decide_eq_true b), if_neg (show ¬ fwdB f (z, h) = true from fun e => a (of_decide_eq_true e))]
    rfl
  | z, x :: w, h1, h2 => by
    have ih := fwd_path x w (fun a ha b hb => h1 a (List.mem_cons_of_mem _ ha) b (List.mem_cons_of_mem _ hb)) (fun a ha => h2 a (List.mem_cons_of_mem _ ha))
    have e : fwdB g (z, x) = fwdB f (z, x) := decide_eq_decide.mpr (h1 z List.mem_cons_self x (List.mem_cons_of_mem _ List.mem_cons_self)).symm
    show (((z, x) :: edges x w h).filter (fwdB g)).length = (((z, x) :: edges x w h).filter (fwdB f)).length + 1
    rw [List.filter_cons, List.filter_cons, e]
    split
    · rw [List.length_cons, List.length_cons, ih]
    · exact ih
theorem fwd_rot {qs l : List Str} (nq : qs.Nodup) (nl : l.Nodup) (h2 : 2 ≤ l.length) (sub : ∀ z ∈ l, z ∈ qs) : fwdN (rot qs) l = fwdN qs l := by
  cases qs with
  | nil =>
    cases l with
    | nil => exact absurd h2 (by decide)
    | cons x r => exact absurd (sub x List.mem_cons_self) List.not_mem_nil
  | cons h t =>
    have er : rot (h :: t) = t ++ [h] := rfl
    have ht : h ∉ t := (List.nodup_cons.mp nq).1
    have f0 : (h :: t).idxOf h = 0 := List.idxOf_cons_self
    have g0 : (rot (h :: t)).idxOf h = t.length := by
      rw [er, List.idxOf_append, if_neg ht, List.idxOf_cons_self, Nat.zero_add]
    have fz : ∀ z ∈ l, z ≠ h → (h :: t).idxOf z = (rot (h :: t)).idxOf z + 1 ∧ (rot (h :: t)).idxOf z < t.length := fun z hz ne => by
      have mt : z ∈ t := by
        rcases List.mem_cons.mp (sub z hz) with e | e
        · exact absurd e ne
        · exact e
      rw [er, List.idxOf_append, if_pos mt, List.idxOf_cons, show (h == z) = false from by simpa using fun e => ne (Eq.symm e)]
      exact ⟨rfl, List.idxOf_lt_length_iff.mpr mt⟩
    by_cases hm : h ∈ l
    · obtain ⟨u, v, rfl⟩ := List.append_of_mem hm
      have pe : ∀ f : Str → Nat, fwdC f (u ++ h :: v) = fwdC f (h :: (v ++ u)) := fun f => fwd_perm (pairs_turn u (h :: v))
      unfold fwdN
      rw [pe, pe]
      have nw : ∀ z ∈ v ++ u, z ∈ u ++ h :: v ∧ z ≠ h := fun z hz => by
        have n1 := List.nodup_append.mp nl
        have n2 := List.nodup_cons.mp n1.2.1
        rcases List.mem_append.mp hz with hz | hz
        · exact ⟨List.mem_append_right _ (List.mem_cons_of_mem _ hz), fun e => n2.1 (e ▸ hz)⟩
        · exact ⟨List.mem_append_left _ hz, fun e => n1.2.2 z hz h List.mem_cons_self e⟩
      have hlen : 1 ≤ (v ++ u).length := by
        rw [List.length_append] at h2 ⊢
        rw [List.length_cons] at h2
        omega
      generalize v ++ u = w at nw hlen
      cases w with
      | nil => exact absurd hlen (by decide)
      | cons z w =>
        have key := fwd_path (f := fun z => (h :: t).idxOf z) (g := fun z => (rot (h :: t)).idxOf z) (h := h) z w (fun a ha b hb => by
          have ⟨a1, a2⟩ := nw a ha
          have ⟨b1, b2⟩ := nw b hb
          have := (fz a a1 a2).1
          have := (fz b b1 b2).1
          show (h :: t).idxOf a < (h :: t).idxOf b ↔ (rot (h :: t)).idxOf a < (rot (h :: t)).idxOf b
          omega) (fun a ha => by
          have ⟨a1, a2⟩ := nw a ha
          have h3 := fz a a1 a2
          show ¬ (h :: t).idxOf a < (h :: t).idxOf h ∧ (rot (h :: t)).idxOf a < (rot (h :: t)).idxOf h
          rw [f0, g0]
          omega)
        have ⟨z1, z2⟩ := nw z List.mem_cons_self
        have hz := fz z z1 z2
        have e1 : fwdB (fun z => (h :: t).idxOf z) (h, z) = true := decide_eq_true (by
          show (h :: t).idxOf h < (h :: t).idxOf z
          omega)
        have e2 : fwdB (fun z => (rot (h :: t)).idxOf z) (h, z) = false := decide_eq_false (by
          show ¬ (rot (h :: t)).idxOf h < (rot (h :: t)).idxOf z
          omega)
        show (((h, z) :: edges z w h).filter _).length = (((h, z) :: edges z w h).filter _).length
        rw [List.filter_cons, List.filter_cons, e1, e2, if_pos rfl, if_neg (by decide), List.length_cons, key]
    · refine fwd_same fun p hp => ?_
      obtain ⟨m1, m2⟩ := pairsR_mem hp
      have a := (fz p.1 m1 fun e => hm (e ▸ m1)).1
      have b := (fz p.2 m2 fun e => hm (e ▸ m2)).1
      show (rot (h :: t)).idxOf p.1 < (rot (h :: t)).idxOf p.2 ↔ (h :: t).idxOf p.1 < (h :: t).idxOf p.2
      omega
theorem fwd_moves {ps : List Str} {rs : List (Str × Str)} {l : List Str} (W : IsWeb ps rs) (nl : l.Nodup) (h2 : 2 ≤ l.length) (sub : ∀ z ∈ l, z ∈ ps) (hr : ∀ p ∈ pairsR l, isRoad rs p.1 p.2 = true) : ∀ {ms : List Mv} {qs : List Str}, qs.Perm ps → okM rs ms qs → fwdN (runM ms qs) l = fwdN qs l
  | [], _, _, _ => rfl
  | .turn :: ms, qs, pm, ok => by
    have pr : (rot qs).Perm qs := (List.perm_append_comm).trans (by rw [List.take_append_drop])
    show fwdN (runM ms (rot qs)) l = _
    rw [fwd_moves W nl h2 sub hr (pr.trans pm) ok.2, fwd_rot (pm.nodup_iff.mpr W.names.1) nl h2 fun z hz => pm.mem_iff.mpr (sub z hz)]
  | .swap i :: ms, qs, pm, ok => by
    obtain ⟨x, y, hx, hy, hxy⟩ := ok.1
    have fr : freeAt rs qs i = true := by
      unfold freeAt
      rw [hx, hy]
      show (!isRoad rs x y) = true
      rw [hxy]
      rfl
    show fwdN (runM ms (sw qs i)) l = _
    rw [fwd_moves W nl h2 sub hr ((free_perm fr).trans pm) ok.2, fwd_sw W pm fr hr]
end
section
open L2 PySem PySem.Spec PyProof.Rows
abbrev ti (P : Program) (w : World) (k : List Int) : Int := tupleKeyHash (PySem.intKind P w) k
end
section
open L2 PySem PySem.Spec PyProof.Rows
section
variable {f g h : List Nat} {N j i : Nat} {p q p' q' : Nat → Nat}
theorem rotM_len {r : List Nat} : (rotM r).length = r.length := by
  unfold rotM
  rw [List.length_append, List.length_drop, List.length_take]
  omega
end
end
section
open L2 PySem PySem.Spec PyProof.Rows
end
section
open L2 PySem PySem.Spec PyProof.Rows
inductive Conn (rs : List (Str × Str)) : Str → Str → Prop
  | refl (x : Str) : Conn rs x x
  | road {r : Str × Str} : r ∈ rs → Conn rs r.1 r.2
  | symm {x y : Str} : Conn rs x y → Conn rs y x
  | trans {x y z : Str} : Conn rs x y → Conn rs y z → Conn rs x z
def Bnd (ps : List Str) (g : Grp) (R : Str → Str → Prop) : Prop := ∀ x ∈ ps, ∀ y, y ∈ g x → R x y
theorem grp_sound {ps : List Str} {R : Str → Str → Prop} (rf : ∀ x, R x x) (sy : ∀ x y, R x y → R y x) (tr : ∀ x y z, R x y → R y z → R x z) : ∀ (rs : List (Str × Str)) (g : Grp), (∀ r ∈ rs, r.1 ∈ ps ∧ r.2 ∈ ps ∧ R r.1 r.2) → PartI ps g → Bnd ps g R → Bnd ps (rs.foldl stepG g) R
  | [], _, _, _, b => b
  | r :: rs, g, h, I, b => by
    obtain ⟨h1, h2, hr⟩ := h r List.mem_cons_self
    refine grp_sound rf sy tr rs (stepG g r) (fun q hq => h q (List.mem_cons_of_mem _ hq)) (I.step h1 h2) fun x hx y hy => ?_
    by_cases c : r.2 ∈ g r.1
    · rw [step_old c] at hy
      exact b x hx y hy
    · by_cases m : x ∈ g r.1 ++ g r.2
      · rw [step_in c m] at hy
        have e : ∀ u, u ∈ g r.1 ++ g r.2 → R r.1 u := fun u hu => by
          rcases List.mem_append.mp hu with hu | hu
          · exact b _ h1 u hu
          · exact tr _ _ _ hr (b _ h2 u hu)
        exact tr _ _ _ (sy _ _ (e x m)) (e y hy)
      · rw [step_out c m] at hy
        exact b x hx y hy
theorem grp_keeps {ps : List Str} : ∀ (rs : List (Str × Str)) (g : Grp), (∀ r ∈ rs, r.1 ∈ ps ∧ r.2 ∈ ps) → PartI ps g → ∀ x ∈ ps, ∀ y, y ∈ g x → y ∈ rs.foldl stepG g x
  | [], _, _, _, x, _, y, hy => hy
  | r :: rs, g, h, I, x, hx, y, hy => by
    obtain ⟨h1, h2⟩ := h r List.mem_cons_self
    refine grp_keeps rs (stepG g r) (fun q hq => h q (List.mem_cons_of_mem _ hq)) (I.step h1 h2) x hx y ?_
    by_cases c : r.2 ∈ g r.1
    · rw [step_old c]
      exact hy
    · by_cases m : x ∈ g r.1 ++ g r.2
      · rw [step_in c m]
        rcases List.mem_append.mp m with m | m
        · have e := (I.mem _ h1 x m).2
          exact List.mem_append_left _ (by rw [← e]; exact hy)
        · have e := (I.mem _ h2 x m).2
          exact List.mem_append_right _ (by rw [← e]; exact hy)
      · rw [step_out c m]
        exact hy
theorem grp_roads {ps : List Str} : ∀ (rs : List (Str × Str)) (g : Grp), (∀ r ∈ rs, r.1 ∈ ps ∧ r.2 ∈ ps) → PartI ps g → ∀ r ∈ rs, r.2 ∈ rs.foldl stepG g r.1
  | [], _, _, _, r, hr => nomatch hr
  | q :: rs, g, h, I, r, hr => by
    obtain ⟨h1, h2⟩ := h q List.mem_cons_self
    have hs : ∀ q ∈ rs, q.1 ∈ ps ∧ q.2 ∈ ps := fun u hu => h u (List.mem_cons_of_mem _ hu)
    rcases List.mem_cons.mp hr with rfl | hr
    · refine grp_keeps rs (stepG g r) hs (I.step h1 h2) r.1 h1 r.2 ?_
      by_cases c : r.2 ∈ g r.1
      · rw [step_old c]
        exact c
      · rw [step_in c (List.mem_append_left _ (I.own _ h1))]
        exact List.mem_append_right _ (I.own _ h2)
    · exact grp_roads rs (stepG g q) hs (I.step h1 h2) r hr
theorem grp_conn {ps : List Str} {rs : List (Str × Str)} (W : IsWeb ps rs) {x y : Str} (hx : x ∈ ps) : y ∈ grpL rs x ↔ y ∈ ps ∧ Conn rs x y := by
  have I := (web_pcs W).1
  have he : ∀ r ∈ rs, r.1 ∈ ps ∧ r.2 ∈ ps := fun r hr => ⟨(W.ends r hr).1, (W.ends r hr).2.1⟩
  constructor
  · intro h
    refine ⟨(I.mem x hx y h).1, ?_⟩
    exact grp_sound (R := Conn rs) (fun x => .refl x) (fun _ _ h => .symm h) (fun _ _ _ a b => .trans a b) rs grp0 (fun r hr => ⟨(he r hr).1, (he r hr).2, .road hr⟩) PartI.start (fun x _ y hy => by rw [List.mem_singleton.mp hy]; exact .refl x) x hx y h
  · rintro ⟨_, c⟩
    have key : ∀ {x y : Str}, Conn rs x y → (x ∈ ps ↔ y ∈ ps) ∧ (x ∈ ps → y ∈ grpL rs x) := fun {x y} c => by
      induction c with
      | refl x => exact ⟨Iff.rfl, fun h => I.own x h⟩
      | road hr => exact ⟨⟨fun _ => (he _ hr).2, fun _ => (he _ hr).1⟩, fun _ => grp_roads rs grp0 he PartI.start _ hr⟩
      | symm _ ih =>
        refine ⟨ih.1.symm, fun h => ?_⟩
        have hu := ih.1.mpr h
        have m := I.mem _ hu _ (ih.2 hu)
        rw [m.2]
        exact I.own _ hu
      | trans _ _ a b =>
        refine ⟨a.1.trans b.1, fun h => ?_⟩
        have m := I.mem _ h _ (a.2 h)
        rw [← m.2]
        exact b.2 m.1
    exact (key c).2 hx
end
section
open L2 PySem PySem.Spec PyProof.Rows
def ahI (qs : List Str) (x y : Str) : Int := if qs.idxOf x < qs.idxOf y then 1 else 0
def difI (qs os : List Str) (x y : Str) : Int := ahI qs x y - ahI os x y
theorem ahI_back {qs : List Str} {x y : Str} (hx : x ∈ qs) (hy : y ∈ qs) (n : x ≠ y) : ahI qs x y + ahI qs y x = 1 := by
  have ne : qs.idxOf x ≠ qs.idxOf y := fun e => by
    have h1 := List.idxOf_lt_length_iff.mpr hx
    have h2 := List.idxOf_lt_length_iff.mpr hy
    have e1 := List.getElem_idxOf h1
    have e2 := List.getElem_idxOf h2
    apply n
    rw [← e1, ← e2]
    congr 1
  unfold ahI
  rcases Nat.lt_or_gt_of_ne ne with c | c
  · rw [if_pos c, if_neg (by omega)]
    rfl
  · rw [if_neg (by omega), if_pos c]
    rfl
theorem difI_back {qs os : List Str} {x y : Str} (hx : x ∈ qs) (hy : y ∈ qs) (hx' : x ∈ os) (hy' : y ∈ os) (n : x ≠ y) : difI qs os y x = - difI qs os x y := by
  have h1 := ahI_back hx hy n
  have h2 := ahI_back hx' hy' n
  unfold difI
  omega
def along (d : Str → Str → Int) : List Str → Int
  | x :: y :: r => d x y + along d (y :: r)
  | _ => 0
def roundI (d : Str → Str → Int) (r : List Str) : Int := along d (r ++ r.take 1)
def Way (rs : List (Str × Str)) : List Str → Prop
  | x :: y :: r => isRoad rs x y = true ∧ Way rs (y :: r)
  | _ => True
def Pot (d : Str → Str → Int) (rs : List (Str × Str)) (f : Str → Int) : Prop := ∀ x y, isRoad rs x y = true → d x y = f y - f x
theorem along_pot {d : Str → Str → Int} {rs : List (Str × Str)} {f : Str → Int} (h : Pot d rs f) : ∀ (x : Str) (r : List Str), Way rs (x :: r) → along d (x :: r) = f ((x :: r).getLast (by simp)) - f x
  | x, [], _ => by
    show (0 : Int) = f x - f x
    omega
  | x, y :: r, hw => by
    have ih := along_pot h y r hw.2
    show d x y + along d (y :: r) = _
    rw [ih, h x y hw.1, List.getLast_cons (List.cons_ne_nil _ _)]
    omega
theorem way_mono {rs rs' : List (Str × Str)} (h : ∀ x y, isRoad rs x y = true → isRoad rs' x y = true) : ∀ r : List Str, Way rs r → Way rs' r
  | [], _ => trivial
  | [_], _ => trivial
  | x :: y :: r, hw => ⟨h x y hw.1, way_mono h (y :: r) hw.2⟩
theorem pot_join {ps : List Str} {rs : List (Str × Str)} {d : Str → Str → Int} {f : Str → Int} {r : Str × Str} (W : IsWeb ps (rs ++ [r])) (W0 : IsWeb ps rs) (h : Pot d rs f) (off : r.2 ∉ grpL rs r.1) (sy : ∀ x ∈ ps, ∀ y ∈ ps, x ≠ y → d y x = - d x y) : ∃ f', Pot d (rs ++ [r]) f' := by
  have I := (web_pcs W0).1
  obtain ⟨e1, e2, e3⟩ := W.ends r (List.mem_append_right _ List.mem_cons_self)
  refine ⟨fun z => f z + (if z ∈ grpL rs r.2 then d r.1 r.2 + f r.1 - f r.2 else 0), fun x y hr => ?_⟩
  have o1 : r.1 ∉ grpL rs r.2 := fun m => off (by
    rw [(I.mem _ e2 _ m).2]
    exact I.own _ e2)
  have o2 : r.2 ∈ grpL rs r.2 := I.own _ e2
  show d x y = (f y + (if y ∈ grpL rs r.2 then d r.1 r.2 + f r.1 - f r.2 else 0)) - (f x + (if x ∈ grpL rs r.2 then d r.1 r.2 + f r.1 - f r.2 else 0))
  by_cases c : isRoad rs x y = true
  · have hx : x ∈ ps ∧ y ∈ ps := by
      unfold isRoad at c
      rw [Bool.or_eq_true, decide_eq_true_iff, decide_eq_true_iff] at c
      rcases c with c | c
      · exact ⟨(W0.ends _ c).1, (W0.ends _ c).2.1⟩
      · exact ⟨(W0.ends _ c).2.1, (W0.ends _ c).1⟩
    have cn : Conn rs x y := by
      unfold isRoad at c
      rw [Bool.or_eq_true, decide_eq_true_iff, decide_eq_true_iff] at c
      rcases c with c | c
      · exact .road c
      · exact .symm (.road c)
    have iff : x ∈ grpL rs r.2 ↔ y ∈ grpL rs r.2 := by
      rw [grp_conn W0 e2, grp_conn W0 e2]
      exact ⟨fun m => ⟨hx.2, m.2.trans cn⟩, fun m => ⟨hx.1, m.2.trans (.symm cn)⟩⟩
    have := h x y c
    by_cases m : x ∈ grpL rs r.2
    · rw [if_pos m, if_pos (iff.mp m)]
      omega
    · rw [if_neg m, if_neg (fun z => m (iff.mpr z))]
      omega
  · have hr2 : (x, y) = r ∨ (y, x) = r := by
      unfold isRoad at hr c
      rw [Bool.or_eq_true, decide_eq_true_iff, decide_eq_true_iff] at hr c
      rcases hr with m | m
      · rcases List.mem_append.mp m with m | m
        · exact absurd (.inl m) c
        · exact .inl (List.mem_singleton.mp m)
      · rcases List.mem_append.mp m with m | m
        · exact absurd (.inr m) c
        · exact .inr (List.mem_singleton.mp m)
    rcases hr2 with rfl | rfl
    · rw [if_neg o1, if_pos o2]
      show d x y = (f y + (d x y + f x - f y)) - (f x + 0)
      omega
    · rw [if_pos o2, if_neg o1]
      have := sy _ e1 _ e2 e3
      simp only at this ⊢
      omega
theorem pot_close {rs : List (Str × Str)} {d : Str → Str → Int} {f : Str → Int} {r : Str × Str} (h : Pot d rs f) {w : List Str} (hw : Way rs (r.1 :: w)) (hl : (r.1 :: w).getLast (by simp) = r.2) (z : along d (r.1 :: w) + d r.2 r.1 = 0) (sy : d r.2 r.1 = - d r.1 r.2) : Pot d (rs ++ [r]) f := fun x y hr => by
  have e := along_pot h r.1 w hw
  rw [hl] at e
  unfold isRoad at hr
  rw [Bool.or_eq_true, decide_eq_true_iff, decide_eq_true_iff] at hr
  have old : isRoad rs x y = true → d x y = f y - f x := h x y
  rcases hr with m | m
  · rcases List.mem_append.mp m with m | m
    · exact old (by unfold isRoad; rw [decide_eq_true m]; rfl)
    · obtain rfl := List.mem_singleton.mp m
      simp only at e z sy
      omega
  · rcases List.mem_append.mp m with m | m
    · exact old (by unfold isRoad; rw [decide_eq_true m, Bool.or_true])
    · obtain rfl := List.mem_singleton.mp m
      simp only at e z sy
      omega
end
section
open L2 PySem PySem.Spec PyProof.Rows
theorem web_init {ps : List Str} {rs : List (Str × Str)} {r : Str × Str} (W : IsWeb ps (rs ++ [r])) : IsWeb ps rs :=
  ⟨W.names, W.pos, W.le8, by have := W.le14; rw [List.length_append] at this; omega, fun q hq => W.ends q (List.mem_append_left _ hq), (List.pairwise_append.mp W.uniq).1⟩
theorem road_snoc {rs : List (Str × Str)} {r : Str × Str} {x y : Str} (h : isRoad (rs ++ [r]) x y = true) : isRoad rs x y = true ∨ (x = r.1 ∧ y = r.2) ∨ (x = r.2 ∧ y = r.1) := by
  unfold isRoad at h ⊢
  rw [Bool.or_eq_true, decide_eq_true_iff, decide_eq_true_iff] at h
  rw [Bool.or_eq_true, decide_eq_true_iff, decide_eq_true_iff]
  rcases h with m | m
  · rcases List.mem_append.mp m with m | m
    · exact .inl (.inl m)
    · have := List.mem_singleton.mp m
      subst this
      exact .inr (.inl ⟨rfl, rfl⟩)
  · rcases List.mem_append.mp m with m | m
    · exact .inl (.inr m)
    · have := List.mem_singleton.mp m
      subst this
      exact .inr (.inr ⟨rfl, rfl⟩)
theorem way_miss {rs : List (Str × Str)} {r : Str × Str} {z : Str} (hz : z = r.1 ∨ z = r.2) : ∀ l : List Str, z ∉ l → Way (rs ++ [r]) l → Way rs l
  | [], _, _ => trivial
  | [_], _, _ => trivial
  | x :: y :: l, n, w => by
    refine ⟨?_, way_miss hz (y :: l) (fun h => n (List.mem_cons_of_mem _ h)) w.2⟩
    have nx : z ≠ x := fun e => n (e ▸ List.mem_cons_self)
    have ny : z ≠ y := fun e => n (e ▸ List.mem_cons_of_mem _ List.mem_cons_self)
    rcases road_snoc w.1 with h | ⟨h1, h2⟩ | ⟨h1, h2⟩
    · exact h
    · rcases hz with e | e
      · exact absurd (e.trans h1.symm) nx
      · exact absurd (e.trans h2.symm) ny
    · rcases hz with e | e
      · exact absurd (e.trans h2.symm) ny
      · exact absurd (e.trans h1.symm) nx
theorem way_split {rs : List (Str × Str)} {r : Str × Str} : ∀ l : List Str, l.Nodup → Way (rs ++ [r]) l → Way rs l ∨ ∃ u a b v, l = (u ++ [a]) ++ (b :: v) ∧ ((a = r.1 ∧ b = r.2) ∨ (a = r.2 ∧ b = r.1)) ∧ Way rs (u ++ [a]) ∧ Way rs (b :: v)
  | [], _, _ => .inl trivial
  | [_], _, _ => .inl trivial
  | x :: y :: l, nd, w => by
    obtain ⟨n1, n2⟩ := List.nodup_cons.mp nd
    rcases road_snoc w.1 with h | h
    · rcases way_split (y :: l) n2 w.2 with g | ⟨u, a, b, v, e, k, g1, g2⟩
      · exact .inl ⟨h, g⟩
      · refine .inr ⟨x :: u, a, b, v, by rw [e]; rfl, k, ?_, g2⟩
        cases u with
        | nil =>
          have e2 : y = a := by
            have := congrArg List.head? e
            exact Option.some.inj this
          subst e2
          exact ⟨h, trivial⟩
        | cons u0 u =>
          have e2 : y = u0 := by
            have := congrArg List.head? e
            exact Option.some.inj this
          subst e2
          exact ⟨h, g1⟩
    · have hx : x = r.1 ∨ x = r.2 := h.elim (fun h => .inl h.1) (fun h => .inr h.1)
      exact .inr ⟨[], x, y, l, rfl, h, trivial, way_miss hx (y :: l) n1 w.2⟩
theorem way_conn {rs : List (Str × Str)} : ∀ (x : Str) (l : List Str), Way rs (x :: l) → ∀ y ∈ x :: l, Conn rs x y
  | x, [], _, y, hy => by
    rw [List.mem_singleton.mp hy]
    exact .refl x
  | x, z :: l, w, y, hy => by
    have c : Conn rs x z := by
      have h := w.1
      unfold isRoad at h
      rw [Bool.or_eq_true, decide_eq_true_iff, decide_eq_true_iff] at h
      rcases h with m | m
      · exact .road m
      · exact .symm (.road m)
    rcases List.mem_cons.mp hy with rfl | hy
    · exact .refl _
    · exact c.trans (way_conn z l w.2 y hy)
structure SWay (rs : List (Str × Str)) (x y : Str) (l : List Str) : Prop where
  hd : l.head? = some x
  lt : l.getLast? = some y
  way : Way rs l
  nd : l.Nodup
theorem SWay.conn {rs : List (Str × Str)} {x y : Str} {l : List Str} (h : SWay rs x y l) : Conn rs x y := by
  cases l with
  | nil => exact absurd h.hd (by simp)
  | cons z l =>
    obtain rfl : z = x := Option.some.inj h.hd
    exact way_conn z l h.way y (List.mem_of_getLast? h.lt)
theorem way_one {ps : List Str} : ∀ (n : Nat) (rs : List (Str × Str)), rs.length = n → IsWeb ps rs → opensL rs grp0 = true → ∀ x y l m, x ∈ ps → SWay rs x y l → SWay rs x y m → l = m
  | 0, rs, hn, W, op, x, y, l, m, hx, hl, hm => by
    obtain rfl := List.eq_nil_of_length_eq_zero hn
    have one : ∀ l, SWay [] x y l → l = [x] := fun l h => by
      match l, h with
      | [], h => exact absurd h.hd (by simp)
      | [z], h => rw [show z = x from Option.some.inj h.hd]
      | z :: u :: l, h => exact absurd h.way.1 (by simp [isRoad])
    rw [one l hl, one m hm]
  | n + 1, rs, hn, W, op, x, y, l, m, hx, hl, hm => by
    rcases List.eq_nil_or_concat rs with e | ⟨rs', r, e⟩
    · subst e
      cases hn
    · rw [List.concat_eq_append] at e
      subst e
      have W0 := web_init W
      rw [opens_snoc, Bool.and_eq_true, Bool.not_eq_true', decide_eq_false_iff_not] at op
      obtain ⟨op0, off⟩ := op
      have hn0 : rs'.length = n := by rw [List.length_append] at hn; exact Nat.succ.inj hn
      obtain ⟨e1, e2, e3⟩ := W.ends r (List.mem_append_right _ List.mem_cons_self)
      have nc : ¬ Conn rs' r.1 r.2 := fun c => off ((grp_conn W0 e1).mpr ⟨e2, c⟩)
      have ih := way_one n rs' hn0 W0 op0
      have ends : ∀ {u : List Str} {a b : Str} {v l : List Str}, SWay (rs' ++ [r]) x y l → l = (u ++ [a]) ++ (b :: v) → Way rs' (u ++ [a]) → Way rs' (b :: v) → SWay rs' x a (u ++ [a]) ∧ SWay rs' b y (b :: v) := fun {u a b v l} h e g1 g2 => by
        subst e
        have nd := List.nodup_append.mp h.nd
        refine ⟨⟨?_, by simp, g1, nd.1⟩, ⟨rfl, ?_, g2, nd.2.1⟩⟩
        · have := h.hd
          cases u with
          | nil => exact this
          | cons u0 u => exact this
        · have := h.lt
          rw [List.getLast?_append] at this
          cases hv : (b :: v).getLast? with
          | none => exact absurd hv (by simp)
          | some z =>
            rw [hv] at this
            exact this
      have cross : ∀ {a b : Str}, ((a = r.1 ∧ b = r.2) ∨ (a = r.2 ∧ b = r.1)) → ¬ Conn rs' a b := fun {a b} k c => by
        rcases k with ⟨rfl, rfl⟩ | ⟨rfl, rfl⟩
        · exact nc c
        · exact nc c.symm
      rcases way_split l hl.nd hl.way with gl | ⟨u, a, b, v, el, kl, g1, g2⟩ <;> rcases way_split m hm.nd hm.way with gm | ⟨u', a', b', v', em, km, g1', g2'⟩
      · exact ih x y l m hx ⟨hl.hd, hl.lt, gl, hl.nd⟩ ⟨hm.hd, hm.lt, gm, hm.nd⟩
      · obtain ⟨s1, s2⟩ := ends hm em g1' g2'
        have c : Conn rs' x y := SWay.conn ⟨hl.hd, hl.lt, gl, hl.nd⟩
        exact absurd (s1.conn.symm.trans (c.trans s2.conn.symm)) (cross km)
      · obtain ⟨s1, s2⟩ := ends hl el g1 g2
        have c : Conn rs' x y := SWay.conn ⟨hm.hd, hm.lt, gm, hm.nd⟩
        exact absurd (s1.conn.symm.trans (c.trans s2.conn.symm)) (cross kl)
      · obtain ⟨s1, s2⟩ := ends hl el g1 g2
        obtain ⟨t1, t2⟩ := ends hm em g1' g2'
        have hab : a = a' ∧ b = b' := by
          rcases kl with ⟨rfl, rfl⟩ | ⟨rfl, rfl⟩ <;> rcases km with ⟨h1, h2⟩ | ⟨h1, h2⟩
          · exact ⟨h1.symm, h2.symm⟩
          · refine absurd (s1.conn.symm.trans ?_) nc
            rw [← h1]
            exact t1.conn
          · refine absurd (t1.conn.symm.trans ?_) (by rw [h1]; exact nc)
            exact s1.conn
          · exact ⟨h1.symm, h2.symm⟩
        obtain ⟨rfl, rfl⟩ := hab
        have hb : b ∈ ps := by
          rcases kl with ⟨_, rfl⟩ | ⟨_, rfl⟩
          · exact e2
          · exact e1
        have q1 := ih x a _ _ hx s1 t1
        have q2 := ih b y _ _ hb s2 t2
        rw [el, em, q1, q2]
end
section
open L2 PySem PySem.Spec PyProof.Rows
theorem isRoad_sym {rs : List (Str × Str)} {x y : Str} (h : isRoad rs x y = true) : isRoad rs y x = true := by
  unfold isRoad at h ⊢
  rw [Bool.or_eq_true] at h ⊢
  exact h.symm
theorem way_tail {rs : List (Str × Str)} {x : Str} {l : List Str} (h : Way rs (x :: l)) : Way rs l := by
  cases l with
  | nil => trivial
  | cons y l => exact h.2
theorem way_drop {rs : List (Str × Str)} : ∀ (u v : List Str), Way rs (u ++ v) → Way rs v
  | [], _, h => h
  | _ :: u, v, h => way_drop u v (way_tail h)
theorem sway_cons {rs : List (Str × Str)} {x y z : Str} {l : List Str} (h : SWay rs y z l) (r : isRoad rs x y = true) : ∃ m, SWay rs x z m := by
  by_cases c : x ∈ l
  · obtain ⟨u, v, rfl⟩ := List.append_of_mem c
    refine ⟨x :: v, rfl, ?_, way_drop u (x :: v) h.way, (List.nodup_append.mp h.nd).2.1⟩
    have := h.lt
    rw [List.getLast?_append] at this
    cases hv : (x :: v).getLast? with
    | none => exact absurd hv (by simp)
    | some w =>
      rw [hv] at this
      exact this
  · cases l with
    | nil => exact absurd h.hd (by simp)
    | cons w l =>
      obtain rfl : w = y := Option.some.inj h.hd
      refine ⟨x :: w :: l, rfl, ?_, ⟨r, h.way⟩, List.nodup_cons.mpr ⟨c, h.nd⟩⟩
      rw [List.getLast?_cons_cons]
      exact h.lt
theorem sway_join {rs : List (Str × Str)} : ∀ (l : List Str) {x y z : Str}, SWay rs x y l → (∃ m, SWay rs y z m) → ∃ m, SWay rs x z m
  | [], x, y, z, h, _ => absurd h.hd (by simp)
  | [w], x, y, z, h, g => by
    obtain rfl : w = x := Option.some.inj h.hd
    obtain rfl : w = y := Option.some.inj h.lt
    exact g
  | w :: u :: l, x, y, z, h, g => by
    obtain rfl : w = x := Option.some.inj h.hd
    have h2 : SWay rs u y (u :: l) := ⟨rfl, by have := h.lt; rwa [List.getLast?_cons_cons] at this, h.way.2, (List.nodup_cons.mp h.nd).2⟩
    obtain ⟨m, hm⟩ := sway_join (u :: l) h2 g
    exact sway_cons hm h.way.1
theorem way_snoc {rs : List (Str × Str)} {y z : Str} (r : isRoad rs y z = true) : ∀ (l : List Str), l.getLast? = some y → Way rs l → Way rs (l ++ [z])
  | [], h, _ => absurd h (by simp)
  | [w], h, _ => by
    obtain rfl : w = y := Option.some.inj h
    exact ⟨r, trivial⟩
  | w :: u :: l, h, g => ⟨g.1, way_snoc r (u :: l) (by rwa [List.getLast?_cons_cons] at h) g.2⟩
theorem way_rev {rs : List (Str × Str)} : ∀ l : List Str, Way rs l → Way rs l.reverse
  | [], _ => trivial
  | [_], _ => trivial
  | x :: y :: l, h => by
    rw [List.reverse_cons]
    refine way_snoc (y := y) (isRoad_sym h.1) _ ?_ (way_rev (y :: l) h.2)
    rw [List.getLast?_reverse]
    rfl
theorem SWay.rev {rs : List (Str × Str)} {x y : Str} {l : List Str} (h : SWay rs x y l) : SWay rs y x l.reverse :=
  ⟨by rw [List.head?_reverse]; exact h.lt, by rw [List.getLast?_reverse]; exact h.hd, way_rev l h.way, ((List.reverse_perm _).nodup_iff).mpr h.nd⟩
theorem conn_way {rs : List (Str × Str)} {x y : Str} (c : Conn rs x y) : ∃ l, SWay rs x y l := by
  induction c with
  | refl x => exact ⟨[x], rfl, rfl, trivial, by simp⟩
  | @road r hr =>
    refine sway_cons (y := r.2) (l := [r.2]) ⟨rfl, rfl, trivial, by simp⟩ ?_
    unfold isRoad
    simp [hr]
  | symm _ ih =>
    obtain ⟨l, h⟩ := ih
    exact ⟨_, h.rev⟩
  | trans _ _ a b =>
    obtain ⟨l, h⟩ := a
    exact sway_join l h b
def keptS (kept : List (Str × Str)) (r : Str × Str) : List (Str × Str) := if r.2 ∈ grpL kept r.1 then kept else kept ++ [r]
def keptL (rs : List (Str × Str)) : List (Str × Str) := rs.foldl keptS []
theorem kept_snoc (rs : List (Str × Str)) (r : Str × Str) : keptL (rs ++ [r]) = keptS (keptL rs) r := by
  unfold keptL
  rw [List.foldl_append]
  rfl
theorem grp_snoc (rs : List (Str × Str)) (r : Str × Str) : grpL (rs ++ [r]) = stepG (grpL rs) r := by
  unfold grpL
  rw [List.foldl_append]
  rfl
theorem kept_grp : ∀ (n : Nat) (rs : List (Str × Str)), rs.length = n → grpL (keptL rs) = grpL rs ∧ opensL (keptL rs) grp0 = true ∧ (keptL rs).length = mrg rs grp0 ∧ ∀ r ∈ keptL rs, r ∈ rs
  | 0, rs, hn => by
    obtain rfl := List.eq_nil_of_length_eq_zero hn
    exact ⟨rfl, rfl, rfl, fun r h => nomatch h⟩
  | n + 1, rs, hn => by
    rcases List.eq_nil_or_concat rs with e | ⟨rs', r, e⟩
    · subst e
      cases hn
    · rw [List.concat_eq_append] at e
      subst e
      have hn0 : rs'.length = n := by rw [List.length_append] at hn; exact Nat.succ.inj hn
      obtain ⟨i1, i2, i3, i4⟩ := kept_grp n rs' hn0
      rw [kept_snoc, grp_snoc]
      have ms : ∀ (l : List (Str × Str)) (g : Grp), mrg (l ++ [r]) g = mrg l g + (if r.2 ∈ (l.foldl stepG g) r.1 then 0 else 1) := fun l => by
        induction l with
        | nil => intro g; show (if r.2 ∈ g r.1 then 0 else 1) + 0 = 0 + _; rw [Nat.add_comm]; rfl
        | cons q l ih =>
          intro g
          show (if q.2 ∈ g q.1 then 0 else 1) + mrg (l ++ [r]) (stepG g q) = (if q.2 ∈ g q.1 then 0 else 1) + mrg l (stepG g q) + _
          rw [ih (stepG g q), Nat.add_assoc]
          rfl
      have m := ms rs' grp0
      by_cases c : r.2 ∈ grpL rs' r.1
      · have ek : keptS (keptL rs') r = keptL rs' := by
          unfold keptS
          rw [i1, if_pos c]
        have eg : stepG (grpL rs') r = grpL rs' := step_old c
        rw [ek, eg, m, if_pos (show r.2 ∈ (rs'.foldl stepG grp0) r.1 from c)]
        exact ⟨i1, i2, i3, fun q hq => List.mem_append_left _ (i4 q hq)⟩
      · have ek : keptS (keptL rs') r = keptL rs' ++ [r] := by
          unfold keptS
          rw [i1, if_neg c]
        rw [ek, grp_snoc, i1, opens_snoc, i2, m, if_neg (show r.2 ∉ (rs'.foldl stepG grp0) r.1 from c), List.length_append, i3]
        have e0 : (keptL rs').foldl stepG grp0 = grpL rs' := i1
        refine ⟨rfl, ?_, rfl, fun q hq => ?_⟩
        · rw [e0, decide_eq_false c]
          rfl
        · rcases List.mem_append.mp hq with hq | hq
          · exact List.mem_append_left _ (i4 q hq)
          · exact List.mem_append_right _ hq
end
section
open L2 PySem PySem.Spec PyProof.Rows
theorem kept_sub : ∀ (n : Nat) (rs : List (Str × Str)), rs.length = n → List.Sublist (keptL rs) rs
  | 0, rs, hn => by
    obtain rfl := List.eq_nil_of_length_eq_zero hn
    exact List.Sublist.slnil
  | n + 1, rs, hn => by
    rcases List.eq_nil_or_concat rs with e | ⟨rs', r, e⟩
    · subst e
      cases hn
    · rw [List.concat_eq_append] at e
      subst e
      have hn0 : rs'.length = n := by rw [List.length_append] at hn; exact Nat.succ.inj hn
      have ih := kept_sub n rs' hn0
      rw [kept_snoc]
      unfold keptS
      by_cases c : r.2 ∈ grpL (keptL rs') r.1
      · rw [if_pos c]
        exact ih.trans (List.sublist_append_left _ _)
      · rw [if_neg c]
        exact ih.append (List.Sublist.refl _)
theorem web_sub {ps : List Str} {rs ks : List (Str × Str)} (W : IsWeb ps rs) (h : List.Sublist ks rs) : IsWeb ps ks :=
  ⟨W.names, W.pos, W.le8, Nat.le_trans h.length_le W.le14, fun q hq => W.ends q (h.subset hq), W.uniq.sublist h⟩
theorem web_kept {ps : List Str} {rs : List (Str × Str)} (W : IsWeb ps rs) : IsWeb ps (keptL rs) := web_sub W (kept_sub _ rs rfl)
theorem road_sub {rs ks : List (Str × Str)} (h : ∀ r ∈ ks, r ∈ rs) {x y : Str} (c : isRoad ks x y = true) : isRoad rs x y = true := by
  unfold isRoad at c ⊢
  rw [Bool.or_eq_true, decide_eq_true_iff, decide_eq_true_iff] at c ⊢
  rcases c with c | c
  · exact .inl (h _ c)
  · exact .inr (h _ c)
def RTold (d : Str → Str → Int) (rs : List (Str × Str)) : Prop := ∀ a r b, rs = a ++ r :: b → r.2 ∈ grpL (keptL a) r.1 → ∀ l, SWay (keptL a) r.1 r.2 l → along d l + d r.2 r.1 = 0
theorem along_sway {d : Str → Str → Int} {rs : List (Str × Str)} {f : Str → Int} (h : Pot d rs f) {x y : Str} {l : List Str} (w : SWay rs x y l) : along d l = f y - f x := by
  cases l with
  | nil => exact absurd w.hd (by simp)
  | cons a t =>
    have hd := w.hd
    have lt := w.lt
    rw [List.head?_cons] at hd
    obtain rfl := Option.some.inj hd
    rw [along_pot h a t w.way]
    rw [List.getLast?_eq_some_getLast (List.cons_ne_nil a t)] at lt
    rw [Option.some.inj lt]
theorem rtold_pot {ps : List Str} {d : Str → Str → Int} (sy : ∀ x ∈ ps, ∀ y ∈ ps, x ≠ y → d y x = - d x y) : ∀ (n : Nat) (rs : List (Str × Str)), rs.length = n → IsWeb ps rs → RTold d rs → ∃ f, Pot d rs f
  | 0, rs, hn, _, _ => by
    obtain rfl := List.eq_nil_of_length_eq_zero hn
    exact ⟨fun _ => 0, fun x y h => absurd h (by unfold isRoad; simp)⟩
  | n + 1, rs, hn, W, T => by
    rcases List.eq_nil_or_concat rs with e | ⟨rs', r, e⟩
    · subst e
      cases hn
    · rw [List.concat_eq_append] at e
      subst e
      have hn0 : rs'.length = n := by rw [List.length_append] at hn; exact Nat.succ.inj hn
      have W0 := web_init W
      have T0 : RTold d rs' := fun a q b e => T a q (b ++ [r]) (by rw [e, List.append_assoc]; rfl)
      obtain ⟨f, hf⟩ := rtold_pot sy n rs' hn0 W0 T0
      obtain ⟨k1, k2, k3, k4⟩ := kept_grp _ rs' rfl
      obtain ⟨e1, e2, e3⟩ := W.ends r (List.mem_append_right _ List.mem_cons_self)
      by_cases c : r.2 ∈ grpL rs' r.1
      · have c' : r.2 ∈ grpL (keptL rs') r.1 := by rw [k1]; exact c
        have cn := ((grp_conn (web_kept W0) e1).mp c').2
        obtain ⟨l, w⟩ := conn_way cn
        have z := T rs' r [] rfl c' l w
        cases l with
        | nil => exact absurd w.hd (by simp)
        | cons a t =>
          have hd := w.hd
          have lt := w.lt
          rw [List.head?_cons] at hd
          obtain rfl := Option.some.inj hd
          rw [List.getLast?_eq_some_getLast (List.cons_ne_nil _ t)] at lt
          exact ⟨f, pot_close hf (way_mono (fun x y h => road_sub k4 h) _ w.way) (Option.some.inj lt) z (sy _ e1 _ e2 e3)⟩
      · exact pot_join W W0 hf c sy
theorem pot_rtold {ps : List Str} {d : Str → Str → Int} {rs : List (Str × Str)} {f : Str → Int} (W : IsWeb ps rs) (sy : ∀ x ∈ ps, ∀ y ∈ ps, x ≠ y → d y x = - d x y) (h : Pot d rs f) : RTold d rs := fun a r b e _ l w => by
  subst e
  obtain ⟨k1, k2, k3, k4⟩ := kept_grp _ a rfl
  obtain ⟨e1, e2, e3⟩ := W.ends r (List.mem_append_right _ List.mem_cons_self)
  have ha : Pot d (keptL a) f := fun x y c => h x y (road_sub (fun q hq => List.mem_append_left _ (k4 q hq)) c)
  have hr : d r.1 r.2 = f r.2 - f r.1 := h _ _ (by unfold isRoad; simp)
  rw [along_sway ha w, sy _ e1 _ e2 e3, hr]
  omega
theorem rtold_iff {ps ps' : List Str} {d : Str → Str → Int} {rs rs' : List (Str × Str)} (W : IsWeb ps rs) (W' : IsWeb ps' rs') (sy : ∀ x ∈ ps, ∀ y ∈ ps, x ≠ y → d y x = - d x y) (sy' : ∀ x ∈ ps', ∀ y ∈ ps', x ≠ y → d y x = - d x y) (h : ∀ x y, isRoad rs x y = isRoad rs' x y) : RTold d rs ↔ RTold d rs' := by
  constructor
  · intro t
    obtain ⟨f, hf⟩ := rtold_pot sy _ rs rfl W t
    exact pot_rtold W' sy' (fun x y c => hf x y (by rw [h]; exact c))
  · intro t
    obtain ⟨f, hf⟩ := rtold_pot sy' _ rs' rfl W' t
    exact pot_rtold W sy (fun x y c => hf x y (by rw [← h]; exact c))
end
section
open L2 PySem PySem.Spec PyProof.Rows
theorem along_split (d : Str → Str → Int) (y : Str) (v : List Str) : ∀ u : List Str, along d (u ++ y :: v) = along d (u ++ [y]) + along d (y :: v)
  | [] => by
    show along d (y :: v) = 0 + along d (y :: v)
    omega
  | [x] => by
    show d x y + along d (y :: v) = (d x y + 0) + along d (y :: v)
    omega
  | x :: x' :: u => by
    have ih := along_split d y v (x' :: u)
    show d x x' + along d ((x' :: u) ++ y :: v) = (d x x' + along d ((x' :: u) ++ [y])) + along d (y :: v)
    rw [ih]
    omega
theorem along_snoc (d : Str → Str → Int) {y z : Str} : ∀ u : List Str, u.getLast? = some y → along d (u ++ [z]) = along d u + d y z
  | [], h => nomatch h
  | [x], h => by
    obtain rfl : x = y := Option.some.inj h
    show d x z + 0 = 0 + d x z
    omega
  | x :: x' :: u, h => by
    rw [List.getLast?_cons_cons] at h
    have ih := along_snoc d (z := z) (x' :: u) h
    show d x x' + along d ((x' :: u) ++ [z]) = (d x x' + along d (x' :: u)) + d y z
    rw [ih]
    omega
theorem round_rot (d : Str → Str → Int) (a b : List Str) : roundI d (a ++ b) = roundI d (b ++ a) := by
  cases a with
  | nil => rw [List.append_nil]; rfl
  | cons x a =>
    cases b with
    | nil => rw [List.append_nil]; rfl
    | cons y b =>
      have e1 : roundI d (x :: a ++ y :: b) = along d ((x :: a) ++ y :: (b ++ [x])) := by
        show along d ((x :: (a ++ y :: b)) ++ [x]) = _
        congr 1
        simp
      have e2 : roundI d (y :: b ++ x :: a) = along d ((y :: b) ++ x :: (a ++ [y])) := by
        show along d ((y :: (b ++ x :: a)) ++ [y]) = _
        congr 1
        simp
      rw [e1, e2, along_split d y, along_split d x]
      show along d (x :: a ++ [y]) + along d (y :: b ++ [x]) = along d (y :: b ++ [x]) + along d (x :: a ++ [y])
      omega
theorem along_rev {d : Str → Str → Int} {rs : List (Str × Str)} (sy : ∀ x y, isRoad rs x y = true → d y x = - d x y) : ∀ l : List Str, Way rs l → along d l.reverse = - along d l
  | [], _ => rfl
  | [x], _ => rfl
  | x :: y :: t, h => by
    have ih := along_rev sy (y :: t) h.2
    rw [List.reverse_cons, along_snoc d (y := y) _ (by rw [List.getLast?_reverse]; rfl), ih, sy _ _ h.1]
    show -along d (y :: t) + -d x y = -(d x y + along d (y :: t))
    omega
theorem round_rev {d : Str → Str → Int} {rs : List (Str × Str)} (sy : ∀ x y, isRoad rs x y = true → d y x = - d x y) {l : List Str} (h : Way rs (l ++ l.take 1)) : roundI d l.reverse = - roundI d l := by
  cases l with
  | nil => rfl
  | cons x t =>
    have h' : Way rs (x :: (t ++ [x])) := h
    have e : (x :: (t ++ [x])).reverse = x :: (t.reverse ++ [x]) := by simp
    have a := along_rev sy _ h'
    rw [e] at a
    rw [List.reverse_cons, round_rot]
    exact a
theorem round_way {d : Str → Str → Int} {rs : List (Str × Str)} {x y : Str} {l : List Str} (w : SWay rs x y l) : roundI d l = along d l + d y x := by
  cases l with
  | nil => exact absurd w.hd (by simp)
  | cons a t =>
    have hd := w.hd
    rw [List.head?_cons] at hd
    obtain rfl := Option.some.inj hd
    exact along_snoc d (a :: t) w.lt
theorem ring_way {rs : List (Str × Str)} {x y : Str} {l : List Str} (w : SWay rs x y l) (r : isRoad rs y x = true) : Way rs (l ++ l.take 1) := by
  cases l with
  | nil => trivial
  | cons a t =>
    have hd := w.hd
    rw [List.head?_cons] at hd
    obtain rfl := Option.some.inj hd
    exact way_snoc r (a :: t) w.lt w.way
theorem along_dif (qs os : List Str) : ∀ l : List Str, along (difI qs os) l = along (ahI qs) l - along (ahI os) l
  | [] => rfl
  | [_] => rfl
  | x :: y :: t => by
    have ih := along_dif qs os (y :: t)
    show difI qs os x y + along (difI qs os) (y :: t) = (ahI qs x y + along (ahI qs) (y :: t)) - (ahI os x y + along (ahI os) (y :: t))
    rw [ih]
    unfold difI
    omega
theorem round_dif (qs os : List Str) (l : List Str) : roundI (difI qs os) l = roundI (ahI qs) l - roundI (ahI os) l := along_dif qs os _
theorem web_dif {ps : List Str} {rs : List (Str × Str)} {qs os : List Str} (W : IsWeb ps rs) (hq : ∀ p ∈ ps, p ∈ qs) (ho : ∀ p ∈ ps, p ∈ os) : ∀ x y, isRoad rs x y = true → difI qs os y x = - difI qs os x y := fun x y h => by
  have hx : x ∈ ps ∧ y ∈ ps ∧ x ≠ y := by
    unfold isRoad at h
    rw [Bool.or_eq_true, decide_eq_true_iff, decide_eq_true_iff] at h
    rcases h with h | h
    · exact W.ends _ h
    · exact ⟨(W.ends _ h).2.1, (W.ends _ h).1, fun e => (W.ends _ h).2.2 e.symm⟩
  exact difI_back (hq _ hx.1) (hq _ hx.2.1) (ho _ hx.1) (ho _ hx.2.1) hx.2.2
end
section
open L2 PySem PySem.Spec PyProof.Rows
def extW (nb : Str → List Str) (w : List Str) : List (List Str) := (((w.getLast?.map nb).getD []).filter (fun p => decide (p ∉ w))).map (fun p => w ++ [p])
theorem extW_mem {nb : Str → List Str} {w v : List Str} {y : Str} (hl : w.getLast? = some y) : v ∈ extW nb w ↔ ∃ p ∈ nb y, p ∉ w ∧ v = w ++ [p] := by
  unfold extW
  rw [hl, List.mem_map]
  constructor
  · rintro ⟨p, hp, rfl⟩
    rw [List.mem_filter, decide_eq_true_iff] at hp
    exact ⟨p, hp.1, hp.2, rfl⟩
  · rintro ⟨p, h1, h2, rfl⟩
    exact ⟨p, List.mem_filter.mpr ⟨h1, decide_eq_true h2⟩, rfl⟩
theorem way_take {rs : List (Str × Str)} : ∀ u v : List Str, Way rs (u ++ v) → Way rs u
  | [], _, _ => trivial
  | [_], _, _ => trivial
  | _ :: y :: u, v, h => ⟨h.1, way_take (y :: u) v h.2⟩
theorem way_end {rs : List (Str × Str)} {y z : Str} : ∀ u : List Str, u.getLast? = some y → Way rs (u ++ [z]) → isRoad rs y z = true
  | [], h, _ => nomatch h
  | [x], h, w => by
    obtain rfl : x = y := Option.some.inj h
    exact w.1
  | x :: x' :: u, h, w => by
    rw [List.getLast?_cons_cons] at h
    exact way_end (x' :: u) h w.2
theorem SWay.on {rs : List (Str × Str)} {x y z : Str} {l : List Str} (h : SWay rs x y l) (r : isRoad rs y z = true) (n : z ∉ l) : SWay rs x z (l ++ [z]) := by
  refine ⟨?_, by rw [List.getLast?_append]; rfl, way_snoc r l h.lt h.way, ?_⟩
  · rw [List.head?_append, h.hd]
    rfl
  · rw [List.nodup_append]
    exact ⟨h.nd, by simp, fun a ha b hb e => n (by rw [← List.mem_singleton.mp hb, ← e]; exact ha)⟩
structure WInv (ps : List Str) (ks : List (Str × Str)) (nb : Str → List Str) (x e : Str) (done q : List (List Str)) : Prop where
  sw : ∀ v ∈ done ++ q, ∃ y, SWay ks x y v
  nd : (done ++ q).Nodup
  st : [x] ∈ done ++ q
  pr : ∀ v ∈ done ++ q, v = [x] ∨ v.dropLast ∈ done
  cl : ∀ v ∈ done, ∀ w ∈ extW nb v, w ∈ done ++ q
  ne : ∀ v ∈ done, v.getLast? ≠ some e
variable {ps : List Str} {ks : List (Str × Str)} {nb : Str → List Str} {x e : Str} {done q : List (List Str)}
theorem winv_init : WInv ps ks nb x e [] [[x]] :=
  ⟨fun v h => ⟨x, by rw [List.mem_singleton.mp h]; exact ⟨rfl, rfl, trivial, by simp⟩⟩, by simp, by simp, fun v h => .inl (List.mem_singleton.mp h), fun v h => (nomatch h), fun v h => (nomatch h)⟩
theorem winv_step (hn : ∀ y, ∀ p ∈ nb y, isRoad ks y p = true) (nn : ∀ y, (nb y).Nodup) {w : List Str} (I : WInv ps ks nb x e done (w :: q)) (h : w.getLast? ≠ some e) : WInv ps ks nb x e (done ++ [w]) (q ++ extW nb w) := by
  have eq : (done ++ [w]) ++ (q ++ extW nb w) = (done ++ w :: q) ++ extW nb w := by simp
  have hw : w ∈ done ++ w :: q := List.mem_append_right _ List.mem_cons_self
  obtain ⟨y, sy⟩ := I.sw w hw
  have wd : w ∉ done := fun m => (List.nodup_append.mp I.nd).2.2 w m w List.mem_cons_self rfl
  have wne : w ≠ [] := fun e => by rw [e] at sy; exact absurd sy.hd (by simp)
  refine ⟨?_, ?_, ?_, ?_, ?_, ?_⟩
  · rw [eq]
    intro v hv
    rcases List.mem_append.mp hv with hv | hv
    · exact I.sw v hv
    · obtain ⟨p, h1, h2, rfl⟩ := (extW_mem sy.lt).mp hv
      exact ⟨p, sy.on (hn _ _ h1) h2⟩
  · rw [eq, List.nodup_append]
    refine ⟨I.nd, ?_, ?_⟩
    · unfold extW
      rw [sy.lt]
      rw [List.nodup_iff_pairwise_ne, List.pairwise_map]
      refine List.Pairwise.imp ?_ (show (List.filter _ (nb y)).Nodup from (nn y).filter _)
      intro a b n e
      exact n (List.singleton_inj.mp (List.append_cancel_left e))
    · intro a ha b hb e
      subst e
      obtain ⟨p, h1, h2, rfl⟩ := (extW_mem sy.lt).mp hb
      rcases I.pr _ ha with c | c
      · cases w with
        | nil => exact wne rfl
        | cons z t => simp at c
      · rw [List.dropLast_concat] at c
        exact wd c
  · rw [eq]
    exact List.mem_append_left _ I.st
  · rw [eq]
    intro v hv
    rcases List.mem_append.mp hv with hv | hv
    · exact (I.pr v hv).imp id (fun c => List.mem_append_left _ c)
    · obtain ⟨p, h1, h2, rfl⟩ := (extW_mem sy.lt).mp hv
      refine .inr ?_
      rw [List.dropLast_concat]
      exact List.mem_append_right _ (List.mem_singleton.mpr rfl)
  · rw [eq]
    intro v hv u hu
    rcases List.mem_append.mp hv with hv | hv
    · exact List.mem_append_left _ (I.cl v hv u hu)
    · rw [List.mem_singleton.mp hv] at hu
      exact List.mem_append_right _ hu
  · intro v hv
    rcases List.mem_append.mp hv with hv | hv
    · exact I.ne v hv
    · rw [List.mem_singleton.mp hv]
      exact h
theorem conn_in {ps : List Str} {ks : List (Str × Str)} (W : IsWeb ps ks) {a b : Str} (c : Conn ks a b) : a ∈ ps ↔ b ∈ ps := by
  induction c with
  | refl x => exact Iff.rfl
  | @road r hr => exact ⟨fun _ => (W.ends _ hr).2.1, fun _ => (W.ends _ hr).1⟩
  | symm _ ih => exact ih.symm
  | trans _ _ a b => exact a.trans b
theorem winv_len (W : IsWeb ps ks) (op : opensL ks grp0 = true) (hx : x ∈ ps) (I : WInv ps ks nb x e done q) : (done ++ q).length ≤ ps.length := by
  have h1 : ((done ++ q).map (fun v => v.getLast?)).Nodup := by
    rw [List.nodup_iff_pairwise_ne, List.pairwise_map]
    refine List.Pairwise.imp_of_mem ?_ I.nd
    intro a b ha hb n e
    obtain ⟨y, sa⟩ := I.sw a ha
    obtain ⟨z, sb⟩ := I.sw b hb
    rw [sa.lt, sb.lt] at e
    obtain rfl := Option.some.inj e
    exact n (way_one _ ks rfl W op x y a b hx sa sb)
  have h2 := nd_le _ (ps.map some) h1 (fun z hz => by
    obtain ⟨v, hv, rfl⟩ := List.mem_map.mp hz
    obtain ⟨y, sv⟩ := I.sw v hv
    rw [sv.lt]
    exact List.mem_map.mpr ⟨y, (conn_in W sv.conn).mp hx, rfl⟩)
  rw [List.length_map, List.length_map] at h2
  exact h2
theorem winv_none (hn : ∀ y p, isRoad ks y p = true → p ∈ nb y) (I : WInv ps ks nb x e done []) : ∀ l, ¬ SWay ks x e l := by
  have all : ∀ (n : Nat) (l : List Str) (y : Str), l.length = n → SWay ks x y l → l ∈ done := by
    intro n
    induction n with
    | zero =>
      intro l y hl h
      obtain rfl := List.eq_nil_of_length_eq_zero hl
      exact absurd h.hd (by simp)
    | succ n ih =>
      intro l y hl h
      rcases List.eq_nil_or_concat l with e | ⟨u, z, e⟩
      · rw [e] at hl
        cases hl
      · rw [List.concat_eq_append] at e
        subst e
        cases u with
        | nil =>
          have := h.hd
          rw [show z = x from Option.some.inj this]
          have := I.st
          rwa [List.append_nil] at this
        | cons a t =>
          obtain ⟨b, hb⟩ : ∃ b, (a :: t).getLast? = some b := ⟨_, List.getLast?_eq_some_getLast (List.cons_ne_nil a t)⟩
          have nd := List.nodup_append.mp h.nd
          have su : SWay ks x b (a :: t) := ⟨h.hd, hb, way_take _ _ h.way, nd.1⟩
          have hu := ih (a :: t) b (by rw [List.length_append] at hl; exact Nat.succ.inj hl) su
          have := I.cl _ hu (a :: t ++ [z]) ((extW_mem hb).mpr ⟨z, hn _ _ (way_end _ hb h.way), fun m => nd.2.2 z m z (List.mem_singleton.mpr rfl) rfl, rfl⟩)
          rwa [List.append_nil] at this
  intro l h
  exact I.ne l (all _ l e rfl h) h.lt
end
section
open L2 PySem PySem.Spec PyProof.Rows
def toldS (s : List (Str × Str) × List (List (Str × Str) × (Str × Str))) (r : Str × Str) : List (Str × Str) × List (List (Str × Str) × (Str × Str)) := if r.2 ∈ grpL s.1 r.1 then (s.1, s.2 ++ [(s.1, r)]) else (s.1 ++ [r], s.2)
def toldL (rs : List (Str × Str)) : List (List (Str × Str) × (Str × Str)) := (rs.foldl toldS ([], [])).2
theorem toldS_eq (s : List (Str × Str) × List (List (Str × Str) × (Str × Str))) (r : Str × Str) : toldS s r = if r.2 ∈ grpL s.1 r.1 then (s.1, s.2 ++ [(s.1, r)]) else (s.1 ++ [r], s.2) := rfl
theorem told_snoc (rs : List (Str × Str)) (r : Str × Str) : (rs ++ [r]).foldl toldS ([], []) = toldS (rs.foldl toldS ([], [])) r := by
  rw [List.foldl_append]
  rfl
theorem told_fst : ∀ (n : Nat) (rs : List (Str × Str)), rs.length = n → (rs.foldl toldS ([], [])).1 = keptL rs
  | 0, rs, hn => by
    obtain rfl := List.eq_nil_of_length_eq_zero hn
    rfl
  | n + 1, rs, hn => by
    rcases List.eq_nil_or_concat rs with e | ⟨rs', r, e⟩
    · subst e
      cases hn
    · rw [List.concat_eq_append] at e
      subst e
      have ih := told_fst n rs' (by rw [List.length_append] at hn; exact Nat.succ.inj hn)
      rw [told_snoc, kept_snoc, toldS_eq, ih]
      unfold keptS
      by_cases c : r.2 ∈ grpL (keptL rs') r.1
      · rw [if_pos c, if_pos c]
      · rw [if_neg c, if_neg c]
theorem toldL_snoc (rs : List (Str × Str)) (r : Str × Str) : toldL (rs ++ [r]) = toldL rs ++ (if r.2 ∈ grpL (keptL rs) r.1 then [(keptL rs, r)] else []) := by
  unfold toldL
  rw [told_snoc, toldS_eq, told_fst _ rs rfl]
  by_cases c : r.2 ∈ grpL (keptL rs) r.1
  · rw [if_pos c, if_pos c]
  · rw [if_neg c, if_neg c, List.append_nil]
theorem told_len : ∀ (n : Nat) (rs : List (Str × Str)), rs.length = n → (toldL rs).length + mrg rs grp0 = rs.length := by
  have key : ∀ (n : Nat) (rs : List (Str × Str)), rs.length = n → (toldL rs).length + (keptL rs).length = rs.length := by
    intro n
    induction n with
    | zero =>
      intro rs hn
      obtain rfl := List.eq_nil_of_length_eq_zero hn
      rfl
    | succ n ih =>
      intro rs hn
      rcases List.eq_nil_or_concat rs with e | ⟨rs', r, e⟩
      · subst e
        cases hn
      · rw [List.concat_eq_append] at e
        subst e
        have i := ih rs' (by rw [List.length_append] at hn; exact Nat.succ.inj hn)
        rw [toldL_snoc, kept_snoc]
        unfold keptS
        by_cases c : r.2 ∈ grpL (keptL rs') r.1
        · rw [if_pos c, if_pos c, List.length_append, List.length_append]
          simp only [List.length_cons, List.length_nil]
          omega
        · rw [if_neg c, if_neg c, List.length_append, List.length_append, List.length_append]
          simp only [List.length_cons, List.length_nil]
          omega
  intro n rs hn
  rw [← (kept_grp _ rs rfl).2.2.1]
  exact key _ rs rfl
theorem told_mem : ∀ (n : Nat) (rs : List (Str × Str)), rs.length = n → ∀ c, c ∈ toldL rs ↔ ∃ a b, rs = a ++ c.2 :: b ∧ c.2.2 ∈ grpL (keptL a) c.2.1 ∧ c.1 = keptL a
  | 0, rs, hn, c => by
    obtain rfl := List.eq_nil_of_length_eq_zero hn
    exact ⟨fun h => (nomatch h), fun ⟨a, b, h, _⟩ => absurd h (by simp)⟩
  | n + 1, rs, hn, c => by
    rcases List.eq_nil_or_concat rs with e | ⟨rs', r, e⟩
    · subst e
      cases hn
    · rw [List.concat_eq_append] at e
      subst e
      have ih := told_mem n rs' (by rw [List.length_append] at hn; exact Nat.succ.inj hn) c
      rw [toldL_snoc, List.mem_append, ih]
      constructor
      · rintro (⟨a, b, h1, h2, h3⟩ | h)
        · exact ⟨a, b ++ [r], by rw [h1, List.append_assoc]; rfl, h2, h3⟩
        · by_cases k : r.2 ∈ grpL (keptL rs') r.1
          · rw [if_pos k, List.mem_singleton] at h
            subst h
            exact ⟨rs', [], rfl, k, rfl⟩
          · rw [if_neg k] at h
            exact nomatch h
      · rintro ⟨a, b, h1, h2, h3⟩
        rcases List.eq_nil_or_concat b with e | ⟨b', z, e⟩
        · subst e
          obtain ⟨rfl, e2⟩ := List.append_inj' h1 rfl
          have e3 : r = c.2 := (List.cons.inj e2).1
          subst e3
          rw [if_pos h2]
          exact .inr (List.mem_singleton.mpr (Prod.ext h3 rfl))
        · rw [List.concat_eq_append] at e
          subst e
          have h1' : rs' ++ [r] = (a ++ c.2 :: b') ++ [z] := by rw [h1]; simp
          obtain ⟨e1, _⟩ := List.append_inj' h1' rfl
          exact .inl ⟨a, b', e1, h2, h3⟩
end
section
open L2 PySem PySem.Spec PyProof.Rows
def wayOf (m : List (Str × List Str)) (p : Str) : Option (List Str) := (m.find? (fun q => decide (q.1 = p))).map (·.2)
theorem wayOf_some {m : List (Str × List Str)} {p : Str} {l : List Str} (h : wayOf m p = some l) : (p, l) ∈ m := by
  unfold wayOf at h
  obtain ⟨q, h1, h2⟩ := Option.map_eq_some_iff.mp h
  have h3 : q.1 = p := by simpa using List.find?_some h1
  have h4 := List.mem_of_find?_eq_some h1
  rw [← h3, ← h2]
  exact h4
theorem wayOf_none {m : List (Str × List Str)} {p : Str} : wayOf m p = none ↔ p ∉ m.map (·.1) := by
  unfold wayOf
  rw [Option.map_eq_none_iff, List.find?_eq_none, List.mem_map]
  constructor
  · rintro h ⟨q, h1, h2⟩
    exact h q h1 (decide_eq_true h2)
  · intro h q h1 h2
    exact h ⟨q, h1, of_decide_eq_true h2⟩
def floodS (m : List (Str × List Str)) (r : Str × Str) : List (Str × List Str) :=
  match wayOf m r.1, wayOf m r.2 with
  | some l, none => m ++ [(r.2, l ++ [r.2])]
  | none, some l => m ++ [(r.1, l ++ [r.1])]
  | _, _ => m
def floodN (ks : List (Str × Str)) : Nat → List (Str × List Str) → List (Str × List Str)
  | 0, m => m
  | n + 1, m => floodN ks n (ks.foldl floodS m)
structure FInv (ks : List (Str × Str)) (x : Str) (m : List (Str × List Str)) : Prop where
  sw : ∀ q ∈ m, SWay ks x q.1 q.2 ∧ ∀ z ∈ q.2, z ∈ m.map (·.1)
  nd : (m.map (·.1)).Nodup
  st : x ∈ m.map (·.1)
theorem flood_add {ks : List (Str × Str)} {x a b : Str} {l : List Str} {m : List (Str × List Str)} (I : FInv ks x m) (ha : wayOf m a = some l) (hb : wayOf m b = none) (r : isRoad ks a b = true) : FInv ks x (m ++ [(b, l ++ [b])]) := by
  have h1 := wayOf_some ha
  have h2 := wayOf_none.mp hb
  obtain ⟨s1, s2⟩ := I.sw _ h1
  have em : (m ++ [(b, l ++ [b])]).map (·.1) = m.map (·.1) ++ [b] := by simp
  refine ⟨fun q hq => ?_, ?_, ?_⟩
  · rw [em]
    rcases List.mem_append.mp hq with hq | hq
    · exact ⟨(I.sw q hq).1, fun z hz => List.mem_append_left _ ((I.sw q hq).2 z hz)⟩
    · rw [List.mem_singleton.mp hq]
      refine ⟨s1.on r (fun hz => h2 (s2 _ hz)), fun z hz => ?_⟩
      rcases List.mem_append.mp hz with hz | hz
      · exact List.mem_append_left _ (s2 z hz)
      · exact List.mem_append_right _ hz
  · rw [em, List.nodup_append]
    exact ⟨I.nd, by simp, fun u hu v hv e => h2 (by rw [← List.mem_singleton.mp hv, ← e]; exact hu)⟩
  · rw [em]
    exact List.mem_append_left _ I.st
theorem flood_step {ks : List (Str × Str)} {x : Str} {m : List (Str × List Str)} (I : FInv ks x m) {r : Str × Str} (hr : r ∈ ks) : FInv ks x (floodS m r) := by
  have r1 : isRoad ks r.1 r.2 = true := by unfold isRoad; simp [hr]
  unfold floodS
  cases h1 : wayOf m r.1 with
  | none =>
    cases h2 : wayOf m r.2 with
    | none => exact I
    | some l => exact flood_add I h2 h1 (isRoad_sym r1)
  | some l =>
    cases h2 : wayOf m r.2 with
    | none => exact flood_add I h1 h2 r1
    | some l => exact I
theorem flood_fold {ks : List (Str × Str)} {x : Str} : ∀ (ls : List (Str × Str)) (m : List (Str × List Str)), FInv ks x m → (∀ r ∈ ls, r ∈ ks) → FInv ks x (ls.foldl floodS m)
  | [], _, I, _ => I
  | r :: ls, m, I, h => flood_fold ls _ (flood_step I (h r List.mem_cons_self)) (fun q hq => h q (List.mem_cons_of_mem _ hq))
theorem floodN_inv {ks : List (Str × Str)} {x : Str} : ∀ (n : Nat) (m : List (Str × List Str)), FInv ks x m → FInv ks x (floodN ks n m)
  | 0, _, I => I
  | n + 1, m, I => floodN_inv n _ (flood_fold ks m I (fun _ h => h))
theorem flood_init (ks : List (Str × Str)) (x : Str) : FInv ks x [(x, [x])] :=
  ⟨fun q hq => by
    rw [List.mem_singleton.mp hq]
    exact ⟨⟨rfl, rfl, trivial, by simp⟩, fun z hz => hz⟩, by simp, by simp⟩
theorem floodS_len (m : List (Str × List Str)) (r : Str × Str) : m.length ≤ (floodS m r).length ∧ ((floodS m r).length = m.length → (r.1 ∈ m.map (·.1) ↔ r.2 ∈ m.map (·.1)) ∧ floodS m r = m) := by
  unfold floodS
  have k1 : ∀ p l, wayOf m p = some l → p ∈ m.map (·.1) := fun p l h => List.mem_map.mpr ⟨_, wayOf_some h, rfl⟩
  cases h1 : wayOf m r.1 with
  | none =>
    cases h2 : wayOf m r.2 with
    | none => exact ⟨Nat.le_refl _, fun _ => ⟨⟨fun c => absurd c (wayOf_none.mp h1), fun c => absurd c (wayOf_none.mp h2)⟩, rfl⟩⟩
    | some l => simp
  | some l =>
    cases h2 : wayOf m r.2 with
    | none => simp
    | some l' => exact ⟨Nat.le_refl _, fun _ => ⟨⟨fun _ => k1 _ _ h2, fun _ => k1 _ _ h1⟩, rfl⟩⟩
theorem flood_len : ∀ (ls : List (Str × Str)) (m : List (Str × List Str)), m.length ≤ (ls.foldl floodS m).length ∧ ((ls.foldl floodS m).length = m.length → (∀ r ∈ ls, (r.1 ∈ m.map (·.1) ↔ r.2 ∈ m.map (·.1))) ∧ ls.foldl floodS m = m)
  | [], m => ⟨Nat.le_refl _, fun _ => ⟨fun r h => (nomatch h), rfl⟩⟩
  | r :: ls, m => by
    obtain ⟨a1, a2⟩ := floodS_len m r
    obtain ⟨b1, b2⟩ := flood_len ls (floodS m r)
    refine ⟨Nat.le_trans a1 b1, fun h => ?_⟩
    have h : (ls.foldl floodS (floodS m r)).length = m.length := h
    obtain ⟨c1, c2⟩ := a2 (by omega)
    rw [c2] at b2 h
    obtain ⟨d1, d2⟩ := b2 h
    refine ⟨fun q hq => ?_, ?_⟩
    · rcases List.mem_cons.mp hq with rfl | hq
      · exact c1
      · exact d1 q hq
    · show ls.foldl floodS (floodS m r) = m
      rw [c2, d2]
def ClosedM (ks : List (Str × Str)) (m : List (Str × List Str)) : Prop := ∀ r ∈ ks, (r.1 ∈ m.map (·.1) ↔ r.2 ∈ m.map (·.1))
theorem floodN_grow {ks : List (Str × Str)} : ∀ (n : Nat) (m : List (Str × List Str)), ClosedM ks (floodN ks n m) ∨ m.length + n ≤ (floodN ks n m).length
  | 0, m => .inr (Nat.le_refl _)
  | n + 1, m => by
    obtain ⟨a1, a2⟩ := flood_len ks m
    by_cases h : (ks.foldl floodS m).length = m.length
    · obtain ⟨c1, c2⟩ := a2 h
      have same : ∀ k, floodN ks k m = m := fun k => by
        induction k with
        | zero => rfl
        | succ k ih => show floodN ks k (ks.foldl floodS m) = m; rw [c2]; exact ih
      left
      rw [same]
      exact c1
    · rcases floodN_grow n (ks.foldl floodS m) with g | g
      · exact .inl g
      · right
        show m.length + (n + 1) ≤ (floodN ks n (ks.foldl floodS m)).length
        omega
theorem flood_ends {ps : List Str} {ks : List (Str × Str)} (W : IsWeb ps ks) {x : Str} (hx : x ∈ ps) : FInv ks x (floodN ks ps.length [(x, [x])]) ∧ ∀ y, wayOf (floodN ks ps.length [(x, [x])]) y = none ↔ ¬ Conn ks x y := by
  have I := floodN_inv ps.length _ (flood_init ks x)
  refine ⟨I, fun y => ?_⟩
  have le : (floodN ks ps.length [(x, [x])]).length ≤ ps.length := by
    have := nd_le _ ps I.nd (fun z hz => by
      obtain ⟨q, hq, rfl⟩ := List.mem_map.mp hz
      exact (conn_in W (I.sw q hq).1.conn).mp hx)
    rwa [List.length_map] at this
  have cl : ClosedM ks (floodN ks ps.length [(x, [x])]) := by
    rcases floodN_grow (ks := ks) ps.length [(x, [x])] with g | g
    · exact g
    · have : 1 + ps.length ≤ (floodN ks ps.length [(x, [x])]).length := g
      omega
  have go : ∀ a b, Conn ks a b → (a ∈ (floodN ks ps.length [(x, [x])]).map (·.1) ↔ b ∈ (floodN ks ps.length [(x, [x])]).map (·.1)) := fun a b c => by
    induction c with
    | refl x => exact Iff.rfl
    | @road r hr => exact cl r hr
    | symm _ ih => exact ih.symm
    | trans _ _ a b => exact a.trans b
  rw [wayOf_none]
  constructor
  · intro n c
    exact n ((go x y c).mp I.st)
  · intro n m
    obtain ⟨q, hq, rfl⟩ := List.mem_map.mp m
    exact n (I.sw q hq).1.conn
end
section
open L2 PySem PySem.Spec PyProof.Rows
theorem tail_rot (l : List Str) : ∃ u v, l.reverse = u ++ v ∧ l.take 1 ++ l.tail.reverse = v ++ u := by
  cases l with
  | nil => exact ⟨[], [], rfl, rfl⟩
  | cons x t => exact ⟨t.reverse, [x], by simp, by simp⟩
theorem round_tell {d : Str → Str → Int} {rs : List (Str × Str)} (sy : ∀ x y, isRoad rs x y = true → d y x = - d x y) {l a b : List Str} (e : l = a ++ b) (h : Way rs (l ++ l.take 1)) : roundI d (b ++ a) = roundI d l ∧ roundI d ((b ++ a).take 1 ++ (b ++ a).tail.reverse) = - roundI d l := by
  have h1 : roundI d (b ++ a) = roundI d l := by rw [e, round_rot]
  refine ⟨h1, ?_⟩
  obtain ⟨u, v, e1, e2⟩ := tail_rot (b ++ a)
  rw [e2, round_rot, ← e1, List.reverse_append, round_rot, ← List.reverse_append, ← e]
  exact round_rev sy h
theorem rtold_all (d : Str → Str → Int) (rs : List (Str × Str)) : (∀ c ∈ toldL rs, ∀ l, SWay c.1 c.2.1 c.2.2 l → roundI d l = 0) ↔ RTold d rs := by
  constructor
  · intro h a r b e g l w
    rw [← round_way w]
    exact h (keptL a, r) ((told_mem _ rs rfl _).mpr ⟨a, b, e, g, rfl⟩) l w
  · intro h c hc l w
    obtain ⟨a, b, e, g, k⟩ := (told_mem _ rs rfl c).mp hc
    rw [k] at w
    rw [round_way w]
    exact h a c.2 b e g l w
theorem counts_same {ps ps' qs os : List Str} {rs rs' : List (Str × Str)} (W : IsWeb ps rs) (W' : IsWeb ps' rs') (hq : ∀ p ∈ ps, p ∈ qs) (ho : ∀ p ∈ ps, p ∈ os) (hq' : ∀ p ∈ ps', p ∈ qs) (ho' : ∀ p ∈ ps', p ∈ os) (h : ∀ x y, isRoad rs x y = isRoad rs' x y) : (∀ c ∈ toldL rs, ∀ l, SWay c.1 c.2.1 c.2.2 l → roundI (ahI qs) l = roundI (ahI os) l) ↔ (∀ c ∈ toldL rs', ∀ l, SWay c.1 c.2.1 c.2.2 l → roundI (ahI qs) l = roundI (ahI os) l) := by
  have k : ∀ l, roundI (ahI qs) l = roundI (ahI os) l ↔ roundI (difI qs os) l = 0 := fun l => by
    rw [round_dif]
    omega
  have a := rtold_all (difI qs os) rs
  have b := rtold_all (difI qs os) rs'
  have c := rtold_iff (d := difI qs os) W W' (fun x hx y hy n => difI_back (hq _ hx) (hq _ hy) (ho _ hx) (ho _ hy) n) (fun x hx y hy n => difI_back (hq' _ hx) (hq' _ hy) (ho' _ hx) (ho' _ hy) n) h
  simp only [k]
  rw [a, b, c]
end
section
open L2 PySem PySem.Spec PyProof.Rows
theorem idx_rev {qs : List Str} (nd : qs.Nodup) {x : Str} (hx : x ∈ qs) : qs.reverse.idxOf x + qs.idxOf x + 1 = qs.length := by
  have h1 := List.idxOf_lt_length_iff.mpr hx
  have nr : qs.reverse.Nodup := ((List.reverse_perm _).nodup_iff).mpr nd
  have hi : qs.length - 1 - qs.idxOf x < qs.reverse.length := by rw [List.length_reverse]; omega
  have e := nr.idxOf_getElem _ hi
  have v : qs.reverse[qs.length - 1 - qs.idxOf x] = x := by
    rw [List.getElem_reverse]
    have : qs.length - 1 - (qs.length - 1 - qs.idxOf x) = qs.idxOf x := by omega
    simp only [this]
    exact List.getElem_idxOf h1
  rw [v] at e
  omega
theorem ahI_rev {qs : List Str} (nd : qs.Nodup) {x y : Str} (hx : x ∈ qs) (hy : y ∈ qs) (n : x ≠ y) : ahI qs.reverse x y + ahI qs x y = 1 := by
  have a := idx_rev nd hx
  have b := idx_rev nd hy
  have ne : qs.idxOf x ≠ qs.idxOf y := fun e => by
    have h1 := List.idxOf_lt_length_iff.mpr hx
    have h2 := List.idxOf_lt_length_iff.mpr hy
    have e1 := List.getElem_idxOf h1
    have e2 := List.getElem_idxOf h2
    apply n
    rw [← e1, ← e2]
    congr 1
  unfold ahI
  by_cases c : qs.idxOf x < qs.idxOf y
  · rw [if_pos c, if_neg (by omega)]
    rfl
  · rw [if_neg c, if_pos (by omega)]
    rfl
theorem along_back {qs : List Str} {rs : List (Str × Str)} (h : ∀ x y, isRoad rs x y = true → ahI qs.reverse x y + ahI qs x y = 1) : ∀ (x : Str) (l : List Str), Way rs (x :: l) → along (ahI qs.reverse) (x :: l) + along (ahI qs) (x :: l) = (l.length : Int)
  | x, [], _ => rfl
  | x, y :: l, w => by
    have ih := along_back h y l w.2
    have := h x y w.1
    show (ahI qs.reverse x y + along (ahI qs.reverse) (y :: l)) + (ahI qs x y + along (ahI qs) (y :: l)) = ((l.length + 1 : Nat) : Int)
    omega
theorem round_back {ps qs : List Str} {rs : List (Str × Str)} (W : IsWeb ps rs) (nd : qs.Nodup) (hq : ∀ p ∈ ps, p ∈ qs) {l : List Str} (w : Way rs (l ++ l.take 1)) : roundI (ahI qs.reverse) l + roundI (ahI qs) l = (l.length : Int) := by
  have h : ∀ x y, isRoad rs x y = true → ahI qs.reverse x y + ahI qs x y = 1 := fun x y r => by
    have hx : x ∈ ps ∧ y ∈ ps ∧ x ≠ y := by
      unfold isRoad at r
      rw [Bool.or_eq_true, decide_eq_true_iff, decide_eq_true_iff] at r
      rcases r with r | r
      · exact W.ends _ r
      · exact ⟨(W.ends _ r).2.1, (W.ends _ r).1, fun e => (W.ends _ r).2.2 e.symm⟩
    exact ahI_rev nd (hq _ hx.1) (hq _ hx.2.1) hx.2.2
  cases l with
  | nil => rfl
  | cons x t =>
    have := along_back h x (t ++ [x]) w
    rw [List.length_append] at this
    exact this
end
section
open L2 PySem PySem.Spec PyProof.Rows
theorem along_edges (qs : List Str) (y : Str) : ∀ (x : Str) (r : List Str), along (ahI qs) (x :: (r ++ [y])) = (((edges x r y).filter (fwdB (fun z => qs.idxOf z))).length : Int)
  | x, [] => by
    show ahI qs x y + 0 = ((([(x, y)] : List (Str × Str)).filter (fwdB (fun z => qs.idxOf z))).length : Int)
    unfold ahI
    by_cases c : qs.idxOf x < qs.idxOf y
    · rw [if_pos c, List.filter_cons_of_pos (by unfold fwdB; simpa using c)]
      rfl
    · rw [if_neg c, List.filter_cons_of_neg (by unfold fwdB; simpa using c)]
      rfl
  | x, z :: r => by
    have ih := along_edges qs y z r
    show ahI qs x z + along (ahI qs) (z :: (r ++ [y])) = ((((x, z) :: edges z r y).filter (fwdB (fun z => qs.idxOf z))).length : Int)
    rw [ih]
    unfold ahI
    by_cases c : qs.idxOf x < qs.idxOf z
    · rw [if_pos c, List.filter_cons_of_pos (by unfold fwdB; simpa using c), List.length_cons]
      omega
    · rw [if_neg c, List.filter_cons_of_neg (by unfold fwdB; simpa using c)]
      omega
theorem round_fwd (qs l : List Str) : roundI (ahI qs) l = (fwdN qs l : Int) := by
  cases l with
  | nil => rfl
  | cons x r => exact along_edges qs x x r
theorem fwd_counts_same {ps ps' qs os : List Str} {rs rs' : List (Str × Str)} (W : IsWeb ps rs) (W' : IsWeb ps' rs') (hq : ∀ p ∈ ps, p ∈ qs) (ho : ∀ p ∈ ps, p ∈ os) (hq' : ∀ p ∈ ps', p ∈ qs) (ho' : ∀ p ∈ ps', p ∈ os) (h : ∀ x y, isRoad rs x y = isRoad rs' x y) : (∀ c ∈ toldL rs, ∀ l, SWay c.1 c.2.1 c.2.2 l → fwdN qs l = fwdN os l) ↔ (∀ c ∈ toldL rs', ∀ l, SWay c.1 c.2.1 c.2.2 l → fwdN qs l = fwdN os l) := by
  have := counts_same W W' hq ho hq' ho' h
  simpa only [round_fwd, Int.ofNat_inj] using this
end
section
open L2 PySem PySem.Spec PyProof.Rows
def numsR (ps l : List Str) : List Nat := l.map fun z => ps.idxOf z
def backR (ps : List Str) (r : List Nat) : List Str := r.map fun n => ps.getD n ""
def tellN (m : List Nat) : List Nat := if m.getD (m.length - 1) 0 < m.getD 1 0 then m.take 1 ++ (m.drop 1).reverse else m
def tellR (ps l : List Str) : List Str := backR ps (tellN (rotM (numsR ps l)))
theorem back_nums {ps : List Str} : ∀ {l : List Str}, (∀ z ∈ l, z ∈ ps) → backR ps (numsR ps l) = l
  | [], _ => rfl
  | z :: l, h => by
    have hz := h z List.mem_cons_self
    have hi := List.idxOf_lt_length_of_mem hz
    show ps.getD (ps.idxOf z) "" :: backR ps (numsR ps l) = z :: l
    rw [back_nums (l := l) fun y hy => h y (List.mem_cons_of_mem _ hy), List.getD_eq_getElem?_getD, List.getElem?_eq_getElem hi, List.getElem_idxOf hi]
    rfl
theorem nums_lt {ps l : List Str} (h : ∀ z ∈ l, z ∈ ps) : ∀ n ∈ numsR ps l, n < ps.length := fun n hn => by
  obtain ⟨z, hz, rfl⟩ := List.mem_map.mp hn
  exact List.idxOf_lt_length_of_mem (h z hz)
def lstI (ps l : List Str) : Nat := (numsR ps l).idxOf (lstN (numsR ps l))
def turnR (ps l : List Str) : List Str := l.drop (lstI ps l) ++ l.take (lstI ps l)
theorem rot_nums (ps l : List Str) : rotM (numsR ps l) = numsR ps (turnR ps l) := by
  unfold rotM turnR lstI
  show (List.map _ l).drop _ ++ (List.map _ l).take _ = List.map _ (l.drop _ ++ l.take _)
  rw [List.map_append, List.map_drop, List.map_take]
theorem turn_mem {ps l : List Str} {z : Str} : z ∈ turnR ps l ↔ z ∈ l := by
  unfold turnR
  rw [List.mem_append, or_comm, ← List.mem_append, List.take_append_drop]
theorem turn_perm (ps l : List Str) : (turnR ps l).Perm l := by
  unfold turnR
  refine List.perm_append_comm.trans ?_
  rw [List.take_append_drop]
theorem turn_len (ps l : List Str) : (turnR ps l).length = l.length := (turn_perm ps l).length_eq
theorem turn_nodup {ps l : List Str} (nd : l.Nodup) : (turnR ps l).Nodup := (turn_perm ps l).nodup_iff.mpr nd
theorem nums_len (ps l : List Str) : (numsR ps l).length = l.length := List.length_map ..
theorem nums_get {ps l : List Str} {i : Nat} (h : i < l.length) : (numsR ps l).getD i 0 = ps.idxOf (l.getD i "") := by
  unfold numsR
  rw [List.getD_eq_getElem?_getD, List.getD_eq_getElem?_getD, List.getElem?_map, List.getElem?_eq_getElem h]
  rfl
theorem tell_turn {ps l : List Str} (sub : ∀ z ∈ l, z ∈ ps) (h2 : 2 ≤ l.length) : tellR ps l = if ps.idxOf ((turnR ps l).getD (l.length - 1) "") < ps.idxOf ((turnR ps l).getD 1 "") then (turnR ps l).take 1 ++ ((turnR ps l).drop 1).reverse else turnR ps l := by
  have hs : ∀ z ∈ turnR ps l, z ∈ ps := fun z hz => sub z (turn_mem.mp hz)
  have hl := turn_len ps l
  unfold tellR tellN
  rw [rot_nums, nums_len, hl, nums_get (by omega), nums_get (by omega)]
  split
  · have e : (numsR ps (turnR ps l)).take 1 ++ ((numsR ps (turnR ps l)).drop 1).reverse = numsR ps ((turnR ps l).take 1 ++ ((turnR ps l).drop 1).reverse) := by
      unfold numsR
      rw [List.map_append, List.map_reverse, List.map_take, List.map_drop]
    rw [e]
    refine back_nums fun z hz => hs z ?_
    rcases List.mem_append.mp hz with hz | hz
    · exact List.mem_of_mem_take hz
    · exact List.mem_of_mem_drop (List.mem_reverse.mp hz)
  · exact back_nums hs
theorem tell_law {ps l : List Str} (sub : ∀ z ∈ l, z ∈ ps) (nd : l.Nodup) (h2 : 2 ≤ l.length) : tellR ps l = if ps.idxOf ((turnR ps l).getD 1 "") < ps.idxOf ((turnR ps l).getD (l.length - 1) "") then turnR ps l else (turnR ps l).take 1 ++ ((turnR ps l).drop 1).reverse := by
  rw [tell_turn sub h2]
  have hl := turn_len ps l
  by_cases c : l.length = 2
  · have e : ∀ m : List Str, m.length = 2 → m.take 1 ++ (m.drop 1).reverse = m := fun m hm => by
      match m, hm with
      | [x, y], _ => rfl
    rw [e _ (hl.trans c), ite_self, ite_self]
  · have nt := turn_nodup (ps := ps) nd
    have i1 : 1 < (turnR ps l).length := by omega
    have i2 : l.length - 1 < (turnR ps l).length := by omega
    have hne : ps.idxOf ((turnR ps l).getD 1 "") ≠ ps.idxOf ((turnR ps l).getD (l.length - 1) "") := fun e => by
      rw [List.getD_eq_getElem?_getD, List.getD_eq_getElem?_getD, List.getElem?_eq_getElem i1, List.getElem?_eq_getElem i2] at e
      have m1 := sub _ (turn_mem.mp (List.getElem_mem i1))
      have m2 := sub _ (turn_mem.mp (List.getElem_mem i2))
      have h1 := List.getElem_idxOf (List.idxOf_lt_length_of_mem m1)
      have h2' := List.getElem_idxOf (List.idxOf_lt_length_of_mem m2)
      have e' : (turnR ps l)[1] = (turnR ps l)[l.length - 1] := by
        rw [← h1, ← h2']
        congr 1
      have := (List.getElem_inj nt).mp e'
      omega
    rcases Nat.lt_or_gt_of_ne hne with h | h
    · rw [if_neg (by omega), if_pos h]
    · rw [if_pos h, if_neg (by omega)]
theorem tell_perm {ps l : List Str} (sub : ∀ z ∈ l, z ∈ ps) (h2 : 2 ≤ l.length) : (tellR ps l).Perm l := by
  rw [tell_turn sub h2]
  split
  · refine List.Perm.trans ?_ (turn_perm ps l)
    refine (List.Perm.append_left _ (List.reverse_perm _)).trans ?_
    rw [List.take_append_drop]
  · exact turn_perm ps l
theorem way_edges {rs : List (Str × Str)} : ∀ (x : Str) (r : List Str) (y : Str), Way rs (x :: (r ++ [y])) ↔ ∀ p ∈ edges x r y, isRoad rs p.1 p.2 = true
  | x, [], y => by
    show (isRoad rs x y = true ∧ True) ↔ _
    constructor
    · rintro ⟨h, _⟩ p hp
      rw [List.mem_singleton.mp hp]
      exact h
    · intro h
      exact ⟨h _ (List.mem_singleton.mpr rfl), trivial⟩
  | x, z :: r, y => by
    show (isRoad rs x z = true ∧ Way rs (z :: (r ++ [y]))) ↔ _
    rw [way_edges z r y]
    constructor
    · rintro ⟨h, k⟩ p hp
      rcases List.mem_cons.mp hp with rfl | hp
      · exact h
      · exact k p hp
    · intro h
      exact ⟨h _ List.mem_cons_self, fun p hp => h p (List.mem_cons_of_mem _ hp)⟩
theorem road_pairs {rs : List (Str × Str)} (l : List Str) : Way rs (l ++ l.take 1) ↔ ∀ p ∈ pairsR l, isRoad rs p.1 p.2 = true := by
  cases l with
  | nil => exact ⟨fun _ p hp => absurd hp List.not_mem_nil, fun _ => trivial⟩
  | cons x r => exact way_edges x r x
theorem ring_turn {rs : List (Str × Str)} {u v : List Str} (h : ∀ p ∈ pairsR (u ++ v), isRoad rs p.1 p.2 = true) : ∀ p ∈ pairsR (v ++ u), isRoad rs p.1 p.2 = true := fun p hp => h p ((pairs_turn u v).mem_iff.mpr hp)
theorem ring_back {rs : List (Str × Str)} {l : List Str} (h : ∀ p ∈ pairsR l, isRoad rs p.1 p.2 = true) : ∀ p ∈ pairsR l.reverse, isRoad rs p.1 p.2 = true := fun p hp => by
  obtain ⟨q, hq, rfl⟩ := List.mem_map.mp ((pairs_rev l).mem_iff.mp hp)
  exact isRoad_sym (h q hq)
theorem tell_ring {ps l : List Str} {rs : List (Str × Str)} (sub : ∀ z ∈ l, z ∈ ps) (h2 : 2 ≤ l.length) (h : ∀ p ∈ pairsR l, isRoad rs p.1 p.2 = true) : ∀ p ∈ pairsR (tellR ps l), isRoad rs p.1 p.2 = true := by
  have ht : ∀ p ∈ pairsR (turnR ps l), isRoad rs p.1 p.2 = true := by
    unfold turnR
    refine ring_turn ?_
    rw [List.take_append_drop]
    exact h
  rw [tell_turn sub h2]
  split
  · obtain ⟨u, v, e1, e2⟩ := tail_rot (turnR ps l)
    have et : (turnR ps l).drop 1 = (turnR ps l).tail := (List.drop_one)
    rw [et, e2]
    refine ring_turn ?_
    rw [← e1]
    exact ring_back ht
  · exact ht
theorem tell_counts {ps qs os l : List Str} {rs : List (Str × Str)} (W : IsWeb ps rs) (hq : ∀ p ∈ ps, p ∈ qs) (ho : ∀ p ∈ ps, p ∈ os) (sub : ∀ z ∈ l, z ∈ ps) (h2 : 2 ≤ l.length) (h : ∀ p ∈ pairsR l, isRoad rs p.1 p.2 = true) : fwdN qs (tellR ps l) = fwdN os (tellR ps l) ↔ fwdN qs l = fwdN os l := by
  have sy := web_dif W hq ho
  have key : ∀ m : List Str, fwdN qs m = fwdN os m ↔ roundI (difI qs os) m = 0 := fun m => by
    rw [round_dif, round_fwd, round_fwd]
    omega
  rw [key, key]
  have rt := round_tell (d := difI qs os) sy (l := l) (a := l.take (lstI ps l)) (b := l.drop (lstI ps l)) (List.take_append_drop _ _).symm ((road_pairs l).mpr h)
  have e : l.drop (lstI ps l) ++ l.take (lstI ps l) = turnR ps l := rfl
  rw [e] at rt
  rw [tell_turn sub h2]
  split
  · rw [List.drop_one, rt.2]
    omega
  · rw [rt.1]
def wayF (ps : List Str) (c : List (Str × Str) × (Str × Str)) : List Str := (wayOf (floodN c.1 ps.length [(c.2.1, [c.2.1])]) c.2.2).getD []
theorem wayF_is {ps : List Str} {ks : List (Str × Str)} {r : Str × Str} (W : IsWeb ps ks) (hx : r.1 ∈ ps) (c : Conn ks r.1 r.2) : wayOf (floodN ks ps.length [(r.1, [r.1])]) r.2 = some (wayF ps (ks, r)) ∧ SWay ks r.1 r.2 (wayF ps (ks, r)) := by
  obtain ⟨I, hn⟩ := flood_ends W hx
  have h := hn r.2
  unfold wayF
  cases e : wayOf (floodN ks ps.length [(r.1, [r.1])]) r.2 with
  | none => exact absurd c (h.mp e)
  | some l => exact ⟨rfl, (I.sw _ (wayOf_some e)).1⟩
structure Rung (ps : List Str) (rs : List (Str × Str)) (c : List (Str × Str) × (Str × Str)) : Prop where
  web : IsWeb ps c.1
  op : opensL c.1 grp0 = true
  i1 : c.2.1 ∈ ps
  cn : Conn c.1 c.2.1 c.2.2
  sw : SWay c.1 c.2.1 c.2.2 (wayF ps c)
  sub : ∀ z ∈ wayF ps c, z ∈ ps
  len : 3 ≤ (wayF ps c).length
  le8 : (wayF ps c).length ≤ 8
  rd : ∀ p ∈ pairsR (wayF ps c), isRoad rs p.1 p.2 = true
theorem sub_len {l ps : List Str} (nd : l.Nodup) (h : ∀ z ∈ l, z ∈ ps) : l.length ≤ ps.length := by
  have h1 : (ps.filter fun z => decide (z ∈ l)).length ≤ ps.length := List.length_filter_le _ _
  have : ∀ (l ps : List Str), l.Nodup → (∀ z ∈ l, z ∈ ps) → l.length ≤ ps.length := by
    intro l
    induction l with
    | nil => intro ps _ _; exact Nat.zero_le _
    | cons x r ih =>
      intro ps nd h
      obtain ⟨a, b, rfl⟩ := List.append_of_mem (h x List.mem_cons_self)
      have nd' := List.nodup_cons.mp nd
      have := ih (a ++ b) nd'.2 fun z hz => by
        rcases List.mem_append.mp (h z (List.mem_cons_of_mem _ hz)) with m | m
        · exact List.mem_append_left _ m
        · rcases List.mem_cons.mp m with rfl | m
          · exact absurd hz nd'.1
          · exact List.mem_append_right _ m
      rw [List.length_append] at this ⊢
      rw [List.length_cons, List.length_cons]
      omega
  exact this l ps nd h
theorem told_rung {ps : List Str} {rs : List (Str × Str)} (W : IsWeb ps rs) {c : List (Str × Str) × (Str × Str)} (hc : c ∈ toldL rs) : Rung ps rs c := by
  obtain ⟨ks, r⟩ := c
  obtain ⟨a, b, e, hg, e2⟩ := (told_mem _ rs rfl _).mp hc
  dsimp only at e hg e2
  subst e2
  have Wa : IsWeb ps a := web_sub W (by rw [e]; exact List.sublist_append_left _ _)
  have Wk := web_kept Wa
  have hr : r ∈ rs := by rw [e]; exact List.mem_append_right _ List.mem_cons_self
  obtain ⟨w1, w2, w3⟩ := W.ends r hr
  have cn : Conn (keptL a) r.1 r.2 := ((grp_conn Wk w1).mp hg).2
  obtain ⟨_, sw⟩ := wayF_is (r := r) Wk w1 cn
  have kin : ∀ q ∈ keptL a, q ∈ rs := fun q hq => by
    rw [e]
    exact List.mem_append_left _ ((kept_grp _ a rfl).2.2.2 q hq)
  have sub : ∀ z ∈ wayF ps (keptL a, r), z ∈ ps := fun z hz => by
    have hh := sw.hd
    have ww := sw.way
    cases el : wayF ps (keptL a, r) with
    | nil => rw [el] at hz; cases hz
    | cons x l =>
      rw [el] at hz hh ww
      obtain rfl : x = r.1 := Option.some.inj hh
      exact (conn_in Wk (way_conn _ _ ww z hz)).mp w1
  have h8 := sub_len sw.nd sub
  have l8 := W.le8
  refine ⟨Wk, (kept_grp _ a rfl).2.1, w1, cn, sw, sub, ?_, by omega, ?_⟩
  · have hh := sw.hd
    have hl := sw.lt
    have ww := sw.way
    match el : wayF ps (keptL a, r) with
    | [] => rw [el] at hh; cases hh
    | [x] =>
      rw [el] at hh hl
      exact absurd ((Option.some.inj hh).symm.trans (Option.some.inj hl)) w3
    | [x, y] =>
      rw [el] at hh hl ww
      obtain rfl : x = r.1 := Option.some.inj hh
      obtain rfl : y = r.2 := Option.some.inj hl
      exfalso
      have h1 : isRoad (keptL a) r.1 r.2 = true := ww.1
      have up := W.uniq
      rw [e, List.pairwise_append] at up
      have hk : ∀ q ∈ keptL a, q ≠ r ∧ q ≠ (r.2, r.1) := fun q hq => up.2.2 q ((kept_grp _ a rfl).2.2.2 q hq) r List.mem_cons_self
      unfold isRoad at h1
      rcases (Bool.or_eq_true _ _).mp h1 with h | h
      · exact (hk _ (of_decide_eq_true h)).1 rfl
      · exact (hk _ (of_decide_eq_true h)).2 rfl
    | x :: y :: z :: l => show 3 ≤ l.length + 1 + 1 + 1; omega
  · refine (road_pairs _).mp ?_
    have r2 : isRoad rs r.2 r.1 = true := by
      refine isRoad_sym ?_
      unfold isRoad
      rw [decide_eq_true hr]
      rfl
    have sw2 : SWay rs r.1 r.2 (wayF ps (keptL a, r)) := ⟨sw.hd, sw.lt, way_mono (fun x y h => road_sub kin h) _ sw.way, sw.nd⟩
    exact ring_way sw2 r2
def ringsT (ps : List Str) (rs : List (Str × Str)) : List (List Str) := (toldL rs).map fun c => tellR ps (wayF ps c)
structure TellOk (ps : List Str) (rs : List (Str × Str)) (t : List Str) : Prop where
  nd : t.Nodup
  len : 3 ≤ t.length
  le8 : t.length ≤ 8
  sub : ∀ z ∈ t, z ∈ ps
  rd : ∀ p ∈ pairsR t, isRoad rs p.1 p.2 = true
theorem rings_tell {ps : List Str} {rs : List (Str × Str)} (W : IsWeb ps rs) {t : List Str} (h : t ∈ ringsT ps rs) : TellOk ps rs t := by
  obtain ⟨c, hc, rfl⟩ := List.mem_map.mp h
  have R := told_rung W hc
  have h2 : 2 ≤ (wayF ps c).length := Nat.le_of_succ_le R.len
  have pm := tell_perm R.sub h2
  exact ⟨pm.nodup_iff.mpr R.sw.nd, by rw [pm.length_eq]; exact R.len, by rw [pm.length_eq]; exact R.le8, fun z hz => R.sub z (pm.mem_iff.mp hz), tell_ring R.sub h2 R.rd⟩
theorem told_le (rs : List (Str × Str)) : (toldL rs).length ≤ rs.length := by
  have := told_len _ rs rfl
  omega
def cntsR (ps : List Str) (rs : List (Str × Str)) (qs : List Str) : List (List Str × Nat) := (ringsT ps rs).map fun t => (t, fwdN qs t)
theorem cnts_eq {ps : List Str} {rs : List (Str × Str)} {qs os : List Str} : cntsR ps rs qs = cntsR ps rs os ↔ ∀ t ∈ ringsT ps rs, fwdN qs t = fwdN os t := by
  unfold cntsR
  rw [List.map_inj_left]
  exact ⟨fun h t ht => (Prod.mk.inj (h t ht)).2, fun h t ht => by rw [h t ht]⟩
theorem cnts_told {ps : List Str} {rs : List (Str × Str)} {qs os : List Str} (W : IsWeb ps rs) (hq : ∀ p ∈ ps, p ∈ qs) (ho : ∀ p ∈ ps, p ∈ os) : cntsR ps rs qs = cntsR ps rs os ↔ ∀ c ∈ toldL rs, ∀ l, SWay c.1 c.2.1 c.2.2 l → fwdN qs l = fwdN os l := by
  rw [cnts_eq]
  constructor
  · intro h c hc l hl
    have R := told_rung W hc
    have e : l = wayF ps c := way_one _ c.1 rfl R.web R.op _ _ _ _ R.i1 hl R.sw
    rw [e]
    exact (tell_counts W hq ho R.sub (Nat.le_of_succ_le R.len) R.rd).mp (h _ (List.mem_map.mpr ⟨c, hc, rfl⟩))
  · intro h t ht
    obtain ⟨c, hc, rfl⟩ := List.mem_map.mp ht
    have R := told_rung W hc
    exact (tell_counts W hq ho R.sub (Nat.le_of_succ_le R.len) R.rd).mpr (h c hc _ R.sw)
theorem cnts_mixed {ps qs os : List Str} {rs rs' : List (Str × Str)} (W : IsWeb ps rs) (W' : IsWeb ps rs') (hq : ∀ p ∈ ps, p ∈ qs) (ho : ∀ p ∈ ps, p ∈ os) (h : ∀ x y, isRoad rs x y = isRoad rs' x y) : cntsR ps rs qs = cntsR ps rs os ↔ cntsR ps rs' qs = cntsR ps rs' os := by
  rw [cnts_told W hq ho, cnts_told W' hq ho]
  exact fwd_counts_same W W' hq ho hq ho h
theorem cnts_moves {ps qs : List Str} {rs : List (Str × Str)} {ms : List Mv} (W : IsWeb ps rs) (pm : qs.Perm ps) (ok : okM rs ms qs) : cntsR ps rs (runM ms qs) = cntsR ps rs qs := by
  refine cnts_eq.mpr fun t ht => ?_
  have T := rings_tell W ht
  exact fwd_moves W T.nd (Nat.le_of_succ_le T.len) T.sub T.rd pm ok
theorem cnts_back {ps qs : List Str} {rs : List (Str × Str)} (W : IsWeb ps rs) (pm : qs.Perm ps) : cntsR ps rs qs.reverse = (cntsR ps rs qs).map fun p => (p.1, p.1.length - p.2) := by
  unfold cntsR
  rw [List.map_map]
  refine List.map_congr_left fun t ht => ?_
  have T := rings_tell W ht
  have nd : qs.Nodup := pm.nodup_iff.mpr W.names.1
  have h := round_back W nd (fun p hp => pm.mem_iff.mpr hp) ((road_pairs t).mpr T.rd)
  rw [round_fwd, round_fwd] at h
  show (t, fwdN qs.reverse t) = (t, t.length - fwdN qs t)
  congr 1
  omega
end
section
open L2 PySem PySem.Spec PyProof.Rows
def rMinTN (K : PySem.W.Frag) : List V → Hp → VK → Prop := fun vs H Q => ∃ (a : Addr) (l : List Nat), vs = [V.ref a] ∧ SqT K H a (natsV l) ∧ l ≠ [] ∧ Q (.int (lstN l : Nat)) H
theorem iDs_deep : ∀ l : List Nat, PyData.depthAll (l.map iD) = 0
  | [] => rfl
  | x :: l => by
    show max 0 (PyData.depthAll (l.map iD)) = 0
    rw [iDs_deep l]
    rfl
theorem k_minTN {X : Cx} {K : PySem.W.Frag} (hc : X.calm = true) (hu : X.A.units + 64 < cLine) (hK : X.K = K := by rfl) : CallR X (.builtin "min") (rMinTN K) := by
  subst hK
  intro pins s σ H vs us' Q I r h
  obtain ⟨a, l, rfl, hs, ne, q⟩ := h
  have hd := dp_nts (K := X.K) (H := H) l
  obtain ⟨its, rv, hl, hz⟩ := I.tuple hs
  rw [Vals.ref1 r]
  obtain ⟨as, hr⟩ := Dp.readsAll I _ _ _ hd rv
  have hlen : (natsV l).length = l.length := List.length_map ..
  have hil : its.length = l.length := by rw [← hlen]; exact rv.length.symm
  have h0 : 0 < l.length := List.length_pos_iff.mpr ne
  refine PySem.call_min_walkH (PySem.W.iter_tupleW (A := X.A.in1) (I.ok.hd hc) hl fun s₂ e W st hfp hw hk' => ?_)
  refine ⟨_, _, _, _, _, _, _, s.heap, (fun i j => decide (l.getD i 0 < l.getD j 0)), rfl, W, st, hfp, ?_, hw, hk', ?_, fun v s' hP m => ?_⟩
  · rw [List.size_toArray, hil]; exact h0
  · intro i j vi vj s3 Q3 E3 kk hi hj q3
    have hi' : i < l.length := by
      have := (Array.getElem?_eq_some_iff.mp hi).1
      rwa [List.size_toArray, hil] at this
    have hj' : j < l.length := by
      have := (Array.getElem?_eq_some_iff.mp hj).1
      rwa [List.size_toArray, hil] at this
    refine PySem.W.cmpIn_lt (A := X.A.in1) (vs := its.toArray) (xs := l.map iD) (as := as) hr ⟨fun x hx y hy => ?_, fun x hx => ?_⟩ ?_ i j vi vj s3 Q3 E3 kk hi hj ?_
    · obtain ⟨t, _, rfl⟩ := List.mem_map.mp hx
      obtain ⟨u, _, rfl⟩ := List.mem_map.mp hy
      rfl
    · obtain ⟨t, _, rfl⟩ := List.mem_map.mp hx
      exact fun c => by cases c
    · have := iDs_deep l
      show X.A.units + 1 + _ < _
      rw [this]
      omega
    · show Q3 (.bool (PySem.W.dataLt ((l.map iD).getD i PyData.none) ((l.map iD).getD j PyData.none))) s3
      rw [List.getD_eq_getElem?_getD, List.getD_eq_getElem?_getD, List.getElem?_map, List.getElem?_map, List.getElem?_eq_getElem hi', List.getElem?_eq_getElem hj']
      replace q3 : Q3 (.bool (decide (l.getD i 0 < l.getD j 0))) s3 := q3
      rw [List.getD_eq_getElem?_getD, List.getD_eq_getElem?_getD, List.getElem?_eq_getElem hi', List.getElem?_eq_getElem hj'] at q3
      replace q3 : Q3 (.bool (decide (l[i] < l[j]))) s3 := q3
      show Q3 (.bool (PySem.W.dataLt (iD l[i]) (iD l[j]))) s3
      have e : PySem.W.dataLt (iD l[i]) (iD l[j]) = decide (l[i] < l[j]) := by
        refine (PySem.W.dataLt_int _ _).trans (decide_eq_decide.mpr ?_)
        omega
      rw [e]
      exact q3
  · obtain ⟨h', tk, rfl, hk2⟩ := PySem.W.moved_old e rfl m
    rw [List.size_toArray, hil] at hP
    obtain ⟨b1, b2⟩ := best_nat (fun i => l.getD i 0) (l.length - 1)
    generalize eb : PySem.argBest (fun i j => decide (l.getD i 0 < l.getD j 0)) (l.length - 1) = bi at hP b1 b2
    have hbi : bi < l.length := by omega
    have hv : RelV (.int (l[bi] : Nat)) v := by
      rw [List.getElem?_toArray] at hP
      obtain ⟨u, hu1, hu2⟩ := rv.get (i := bi) (by rw [show natsV l = l.map (fun n => V.int ((n : Nat) : Int)) from rfl, List.getElem?_map, List.getElem?_eq_getElem hbi]; rfl)
      rw [hP] at hu1
      rw [Option.some.inj hu1]
      exact hu2
    have em : lstN l = l[bi] := lstN_one (List.getElem_mem hbi) fun y hy => by
      obtain ⟨j, hj, rfl⟩ := List.getElem_of_mem hy
      have := b2 j (by omega)
      simp only [List.getD_eq_getElem?_getD, List.getElem?_eq_getElem hbi, List.getElem?_eq_getElem hj, Option.getD_some] at this
      exact this
    rw [em] at q
    exact ⟨_, H, I.kept hk2, hv, q⟩
theorem i_minTN {K : PySem.W.Frag} {H : Hp} {Q : VK} {a : Addr} {l : List Nat} (s : SqT K H a (natsV l)) (ne : l ≠ []) (q : Q (.int (lstN l : Nat)) H) : rMinTN K [.ref a] H Q := ⟨a, l, rfl, s, ne, q⟩
def rTIndexN (K : PySem.W.Frag) : V → List V → Hp → VK → Prop := fun x xs H Q => ∃ (p : Addr) (l : List Nat) (n : Nat), x = .ref p ∧ xs = [.int (n : Nat)] ∧ SqT K H p (natsV l) ∧ n ∈ l ∧ Q (.int (l.idxOf n : Nat)) H
theorem intsI_idx (l : List Nat) (n : Nat) : (intsI l).idxOf (n : Int) = l.idxOf n := by
  induction l with
  | nil => rfl
  | cons x r ih =>
    show ((x : Int) :: intsI r).idxOf (n : Int) = _
    by_cases c : x = n
    · subst c
      rw [List.idxOf_cons_self, List.idxOf_cons_self]
    · rw [List.idxOf_cons, List.idxOf_cons, beq_eq_false_iff_ne.mpr c, beq_eq_false_iff_ne.mpr (fun e => c (Int.ofNat_inj.mp e)), ih]
theorem k_tindexN {X : Cx} {K : PySem.W.Frag} (hu : X.A.units + 65 < cLine) (hK : X.K = K := by rfl) : MtR X "tuple.index" (rTIndexN K) := by
  subst hK
  intro pins s σ H x xs v us' Q I rx rxs h
  obtain ⟨p, l, n, rfl, rfl, hs, ht, q⟩ := h
  cases rx
  cases rxs with
  | cons ry rt =>
    rename_i uy ut
    cases rt
    obtain ⟨its, rv, hl, hz⟩ := I.tuple hs
    have hd := dp_nts (K := X.K) (H := H) l
    obtain ⟨bs, r1⟩ := Dp.reads I (.int ((n : Nat) : Int)) (.int (n : Nat)) uy (.int _) ry
    obtain ⟨as, h4⟩ := Dp.readsAll I _ _ its hd rv
    have e1 : (intsI l).map PySem.W.Datum.toD = l.map iD := by
      show (l.map fun n => ((n : Nat) : Int)).map PyData.int = _
      rw [List.map_map]
      rfl
    refine PySem.W.index_tuple_datum (α := Int) (xs := intsI l) (x := (n : Int)) (vs := its) hl ⟨as, by rw [e1]; exact h4⟩ ⟨bs, r1⟩ ?_ (intsI_mem ht) ?_
    · show X.A.units + 1 + 0 < cLine
      omega
    · rw [intsI_idx]
      exact ⟨.int (l.idxOf n : Nat), H, I.tok _, ⟨_, rfl⟩, q⟩
theorem i_tixN {K : PySem.W.Frag} {H : Hp} {Q : VK} {a : Addr} {l : List Nat} {n : Nat} (s : SqT K H a (natsV l)) (h : n ∈ l) (q : Q (.int (l.idxOf n : Nat)) H) : rTIndexN K (.ref a) [.int (n : Nat)] H Q := ⟨a, l, n, rfl, rfl, s, h, q⟩
section
variable {P : Program} {w : World} {A : Around} {E : Value → Shared → Prop} {s : Shared}
theorem applied_tail {sl : Addr} {b c : Value} {n : Nat} {Q : Int × Int × Nat → Shared → Prop} (hn : 1 ≤ n) (hs : s.heap.IsSliceOf sl .none b c) (pb : IsPart b (some 0)) (pc : IsPart c (some (-1))) (q : Q ((n : Int) - 1, -1, n - 1) s) : wpAny (model P w) A (Builtin.Slice.sliceApplied (.ref sl) (pure (n : Int))) Q E s := by
  obtain ⟨os, hos, hcs, hds⟩ := id hs
  unfold Builtin.Slice.sliceApplied Builtin.Slice.sliceFields
  refine wpAny_bind (wpAny_bind (wpAny_field hos hds (x := .none) rfl (wpAny_bind (wpAny_field hos hds (x := b) rfl (wpAny_bind (wpAny_field hos hds (x := c) rfl (wpAny_pure ?_)))))))
  refine wpAny_bind (HT.slicePart_ pc ?_)
  show wpAny _ _ (if ((-1 : Int) == 0) = true then _ else _) _ _ s
  rw [if_neg (by decide)]
  refine wpAny_bind (HT.slicePart_ .none (wpAny_bind (HT.slicePart_ pb (wpAny_bind (wpAny_pure ?_)))))
  have e1 : Builtin.Slice.sliceAdjust none (some 0) (-1) (n : Int) = ((n : Int) - 1, 0) := by
    unfold Builtin.Slice.sliceAdjust
    simp
    omega
  have e2 : Builtin.Slice.slicePlaces ((n : Int) - 1) 0 (-1) = n - 1 := by
    unfold Builtin.Slice.slicePlaces
    have h1 : ¬ ((-1 : Int) > 0) := by decide
    simp only [h1, if_false]
    by_cases h : (n : Int) - 1 > 0
    · rw [if_pos h, show (- -1 : Int) = 1 from by decide, Int.ediv_one]
      omega
    · rw [if_neg h]
      omega
  show wpAny _ _ (match Builtin.Slice.sliceAdjust none (some 0) (-1) (n : Int) with | (lo, hi) => pure (lo, (-1 : Int), Builtin.Slice.slicePlaces lo hi (-1))) _ _ s
  rw [e1]
  show wpAny _ _ (pure ((n : Int) - 1, (-1 : Int), Builtin.Slice.slicePlaces ((n : Int) - 1) 0 (-1))) _ _ s
  rw [e2]
  exact wpAny_pure q
theorem tail_pick (xs : List Value) (h : 1 ≤ xs.length) : ((List.range (xs.length - 1)).filterMap fun (k : Nat) => xs.toArray[(((xs.length : Int) - 1) + (k : Int) * -1).toNat]?) = (xs.drop 1).reverse := by
  cases xs with
  | nil => exact absurd h (by decide)
  | cons x r =>
    have hb := back_pick r.toArray
    rw [List.size_toArray] at hb
    show _ = r.reverse
    rw [← show r.toArray.toList = r from rfl, ← hb]
    show (List.range (r.length + 1 - 1)).filterMap _ = _
    rw [show r.length + 1 - 1 = r.length from rfl]
    have fm : ∀ (L : List Nat) (f g : Nat → Option Value), (∀ k ∈ L, f k = g k) → L.filterMap f = L.filterMap g := by
      intro L f g h
      induction L with
      | nil => rfl
      | cons a L ih =>
        rw [List.filterMap_cons, List.filterMap_cons, h a List.mem_cons_self, ih fun k hk => h k (List.mem_cons_of_mem _ hk)]
    refine fm _ _ _ fun k hk => ?_
    have hk2 : k < r.length := List.mem_range.mp hk
    rw [List.getElem?_toArray, List.getElem?_toArray]
    rw [show (((x :: r).length : Int) - 1 + (k : Int) * -1).toNat = ((r.length : Int) - 1 + (k : Int) * -1).toNat + 1 from by rw [List.length_cons]; omega]
    exact List.getElem?_cons_succ
theorem getItem_tail {t sl : Addr} {items : List Value} {b c : Value} {Q : Value → Shared → Prop} (hn : 1 ≤ items.length) (ht : IsTup s.heap t items.toArray) (hs : s.heap.IsSliceOf sl .none b c) (pb : IsPart b (some 0)) (pc : IsPart c (some (-1)))
    (q : Q (.ref s.heap.objs.size) { s with heap := s.heap.push { cls := .type "tuple", data := .seq (items.drop 1).reverse.toArray } }) (hz : items.length ≤ sizeLine) : wpAny (model P w) A (getItem (.ref t) (.ref sl)) Q E s := by
  obtain ⟨os, hos, hcs, _⟩ := id hs
  have ty : s.TypeIs (.ref sl) "slice" := ⟨os, hos, hcs⟩
  unfold getItem
  try with_reducible refine wpAny_holding ?_
  first | refine wpAny_bind (wpAny_pure ?_) | skip
  refine wpAny_bind (wpAny_sequenceKey ht.typeIs (by decide) ?_)
  refine wpAny_bind (wpAny_callSpecial?_slot (name := Str.ofString "__getitem__") ht.typeIs PyProof.Rows.slot_tuple_getitem (wpAny_call_entry PyProof.Rows.slot_tuple_getitem ht.typeIs entry_tuple_getitem ?_ (args_tuple_getitem _ _)))
  show wpAny _ _ (Builtin.Tuple.tupleItemsOf (.ref t) >>= _) _ _ s
  refine wpAny_bind (tupleItemsOf_ ht (wpAny_bind (wpAny_typeOf ty ?_)))
  rw [if_pos (by decide)]
  have hsz : items.toArray.size = items.length := List.size_toArray ..
  rw [hsz]
  refine wpAny_bind (applied_tail hn hs pb pc ?_)
  have no : ¬ ((((items.length : Int) - 1) == 0 && (-1 : Int) == 1 && (items.length - 1) == items.length) = true) := by
    simp
  show wpAny _ _ (if (((items.length : Int) - 1) == 0 && (-1 : Int) == 1 && (items.length - 1) == items.length) = true then _ else _) _ _ s
  rw [if_neg no]
  have fit : sizeOk (.seq (items.drop 1).reverse.toArray) := by
    show (items.drop 1).reverse.toArray.size ≤ sizeLine
    rw [List.size_toArray, List.length_reverse, List.length_drop]
    omega
  rw [tail_pick items hn]
  first
    | exact wpAny_bind (m := Builtin.Tuple.tupleExact _) (wpAny_newObj_type (wpAny_pure ⟨_, rfl, wpAny_pure q⟩) fit)
    | exact wpAny_bind (m := Builtin.Tuple.tupleExact _) (wpAny_newObj_type (wpAny_bind (wpAny_pure (wpAny_pure ⟨_, rfl, wpAny_pure q⟩))) fit)
    | exact wpAny_bind (wpAny_bind (m := Builtin.Tuple.tupleExact _) (wpAny_newObj_type (wpAny_pure (wpAny_pure ⟨_, rfl, wpAny_pure q⟩)) fit))
    | exact wpAny_bind (wpAny_bind (m := Builtin.Tuple.tupleExact _) (wpAny_newObj_type (wpAny_pure ⟨_, rfl, wpAny_pure q⟩) fit))
end
section
variable {X : Cx} {K : PySem.W.Frag}
def tTailT (K : PySem.W.Frag) (te : TE) : TE := fun σ H Q => te σ H fun x H1 => ∃ a xs, x = .ref a ∧ SqT K H1 a xs ∧ 1 ≤ xs.length ∧ ∀ p ob, H1 p = none → obOk ob → Q (.ref p) (upd H1 p (.frz ob (.tup (xs.drop 1).reverse)))
theorem pe_tailT {e : Expr} {te : TE} {k k0 : Nat} {p0 p1 p2 p3 pos : Pos} (he : PE X e te) (hK : X.K = K := by rfl) : PE X (.Subscript e (.Slice none (some (.Constant (.int 0) k0 p0)) (some (.UnaryOp .USub (.Constant (.int 1) k p1) p2)) p3) pos) (tTailT K te) := by
  subst hK
  refine ⟨fun pins s σ H Q I h => ?_⟩
  refine Subscript_ (thn (he.run pins s σ H _ I h) fun v s1 ⟨x, H1, I1, r1, a, xs, ex, hx, hn, q⟩ => ?_)
  subst ex
  cases r1
  have st : PO X (some (.UnaryOp .USub (.Constant (.int 1) k p1) p2)) (tPart (tUn (rU fun i => .int (-i)) (tC (.int 1)))) := po_some (pe_un un_neg pe_int)
  have sz : PO X (some (.Constant (.int 0) k0 p0)) (tPart (tC (.int 0))) := po_some pe_int
  refine wpAny_Slice (thn (po_none.run pins s1 σ H1 (fun o H2 => o = none ∧ H2 = H1) I1 ⟨rfl, rfl⟩) fun vl s2 ⟨l, H2, I2, pl, el, e2⟩ => ?_)
  subst el e2
  refine thn (sz.run pins s2 σ H2 (fun o H3 => o = some 0 ∧ H3 = H2) I2 ⟨0, rfl, rfl, rfl⟩) fun vu s3 ⟨u, H3, I3, pu, eu, e3⟩ => ?_
  subst eu e3
  refine thn (st.run pins s3 σ H3 (fun o H4 => o = some (-1) ∧ H4 = H3) I3 ⟨1, rfl, -1, rfl, rfl, rfl⟩) fun vs s4 ⟨o, H4, I4, ps, eo, e4⟩ => ?_
  subst eo e4
  cases pl
  have I5 : Inv X pins σ H4 { s4 with heap := s4.heap.push { cls := .type "slice", data := .fields #[.none, vu, vs] } } := I4.kept (t' := s4.toks) fun b ob q => Heap.get?_push_of_some _ q
  obtain ⟨its, r, ht, hz⟩ := I5.tuple hx
  have hl := r.length
  show wpAny (model X.prog X.w) X.A (subscriptTail e (.Slice none (some (.Constant (.int 0) k0 p0)) (some (.UnaryOp .USub (.Constant (.int 1) k p1) p2)) p3) (.ref a) (.ref s4.heap.objs.size)) (EP X pins σ Q) X.xe { s4 with heap := s4.heap.push { cls := .type "slice", data := .fields #[.none, vu, vs] } }
  refine tail_any (ops := [.ref a, .ref s4.heap.objs.size]) (T := "tuple") ht.typeIs PyProof.Rows.slot_tuple_getitem.lookup ?_ (by with_unfolding_all rfl)
  refine getItem_tail (by omega) ht (Heap.IsSliceOf.new _ .none vu vs) pu ps ?_ (by omega)
  obtain ⟨p, ob, rfl, ok, n, J⟩ := lay_tup I5 (xs := (xs.drop 1).reverse) (us := (its.drop 1).reverse) (by exact (r.drop 1).reverse) (by rw [List.length_reverse, List.length_drop]; omega)
  exact ⟨.ref _, _, J, rfl, q _ ob n ok⟩
end
theorem i_tailT {K : PySem.W.Frag} {te : TE} {σ : L2.St} {H : Hp} {Q : VK} (h : te σ H fun x H1 => ∃ a xs, x = .ref a ∧ SqT K H1 a xs ∧ 1 ≤ xs.length ∧ ∀ p ob, H1 p = none → obOk ob → Q (.ref p) (upd H1 p (.frz ob (.tup (xs.drop 1).reverse)))) : tTailT K te σ H Q := h
end
section
open L2 PySem PySem.Spec PyProof.Rows
def FlD (K : PySem.W.Frag) (H : Hp) (W : Addr) (m : List (Str × List Str)) : Prop := ∃ A : Str → Addr, H W = some (.dK (fnK (m.map (·.1)) fun z => .ref (A z))) ∧ ∀ q ∈ m, SqT K H (A q.1) (q.2.map V.str)
section
variable {K : PySem.W.Frag} {H H' : Hp} {W : Addr} {m : List (Str × List Str)}
theorem FlD.same (h : FlD K H W m) (k : Same H H') : FlD K H' W m := by
  obtain ⟨A, e, hA⟩ := h
  exact ⟨A, k _ _ e, fun q hq => TK.same k _ _ (hA q hq)⟩
theorem fnK_no {ps : List Str} {A : Str → V} {z : Str} (h : z ∉ ps) : valV (fnK ps A) (.inr z) = none := by
  induction ps with
  | nil => rfl
  | cons y r ih =>
    show valV ((Sum.inr y, A y) :: fnK r A) (.inr z) = _
    rw [valV_neg (fun c => h (by rw [Sum.inr.inj c]; exact List.mem_cons_self))]
    exact ih fun c => h (List.mem_cons_of_mem _ c)
theorem FlD.look (h : FlD K H W m) (z : Str) : ∃ kvs, H W = some (.dK kvs) ∧ kvs.length = m.length ∧ match wayOf m z with
    | some l => ∃ b, valV kvs (.inr z) = some (.ref b) ∧ SqT K H b (l.map V.str)
    | none => valV kvs (.inr z) = none := by
  obtain ⟨A, e, hA⟩ := h
  refine ⟨_, e, by rw [fnK_len, List.length_map], ?_⟩
  cases c : wayOf m z with
  | none =>
    exact fnK_no (wayOf_none.mp c)
  | some l =>
    have hm := wayOf_some c
    exact ⟨A z, fnK_val (List.mem_map.mpr ⟨_, hm, rfl⟩), hA _ hm⟩
theorem FlD.get (h : FlD K H W m) {z : Str} {l : List Str} (c : wayOf m z = some l) : ∃ b, DGet H W (.str z) (some (.ref b)) ∧ SqT K H b (l.map V.str) := by
  obtain ⟨kvs, e, _, hk⟩ := h.look z
  rw [c] at hk
  obtain ⟨b, v, s⟩ := hk
  have := DGet.k (k := Sum.inr z) e
  rw [v] at this
  exact ⟨b, this, s⟩
theorem FlD.has (h : FlD K H W m) (z : Str) : ∃ o, DGet H W (.str z) o ∧ o.isSome = (wayOf m z).isSome := by
  obtain ⟨kvs, e, _, hk⟩ := h.look z
  refine ⟨_, DGet.k (k := Sum.inr z) e, ?_⟩
  cases c : wayOf m z with
  | none =>
    rw [c] at hk
    rw [hk]
    rfl
  | some l =>
    rw [c] at hk
    obtain ⟨b, v, s⟩ := hk
    rw [v]
    rfl
theorem FlD.put (h : FlD K H W m) {z : Str} {l : List Str} {T : Addr} (c : wayOf m z = none) (s : SqT K H T (l.map V.str)) (hm : m.length < sizeLine) : ∃ H', DPut H W (.str z) (.ref T) H' ∧ Ch W H H' ∧ TK K H H' ∧ FlD K H' W (m ++ [(z, l)]) ∧ ∀ b, H b = none → H' b = none := by
  obtain ⟨A, e, hA⟩ := h
  have hz := wayOf_none.mp c
  have sf := sf_dk e
  have kP : Ch W H (upd H W (.dK (putK (fnK (m.map (·.1)) fun z => V.ref (A z)) (Sum.inr z) (.ref T)))) := Ch.upd_self
  have tP := tk_sf (K := K) kP sf
  refine ⟨_, DPut.k (k := Sum.inr z) e (by rw [fnK_len, List.length_map]; exact hm), kP, tP, ⟨fun y => if y = z then T else A y, ?_, fun q hq => tP _ _ ?_⟩, fun b hb => ?_⟩
  · have e1 : fnK (m.map (·.1)) (fun y => V.ref (A y)) = fnK (m.map (·.1)) fun y => V.ref (if y = z then T else A y) := fnK_congr fun y hy => by
      show V.ref (A y) = V.ref (if y = z then T else A y)
      rw [if_neg (fun e : y = z => hz (e ▸ hy))]
    have e2 := fnK_snoc (A := fun y => V.ref (if y = z then T else A y)) hz
    rw [if_pos rfl] at e2
    rw [upd_same, e1, e2, List.map_append]
    rfl
  · show SqT K H (if q.1 = z then T else A q.1) _
    rcases List.mem_append.mp hq with hq | hq
    · rw [if_neg (fun e : q.1 = z => hz (e ▸ List.mem_map.mpr ⟨q, hq, rfl⟩))]
      exact hA q hq
    · rw [List.mem_singleton.mp hq, if_pos rfl]
      exact s
  · rw [upd_ne (fun q => by rw [q, e] at hb; cases hb)]
    exact hb
end
theorem i_pairsA {tk tv : TE} {r : List (TE × TE)} {σ : L2.St} {H : Hp} {Q : List (V × V) → Hp → Prop} (h : tk σ H fun x H1 => tv σ H1 fun y H2 => tPairs r σ H2 fun ps H3 => Q ((x, y) :: ps) H3) : tPairs ((tk, tv) :: r) σ H Q := h
theorem i_pairsA0 {σ : L2.St} {H : Hp} {Q : List (V × V) → Hp → Prop} (h : Q [] H) : tPairs [] σ H Q := h
theorem i_dispA {trs : List (TE × TE)} {σ : L2.St} {H : Hp} {Q : VK} (h : ∀ p, H p = none → tPairs trs σ (upd H p (.dK [])) fun ps H2 => H2 p = some (.dK []) ∧ ∃ kvs : List (L2.Key × V), ps = kvs.map (fun kv => (kV kv.1, kv.2)) ∧ kvs.length ≤ 15 ∧ Q (.ref p) (upd H2 p (.dK (mergeK [] kvs)))) : tDisp trs σ H Q := h
theorem floodN_succ (ks : List (Str × Str)) : ∀ (n : Nat) (m : List (Str × List Str)), floodN ks (n + 1) m = ks.foldl floodS (floodN ks n m)
  | 0, m => rfl
  | n + 1, m => by
    show floodN ks (n + 1) (ks.foldl floodS m) = _
    rw [floodN_succ ks n]
    rfl
theorem flood_le {ps : List Str} {ks : List (Str × Str)} {x : Str} {m : List (Str × List Str)} (W : IsWeb ps ks) (hx : x ∈ ps) (I : FInv ks x m) : m.length ≤ ps.length ∧ ∀ z l, wayOf m z = some l → l.length ≤ ps.length ∧ ∀ y ∈ l, y ∈ ps := by
  have mem : ∀ q ∈ m, ∀ y ∈ q.2, y ∈ ps := fun q hq y hy => by
    have sw := (I.sw q hq).1
    have hh := sw.hd
    have ww := sw.way
    cases el : q.2 with
    | nil => rw [el] at hy; cases hy
    | cons a l =>
      rw [el] at hh ww hy
      obtain rfl : a = x := Option.some.inj hh
      exact (conn_in W (way_conn _ _ ww y hy)).mp hx
  constructor
  · have := sub_len I.nd (ps := ps) fun z hz => by
      obtain ⟨q, hq, rfl⟩ := List.mem_map.mp hz
      exact (conn_in W (I.sw q hq).1.conn).mp hx
    rwa [List.length_map] at this
  · intro z l h
    have hm := wayOf_some h
    exact ⟨sub_len (I.sw _ hm).1.nd (mem _ hm), mem _ hm⟩
end
section
open L2 PySem PySem.Spec PyProof.Rows
def rcD (p : List Str × Nat) : PyData := .tuple [tsD p.1, .int (p.2 : Nat)]
theorem tsD_only (l : List Str) : tupOnly (tsD l) = true := strs_only l
theorem rcD_only (p : List Str × Nat) : tupOnly (rcD p) = true := by
  show (tupOnly (tsD p.1) && (tupOnly (.int (p.2 : Nat)) && true)) = true
  rw [tsD_only]
  rfl
theorem rcs_noB : ∀ l : List (List Str × Nat), noBAll (l.map rcD) = true
  | [] => rfl
  | p :: l => by
    show ((noB (tsD p.1) && (true && true)) && noBAll (l.map rcD)) = true
    rw [show noB (tsD p.1) = true from texts_noB p.1, rcs_noB l]
    rfl
theorem rcD_inj {p q : List Str × Nat} (h : rcD p = rcD q) : p = q := by
  injection h with h
  injection h with h1 h2
  injection h1 with h1
  injection h2 with h2 _
  injection h2 with h2
  exact Prod.ext (map_str_inj h1) (Int.ofNat_inj.mp h2)
theorem map_rc_inj : ∀ {l m : List (List Str × Nat)}, l.map rcD = m.map rcD → l = m
  | [], [], _ => rfl
  | [], _ :: _, h => by cases h
  | _ :: _, [], h => by cases h
  | p :: l, q :: m, h => by
    rw [List.map_cons, List.map_cons] at h
    injection h with h1 h2
    rw [rcD_inj h1, map_rc_inj h2]
theorem rcs_eqd {l m : List (List Str × Nat)} : PyData.eqv (.list (l.map rcD)) (.list (m.map rcD)) = decide (l = m) := by
  have q := eqv_dec (.list (l.map rcD)) (.list (m.map rcD)) (rcs_noB l) (rcs_noB m)
  by_cases k : l = m
  · subst k
    rw [decide_eq_true rfl, q.mpr rfl]
  · rw [decide_eq_false k]
    cases z : PyData.eqv (.list (l.map rcD)) (.list (m.map rcD)) with
    | false => rfl
    | true =>
      have := q.mp z
      injection this with e
      exact absurd (map_rc_inj e) k
theorem rcs_gd {l : List (List Str × Nat)} (h : ∀ p ∈ l, (∀ z ∈ p.1, nmOk z = true) ∧ p.1.length ≤ 8 ∧ p.2 ≤ 50) : GA (l.map rcD) (101 * l.length) 2 := by
  have := GA.of (w := 100) (p := 2) (l.map rcD) fun d hd => by
    obtain ⟨x, hx, rfl⟩ := List.mem_map.mp hd
    obtain ⟨h1, h2, h3⟩ := h x hx
    have a : GA (x.1.map PyData.str) ((8 + 1) * (x.1.map PyData.str).length) 0 := GA.of _ fun d hd => by
      obtain ⟨z, hz, rfl⟩ := List.mem_map.mp hd
      exact .name (h1 z hz)
    rw [List.length_map] at a
    exact ((GA.cons a.tup (GA.cons (Gd.nat (p := 1) (n := x.2) (by omega)) GA.nil)).tup).mono (by omega) (by omega)
  rw [List.length_map] at this
  exact this
theorem rcs_shown {l : List (List Str × Nat)} (h : ∀ p ∈ l, (∀ z ∈ p.1, nmOk z = true) ∧ p.1.length ≤ 8 ∧ p.2 ≤ 50) (hl : l.length ≤ 14) : (PyData.list (l.map rcD)).showable = true ∧ (PyData.list (l.map rcD)).hasDict = false ∧ (PyData.list (l.map rcD)).depth ≤ 40 ∧ (PyData.list (l.map rcD)).shown.length ≤ sizeLine := by
  obtain ⟨a1, a2, a3, a4, a5, a6⟩ := rcs_gd h
  refine ⟨a2, a3, by show PyData.depthAll (l.map rcD) + 1 ≤ 40; omega, Nat.le_trans (shown_le13 (d := .list (l.map rcD)) ?_ a6) (by rw [sizeLine_eq]; omega)⟩
  show (PyData.canLayAll0 (l.map rcD) && decide (PyData.depthAll (l.map rcD) + 1 ≤ 64) && decide (PyData.weightAll (l.map rcD) ≤ 2 ^ 20)) = true
  have e20 : (2 : Nat) ^ 20 = 1048576 := by decide
  rw [a1, decide_eq_true (by omega), decide_eq_true (by omega)]
  rfl
theorem rcs_shaped {l : List (List Str × Nat)} (h : ∀ p ∈ l, (∀ z ∈ p.1, nmOk z = true) ∧ p.1.length ≤ 8 ∧ p.2 ≤ 50) : SeqAt.shaped (.list (l.map rcD)) = true := by
  obtain ⟨a1, _, _, a4, _⟩ := rcs_gd h
  show (PyData.canLayAll0 (l.map rcD) && decide (PyData.depthAll (l.map rcD) + 1 ≤ 64)) = true
  rw [a1, decide_eq_true (by omega)]
  rfl
end
open L2 PySem PySem.Spec PyProof.Rows
local macro_rules | `(tactic| walk_at "jz") => `(tactic| first
  | assumption
  | (rw [sizeLine_eq]; simp only [List.length_map, List.length_append, List.length_cons, List.length_nil, List.length_range, List.length_take, List.length_drop]; omega)
  | (rw [sizeLine_eq]; omega)
  | fail "none")
local macro_rules | `(tactic| walk_at "jc") => `(tactic| first
  | assumption
  | (refine ⟨?_, ?_⟩ <;> omega)
  | (show (0 : Int) < _; omega)
  | (show (0 : Int) < _; decide)
  | (refine ⟨?_, ?_, ?_⟩ <;> decide)
  | (refine ⟨?_, ?_⟩ <;> decide)
  | (left; refine ⟨?_, ?_⟩ <;> omega)
  | (right; refine ⟨?_, ?_⟩ <;> omega)
  | fail "none")
local macro_rules | `(tactic| walk_at "jn") => `(tactic| first
  | assumption
  | (apply Ne.symm; assumption)
  | (refine Fd.ne (H := ?h0) (c := ?c0) ?e0 ?n0; (case n0 => assumption); (case e0 => walk_at "jf"))
  | (apply Ne.symm; refine Fd.ne (H := ?h0) (c := ?c0) ?e0 ?n0; (case n0 => assumption); (case e0 => walk_at "jf"))
  | (refine ne_of_none (H := ?h0) (o := ?o0) ?e0 ?n0; (case n0 => assumption); (case e0 => walk_at "jl"))
  | (apply Ne.symm; refine ne_of_none (H := ?h0) (o := ?o0) ?e0 ?n0; (case n0 => assumption); (case e0 => walk_at "jl"))
  | fail "none")
local macro_rules | `(tactic| walk_at "jl") => `(tactic| first
  | assumption
  | exact upd_same
  | (refine Ch.at (a := ?a0) (H := ?h0) ?c0 ?n0 ?e0; (case c0 => assumption); (case n0 => walk_at "jn"); (case e0 => walk_at "jl"))
  | (refine (upd_ne ?_).trans ?_; (walk_at "jn"); (walk_at "jl"))
  | fail "none")
local macro_rules | `(tactic| walk_at "jq") => `(tactic| first
  | assumption
  | ((with_reducible refine sq_lst ?_); (walk_at "jl"))
  | ((with_reducible refine sq_tup ?_); (walk_at "jl"))
  | ((with_reducible refine Ch.sqA (a := ?a0) (H := ?h0) ?c0 ?n0 ?e0); (case c0 => assumption); (case n0 => walk_at "jn"); (case e0 => walk_at "jq"))
  | ((with_reducible refine Ch.sqL (a := ?a0) (H := ?h0) ?c0 ?n0 ?e0); (case c0 => assumption); (case n0 => walk_at "jn"); (case e0 => walk_at "jq"))
  | ((with_reducible refine Ch.sqT (a := ?a0) (H := ?h0) ?c0 ?n0 ?e0); (case c0 => assumption); (case n0 => walk_at "jn"); (case e0 => walk_at "jq"))
  | ((with_reducible refine sqA_same (H := ?h0) ?c0 ?e0); (case c0 => first | assumption | (refine Same.upd_new ?_; assumption)); (case e0 => walk_at "jq"))
  | ((with_reducible refine SqA.l ?_); (walk_at "jq"))
  | ((with_reducible refine SqA.t ?_); (walk_at "jq"))
  | fail "none")
local macro_rules | `(tactic| walk_at "jf") => `(tactic| first
  | assumption
  | (refine Fd.upd ?_ ?_; (walk_at "jf"); (walk_at "jn"))
  | fail "none")
local macro_rules | `(tactic| walk_at "jh") => `(tactic| first
  | assumption
  | exact Ch.refl _
  | exact Ch.upd_self
  | (refine Ch.upd_l ?_ ?_; (walk_at "jh"); assumption)
  | (refine Ch.upd_a ?_; (walk_at "jh"))
  | (refine Ch.upd_n ?c0 ?c1; (case c1 => assumption); (case c0 => walk_at "jh"))
  | (refine Ch.trans (H1 := ?h1) ?c0 ?c1; (case c1 => assumption); (case c0 => walk_at "jh"))
  | fail "none")
local macro_rules | `(tactic| walk_at "jt") => `(tactic| first
  | assumption
  | exact TK.refl _
  | ((with_reducible refine TK.new' ?c0 ?c1); (case c1 => assumption); (case c0 => walk_at "jt"))
  | ((with_reducible refine TK.lst' (xs := ?xs1) ?c0 ?c1); (case c1 => walk_at "jl"); (case c0 => walk_at "jt"))
  | ((with_reducible refine TK.ch' (H1 := ?h1) (a := ?a1) (c := ?k1) ?c0 ?c1 ?c2); (case c1 => assumption); (case c2 => walk_at "jf"); (case c0 => walk_at "jt"))
  | fail "jt")
local macro_rules | `(tactic| walk_at "js") => `(tactic| with_reducible (first
  | refine i_seq ?_ | refine i_asg ?_ | refine i_gname ?_ | refine i_ifS ?_ | refine i_test ?_ | refine i_tB ?_ | refine i_ret ?_ | refine i_retN ?_ | refine i_drop ?_ | refine i_next ?_
  | refine i_op ?_ | refine i_un ?_ | refine i_c ?_ | refine i_rI0 ?_ | refine i_rU ?_ | refine i_add ?_ | refine i_sub ?_ | refine i_eqI ?_ | refine i_neI ?_ | refine i_eqS ?_ | refine i_neS ?_
  | refine i_bl ?_ | refine i_blQ ?_ | refine i_not ?_ | refine i_and ?_ | refine i_or ?_ | refine i_notV ?_ | refine i_andV ?_ | refine i_orV ?_ | refine i_if ?_ | refine i_chain ?_
  | refine i_gsub ?_ | refine i_cons ?_ | refine i_nil ?_ | refine i_cb ?_ | refine i_call ?_ | refine i_tup ?_ | refine i_lst ?_ | refine i_par ?_ | refine i_par' ?_ | refine i_par3 ?_ | refine i_par3' ?_
  | refine i_sl ?_ | refine i_npart ?_ | refine i_part ?_ | refine i_partI ?_ | refine i_bm ?_ | refine i_for ?_ | refine i_lc ?_ | refine i_yes ?_ | refine i_lrg ?_ | refine i_gcons ?_ | refine i_gnil ?_ | refine i_rng1 ?_ | refine i_rng2 ?_ | refine i_ilist ?_ | refine i_itup ?_
  | refine i_iteT ?_ | refine i_iteF ?_ | refine i_iteNT ?_ | refine i_iteNF ?_
  | fail "js"))
local macro_rules | `(tactic| walk_at "jv") => `(tactic| first
  | walk_at "js"
  | ((with_reducible refine i_var (v := ?v) ?e ?_); (case e => rfl))
  | ((with_reducible refine i_ixL (v := ?v) (xs := ?xs) ?e ?z ?_); (case e => walk_at "jq"); (case z => first | exact at0 | exact at1 | exact at2 | assumption))
  | ((with_reducible refine i_ixT (v := ?v) (xs := ?xs) ?e ?z ?_); (case e => walk_at "jq"); (case z => first | exact at0 | exact at1 | exact at2 | assumption))
  | ((with_reducible refine i_setL (xs := ?xs) (j := ?j) ?e ?z ?_); (case e => walk_at "jl"); (case z => first | rfl | assumption))
  | (with_reducible refine i_ite (fun _ => ?_) (fun _ => ?_))
  | (with_reducible refine i_iteN (fun _ => ?_) (fun _ => ?_))
  | ((with_reducible refine i_rI (i := ?i) (j := ?j) ?c ?_); (case c => walk_at "jc"))
  | (with_reducible refine i_int ?_)
  | (with_reducible refine i_intB ?_)
  | (with_reducible refine i_max ?_)
  | (with_reducible refine i_min ?_)
  | ((with_reducible refine i_tupL (ys := ?ys) ?e ?_); (case e => walk_at "jq"))
  | ((with_reducible refine i_tupT (ys := ?ys) ?e ?_); (case e => walk_at "jq"))
  | ((with_reducible refine i_lstL (ys := ?ys) ?e ?_); (case e => walk_at "jq"))
  | ((with_reducible refine i_lstT (ys := ?ys) ?e ?_); (case e => walk_at "jq"))
  | ((with_reducible refine i_lenL (ys := ?ys) ?e ?_); (case e => walk_at "jq"))
  | ((with_reducible refine i_lenT (ys := ?ys) ?e ?_); (case e => walk_at "jq"))
  | ((with_reducible refine i_all (bs := ?bs) ?e ?_); (case e => walk_at "jq"))
  | ((with_reducible refine i_slL (xs := ?xs) ?e ?_); (case e => walk_at "jq"))
  | ((with_reducible refine i_tyL (xs := ?xs) ?e ?_); (case e => walk_at "jq"))
  | ((with_reducible refine i_app (xs := ?xs) ?e ?z ?_); (case e => walk_at "jl"); (case z => walk_at "jz"))
  | ((with_reducible refine i_ixA (v := ?v) (xs := ?xs) ?e ?z ?_); (case e => walk_at "jq"); (case z => first | exact at0 | exact at1 | exact at2 | assumption))
  | ((with_reducible refine i_lenA (ys := ?ys) ?e ?_); (case e => walk_at "jq"))
  | ((with_reducible refine i_lstA (ys := ?ys) ?e ?_); (case e => walk_at "jq"))
  | ((with_reducible refine i_sum (ns := ?ns) ?e ?_); (case e => walk_at "jq"))
  | ((with_reducible refine i_rgK ?b ?_); (case b => first | assumption | (refine ⟨?_, ?_⟩ <;> omega)))
  | ((with_reducible refine i_rgK2 ?b ?_); (case b => first | assumption | (refine ⟨?_, ?_, ?_, ?_⟩ <;> omega)))
  | ((with_reducible refine i_ilK (xs := ?xs) ?e ?_); (case e => walk_at "jq"))
  | ((with_reducible refine i_itK (xs := ?xs) ?e ?_); (case e => walk_at "jq"))
  | ((with_reducible refine i_gtup (xs := ?xs) ?e ?z ?_); (case e => walk_at "jq"); (case z => rfl))
  | (with_reducible refine is_int _ ?_)
  | (with_reducible refine is_int_bool _ ?_)
  | (with_reducible refine is_str _ ?_)
  | ((with_reducible refine is_tup (xs := ?xs) ?e ?_); (case e => walk_at "jq"))
  | ((with_reducible refine i_wip ?z ?_); (case z => rfl))
  | ((with_reducible refine i_lcE (acc := ?acc) ?e ?z ?_); (case e => walk_at "jl"); (case z => walk_at "jz"))
  | ((with_reducible refine i_inS (ns := ?ns) ?e ?_); (case e => walk_at "jq"))
  | ((with_reducible refine i_al ?z ?_); (case z => first | (show _ ≤ sizeLine; decide) | walk_at "jz"))
  | (with_reducible refine i_nx ?_) | (with_reducible refine i_rt ?_) | (with_reducible refine i_bk ?_) | (with_reducible refine i_ct ?_)
  | fail "none")
section
open L2 PySem PySem.Spec PyProof.Rows
def topS (i : Nat) : Stmt := PySem.Challenge.pw_eachinturn_k44_told_rings_and_their_coun.main.body.getD i (.Pass ⟨0, 0, 0, 0⟩)
abbrev s__law_draw : Stmt := topS 36
theorem sc__law_draw : FnScope ["_law_feed_here", "_law_many", "_law_rest", "_law_got", "_law_stir"] ["_law_feed_here", "_law_many"] (defScope s__law_draw) := ⟨rfl, rfl, rfl, by decide +kernel, rfl, by decide +kernel, by decide +kernel⟩
abbrev s__law_feed : Stmt := topS 35
theorem sc__law_feed : FnScope ["_law_script", "_law_k", "_law_cell"] ["_law_script", "_law_k"] (defScope s__law_feed) := ⟨rfl, rfl, rfl, by decide +kernel, rfl, by decide +kernel, by decide +kernel⟩
abbrev s__law_one : Stmt := topS 37
theorem sc__law_one : FnScope ["_law_feed_here", "_law_things"] ["_law_feed_here", "_law_things"] (defScope s__law_one) := ⟨rfl, rfl, rfl, by decide +kernel, rfl, by decide +kernel, by decide +kernel⟩
abbrev s__law_mixed : Stmt := topS 38
theorem sc__law_mixed : FnScope ["_law_feed_here", "_law_things", "_law_pool", "_law_got", "_law_turn"] ["_law_feed_here", "_law_things"] (defScope s__law_mixed) := ⟨rfl, rfl, rfl, by decide +kernel, rfl, by decide +kernel, by decide +kernel⟩
abbrev s__law_names : Stmt := topS 39
theorem sc__law_names : FnScope ["_law_feed_here", "_law_many"] ["_law_feed_here", "_law_many"] (defScope s__law_names) := ⟨rfl, rfl, rfl, by decide +kernel, rfl, by decide +kernel, by decide +kernel⟩
section
variable {base : Heap} {P : Program} {w : World} {K : PySem.W.Frag} {mg : Str → Option Value}
theorem ok_draw (D : Dn K mg "_law_draw" s__law_draw ["_law_feed_here", "_law_many"]) (B : Bn mg) : Cl P w K mg base 1 "_law_draw" ["_law_feed_here", "_law_many"] spDraw := by
  refine D.cl sc__law_draw (fun vs H Q E h => ?_) (fun f cdv A outer s H vs Q E hr h => ?_)
  · obtain ⟨a, m, c, rfl, _⟩ := h
    rfl
  · obtain ⟨a, m, c, rfl, ⟨x, y, n, ha, hx, hy, hy2, hn, hnc⟩, hm0, hm1, hc, q⟩ := h
    refine ⟨_, (pss_cons (ps_if (pt_cmpR op_gt (pe_ix (k_ixL (K := K)) (pv 0) pe_int (fun _ _ => rfl)) pe_int (nomark _)) (pss_cons (ps_set (i := 2) sc__law_draw.nd rfl (by first | exact Or.inl rfl | exact Or.inr rfl) (pe_op op_fdiv (pe_ix (k_ixL (K := K)) (pv 0) pe_int (fun _ _ => rfl)) (pv 1)))
      (pss_cons (ps_set (i := 3) sc__law_draw.nd rfl (by first | exact Or.inl rfl | exact Or.inr rfl) (pe_op op_sub (pe_ix (k_ixL (K := K)) (pv 0) pe_int (fun _ _ => rfl)) (pe_op op_mul (pv 2) (pv 1))))
      (pss_cons (ps_asg (pv 2) (pg_sub (pv 0) pe_int set_list))
      (pss_one (ps_ret (pv 3)))))) pss_nil)
      (pss_cons (ps_asg (pe_op op_add (pe_ix (k_ixL (K := K)) (pv 0) pe_int (fun _ _ => rfl)) pe_int) (pg_sub (pv 0) pe_int set_list))
      (pss_cons (ps_set (i := 4) sc__law_draw.nd rfl (by first | exact Or.inl rfl | exact Or.inr rfl) (pe_op op_add (pe_ix (k_ixL (K := K)) (pv 0) pe_int (fun _ _ => rfl)) (pe_op op_mul pe_int (pe_ix (k_ixL (K := K)) (pv 0) pe_int (fun _ _ => rfl)))))
      (pss_cons (ps_set (i := 4) sc__law_draw.nd rfl (by first | exact Or.inl rfl | exact Or.inr rfl) (pe_op op_mod (pe_callTy (j_int) rfl B.int_ (by decide +kernel) (pa_cons (pe_op op_add (pe_op op_mulW (pe_op op_mulW (pv 4) (pv 4)) (pv 4)) (pe_op op_mul pe_int (pe_ix (k_ixL (K := K)) (pv 0) pe_int (fun _ _ => rfl)))) pa_nil)) (pe_op op_add (pe_op op_pow pe_int pe_int) pe_int)))
      (pss_cons (ps_set (i := 4) sc__law_draw.nd rfl (by first | exact Or.inl rfl | exact Or.inr rfl) (pe_op op_mod (pe_callTy (j_int) rfl B.int_ (by decide +kernel) (pa_cons (pe_op op_add (pe_op op_mulW (pv 4) (pv 4)) pe_int) pa_nil)) (pe_op op_add (pe_op op_pow pe_int pe_int) pe_int)))
      (pss_one (ps_ret (pe_op op_mod (pe_callTy (j_int) rfl B.int_ (by decide +kernel) (pa_cons (pe_op op_fdiv (pv 4) (pe_op op_pow pe_int pe_int)) pa_nil)) (pv 1))))))))), ?_⟩
    repeat' (walk_at "jv")
    · have e1 : 0 ≤ x / m := Int.ediv_nonneg hx (by omega)
      have e2 : x % m = x - x / m * m := by
        rw [Int.emod_def, Int.mul_comm]
      refine q _ _ (by rw [← e2]; exact Int.emod_nonneg _ (by omega)) (by rw [← e2]; exact Int.emod_lt_of_pos _ hm0) ⟨x / m, y, n, upd_same, e1, hy, hy2, hn, by omega⟩ Ch.upd_self
    · obtain ⟨c1, c2⟩ := cube_ok (s := y + 6700417 * (n + 1)) (by omega) (by omega)
      repeat' (walk_at "jv")
      generalize (y + 6700417 * (n + 1)) * (y + 6700417 * (n + 1)) * (y + 6700417 * (n + 1)) + 15485863 * (n + 1) = z at *
      have b1 : 0 ≤ z % (10 ^ Int.toNat 43 + 57) := Int.emod_nonneg _ (by decide)
      have b2 : z % (10 ^ Int.toNat 43 + 57) < 10 ^ Int.toNat 43 + 57 := Int.emod_lt_of_pos _ (by decide)
      rw [show (10 : Int) ^ Int.toNat 43 + 57 = 10 ^ 43 + 57 from rfl] at *
      generalize z % (10 ^ 43 + 57) = u at *
      have c3 : CMulW u u := (cube_ok b1 (Int.lt_trans b2 (by decide))).1
      repeat' (walk_at "jv")
      refine q _ _ (Int.emod_nonneg _ (by omega)) (Int.emod_lt_of_pos _ hm0) ⟨x, y, n + 1, upd_same, hx, hy, hy2, by omega, by omega⟩ Ch.upd_self
theorem ok_one (D : Dn K mg "_law_one" s__law_one ["_law_feed_here", "_law_things"]) (B : Bn mg) (C__law_draw : Cl P w K mg base 1 "_law_draw" ["_law_feed_here", "_law_many"] spDraw) : Cl P w K mg base 2 "_law_one" ["_law_feed_here", "_law_things"] (spOne K) := by
  refine D.cl sc__law_one (fun vs H Q E h => ?_) (fun f cdv A outer s H vs Q E hr h => ?_)
  · obtain ⟨a, p, c, xs, rfl, _⟩ := h
    rfl
  · obtain ⟨a, p, c, xs, rfl, hf, hp, hpa, h0, hz, hc, q⟩ := h
    refine ⟨_, (pss_one (ps_ret (pe_ix ix_any (pv 1) (pe_c C__law_draw hr (pa_cons (pv 0) (pa_cons (pe_callB (k_len (K := K)) rfl B.len_ (by decide +kernel) (pa_cons (pv 1) pa_nil)) pa_nil))) (fun _ _ => rfl)))), ?_⟩
    repeat' (walk_at "jv")
    refine ⟨a, xs.length, c, rfl, hf, by omega, by omega, hc, fun r H1 r0 r1 f1 k1 => ?_⟩
    obtain ⟨k, rfl⟩ := Int.eq_ofNat_of_zero_le r0
    have hk : k < xs.length := by omega
    refine i_ixA (k1.sqA hpa hp) (atI_nat (List.getElem?_eq_getElem hk)) ?_
    repeat' (walk_at "jv")
    exact q _ _ (List.getElem_mem hk) f1 k1
end
end
section
open L2 PySem PySem.Spec PyProof.Rows
def n99 : Str := "none99"
def spNamesN : Sp := fun vs H Q _ => ∃ (a : Addr) (m c : Int), vs = [.ref a, .int m] ∧ Fd H a c ∧ 0 ≤ m ∧ m ≤ 12 ∧ c < 10 ^ 14 ∧
  ∀ (q : Addr) (ns : List Str) (H' : Hp), IsNames ns ∧ n99 ∉ ns → (ns.length : Int) = m → H q = none → H' q = some (.lst (ns.map V.str)) → Fd H' a (c + 1000) → Ch a H H' → Q (.ref q) H'
def spWebN (K : PySem.W.Frag) : Sp := fun vs H Q _ => ∃ (a : Addr) (way : Str) (most c : Int), vs = [.ref a, .str way, .int most] ∧ Fd H a c ∧ 1 ≤ most ∧ most ≤ 8 ∧ c < 10 ^ 13 ∧
  ∀ (v : V) (ps : List Str) (rs : List (Str × Str)) (H' : Hp), n99 ∉ ps → IsWeb ps rs → (ps.length : Int) ≤ max 3 most → WF K H' v ps rs → Fd H' a (c + 10000) → Ch a H H' → Q v H'
def spWideN (K : PySem.W.Frag) : Sp := fun vs H Q _ => ∃ (a : Addr) (c : Int), vs = [.ref a] ∧ Fd H a c ∧ c < 10 ^ 13 ∧
  ∀ (v : V) (ps : List Str) (rs : List (Str × Str)) (H' : Hp), n99 ∉ ps → IsWeb ps rs → WF K H' v ps rs → Fd H' a (c + 10000) → Ch a H H' → Q v H'
def spSomeN (K : PySem.W.Frag) : Sp := fun vs H Q _ => ∃ (a : Addr) (c : Int), vs = [.ref a, .int 8] ∧ Fd H a c ∧ c < 10 ^ 12 ∧
  ∀ (v : V) (ps : List Str) (rs : List (Str × Str)) (H' : Hp), n99 ∉ ps → IsWeb ps rs → WF K H' v ps rs → Fd H' a (c + 20000) → Ch a H H' → Q v H'
section
variable {base : Heap} {P : Program} {w : World} {K : PySem.W.Frag} {mg : Str → Option Value}
theorem ok_mixed (D : Dn K mg "_law_mixed" s__law_mixed ["_law_feed_here", "_law_things"]) (B : Bn mg) (C__law_draw : Cl P w K mg base 1 "_law_draw" ["_law_feed_here", "_law_many"] spDraw) : Cl P w K mg base 2 "_law_mixed" ["_law_feed_here", "_law_things"] (spMixed K) := by
  refine D.cl sc__law_mixed (fun vs H Q E h => ?_) (fun f cdv A outer s H vs Q E hr h => ?_)
  · obtain ⟨a, p, c, xs, rfl, _⟩ := h
    rfl
  · obtain ⟨a, p, c, xs, rfl, hf, hp, hpa, hz, hc, q⟩ := h
    refine ⟨_, (pss_cons (ps_par (i := 2) (j := 3) rfl sc__law_mixed.nd rfl rfl (by decide) rfl rfl (pa_cons (pe_callTy (k_list (K := K)) rfl B.list_ (by decide +kernel) (pa_cons (pv 1) pa_nil)) (pa_cons (pe_lst pa_nil) pa_nil)) (by rfl))
      (pss_cons (ps_for PassesOwn.never rfl (pi_range1 rfl B.range_ (pa_cons (pe_callB (k_len (K := K)) rfl B.len_ (by decide +kernel) (pa_cons (pv 1) pa_nil)) pa_nil)) (pg_name (i := 4) sc__law_mixed.nd rfl (by first | exact Or.inl rfl | exact Or.inr rfl)) (pss_one (ps_expr (pe_bm PySem.F.plainAttrs_list PySem.F.slot_list_append PySem.F.type_list_append mt_append (pv 3) (pa_cons (pe_bm PySem.F.plainAttrs_list PySem.F.slot_list_pop PySem.F.type_list_pop mt_popAt (pv 2) (pa_cons (pe_c C__law_draw hr (pa_cons (pv 0) (pa_cons (pe_callB (k_len (K := K)) rfl B.len_ (by decide +kernel) (pa_cons (pv 2) pa_nil)) pa_nil))) pa_nil)) pa_nil)))))
      (pss_one (ps_ret (pv 3))))), ?_⟩
    repeat' (walk_at "jv")
    intro L nL
    have nLa := hf.ne nL
    repeat' (walk_at "jv")
    intro G nG
    have nGL : G ≠ L := by walk_at "jn"
    have nG0 : H G = none := Ch.free (a := a) (by walk_at "jh") (by walk_at "jn") nG
    have nGa := hf.ne nG0
    repeat' (walk_at "jv")
    refine f_range (fun i σ H' => ∃ y4 pool gs, σ = [some (.ref a), some (.ref p), some (.ref L), some (.ref G), y4] ∧ H' L = some (.lst pool) ∧ H' G = some (.lst gs) ∧ (gs ++ pool).Perm xs ∧ gs.length = i ∧ Fd H' a (c + i) ∧ Ch a H H') ⟨none, xs, [], rfl, ?_, ?_, List.Perm.refl _, rfl, ?_, ?_⟩ (fun i σ H' hi h => ?_) (fun σ H' h => ?_)
    · walk_at "jl"
    · walk_at "jl"
    · exact Fd.mono (c := c) (by walk_at "jf") (by omega)
    · walk_at "jh"
    · obtain ⟨y4, pool, gs, rfl, h1, h2, h3, h4, h5, h6⟩ := h
      have hl := h3.length_eq
      rw [List.length_append] at hl
      repeat' (walk_at "jv")
      refine ⟨a, pool.length, c + i, rfl, h5, by omega, by omega, by omega, fun r H1 r0 r1 f1 k1 => ?_⟩
      obtain ⟨k, rfl⟩ := Int.eq_ofNat_of_zero_le r0
      have hk : k < pool.length := by omega
      repeat' (walk_at "jv")
      refine i_popAt (xs := pool) (by walk_at "jl") (by omega) (List.getElem?_eq_getElem hk) ?_
      repeat' (walk_at "jv")
      refine ⟨_, _, _, rfl, by walk_at "jl", by walk_at "jl", ?_, ?_, ?_, by walk_at "jh"⟩
      · rw [List.append_assoc]
        exact (List.Perm.append_left gs (perm_erase pool k hk)).trans h3
      · rw [List.length_append, h4]
        rfl
      · exact Fd.mono (c := c + i + 1) (by walk_at "jf") (by omega)
    · obtain ⟨y4, pool, gs, rfl, h1, h2, h3, h4, h5, h6⟩ := h
      repeat' (walk_at "jv")
      have hl := h3.length_eq
      rw [List.length_append] at hl
      have e0 : pool = [] := List.eq_nil_of_length_eq_zero (by omega)
      rw [e0, List.append_nil] at h3
      exact q G gs H' h3 nG0 h2 (h5.mono (by omega)) h6
def theNames : List Str := ["a", "b10", "b", "zz", "a1", "q1w2e3r4", "b9", "x", "m0", "road", "k", "a1b"]
theorem the_names99 : n99 ∉ theNames := by decide +kernel
theorem the_names : IsNames theNames := ⟨by decide +kernel, by decide +kernel⟩
theorem ok_names (D : Dn K mg "_law_names" s__law_names ["_law_feed_here", "_law_many"]) (B : Bn mg) (C__law_mixed : Cl P w K mg base 2 "_law_mixed" ["_law_feed_here", "_law_things"] (spMixed K)) : Cl P w K mg base 3 "_law_names" ["_law_feed_here", "_law_many"] spNamesN := by
  refine D.cl sc__law_names (fun vs H Q E h => ?_) (fun f cdv A outer s H vs Q E hr h => ?_)
  · obtain ⟨a, m, c, rfl, _⟩ := h
    rfl
  · obtain ⟨a, m, c, rfl, hf, hm0, hm1, hc, q⟩ := h
    refine ⟨_, (pss_one (ps_ret (pe_slice (k_slL (K := K)) (pe_c C__law_mixed hr (pa_cons (pv 0) (pa_cons (pe_lst (pa_cons pe_str (pa_cons pe_str (pa_cons pe_str (pa_cons pe_str (pa_cons pe_str (pa_cons pe_str (pa_cons pe_str (pa_cons pe_str (pa_cons pe_str (pa_cons pe_str (pa_cons pe_str (pa_cons pe_str pa_nil))))))))))))) pa_nil))) po_none (po_some (pv 1))))), ?_⟩
    repeat' (walk_at "jv")
    intro L nL
    have nLa := hf.ne nL
    repeat' (walk_at "jv")
    refine ⟨a, L, c, theNames.map V.str, rfl, by walk_at "jf", SqA.l (sq_lst upd_same), nLa, by decide, hc, fun G ys H1 pm nG eG f1 k1 => ?_⟩
    repeat' (walk_at "jv")
    intro R nR
    repeat' (walk_at "jv")
    obtain ⟨ns, rfl⟩ : ∃ ns : List Str, ys = ns.map V.str := by
      refine ⟨ys.map fun v => match v with | .str z => z | _ => Str.empty, ?_⟩
      rw [List.map_map]
      conv => lhs; rw [← List.map_id ys]
      refine List.map_congr_left fun v hv => ?_
      have h1 := pm.mem_iff.mp hv
      obtain ⟨z, _, rfl⟩ := List.mem_map.mp h1
      rfl
    have pm2 : ns.Perm theNames := by
      have h2 := pm.map fun v => match v with | .str z => z | _ => Str.empty
      rw [List.map_map, List.map_map] at h2
      have e : ((fun v => match v with | V.str z => z | _ => Str.empty) ∘ V.str) = id := rfl
      rw [e, List.map_id, List.map_id] at h2
      exact h2
    obtain ⟨k, rfl⟩ := Int.eq_ofNat_of_zero_le hm0
    have e1 : cutV (ns.map V.str) none (some (k : Int)) = (ns.take k).map V.str := by
      unfold cutV
      rw [HT.sIx_none, HT.sIx_nat, List.drop_zero, Nat.sub_zero, List.length_map, List.map_take]
      have hl := pm2.length_eq
      rw [Nat.min_eq_left (by rw [hl]; show k ≤ 12; omega)]
    refine q R (ns.take k) _ ⟨(the_names.perm pm2).take k, fun h => the_names99 (pm2.mem_iff.mp (List.mem_of_mem_take h))⟩ ?_ ?_ ?_ ?_ ?_
    · have hl := pm2.length_eq
      rw [List.length_take, hl]
      show ((min k 12 : Nat) : Int) = k
      omega
    · have n2 : R ≠ a := by walk_at "jn"
      have n3 : upd H L (.lst (theNames.map V.str)) R = none := k1.free n2 nR
      have n4 : R ≠ L := fun z => by rw [z, upd_same] at n3; cases n3
      rw [upd_ne n4] at n3
      exact n3
    · rw [← e1]
      exact upd_same
    · exact f1.upd (Ne.symm (f1.ne nR))
    · exact ((Ch.upd_new nL).trans k1).trans (Ch.upd_new nR)
end
end
section
open L2 PySem PySem.Spec PyProof.Rows
abbrev s__law_web : Stmt := topS 40
theorem sc__law_web : FnScope ["_law_feed_here", "_law_way", "_law_most", "_law_many", "_law_pairs", "_law_shape", "_law_at", "_law_back", "_law_turn", "_law_one_here", "_law_other", "_law_pair", "_law_names_here", "_law_roads"] ["_law_feed_here", "_law_way", "_law_most"] (defScope s__law_web) := ⟨rfl, rfl, rfl, by decide +kernel, rfl, by decide +kernel, by decide +kernel⟩
section
variable {base : Heap} {P : Program} {w : World} {K : PySem.W.Frag} {mg : Str → Option Value}
theorem ok_web (D : Dn K mg "_law_web" s__law_web ["_law_feed_here", "_law_way", "_law_most"]) (B : Bn mg) (C__law_draw : Cl P w K mg base 1 "_law_draw" ["_law_feed_here", "_law_many"] spDraw)
    (C__law_mixed : Cl P w K mg base 2 "_law_mixed" ["_law_feed_here", "_law_things"] (spMixed K)) (C__law_names : Cl P w K mg base 3 "_law_names" ["_law_feed_here", "_law_many"] spNamesN) :
    Cl P w K mg base 4 "_law_web" ["_law_feed_here", "_law_way", "_law_most"] (spWebN K) := by
  refine D.cl sc__law_web (fun vs H Q E h => ?_) (fun f cdv A outer s H vs Q E hr h => ?_)
  · obtain ⟨a, way, most, c, rfl, _⟩ := h
    rfl
  · obtain ⟨a, way, most, c, rfl, hf, hm1, hm8, hc, q⟩ := h
    refine ⟨_, (pss_cons (ps_set (i := 3) sc__law_web.nd rfl (by first | exact Or.inl rfl | exact Or.inr rfl) (pe_ifExp (pt_cmpR op_eq (pv 1) pe_str (nomark _)) (pe_callB (j_max rfl) rfl B.max_ (by decide +kernel) (pa_cons pe_int (pa_cons (pe_op op_add pe_int (pe_c C__law_draw hr (pa_cons (pv 0) (pa_cons (pv 2) pa_nil)))) pa_nil))) (pe_op op_add pe_int (pe_c C__law_draw hr (pa_cons (pv 0) (pa_cons (pv 2) pa_nil))))))
      (pss_cons (ps_par (i := 4) (j := 5) rfl sc__law_web.nd rfl rfl (by decide) rfl rfl (pa_cons (pe_lst pa_nil) (pa_cons (pe_c C__law_draw hr (pa_cons (pv 0) (pa_cons pe_int pa_nil))) pa_nil)) (by rfl))
      (pss_cons (ps_for PassesOwn.never rfl (pi_range2 rfl B.range_ (pa_cons pe_int (pa_cons (pv 3) pa_nil))) (pg_name (i := 6) sc__law_web.nd rfl (by first | exact Or.inl rfl | exact Or.inr rfl)) (pss_cons (ps_set (i := 7) sc__law_web.nd rfl (by first | exact Or.inl rfl | exact Or.inr rfl) (pe_ifExp (PW.pt (pw_or (pt_cmpR op_eq (pv 5) pe_int (nomark _)) (pw_or1 (pt_cmpR op_eq (pv 1) pe_str (nomark _))))) (pe_op op_sub (pv 6) pe_int) (pe_ifExp (pt_cmpR op_eq (pv 5) pe_int (nomark _)) pe_int (pe_c C__law_draw hr (pa_cons (pv 0) (pa_cons (pv 6) pa_nil))))))
      (pss_one (ps_if (PW.pt (pw_or (pt_cmpR op_ne (pv 1) pe_str (nomark _)) (pw_or1 (pt_cmpR op_gt (pe_c C__law_draw hr (pa_cons (pv 0) (pa_cons pe_int pa_nil))) pe_int (nomark _))))) (pss_one (ps_expr (pe_bm PySem.F.plainAttrs_list PySem.F.slot_list_append PySem.F.type_list_append mt_append (pv 4) (pa_cons (pe_tup (pa_cons (pv 7) (pa_cons (pv 6) pa_nil))) pa_nil)))) pss_nil))))
      (pss_cons (ps_if (pt_cmpR op_eq (pv 1) pe_str (nomark _)) (pss_one (ps_expr (pe_bm PySem.F.plainAttrs_list PySem.F.slot_list_append PySem.F.type_list_append mt_append (pv 4) (pa_cons (pe_tup (pa_cons pe_int (pa_cons (pe_op op_sub (pv 3) pe_int) pa_nil))) pa_nil)))) pss_nil)
      (pss_cons (ps_for PassesOwn.never rfl (pi_range1 rfl B.range_ (pa_cons (pe_ifExp (PW.pt (pw_and (pt_cmpR (k_inS (K := K)) (pv 1) (pe_tup (pa_cons pe_str (pa_cons pe_str pa_nil))) (by rfl)) (pw_and1 (pt_cmpR op_gt (pv 3) pe_int (nomark _))))) (pe_c C__law_draw hr (pa_cons (pv 0) (pa_cons pe_int pa_nil))) pe_int) pa_nil)) (pg_name (i := 8) sc__law_web.nd rfl (by first | exact Or.inl rfl | exact Or.inr rfl)) (pss_cons (ps_set (i := 9) sc__law_web.nd rfl (by first | exact Or.inl rfl | exact Or.inr rfl) (pe_c C__law_draw hr (pa_cons (pv 0) (pa_cons (pv 3) pa_nil))))
      (pss_cons (ps_set (i := 10) sc__law_web.nd rfl (by first | exact Or.inl rfl | exact Or.inr rfl) (pe_op op_mod (pe_callTy (j_int) rfl B.int_ (by decide +kernel) (pa_cons (pe_op op_add (pe_op op_add (pv 9) pe_int) (pe_c C__law_draw hr (pa_cons (pv 0) (pa_cons (pe_op op_sub (pv 3) pe_int) pa_nil)))) pa_nil)) (pv 3)))
      (pss_cons (ps_set (i := 11) sc__law_web.nd rfl (by first | exact Or.inl rfl | exact Or.inr rfl) (pe_tup (pa_cons (pe_callB (j_min rfl) rfl B.min_ (by decide +kernel) (pa_cons (pv 9) (pa_cons (pv 10) pa_nil))) (pa_cons (pe_callB (j_max rfl) rfl B.max_ (by decide +kernel) (pa_cons (pv 9) (pa_cons (pv 10) pa_nil))) pa_nil))))
      (pss_one (ps_if (pt_cmpR (o_notInQ hr.units) (pv 11) (pv 4) (by rfl)) (pss_one (ps_expr (pe_bm PySem.F.plainAttrs_list PySem.F.slot_list_append PySem.F.type_list_append mt_append (pv 4) (pa_cons (pv 11) pa_nil)))) pss_nil))))))
      (pss_cons (ps_set (i := 12) sc__law_web.nd rfl (by first | exact Or.inl rfl | exact Or.inr rfl) (pe_c C__law_names hr (pa_cons (pv 0) (pa_cons (pv 3) pa_nil))))
      (pss_cons (ps_set (i := 13) sc__law_web.nd rfl (by first | exact Or.inl rfl | exact Or.inr rfl) (pe_lst pa_nil))
      (pss_cons (ps_for PassesOwn.never rfl (kpi_list (K := K) (pe_c C__law_mixed hr (pa_cons (pv 0) (pa_cons (pv 4) pa_nil)))) (kpg_tup (K := K) (n := 2) rfl (pgs_cons (pg_name (i := 9) sc__law_web.nd rfl (by first | exact Or.inl rfl | exact Or.inr rfl)) (pgs_cons (pg_name (i := 10) sc__law_web.nd rfl (by first | exact Or.inl rfl | exact Or.inr rfl)) pgs_nil))) (pss_one (ps_expr (pe_bm PySem.F.plainAttrs_list PySem.F.slot_list_append PySem.F.type_list_append mt_append (pv 13) (pa_cons (pe_ifExp (pt_cmpR op_eq (pe_c C__law_draw hr (pa_cons (pv 0) (pa_cons pe_int pa_nil))) pe_int (nomark _)) (pe_tup (pa_cons (pe_ix (k_ixL (K := K)) (pv 12) (pv 9) (fun _ _ => rfl)) (pa_cons (pe_ix (k_ixL (K := K)) (pv 12) (pv 10) (fun _ _ => rfl)) pa_nil))) (pe_tup (pa_cons (pe_ix (k_ixL (K := K)) (pv 12) (pv 10) (fun _ _ => rfl)) (pa_cons (pe_ix (k_ixL (K := K)) (pv 12) (pv 9) (fun _ _ => rfl)) pa_nil)))) pa_nil)))))
      (pss_one (ps_ret (pe_tup (pa_cons (pe_callTy (k_tupleF (K := K)) rfl B.tuple_ (by decide +kernel) (pa_cons (pe_c C__law_mixed hr (pa_cons (pv 0) (pa_cons (pv 12) pa_nil))) pa_nil)) (pa_cons (pe_callTy (k_tuple (K := K)) rfl B.tuple_ (by decide +kernel) (pa_cons (pv 13) pa_nil)) pa_nil))))))))))))), ?_⟩
    refine i_seq ?_
    refine i_asg ?_
    refine i_cut (fun v H' => ∃ n : Nat, v = .int n ∧ 1 ≤ n ∧ (n : Int) ≤ max 3 most ∧ (way = "ring" → 3 ≤ n) ∧ Fd H' a (c + 1) ∧ Ch a H H') (fun Q1 hQ1 => ?_) ?_
    · repeat' (walk_at "jv")
      · refine ⟨a, most, c, rfl, hf, by omega, by omega, by omega, fun r H1 r0 r1 f1 k1 => ?_⟩
        repeat' (walk_at "jv")
        obtain ⟨k, rfl⟩ := Int.eq_ofNat_of_zero_le r0
        exact hQ1 _ _ ⟨max 3 (1 + k), congrArg V.int (by omega), by omega, by omega, fun _ => by omega, f1, k1⟩
      · rename_i hw
        refine ⟨a, most, c, rfl, hf, by omega, by omega, by omega, fun r H1 r0 r1 f1 k1 => ?_⟩
        repeat' (walk_at "jv")
        obtain ⟨k, rfl⟩ := Int.eq_ofNat_of_zero_le r0
        exact hQ1 _ _ ⟨1 + k, congrArg V.int (by omega), by omega, by omega, fun z => absurd z hw, f1, k1⟩
    rintro v H1 ⟨n, rfl, n1, n3, nr, f1, k1⟩
    repeat' (walk_at "jv")
    intro L nL
    have nLa := f1.ne nL
    have nL0 : H L = none := k1.free nLa nL
    repeat' (walk_at "jv")
    refine ⟨a, 3, c + 1, rfl, by walk_at "jf", by omega, by omega, by omega, fun r H2 r0 r1 f2 k2 => ?_⟩
    have eL : H2 L = some (.lst []) := by walk_at "jl"
    have k20 : Ch a H H2 := by walk_at "jh"
    repeat' (walk_at "jv")
    -- the tree's roads
    let PL := fun (pl : List (Nat × Nat)) (t : Nat) => pl.Nodup ∧ (∀ p ∈ pl, p.1 < p.2 ∧ p.2 ≤ t ∧ (way = "ring" → p.2 = p.1 + 1)) ∧ pl.length ≤ t
    have grow : ∀ (pl : List (Nat × Nat)) (i b : Nat), PL pl i → b ≤ i → (way = "ring" → b = i) → PL (pl ++ [(b, i + 1)]) (i + 1) := by
      rintro pl i b ⟨p1, p2, p3⟩ b1 b2
      refine ⟨List.nodup_append.mpr ⟨p1, by simp, fun x hx y hy => ?_⟩, fun p hp => ?_, ?_⟩
      · rcases List.mem_singleton.mp hy with rfl
        intro z
        have := (p2 x hx).2.1
        rw [z] at this
        simp at this
        omega
      · rcases List.mem_append.mp hp with hp | hp
        · have := p2 p hp
          exact ⟨this.1, by omega, this.2.2⟩
        · rcases List.mem_singleton.mp hp with rfl
          exact ⟨by show b < i + 1; omega, Nat.le_refl _, fun z => by show i + 1 = b + 1; rw [b2 z]⟩
      · rw [List.length_append]
        show pl.length + 1 ≤ i + 1
        omega
    have stay : ∀ (pl : List (Nat × Nat)) (i : Nat), PL pl i → PL pl (i + 1) := by
      rintro pl i ⟨p1, p2, p3⟩
      exact ⟨p1, fun p hp => by have := p2 p hp; exact ⟨this.1, by omega, this.2.2⟩, by omega⟩
    refine f_range (fun i σ H' => ∃ y6 y7 pl, σ = [some (.ref a), some (.str way), some (.int most), some (.int n), some (.ref L), some (.int r), y6, y7, none, none, none, none, none, none] ∧ LsD K H' L (pl.map pairD) ∧ PL pl i ∧ Fd H' a (c + 2 + 2 * i) ∧ Ch a H H')
      ⟨none, none, [], rfl, LsD.nil eL, ⟨List.nodup_nil, fun _ z => absurd z List.not_mem_nil, Nat.le_refl _⟩, by simpa using f2.mono (by omega), k20⟩ (fun i σ H3 hi h => ?_) (fun σ H3 h => ?_)
    · obtain ⟨y6, y7, pl, rfl, l3, hp, f3, k3⟩ := h
      refine i_gname ?_
      refine i_seq ?_
      refine i_asg ?_
      refine i_cut (fun v H' => ∃ b : Nat, v = .int b ∧ b ≤ i ∧ (way = "ring" → b = i) ∧ Fd H' a (c + 2 + 2 * i + 1) ∧ Ch a H3 H') (fun Q1 hQ1 => ?_) ?_
      · repeat' (walk_at "jv")
        · exact hQ1 _ _ ⟨i, congrArg V.int (by omega), Nat.le_refl _, fun _ => rfl, f3.mono (by omega), Ch.refl _⟩
        · exact hQ1 _ _ ⟨i, congrArg V.int (by omega), Nat.le_refl _, fun _ => rfl, f3.mono (by omega), Ch.refl _⟩
        · rename_i hw _
          exact hQ1 _ _ ⟨0, rfl, Nat.zero_le _, fun z => absurd z hw, f3.mono (by omega), Ch.refl _⟩
        · rename_i hw _
          refine ⟨a, _, _, rfl, f3, by omega, by omega, by omega, fun r1 H4 s0 s1 f4 k4 => ?_⟩
          repeat' (walk_at "jv")
          obtain ⟨k, rfl⟩ := Int.eq_ofNat_of_zero_le s0
          exact hQ1 _ _ ⟨k, rfl, by omega, fun z => absurd z hw, f4, k4⟩
      rintro v H4 ⟨b, rfl, b1, b2, f4, k4⟩
      obtain ⟨vs, e4, d4, t4⟩ := l3.ch k4 f3 nLa
      have hlen : vs.length = pl.length := by rw [DpAll.len d4, List.length_map]
      have hpl := hp.2.2
      have e1 : (1 + (i : Int)) = ((i + 1 : Nat) : Int) := by omega
      rw [e1]
      repeat' (walk_at "jv")
      · intro p np
        repeat' (walk_at "jv")
        exact ⟨_, _, pl ++ [(b, i + 1)], rfl, by rw [List.map_append]; exact LsD.push2 e4 d4 t4 np (.int b) (.int (i + 1 : Nat)) rfl rfl, grow pl i b hp b1 b2, Fd.mono (c := c + 2 + 2 * i + 1) (by walk_at "jf") (by omega), by walk_at "jh"⟩
      · refine ⟨a, 5, _, rfl, f4, by omega, by omega, by omega, fun r1 H5 s0 s1 f5 k5 => ?_⟩
        obtain ⟨us, e5, d5, t5⟩ := LsD.ch ⟨vs, e4, d4, t4⟩ k5 f4 nLa
        have hlen5 : us.length = pl.length := by rw [DpAll.len d5, List.length_map]
        repeat' (walk_at "jv")
        · intro p np
          repeat' (walk_at "jv")
          exact ⟨_, _, pl ++ [(b, i + 1)], rfl, by rw [List.map_append]; exact LsD.push2 e5 d5 t5 np (.int b) (.int (i + 1 : Nat)) rfl rfl, grow pl i b hp b1 b2, Fd.mono (c := c + 2 + 2 * i + 1 + 1) (by walk_at "jf") (by omega), by walk_at "jh"⟩
        · exact ⟨_, _, pl, rfl, ⟨us, e5, d5, t5⟩, stay pl i hp, f5.mono (by omega), by walk_at "jh"⟩
    · obtain ⟨y6, y7, pl, rfl, l3, hp, f3, k3⟩ := h
      have hn1 : (((n : Int) - 1).toNat : Int) = n - 1 := by omega
      rw [hn1] at f3
      let PW := fun (pl : List (Nat × Nat)) => pl.Nodup ∧ (∀ p ∈ pl, p.1 < p.2 ∧ p.2 < n)
      refine i_seq ?_
      refine i_cutS (fun σ H' => ∃ ql, σ = [some (.ref a), some (.str way), some (.int most), some (.int n), some (.ref L), some (.int r), y6, y7, none, none, none, none, none, none] ∧ LsD K H' L (ql.map pairD) ∧ PW ql ∧ ql.length ≤ n ∧ Fd H' a (c + 20) ∧ Ch a H H') (fun N hN => ?_) ?_
      · obtain ⟨vs, e3, d3, t3⟩ := l3
        repeat' (walk_at "jv")
        · rename_i hw
          intro p np
          have hlen : vs.length = pl.length := by rw [DpAll.len d3, List.length_map]
          have hpl := hp.2.2
          have hn3 := nr hw
          have e1 : (n : Int) - 1 = ((n - 1 : Nat) : Int) := by omega
          rw [e1]
          repeat' (walk_at "jv")
          refine hN _ _ ⟨pl ++ [(0, n - 1)], rfl, by rw [List.map_append]; exact LsD.push2 e3 d3 t3 np (.int 0) (.int (n - 1 : Nat)) rfl rfl, ⟨?_, ?_⟩, ?_, Fd.mono (c := c + 2 + 2 * (n - 1)) (by walk_at "jf") (by omega), by walk_at "jh"⟩
          · refine List.nodup_append.mpr ⟨hp.1, by simp, fun x hx y hy => ?_⟩
            rcases List.mem_singleton.mp hy with rfl
            intro z
            have h9 := (hp.2.1 x hx).2.2 hw
            rw [z] at h9
            simp at h9
            omega
          · intro p hp'
            rcases List.mem_append.mp hp' with hp' | hp'
            · have := hp.2.1 p hp'
              exact ⟨this.1, by omega⟩
            · rcases List.mem_singleton.mp hp' with rfl
              exact ⟨by show 0 < n - 1; omega, by show n - 1 < n; omega⟩
          · rw [List.length_append]
            show pl.length + 1 ≤ n
            omega
        · exact hN _ _ ⟨pl, rfl, ⟨vs, e3, d3, t3⟩, ⟨hp.1, fun p hp' => ⟨(hp.2.1 p hp').1, by have := (hp.2.1 p hp').2.1; omega⟩⟩, by have := hp.2.2; omega, f3.mono (by omega), k3⟩
      rintro σ H4 ⟨ql, rfl, l4, hq, hq2, f4, k4⟩
      clear hp l3 f3 k3 pl
      refine i_seq ?_
      refine i_for ?_
      refine i_rng1 ?_
      refine i_cons ?_
      refine i_cut (fun v H' => ∃ t : Nat, v = .int t ∧ t ≤ 4 ∧ (0 < t → 2 < n) ∧ Fd H' a (c + 30) ∧ Ch a H H' ∧ LsD K H' L (ql.map pairD)) (fun Q1 hQ1 => ?_) ?_
      · refine i_if ?_
        repeat' (walk_at "js")
        repeat' (walk_at "jv")
        intro p np
        repeat' (walk_at "jv")
        refine i_inS (ns := ["whole", "any"]) (SqA.t (sq_tup upd_same)) ?_
        have l5 : LsD K (upd H4 p (.tup [.str "whole", .str "any"])) L (ql.map pairD) := l4.new np
        repeat' (walk_at "jv")
        · refine ⟨a, 5, c + 20, rfl, by walk_at "jf", by omega, by omega, by omega, fun r1 H5 s0 s1 f5 k5 => ?_⟩
          repeat' (walk_at "jv")
          obtain ⟨k, rfl⟩ := Int.eq_ofNat_of_zero_le s0
          exact hQ1 _ _ ⟨k, rfl, by omega, fun _ => by omega, f5.mono (by omega), by walk_at "jh", l5.ch (c := c + 20) k5 (by walk_at "jf") nLa⟩
        · exact hQ1 _ _ ⟨0, rfl, by omega, fun z => absurd z (Nat.lt_irrefl 0), Fd.mono (c := c + 20) (by walk_at "jf") (by omega), by walk_at "jh", l5⟩
        · exact hQ1 _ _ ⟨0, rfl, by omega, fun z => absurd z (Nat.lt_irrefl 0), Fd.mono (c := c + 20) (by walk_at "jf") (by omega), by walk_at "jh", l5⟩
      rintro v H5 ⟨t, rfl, t4, tn, f5, k5, l5⟩
      repeat' (walk_at "jv")
      refine f_range (fun i σ H' => ∃ y8 y9 y10 y11 pl, σ = [some (.ref a), some (.str way), some (.int most), some (.int n), some (.ref L), some (.int r), y6, y7, y8, y9, y10, y11, none, none] ∧ LsD K H' L (pl.map pairD) ∧ PW pl ∧ pl.length ≤ n + i ∧ Fd H' a (c + 30 + 2 * i) ∧ Ch a H H')
        ⟨none, none, none, none, ql, rfl, l5, hq, hq2, f5.mono (by omega), k5⟩ (fun i σ H6 hi h => ?_) (fun σ H6 h => ?_)
      · obtain ⟨y8, y9, y10, y11, pl, rfl, l6, hp, hp2, f6, k6⟩ := h
        have hn2 := tn (by omega)
        repeat' (walk_at "jv")
        refine ⟨a, n, _, rfl, f6, by omega, by omega, by omega, fun x H7 s0 s1 f7 k7 => ?_⟩
        repeat' (walk_at "jv")
        refine ⟨a, (n : Int) - 1, _, rfl, f7, by omega, by omega, by omega, fun y H8 u0 u1 f8 k8 => ?_⟩
        obtain ⟨x, rfl⟩ := Int.eq_ofNat_of_zero_le s0
        obtain ⟨y, rfl⟩ := Int.eq_ofNat_of_zero_le u0
        repeat' (walk_at "jv")
        have eo : ∃ o : Nat, ((x : Int) + 1 + y) % n = o ∧ o < n ∧ o ≠ x := by
          by_cases hz : x + 1 + y < n
          · exact ⟨x + 1 + y, by rw [Int.emod_eq_of_lt (by omega) (by omega)]; omega, hz, by omega⟩
          · refine ⟨x + 1 + y - n, ?_, by omega, by omega⟩
            rw [← Int.sub_emod_right, Int.emod_eq_of_lt (by omega) (by omega)]
            omega
        obtain ⟨o, eo, o1, o2⟩ := eo
        rw [eo]
        repeat' (walk_at "jv")
        intro p np
        obtain ⟨vs, e8, d8, t8⟩ := ((l6.ch k7 f6 nLa).ch k8 f7 nLa).new (o := .tup [.int (min (x : Int) o), .int (max (x : Int) o)]) np
        have hlen : vs.length = pl.length := by rw [DpAll.len d8, List.length_map]
        have em : (min (x : Int) o) = ((min x o : Nat) : Int) := by omega
        have eM : (max (x : Int) o) = ((max x o : Nat) : Int) := by omega
        have dp : Dp K (upd H8 p (.tup [.int (min (x : Int) o), .int (max (x : Int) o)])) (.ref p) (pairD (min x o, max x o)) := by
          rw [em, eM]
          exact .tup (xs := [.int ((min x o : Nat) : Int), .int ((max x o : Nat) : Int)]) (.inl (.inl upd_same)) (.cons (.int _) (.cons (.int _) .nil))
        repeat' (walk_at "jv")
        refine ⟨pairD (min x o, max x o), pl.map pairD, dp, .inl (.lst (sq_lst e8) d8), rfl, pairs_lay pl, by show 0 + 1 ≤ 60; decide, ?_⟩
        rw [if_pos rfl, pairs_any]
        repeat' (walk_at "jv")
        · rename_i hin
          refine ⟨_, _, _, _, pl ++ [(min x o, max x o)], rfl, by rw [List.map_append]; exact LsD.push e8 d8 t8 dp rfl, ⟨?_, ?_⟩, by rw [List.length_append]; show pl.length + 1 ≤ _; omega, Fd.mono (c := c + 30 + 2 * i + 1 + 1) (by walk_at "jf") (by omega), by walk_at "jh"⟩
          · refine List.nodup_append.mpr ⟨hp.1, by simp, fun z hz w hw => ?_⟩
            rcases List.mem_singleton.mp hw with rfl
            intro e
            rw [e] at hz
            exact hin hz
          · intro q hq'
            rcases List.mem_append.mp hq' with hq' | hq'
            · exact hp.2 q hq'
            · rcases List.mem_singleton.mp hq' with rfl
              exact ⟨by show min x o < max x o; omega, by show max x o < n; omega⟩
        · exact ⟨_, _, _, _, pl, rfl, ⟨vs, e8, d8, t8⟩, hp, by omega, Fd.mono (c := c + 30 + 2 * i + 1 + 1) (by walk_at "jf") (by omega), by walk_at "jh"⟩
      · obtain ⟨y8, y9, y10, y11, pl, rfl, l6, hp, hp2, f6, k6⟩ := h
        repeat' (walk_at "jv")
        have nt : (((t : Int).toNat : Nat) : Int) = t := by omega
        rw [nt] at f6
        refine ⟨a, n, _, rfl, f6, by omega, by omega, by omega, fun G ns H7 hnn hl nG eG f7 k7 => ?_⟩
        obtain ⟨hns, hn99⟩ := hnn
        have nGa := f6.ne nG
        have l7 := l6.ch k7 f6 nLa
        have nG0 : H G = none := k6.free nGa nG
        have k70 : Ch a H H7 := k6.trans k7
        repeat' (walk_at "jv")
        intro R nR
        have nRa : R ≠ a := f7.ne nR
        have nR0 : H R = none := k70.free nRa nR
        have nRG : R ≠ G := (ne_of_none eG nR).symm
        have nRL : R ≠ L := by
          obtain ⟨vs, e, _⟩ := l7
          exact (ne_of_none e nR).symm
        obtain ⟨vs, e8, d8, t8⟩ := l7.new (o := .lst []) nR
        have hlen : vs.length = pl.length := by rw [DpAll.len d8, List.length_map]
        repeat' (walk_at "jv")
        refine ⟨a, L, c + 30 + 2 * t + 1000, vs, rfl, by walk_at "jf", SqA.l (sq_lst e8), nLa, by omega, by omega, fun q9 ys H9 pm n9 e9 f9 k9 => ?_⟩
        obtain ⟨es, pe, dy⟩ := DpAll.perm pm d8
        obtain ⟨pl', pp, rfl⟩ := perm_map_inv pe rfl
        have n9a : q9 ≠ a := by walk_at "jn"
        have n9R : q9 ≠ R := by walk_at "jn"
        have dy9 : DpAll K H9 ys (pl'.map pairD) := DpAll.tk (TK.ch (c := c + 30 + 2 * t + 1000) k9 (by walk_at "jf")) _ _ (pairs_only pl') dy
        have eR9 : H9 R = some (.lst []) := by walk_at "jl"
        have eG9 : H9 G = some (.lst (ns.map V.str)) := by walk_at "jl"
        have k90 : Ch a H H9 := by walk_at "jh"
        have n90 : H q9 = none := Ch.free (a := a) (H := H) (H' := upd H7 R (.lst [])) (by walk_at "jh") n9a n9
        have hpl' : pl'.length = pl.length := pp.length_eq
        have hys : ys.length = pl'.length := by rw [DpAll.len dy9, List.length_map]
        have ltn : ∀ p ∈ pl', p.1 < p.2 ∧ p.2 < n := fun p hp' => hp.2 p (pp.mem_iff.mp hp')
        repeat' (walk_at "jv")
        refine f_list ys (fun i σ H' => ∃ y9 y10 rs, σ = [some (.ref a), some (.str way), some (.int most), some (.int n), some (.ref L), some (.int r), y6, y7, y8, y9, y10, y11, some (.ref G), some (.ref R)] ∧ H' q9 = some (.lst ys) ∧ DpAll K H' ys (pl'.map pairD) ∧ H' G = some (.lst (ns.map V.str)) ∧
            LsD K H' R (rs.map roadD) ∧ rs.length = i ∧ (∀ (k : Nat) p x, pl'[k]? = some p → rs[k]? = some x → RoadOf ns p x) ∧ Fd H' a (c + 3000 + 2 * i) ∧ Ch a H H')
          ⟨_, _, [], rfl, e9, dy9, eG9, LsD.nil eR9, rfl, fun k p x _ z => by simp at z, f9.mono (by omega), k90⟩ (fun i σ H' _ h => ?_) (fun i x σ H' hx h => ?_) (fun σ H' h => ?_)
        · obtain ⟨_, _, _, _, h1, _⟩ := h
          exact sq_lst h1
        · obtain ⟨y9, y10, rs, rfl, h1, h2, h3, h4, h5, h6, h7, h8⟩ := h
          obtain ⟨d, hd, dx⟩ := DpAll.get h2 hx
          have hi : i < ys.length := (List.getElem?_eq_some_iff.mp hx).1
          have hip : i < pl'.length := by omega
          rw [List.getElem?_map, List.getElem?_eq_getElem hip] at hd
          have hd' : pairD pl'[i] = d := Option.some.inj hd
          subst hd'
          obtain ⟨p1, p2⟩ := ltn pl'[i] (List.getElem_mem hip)
          have ats : ∀ k, k < n → ∃ z, ns[k]? = some z ∧ atI (ns.map V.str) (k : Int) = some (.str z) := fun k hk => by
            have hk' : k < ns.length := by omega
            exact ⟨ns[k], List.getElem?_eq_getElem hk', atI_nat (by rw [List.getElem?_map, List.getElem?_eq_getElem hk']; rfl)⟩
          obtain ⟨z1, a1, b1⟩ := ats pl'[i].1 (by omega)
          obtain ⟨z2, a2, b2⟩ := ats pl'[i].2 (by omega)
          cases dx with
          | tup hs ha =>
            rename_i b xs
            cases ha with
            | cons g1 g2 =>
              cases g1
              cases g2 with
              | cons g3 g4 =>
                cases g3
                cases g4
                refine ⟨b, _, rfl, hs, rfl, _, _, rfl, ?_⟩
                refine i_gname ?_
                refine ⟨_, _, rfl, ?_⟩
                refine i_gname ?_
                refine ⟨rfl, ?_⟩
                refine i_drop ?_
                refine i_bm ?_
                refine i_var rfl ?_
                obtain ⟨ws, ew, dw, tw⟩ := h4
                have hws : ws.length = rs.length := by rw [DpAll.len dw, List.length_map]
                refine i_tyL (sq_lst ew) ?_
                refine i_cons ?_
                have push : ∀ (H5 : Hp) (p : Addr) (x : Str × Str), RoadOf ns pl'[i] x → H5 p = none → Ch a H' H5 → Fd H5 a (c + 3000 + 2 * i + 1) →
                    ∃ (y9 y10 : Option V) (rs : List (Str × Str)), ([some (.ref a), some (.str way), some (.int most), some (.int n), some (.ref L), some (.int r), y6, y7, y8, some (.int pl'[i].1), some (.int pl'[i].2), y11, some (.ref G), some (.ref R)] : L2.St) = [some (.ref a), some (.str way), some (.int most), some (.int n), some (.ref L), some (.int r), y6, y7, y8, y9, y10, y11, some (.ref G), some (.ref R)] ∧
                      (upd (upd H5 p (.tup [.str x.1, .str x.2])) R (.lst (ws ++ [.ref p]))) q9 = some (.lst ys) ∧ DpAll K (upd (upd H5 p (.tup [.str x.1, .str x.2])) R (.lst (ws ++ [.ref p]))) ys (pl'.map pairD) ∧ (upd (upd H5 p (.tup [.str x.1, .str x.2])) R (.lst (ws ++ [.ref p]))) G = some (.lst (ns.map V.str)) ∧
                      LsD K (upd (upd H5 p (.tup [.str x.1, .str x.2])) R (.lst (ws ++ [.ref p]))) R (rs.map roadD) ∧ rs.length = i + 1 ∧ (∀ (k : Nat) p x, pl'[k]? = some p → rs[k]? = some x → RoadOf ns p x) ∧ Fd (upd (upd H5 p (.tup [.str x.1, .str x.2])) R (.lst (ws ++ [.ref p]))) a (c + 3000 + 2 * (i + 1 : Nat)) ∧ Ch a H (upd (upd H5 p (.tup [.str x.1, .str x.2])) R (.lst (ws ++ [.ref p]))) := by
                  intro H5 p x rx np k5 f5
                  have e5R : H5 R = some (.lst ws) := k5 R _ nRa ew
                  have e59 : H5 q9 = some (.lst ys) := k5 q9 _ n9a h1
                  have e5G : H5 G = some (.lst (ns.map V.str)) := k5 G _ nGa h3
                  have t5 : TK K H' H5 := TK.ch k5 h7
                  have d5w := DpAll.tk t5 _ _ tw dw
                  have npR : R ≠ p := ne_of_none e5R np
                  have np9 : q9 ≠ p := ne_of_none e59 np
                  have npG : G ≠ p := ne_of_none e5G np
                  refine ⟨_, _, rs ++ [x], rfl, ?_, ?_, ?_, by rw [List.map_append]; exact LsD.push2 e5R d5w tw np (.str x.1) (.str x.2) rfl rfl, by rw [List.length_append, h5]; rfl, ?_, ?_, ?_⟩
                  · rw [upd_ne n9R, upd_ne np9]
                    exact e59
                  · exact DpAll.tk ((t5.trans (TK.new np)).trans (TK.lst (xs := ws) (by rw [upd_ne npR]; exact e5R))) _ _ (pairs_only pl') h2
                  · rw [upd_ne nRG.symm, upd_ne npG]
                    exact e5G
                  · intro k p' x' hp' hx'
                    by_cases hk : k < rs.length
                    · rw [List.getElem?_append_left hk] at hx'
                      exact h6 k p' x' hp' hx'
                    · rw [List.getElem?_append_right (by omega)] at hx'
                      have hk0 : k - rs.length = 0 := by
                        cases z : k - rs.length with
                        | zero => rfl
                        | succ m => rw [z] at hx'; simp at hx'
                      rw [hk0] at hx'
                      have hxx : x = x' := by simpa using hx'
                      subst hxx
                      have hki : k = i := by omega
                      subst hki
                      rw [List.getElem?_eq_getElem hip] at hp'
                      have := Option.some.inj hp'
                      subst this
                      exact rx
                  · have := ((f5.upd (q := p) (o := .tup [.str x.1, .str x.2]) (Ne.symm (f5.ne np))).upd (q := R) (o := .lst (ws ++ [.ref p])) (Ne.symm nRa)).mono (d := c + 3000 + 2 * (i + 1 : Nat)) (by omega)
                    exact this
                  · exact ((h8.trans k5).upd_n np).upd_l nR0
                refine i_if ?_
                repeat' (walk_at "js")
                repeat' (walk_at "jv")
                refine ⟨a, 2, _, rfl, h7, by omega, by omega, by omega, fun rr H5 s0 s1 f5 k5 => ?_⟩
                have e5R : H5 R = some (.lst ws) := k5 R _ nRa ew
                have e5G : H5 G = some (.lst (ns.map V.str)) := k5 G _ nGa h3
                repeat' (walk_at "jv")
                · intro p np
                  have npR : R ≠ p := ne_of_none e5R np
                  repeat' (walk_at "jv")
                  exact push H5 p (z1, z2) (.inl ⟨a1, a2⟩) np k5 f5
                · intro p np
                  have npR : R ≠ p := ne_of_none e5R np
                  repeat' (walk_at "jv")
                  exact push H5 p (z2, z1) (.inr ⟨a1, a2⟩) np k5 f5
        · obtain ⟨y9, y10, rs, rfl, h1, h2, h3, h4, h5, h6, h7, h8⟩ := h
          repeat' (walk_at "jv")
          refine ⟨a, G, _, ns.map V.str, rfl, h7, SqA.l (sq_lst h3), nGa, by rw [List.length_map]; omega, by omega, fun W zs HA pz nW eW fA kA => ?_⟩
          obtain ⟨ws, ew, dw, tw⟩ := h4.ch kA h7 nRa
          have hwl : ws.length = rs.length := by rw [DpAll.len dw, List.length_map]
          have kA0 : Ch a H HA := h8.trans kA
          obtain ⟨es, pe2, dz⟩ := DpAll.perm pz (DpAll.strs (K := K) (H := HA) ns)
          obtain ⟨ps, pps, rfl⟩ := perm_map_inv pe2 rfl
          have ez := DpAll.strs_inv dz
          subst ez
          repeat' (walk_at "jv")
          refine ⟨W, ps.map V.str, rfl, sq_lst eW, fun T1 ob nT1 okb => ?_⟩
          repeat' (walk_at "jv")
          intro T2 nT2
          refine i_nil ?_
          refine i_al (by show 2 ≤ sizeLine; decide) ?_
          intro T3 nT3
          have c1 : TK K HA (upd HA T1 (.frz ob (.tup (ps.map V.str)))) := TK.new nT1
          have c2 : TK K (upd HA T1 (.frz ob (.tup (ps.map V.str)))) (upd (upd HA T1 (.frz ob (.tup (ps.map V.str)))) T2 (.tup ws)) := TK.new nT2
          have c3 : TK K (upd (upd HA T1 (.frz ob (.tup (ps.map V.str)))) T2 (.tup ws)) (upd (upd (upd HA T1 (.frz ob (.tup (ps.map V.str)))) T2 (.tup ws)) T3 (.tup [.ref T1, .ref T2])) := TK.new nT3
          have fT1 : FT (upd HA T1 (.frz ob (.tup (ps.map V.str)))) T1 (ps.map V.str) := FT.new okb
          refine q _ ps rs _ (fun h => hn99 (pps.mem_iff.mp h)) (web_of hns pps (by omega) (by omega) (pp.nodup_iff.mpr hp.1) (fun p hp' => (ltn p hp').1) (by omega) (by omega) h6) (by rw [pps.length_eq]; omega) ?_ ?_ ?_
          · refine ⟨T3, T1, T2, rfl, .inl (.inl upd_same), (fT1.same (Same.upd_new nT2)).same (Same.upd_new nT3), ?_⟩
            exact Dp.tk c3 _ _ (roads_only rs) (.tup (xs := ws) (.inl (.inl upd_same)) (DpAll.tk (c1.trans c2) _ _ tw dw))
          · have g1 := fA.upd (q := T1) (o := .frz ob (.tup (ps.map V.str))) (Ne.symm (fA.ne nT1))
            have g2 := g1.upd (q := T2) (o := .tup ws) (Ne.symm (g1.ne nT2))
            exact (g2.upd (Ne.symm (g2.ne nT3))).mono (by omega)
          · exact ((kA0.upd_n nT1).upd_n nT2).upd_n nT3
end
end
section
open L2 PySem PySem.Spec PyProof.Rows
abbrev s__law_order : Stmt := topS 42
theorem sc__law_order : FnScope ["_law_feed_here", "_law_web_here"] ["_law_feed_here", "_law_web_here"] (defScope s__law_order) := ⟨rfl, rfl, rfl, by decide +kernel, rfl, by decide +kernel, by decide +kernel⟩
def spMixedT (K : PySem.W.Frag) : Sp := fun vs H Q _ => ∃ (a p : Addr) (c : Int) (xs : List V), vs = [.ref a, .ref p] ∧ Fd H a c ∧ SqT K H p xs ∧ xs.length ≤ 1000 ∧ c < 10 ^ 14 ∧
  ∀ (q : Addr) (ys : List V) (H' : Hp), ys.Perm xs → H q = none → H' q = some (.lst ys) → Fd H' a (c + 1000) → Ch a H H' → Q (.ref q) H'
def spOrder (K : PySem.W.Frag) : Sp := fun vs H Q _ => ∃ (a : Addr) (v : V) (ps : List Str) (rs : List (Str × Str)) (c : Int), vs = [.ref a, v] ∧ Fd H a c ∧ Dp K H v (webD ps rs) ∧ ps.length ≤ 8 ∧ c < 10 ^ 13 ∧
  ∀ (T : Addr) (qs : List Str) (H' : Hp), qs.Perm ps → SqT K H' T (qs.map V.str) → Fd H' a (c + 1000) → Ch a H H' → Q (.ref T) H'
section
variable {base : Heap} {P : Program} {w : World} {K : PySem.W.Frag} {mg : Str → Option Value}
theorem ok_feed (D : Dn K mg "_law_feed" s__law_feed ["_law_script", "_law_k"]) (B : Bn mg) : Cl P w K mg base 1 "_law_feed" ["_law_script", "_law_k"] (spFeed K) := by
  refine D.cl sc__law_feed (fun vs H Q E h => ?_) (fun f cdv A outer s H vs Q E hr h => ?_)
  · obtain ⟨a, ns, k, rfl, _⟩ := h
    rfl
  · obtain ⟨a, ns, k, rfl, hs, hl, hk0, hk1, q⟩ := h
    refine ⟨_, (pss_cons (ps_set (i := 2) sc__law_feed.nd rfl (by first | exact Or.inl rfl | exact Or.inr rfl) (pe_op op_add (pe_op op_mul pe_int (pv 1)) (pe_callB (cr_sum rfl) rfl B.sum_ (by decide +kernel) (pa_cons (pe_slice (k_slL (K := K)) (pv 0) po_none (po_some pe_int)) pa_nil))))
      (pss_cons (ps_if (pt_cmpR op_lt (pv 1) (pe_callB (k_len (K := K)) rfl B.len_ (by decide +kernel) (pa_cons (pv 0) pa_nil)) (nomark _)) (pss_one (ps_set (i := 2) sc__law_feed.nd rfl (by first | exact Or.inl rfl | exact Or.inr rfl) (pe_ix (k_ixL (K := K)) (pv 0) (pv 1) (fun _ _ => rfl)))) pss_nil)
      (pss_one (ps_ret (pe_lst (pa_cons (pe_callB (j_max rfl) rfl B.max_ (by decide +kernel) (pa_cons pe_int (pa_cons (pe_op op_sub (pv 2) (pe_op op_pow pe_int pe_int)) pa_nil))) (pa_cons (pe_op op_mod (pe_callTy (j_int) rfl B.int_ (by decide +kernel) (pa_cons (pe_op op_add (pe_op op_mul (pv 2) pe_int) (pe_op op_mul pe_int (pv 1))) pa_nil)) (pe_op op_add (pe_op op_pow pe_int pe_int) pe_int)) (pa_cons pe_int pa_nil)))))))), ?_⟩
    repeat' (walk_at "jv")
    intro L nL
    have sL := Same.upd_new (o := .lst (cutV (ns.map V.int) none (some 1))) nL
    have e1 : cutV (ns.map V.int) none (some ((1 : Nat) : Int)) = (ns.take 1).map V.int := by
      unfold cutV
      rw [HT.sIx_none, HT.sIx_nat, List.drop_zero, Nat.sub_zero, List.length_map, List.map_take]
      cases ns <;> simp
    refine i_nil ?_
    refine i_sum (ns := ns.take 1) (sq_lst (by rw [← e1]; exact upd_same)) ?_
    have hs1 := sL.seq hs
    have fin : ∀ x : Int, ∀ p : Addr, upd H L (.lst (cutV (ns.map V.int) none (some 1))) p = none →
        Q (.ref p) (upd (upd H L (.lst (cutV (ns.map V.int) none (some 1)))) p (.lst [.int (max 0 (x - 10 ^ Int.toNat 18)), .int ((x * 19 + 7 * k) % (10 ^ Int.toNat 39 + 23)), .int 0])) := fun x p np => by
      refine q p _ ?_ ⟨_, _, _, upd_same, by omega, Int.emod_nonneg _ (by decide), Int.emod_lt_of_pos _ (by decide), by omega, by omega⟩ (sL.trans (Same.upd_new np))
      cases z : H p with
      | none => rfl
      | some o =>
        have := sL p o z
        rw [np] at this
        cases this
    repeat' (walk_at "jv")
    · rename_i lt
      obtain ⟨j, rfl⟩ := Int.eq_ofNat_of_zero_le hk0
      have hj : j < ns.length := by rw [List.length_map] at lt; omega
      refine i_ixL hs1 (atI_nat (by rw [List.getElem?_map, List.getElem?_eq_getElem hj]; rfl)) ?_
      repeat' (walk_at "jv")
      exact fin _
    · exact fin _
theorem ok_mixedT (D : Dn K mg "_law_mixed" s__law_mixed ["_law_feed_here", "_law_things"]) (B : Bn mg) (C__law_draw : Cl P w K mg base 1 "_law_draw" ["_law_feed_here", "_law_many"] spDraw) : Cl P w K mg base 2 "_law_mixed" ["_law_feed_here", "_law_things"] (spMixedT K) := by
  refine D.cl sc__law_mixed (fun vs H Q E h => ?_) (fun f cdv A outer s H vs Q E hr h => ?_)
  · obtain ⟨a, p, c, xs, rfl, _⟩ := h
    rfl
  · obtain ⟨a, p, c, xs, rfl, hf, hp, hz, hc, q⟩ := h
    refine ⟨_, (pss_cons (ps_par (i := 2) (j := 3) rfl sc__law_mixed.nd rfl rfl (by decide) rfl rfl (pa_cons (pe_callTy (k_list (K := K)) rfl B.list_ (by decide +kernel) (pa_cons (pv 1) pa_nil)) (pa_cons (pe_lst pa_nil) pa_nil)) (by rfl))
      (pss_cons (ps_for PassesOwn.never rfl (pi_range1 rfl B.range_ (pa_cons (pe_callB (k_len (K := K)) rfl B.len_ (by decide +kernel) (pa_cons (pv 1) pa_nil)) pa_nil)) (pg_name (i := 4) sc__law_mixed.nd rfl (by first | exact Or.inl rfl | exact Or.inr rfl)) (pss_one (ps_expr (pe_bm PySem.F.plainAttrs_list PySem.F.slot_list_append PySem.F.type_list_append mt_append (pv 3) (pa_cons (pe_bm PySem.F.plainAttrs_list PySem.F.slot_list_pop PySem.F.type_list_pop mt_popAt (pv 2) (pa_cons (pe_c C__law_draw hr (pa_cons (pv 0) (pa_cons (pe_callB (k_len (K := K)) rfl B.len_ (by decide +kernel) (pa_cons (pv 2) pa_nil)) pa_nil))) pa_nil)) pa_nil)))))
      (pss_one (ps_ret (pv 3))))), ?_⟩
    repeat' (walk_at "jv")
    intro L nL
    have nLa := hf.ne nL
    repeat' (walk_at "jv")
    intro G nG
    have nGL : G ≠ L := by walk_at "jn"
    have nG0 : H G = none := Ch.free (a := a) (by walk_at "jh") (by walk_at "jn") nG
    have nGa := hf.ne nG0
    have hp2 : SqT K (upd (upd H L (.lst xs)) G (.lst [])) p xs := (TK.new (K := K) nG) _ _ ((TK.new (K := K) nL) _ _ hp)
    repeat' (walk_at "jv")
    refine f_range (fun i σ H' => ∃ y4 pool gs, σ = [some (.ref a), some (.ref p), some (.ref L), some (.ref G), y4] ∧ H' L = some (.lst pool) ∧ H' G = some (.lst gs) ∧ (gs ++ pool).Perm xs ∧ gs.length = i ∧ Fd H' a (c + i) ∧ Ch a H H') ⟨none, xs, [], rfl, ?_, ?_, List.Perm.refl _, rfl, ?_, ?_⟩ (fun i σ H' hi h => ?_) (fun σ H' h => ?_)
    · walk_at "jl"
    · walk_at "jl"
    · exact Fd.mono (c := c) (by walk_at "jf") (by omega)
    · walk_at "jh"
    · obtain ⟨y4, pool, gs, rfl, h1, h2, h3, h4, h5, h6⟩ := h
      have hl := h3.length_eq
      rw [List.length_append] at hl
      repeat' (walk_at "jv")
      refine ⟨a, pool.length, c + i, rfl, h5, by omega, by omega, by omega, fun r H1 r0 r1 f1 k1 => ?_⟩
      obtain ⟨k, rfl⟩ := Int.eq_ofNat_of_zero_le r0
      have hk : k < pool.length := by omega
      repeat' (walk_at "jv")
      refine i_popAt (xs := pool) (by walk_at "jl") (by omega) (List.getElem?_eq_getElem hk) ?_
      repeat' (walk_at "jv")
      refine ⟨_, _, _, rfl, by walk_at "jl", by walk_at "jl", ?_, ?_, ?_, by walk_at "jh"⟩
      · rw [List.append_assoc]
        exact (List.Perm.append_left gs (perm_erase pool k hk)).trans h3
      · rw [List.length_append, h4]
        rfl
      · exact Fd.mono (c := c + i + 1) (by walk_at "jf") (by omega)
    · obtain ⟨y4, pool, gs, rfl, h1, h2, h3, h4, h5, h6⟩ := h
      repeat' (walk_at "jv")
      have hl := h3.length_eq
      rw [List.length_append] at hl
      have e0 : pool = [] := List.eq_nil_of_length_eq_zero (by omega)
      rw [e0, List.append_nil] at h3
      exact q G gs H' h3 nG0 h2 (h5.mono (by omega)) h6
theorem ok_order (D : Dn K mg "_law_order" s__law_order ["_law_feed_here", "_law_web_here"]) (B : Bn mg) (C__law_mixed : Cl P w K mg base 2 "_law_mixed" ["_law_feed_here", "_law_things"] (spMixedT K)) :
    Cl P w K mg base 3 "_law_order" ["_law_feed_here", "_law_web_here"] (spOrder K) := by
  refine D.cl sc__law_order (fun vs H Q E h => ?_) (fun f cdv A outer s H vs Q E hr h => ?_)
  · obtain ⟨a, v, ps, rs, c, rfl, _⟩ := h
    rfl
  · obtain ⟨a, v, ps, rs, c, rfl, hf, hd, hl, hc, q⟩ := h
    obtain ⟨t, tp, tr, xs, rfl, s1, s2, s3, d3, dr, dpl⟩ := web_parts hd
    refine ⟨_, (pss_one (ps_ret (pe_callTy (k_tuple (K := K)) rfl B.tuple_ (by decide +kernel) (pa_cons (pe_c C__law_mixed hr (pa_cons (pv 0) (pa_cons (pe_ix (k_ixT (K := K)) (pv 1) pe_int (fun _ _ => rfl)) pa_nil))) pa_nil)))), ?_⟩
    repeat' (walk_at "jv")
    refine ⟨a, tp, c, ps.map V.str, rfl, hf, s2, by rw [List.length_map]; omega, by omega, fun G ys H1 pm nG eG f1 k1 => ?_⟩
    obtain ⟨es, pe2, dz⟩ := DpAll.perm pm (DpAll.strs (K := K) (H := H1) ps)
    obtain ⟨qs, pq, rfl⟩ := perm_map_inv pe2 rfl
    have ez := DpAll.strs_inv dz
    subst ez
    repeat' (walk_at "jv")
    intro T nT
    exact q T qs _ pq (sq_tup upd_same) (f1.upd (Ne.symm (f1.ne nT))) (k1.trans (Ch.upd_new nT))
end
end
section
open L2 PySem PySem.Spec PyProof.Rows
abbrev s_is_name : Stmt := topS 10
theorem sc_is_name : FnScope ["thing", "sign"] ["thing"] (defScope s_is_name) := ⟨rfl, rfl, rfl, by decide +kernel, rfl, by decide +kernel, by decide +kernel⟩
abbrev s_is_one_of : Stmt := topS 15
theorem sc_is_one_of : FnScope ["thing", "places"] ["thing", "places"] (defScope s_is_one_of) := ⟨rfl, rfl, rfl, by decide +kernel, rfl, by decide +kernel, by decide +kernel⟩
abbrev s__is_road : Stmt := topS 14
theorem sc__is_road : FnScope ["thing", "places", "end"] ["thing", "places"] (defScope s__is_road) := ⟨rfl, rfl, rfl, by decide +kernel, rfl, by decide +kernel, by decide +kernel⟩
abbrev s__are_places : Stmt := topS 12
theorem sc__are_places : FnScope ["thing", "place"] ["thing"] (defScope s__are_places) := ⟨rfl, rfl, rfl, by decide +kernel, rfl, by decide +kernel, by decide +kernel⟩
abbrev s__are_roads : Stmt := topS 13
theorem sc__are_roads : FnScope ["thing", "places", "road"] ["thing", "places"] (defScope s__are_roads) := ⟨rfl, rfl, rfl, by decide +kernel, rfl, by decide +kernel, by decide +kernel⟩
abbrev s_is_web : Stmt := topS 11
theorem sc_is_web : FnScope ["thing", "places", "roads"] ["thing"] (defScope s_is_web) := ⟨rfl, rfl, rfl, by decide +kernel, rfl, by decide +kernel, by decide +kernel⟩
abbrev s_need_web : Stmt := topS 16
theorem sc_need_web : FnScope ["web"] ["web"] (defScope s_need_web) := ⟨rfl, rfl, rfl, by decide +kernel, rfl, by decide +kernel, by decide +kernel⟩
section
variable {X : Cx} {x : Str} {pos : Pos}
theorem gl_int {i : Int} {t : Tok} (hm : X.mg x = some (.int i t)) (hg : Gl X x := by rfl) (hd : (x == ("__debug__" : Str)) = false := by decide) : PE X (.Name x pos) (tC (.int i)) := pe_glob hg hm ⟨t, rfl⟩ hd
theorem gl_str {i : Str} {t : Tok} (hm : X.mg x = some (.str i t)) (hg : Gl X x := by rfl) (hd : (x == ("__debug__" : Str)) = false := by decide) : PE X (.Name x pos) (tC (.str i)) := pe_glob hg hm ⟨t, rfl⟩ hd
end
structure Gn (mg : Str → Option Value) : Prop where
  ln : ∃ t, mg "LONGEST_NAME" = some (.int 8 t)
  mp : ∃ t, mg "MOST_PLACES" = some (.int 8 t)
  mr : ∃ t, mg "MOST_ROADS" = some (.int 14 t)
  le : ∃ t, mg "LETTERS" = some (.str "abcdefghijklmnopqrstuvwxyz" t)
  ns : ∃ t, mg "NAME_SIGNS" = some (.str "abcdefghijklmnopqrstuvwxyz0123456789" t)
section
variable {base : Heap} {P : Program} {w : World} {K : PySem.W.Frag} {mg : Str → Option Value}
theorem ok_is_name (D : Dn K mg "is_name" s_is_name ["thing"]) (B : Bn mg) (Gg : Gn mg) : Cl P w K mg base 1 "is_name" ["thing"] spIsName := by
  obtain ⟨⟨t1, c_LONGEST_NAME⟩, _, _, ⟨t4, c_LETTERS⟩, ⟨t5, c_NAME_SIGNS⟩⟩ := Gg
  refine D.cl sc_is_name (fun vs H Q E h => ?_) (fun f cdv A outer s H vs Q E hr h => ?_)
  · obtain ⟨z, rfl, _⟩ := h
    rfl
  · obtain ⟨z, rfl, hz, q⟩ := h
    refine ⟨_, (pss_cons (ps_if (PW.pt (pw_or (pt_not (pt_val (pe_callB (k_isi (K := K)) rfl B.isinstance_ (by decide +kernel) (pa_cons (pv 0) (pa_cons (pe_ty (T := "str") B.str_ (by decide +kernel)) pa_nil))))) (pw_or1 (pt_not (pt_chain op_le op_le pe_int (pe_callB (call_len_str) rfl B.len_ (by decide +kernel) (pa_cons (pv 0) pa_nil)) (gl_int c_LONGEST_NAME)))))) (pss_one (ps_ret pe_bl)) pss_nil)
      (pss_one (ps_ret (pe_and (pe_cmpR op_in_sign (pe_its (pv 0) pe_int (fun _ _ => rfl)) (gl_str c_LETTERS) (by rfl)) (pe_one (pe_callB (k_all (K := K) rfl) rfl B.all_ (by decide +kernel) (pa_cons (pe_lc (own := [("sign", 1)]) rfl sc_is_name.nd (pi_str (pv 0)) (blkOk_by (N := ["thing", "sign"]) (sc := defScope s_is_name) (by decide +kernel)) (fun _ _ _ _ _ => (pg_name (i := 1) sc_is_name.nd rfl (by first | exact Or.inl rfl | exact Or.inr rfl))) (fun _ _ _ _ _ => pts_nil) (fun _ _ _ _ _ => (pe_cmpR op_in_sign (pv 1) (gl_str c_NAME_SIGNS) (by rfl)))) pa_nil))))))), ?_⟩
    obtain ⟨c, r, ez, hr7, hc, hrs⟩ := nm_parts hz
    have hsz : z.cps.size = r.length + 1 := by
      rw [← Array.length_toList, ez]
      rfl
    have hln : (z.length : Int) = r.length + 1 := by
      show ((z.cps.size : Nat) : Int) = _
      omega
    have hall : ∀ i d, z.cps[i]? = some d → nmSign d = true := fun i d hd => by
      have hm : d ∈ z.cps.toList := by
        rw [← Array.getElem?_toList] at hd
        exact List.mem_of_getElem? hd
      rw [ez] at hm
      rcases List.mem_cons.mp hm with e | hm
      · rw [e]
        exact sl_of hc
      · exact hrs d hm
    repeat' (walk_at "jv")
    refine ⟨z, rfl, by rw [sizeLine_eq]; show z.cps.size ≤ _; omega, ?_⟩
    repeat' (walk_at "jv")
    case _ => omega
    · refine ⟨z, 0, c, rfl, rfl, by omega, by decide, by show (0 : Int) < z.length; omega, ?_, ?_⟩
      · show z.cps[0]? = some c
        rw [← Array.getElem?_toList, ez]
        rfl
      · refine ⟨c, _, rfl, rfl, ?_⟩
        rw [decide_eq_true (by have := letter_in (c - 97) (by omega); rwa [show 97 + (c - 97) = c from by omega] at this)]
        repeat' (walk_at "jv")
        refine i_istr (i_var rfl (i_isK ?_))
        refine p_str z (fun _ => V.bl true) (by omega) (fun D2 acc i d N nD hx hN => ?_) (fun D2 nD => ?_)
        · repeat' (walk_at "jv")
          refine ⟨d, _, rfl, rfl, ?_⟩
          rw [decide_eq_true (sign_in (hall i d hx))]
          exact hN
        · refine i_nil ?_
          exact all_true (sq_lst upd_same) (q _ (Same.upd_new nD))
    all_goals omega
theorem ok_is_one_of (D : Dn K mg "is_one_of" s_is_one_of ["thing", "places"]) (B : Bn mg) : Cl P w K mg base 1 "is_one_of" ["thing", "places"] (spIsOneOf K) := by
  refine D.cl sc_is_one_of (fun vs H Q E h => ?_) (fun f cdv A outer s H vs Q E hr h => ?_)
  · obtain ⟨z, p, ps, rfl, _⟩ := h
    rfl
  · obtain ⟨z, p, ps, rfl, hs, hz, q⟩ := h
    refine ⟨_, (pss_one (ps_ret (pe_and (pe_callB (k_isi (K := K)) rfl B.isinstance_ (by decide +kernel) (pa_cons (pv 0) (pa_cons (pe_ty (T := "str") B.str_ (by decide +kernel)) pa_nil))) (pe_one (pe_cmpR (k_inS (K := K)) (pv 0) (pv 1) (by rfl)))))), ?_⟩
    repeat' (walk_at "jv")
    rw [decide_eq_true hz]
    exact q
theorem ok_is_road (D : Dn K mg "_is_road" s__is_road ["thing", "places"]) (B : Bn mg) (C_is_one_of : Cl P w K mg base 1 "is_one_of" ["thing", "places"] (spIsOneOf K)) : Cl P w K mg base 2 "_is_road" ["thing", "places"] (spIsRoad K) := by
  refine D.cl sc__is_road (fun vs H Q E h => ?_) (fun f cdv A outer s H vs Q E hr h => ?_)
  · obtain ⟨v, r, p, ps, rfl, _⟩ := h
    rfl
  · obtain ⟨v, ⟨x, y⟩, p, ps, rfl, hd, hs, h1, h2, hne, q⟩ := h
    obtain ⟨t, rfl, st⟩ : ∃ t, v = .ref t ∧ SqT K H t [.str x, .str y] := by
      cases hd with
      | tup s1 a1 =>
        cases a1 with
        | cons g1 g2 =>
          cases g1
          cases g2 with
          | cons g3 g4 =>
            cases g3
            cases g4
            exact ⟨_, rfl, s1⟩
    refine ⟨_, (pss_cons (ps_if (PW.pt (pw_or (pt_not (pt_val (pe_callB (k_isi (K := K)) rfl B.isinstance_ (by decide +kernel) (pa_cons (pv 0) (pa_cons (pe_ty (T := "tuple") B.tuple_ (by decide +kernel)) pa_nil))))) (pw_or1 (pt_cmpR op_ne (pe_callB (k_len (K := K)) rfl B.len_ (by decide +kernel) (pa_cons (pv 0) pa_nil)) pe_int (nomark _))))) (pss_one (ps_ret pe_bl)) pss_nil)
      (pss_one (ps_ret (pe_and (pe_callB (k_all (K := K) rfl) rfl B.all_ (by decide +kernel) (pa_cons (pe_lc (own := [("end", 2)]) rfl sc__is_road.nd (kpi_tup (K := K) (pv 0)) (blkOk_by (N := ["thing", "places", "end"]) (sc := defScope s__is_road) (by decide +kernel)) (fun _ _ _ _ _ => (pg_name (i := 2) sc__is_road.nd rfl (by first | exact Or.inl rfl | exact Or.inr rfl))) (fun _ _ _ _ _ => pts_nil) (fun _ _ _ _ _ => (pe_c C_is_one_of hr (pa_cons (pv 2) (pa_cons (pv 1) pa_nil))))) pa_nil)) (pe_one (pe_cmpR op_ne (pe_ix (k_ixT (K := K)) (pv 0) pe_int (fun _ _ => rfl)) (pe_ix (k_ixT (K := K)) (pv 0) pe_int (fun _ _ => rfl)) (nomark _))))))), ?_⟩
    repeat' (walk_at "jv")
    · rename_i hne2
      exact absurd rfl hne2
    · refine p_tup [.str x, .str y] (fun _ => V.bl true) st (by show 2 ≤ 100000; decide) (fun D2 acc i z N nD hx hN => ?_) (fun D2 nD => ?_)
      · have hz : ∃ u, z = .str u ∧ u ∈ ps := by
          have := List.mem_of_getElem? hx
          rcases List.mem_cons.mp this with e | e
          · exact ⟨x, e, h1⟩
          · exact ⟨y, List.mem_singleton.mp e, h2⟩
        obtain ⟨u, rfl, hu⟩ := hz
        repeat' (walk_at "jv")
        exact ⟨u, p, ps, rfl, (TK.new (K := K) nD) _ _ hs, hu, hN⟩
      · refine i_nil ?_
        have sm : Same H (upd H D2 (.lst ((List.range 2).map fun _ => V.bl true))) := Same.upd_new nD
        refine all_true (sq_lst upd_same) ?_
        have st2 := TK.same (K := K) sm _ _ st
        repeat' (walk_at "jv")
        rw [decide_eq_true hne]
        exact q _ sm
theorem ok_are_places (D : Dn K mg "_are_places" s__are_places ["thing"]) (B : Bn mg) (Gg : Gn mg) (C_is_name : Cl P w K mg base 1 "is_name" ["thing"] spIsName) : Cl P w K mg base 2 "_are_places" ["thing"] (spArePlaces K) := by
  obtain ⟨_, ⟨t2, c_MOST_PLACES⟩, _, _, _⟩ := Gg
  refine D.cl sc__are_places (fun vs H Q E h => ?_) (fun f cdv A outer s H vs Q E hr h => ?_)
  · obtain ⟨p, ps, rfl, _⟩ := h
    rfl
  · obtain ⟨p, ps, rfl, hs, hn, h0, h8, q⟩ := h
    refine ⟨_, (pss_cons (ps_if (PW.pt (pw_or (pt_not (pt_val (pe_callB (k_isi (K := K)) rfl B.isinstance_ (by decide +kernel) (pa_cons (pv 0) (pa_cons (pe_ty (T := "tuple") B.tuple_ (by decide +kernel)) pa_nil))))) (pw_or1 (pt_not (pt_chain op_le op_le pe_int (pe_callB (k_len (K := K)) rfl B.len_ (by decide +kernel) (pa_cons (pv 0) pa_nil)) (gl_int c_MOST_PLACES)))))) (pss_one (ps_ret pe_bl)) pss_nil)
      (pss_one (ps_ret (pe_and (pe_callB (k_all (K := K) rfl) rfl B.all_ (by decide +kernel) (pa_cons (pe_lc (own := [("place", 1)]) rfl sc__are_places.nd (kpi_tup (K := K) (pv 0)) (blkOk_by (N := ["thing", "place"]) (sc := defScope s__are_places) (by decide +kernel)) (fun _ _ _ _ _ => (pg_name (i := 1) sc__are_places.nd rfl (by first | exact Or.inl rfl | exact Or.inr rfl))) (fun _ _ _ _ _ => pts_nil) (fun _ _ _ _ _ => (pe_c C_is_name hr (pa_cons (pv 1) pa_nil)))) pa_nil)) (pe_one (pe_cmpR op_eq (pe_callB (cr_lenTexts) rfl B.len_ (by decide +kernel) (pa_cons (pe_callTy (cr_setTexts rfl) rfl B.set_ (by decide +kernel) (pa_cons (pv 0) pa_nil)) pa_nil)) (pe_callB (k_len (K := K)) rfl B.len_ (by decide +kernel) (pa_cons (pv 0) pa_nil)) (nomark _))))))), ?_⟩
    have hl : (ps.map V.str).length = ps.length := List.length_map ..
    repeat' (walk_at "jv")
    · omega
    · refine c_tup (ps.map V.str) (fun D2 i H' => H D2 = none ∧ Same H H' ∧ H' D2 = some (.lst ((List.range i).map fun _ => V.bl true))) (fun D2 nD => ⟨nD, Same.upd_new nD, upd_same⟩) (fun D2 i H' _ h => TK.same h.2.1 _ _ hs) (fun D2 i y H' hy h => ?_) (fun D2 H' h => ?_)
      · obtain ⟨nD, k, e⟩ := h
        have hi : i < ps.length := by
          have := (List.getElem?_eq_some_iff.mp hy).1
          omega
        rw [List.getElem?_map, List.getElem?_eq_getElem hi] at hy
        obtain rfl : V.str ps[i] = y := Option.some.inj hy
        repeat' (walk_at "jv")
        refine ⟨ps[i], rfl, hn.2 _ (List.getElem_mem hi), fun H2 k2 => ?_⟩
        refine i_lcE (k2 _ _ e) (by rw [List.length_map, List.length_range, sizeLine_eq]; omega) ⟨nD, fun b o z => ?_, ?_⟩
        · rw [upd_ne (fun w => by rw [w, nD] at z; cases z)]
          exact k2 _ _ (k _ _ z)
        · rw [upd_same, List.range_succ, List.map_append]
          rfl
      · obtain ⟨nD, k, e⟩ := h
        refine i_nil ?_
        refine all_true (sq_lst e) ?_
        have hs2 := TK.same (K := K) k _ _ hs
        repeat' (walk_at "jv")
        refine ⟨p, ps, rfl, hs2, hn.1, by omega, fun D3 nD3 => ?_⟩
        refine i_nil ?_
        refine ⟨D3, ps, rfl, upd_same, ?_⟩
        have sm3 := Same.upd_new (o := TxsO P w D3 ps) nD3
        have hs3 := TK.same (K := K) sm3 _ _ hs2
        repeat' (walk_at "jv")
        rw [decide_eq_true (by rw [hl])]
        exact q _ (k.trans sm3)
    all_goals omega
theorem two_sorted {x y : Str} {ys : List Str} (pm : ys.Perm [x, y]) : ys = [x, y] ∨ ys = [y, x] := by
  have hl := pm.length_eq
  match ys, hl with
  | [u, v], _ =>
    have hu := pm.mem_iff.mp (show u ∈ [u, v] from .head _)
    rcases List.mem_cons.mp hu with e | e
    · subst e
      have := List.perm_singleton.mp (List.Perm.cons_inv pm)
      rw [List.cons.injEq] at this
      exact .inl (by rw [this.1])
    · have e : u = y := List.mem_singleton.mp e
      subst e
      have p2 : [u, v].Perm [u, x] := pm.trans (List.Perm.swap u x [])
      have := List.perm_singleton.mp (List.Perm.cons_inv p2)
      rw [List.cons.injEq] at this
      exact .inr (by rw [this.1])
theorem ok_are_roads (D : Dn K mg "_are_roads" s__are_roads ["thing", "places"]) (B : Bn mg) (Gg : Gn mg) (C__is_road : Cl P w K mg base 2 "_is_road" ["thing", "places"] (spIsRoad K)) : Cl P w K mg base 3 "_are_roads" ["thing", "places"] (spAreRoads K) := by
  obtain ⟨_, _, ⟨t3, c_MOST_ROADS⟩, _, _⟩ := Gg
  refine D.cl sc__are_roads (fun vs H Q E h => ?_) (fun f cdv A outer s H vs Q E hr h => ?_)
  · obtain ⟨tr, tp, xs, ps, rs, rfl, _⟩ := h
    rfl
  · obtain ⟨tr, tp, xs, ps, rs, rfl, hx, dx, hs, W, q⟩ := h
    refine ⟨_, (pss_cons (ps_if (PW.pt (pw_or (pt_not (pt_val (pe_callB (k_isi (K := K)) rfl B.isinstance_ (by decide +kernel) (pa_cons (pv 0) (pa_cons (pe_ty (T := "tuple") B.tuple_ (by decide +kernel)) pa_nil))))) (pw_or1 (pt_cmpR op_gt (pe_callB (k_len (K := K)) rfl B.len_ (by decide +kernel) (pa_cons (pv 0) pa_nil)) (gl_int c_MOST_ROADS) (nomark _))))) (pss_one (ps_ret pe_bl)) pss_nil)
      (pss_cons (ps_if (pt_not (pt_val (pe_callB (k_all (K := K) rfl) rfl B.all_ (by decide +kernel) (pa_cons (pe_lc (own := [("road", 2)]) rfl sc__are_roads.nd (kpi_tup (K := K) (pv 0)) (blkOk_by (N := ["thing", "places", "road"]) (sc := defScope s__are_roads) (by decide +kernel)) (fun _ _ _ _ _ => (pg_name (i := 2) sc__are_roads.nd rfl (by first | exact Or.inl rfl | exact Or.inr rfl))) (fun _ _ _ _ _ => pts_nil) (fun _ _ _ _ _ => (pe_c C__is_road hr (pa_cons (pv 2) (pa_cons (pv 1) pa_nil))))) pa_nil)))) (pss_one (ps_ret pe_bl)) pss_nil)
      (pss_one (ps_ret (pe_cmpR op_eq (pe_callB (cr_lenTs) rfl B.len_ (by decide +kernel) (pa_cons (pe_sct (own := [("road", 2)]) rfl hr.units sc__are_roads.nd (kpi_tup (K := K) (pv 0)) (blkOk_by (N := ["thing", "places", "road"]) (sc := defScope s__are_roads) (by decide +kernel)) (fun _ _ _ _ _ => (pg_name (i := 2) sc__are_roads.nd rfl (by first | exact Or.inl rfl | exact Or.inr rfl))) (fun _ _ _ _ _ => pts_nil) (fun _ _ _ _ _ => (pe_callTy (k_tuple (K := K)) rfl B.tuple_ (by decide +kernel) (pa_cons (pe_callB (k_sortedTx (K := K)) rfl B.sorted_ (by decide +kernel) (pa_cons (pv 2) pa_nil)) pa_nil)))) pa_nil)) (pe_callB (k_len (K := K)) rfl B.len_ (by decide +kernel) (pa_cons (pv 0) pa_nil)) (nomark _)))))), ?_⟩
    have hl : xs.length = rs.length := by rw [DpAll.len dx, List.length_map]
    have h14 := W.le14
    repeat' (walk_at "jv")
    · omega
    · refine c_tup xs (fun D2 i H' => H D2 = none ∧ Same H H' ∧ H' D2 = some (.lst ((List.range i).map fun _ => V.bl true))) (fun D2 nD => ⟨nD, Same.upd_new nD, upd_same⟩) (fun D2 i H' _ h => TK.same h.2.1 _ _ hx) (fun D2 i y H' hy h => ?_) (fun D2 H' h => ?_)
      · obtain ⟨nD, k, e⟩ := h
        have hi : i < rs.length := by
          have := (List.getElem?_eq_some_iff.mp hy).1
          omega
        obtain ⟨d, hd, dy⟩ := DpAll.get dx hy
        rw [List.getElem?_map, List.getElem?_eq_getElem hi] at hd
        obtain rfl : roadD rs[i] = d := Option.some.inj hd
        have hm : rs[i] ∈ rs := List.getElem_mem hi
        obtain ⟨w1, w2, w3⟩ := W.ends _ hm
        repeat' (walk_at "jv")
        refine ⟨y, rs[i], tp, ps, rfl, Dp.same k _ _ dy, TK.same k _ _ hs, w1, w2, w3, fun H2 k2 => ?_⟩
        refine i_lcE (k2 _ _ e) (by rw [List.length_map, List.length_range, sizeLine_eq]; omega) ⟨nD, fun b o z => ?_, ?_⟩
        · rw [upd_ne (fun w => by rw [w, nD] at z; cases z)]
          exact k2 _ _ (k _ _ z)
        · rw [upd_same, List.range_succ, List.map_append]
          rfl
      · obtain ⟨nD, k, e⟩ := h
        refine i_nil ?_
        refine all_true (sq_lst e) ?_
        have hx2 := TK.same (K := K) k _ _ hx
        repeat' (walk_at "jv")
        refine i_sct ?_
        repeat' (walk_at "jv")
        refine s_tup xs (fun D3 i H3 => H' D3 = none ∧ Same H' H3 ∧ ∃ L : List (Addr × List Str), H3 D3 = some (TsO P w D3 L) ∧ L.length = i ∧ (∀ q ∈ L, SqT K H3 q.1 (q.2.map V.str)) ∧ ∀ q ∈ L, ∃ (j : Nat) (r : Str × Str), j < i ∧ rs[j]? = some r ∧ (q.2 = [r.1, r.2] ∨ q.2 = [r.2, r.1]))
          (fun D3 nD3 => ⟨nD3, Same.upd_new nD3, [], upd_same, rfl, fun q z => absurd z List.not_mem_nil, fun q z => absurd z List.not_mem_nil⟩) (fun D3 i H3 _ h => TK.same h.2.1 _ _ hx2) (fun D3 i y H3 hy h => ?_) (fun D3 H3 h => ?_)
        · obtain ⟨nD3, k3, L, eL, hL, sL, oL⟩ := h
          have hi : i < rs.length := by
            have := (List.getElem?_eq_some_iff.mp hy).1
            omega
          obtain ⟨d, hd, dy⟩ := DpAll.get dx hy
          rw [List.getElem?_map, List.getElem?_eq_getElem hi] at hd
          obtain rfl : roadD rs[i] = d := Option.some.inj hd
          obtain ⟨t, rfl, st⟩ := road_parts (Dp.same (k.trans k3) _ _ dy)
          repeat' (walk_at "jv")
          refine ⟨t, [rs[i].1, rs[i].2], rfl, st, fun ys p1 pm so np1 => ?_⟩
          refine i_nil ?_
          refine i_tupL (sq_lst upd_same) fun T nT => ?_
          have s1 := Same.upd_new (o := .lst (ys.map V.str)) np1
          have s2 := Same.upd_new (o := .tup (ys.map V.str)) nT
          refine ⟨T, ys, L, rfl, .inl (.inl upd_same), s2 _ _ (s1 _ _ eL), fun q hq => TK.same (s1.trans s2) _ _ (sL q hq), fun q hq e => ?_, by omega, fun L' pL => ⟨nD3, fun b o z => ?_, L', upd_same, by rw [pL.length_eq, List.length_cons, hL], fun q hq => ?_, fun q hq => ?_⟩⟩
          · obtain ⟨j, r, hj, hr2, hor⟩ := oL q hq
            have uq := List.pairwise_iff_getElem.mp W.uniq j i (by omega) hi hj
            have er : rs[j] = r := Option.some.inj ((List.getElem?_eq_getElem (by omega)).symm.trans hr2)
            rw [er] at uq
            have h2 := two_sorted pm
            rw [← e] at h2
            rcases hor with h1 | h1 <;> rcases h2 with h2 | h2 <;> rw [h1] at h2 <;> simp only [List.cons.injEq, and_true] at h2
            · exact uq.1 (Prod.ext h2.1 h2.2)
            · exact uq.2 (Prod.ext h2.1 h2.2)
            · exact uq.2 (Prod.ext h2.2 h2.1)
            · exact uq.1 (Prod.ext h2.2 h2.1)
          · rw [upd_ne (fun w => by rw [w, nD3] at z; cases z)]
            exact s2 _ _ (s1 _ _ (k3 _ _ z))
          · have tk : TK K (upd (upd H3 p1 (.lst (ys.map V.str))) T (.tup (ys.map V.str))) (upd (upd (upd H3 p1 (.lst (ys.map V.str))) T (.tup (ys.map V.str))) D3 (TsO P w D3 L')) := by
              have eD := s2 _ _ (s1 _ _ eL)
              refine TK.of_at (fun b zs z => ?_) fun b ob zs z => ?_
              · rw [upd_ne (fun w => by rw [w, eD] at z; cases z)]
                exact z
              · rw [upd_ne (fun w => by rw [w, eD] at z; cases z)]
                exact z
            rcases List.mem_cons.mp (pL.mem_iff.mp hq) with e | hq
            · subst e
              exact tk _ _ (.inl (.inl upd_same))
            · exact tk _ _ (TK.same (s1.trans s2) _ _ (sL q hq))
          · rcases List.mem_cons.mp (pL.mem_iff.mp hq) with e | hq
            · subst e
              exact ⟨i, rs[i], Nat.lt_succ_self i, List.getElem?_eq_getElem hi, two_sorted pm⟩
            · obtain ⟨j, r, h1, h2, h3⟩ := oL q hq
              exact ⟨j, r, Nat.lt_succ_of_lt h1, h2, h3⟩
        · obtain ⟨nD3, k3, L, eL, hL, sL, oL⟩ := h
          refine i_nil ?_
          refine ⟨D3, L, rfl, eL, ?_⟩
          have hx3 := TK.same (K := K) k3 _ _ hx2
          repeat' (walk_at "jv")
          rw [decide_eq_true (by rw [hL])]
          exact q _ (k.trans k3)
theorem ok_is_web (D : Dn K mg "is_web" s_is_web ["thing"]) (B : Bn mg) (C__are_places : Cl P w K mg base 2 "_are_places" ["thing"] (spArePlaces K)) (C__are_roads : Cl P w K mg base 3 "_are_roads" ["thing", "places"] (spAreRoads K)) : Cl P w K mg base 4 "is_web" ["thing"] (spIsWeb K) := by
  refine D.cl sc_is_web (fun vs H Q E h => ?_) (fun f cdv A outer s H vs Q E hr h => ?_)
  · obtain ⟨v, ps, rs, rfl, _⟩ := h
    rfl
  · obtain ⟨v, ps, rs, rfl, hd, W, q⟩ := h
    obtain ⟨t, tp, tr, xs, rfl, s1, s2, s3, d3, dr, dpl⟩ := web_parts hd
    refine ⟨_, (pss_cons (ps_if (PW.pt (pw_or (pt_not (pt_val (pe_callB (k_isi (K := K)) rfl B.isinstance_ (by decide +kernel) (pa_cons (pv 0) (pa_cons (pe_ty (T := "tuple") B.tuple_ (by decide +kernel)) pa_nil))))) (pw_or1 (pt_cmpR op_ne (pe_callB (k_len (K := K)) rfl B.len_ (by decide +kernel) (pa_cons (pv 0) pa_nil)) pe_int (nomark _))))) (pss_one (ps_ret pe_bl)) pss_nil)
      (pss_cons (ps_asg (pv 0) (kpg_tup (K := K) (n := 2) rfl (pgs_cons (pg_name (i := 1) sc_is_web.nd rfl (by first | exact Or.inl rfl | exact Or.inr rfl)) (pgs_cons (pg_name (i := 2) sc_is_web.nd rfl (by first | exact Or.inl rfl | exact Or.inr rfl)) pgs_nil))))
      (pss_one (ps_ret (pe_and (pe_c C__are_places hr (pa_cons (pv 1) pa_nil)) (pe_one (pe_c C__are_roads hr (pa_cons (pv 2) (pa_cons (pv 1) pa_nil))))))))), ?_⟩
    repeat' (walk_at "jv")
    · rename_i hne
      exact absurd rfl hne
    · refine ⟨tp, ps, rfl, s2, W.names, W.pos, W.le8, fun H2 k2 => ?_⟩
      repeat' (walk_at "jv")
      exact ⟨tr, tp, xs, ps, rs, rfl, TK.same k2 _ _ s3, DpAll.same k2 _ _ d3, TK.same k2 _ _ s2, W, fun H3 k3 => q _ (k2.trans k3)⟩
theorem ok_need_web (D : Dn K mg "need_web" s_need_web ["web"]) (B : Bn mg) (C_is_web : Cl P w K mg base 4 "is_web" ["thing"] (spIsWeb K)) : Cl P w K mg base 5 "need_web" ["web"] (spNeedWeb K) := by
  refine D.cl sc_need_web (fun vs H Q E h => ?_) (fun f cdv A outer s H vs Q E hr h => ?_)
  · obtain ⟨v, ps, rs, rfl, _⟩ := h
    rfl
  · obtain ⟨v, ps, rs, rfl, hd, W, q⟩ := h
    refine ⟨_, (pss_one (ps_if (pt_not (pt_val (pe_c C_is_web hr (pa_cons (pv 0) pa_nil)))) (pss_one ps_dead) pss_nil)), ?_⟩
    repeat' (walk_at "jv")
    refine ⟨v, ps, rs, rfl, hd, W, fun H2 k2 => ?_⟩
    repeat' (walk_at "jv")
    exact q _ k2
end
end
section
open L2 PySem PySem.Spec PyProof.Rows
abbrev s_is_order : Stmt := topS 18
theorem sc_is_order : FnScope ["web", "thing", "place"] ["web", "thing"] (defScope s_is_order) := ⟨rfl, rfl, rfl, by decide +kernel, rfl, by decide +kernel, by decide +kernel⟩
abbrev s_need_order : Stmt := topS 17
theorem sc_need_order : FnScope ["web", "order"] ["web", "order"] (defScope s_need_order) := ⟨rfl, rfl, rfl, by decide +kernel, rfl, by decide +kernel, by decide +kernel⟩
abbrev s_need_ordered : Stmt := topS 23
theorem sc_need_ordered : FnScope ["web", "order"] ["web", "order"] (defScope s_need_ordered) := ⟨rfl, rfl, rfl, by decide +kernel, rfl, by decide +kernel, by decide +kernel⟩
section
variable {base : Heap} {P : Program} {w : World} {K : PySem.W.Frag} {mg : Str → Option Value}
theorem ok_is_order (D : Dn K mg "is_order" s_is_order ["web", "thing"]) (B : Bn mg) (C_is_one_of : Cl P w K mg base 1 "is_one_of" ["thing", "places"] (spIsOneOf K)) : Cl P w K mg base 2 "is_order" ["web", "thing"] (spIsOrder K) := by
  refine D.cl sc_is_order (fun vs H Q E h => ?_) (fun f cdv A outer s H vs Q E hr h => ?_)
  · obtain ⟨v, o, qs, ps, rs, rfl, _⟩ := h
    rfl
  · obtain ⟨v, o, qs, ps, rs, rfl, hd, W, ho, pm, q⟩ := h
    obtain ⟨t, tp, tr, xs, rfl, s1, s2, s3, d3, dr, dpl⟩ := web_parts hd
    have nd := W.names.1
    have h8 := W.le8
    have hs := s2
    refine ⟨_, (pss_cons (ps_if (PW.pt (pw_or (pt_not (pt_val (pe_callB (k_isi (K := K)) rfl B.isinstance_ (by decide +kernel) (pa_cons (pv 1) (pa_cons (pe_ty (T := "tuple") B.tuple_ (by decide +kernel)) pa_nil))))) (pw_or1 (pt_cmpR op_ne (pe_callB (k_len (K := K)) rfl B.len_ (by decide +kernel) (pa_cons (pv 1) pa_nil)) (pe_callB (k_len (K := K)) rfl B.len_ (by decide +kernel) (pa_cons (pe_ix (k_ixT (K := K)) (pv 0) pe_int (fun _ _ => rfl)) pa_nil)) (nomark _))))) (pss_one (ps_ret pe_bl)) pss_nil)
      (pss_one (ps_ret (pe_and (pe_callB (k_all (K := K) rfl) rfl B.all_ (by decide +kernel) (pa_cons (pe_lc (own := [("place", 2)]) rfl sc_is_order.nd (kpi_tup (K := K) (pv 1)) (blkOk_by (N := ["web", "thing", "place"]) (sc := defScope s_is_order) (by decide +kernel)) (fun _ _ _ _ _ => (pg_name (i := 2) sc_is_order.nd rfl (by first | exact Or.inl rfl | exact Or.inr rfl))) (fun _ _ _ _ _ => pts_nil) (fun _ _ _ _ _ => (pe_c C_is_one_of hr (pa_cons (pv 2) (pa_cons (pe_ix (k_ixT (K := K)) (pv 0) pe_int (fun _ _ => rfl)) pa_nil))))) pa_nil)) (pe_one (pe_cmpR op_eq (pe_callB (cr_lenTexts) rfl B.len_ (by decide +kernel) (pa_cons (pe_callTy (cr_setTexts rfl) rfl B.set_ (by decide +kernel) (pa_cons (pv 1) pa_nil)) pa_nil)) (pe_callB (k_len (K := K)) rfl B.len_ (by decide +kernel) (pa_cons (pv 1) pa_nil)) (nomark _))))))), ?_⟩
    have hl : (qs.map V.str).length = qs.length := List.length_map ..
    have hl2 : (ps.map V.str).length = ps.length := List.length_map ..
    have hpl := pm.length_eq
    repeat' (walk_at "jv")
    · omega
    · refine c_tup (qs.map V.str) (fun D2 i H' => H D2 = none ∧ Same H H' ∧ H' D2 = some (.lst ((List.range i).map fun _ => V.bl true))) (fun D2 nD => ⟨nD, Same.upd_new nD, upd_same⟩) (fun D2 i H' _ h => TK.same h.2.1 _ _ ho) (fun D2 i y H' hy h => ?_) (fun D2 H' h => ?_)
      · obtain ⟨nD, k, e⟩ := h
        have hi : i < qs.length := by
          have := (List.getElem?_eq_some_iff.mp hy).1
          omega
        rw [List.getElem?_map, List.getElem?_eq_getElem hi] at hy
        obtain rfl : V.str qs[i] = y := Option.some.inj hy
        have s1' := TK.same (K := K) k _ _ s1
        repeat' (walk_at "jv")
        refine ⟨qs[i], tp, ps, rfl, TK.same k _ _ hs, pm.mem_iff.mp (List.getElem_mem hi), ?_⟩
        refine i_lcE e (by rw [List.length_map, List.length_range, sizeLine_eq]; omega) ⟨nD, fun b o z => ?_, ?_⟩
        · rw [upd_ne (fun w => by rw [w, nD] at z; cases z)]
          exact k _ _ z
        · rw [upd_same, List.range_succ, List.map_append]
          rfl
      · obtain ⟨nD, k, e⟩ := h
        refine i_nil ?_
        refine all_true (sq_lst e) ?_
        have ho2 := TK.same (K := K) k _ _ ho
        repeat' (walk_at "jv")
        refine ⟨o, qs, rfl, ho2, pm.nodup_iff.mpr nd, by omega, fun D3 nD3 => ?_⟩
        refine i_nil ?_
        refine ⟨D3, qs, rfl, upd_same, ?_⟩
        have sm3 := Same.upd_new (o := TxsO P w D3 qs) nD3
        have hs3 := TK.same (K := K) sm3 _ _ ho2
        repeat' (walk_at "jv")
        rw [decide_eq_true (by rw [hl])]
        exact q _ (k.trans sm3)
theorem ok_need_order (D : Dn K mg "need_order" s_need_order ["web", "order"]) (B : Bn mg) (C_is_order : Cl P w K mg base 2 "is_order" ["web", "thing"] (spIsOrder K)) : Cl P w K mg base 3 "need_order" ["web", "order"] (spNeedOrder K) := by
  refine D.cl sc_need_order (fun vs H Q E h => ?_) (fun f cdv A outer s H vs Q E hr h => ?_)
  · obtain ⟨v, o, qs, ps, rs, rfl, _⟩ := h
    rfl
  · obtain ⟨v, o, qs, ps, rs, rfl, hd, W, ho, pm, q⟩ := h
    refine ⟨_, (pss_one (ps_if (pt_not (pt_val (pe_c C_is_order hr (pa_cons (pv 0) (pa_cons (pv 1) pa_nil))))) (pss_one ps_dead) pss_nil)), ?_⟩
    repeat' (walk_at "jv")
    refine ⟨v, o, qs, ps, rs, rfl, hd, W, ho, pm, fun H2 k2 => ?_⟩
    repeat' (walk_at "jv")
    exact q _ k2
theorem ok_need_ordered (D : Dn K mg "need_ordered" s_need_ordered ["web", "order"]) (B : Bn mg) (C_need_web : Cl P w K mg base 5 "need_web" ["web"] (spNeedWeb K)) (C_need_order : Cl P w K mg base 3 "need_order" ["web", "order"] (spNeedOrder K)) : Cl P w K mg base 6 "need_ordered" ["web", "order"] (spNeedOrder K) := by
  refine D.cl sc_need_ordered (fun vs H Q E h => ?_) (fun f cdv A outer s H vs Q E hr h => ?_)
  · obtain ⟨v, o, qs, ps, rs, rfl, _⟩ := h
    rfl
  · obtain ⟨v, o, qs, ps, rs, rfl, hd, W, ho, pm, q⟩ := h
    refine ⟨_, (pss_cons (ps_expr (pe_c C_need_web hr (pa_cons (pv 0) pa_nil)))
      (pss_one (ps_expr (pe_c C_need_order hr (pa_cons (pv 0) (pa_cons (pv 1) pa_nil)))))), ?_⟩
    repeat' (walk_at "jv")
    refine ⟨v, ps, rs, rfl, hd, W, fun H2 k2 => ?_⟩
    repeat' (walk_at "jv")
    refine ⟨v, o, qs, ps, rs, rfl, Dp.same k2 _ _ hd, W, TK.same k2 _ _ ho, pm, fun H3 k3 => ?_⟩
    repeat' (walk_at "jv")
    exact q _ (k2.trans k3)
end
end
section
open L2 PySem PySem.Spec PyProof.Rows
abbrev s__law_wide_web : Stmt := topS 44
theorem sc__law_wide_web : FnScope ["_law_feed_here", "_law_letters", "_law_places", "_law_at", "_law_signs", "_law_pairs", "_law_roads", "_law_one_here", "_law_other", "_law_turn"] ["_law_feed_here"] (defScope s__law_wide_web) := ⟨rfl, rfl, rfl, by decide +kernel, rfl, by decide +kernel, by decide +kernel⟩
def nm (ns : List Str) (i : Nat) : Str := ns.getD i Str.empty
def pd (ns : List Str) (p : Nat × Nat) : PyData := roadD (nm ns p.2, nm ns p.1)
theorem shp_99 {p : Nat × Nat} (h : Shp n99 p) : False := by
  obtain ⟨_, _, r, e⟩ := h
  have e0 : n99.cps.toList = [110, 111, 110, 101, 57, 57] := by decide +kernel
  rw [e0] at e
  have e2 := congrArg List.reverse e
  have e3 : ([110, 111, 110, 101, 57, 57] : List Nat).reverse = [57, 57, 101, 110, 111, 110] := rfl
  rw [e3, List.reverse_append, List.reverse_cons, List.reverse_replicate] at e2
  cases h2 : p.2 with
  | zero =>
    rw [h2] at e2
    have := (List.cons.inj e2).1
    omega
  | succ n =>
    rw [h2, List.replicate_succ] at e2
    have := (List.cons.inj e2).1
    omega
theorem WNm.no99 {ns : List Str} {ks : List (Nat × Nat)} (h : WNm ns ks) : n99 ∉ ns := fun hz => by
  obtain ⟨k, hk⟩ := List.getElem?_of_mem hz
  have hk1 := (List.getElem?_eq_some_iff.mp hk).1
  have hk2 : k < ks.length := by have := h.len; omega
  exact shp_99 (h.shp k _ _ hk (List.getElem?_eq_getElem hk2))
theorem nm_at {ns : List Str} {k : Nat} (h : k < ns.length) : ns[k]? = some (nm ns k) := by
  unfold nm
  rw [List.getD_eq_getElem?_getD, List.getElem?_eq_getElem h]
  rfl
theorem nm_ix {ns : List Str} {k : Nat} (h : k < ns.length) : atI (ns.map V.str) (k : Int) = some (.str (nm ns k)) := atI_nat (by rw [List.getElem?_map, nm_at h]; rfl)
theorem pd_only (ns : List Str) : ∀ pl : List (Nat × Nat), tupOnlyAll (pl.map (pd ns)) = true
  | [] => rfl
  | p :: pl => by
    show (tupOnly (pd ns p) && tupOnlyAll (pl.map (pd ns))) = true
    rw [pd_only ns pl]
    rfl
theorem i_cont {σ : L2.St} {H : Hp} {n : L2.St → Hp → Prop} {r : VK} {b c : L2.St → Hp → Prop} (h : c σ H) : tCont ⟨n, r, b, c⟩ σ H := h
section
variable {base : Heap} {P : Program} {w : World} {K : PySem.W.Frag} {mg : Str → Option Value}
theorem ok_wide3 (D : Dn K mg "_law_wide_web" s__law_wide_web ["_law_feed_here"]) (B : Bn mg) (C__law_draw : Cl P w K mg base 1 "_law_draw" ["_law_feed_here", "_law_many"] spDraw) (C__law_one : Cl P w K mg base 2 "_law_one" ["_law_feed_here", "_law_things"] (spOne K))
    (C__law_mixed : Cl P w K mg base 2 "_law_mixed" ["_law_feed_here", "_law_things"] (spMixed K)) : Cl P w K mg base 3 "_law_wide_web" ["_law_feed_here"] (spWideN K) := by
  refine D.cl sc__law_wide_web (fun vs H Q E h => ?_) (fun f cdv A outer s H vs Q E hr h => ?_)
  · obtain ⟨a, c, rfl, _⟩ := h
    rfl
  · obtain ⟨a, c, rfl, hf, hc, q⟩ := h
    refine ⟨_, (pss_cons (ps_asg (pe_tup (pa_cons pe_str (pa_cons (pe_lst pa_nil) pa_nil))) (kpg_tup (K := K) (n := 2) rfl (pgs_cons (pg_name (i := 1) sc__law_wide_web.nd rfl (by first | exact Or.inl rfl | exact Or.inr rfl)) (pgs_cons (pg_name (i := 2) sc__law_wide_web.nd rfl (by first | exact Or.inl rfl | exact Or.inr rfl)) pgs_nil))))
      (pss_cons (ps_for PassesOwn.never rfl (pi_range1 rfl B.range_ (pa_cons (pe_op op_add pe_int (pe_c C__law_draw hr (pa_cons (pv 0) (pa_cons pe_int pa_nil)))) pa_nil)) (pg_name (i := 3) sc__law_wide_web.nd rfl (by first | exact Or.inl rfl | exact Or.inr rfl)) (pss_cons (ps_if (PW.pt (pw_and (pt_cmpR (k_neD (K := K) hr.units) (pv 2) (pe_lst pa_nil) (nomark _)) (pw_and (pt_cmpR op_lt (pe_callB (call_len_str) rfl B.len_ (by decide +kernel) (pa_cons (pe_ix (k_ixL (K := K)) (pv 2) (pe_un un_neg pe_int) (fun _ _ => rfl)) pa_nil)) pe_int (nomark _)) (pw_and1 (pt_cmpR op_eq (pe_c C__law_draw hr (pa_cons (pv 0) (pa_cons pe_int pa_nil))) pe_int (nomark _)))))) (pss_cons (ps_expr (pe_bm PySem.F.plainAttrs_list PySem.F.slot_list_append PySem.F.type_list_append mt_append (pv 2) (pa_cons (pe_op o_addS (pe_ix (k_ixL (K := K)) (pv 2) (pe_un un_neg pe_int) (fun _ _ => rfl)) pe_str) pa_nil)))
      (pss_one ps_continue)) pss_nil)
      (pss_cons (ps_set (i := 4) sc__law_wide_web.nd rfl (by first | exact Or.inl rfl | exact Or.inr rfl) (pe_op op_cat (pe_lst (pa_cons (pe_its (pv 1) (pe_c C__law_draw hr (pa_cons (pv 0) (pa_cons pe_int pa_nil))) (fun _ _ => rfl)) pa_nil)) (pe_lc (own := [("_law_turn", 9)]) rfl sc__law_wide_web.nd (pi_range1 rfl B.range_ (pa_cons (pe_c C__law_one hr (pa_cons (pv 0) (pa_cons (pe_lst (pa_cons pe_int (pa_cons pe_int (pa_cons pe_int pa_nil)))) pa_nil))) pa_nil)) (blkOk_by (N := ["_law_feed_here", "_law_letters", "_law_places", "_law_at", "_law_signs", "_law_pairs", "_law_roads", "_law_one_here", "_law_other", "_law_turn"]) (sc := defScope s__law_wide_web) (by decide +kernel)) (fun _ _ _ _ _ => (pg_name (i := 9) sc__law_wide_web.nd rfl (by first | exact Or.inl rfl | exact Or.inr rfl))) (fun _ _ _ _ _ => pts_nil) (fun _ _ _ _ _ => (pe_its pe_str (pe_c C__law_draw hr (pa_cons (pv 0) (pa_cons pe_int pa_nil))) (fun _ _ => rfl))))))
      (pss_one (ps_expr (pe_bm PySem.F.plainAttrs_list PySem.F.slot_list_append PySem.F.type_list_append mt_append (pv 2) (pa_cons (kpe_join (K := K) pe_str (pe_op op_cat (pv 4) (pe_lst (pa_cons (pe_its (pv 1) (pv 3) (fun _ _ => rfl)) pa_nil)))) pa_nil)))))))
      (pss_cons (ps_par (i := 5) (j := 6) rfl sc__law_wide_web.nd rfl rfl (by decide) rfl rfl (pa_cons (pe_lst pa_nil) (pa_cons (pe_lst pa_nil) pa_nil)) (by rfl))
      (pss_cons (ps_for PassesOwn.never rfl (pi_range1 rfl B.range_ (pa_cons (pe_callB (k_len (K := K)) rfl B.len_ (by decide +kernel) (pa_cons (pv 2) pa_nil)) pa_nil)) (pg_name (i := 7) sc__law_wide_web.nd rfl (by first | exact Or.inl rfl | exact Or.inr rfl)) (pss_one (ps_expr (pe_bm PySem.F.plainAttrs_list PySem.F.slot_list_extend PySem.F.type_list_extend mt_extend (pv 5) (pa_cons (pe_lc (own := [("_law_other", 8)]) rfl sc__law_wide_web.nd (pi_range1 rfl B.range_ (pa_cons (pv 7) pa_nil)) (blkOk_by (N := ["_law_feed_here", "_law_letters", "_law_places", "_law_at", "_law_signs", "_law_pairs", "_law_roads", "_law_one_here", "_law_other", "_law_turn"]) (sc := defScope s__law_wide_web) (by decide +kernel)) (fun _ _ _ _ _ => (pg_name (i := 8) sc__law_wide_web.nd rfl (by first | exact Or.inl rfl | exact Or.inr rfl))) (fun _ _ _ _ _ => pts_nil) (fun _ _ _ _ _ => (pe_tup (pa_cons (pe_ix (k_ixL (K := K)) (pv 2) (pv 7) (fun _ _ => rfl)) (pa_cons (pe_ix (k_ixL (K := K)) (pv 2) (pv 8) (fun _ _ => rfl)) pa_nil))))) pa_nil)))))
      (pss_cons (ps_for PassesOwn.never rfl (kpi_list (K := K) (pe_slice (k_slL (K := K)) (pe_c C__law_mixed hr (pa_cons (pv 0) (pa_cons (pv 5) pa_nil))) po_none (po_some (pe_c C__law_one hr (pa_cons (pv 0) (pa_cons (pe_lst (pa_cons pe_int (pa_cons pe_int (pa_cons pe_int (pa_cons pe_int pa_nil))))) pa_nil)))))) (kpg_tup (K := K) (n := 2) rfl (pgs_cons (pg_name (i := 7) sc__law_wide_web.nd rfl (by first | exact Or.inl rfl | exact Or.inr rfl)) (pgs_cons (pg_name (i := 8) sc__law_wide_web.nd rfl (by first | exact Or.inl rfl | exact Or.inr rfl)) pgs_nil))) (pss_one (ps_expr (pe_bm PySem.F.plainAttrs_list PySem.F.slot_list_append PySem.F.type_list_append mt_append (pv 6) (pa_cons (pe_ifExp (pt_cmpR op_eq (pe_c C__law_draw hr (pa_cons (pv 0) (pa_cons pe_int pa_nil))) pe_int (nomark _)) (pe_tup (pa_cons (pv 7) (pa_cons (pv 8) pa_nil))) (pe_tup (pa_cons (pv 8) (pa_cons (pv 7) pa_nil)))) pa_nil)))))
      (pss_one (ps_ret (pe_tup (pa_cons (pe_callTy (k_tupleF (K := K)) rfl B.tuple_ (by decide +kernel) (pa_cons (pe_c C__law_mixed hr (pa_cons (pv 0) (pa_cons (pv 2) pa_nil))) pa_nil)) (pa_cons (pe_callTy (k_tuple (K := K)) rfl B.tuple_ (by decide +kernel) (pa_cons (pv 6) pa_nil)) pa_nil)))))))))), ?_⟩
    repeat' (walk_at "jv")
    intro L nL
    have dL := hf.ne nL
    have kk : Ch a H (upd H L (.lst [])) := Ch.upd_new nL
    have f1 : Fd (upd H L (.lst [])) a c := hf.upd (Ne.symm dL)
    have eL : (upd H L (.lst [])) L = some (.lst (([] : List Str).map V.str)) := upd_same
    generalize upd H L (.lst []) = H1 at *
    clear hf
    repeat' (walk_at "jv")
    intro T nT
    have kT := Same.upd_new (o := .tup [.str abc, .ref L]) nT
    have eT : SqT K (upd H1 T (.tup [.str abc, .ref L])) T [.str abc, .ref L] := sq_tup upd_same
    first | replace kk := HF.same kk kT | replace kk := WF.same kk kT | replace kk := FT.same kk kT | replace kk := Fd.same kk kT | replace kk := LsD.same kk kT | replace kk := TK.same kT _ _ kk | replace kk := KeysT.tk kk (TK.same kT) | replace kk := KeysU.tk kk (TK.same kT) | replace kk := KeysN.tk kk (TK.same kT) | replace kk := DayV.tk kk (TK.same kT) | replace kk := Dp.same kT _ _ kk | replace kk := DpAll.same kT _ _ kk | replace kk := kT _ _ kk | replace kk := Ch.trans kk (Ch.of_same kT) | replace kk := Same.trans kk kT | replace kk := stepsAt.same kk kT | replace kk := DpT.same kk kT | replace kk := LOr.same kk kT | replace kk := Ob.same kk kT | replace kk := Gds.same kk kT | replace kk := Gd2.same kk kT | replace kk := Ob2.same kk kT | replace kk := NE.same kk kT | replace kk := NT.same kk kT | replace kk := NEs.same kk kT | replace kk := NX.same kk kT | replace kk := EMs.same kk kT | replace kk := EOs.same kk kT | replace kk := EO.same kk kT | replace kk := GT.same kk kT | replace kk := GTs.same kk kT | replace kk := RB.same kk kT | replace kk := RBs.same kk kT | replace kk := RB2s.same kk kT | replace kk := GR.same kk kT | replace kk := GRs.same kk kT | replace kk := NO.same kk kT | replace kk := NOs.same kk kT | replace kk := NZ.same kk kT | replace kk := NB.same kk kT | replace kk := NBs.same kk kT | replace kk := NQ.same kk kT | replace kk := NQs.same kk kT | replace kk := NX'.same kk kT
    first | replace f1 := HF.same f1 kT | replace f1 := WF.same f1 kT | replace f1 := FT.same f1 kT | replace f1 := Fd.same f1 kT | replace f1 := LsD.same f1 kT | replace f1 := TK.same kT _ _ f1 | replace f1 := KeysT.tk f1 (TK.same kT) | replace f1 := KeysU.tk f1 (TK.same kT) | replace f1 := KeysN.tk f1 (TK.same kT) | replace f1 := DayV.tk f1 (TK.same kT) | replace f1 := Dp.same kT _ _ f1 | replace f1 := DpAll.same kT _ _ f1 | replace f1 := kT _ _ f1 | replace f1 := Ch.trans f1 (Ch.of_same kT) | replace f1 := Same.trans f1 kT | replace f1 := stepsAt.same f1 kT | replace f1 := DpT.same f1 kT | replace f1 := LOr.same f1 kT | replace f1 := Ob.same f1 kT | replace f1 := Gds.same f1 kT | replace f1 := Gd2.same f1 kT | replace f1 := Ob2.same f1 kT | replace f1 := NE.same f1 kT | replace f1 := NT.same f1 kT | replace f1 := NEs.same f1 kT | replace f1 := NX.same f1 kT | replace f1 := EMs.same f1 kT | replace f1 := EOs.same f1 kT | replace f1 := EO.same f1 kT | replace f1 := GT.same f1 kT | replace f1 := GTs.same f1 kT | replace f1 := RB.same f1 kT | replace f1 := RBs.same f1 kT | replace f1 := RB2s.same f1 kT | replace f1 := GR.same f1 kT | replace f1 := GRs.same f1 kT | replace f1 := NO.same f1 kT | replace f1 := NOs.same f1 kT | replace f1 := NZ.same f1 kT | replace f1 := NB.same f1 kT | replace f1 := NBs.same f1 kT | replace f1 := NQ.same f1 kT | replace f1 := NQs.same f1 kT | replace f1 := NX'.same f1 kT
    first | replace eL := HF.same eL kT | replace eL := WF.same eL kT | replace eL := FT.same eL kT | replace eL := Fd.same eL kT | replace eL := LsD.same eL kT | replace eL := TK.same kT _ _ eL | replace eL := KeysT.tk eL (TK.same kT) | replace eL := KeysU.tk eL (TK.same kT) | replace eL := KeysN.tk eL (TK.same kT) | replace eL := DayV.tk eL (TK.same kT) | replace eL := Dp.same kT _ _ eL | replace eL := DpAll.same kT _ _ eL | replace eL := kT _ _ eL | replace eL := Ch.trans eL (Ch.of_same kT) | replace eL := Same.trans eL kT | replace eL := stepsAt.same eL kT | replace eL := DpT.same eL kT | replace eL := LOr.same eL kT | replace eL := Ob.same eL kT | replace eL := Gds.same eL kT | replace eL := Gd2.same eL kT | replace eL := Ob2.same eL kT | replace eL := NE.same eL kT | replace eL := NT.same eL kT | replace eL := NEs.same eL kT | replace eL := NX.same eL kT | replace eL := EMs.same eL kT | replace eL := EOs.same eL kT | replace eL := EO.same eL kT | replace eL := GT.same eL kT | replace eL := GTs.same eL kT | replace eL := RB.same eL kT | replace eL := RBs.same eL kT | replace eL := RB2s.same eL kT | replace eL := GR.same eL kT | replace eL := GRs.same eL kT | replace eL := NO.same eL kT | replace eL := NOs.same eL kT | replace eL := NZ.same eL kT | replace eL := NB.same eL kT | replace eL := NBs.same eL kT | replace eL := NQ.same eL kT | replace eL := NQs.same eL kT | replace eL := NX'.same eL kT
    generalize hG : upd H1 T (.tup [.str abc, .ref L]) = H2 at *
    have hG' : upd H1 T (.tup [.str "abcdefghijklmnopqrstuvwxyz", .ref L]) = H2 := hG
    rw [hG']
    clear kT nT hG hG' H1
    refine i_gtup eT rfl ?_
    repeat' (walk_at "jv")
    refine ⟨a, 3, c, rfl, f1, by decide, by decide, by omega, fun x H3 x0 x1 f2 k2 => ?_⟩
    replace eL := k2 _ _ dL eL
    replace kk := kk.trans k2
    clear f1 k2 eT H2
    obtain ⟨x, rfl⟩ := Int.eq_ofNat_of_zero_le x0
    repeat' (walk_at "jv")
    have en : (6 + (x : Int)).toNat = 6 + x := by omega
    refine f_range (fun i σ H' => ∃ y3 y4 ns ks, σ = [some (.ref a), some (.str abc), some (.ref L), y3, y4, none, none, none, none, none] ∧ H' L = some (.lst (ns.map V.str)) ∧ WNm ns ks ∧ ns.length = i ∧ Fd H' a (c + 1 + 20 * i) ∧ Ch a H H') ⟨none, none, [], [], rfl, eL, WNm.nil, rfl, f2.mono (by omega), kk⟩ (fun i σ H4 hi h => ?_) (fun σ H4 h => ?_)
    · clear eL kk f2 H3
      obtain ⟨y3, y4, ns, ks, rfl, eL, wn, hn, f3, kk⟩ := h
      rw [en] at hi
      have nmo : ∀ z ∈ ns, nmOk z = true := wn.names.2
      have e0 : (0 : Int) + (i : Int) = (i : Int) := by omega
      rw [e0]
      have hml : (ns.map V.str).length = ns.length := List.length_map ..
      refine i_gname ?_
      refine i_seq ?_
      refine i_cutS (fun σ' H' => σ' = [some (.ref a), some (.str abc), some (.ref L), some (.int i), y4, none, none, none, none, none] ∧ H' L = some (.lst (ns.map V.str)) ∧ Fd H' a (c + 3 + 20 * i) ∧ Ch a H H') (fun N hN => ?_) (fun σ' H5 h' => ?_)
      · repeat' (walk_at "jv")
        intro E nE
        have kE := Same.upd_new (o := .lst []) nE
        have eE : (upd H4 E (.lst [])) E = some (.lst []) := upd_same
        first | replace eL := HF.same eL kE | replace eL := WF.same eL kE | replace eL := FT.same eL kE | replace eL := Fd.same eL kE | replace eL := LsD.same eL kE | replace eL := TK.same kE _ _ eL | replace eL := KeysT.tk eL (TK.same kE) | replace eL := KeysU.tk eL (TK.same kE) | replace eL := KeysN.tk eL (TK.same kE) | replace eL := DayV.tk eL (TK.same kE) | replace eL := Dp.same kE _ _ eL | replace eL := DpAll.same kE _ _ eL | replace eL := kE _ _ eL | replace eL := Ch.trans eL (Ch.of_same kE) | replace eL := Same.trans eL kE | replace eL := stepsAt.same eL kE | replace eL := DpT.same eL kE | replace eL := LOr.same eL kE | replace eL := Ob.same eL kE | replace eL := Gds.same eL kE | replace eL := Gd2.same eL kE | replace eL := Ob2.same eL kE | replace eL := NE.same eL kE | replace eL := NT.same eL kE | replace eL := NEs.same eL kE | replace eL := NX.same eL kE | replace eL := EMs.same eL kE | replace eL := EOs.same eL kE | replace eL := EO.same eL kE | replace eL := GT.same eL kE | replace eL := GTs.same eL kE | replace eL := RB.same eL kE | replace eL := RBs.same eL kE | replace eL := RB2s.same eL kE | replace eL := GR.same eL kE | replace eL := GRs.same eL kE | replace eL := NO.same eL kE | replace eL := NOs.same eL kE | replace eL := NZ.same eL kE | replace eL := NB.same eL kE | replace eL := NBs.same eL kE | replace eL := NQ.same eL kE | replace eL := NQs.same eL kE | replace eL := NX'.same eL kE
        first | replace f3 := HF.same f3 kE | replace f3 := WF.same f3 kE | replace f3 := FT.same f3 kE | replace f3 := Fd.same f3 kE | replace f3 := LsD.same f3 kE | replace f3 := TK.same kE _ _ f3 | replace f3 := KeysT.tk f3 (TK.same kE) | replace f3 := KeysU.tk f3 (TK.same kE) | replace f3 := KeysN.tk f3 (TK.same kE) | replace f3 := DayV.tk f3 (TK.same kE) | replace f3 := Dp.same kE _ _ f3 | replace f3 := DpAll.same kE _ _ f3 | replace f3 := kE _ _ f3 | replace f3 := Ch.trans f3 (Ch.of_same kE) | replace f3 := Same.trans f3 kE | replace f3 := stepsAt.same f3 kE | replace f3 := DpT.same f3 kE | replace f3 := LOr.same f3 kE | replace f3 := Ob.same f3 kE | replace f3 := Gds.same f3 kE | replace f3 := Gd2.same f3 kE | replace f3 := Ob2.same f3 kE | replace f3 := NE.same f3 kE | replace f3 := NT.same f3 kE | replace f3 := NEs.same f3 kE | replace f3 := NX.same f3 kE | replace f3 := EMs.same f3 kE | replace f3 := EOs.same f3 kE | replace f3 := EO.same f3 kE | replace f3 := GT.same f3 kE | replace f3 := GTs.same f3 kE | replace f3 := RB.same f3 kE | replace f3 := RBs.same f3 kE | replace f3 := RB2s.same f3 kE | replace f3 := GR.same f3 kE | replace f3 := GRs.same f3 kE | replace f3 := NO.same f3 kE | replace f3 := NOs.same f3 kE | replace f3 := NZ.same f3 kE | replace f3 := NB.same f3 kE | replace f3 := NBs.same f3 kE | replace f3 := NQ.same f3 kE | replace f3 := NQs.same f3 kE | replace f3 := NX'.same f3 kE
        first | replace kk := HF.same kk kE | replace kk := WF.same kk kE | replace kk := FT.same kk kE | replace kk := Fd.same kk kE | replace kk := LsD.same kk kE | replace kk := TK.same kE _ _ kk | replace kk := KeysT.tk kk (TK.same kE) | replace kk := KeysU.tk kk (TK.same kE) | replace kk := KeysN.tk kk (TK.same kE) | replace kk := DayV.tk kk (TK.same kE) | replace kk := Dp.same kE _ _ kk | replace kk := DpAll.same kE _ _ kk | replace kk := kE _ _ kk | replace kk := Ch.trans kk (Ch.of_same kE) | replace kk := Same.trans kk kE | replace kk := stepsAt.same kk kE | replace kk := DpT.same kk kE | replace kk := LOr.same kk kE | replace kk := Ob.same kk kE | replace kk := Gds.same kk kE | replace kk := Gd2.same kk kE | replace kk := Ob2.same kk kE | replace kk := NE.same kk kE | replace kk := NT.same kk kE | replace kk := NEs.same kk kE | replace kk := NX.same kk kE | replace kk := EMs.same kk kE | replace kk := EOs.same kk kE | replace kk := EO.same kk kE | replace kk := GT.same kk kE | replace kk := GTs.same kk kE | replace kk := RB.same kk kE | replace kk := RBs.same kk kE | replace kk := RB2s.same kk kE | replace kk := GR.same kk kE | replace kk := GRs.same kk kE | replace kk := NO.same kk kE | replace kk := NOs.same kk kE | replace kk := NZ.same kk kE | replace kk := NB.same kk kE | replace kk := NBs.same kk kE | replace kk := NQ.same kk kE | replace kk := NQs.same kk kE | replace kk := NX'.same kk kE
        generalize upd H4 E (.lst []) = H5 at *
        clear kE nE H4
        refine i_neNil (sq_lst eL) (sq_lst eE) nmo ?_
        refine ⟨_, rfl, ?_⟩
        by_cases hne : ns = []
        · subst hne
          repeat' (walk_at "jv")
          exact hN _ _ ⟨rfl, eL, f3.mono (by omega), kk⟩
        · have hp : 0 < ns.length := List.length_pos_iff.mpr hne
          have hlt : ns.length - 1 < ns.length := by omega
          have hz : ns[ns.length - 1]? = some ns[ns.length - 1] := List.getElem?_eq_getElem hlt
          generalize ns[ns.length - 1] = z at hz
          have hlast : ns.getLast? = some z := by rw [List.getLast?_eq_getElem?]; exact hz
          have hat : atI (ns.map V.str) (-1) = some (.str z) := at_end (i := ns.length - 1) (by omega) (by rw [List.getElem?_map, hz]; rfl)
          have z8 : z.length ≤ 8 := nm_size (nmo z (List.mem_of_getElem? hz))
          have eem : (!ns.isEmpty) = true := by
            cases ns with
            | nil => exact absurd rfl hne
            | cons x r => rfl
          rw [eem]
          repeat' (walk_at "jv")
          refine ⟨z, rfl, by rw [sizeLine_eq]; omega, ?_⟩
          repeat' (walk_at "jv")
          · rename_i z7
            refine ⟨a, 3, _, rfl, f3, by decide, by decide, by omega, fun y H6 y0 y1 f4 k4 => ?_⟩
            replace eL := k4 _ _ dL eL
            replace kk := kk.trans k4
            clear f3 k4 eE H5
            repeat' (walk_at "jv")
            · refine ⟨z, "1", rfl, rfl, by rw [sizeLine_eq]; show _ + 1 ≤ _; omega, ?_⟩
              repeat' (walk_at "jv")
              obtain ⟨p, wn2⟩ := wn.one hlast (by omega)
              refine i_cont ?_
              refine ⟨_, _, ns ++ [z ++ "1"], ks ++ [p], rfl, by rw [upd_same, List.map_append]; rfl, wn2, by rw [List.length_append, hn]; rfl, (f4.upd (q := L) (Ne.symm dL)).mono (by omega), kk.upd_l nL⟩
            · exact hN _ _ ⟨rfl, eL, f4.mono (by omega), kk⟩
          · exact hN _ _ ⟨rfl, eL, f3.mono (by omega), kk⟩
      · obtain ⟨rfl, eL, f3, kk⟩ := h'
        repeat' (walk_at "jv")
        refine ⟨a, 26, _, rfl, f3, by decide, by decide, by omega, fun x2 H6 x20 x21 f4 k4 => ?_⟩
        replace eL := k4 _ _ dL eL
        replace kk := kk.trans k4
        clear f3 k4 H5
        obtain ⟨x2, rfl⟩ := Int.eq_ofNat_of_zero_le x20
        refine i_abc (by omega) (by omega) ?_
        repeat' (walk_at "jv")
        intro LA nLA
        have dLA := f4.ne nLA
        have kA := Same.upd_new (o := .lst [.str ⟨#[97 + ((x2 : Nat) : Int).toNat]⟩]) nLA
        have eA : (upd H6 LA (.lst [.str ⟨#[97 + ((x2 : Nat) : Int).toNat]⟩])) LA = some (.lst [.str ⟨#[97 + ((x2 : Nat) : Int).toNat]⟩]) := upd_same
        first | replace eL := HF.same eL kA | replace eL := WF.same eL kA | replace eL := FT.same eL kA | replace eL := Fd.same eL kA | replace eL := LsD.same eL kA | replace eL := TK.same kA _ _ eL | replace eL := KeysT.tk eL (TK.same kA) | replace eL := KeysU.tk eL (TK.same kA) | replace eL := KeysN.tk eL (TK.same kA) | replace eL := DayV.tk eL (TK.same kA) | replace eL := Dp.same kA _ _ eL | replace eL := DpAll.same kA _ _ eL | replace eL := kA _ _ eL | replace eL := Ch.trans eL (Ch.of_same kA) | replace eL := Same.trans eL kA | replace eL := stepsAt.same eL kA | replace eL := DpT.same eL kA | replace eL := LOr.same eL kA | replace eL := Ob.same eL kA | replace eL := Gds.same eL kA | replace eL := Gd2.same eL kA | replace eL := Ob2.same eL kA | replace eL := NE.same eL kA | replace eL := NT.same eL kA | replace eL := NEs.same eL kA | replace eL := NX.same eL kA | replace eL := EMs.same eL kA | replace eL := EOs.same eL kA | replace eL := EO.same eL kA | replace eL := GT.same eL kA | replace eL := GTs.same eL kA | replace eL := RB.same eL kA | replace eL := RBs.same eL kA | replace eL := RB2s.same eL kA | replace eL := GR.same eL kA | replace eL := GRs.same eL kA | replace eL := NO.same eL kA | replace eL := NOs.same eL kA | replace eL := NZ.same eL kA | replace eL := NB.same eL kA | replace eL := NBs.same eL kA | replace eL := NQ.same eL kA | replace eL := NQs.same eL kA | replace eL := NX'.same eL kA
        first | replace f4 := HF.same f4 kA | replace f4 := WF.same f4 kA | replace f4 := FT.same f4 kA | replace f4 := Fd.same f4 kA | replace f4 := LsD.same f4 kA | replace f4 := TK.same kA _ _ f4 | replace f4 := KeysT.tk f4 (TK.same kA) | replace f4 := KeysU.tk f4 (TK.same kA) | replace f4 := KeysN.tk f4 (TK.same kA) | replace f4 := DayV.tk f4 (TK.same kA) | replace f4 := Dp.same kA _ _ f4 | replace f4 := DpAll.same kA _ _ f4 | replace f4 := kA _ _ f4 | replace f4 := Ch.trans f4 (Ch.of_same kA) | replace f4 := Same.trans f4 kA | replace f4 := stepsAt.same f4 kA | replace f4 := DpT.same f4 kA | replace f4 := LOr.same f4 kA | replace f4 := Ob.same f4 kA | replace f4 := Gds.same f4 kA | replace f4 := Gd2.same f4 kA | replace f4 := Ob2.same f4 kA | replace f4 := NE.same f4 kA | replace f4 := NT.same f4 kA | replace f4 := NEs.same f4 kA | replace f4 := NX.same f4 kA | replace f4 := EMs.same f4 kA | replace f4 := EOs.same f4 kA | replace f4 := EO.same f4 kA | replace f4 := GT.same f4 kA | replace f4 := GTs.same f4 kA | replace f4 := RB.same f4 kA | replace f4 := RBs.same f4 kA | replace f4 := RB2s.same f4 kA | replace f4 := GR.same f4 kA | replace f4 := GRs.same f4 kA | replace f4 := NO.same f4 kA | replace f4 := NOs.same f4 kA | replace f4 := NZ.same f4 kA | replace f4 := NB.same f4 kA | replace f4 := NBs.same f4 kA | replace f4 := NQ.same f4 kA | replace f4 := NQs.same f4 kA | replace f4 := NX'.same f4 kA
        first | replace kk := HF.same kk kA | replace kk := WF.same kk kA | replace kk := FT.same kk kA | replace kk := Fd.same kk kA | replace kk := LsD.same kk kA | replace kk := TK.same kA _ _ kk | replace kk := KeysT.tk kk (TK.same kA) | replace kk := KeysU.tk kk (TK.same kA) | replace kk := KeysN.tk kk (TK.same kA) | replace kk := DayV.tk kk (TK.same kA) | replace kk := Dp.same kA _ _ kk | replace kk := DpAll.same kA _ _ kk | replace kk := kA _ _ kk | replace kk := Ch.trans kk (Ch.of_same kA) | replace kk := Same.trans kk kA | replace kk := stepsAt.same kk kA | replace kk := DpT.same kk kA | replace kk := LOr.same kk kA | replace kk := Ob.same kk kA | replace kk := Gds.same kk kA | replace kk := Gd2.same kk kA | replace kk := Ob2.same kk kA | replace kk := NE.same kk kA | replace kk := NT.same kk kA | replace kk := NEs.same kk kA | replace kk := NX.same kk kA | replace kk := EMs.same kk kA | replace kk := EOs.same kk kA | replace kk := EO.same kk kA | replace kk := GT.same kk kA | replace kk := GTs.same kk kA | replace kk := RB.same kk kA | replace kk := RBs.same kk kA | replace kk := RB2s.same kk kA | replace kk := GR.same kk kA | replace kk := GRs.same kk kA | replace kk := NO.same kk kA | replace kk := NOs.same kk kA | replace kk := NZ.same kk kA | replace kk := NB.same kk kA | replace kk := NBs.same kk kA | replace kk := NQ.same kk kA | replace kk := NQs.same kk kA | replace kk := NX'.same kk kA
        generalize upd H6 LA (.lst [.str ⟨#[97 + ((x2 : Nat) : Int).toNat]⟩]) = H7 at *
        clear kA nLA H6
        repeat' (walk_at "jv")
        intro LQ nLQ
        have dLQ := f4.ne nLQ
        have kQ := Same.upd_new (o := .lst [.int 0, .int 2, .int 6]) nLQ
        have eQ : (upd H7 LQ (.lst [.int 0, .int 2, .int 6])) LQ = some (.lst [.int 0, .int 2, .int 6]) := upd_same
        first | replace eL := HF.same eL kQ | replace eL := WF.same eL kQ | replace eL := FT.same eL kQ | replace eL := Fd.same eL kQ | replace eL := LsD.same eL kQ | replace eL := TK.same kQ _ _ eL | replace eL := KeysT.tk eL (TK.same kQ) | replace eL := KeysU.tk eL (TK.same kQ) | replace eL := KeysN.tk eL (TK.same kQ) | replace eL := DayV.tk eL (TK.same kQ) | replace eL := Dp.same kQ _ _ eL | replace eL := DpAll.same kQ _ _ eL | replace eL := kQ _ _ eL | replace eL := Ch.trans eL (Ch.of_same kQ) | replace eL := Same.trans eL kQ | replace eL := stepsAt.same eL kQ | replace eL := DpT.same eL kQ | replace eL := LOr.same eL kQ | replace eL := Ob.same eL kQ | replace eL := Gds.same eL kQ | replace eL := Gd2.same eL kQ | replace eL := Ob2.same eL kQ | replace eL := NE.same eL kQ | replace eL := NT.same eL kQ | replace eL := NEs.same eL kQ | replace eL := NX.same eL kQ | replace eL := EMs.same eL kQ | replace eL := EOs.same eL kQ | replace eL := EO.same eL kQ | replace eL := GT.same eL kQ | replace eL := GTs.same eL kQ | replace eL := RB.same eL kQ | replace eL := RBs.same eL kQ | replace eL := RB2s.same eL kQ | replace eL := GR.same eL kQ | replace eL := GRs.same eL kQ | replace eL := NO.same eL kQ | replace eL := NOs.same eL kQ | replace eL := NZ.same eL kQ | replace eL := NB.same eL kQ | replace eL := NBs.same eL kQ | replace eL := NQ.same eL kQ | replace eL := NQs.same eL kQ | replace eL := NX'.same eL kQ
        first | replace eA := HF.same eA kQ | replace eA := WF.same eA kQ | replace eA := FT.same eA kQ | replace eA := Fd.same eA kQ | replace eA := LsD.same eA kQ | replace eA := TK.same kQ _ _ eA | replace eA := KeysT.tk eA (TK.same kQ) | replace eA := KeysU.tk eA (TK.same kQ) | replace eA := KeysN.tk eA (TK.same kQ) | replace eA := DayV.tk eA (TK.same kQ) | replace eA := Dp.same kQ _ _ eA | replace eA := DpAll.same kQ _ _ eA | replace eA := kQ _ _ eA | replace eA := Ch.trans eA (Ch.of_same kQ) | replace eA := Same.trans eA kQ | replace eA := stepsAt.same eA kQ | replace eA := DpT.same eA kQ | replace eA := LOr.same eA kQ | replace eA := Ob.same eA kQ | replace eA := Gds.same eA kQ | replace eA := Gd2.same eA kQ | replace eA := Ob2.same eA kQ | replace eA := NE.same eA kQ | replace eA := NT.same eA kQ | replace eA := NEs.same eA kQ | replace eA := NX.same eA kQ | replace eA := EMs.same eA kQ | replace eA := EOs.same eA kQ | replace eA := EO.same eA kQ | replace eA := GT.same eA kQ | replace eA := GTs.same eA kQ | replace eA := RB.same eA kQ | replace eA := RBs.same eA kQ | replace eA := RB2s.same eA kQ | replace eA := GR.same eA kQ | replace eA := GRs.same eA kQ | replace eA := NO.same eA kQ | replace eA := NOs.same eA kQ | replace eA := NZ.same eA kQ | replace eA := NB.same eA kQ | replace eA := NBs.same eA kQ | replace eA := NQ.same eA kQ | replace eA := NQs.same eA kQ | replace eA := NX'.same eA kQ
        first | replace f4 := HF.same f4 kQ | replace f4 := WF.same f4 kQ | replace f4 := FT.same f4 kQ | replace f4 := Fd.same f4 kQ | replace f4 := LsD.same f4 kQ | replace f4 := TK.same kQ _ _ f4 | replace f4 := KeysT.tk f4 (TK.same kQ) | replace f4 := KeysU.tk f4 (TK.same kQ) | replace f4 := KeysN.tk f4 (TK.same kQ) | replace f4 := DayV.tk f4 (TK.same kQ) | replace f4 := Dp.same kQ _ _ f4 | replace f4 := DpAll.same kQ _ _ f4 | replace f4 := kQ _ _ f4 | replace f4 := Ch.trans f4 (Ch.of_same kQ) | replace f4 := Same.trans f4 kQ | replace f4 := stepsAt.same f4 kQ | replace f4 := DpT.same f4 kQ | replace f4 := LOr.same f4 kQ | replace f4 := Ob.same f4 kQ | replace f4 := Gds.same f4 kQ | replace f4 := Gd2.same f4 kQ | replace f4 := Ob2.same f4 kQ | replace f4 := NE.same f4 kQ | replace f4 := NT.same f4 kQ | replace f4 := NEs.same f4 kQ | replace f4 := NX.same f4 kQ | replace f4 := EMs.same f4 kQ | replace f4 := EOs.same f4 kQ | replace f4 := EO.same f4 kQ | replace f4 := GT.same f4 kQ | replace f4 := GTs.same f4 kQ | replace f4 := RB.same f4 kQ | replace f4 := RBs.same f4 kQ | replace f4 := RB2s.same f4 kQ | replace f4 := GR.same f4 kQ | replace f4 := GRs.same f4 kQ | replace f4 := NO.same f4 kQ | replace f4 := NOs.same f4 kQ | replace f4 := NZ.same f4 kQ | replace f4 := NB.same f4 kQ | replace f4 := NBs.same f4 kQ | replace f4 := NQ.same f4 kQ | replace f4 := NQs.same f4 kQ | replace f4 := NX'.same f4 kQ
        first | replace kk := HF.same kk kQ | replace kk := WF.same kk kQ | replace kk := FT.same kk kQ | replace kk := Fd.same kk kQ | replace kk := LsD.same kk kQ | replace kk := TK.same kQ _ _ kk | replace kk := KeysT.tk kk (TK.same kQ) | replace kk := KeysU.tk kk (TK.same kQ) | replace kk := KeysN.tk kk (TK.same kQ) | replace kk := DayV.tk kk (TK.same kQ) | replace kk := Dp.same kQ _ _ kk | replace kk := DpAll.same kQ _ _ kk | replace kk := kQ _ _ kk | replace kk := Ch.trans kk (Ch.of_same kQ) | replace kk := Same.trans kk kQ | replace kk := stepsAt.same kk kQ | replace kk := DpT.same kk kQ | replace kk := LOr.same kk kQ | replace kk := Ob.same kk kQ | replace kk := Gds.same kk kQ | replace kk := Gd2.same kk kQ | replace kk := Ob2.same kk kQ | replace kk := NE.same kk kQ | replace kk := NT.same kk kQ | replace kk := NEs.same kk kQ | replace kk := NX.same kk kQ | replace kk := EMs.same kk kQ | replace kk := EOs.same kk kQ | replace kk := EO.same kk kQ | replace kk := GT.same kk kQ | replace kk := GTs.same kk kQ | replace kk := RB.same kk kQ | replace kk := RBs.same kk kQ | replace kk := RB2s.same kk kQ | replace kk := GR.same kk kQ | replace kk := GRs.same kk kQ | replace kk := NO.same kk kQ | replace kk := NOs.same kk kQ | replace kk := NZ.same kk kQ | replace kk := NB.same kk kQ | replace kk := NBs.same kk kQ | replace kk := NQ.same kk kQ | replace kk := NQs.same kk kQ | replace kk := NX'.same kk kQ
        generalize upd H7 LQ (.lst [.int 0, .int 2, .int 6]) = H8 at *
        clear kQ nLQ H7
        repeat' (walk_at "jv")
        refine ⟨a, LQ, _, _, rfl, f4, SqA.l (sq_lst eQ), dLQ, by show 0 < 3; decide, by show 3 < 1000000; decide, by omega, fun v H9 hv f5 k5 => ?_⟩
        replace eL := k5 _ _ dL eL
        replace eA := k5 _ _ dLA eA
        replace kk := kk.trans k5
        clear f4 k5 eQ H8
        obtain ⟨n, rfl, hn6⟩ : ∃ n : Nat, v = .int n ∧ n ≤ 6 := by
          simp only [List.mem_cons, List.not_mem_nil, or_false] at hv
          rcases hv with rfl | rfl | rfl
          · exact ⟨0, rfl, by decide⟩
          · exact ⟨2, rfl, by decide⟩
          · exact ⟨6, rfl, by decide⟩
        clear hv
        repeat' (walk_at "jv")
        have en2 : ((n : Nat) : Int).toNat = n := by omega
        rw [en2]
        refine c_range (fun D u H' => D ≠ a ∧ L ≠ D ∧ LA ≠ D ∧ H D = none ∧ H' L = some (.lst (ns.map V.str)) ∧ H' LA = some (.lst [.str ⟨#[97 + ((x2 : Nat) : Int).toNat]⟩]) ∧ Ch a H H' ∧ Fd H' a (c + 5 + 20 * i + u) ∧ ∃ cs : List Nat, H' D = some (.lst (cs.map fun k => V.str ⟨#[k]⟩)) ∧ cs.length = u ∧ ∀ k ∈ cs, nmSign k = true) (fun D nD => ?_) (fun D u H' hu h => ?_) (fun D H' h => ?_)
        · have dD := f5.ne nD
          exact ⟨dD, ne_of_none eL nD, ne_of_none eA nD, kk.free dD nD, (upd_ne (ne_of_none eL nD)).trans eL, (upd_ne (ne_of_none eA nD)).trans eA, kk.upd_n nD, (f5.upd (q := D) (Ne.symm dD)).mono (by omega), [], upd_same, rfl, fun k hk => absurd hk List.not_mem_nil⟩
        · clear eL eA kk f5 H9
          obtain ⟨dD, dLD, dAD, nD, eL, eA, kk, f5, cs, eD, hcs, hsg⟩ := h
          repeat' (walk_at "jv")
          refine ⟨a, 13, _, rfl, f5, by decide, by decide, by omega, fun y H9 y0 y1 f6 k6 => ?_⟩
          obtain ⟨y, rfl⟩ := Int.eq_ofNat_of_zero_le y0
          obtain ⟨ch, hch, hsc⟩ := signs13_at y (by omega)
          refine ⟨signs13, (y : Int), ch, rfl, rfl, by omega, by omega, by show (y : Int) < 13; omega, hch, ?_⟩
          repeat' (walk_at "jv")
          have eL9 := k6 _ _ dL eL
          have eA9 := k6 _ _ dLA eA
          refine ⟨dD, dLD, dAD, nD, (upd_ne dLD).trans eL9, (upd_ne dAD).trans eA9, (kk.trans k6).upd_l nD, (f6.upd (q := D) (Ne.symm dD)).mono (by omega), cs ++ [ch], by rw [upd_same, List.map_append]; rfl, by rw [List.length_append, hcs]; rfl, fun k hk => ?_⟩
          rcases List.mem_append.mp hk with hk | hk
          · exact hsg k hk
          · rw [List.mem_singleton.mp hk]
            exact hsc
        · clear eL eA kk f5 H9
          obtain ⟨dD, dLD, dAD, nD, eL, eA, kk, f5, cs, eD, hcs, hsg⟩ := h
          repeat' (walk_at "jv")
          refine i_catL eA eD (by rw [List.length_map, sizeLine_eq]; show 1 + _ ≤ _; omega) fun S nS => ?_
          have dS := f5.ne nS
          have kS := Same.upd_new (o := .lst ([.str ⟨#[97 + ((x2 : Nat) : Int).toNat]⟩] ++ cs.map fun k => V.str ⟨#[k]⟩)) nS
          have eS : (upd H' S (.lst ([.str ⟨#[97 + ((x2 : Nat) : Int).toNat]⟩] ++ cs.map fun k => V.str ⟨#[k]⟩))) S = some (.lst ([.str ⟨#[97 + ((x2 : Nat) : Int).toNat]⟩] ++ cs.map fun k => V.str ⟨#[k]⟩)) := upd_same
          first | replace eL := HF.same eL kS | replace eL := WF.same eL kS | replace eL := FT.same eL kS | replace eL := Fd.same eL kS | replace eL := LsD.same eL kS | replace eL := TK.same kS _ _ eL | replace eL := KeysT.tk eL (TK.same kS) | replace eL := KeysU.tk eL (TK.same kS) | replace eL := KeysN.tk eL (TK.same kS) | replace eL := DayV.tk eL (TK.same kS) | replace eL := Dp.same kS _ _ eL | replace eL := DpAll.same kS _ _ eL | replace eL := kS _ _ eL | replace eL := Ch.trans eL (Ch.of_same kS) | replace eL := Same.trans eL kS | replace eL := stepsAt.same eL kS | replace eL := DpT.same eL kS | replace eL := LOr.same eL kS | replace eL := Ob.same eL kS | replace eL := Gds.same eL kS | replace eL := Gd2.same eL kS | replace eL := Ob2.same eL kS | replace eL := NE.same eL kS | replace eL := NT.same eL kS | replace eL := NEs.same eL kS | replace eL := NX.same eL kS | replace eL := EMs.same eL kS | replace eL := EOs.same eL kS | replace eL := EO.same eL kS | replace eL := GT.same eL kS | replace eL := GTs.same eL kS | replace eL := RB.same eL kS | replace eL := RBs.same eL kS | replace eL := RB2s.same eL kS | replace eL := GR.same eL kS | replace eL := GRs.same eL kS | replace eL := NO.same eL kS | replace eL := NOs.same eL kS | replace eL := NZ.same eL kS | replace eL := NB.same eL kS | replace eL := NBs.same eL kS | replace eL := NQ.same eL kS | replace eL := NQs.same eL kS | replace eL := NX'.same eL kS
          first | replace f5 := HF.same f5 kS | replace f5 := WF.same f5 kS | replace f5 := FT.same f5 kS | replace f5 := Fd.same f5 kS | replace f5 := LsD.same f5 kS | replace f5 := TK.same kS _ _ f5 | replace f5 := KeysT.tk f5 (TK.same kS) | replace f5 := KeysU.tk f5 (TK.same kS) | replace f5 := KeysN.tk f5 (TK.same kS) | replace f5 := DayV.tk f5 (TK.same kS) | replace f5 := Dp.same kS _ _ f5 | replace f5 := DpAll.same kS _ _ f5 | replace f5 := kS _ _ f5 | replace f5 := Ch.trans f5 (Ch.of_same kS) | replace f5 := Same.trans f5 kS | replace f5 := stepsAt.same f5 kS | replace f5 := DpT.same f5 kS | replace f5 := LOr.same f5 kS | replace f5 := Ob.same f5 kS | replace f5 := Gds.same f5 kS | replace f5 := Gd2.same f5 kS | replace f5 := Ob2.same f5 kS | replace f5 := NE.same f5 kS | replace f5 := NT.same f5 kS | replace f5 := NEs.same f5 kS | replace f5 := NX.same f5 kS | replace f5 := EMs.same f5 kS | replace f5 := EOs.same f5 kS | replace f5 := EO.same f5 kS | replace f5 := GT.same f5 kS | replace f5 := GTs.same f5 kS | replace f5 := RB.same f5 kS | replace f5 := RBs.same f5 kS | replace f5 := RB2s.same f5 kS | replace f5 := GR.same f5 kS | replace f5 := GRs.same f5 kS | replace f5 := NO.same f5 kS | replace f5 := NOs.same f5 kS | replace f5 := NZ.same f5 kS | replace f5 := NB.same f5 kS | replace f5 := NBs.same f5 kS | replace f5 := NQ.same f5 kS | replace f5 := NQs.same f5 kS | replace f5 := NX'.same f5 kS
          first | replace kk := HF.same kk kS | replace kk := WF.same kk kS | replace kk := FT.same kk kS | replace kk := Fd.same kk kS | replace kk := LsD.same kk kS | replace kk := TK.same kS _ _ kk | replace kk := KeysT.tk kk (TK.same kS) | replace kk := KeysU.tk kk (TK.same kS) | replace kk := KeysN.tk kk (TK.same kS) | replace kk := DayV.tk kk (TK.same kS) | replace kk := Dp.same kS _ _ kk | replace kk := DpAll.same kS _ _ kk | replace kk := kS _ _ kk | replace kk := Ch.trans kk (Ch.of_same kS) | replace kk := Same.trans kk kS | replace kk := stepsAt.same kk kS | replace kk := DpT.same kk kS | replace kk := LOr.same kk kS | replace kk := Ob.same kk kS | replace kk := Gds.same kk kS | replace kk := Gd2.same kk kS | replace kk := Ob2.same kk kS | replace kk := NE.same kk kS | replace kk := NT.same kk kS | replace kk := NEs.same kk kS | replace kk := NX.same kk kS | replace kk := EMs.same kk kS | replace kk := EOs.same kk kS | replace kk := EO.same kk kS | replace kk := GT.same kk kS | replace kk := GTs.same kk kS | replace kk := RB.same kk kS | replace kk := RBs.same kk kS | replace kk := RB2s.same kk kS | replace kk := GR.same kk kS | replace kk := GRs.same kk kS | replace kk := NO.same kk kS | replace kk := NOs.same kk kS | replace kk := NZ.same kk kS | replace kk := NB.same kk kS | replace kk := NBs.same kk kS | replace kk := NQ.same kk kS | replace kk := NQs.same kk kS | replace kk := NX'.same kk kS
          generalize upd H' S (.lst ([.str ⟨#[97 + ((x2 : Nat) : Int).toNat]⟩] ++ cs.map fun k => V.str ⟨#[k]⟩)) = H9 at *
          clear kS eA eD nS
          repeat' (walk_at "jv")
          refine i_m1 ?_
          repeat' (walk_at "jv")
          refine ⟨⟨_, rfl⟩, ?_⟩
          repeat' (walk_at "jv")
          refine i_abc (by omega) (by omega) ?_
          repeat' (walk_at "jv")
          intro LB nLB
          have kB := Same.upd_new (o := .lst [.str ⟨#[97 + ((i : Nat) : Int).toNat]⟩]) nLB
          have eB : (upd H9 LB (.lst [.str ⟨#[97 + ((i : Nat) : Int).toNat]⟩])) LB = some (.lst [.str ⟨#[97 + ((i : Nat) : Int).toNat]⟩]) := upd_same
          first | replace eL := HF.same eL kB | replace eL := WF.same eL kB | replace eL := FT.same eL kB | replace eL := Fd.same eL kB | replace eL := LsD.same eL kB | replace eL := TK.same kB _ _ eL | replace eL := KeysT.tk eL (TK.same kB) | replace eL := KeysU.tk eL (TK.same kB) | replace eL := KeysN.tk eL (TK.same kB) | replace eL := DayV.tk eL (TK.same kB) | replace eL := Dp.same kB _ _ eL | replace eL := DpAll.same kB _ _ eL | replace eL := kB _ _ eL | replace eL := Ch.trans eL (Ch.of_same kB) | replace eL := Same.trans eL kB | replace eL := stepsAt.same eL kB | replace eL := DpT.same eL kB | replace eL := LOr.same eL kB | replace eL := Ob.same eL kB | replace eL := Gds.same eL kB | replace eL := Gd2.same eL kB | replace eL := Ob2.same eL kB | replace eL := NE.same eL kB | replace eL := NT.same eL kB | replace eL := NEs.same eL kB | replace eL := NX.same eL kB | replace eL := EMs.same eL kB | replace eL := EOs.same eL kB | replace eL := EO.same eL kB | replace eL := GT.same eL kB | replace eL := GTs.same eL kB | replace eL := RB.same eL kB | replace eL := RBs.same eL kB | replace eL := RB2s.same eL kB | replace eL := GR.same eL kB | replace eL := GRs.same eL kB | replace eL := NO.same eL kB | replace eL := NOs.same eL kB | replace eL := NZ.same eL kB | replace eL := NB.same eL kB | replace eL := NBs.same eL kB | replace eL := NQ.same eL kB | replace eL := NQs.same eL kB | replace eL := NX'.same eL kB
          first | replace eS := HF.same eS kB | replace eS := WF.same eS kB | replace eS := FT.same eS kB | replace eS := Fd.same eS kB | replace eS := LsD.same eS kB | replace eS := TK.same kB _ _ eS | replace eS := KeysT.tk eS (TK.same kB) | replace eS := KeysU.tk eS (TK.same kB) | replace eS := KeysN.tk eS (TK.same kB) | replace eS := DayV.tk eS (TK.same kB) | replace eS := Dp.same kB _ _ eS | replace eS := DpAll.same kB _ _ eS | replace eS := kB _ _ eS | replace eS := Ch.trans eS (Ch.of_same kB) | replace eS := Same.trans eS kB | replace eS := stepsAt.same eS kB | replace eS := DpT.same eS kB | replace eS := LOr.same eS kB | replace eS := Ob.same eS kB | replace eS := Gds.same eS kB | replace eS := Gd2.same eS kB | replace eS := Ob2.same eS kB | replace eS := NE.same eS kB | replace eS := NT.same eS kB | replace eS := NEs.same eS kB | replace eS := NX.same eS kB | replace eS := EMs.same eS kB | replace eS := EOs.same eS kB | replace eS := EO.same eS kB | replace eS := GT.same eS kB | replace eS := GTs.same eS kB | replace eS := RB.same eS kB | replace eS := RBs.same eS kB | replace eS := RB2s.same eS kB | replace eS := GR.same eS kB | replace eS := GRs.same eS kB | replace eS := NO.same eS kB | replace eS := NOs.same eS kB | replace eS := NZ.same eS kB | replace eS := NB.same eS kB | replace eS := NBs.same eS kB | replace eS := NQ.same eS kB | replace eS := NQs.same eS kB | replace eS := NX'.same eS kB
          first | replace f5 := HF.same f5 kB | replace f5 := WF.same f5 kB | replace f5 := FT.same f5 kB | replace f5 := Fd.same f5 kB | replace f5 := LsD.same f5 kB | replace f5 := TK.same kB _ _ f5 | replace f5 := KeysT.tk f5 (TK.same kB) | replace f5 := KeysU.tk f5 (TK.same kB) | replace f5 := KeysN.tk f5 (TK.same kB) | replace f5 := DayV.tk f5 (TK.same kB) | replace f5 := Dp.same kB _ _ f5 | replace f5 := DpAll.same kB _ _ f5 | replace f5 := kB _ _ f5 | replace f5 := Ch.trans f5 (Ch.of_same kB) | replace f5 := Same.trans f5 kB | replace f5 := stepsAt.same f5 kB | replace f5 := DpT.same f5 kB | replace f5 := LOr.same f5 kB | replace f5 := Ob.same f5 kB | replace f5 := Gds.same f5 kB | replace f5 := Gd2.same f5 kB | replace f5 := Ob2.same f5 kB | replace f5 := NE.same f5 kB | replace f5 := NT.same f5 kB | replace f5 := NEs.same f5 kB | replace f5 := NX.same f5 kB | replace f5 := EMs.same f5 kB | replace f5 := EOs.same f5 kB | replace f5 := EO.same f5 kB | replace f5 := GT.same f5 kB | replace f5 := GTs.same f5 kB | replace f5 := RB.same f5 kB | replace f5 := RBs.same f5 kB | replace f5 := RB2s.same f5 kB | replace f5 := GR.same f5 kB | replace f5 := GRs.same f5 kB | replace f5 := NO.same f5 kB | replace f5 := NOs.same f5 kB | replace f5 := NZ.same f5 kB | replace f5 := NB.same f5 kB | replace f5 := NBs.same f5 kB | replace f5 := NQ.same f5 kB | replace f5 := NQs.same f5 kB | replace f5 := NX'.same f5 kB
          first | replace kk := HF.same kk kB | replace kk := WF.same kk kB | replace kk := FT.same kk kB | replace kk := Fd.same kk kB | replace kk := LsD.same kk kB | replace kk := TK.same kB _ _ kk | replace kk := KeysT.tk kk (TK.same kB) | replace kk := KeysU.tk kk (TK.same kB) | replace kk := KeysN.tk kk (TK.same kB) | replace kk := DayV.tk kk (TK.same kB) | replace kk := Dp.same kB _ _ kk | replace kk := DpAll.same kB _ _ kk | replace kk := kB _ _ kk | replace kk := Ch.trans kk (Ch.of_same kB) | replace kk := Same.trans kk kB | replace kk := stepsAt.same kk kB | replace kk := DpT.same kk kB | replace kk := LOr.same kk kB | replace kk := Ob.same kk kB | replace kk := Gds.same kk kB | replace kk := Gd2.same kk kB | replace kk := Ob2.same kk kB | replace kk := NE.same kk kB | replace kk := NT.same kk kB | replace kk := NEs.same kk kB | replace kk := NX.same kk kB | replace kk := EMs.same kk kB | replace kk := EOs.same kk kB | replace kk := EO.same kk kB | replace kk := GT.same kk kB | replace kk := GTs.same kk kB | replace kk := RB.same kk kB | replace kk := RBs.same kk kB | replace kk := RB2s.same kk kB | replace kk := GR.same kk kB | replace kk := GRs.same kk kB | replace kk := NO.same kk kB | replace kk := NOs.same kk kB | replace kk := NZ.same kk kB | replace kk := NB.same kk kB | replace kk := NBs.same kk kB | replace kk := NQ.same kk kB | replace kk := NQs.same kk kB | replace kk := NX'.same kk kB
          generalize upd H9 LB (.lst [.str ⟨#[97 + ((i : Nat) : Int).toNat]⟩]) = H10 at *
          clear kB nLB H9
          repeat' (walk_at "jv")
          have hcl : (cs.map fun k => V.str ⟨#[k]⟩).length = cs.length := List.length_map ..
          refine i_catL eS eB (by rw [List.length_append, hcl, sizeLine_eq]; show 1 + _ + 1 ≤ _; omega) fun M nM => ?_
          have eM0 : (upd H10 M (.lst (([.str ⟨#[97 + ((x2 : Nat) : Int).toNat]⟩] ++ cs.map fun k => V.str ⟨#[k]⟩) ++ [.str ⟨#[97 + ((i : Nat) : Int).toNat]⟩]))) M = some (.lst ((((97 + ((x2 : Nat) : Int).toNat) :: (cs ++ [97 + ((i : Nat) : Int).toNat])).map ch1).map V.str)) := upd_same.trans (congrArg (fun z => some (HO.lst z)) (chs_are _ _ cs))
          have kM := Same.upd_new (o := .lst (([.str ⟨#[97 + ((x2 : Nat) : Int).toNat]⟩] ++ cs.map fun k => V.str ⟨#[k]⟩) ++ [.str ⟨#[97 + ((i : Nat) : Int).toNat]⟩])) nM
          first | replace eL := HF.same eL kM | replace eL := WF.same eL kM | replace eL := FT.same eL kM | replace eL := Fd.same eL kM | replace eL := LsD.same eL kM | replace eL := TK.same kM _ _ eL | replace eL := KeysT.tk eL (TK.same kM) | replace eL := KeysU.tk eL (TK.same kM) | replace eL := KeysN.tk eL (TK.same kM) | replace eL := DayV.tk eL (TK.same kM) | replace eL := Dp.same kM _ _ eL | replace eL := DpAll.same kM _ _ eL | replace eL := kM _ _ eL | replace eL := Ch.trans eL (Ch.of_same kM) | replace eL := Same.trans eL kM | replace eL := stepsAt.same eL kM | replace eL := DpT.same eL kM | replace eL := LOr.same eL kM | replace eL := Ob.same eL kM | replace eL := Gds.same eL kM | replace eL := Gd2.same eL kM | replace eL := Ob2.same eL kM | replace eL := NE.same eL kM | replace eL := NT.same eL kM | replace eL := NEs.same eL kM | replace eL := NX.same eL kM | replace eL := EMs.same eL kM | replace eL := EOs.same eL kM | replace eL := EO.same eL kM | replace eL := GT.same eL kM | replace eL := GTs.same eL kM | replace eL := RB.same eL kM | replace eL := RBs.same eL kM | replace eL := RB2s.same eL kM | replace eL := GR.same eL kM | replace eL := GRs.same eL kM | replace eL := NO.same eL kM | replace eL := NOs.same eL kM | replace eL := NZ.same eL kM | replace eL := NB.same eL kM | replace eL := NBs.same eL kM | replace eL := NQ.same eL kM | replace eL := NQs.same eL kM | replace eL := NX'.same eL kM
          first | replace f5 := HF.same f5 kM | replace f5 := WF.same f5 kM | replace f5 := FT.same f5 kM | replace f5 := Fd.same f5 kM | replace f5 := LsD.same f5 kM | replace f5 := TK.same kM _ _ f5 | replace f5 := KeysT.tk f5 (TK.same kM) | replace f5 := KeysU.tk f5 (TK.same kM) | replace f5 := KeysN.tk f5 (TK.same kM) | replace f5 := DayV.tk f5 (TK.same kM) | replace f5 := Dp.same kM _ _ f5 | replace f5 := DpAll.same kM _ _ f5 | replace f5 := kM _ _ f5 | replace f5 := Ch.trans f5 (Ch.of_same kM) | replace f5 := Same.trans f5 kM | replace f5 := stepsAt.same f5 kM | replace f5 := DpT.same f5 kM | replace f5 := LOr.same f5 kM | replace f5 := Ob.same f5 kM | replace f5 := Gds.same f5 kM | replace f5 := Gd2.same f5 kM | replace f5 := Ob2.same f5 kM | replace f5 := NE.same f5 kM | replace f5 := NT.same f5 kM | replace f5 := NEs.same f5 kM | replace f5 := NX.same f5 kM | replace f5 := EMs.same f5 kM | replace f5 := EOs.same f5 kM | replace f5 := EO.same f5 kM | replace f5 := GT.same f5 kM | replace f5 := GTs.same f5 kM | replace f5 := RB.same f5 kM | replace f5 := RBs.same f5 kM | replace f5 := RB2s.same f5 kM | replace f5 := GR.same f5 kM | replace f5 := GRs.same f5 kM | replace f5 := NO.same f5 kM | replace f5 := NOs.same f5 kM | replace f5 := NZ.same f5 kM | replace f5 := NB.same f5 kM | replace f5 := NBs.same f5 kM | replace f5 := NQ.same f5 kM | replace f5 := NQs.same f5 kM | replace f5 := NX'.same f5 kM
          first | replace kk := HF.same kk kM | replace kk := WF.same kk kM | replace kk := FT.same kk kM | replace kk := Fd.same kk kM | replace kk := LsD.same kk kM | replace kk := TK.same kM _ _ kk | replace kk := KeysT.tk kk (TK.same kM) | replace kk := KeysU.tk kk (TK.same kM) | replace kk := KeysN.tk kk (TK.same kM) | replace kk := DayV.tk kk (TK.same kM) | replace kk := Dp.same kM _ _ kk | replace kk := DpAll.same kM _ _ kk | replace kk := kM _ _ kk | replace kk := Ch.trans kk (Ch.of_same kM) | replace kk := Same.trans kk kM | replace kk := stepsAt.same kk kM | replace kk := DpT.same kk kM | replace kk := LOr.same kk kM | replace kk := Ob.same kk kM | replace kk := Gds.same kk kM | replace kk := Gd2.same kk kM | replace kk := Ob2.same kk kM | replace kk := NE.same kk kM | replace kk := NT.same kk kM | replace kk := NEs.same kk kM | replace kk := NX.same kk kM | replace kk := EMs.same kk kM | replace kk := EOs.same kk kM | replace kk := EO.same kk kM | replace kk := GT.same kk kM | replace kk := GTs.same kk kM | replace kk := RB.same kk kM | replace kk := RBs.same kk kM | replace kk := RB2s.same kk kM | replace kk := GR.same kk kM | replace kk := GRs.same kk kM | replace kk := NO.same kk kM | replace kk := NOs.same kk kM | replace kk := NZ.same kk kM | replace kk := NB.same kk kM | replace kk := NBs.same kk kM | replace kk := NQ.same kk kM | replace kk := NQs.same kk kM | replace kk := NX'.same kk kM
          generalize upd H10 M (.lst (([.str ⟨#[97 + ((x2 : Nat) : Int).toNat]⟩] ++ cs.map fun k => V.str ⟨#[k]⟩) ++ [.str ⟨#[97 + ((i : Nat) : Int).toNat]⟩])) = H11 at *
          clear kM eS eB nM H10
          refine ⟨"", M, ((97 + ((x2 : Nat) : Int).toNat) :: (cs ++ [97 + ((i : Nat) : Int).toNat])).map ch1, rfl, rfl, .inl (sq_lst eM0), ?_, ?_⟩
          · rw [sum_ch, List.length_map, List.length_cons, List.length_append]
            show cs.length + 1 + 1 + (cs.length + 1 + 1) * 0 ≤ _
            omega
          have sj : Shp (Txt.join "" (((97 + ((x2 : Nat) : Int).toNat) :: (cs ++ [97 + ((i : Nat) : Int).toNat])).map ch1)) (ns.length, 0) := by
            rw [hn]
            exact shp_join (join_ones _) (by omega) (by omega) hsg (by omega)
          have wn2 := wn.letter sj
          generalize Txt.join "" (((97 + ((x2 : Nat) : Int).toNat) :: (cs ++ [97 + ((i : Nat) : Int).toNat])).map ch1) = z at *
          repeat' (walk_at "jv")
          refine ⟨_, _, ns ++ [z], ks ++ [(ns.length, 0)], rfl, by rw [upd_same, List.map_append]; rfl, wn2, by rw [List.length_append, hn]; rfl, (f5.upd (q := L) (Ne.symm dL)).mono (by omega), kk.upd_l nL⟩
    · rw [en] at h
      clear eL kk f2 H3
      obtain ⟨y3, y4, ns, ks, rfl, eL, wn, hn, f3, kk⟩ := h
      have hnm := wn.names
      have h99 := wn.no99
      clear wn
      repeat' (walk_at "jv")
      intro PA nPA
      have dPA := f3.ne nPA
      have nPA0 : H PA = none := kk.free dPA nPA
      have kP := Same.upd_new (o := .lst []) nPA
      have ePA : (upd H4 PA (.lst [])) PA = some (.lst []) := upd_same
      have nLP : L ≠ PA := ne_of_none eL nPA
      first | replace eL := HF.same eL kP | replace eL := WF.same eL kP | replace eL := FT.same eL kP | replace eL := Fd.same eL kP | replace eL := LsD.same eL kP | replace eL := TK.same kP _ _ eL | replace eL := KeysT.tk eL (TK.same kP) | replace eL := KeysU.tk eL (TK.same kP) | replace eL := KeysN.tk eL (TK.same kP) | replace eL := DayV.tk eL (TK.same kP) | replace eL := Dp.same kP _ _ eL | replace eL := DpAll.same kP _ _ eL | replace eL := kP _ _ eL | replace eL := Ch.trans eL (Ch.of_same kP) | replace eL := Same.trans eL kP | replace eL := stepsAt.same eL kP | replace eL := DpT.same eL kP | replace eL := LOr.same eL kP | replace eL := Ob.same eL kP | replace eL := Gds.same eL kP | replace eL := Gd2.same eL kP | replace eL := Ob2.same eL kP | replace eL := NE.same eL kP | replace eL := NT.same eL kP | replace eL := NEs.same eL kP | replace eL := NX.same eL kP | replace eL := EMs.same eL kP | replace eL := EOs.same eL kP | replace eL := EO.same eL kP | replace eL := GT.same eL kP | replace eL := GTs.same eL kP | replace eL := RB.same eL kP | replace eL := RBs.same eL kP | replace eL := RB2s.same eL kP | replace eL := GR.same eL kP | replace eL := GRs.same eL kP | replace eL := NO.same eL kP | replace eL := NOs.same eL kP | replace eL := NZ.same eL kP | replace eL := NB.same eL kP | replace eL := NBs.same eL kP | replace eL := NQ.same eL kP | replace eL := NQs.same eL kP | replace eL := NX'.same eL kP
      first | replace f3 := HF.same f3 kP | replace f3 := WF.same f3 kP | replace f3 := FT.same f3 kP | replace f3 := Fd.same f3 kP | replace f3 := LsD.same f3 kP | replace f3 := TK.same kP _ _ f3 | replace f3 := KeysT.tk f3 (TK.same kP) | replace f3 := KeysU.tk f3 (TK.same kP) | replace f3 := KeysN.tk f3 (TK.same kP) | replace f3 := DayV.tk f3 (TK.same kP) | replace f3 := Dp.same kP _ _ f3 | replace f3 := DpAll.same kP _ _ f3 | replace f3 := kP _ _ f3 | replace f3 := Ch.trans f3 (Ch.of_same kP) | replace f3 := Same.trans f3 kP | replace f3 := stepsAt.same f3 kP | replace f3 := DpT.same f3 kP | replace f3 := LOr.same f3 kP | replace f3 := Ob.same f3 kP | replace f3 := Gds.same f3 kP | replace f3 := Gd2.same f3 kP | replace f3 := Ob2.same f3 kP | replace f3 := NE.same f3 kP | replace f3 := NT.same f3 kP | replace f3 := NEs.same f3 kP | replace f3 := NX.same f3 kP | replace f3 := EMs.same f3 kP | replace f3 := EOs.same f3 kP | replace f3 := EO.same f3 kP | replace f3 := GT.same f3 kP | replace f3 := GTs.same f3 kP | replace f3 := RB.same f3 kP | replace f3 := RBs.same f3 kP | replace f3 := RB2s.same f3 kP | replace f3 := GR.same f3 kP | replace f3 := GRs.same f3 kP | replace f3 := NO.same f3 kP | replace f3 := NOs.same f3 kP | replace f3 := NZ.same f3 kP | replace f3 := NB.same f3 kP | replace f3 := NBs.same f3 kP | replace f3 := NQ.same f3 kP | replace f3 := NQs.same f3 kP | replace f3 := NX'.same f3 kP
      first | replace kk := HF.same kk kP | replace kk := WF.same kk kP | replace kk := FT.same kk kP | replace kk := Fd.same kk kP | replace kk := LsD.same kk kP | replace kk := TK.same kP _ _ kk | replace kk := KeysT.tk kk (TK.same kP) | replace kk := KeysU.tk kk (TK.same kP) | replace kk := KeysN.tk kk (TK.same kP) | replace kk := DayV.tk kk (TK.same kP) | replace kk := Dp.same kP _ _ kk | replace kk := DpAll.same kP _ _ kk | replace kk := kP _ _ kk | replace kk := Ch.trans kk (Ch.of_same kP) | replace kk := Same.trans kk kP | replace kk := stepsAt.same kk kP | replace kk := DpT.same kk kP | replace kk := LOr.same kk kP | replace kk := Ob.same kk kP | replace kk := Gds.same kk kP | replace kk := Gd2.same kk kP | replace kk := Ob2.same kk kP | replace kk := NE.same kk kP | replace kk := NT.same kk kP | replace kk := NEs.same kk kP | replace kk := NX.same kk kP | replace kk := EMs.same kk kP | replace kk := EOs.same kk kP | replace kk := EO.same kk kP | replace kk := GT.same kk kP | replace kk := GTs.same kk kP | replace kk := RB.same kk kP | replace kk := RBs.same kk kP | replace kk := RB2s.same kk kP | replace kk := GR.same kk kP | replace kk := GRs.same kk kP | replace kk := NO.same kk kP | replace kk := NOs.same kk kP | replace kk := NZ.same kk kP | replace kk := NB.same kk kP | replace kk := NBs.same kk kP | replace kk := NQ.same kk kP | replace kk := NQs.same kk kP | replace kk := NX'.same kk kP
      generalize upd H4 PA (.lst []) = H5 at *
      clear kP nPA H4
      repeat' (walk_at "jv")
      intro RO nRO
      have dRO := f3.ne nRO
      have nRO0 : H RO = none := kk.free dRO nRO
      have kR := Same.upd_new (o := .lst []) nRO
      have eRO : (upd H5 RO (.lst [])) RO = some (.lst []) := upd_same
      have nLR : L ≠ RO := ne_of_none eL nRO
      have nPR : PA ≠ RO := ne_of_none ePA nRO
      first | replace eL := HF.same eL kR | replace eL := WF.same eL kR | replace eL := FT.same eL kR | replace eL := Fd.same eL kR | replace eL := LsD.same eL kR | replace eL := TK.same kR _ _ eL | replace eL := KeysT.tk eL (TK.same kR) | replace eL := KeysU.tk eL (TK.same kR) | replace eL := KeysN.tk eL (TK.same kR) | replace eL := DayV.tk eL (TK.same kR) | replace eL := Dp.same kR _ _ eL | replace eL := DpAll.same kR _ _ eL | replace eL := kR _ _ eL | replace eL := Ch.trans eL (Ch.of_same kR) | replace eL := Same.trans eL kR | replace eL := stepsAt.same eL kR | replace eL := DpT.same eL kR | replace eL := LOr.same eL kR | replace eL := Ob.same eL kR | replace eL := Gds.same eL kR | replace eL := Gd2.same eL kR | replace eL := Ob2.same eL kR | replace eL := NE.same eL kR | replace eL := NT.same eL kR | replace eL := NEs.same eL kR | replace eL := NX.same eL kR | replace eL := EMs.same eL kR | replace eL := EOs.same eL kR | replace eL := EO.same eL kR | replace eL := GT.same eL kR | replace eL := GTs.same eL kR | replace eL := RB.same eL kR | replace eL := RBs.same eL kR | replace eL := RB2s.same eL kR | replace eL := GR.same eL kR | replace eL := GRs.same eL kR | replace eL := NO.same eL kR | replace eL := NOs.same eL kR | replace eL := NZ.same eL kR | replace eL := NB.same eL kR | replace eL := NBs.same eL kR | replace eL := NQ.same eL kR | replace eL := NQs.same eL kR | replace eL := NX'.same eL kR
      first | replace f3 := HF.same f3 kR | replace f3 := WF.same f3 kR | replace f3 := FT.same f3 kR | replace f3 := Fd.same f3 kR | replace f3 := LsD.same f3 kR | replace f3 := TK.same kR _ _ f3 | replace f3 := KeysT.tk f3 (TK.same kR) | replace f3 := KeysU.tk f3 (TK.same kR) | replace f3 := KeysN.tk f3 (TK.same kR) | replace f3 := DayV.tk f3 (TK.same kR) | replace f3 := Dp.same kR _ _ f3 | replace f3 := DpAll.same kR _ _ f3 | replace f3 := kR _ _ f3 | replace f3 := Ch.trans f3 (Ch.of_same kR) | replace f3 := Same.trans f3 kR | replace f3 := stepsAt.same f3 kR | replace f3 := DpT.same f3 kR | replace f3 := LOr.same f3 kR | replace f3 := Ob.same f3 kR | replace f3 := Gds.same f3 kR | replace f3 := Gd2.same f3 kR | replace f3 := Ob2.same f3 kR | replace f3 := NE.same f3 kR | replace f3 := NT.same f3 kR | replace f3 := NEs.same f3 kR | replace f3 := NX.same f3 kR | replace f3 := EMs.same f3 kR | replace f3 := EOs.same f3 kR | replace f3 := EO.same f3 kR | replace f3 := GT.same f3 kR | replace f3 := GTs.same f3 kR | replace f3 := RB.same f3 kR | replace f3 := RBs.same f3 kR | replace f3 := RB2s.same f3 kR | replace f3 := GR.same f3 kR | replace f3 := GRs.same f3 kR | replace f3 := NO.same f3 kR | replace f3 := NOs.same f3 kR | replace f3 := NZ.same f3 kR | replace f3 := NB.same f3 kR | replace f3 := NBs.same f3 kR | replace f3 := NQ.same f3 kR | replace f3 := NQs.same f3 kR | replace f3 := NX'.same f3 kR
      first | replace kk := HF.same kk kR | replace kk := WF.same kk kR | replace kk := FT.same kk kR | replace kk := Fd.same kk kR | replace kk := LsD.same kk kR | replace kk := TK.same kR _ _ kk | replace kk := KeysT.tk kk (TK.same kR) | replace kk := KeysU.tk kk (TK.same kR) | replace kk := KeysN.tk kk (TK.same kR) | replace kk := DayV.tk kk (TK.same kR) | replace kk := Dp.same kR _ _ kk | replace kk := DpAll.same kR _ _ kk | replace kk := kR _ _ kk | replace kk := Ch.trans kk (Ch.of_same kR) | replace kk := Same.trans kk kR | replace kk := stepsAt.same kk kR | replace kk := DpT.same kk kR | replace kk := LOr.same kk kR | replace kk := Ob.same kk kR | replace kk := Gds.same kk kR | replace kk := Gd2.same kk kR | replace kk := Ob2.same kk kR | replace kk := NE.same kk kR | replace kk := NT.same kk kR | replace kk := NEs.same kk kR | replace kk := NX.same kk kR | replace kk := EMs.same kk kR | replace kk := EOs.same kk kR | replace kk := EO.same kk kR | replace kk := GT.same kk kR | replace kk := GTs.same kk kR | replace kk := RB.same kk kR | replace kk := RBs.same kk kR | replace kk := RB2s.same kk kR | replace kk := GR.same kk kR | replace kk := GRs.same kk kR | replace kk := NO.same kk kR | replace kk := NOs.same kk kR | replace kk := NZ.same kk kR | replace kk := NB.same kk kR | replace kk := NBs.same kk kR | replace kk := NQ.same kk kR | replace kk := NQs.same kk kR | replace kk := NX'.same kk kR
      first | replace ePA := HF.same ePA kR | replace ePA := WF.same ePA kR | replace ePA := FT.same ePA kR | replace ePA := Fd.same ePA kR | replace ePA := LsD.same ePA kR | replace ePA := TK.same kR _ _ ePA | replace ePA := KeysT.tk ePA (TK.same kR) | replace ePA := KeysU.tk ePA (TK.same kR) | replace ePA := KeysN.tk ePA (TK.same kR) | replace ePA := DayV.tk ePA (TK.same kR) | replace ePA := Dp.same kR _ _ ePA | replace ePA := DpAll.same kR _ _ ePA | replace ePA := kR _ _ ePA | replace ePA := Ch.trans ePA (Ch.of_same kR) | replace ePA := Same.trans ePA kR | replace ePA := stepsAt.same ePA kR | replace ePA := DpT.same ePA kR | replace ePA := LOr.same ePA kR | replace ePA := Ob.same ePA kR | replace ePA := Gds.same ePA kR | replace ePA := Gd2.same ePA kR | replace ePA := Ob2.same ePA kR | replace ePA := NE.same ePA kR | replace ePA := NT.same ePA kR | replace ePA := NEs.same ePA kR | replace ePA := NX.same ePA kR | replace ePA := EMs.same ePA kR | replace ePA := EOs.same ePA kR | replace ePA := EO.same ePA kR | replace ePA := GT.same ePA kR | replace ePA := GTs.same ePA kR | replace ePA := RB.same ePA kR | replace ePA := RBs.same ePA kR | replace ePA := RB2s.same ePA kR | replace ePA := GR.same ePA kR | replace ePA := GRs.same ePA kR | replace ePA := NO.same ePA kR | replace ePA := NOs.same ePA kR | replace ePA := NZ.same ePA kR | replace ePA := NB.same ePA kR | replace ePA := NBs.same ePA kR | replace ePA := NQ.same ePA kR | replace ePA := NQs.same ePA kR | replace ePA := NX'.same ePA kR
      generalize upd H5 RO (.lst []) = H6 at *
      clear kR nRO H5
      have hml : (ns.map V.str).length = ns.length := List.length_map ..
      have hn8 : ns.length ≤ 8 := by omega
      repeat' (walk_at "jv")
      rw [hml]
      have en3 : ((ns.length : Nat) : Int).toNat = ns.length := by omega
      refine f_range (fun i σ H' => ∃ y7 y8 y9 pl, σ = [some (.ref a), some (.str abc), some (.ref L), y3, y4, some (.ref PA), some (.ref RO), y7, y8, y9] ∧ LsD K H' PA (pl.map (pd ns)) ∧ H' L = some (.lst (ns.map V.str)) ∧ H' RO = some (.lst []) ∧ pl.Nodup ∧ (∀ p ∈ pl, p.1 < p.2 ∧ p.2 < i) ∧ pl.length ≤ 8 * i ∧ Fd H' a (c + 400) ∧ Ch a H H') ⟨_, _, _, [], rfl, LsD.nil ePA, eL, eRO, List.nodup_nil, fun _ z => absurd z List.not_mem_nil, Nat.zero_le _, f3.mono (by omega), kk⟩ (fun i σ H7 hi h => ?_) (fun σ H7 h => ?_)
      · clear ePA eL eRO kk f3 H6
        obtain ⟨y7, y8, y9, pl, rfl, ⟨vs, e5, d5, t5⟩, eL, eRO, h1, h2, h3, f5, kk⟩ := h
        rw [en3] at hi
        have hlen : vs.length = pl.length := by rw [DpAll.len d5, List.length_map]
        have e1 : (0 + (i : Int)) = (i : Int) := by omega
        rw [e1]
        have eti : ((i : Nat) : Int).toNat = i := by omega
        repeat' (walk_at "jv")
        rw [eti]
        refine c_range (fun D j H' => L ≠ D ∧ D ≠ PA ∧ D ≠ RO ∧ D ≠ a ∧ H D = none ∧ H' PA = some (.lst vs) ∧ H' L = some (.lst (ns.map V.str)) ∧ H' RO = some (.lst []) ∧ DpAll K H' vs (pl.map (pd ns)) ∧ LsD K H' D (((List.range j).map fun b => (b, i)).map (pd ns)) ∧ Fd H' a (c + 400) ∧ Ch a H H')
          (fun D nD => ⟨ne_of_none eL nD, (ne_of_none e5 nD).symm, (ne_of_none eRO nD).symm, f5.ne nD, kk.free (f5.ne nD) nD, (upd_ne (ne_of_none e5 nD)).trans e5, (upd_ne (ne_of_none eL nD)).trans eL, (upd_ne (ne_of_none eRO nD)).trans eRO, DpAll.tk (TK.new nD) _ _ t5 d5, LsD.nil upd_same, f5.upd (Ne.symm (f5.ne nD)), kk.upd_n nD⟩) (fun D j H8 hj h => ?_) (fun D H8 h => ?_)
        · obtain ⟨nLD, g1, g1b, g2, g3, g4, gL, gR, g5, ⟨us, g6, g7, g8⟩, g9, g10⟩ := h
          have hul : us.length = j := by rw [DpAll.len g7, List.length_map, List.length_map, List.length_range]
          have e0 : (0 : Int) + (j : Int) = (j : Int) := by omega
          have hj1 : j < ns.length := by omega
          rw [e0]
          repeat' (walk_at "jv")
          refine i_ixL (sq_lst gL) (nm_ix hi) ?_
          repeat' (walk_at "jv")
          refine i_ixL (sq_lst gL) (nm_ix hj1) ?_
          repeat' (walk_at "jv")
          intro p3 np3
          have npD : D ≠ p3 := ne_of_none g6 np3
          have npP : PA ≠ p3 := ne_of_none g4 np3
          have npL : L ≠ p3 := ne_of_none gL np3
          have npR : RO ≠ p3 := ne_of_none gR np3
          repeat' (walk_at "jv")
          have hu8 : us.length < sizeLine := by rw [sizeLine_eq]; omega
          refine ⟨nLD, g1, g1b, g2, g3, ?_, ?_, ?_, ?_, ?_, ?_, ?_⟩
          · rw [upd_ne g1.symm, upd_ne npP]
            exact g4
          · rw [upd_ne nLD, upd_ne npL]
            exact gL
          · rw [upd_ne g1b.symm, upd_ne npR]
            exact gR
          · exact DpAll.tk ((TK.new np3).trans (TK.lst (xs := us) ((upd_ne npD).trans g6))) _ _ t5 g5
          · rw [List.range_succ, List.map_append, List.map_append]
            exact LsD.push2 g6 g7 g8 np3 (.str (nm ns i)) (.str (nm ns j)) rfl rfl
          · exact (g9.upd (Ne.symm (g9.ne np3))).upd g2.symm
          · exact (g10.upd_n np3).upd_l g3
        · obtain ⟨nLD, g1, g1b, g2, g3, g4, gL, gR, g5, ⟨us, g6, g7, g8⟩, g9, g10⟩ := h
          have hul : us.length = i := by rw [DpAll.len g7, List.length_map, List.length_map, List.length_range]
          repeat' (walk_at "jv")
          refine i_ext g4 g6 (by rw [sizeLine_eq]; omega) ?_
          repeat' (walk_at "jv")
          refine ⟨_, _, _, pl ++ (List.range i).map fun b => (b, i), rfl, ?_, ?_, ?_, ?_, ?_, ?_, ?_, ?_⟩
          · rw [List.map_append]
            exact LsD.ext g4 g5 t5 g7 g8
          · rw [upd_ne nLP]
            exact gL
          · rw [upd_ne nPR.symm]
            exact gR
          · refine List.nodup_append.mpr ⟨h1, ?_, fun x hx y hy => ?_⟩
            · refine List.Pairwise.map _ ?_ (List.nodup_range (n := i))
              intro x y hxy e
              exact hxy (Prod.mk.inj e).1
            · obtain ⟨b, _, rfl⟩ := List.mem_map.mp hy
              intro z
              have := (h2 x hx).2
              rw [z] at this
              simp at this
          · intro p hp
            rcases List.mem_append.mp hp with hp | hp
            · have := h2 p hp
              exact ⟨this.1, by omega⟩
            · obtain ⟨b, hb, rfl⟩ := List.mem_map.mp hp
              have := List.mem_range.mp hb
              exact ⟨by show b < i; omega, Nat.lt_succ_self _⟩
          · rw [List.length_append, List.length_map, List.length_range]
            omega
          · exact g9.upd (Ne.symm dPA)
          · exact g10.upd_l nPA0
      · rw [en3] at h
        clear ePA eL eRO kk f3 H6
        obtain ⟨y7, y8, y9, pl, rfl, ⟨vs, e5, d5, t5⟩, eL, eRO, h1, h2, h3, f5, kk⟩ := h
        have hlen : vs.length = pl.length := by rw [DpAll.len d5, List.length_map]
        repeat' (walk_at "jv")
        refine ⟨a, PA, c + 400, vs, rfl, f5, SqA.l (sq_lst e5), dPA, by omega, by omega, fun q8 zs8 HB pm n8 e8 f8 k8 => ?_⟩
        obtain ⟨es, pe, dy⟩ := DpAll.perm pm d5
        obtain ⟨pl0, pp, rfl⟩ := perm_map_inv pe rfl
        have n8a : q8 ≠ a := f5.ne n8
        replace eL := k8 _ _ dL eL
        replace eRO := k8 _ _ dRO eRO
        replace kk := kk.trans k8
        have dyB : DpAll K HB zs8 (pl0.map (pd ns)) := DpAll.tk (TK.ch k8 f5) _ _ (pd_only ns pl0) dy
        have hz8 : zs8.length = pl0.length := by rw [DpAll.len dyB, List.length_map]
        have hp8 : pl0.length = pl.length := pp.length_eq
        clear e5 d5 f5 k8 dy n8 H7
        repeat' (walk_at "jv")
        intro LQ nLQ
        have dLQ := f8.ne nLQ
        have kQ := Same.upd_new (o := .lst [.int 7, .int 9, .int 12, .int 14]) nLQ
        have eQ : (upd HB LQ (.lst [.int 7, .int 9, .int 12, .int 14])) LQ = some (.lst [.int 7, .int 9, .int 12, .int 14]) := upd_same
        first | replace eL := HF.same eL kQ | replace eL := WF.same eL kQ | replace eL := FT.same eL kQ | replace eL := Fd.same eL kQ | replace eL := LsD.same eL kQ | replace eL := TK.same kQ _ _ eL | replace eL := KeysT.tk eL (TK.same kQ) | replace eL := KeysU.tk eL (TK.same kQ) | replace eL := KeysN.tk eL (TK.same kQ) | replace eL := DayV.tk eL (TK.same kQ) | replace eL := Dp.same kQ _ _ eL | replace eL := DpAll.same kQ _ _ eL | replace eL := kQ _ _ eL | replace eL := Ch.trans eL (Ch.of_same kQ) | replace eL := Same.trans eL kQ | replace eL := stepsAt.same eL kQ | replace eL := DpT.same eL kQ | replace eL := LOr.same eL kQ | replace eL := Ob.same eL kQ | replace eL := Gds.same eL kQ | replace eL := Gd2.same eL kQ | replace eL := Ob2.same eL kQ | replace eL := NE.same eL kQ | replace eL := NT.same eL kQ | replace eL := NEs.same eL kQ | replace eL := NX.same eL kQ | replace eL := EMs.same eL kQ | replace eL := EOs.same eL kQ | replace eL := EO.same eL kQ | replace eL := GT.same eL kQ | replace eL := GTs.same eL kQ | replace eL := RB.same eL kQ | replace eL := RBs.same eL kQ | replace eL := RB2s.same eL kQ | replace eL := GR.same eL kQ | replace eL := GRs.same eL kQ | replace eL := NO.same eL kQ | replace eL := NOs.same eL kQ | replace eL := NZ.same eL kQ | replace eL := NB.same eL kQ | replace eL := NBs.same eL kQ | replace eL := NQ.same eL kQ | replace eL := NQs.same eL kQ | replace eL := NX'.same eL kQ
        first | replace eRO := HF.same eRO kQ | replace eRO := WF.same eRO kQ | replace eRO := FT.same eRO kQ | replace eRO := Fd.same eRO kQ | replace eRO := LsD.same eRO kQ | replace eRO := TK.same kQ _ _ eRO | replace eRO := KeysT.tk eRO (TK.same kQ) | replace eRO := KeysU.tk eRO (TK.same kQ) | replace eRO := KeysN.tk eRO (TK.same kQ) | replace eRO := DayV.tk eRO (TK.same kQ) | replace eRO := Dp.same kQ _ _ eRO | replace eRO := DpAll.same kQ _ _ eRO | replace eRO := kQ _ _ eRO | replace eRO := Ch.trans eRO (Ch.of_same kQ) | replace eRO := Same.trans eRO kQ | replace eRO := stepsAt.same eRO kQ | replace eRO := DpT.same eRO kQ | replace eRO := LOr.same eRO kQ | replace eRO := Ob.same eRO kQ | replace eRO := Gds.same eRO kQ | replace eRO := Gd2.same eRO kQ | replace eRO := Ob2.same eRO kQ | replace eRO := NE.same eRO kQ | replace eRO := NT.same eRO kQ | replace eRO := NEs.same eRO kQ | replace eRO := NX.same eRO kQ | replace eRO := EMs.same eRO kQ | replace eRO := EOs.same eRO kQ | replace eRO := EO.same eRO kQ | replace eRO := GT.same eRO kQ | replace eRO := GTs.same eRO kQ | replace eRO := RB.same eRO kQ | replace eRO := RBs.same eRO kQ | replace eRO := RB2s.same eRO kQ | replace eRO := GR.same eRO kQ | replace eRO := GRs.same eRO kQ | replace eRO := NO.same eRO kQ | replace eRO := NOs.same eRO kQ | replace eRO := NZ.same eRO kQ | replace eRO := NB.same eRO kQ | replace eRO := NBs.same eRO kQ | replace eRO := NQ.same eRO kQ | replace eRO := NQs.same eRO kQ | replace eRO := NX'.same eRO kQ
        first | replace e8 := HF.same e8 kQ | replace e8 := WF.same e8 kQ | replace e8 := FT.same e8 kQ | replace e8 := Fd.same e8 kQ | replace e8 := LsD.same e8 kQ | replace e8 := TK.same kQ _ _ e8 | replace e8 := KeysT.tk e8 (TK.same kQ) | replace e8 := KeysU.tk e8 (TK.same kQ) | replace e8 := KeysN.tk e8 (TK.same kQ) | replace e8 := DayV.tk e8 (TK.same kQ) | replace e8 := Dp.same kQ _ _ e8 | replace e8 := DpAll.same kQ _ _ e8 | replace e8 := kQ _ _ e8 | replace e8 := Ch.trans e8 (Ch.of_same kQ) | replace e8 := Same.trans e8 kQ | replace e8 := stepsAt.same e8 kQ | replace e8 := DpT.same e8 kQ | replace e8 := LOr.same e8 kQ | replace e8 := Ob.same e8 kQ | replace e8 := Gds.same e8 kQ | replace e8 := Gd2.same e8 kQ | replace e8 := Ob2.same e8 kQ | replace e8 := NE.same e8 kQ | replace e8 := NT.same e8 kQ | replace e8 := NEs.same e8 kQ | replace e8 := NX.same e8 kQ | replace e8 := EMs.same e8 kQ | replace e8 := EOs.same e8 kQ | replace e8 := EO.same e8 kQ | replace e8 := GT.same e8 kQ | replace e8 := GTs.same e8 kQ | replace e8 := RB.same e8 kQ | replace e8 := RBs.same e8 kQ | replace e8 := RB2s.same e8 kQ | replace e8 := GR.same e8 kQ | replace e8 := GRs.same e8 kQ | replace e8 := NO.same e8 kQ | replace e8 := NOs.same e8 kQ | replace e8 := NZ.same e8 kQ | replace e8 := NB.same e8 kQ | replace e8 := NBs.same e8 kQ | replace e8 := NQ.same e8 kQ | replace e8 := NQs.same e8 kQ | replace e8 := NX'.same e8 kQ
        first | replace f8 := HF.same f8 kQ | replace f8 := WF.same f8 kQ | replace f8 := FT.same f8 kQ | replace f8 := Fd.same f8 kQ | replace f8 := LsD.same f8 kQ | replace f8 := TK.same kQ _ _ f8 | replace f8 := KeysT.tk f8 (TK.same kQ) | replace f8 := KeysU.tk f8 (TK.same kQ) | replace f8 := KeysN.tk f8 (TK.same kQ) | replace f8 := DayV.tk f8 (TK.same kQ) | replace f8 := Dp.same kQ _ _ f8 | replace f8 := DpAll.same kQ _ _ f8 | replace f8 := kQ _ _ f8 | replace f8 := Ch.trans f8 (Ch.of_same kQ) | replace f8 := Same.trans f8 kQ | replace f8 := stepsAt.same f8 kQ | replace f8 := DpT.same f8 kQ | replace f8 := LOr.same f8 kQ | replace f8 := Ob.same f8 kQ | replace f8 := Gds.same f8 kQ | replace f8 := Gd2.same f8 kQ | replace f8 := Ob2.same f8 kQ | replace f8 := NE.same f8 kQ | replace f8 := NT.same f8 kQ | replace f8 := NEs.same f8 kQ | replace f8 := NX.same f8 kQ | replace f8 := EMs.same f8 kQ | replace f8 := EOs.same f8 kQ | replace f8 := EO.same f8 kQ | replace f8 := GT.same f8 kQ | replace f8 := GTs.same f8 kQ | replace f8 := RB.same f8 kQ | replace f8 := RBs.same f8 kQ | replace f8 := RB2s.same f8 kQ | replace f8 := GR.same f8 kQ | replace f8 := GRs.same f8 kQ | replace f8 := NO.same f8 kQ | replace f8 := NOs.same f8 kQ | replace f8 := NZ.same f8 kQ | replace f8 := NB.same f8 kQ | replace f8 := NBs.same f8 kQ | replace f8 := NQ.same f8 kQ | replace f8 := NQs.same f8 kQ | replace f8 := NX'.same f8 kQ
        first | replace kk := HF.same kk kQ | replace kk := WF.same kk kQ | replace kk := FT.same kk kQ | replace kk := Fd.same kk kQ | replace kk := LsD.same kk kQ | replace kk := TK.same kQ _ _ kk | replace kk := KeysT.tk kk (TK.same kQ) | replace kk := KeysU.tk kk (TK.same kQ) | replace kk := KeysN.tk kk (TK.same kQ) | replace kk := DayV.tk kk (TK.same kQ) | replace kk := Dp.same kQ _ _ kk | replace kk := DpAll.same kQ _ _ kk | replace kk := kQ _ _ kk | replace kk := Ch.trans kk (Ch.of_same kQ) | replace kk := Same.trans kk kQ | replace kk := stepsAt.same kk kQ | replace kk := DpT.same kk kQ | replace kk := LOr.same kk kQ | replace kk := Ob.same kk kQ | replace kk := Gds.same kk kQ | replace kk := Gd2.same kk kQ | replace kk := Ob2.same kk kQ | replace kk := NE.same kk kQ | replace kk := NT.same kk kQ | replace kk := NEs.same kk kQ | replace kk := NX.same kk kQ | replace kk := EMs.same kk kQ | replace kk := EOs.same kk kQ | replace kk := EO.same kk kQ | replace kk := GT.same kk kQ | replace kk := GTs.same kk kQ | replace kk := RB.same kk kQ | replace kk := RBs.same kk kQ | replace kk := RB2s.same kk kQ | replace kk := GR.same kk kQ | replace kk := GRs.same kk kQ | replace kk := NO.same kk kQ | replace kk := NOs.same kk kQ | replace kk := NZ.same kk kQ | replace kk := NB.same kk kQ | replace kk := NBs.same kk kQ | replace kk := NQ.same kk kQ | replace kk := NQs.same kk kQ | replace kk := NX'.same kk kQ
        replace dyB := DpAll.same kQ _ _ dyB
        generalize upd HB LQ (.lst [.int 7, .int 9, .int 12, .int 14]) = HC at *
        clear kQ nLQ HB
        repeat' (walk_at "jv")
        refine ⟨a, LQ, _, _, rfl, f8, SqA.l (sq_lst eQ), dLQ, by show 0 < 4; decide, by show 4 < 1000000; decide, by omega, fun v HD hv f9 k9 => ?_⟩
        replace eL := k9 _ _ dL eL
        replace eRO := k9 _ _ dRO eRO
        replace e8 := k9 _ _ n8a e8
        replace dyB := DpAll.tk (TK.ch k9 f8) _ _ (pd_only ns pl0) dyB
        replace kk := kk.trans k9
        clear f8 k9 eQ HC
        obtain ⟨n, rfl, hn14⟩ : ∃ n : Nat, v = .int n ∧ n ≤ 14 := by
          simp only [List.mem_cons, List.not_mem_nil, or_false] at hv
          rcases hv with rfl | rfl | rfl | rfl
          · exact ⟨7, rfl, by decide⟩
          · exact ⟨9, rfl, by decide⟩
          · exact ⟨12, rfl, by decide⟩
          · exact ⟨14, rfl, by decide⟩
        clear hv
        repeat' (walk_at "jv")
        intro q9 n9
        have n9a : q9 ≠ a := f9.ne n9
        rw [cut_take]
        have dy90 : DpAll K HD (zs8.take n) ((pl0.take n).map (pd ns)) := by
          rw [List.map_take]
          exact DpAll.take n dyB
        have nd' : (pl0.take n).Nodup := (pp.nodup_iff.mpr h1).sublist (List.take_sublist _ _)
        have lt' : ∀ p ∈ pl0.take n, p.1 < p.2 ∧ p.2 < ns.length := fun p hp => h2 p (pp.mem_iff.mp (List.mem_of_mem_take hp))
        have hl14 : (pl0.take n).length ≤ 14 := by rw [List.length_take]; omega
        generalize pl0.take n = pl' at dy90 nd' lt' hl14
        generalize zs8.take n = ys at dy90
        have kN := Same.upd_new (o := .lst ys) n9
        have e9 : (upd HD q9 (.lst ys)) q9 = some (.lst ys) := upd_same
        have n9R : q9 ≠ RO := (ne_of_none eRO n9).symm
        first | replace eL := HF.same eL kN | replace eL := WF.same eL kN | replace eL := FT.same eL kN | replace eL := Fd.same eL kN | replace eL := LsD.same eL kN | replace eL := TK.same kN _ _ eL | replace eL := KeysT.tk eL (TK.same kN) | replace eL := KeysU.tk eL (TK.same kN) | replace eL := KeysN.tk eL (TK.same kN) | replace eL := DayV.tk eL (TK.same kN) | replace eL := Dp.same kN _ _ eL | replace eL := DpAll.same kN _ _ eL | replace eL := kN _ _ eL | replace eL := Ch.trans eL (Ch.of_same kN) | replace eL := Same.trans eL kN | replace eL := stepsAt.same eL kN | replace eL := DpT.same eL kN | replace eL := LOr.same eL kN | replace eL := Ob.same eL kN | replace eL := Gds.same eL kN | replace eL := Gd2.same eL kN | replace eL := Ob2.same eL kN | replace eL := NE.same eL kN | replace eL := NT.same eL kN | replace eL := NEs.same eL kN | replace eL := NX.same eL kN | replace eL := EMs.same eL kN | replace eL := EOs.same eL kN | replace eL := EO.same eL kN | replace eL := GT.same eL kN | replace eL := GTs.same eL kN | replace eL := RB.same eL kN | replace eL := RBs.same eL kN | replace eL := RB2s.same eL kN | replace eL := GR.same eL kN | replace eL := GRs.same eL kN | replace eL := NO.same eL kN | replace eL := NOs.same eL kN | replace eL := NZ.same eL kN | replace eL := NB.same eL kN | replace eL := NBs.same eL kN | replace eL := NQ.same eL kN | replace eL := NQs.same eL kN | replace eL := NX'.same eL kN
        first | replace eRO := HF.same eRO kN | replace eRO := WF.same eRO kN | replace eRO := FT.same eRO kN | replace eRO := Fd.same eRO kN | replace eRO := LsD.same eRO kN | replace eRO := TK.same kN _ _ eRO | replace eRO := KeysT.tk eRO (TK.same kN) | replace eRO := KeysU.tk eRO (TK.same kN) | replace eRO := KeysN.tk eRO (TK.same kN) | replace eRO := DayV.tk eRO (TK.same kN) | replace eRO := Dp.same kN _ _ eRO | replace eRO := DpAll.same kN _ _ eRO | replace eRO := kN _ _ eRO | replace eRO := Ch.trans eRO (Ch.of_same kN) | replace eRO := Same.trans eRO kN | replace eRO := stepsAt.same eRO kN | replace eRO := DpT.same eRO kN | replace eRO := LOr.same eRO kN | replace eRO := Ob.same eRO kN | replace eRO := Gds.same eRO kN | replace eRO := Gd2.same eRO kN | replace eRO := Ob2.same eRO kN | replace eRO := NE.same eRO kN | replace eRO := NT.same eRO kN | replace eRO := NEs.same eRO kN | replace eRO := NX.same eRO kN | replace eRO := EMs.same eRO kN | replace eRO := EOs.same eRO kN | replace eRO := EO.same eRO kN | replace eRO := GT.same eRO kN | replace eRO := GTs.same eRO kN | replace eRO := RB.same eRO kN | replace eRO := RBs.same eRO kN | replace eRO := RB2s.same eRO kN | replace eRO := GR.same eRO kN | replace eRO := GRs.same eRO kN | replace eRO := NO.same eRO kN | replace eRO := NOs.same eRO kN | replace eRO := NZ.same eRO kN | replace eRO := NB.same eRO kN | replace eRO := NBs.same eRO kN | replace eRO := NQ.same eRO kN | replace eRO := NQs.same eRO kN | replace eRO := NX'.same eRO kN
        first | replace f9 := HF.same f9 kN | replace f9 := WF.same f9 kN | replace f9 := FT.same f9 kN | replace f9 := Fd.same f9 kN | replace f9 := LsD.same f9 kN | replace f9 := TK.same kN _ _ f9 | replace f9 := KeysT.tk f9 (TK.same kN) | replace f9 := KeysU.tk f9 (TK.same kN) | replace f9 := KeysN.tk f9 (TK.same kN) | replace f9 := DayV.tk f9 (TK.same kN) | replace f9 := Dp.same kN _ _ f9 | replace f9 := DpAll.same kN _ _ f9 | replace f9 := kN _ _ f9 | replace f9 := Ch.trans f9 (Ch.of_same kN) | replace f9 := Same.trans f9 kN | replace f9 := stepsAt.same f9 kN | replace f9 := DpT.same f9 kN | replace f9 := LOr.same f9 kN | replace f9 := Ob.same f9 kN | replace f9 := Gds.same f9 kN | replace f9 := Gd2.same f9 kN | replace f9 := Ob2.same f9 kN | replace f9 := NE.same f9 kN | replace f9 := NT.same f9 kN | replace f9 := NEs.same f9 kN | replace f9 := NX.same f9 kN | replace f9 := EMs.same f9 kN | replace f9 := EOs.same f9 kN | replace f9 := EO.same f9 kN | replace f9 := GT.same f9 kN | replace f9 := GTs.same f9 kN | replace f9 := RB.same f9 kN | replace f9 := RBs.same f9 kN | replace f9 := RB2s.same f9 kN | replace f9 := GR.same f9 kN | replace f9 := GRs.same f9 kN | replace f9 := NO.same f9 kN | replace f9 := NOs.same f9 kN | replace f9 := NZ.same f9 kN | replace f9 := NB.same f9 kN | replace f9 := NBs.same f9 kN | replace f9 := NQ.same f9 kN | replace f9 := NQs.same f9 kN | replace f9 := NX'.same f9 kN
        first | replace kk := HF.same kk kN | replace kk := WF.same kk kN | replace kk := FT.same kk kN | replace kk := Fd.same kk kN | replace kk := LsD.same kk kN | replace kk := TK.same kN _ _ kk | replace kk := KeysT.tk kk (TK.same kN) | replace kk := KeysU.tk kk (TK.same kN) | replace kk := KeysN.tk kk (TK.same kN) | replace kk := DayV.tk kk (TK.same kN) | replace kk := Dp.same kN _ _ kk | replace kk := DpAll.same kN _ _ kk | replace kk := kN _ _ kk | replace kk := Ch.trans kk (Ch.of_same kN) | replace kk := Same.trans kk kN | replace kk := stepsAt.same kk kN | replace kk := DpT.same kk kN | replace kk := LOr.same kk kN | replace kk := Ob.same kk kN | replace kk := Gds.same kk kN | replace kk := Gd2.same kk kN | replace kk := Ob2.same kk kN | replace kk := NE.same kk kN | replace kk := NT.same kk kN | replace kk := NEs.same kk kN | replace kk := NX.same kk kN | replace kk := EMs.same kk kN | replace kk := EOs.same kk kN | replace kk := EO.same kk kN | replace kk := GT.same kk kN | replace kk := GTs.same kk kN | replace kk := RB.same kk kN | replace kk := RBs.same kk kN | replace kk := RB2s.same kk kN | replace kk := GR.same kk kN | replace kk := GRs.same kk kN | replace kk := NO.same kk kN | replace kk := NOs.same kk kN | replace kk := NZ.same kk kN | replace kk := NB.same kk kN | replace kk := NBs.same kk kN | replace kk := NQ.same kk kN | replace kk := NQs.same kk kN | replace kk := NX'.same kk kN
        have dy9 := DpAll.same kN _ _ dy90
        have hys : ys.length = pl'.length := by rw [DpAll.len dy90, List.length_map]
        generalize upd HD q9 (.lst ys) = HE at *
        clear kN n9 dy90 dyB e8 HD
        repeat' (walk_at "jv")
        refine f_list ys (fun i σ H' => ∃ y7 y8 y9, σ = [some (.ref a), some (.str abc), some (.ref L), y3, y4, some (.ref PA), some (.ref RO), y7, y8, y9] ∧ H' q9 = some (.lst ys) ∧ H' L = some (.lst (ns.map V.str)) ∧ DpAll K H' ys (pl'.map (pd ns)) ∧ (∃ rs : List (Str × Str), LsD K H' RO (rs.map roadD) ∧ rs.length = i ∧ ∀ (k : Nat) p x, pl'[k]? = some p → rs[k]? = some x → RoadOf ns p x) ∧ Fd H' a (c + 2000 + i) ∧ Ch a H H')
          ⟨_, _, _, rfl, e9, eL, dy9, ⟨[], LsD.nil eRO, rfl, fun k p x _ z => by simp at z⟩, f9.mono (by omega), kk⟩ (fun i σ H' _ h => ?_) (fun i x σ H' hx h => ?_) (fun σ H' h => ?_)
        · obtain ⟨y7, y8, y9, rfl, g1, _⟩ := h
          exact sq_lst g1
        · clear e9 eL eRO dy9 f9 kk HE
          obtain ⟨y7, y8, y9, rfl, e9, eL, dy9, ⟨rs, ⟨ws, ew, dw, tw⟩, hrs, hro⟩, f9, kk⟩ := h
          have hws : ws.length = rs.length := by rw [DpAll.len dw, List.length_map]
          obtain ⟨d, hd, dx⟩ := DpAll.get dy9 hx
          have hi : i < ys.length := (List.getElem?_eq_some_iff.mp hx).1
          have hip : i < pl'.length := by omega
          rw [List.getElem?_map, List.getElem?_eq_getElem hip] at hd
          obtain rfl := Option.some.inj hd
          obtain ⟨p1, p2⟩ := lt' pl'[i] (List.getElem_mem hip)
          have a1 : ns[pl'[i].1]? = some (nm ns pl'[i].1) := nm_at (by omega)
          have a2 : ns[pl'[i].2]? = some (nm ns pl'[i].2) := nm_at (by omega)
          unfold pd at dx
          generalize nm ns pl'[i].1 = z1 at a1 dx
          generalize nm ns pl'[i].2 = z2 at a2 dx
          obtain ⟨b, rfl, sb⟩ := road_parts dx
          refine i_gtup sb rfl ?_
          have push : ∀ (H5 : Hp) (p : Addr) (x : Str × Str) (y7 y8 y9 : Option V), RoadOf ns pl'[i] x → H5 p = none → Ch a H' H5 → Fd H5 a (c + 2000 + i + 1) → ∃ e : (upd H5 p (.tup [.str x.1, .str x.2])) RO = some (.lst ws), ws.length < sizeLine ∧
              ∃ y7' y8' y9', [some (.ref a), some (.str abc), some (.ref L), y3, y4, some (.ref PA), some (.ref RO), y7, y8, y9] = [some (.ref a), some (.str abc), some (.ref L), y3, y4, some (.ref PA), some (.ref RO), y7', y8', y9'] ∧ (upd (upd H5 p (.tup [.str x.1, .str x.2])) RO (.lst (ws ++ [.ref p]))) q9 = some (.lst ys) ∧ (upd (upd H5 p (.tup [.str x.1, .str x.2])) RO (.lst (ws ++ [.ref p]))) L = some (.lst (ns.map V.str)) ∧ DpAll K (upd (upd H5 p (.tup [.str x.1, .str x.2])) RO (.lst (ws ++ [.ref p]))) ys (pl'.map (pd ns)) ∧
                (∃ rs : List (Str × Str), LsD K (upd (upd H5 p (.tup [.str x.1, .str x.2])) RO (.lst (ws ++ [.ref p]))) RO (rs.map roadD) ∧ rs.length = i + 1 ∧ ∀ (k : Nat) p x, pl'[k]? = some p → rs[k]? = some x → RoadOf ns p x) ∧ Fd (upd (upd H5 p (.tup [.str x.1, .str x.2])) RO (.lst (ws ++ [.ref p]))) a (c + 2000 + ((i + 1 : Nat) : Int)) ∧ Ch a H (upd (upd H5 p (.tup [.str x.1, .str x.2])) RO (.lst (ws ++ [.ref p]))) := by
            intro H5 p x y7 y8 y9 rx np k5 f5
            have e5R : H5 RO = some (.lst ws) := k5 _ _ dRO ew
            have e59 : H5 q9 = some (.lst ys) := k5 _ _ n9a e9
            have e5L : H5 L = some (.lst (ns.map V.str)) := k5 _ _ dL eL
            have t5 : TK K H' H5 := TK.ch k5 f9
            have d5w := DpAll.tk t5 _ _ tw dw
            have npR : RO ≠ p := ne_of_none e5R np
            have np9 : q9 ≠ p := ne_of_none e59 np
            have npL : L ≠ p := ne_of_none e5L np
            refine ⟨(upd_ne npR).trans e5R, by rw [sizeLine_eq]; omega, _, _, _, rfl, ?_, ?_, ?_, ⟨rs ++ [x], by rw [List.map_append]; exact LsD.push2 e5R d5w tw np (.str x.1) (.str x.2) rfl rfl, by rw [List.length_append, hrs]; rfl, ?_⟩, ?_, ?_⟩
            · rw [upd_ne n9R, upd_ne np9]
              exact e59
            · rw [upd_ne nLR, upd_ne npL]
              exact e5L
            · exact DpAll.tk ((t5.trans (TK.new np)).trans (TK.lst (xs := ws) (by rw [upd_ne npR]; exact e5R))) _ _ (pd_only ns pl') dy9
            · intro k p' x' hp' hx'
              rcases push_at hx' with ⟨_, hx'⟩ | ⟨hk, rfl⟩
              · exact hro k p' x' hp' hx'
              · rw [hk, hrs, List.getElem?_eq_getElem hip] at hp'
                obtain rfl := Option.some.inj hp'
                exact rx
            · refine Fd.mono (c := c + 2000 + i + 1) ?_ (by omega)
              exact (f5.upd (q := p) (o := .tup [.str x.1, .str x.2]) (Ne.symm (f5.ne np))).upd (q := RO) (o := .lst (ws ++ [.ref p])) (Ne.symm dRO)
            · exact ((kk.trans k5).upd_n np).upd_l nRO0
          repeat' (walk_at "jv")
          refine ⟨a, 2, _, rfl, f9, by decide, by decide, by omega, fun rr H5 s0 s1 f5 k5 => ?_⟩
          repeat' (walk_at "jv")
          · intro p np
            obtain ⟨e6, l6, h6⟩ := push H5 p (z2, z1) (some (.str z2)) (some (.str z1)) y9 (.inr ⟨a1, a2⟩) np k5 f5
            refine i_nil ?_
            refine i_app e6 l6 ?_
            exact h6
          · intro p np
            obtain ⟨e6, l6, h6⟩ := push H5 p (z1, z2) (some (.str z2)) (some (.str z1)) y9 (.inl ⟨a1, a2⟩) np k5 f5
            refine i_nil ?_
            refine i_app e6 l6 ?_
            exact h6
        · clear e9 eL eRO dy9 f9 kk HE
          obtain ⟨y7, y8, y9, rfl, e9, eL, dy9, ⟨rs, gR, hrs, hro⟩, f9, kk⟩ := h
          repeat' (walk_at "jv")
          refine ⟨a, L, _, ns.map V.str, rfl, f9, SqA.l (sq_lst eL), dL, by omega, by omega, fun W zs HA pz nW eW fA kA => ?_⟩
          obtain ⟨ws, ew, dw, tw⟩ := gR.ch kA f9 dRO
          have hwl : ws.length = rs.length := by rw [DpAll.len dw, List.length_map]
          have kA0 : Ch a H HA := kk.trans kA
          obtain ⟨es2, pe2, dz⟩ := DpAll.perm pz (DpAll.strs (K := K) (H := HA) ns)
          obtain ⟨ps, pps, rfl⟩ := perm_map_inv pe2 rfl
          have ez := DpAll.strs_inv dz
          subst ez
          repeat' (walk_at "jv")
          refine ⟨W, ps.map V.str, rfl, sq_lst eW, fun T1 ob nT1 okb => ?_⟩
          repeat' (walk_at "jv")
          intro T2 nT2
          refine i_nil ?_
          refine i_al (by show 2 ≤ sizeLine; decide) ?_
          intro T3 nT3
          have c1 : TK K HA (upd HA T1 (.frz ob (.tup (ps.map V.str)))) := TK.new nT1
          have c2 : TK K (upd HA T1 (.frz ob (.tup (ps.map V.str)))) (upd (upd HA T1 (.frz ob (.tup (ps.map V.str)))) T2 (.tup ws)) := TK.new nT2
          have c3 : TK K (upd (upd HA T1 (.frz ob (.tup (ps.map V.str)))) T2 (.tup ws)) (upd (upd (upd HA T1 (.frz ob (.tup (ps.map V.str)))) T2 (.tup ws)) T3 (.tup [.ref T1, .ref T2])) := TK.new nT3
          have fT1 : FT (upd HA T1 (.frz ob (.tup (ps.map V.str)))) T1 (ps.map V.str) := FT.new okb
          refine q _ ps rs _ (fun h => h99 (pps.mem_iff.mp h)) (web_of hnm pps (by omega) (by omega) nd' (fun p hp' => (lt' p hp').1) hl14 (by omega) hro) ?_ ?_ ?_
          · refine ⟨T3, T1, T2, rfl, .inl (.inl upd_same), (fT1.same (Same.upd_new nT2)).same (Same.upd_new nT3), ?_⟩
            exact Dp.tk c3 _ _ (roads_only rs) (.tup (xs := ws) (.inl (.inl upd_same)) (DpAll.tk (c1.trans c2) _ _ tw dw))
          · have g1 := fA.upd (q := T1) (o := .frz ob (.tup (ps.map V.str))) (Ne.symm (fA.ne nT1))
            have g2 := g1.upd (q := T2) (o := .tup ws) (Ne.symm (g1.ne nT2))
            exact (g2.upd (Ne.symm (g2.ne nT3))).mono (by omega)
          · exact ((kA0.upd_n nT1).upd_n nT2).upd_n nT3
end
end
section
open L2 PySem PySem.Spec PyProof.Rows
abbrev s__law_neighbours : Stmt := topS 41
theorem sc__law_neighbours : FnScope ["_law_web_here", "_law_place", "_law_got", "_law_other"] ["_law_web_here", "_law_place"] (defScope s__law_neighbours) := ⟨rfl, rfl, rfl, by decide +kernel, rfl, by decide +kernel, by decide +kernel⟩
section
variable {base : Heap} {P : Program} {w : World} {K : PySem.W.Frag} {mg : Str → Option Value}
theorem ok_near (D : Dn K mg "_law_neighbours" s__law_neighbours ["_law_web_here", "_law_place"]) (B : Bn mg) : Cl P w K mg base 1 "_law_neighbours" ["_law_web_here", "_law_place"] (spNear K) := by
  refine D.cl sc__law_neighbours (fun vs H Q E h => ?_) (fun f cdv A outer s H vs Q E hr h => ?_)
  · obtain ⟨v, x, ps, rs, rfl, _⟩ := h
    rfl
  · obtain ⟨v, x, ps, rs, rfl, hd, hW, hx, q⟩ := h
    obtain ⟨t, tp, tr, xs, rfl, s1, s2, s3, d3, dr, dpl⟩ := web_parts hd
    refine ⟨_, (pss_cons (ps_set (i := 2) sc__law_neighbours.nd rfl (by first | exact Or.inl rfl | exact Or.inr rfl) (pe_lst pa_nil))
      (pss_cons (ps_for PassesOwn.never rfl (kpi_tup (K := K) (pe_ix ix_tup (pv 0) pe_int (fun _ _ => rfl))) (pg_name (i := 3) sc__law_neighbours.nd rfl (by first | exact Or.inl rfl | exact Or.inr rfl)) (pss_one (ps_if (PW.pt (pw_or (pt_cmpR (o_inQ hr.units) (pe_tup (pa_cons (pv 1) (pa_cons (pv 3) pa_nil))) (pe_ix ix_tup (pv 0) pe_int (fun _ _ => rfl)) (by rfl)) (pw_or1 (pt_cmpR (o_inQ hr.units) (pe_tup (pa_cons (pv 3) (pa_cons (pv 1) pa_nil))) (pe_ix ix_tup (pv 0) pe_int (fun _ _ => rfl)) (by rfl))))) (pss_one (ps_expr (pe_bm PySem.F.plainAttrs_list PySem.F.slot_list_append PySem.F.type_list_append mt_append (pv 2) (pa_cons (pv 3) pa_nil)))) pss_nil)))
      (pss_one (ps_ret (pv 2))))), ?_⟩
    repeat' (walk_at "jv")
    intro L nL
    have sm : Same H (upd H L (.lst [])) := Same.upd_new nL
    have s1' := TK.same (K := K) sm _ _ s1
    have s2' := TK.same (K := K) sm _ _ s2
    repeat' (walk_at "jv")
    refine f_tup (ps.map V.str) (fun i σ H' => ∃ y3, σ = [some (.ref t), some (.str x), some (.ref L), y3] ∧ Same H H' ∧ H' L = some (.lst (((ps.take i).filter fun y => isRoad rs x y).map V.str))) ⟨none, rfl, sm, upd_same⟩ (fun i σ H' _ h => ?_) (fun i y σ H' hy h => ?_) (fun σ H' h => ?_)
    · obtain ⟨_, _, k, _⟩ := h
      exact TK.same k _ _ s2
    · obtain ⟨y3, rfl, k, e⟩ := h
      have hi : i < ps.length := by
        have := (List.getElem?_eq_some_iff.mp hy).1
        rwa [List.length_map] at this
      rw [List.getElem?_map, List.getElem?_eq_getElem hi] at hy
      obtain rfl : V.str ps[i] = y := Option.some.inj hy
      have hmem : ps[i] ∈ ps := List.getElem_mem hi
      have s1k := TK.same (K := K) k _ _ s1
      have drk := Dp.same (K := K) k _ _ dr
      have h8 := hW.le8
      have hl : (((ps.take i).filter fun y => isRoad rs x y).map V.str).length < sizeLine := by
        rw [List.length_map, sizeLine_eq]
        have := List.length_filter_le (fun y => isRoad rs x y) (ps.take i)
        rw [List.length_take] at this
        omega
      have et : ((ps.take (i + 1)).filter fun y => isRoad rs x y) = ((ps.take i).filter fun y => isRoad rs x y) ++ (if isRoad rs x ps[i] = true then [ps[i]] else []) := by
        rw [List.take_add_one, List.getElem?_eq_getElem hi, List.filter_append]
        show _ ++ List.filter (fun y => isRoad rs x y) [ps[i]] = _
        by_cases h : isRoad rs x ps[i] = true
        · simp [h]
        · simp [h]
      repeat' (walk_at "jv")
      intro p np
      have npL : L ≠ p := ne_of_none e np
      have sp := Same.upd_new (o := .tup [.str x, .str ps[i]]) np
      have s1p := TK.same (K := K) sp _ _ s1k
      repeat' (walk_at "jv")
      refine ⟨roadD (x, ps[i]), rs.map roadD, .tup (xs := [.str x, .str ps[i]]) (.inl (.inl upd_same)) (.cons (.str _) (.cons (.str _) .nil)), .inr (Dp.same sp _ _ drk), road_lay (hW.names.2 _ hx) (hW.names.2 _ hmem), roads_lay hW, by show 0 + 1 ≤ 60; decide, ?_⟩
      rw [if_neg (by decide), roads_any]
      repeat' (walk_at "jv")
      · rename_i h1
        have er : isRoad rs x ps[i] = true := by simp [isRoad, h1]
        rw [if_pos er] at et
        refine ⟨_, rfl, fun b o z => ?_, ?_⟩
        · have := sp _ _ (k _ _ z)
          rw [upd_ne (fun w => by rw [w, nL] at z; cases z)]
          exact this
        · rw [upd_same, et, List.map_append]
          rfl
      · rename_i h1
        intro p2 np2
        have npL2 : L ≠ p2 := ne_of_none ((upd_ne npL).trans e) np2
        have sp2 := Same.upd_new (o := .tup [.str ps[i], .str x]) np2
        have s1q := TK.same (K := K) sp2 _ _ s1p
        repeat' (walk_at "jv")
        refine ⟨roadD (ps[i], x), rs.map roadD, .tup (xs := [.str ps[i], .str x]) (.inl (.inl upd_same)) (.cons (.str _) (.cons (.str _) .nil)), .inr (Dp.same sp2 _ _ (Dp.same sp _ _ drk)), road_lay (hW.names.2 _ hmem) (hW.names.2 _ hx), roads_lay hW, by show 0 + 1 ≤ 60; decide, ?_⟩
        rw [if_neg (by decide), roads_any]
        have e2 : (upd (upd H' p (.tup [.str x, .str ps[i]])) p2 (.tup [.str ps[i], .str x])) L = some (.lst (((ps.take i).filter fun y => isRoad rs x y).map V.str)) := (upd_ne npL2).trans ((upd_ne npL).trans e)
        repeat' (walk_at "jv")
        · rename_i h2
          have er : isRoad rs x ps[i] = true := by simp [isRoad, h2]
          rw [if_pos er] at et
          refine ⟨_, rfl, fun b o z => ?_, ?_⟩
          · have := sp2 _ _ (sp _ _ (k _ _ z))
            rw [upd_ne (fun w => by rw [w, nL] at z; cases z)]
            exact this
          · rw [upd_same, et, List.map_append]
            rfl
        · rename_i h2
          have er : ¬ isRoad rs x ps[i] = true := by simp [isRoad, h1, h2]
          rw [if_neg er, List.append_nil] at et
          refine ⟨_, rfl, fun b o z => sp2 _ _ (sp _ _ (k _ _ z)), ?_⟩
          rw [et]
          exact e2
    · obtain ⟨y3, rfl, k, e⟩ := h
      repeat' (walk_at "jv")
      rw [List.length_map, List.take_length] at e
      exact q L H' nL k e
end
end
section
open L2 PySem PySem.Spec PyProof.Rows
abbrev s__law_moves : Stmt := topS 43
theorem sc__law_moves : FnScope ["_law_feed_here", "_law_web_here", "_law_order_here", "_law_many", "_law_moves_here", "_law_turn", "_law_at"] ["_law_feed_here", "_law_web_here", "_law_order_here", "_law_many"] (defScope s__law_moves) := ⟨rfl, rfl, rfl, by decide +kernel, rfl, by decide +kernel, by decide +kernel⟩
def spLMovesF (K : PySem.W.Frag) : Sp := fun vs H Q _ => ∃ (a : Addr) (v : V) (o : Addr) (n : Nat) (qs ps : List Str) (rs : List (Str × Str)) (c : Int), vs = [.ref a, v, .ref o, .int n] ∧ Fd H a c ∧ c < 10 ^ 12 ∧ n ≤ 100 ∧ Dp K H v (webD ps rs) ∧ IsWeb ps rs ∧ FT H o (qs.map V.str) ∧ qs.Perm ps ∧
  ∀ T M o' (ms : List Mv) H', H M = none → SqT K H' T [.ref M, .ref o'] → LsD K H' M (ms.map mvD) → okM rs ms qs → ms.length ≤ n → FT H' o' ((runM ms qs).map V.str) → Fd H' a (c + 1000) → Ch a H H' → Q (.ref T) H'
theorem i_cutT {σ : L2.St} {H : Hp} {QB : Bool → Hp → Prop} {k : TT} (P : Bool → Hp → Prop) (main : ∀ Q' : Bool → Hp → Prop, (∀ b H', P b H' → Q' b H') → k σ H Q') (rest : ∀ b H', P b H' → QB b H') : k σ H QB := main QB rest
section
variable {base : Heap} {P : Program} {w : World} {K : PySem.W.Frag} {mg : Str → Option Value}
theorem rot_readF {H5 : Hp} {o' : Addr} {rq : List Str} {Q : VK} {σ : L2.St} {te2 : TE} (h0 : 0 < rq.length) (h8 : rq.length ≤ 8) (so5 : FT H5 o' (rq.map V.str))
    (v2 : ∀ H Q, Q (.ref o') H → te2 σ H Q) (h : ∀ p3 H6, Same H5 H6 → FT H6 p3 ((rot rq).map V.str) → Q (.ref p3) H6) :
    rSlF K (.ref o') (some 1) none H5 fun x H1 => tSl (rSlF K) te2 tNoPart (tPart (tC (.int 1))) σ H1 fun y H2 => rCatF K x y H2 Q := by
  have h9 : (rq.map V.str).length ≤ 8 := by rw [List.length_map]; omega
  have c1 : cutV (rq.map V.str) (some 1) none = (rq.map V.str).drop 1 := cut_from (k := 1)
  have c2 : cutV (rq.map V.str) none (some 1) = (rq.map V.str).take 1 := cut_take (k := 1)
  refine i_slF so5 fun p1 H3 k3 s3 => ?_
  rw [c1] at s3
  refine i_sl ?_
  refine v2 _ _ ?_
  repeat' (walk_at "jv")
  refine i_slF (so5.same k3) fun p2 H4 k4 s4 => ?_
  rw [c2] at s4
  have hne : (rq.map V.str).take 1 ≠ [] := fun c => by
    have := congrArg List.length c
    rw [List.length_take, List.length_map, List.length_nil] at this
    omega
  refine i_catF (s3.same k4) s4 (by rw [List.length_drop, List.length_take, sizeLine_eq]; omega) fun p3 H6 k6 s6 => ?_
  refine h p3 H6 (k3.trans (k4.trans k6)) ?_
  show FT H6 p3 ((rq.drop 1 ++ rq.take 1).map V.str)
  rw [List.map_append, List.map_drop, List.map_take]
  exact s6
theorem ok_lmovesF (D : Dn K mg "_law_moves" s__law_moves ["_law_feed_here", "_law_web_here", "_law_order_here", "_law_many"]) (B : Bn mg) (C__law_draw : Cl P w K mg base 1 "_law_draw" ["_law_feed_here", "_law_many"] spDraw) (C__law_neighbours : Cl P w K mg base 1 "_law_neighbours" ["_law_web_here", "_law_place"] (spNear K)) : Cl P w K mg base 2 "_law_moves" ["_law_feed_here", "_law_web_here", "_law_order_here", "_law_many"] (spLMovesF K) := by
  refine D.cl sc__law_moves (fun vs H Q E h => ?_) (fun f cdv A outer s H vs Q E hr h => ?_)
  · obtain ⟨a, v, o, n, qs, ps, rs, c, rfl, _⟩ := h
    rfl
  · obtain ⟨a, v, o, n, qs, ps, rs, c, rfl, hf, hc, hn, hd, W, hs, pm, q⟩ := h
    have h8 := W.le8
    have h0 := W.pos
    refine ⟨_, (pss_cons (ps_set (i := 4) sc__law_moves.nd rfl (by first | exact Or.inl rfl | exact Or.inr rfl) (pe_lst pa_nil))
      (pss_cons (ps_for PassesOwn.never rfl (pi_range1 rfl B.range_ (pa_cons (pe_c C__law_draw hr (pa_cons (pv 0) (pa_cons (pe_op op_add (pv 3) pe_int) pa_nil))) pa_nil)) (pg_name (i := 5) sc__law_moves.nd rfl (by first | exact Or.inl rfl | exact Or.inr rfl)) (pss_cons (ps_set (i := 6) sc__law_moves.nd rfl (by first | exact Or.inl rfl | exact Or.inr rfl) (pe_c C__law_draw hr (pa_cons (pv 0) (pa_cons (pe_callB (k_len (K := K)) rfl B.len_ (by decide +kernel) (pa_cons (pv 2) pa_nil)) pa_nil))))
      (pss_one (ps_if (PW.pt (pw_or (pt_cmpR op_eq (pv 6) pe_int (nomark _)) (pw_or1 (pt_cmpR (k_inS (K := K)) (pe_ix (k_ixT (K := K)) (pv 2) (pe_op op_sub (pv 6) pe_int) (fun _ _ => rfl)) (pe_c C__law_neighbours hr (pa_cons (pv 1) (pa_cons (pe_ix (k_ixT (K := K)) (pv 2) (pv 6) (fun _ _ => rfl)) pa_nil))) (by rfl))))) (pss_cons (ps_expr (pe_bm PySem.F.plainAttrs_list PySem.F.slot_list_append PySem.F.type_list_append mt_append (pv 4) (pa_cons (pe_tupF (pa_cons pe_str pa_nil)) pa_nil)))
      (pss_one (ps_set (i := 2) sc__law_moves.nd rfl (by first | exact Or.inl rfl | exact Or.inr rfl) (pe_op (k_catF (K := K)) (pe_slice (ksl_tupF (K := K)) (pv 2) (po_some pe_int) po_none) (pe_slice (ksl_tupF (K := K)) (pv 2) po_none (po_some pe_int)))))) (pss_cons (ps_expr (pe_bm PySem.F.plainAttrs_list PySem.F.slot_list_append PySem.F.type_list_append mt_append (pv 4) (pa_cons (pe_tupF (pa_cons pe_str (pa_cons (pe_op op_sub (pv 6) pe_int) pa_nil))) pa_nil)))
      (pss_one (ps_set (i := 2) sc__law_moves.nd rfl (by first | exact Or.inl rfl | exact Or.inr rfl) (pe_op (k_catF (K := K)) (pe_op (k_catF (K := K)) (pe_slice (ksl_tupF (K := K)) (pv 2) po_none (po_some (pe_op op_sub (pv 6) pe_int))) (pe_tupF (pa_cons (pe_ix (k_ixT (K := K)) (pv 2) (pv 6) (fun _ _ => rfl)) (pa_cons (pe_ix (k_ixT (K := K)) (pv 2) (pe_op op_sub (pv 6) pe_int) (fun _ _ => rfl)) pa_nil)))) (pe_slice (ksl_tupF (K := K)) (pv 2) (po_some (pe_op op_add (pv 6) pe_int)) po_none)))))))))
      (pss_one (ps_ret (pe_tupF (pa_cons (pv 4) (pa_cons (pv 2) pa_nil))))))), ?_⟩
    repeat' (walk_at "jv")
    intro M nM
    have nMa := hf.ne nM
    have eM : (upd H M (.lst [])) M = some (.lst []) := upd_same
    have f0 := hf.upd (o := .lst []) (Ne.symm nMa)
    have k0 : Ch a H (upd H M (.lst [])) := Ch.upd_new nM
    have hs0 := hs.same (Same.upd_new (o := .lst []) nM)
    have hd0 := Dp.tk (TK.new (K := K) (o := .lst []) nM) _ _ (web_only ps rs) hd
    generalize upd H M (.lst []) = H1 at *
    repeat' (walk_at "jv")
    refine ⟨a, _, c, rfl, f0, by omega, by omega, by omega, fun m H2 m0 m1 f2 k2 => ?_⟩
    obtain ⟨m, rfl⟩ := Int.eq_ofNat_of_zero_le m0
    repeat' (walk_at "jv")
    rw [Int.toNat_natCast]
    refine f_range (fun i σ H' => ∃ o' y5 y6 ms, σ = [some (.ref a), some v, some (.ref o'), some (.int n), some (.ref M), y5, y6] ∧ LsD K H' M (ms.map mvD) ∧ okM rs ms qs ∧ ms.length = i ∧ FT H' o' ((runM ms qs).map V.str) ∧ Dp K H' v (webD ps rs) ∧ Fd H' a (c + 1 + i) ∧ Ch a H H')
      ⟨o, none, none, [], rfl, LsD.nil (k2 _ _ nMa eM), trivial, rfl, FT.ch hs0 k2 f0, Dp.tk (TK.ch k2 f0) _ _ (web_only ps rs) hd0, by simpa using f2, k0.trans k2⟩ (fun i σ H' hi h => ?_) (fun σ H' h => ?_)
    · obtain ⟨o', y5, y6, ms, rfl, lM, hok, hml, so, hd', f', k'⟩ := h
      have pr := runM_perm ms qs hok
      have hrl : (runM ms qs).length = ps.length := by rw [pr.length_eq, pm.length_eq]
      have happ : ∀ mv : Mv, mv.ok rs (runM ms qs) → okM rs (ms ++ [mv]) qs := fun mv h => okM_app ms [mv] qs hok ⟨h, trivial⟩
      have hrun : ∀ mv : Mv, runM (ms ++ [mv]) qs = mv.run (runM ms qs) := fun mv => by rw [runM_app]; rfl
      have prp := pr.trans pm
      generalize runM ms qs = rq at *
      have h9 : (rq.map V.str).length ≤ 8 := by rw [List.length_map]; omega
      have hlm : (rq.map V.str).length = rq.length := List.length_map ..
      have soq := so.sq (K := K)
      repeat' (walk_at "jv")
      rw [hlm]
      refine ⟨a, _, _, rfl, f', by omega, by omega, by omega, fun r H3 r0 r1 f3 k3 => ?_⟩
      obtain ⟨r, rfl⟩ := Int.eq_ofNat_of_zero_le r0
      have hr8 : r < rq.length := by omega
      have tk3 : TK K H' H3 := TK.ch k3 f'
      have so3 := FT.ch so k3 f'
      have soq3 := so3.sq (K := K)
      have hd3 := Dp.tk tk3 _ _ (web_only ps rs) hd'
      have lM3 := lM.ch k3 f' nMa
      have k03 := k'.trans k3
      have az := at_str (List.getElem?_eq_getElem hr8)
      refine i_gname ?_
      refine i_ifS ?_
      refine i_cutT (fun b H4 => Same H3 H4 ∧ (b = false → ∃ j x y, r = j + 1 ∧ rq[j]? = some x ∧ rq[j + 1]? = some y ∧ isRoad rs x y = false)) (fun Q1 hQ1 => ?_) ?_
      · rcases Nat.eq_zero_or_pos r with rfl | hp
        · repeat' (walk_at "jv")
          · exact hQ1 _ _ ⟨Same.refl _, fun z => by cases z⟩
          · rename_i hne
            exact absurd rfl hne
        · obtain ⟨j, rfl⟩ : ∃ j, r = j + 1 := ⟨r - 1, by omega⟩
          have e1 : ((j + 1 : Nat) : Int) - 1 = (j : Int) := by omega
          have hj : j < rq.length := by omega
          have aj := at_str (List.getElem?_eq_getElem hj)
          rw [← e1] at aj
          repeat' (walk_at "jv")
          · rename_i h0'
            exact absurd h0' (by omega)
          refine ⟨v, rq[j + 1], ps, rs, rfl, hd3, W, prp.mem_iff.mp (List.getElem_mem hr8), fun p H4 np k4 e4 => ?_⟩
          refine i_inS (ns := nearL ps rs rq[j + 1]) (SqA.l (sq_lst e4)) ?_
          refine ⟨_, rfl, ?_⟩
          refine hQ1 _ _ ⟨k4, fun hb => ⟨j, rq[j], rq[j + 1], rfl, List.getElem?_eq_getElem hj, List.getElem?_eq_getElem hr8, ?_⟩⟩
          have hnot := of_decide_eq_false hb
          cases z : isRoad rs rq[j] rq[j + 1] with
          | false => rfl
          | true => exact absurd (List.mem_filter.mpr ⟨prp.mem_iff.mp (List.getElem_mem hj), by rw [road_sym]; exact z⟩) hnot
      rintro b H4 ⟨k4, hb⟩
      obtain ⟨ws, ew, dw, tw⟩ := lM3.same k4
      have hwl : ws.length ≤ 100 := by rw [DpAll.len dw, List.length_map]; omega
      have so4 := so3.same k4
      have hd4 := Dp.same k4 _ _ hd3
      have f4 := f3.same k4
      have k04 := k03.trans (Ch.of_same k4)
      have soq4 := so4.sq (K := K)
      clear soq soq3 so so3 hd' hd3 lM lM3 f' f3 k' k03 tk3 k3 k4 H3
      cases b with
      | true =>
        rw [if_pos rfl]
        repeat' (walk_at "jv")
        refine i_tupF ?_
        repeat' (walk_at "jv")
        intro p ob np okb
        have ew5 : (upd H4 p (.frz ob (.tup [.str "turn"]))) M = some (.lst ws) := (upd_ne (ne_of_none ew np)).trans ew
        repeat' (walk_at "jv")
        have k5 := Same.upd_new (o := .frz ob (.tup [.str "turn"])) np
        have l6 := LsD.push (d := mvD .turn) (y := .ref p) ew5 (DpAll.same k5 _ _ dw) tw (.tup (xs := [.str "turn"]) ((FT.new okb).sq) (.cons (.str _) .nil)) rfl
        have t6 : TK K H4 (upd (upd H4 p (.frz ob (.tup [.str "turn"]))) M (.lst (ws ++ [.ref p]))) := (TK.same k5).trans (TK.lst ew5)
        have so6 := ft_lst (o := .lst (ws ++ [.ref p])) (so4.same k5) ew5
        have hd6 := Dp.tk t6 _ _ (web_only ps rs) hd4
        have f6 := (f4.same k5).upd (q := M) (o := .lst (ws ++ [.ref p])) (Ne.symm nMa)
        have k6 : Ch a H (upd (upd H4 p (.frz ob (.tup [.str "turn"]))) M (.lst (ws ++ [.ref p]))) := (k04.trans (Ch.of_same k5)).upd_l nM
        generalize upd (upd H4 p (.frz ob (.tup [.str "turn"]))) M (.lst (ws ++ [.ref p])) = H6 at *
        refine rot_readF (by omega) (by omega) so6 (fun H Q h => i_var rfl h) fun p3 H7 k7 s7 => ?_
        refine i_gname ?_
        refine ⟨p3, _, _, ms ++ [.turn], rfl, ?_, happ .turn trivial, by rw [List.length_append, hml]; rfl, ?_, Dp.same k7 _ _ hd6, (f6.same k7).mono (by omega), k6.trans (Ch.of_same k7)⟩
        · rw [List.map_append]
          exact l6.same k7
        · rw [hrun]
          exact s7
      | false =>
        rw [if_neg Bool.false_ne_true]
        obtain ⟨j, x, y, rfl, hx, hy, hxy⟩ := hb rfl
        have e1 : ((j + 1 : Nat) : Int) - 1 = (j : Int) := by omega
        have e2 : ((j + 1 : Nat) : Int) + 1 = ((j + 2 : Nat) : Int) := by omega
        have ax := at_str hx
        have ay := at_str hy
        repeat' (walk_at "jv")
        refine i_tupF ?_
        repeat' (walk_at "jv")
        rw [e1]
        intro p ob np okb
        have ew5 : (upd H4 p (.frz ob (.tup [.str "swap", .int (j : Int)]))) M = some (.lst ws) := (upd_ne (ne_of_none ew np)).trans ew
        repeat' (walk_at "jv")
        have k5 := Same.upd_new (o := .frz ob (.tup [.str "swap", .int (j : Int)])) np
        have l6 := LsD.push (d := mvD (.swap j)) (y := .ref p) ew5 (DpAll.same k5 _ _ dw) tw (.tup (xs := [.str "swap", .int (j : Int)]) ((FT.new okb).sq) (.cons (.str _) (.cons (.int _) .nil))) rfl
        have t6 : TK K H4 (upd (upd H4 p (.frz ob (.tup [.str "swap", .int (j : Int)]))) M (.lst (ws ++ [.ref p]))) := (TK.same k5).trans (TK.lst ew5)
        have so6 := ft_lst (o := .lst (ws ++ [.ref p])) (so4.same k5) ew5
        have hd6 := Dp.tk t6 _ _ (web_only ps rs) hd4
        have f6 := (f4.same k5).upd (q := M) (o := .lst (ws ++ [.ref p])) (Ne.symm nMa)
        have k6 : Ch a H (upd (upd H4 p (.frz ob (.tup [.str "swap", .int (j : Int)]))) M (.lst (ws ++ [.ref p]))) := (k04.trans (Ch.of_same k5)).upd_l nM
        generalize upd (upd H4 p (.frz ob (.tup [.str "swap", .int (j : Int)]))) M (.lst (ws ++ [.ref p])) = H6 at *
        repeat' (walk_at "jv")
        rw [e1]
        refine i_slF so6 fun p1 H7 k7 s7 => ?_
        rw [cut_take] at s7
        have so7 := so6.same k7
        have soq7 := so7.sq (K := K)
        rw [← e1] at ax
        repeat' (walk_at "jv")
        refine i_tupF ?_
        repeat' (walk_at "jv")
        intro p2 ob2 np2 okb2
        have k8 := Same.upd_new (o := .frz ob2 (.tup [V.str y, V.str x])) np2
        refine i_catF (s7.same k8) (FT.new okb2) (by rw [List.length_take, sizeLine_eq]; show _ + 2 ≤ _; omega) fun p3 H9 k9 s9 => ?_
        have so9 := so7.same (k8.trans k9)
        repeat' (walk_at "jv")
        rw [e2]
        refine i_slF so9 fun p4 H10 k10 s10 => ?_
        rw [cut_from] at s10
        refine i_catF (s9.same k10) s10 (by rw [List.length_append, List.length_take, List.length_drop, sizeLine_eq]; show _ + 2 + _ ≤ _; omega) fun p5 H11 k11 s11 => ?_
        have k611 := k7.trans (k8.trans (k9.trans (k10.trans k11)))
        refine i_gname ?_
        refine ⟨p5, _, _, ms ++ [.swap j], rfl, ?_, happ (.swap j) ⟨x, y, hx, hy, hxy⟩, by rw [List.length_append, hml]; rfl, ?_, Dp.same k611 _ _ hd6, (f6.same k611).mono (by omega), k6.trans (Ch.of_same k611)⟩
        · rw [List.map_append]
          exact l6.same k611
        · rw [hrun]
          show FT H11 p5 ((sw rq j).map V.str)
          rw [sw_at hx hy, List.map_append, List.map_cons, List.map_cons, List.map_take, List.map_drop]
          rw [List.append_assoc] at s11
          exact s11
    · obtain ⟨o', y5, y6, ms, rfl, lM, hok, hml, so, hd', f', k'⟩ := h
      repeat' (walk_at "jv")
      refine i_tupF ?_
      repeat' (walk_at "jv")
      intro T ob nT okb
      have kT := Same.upd_new (o := .frz ob (.tup [.ref M, .ref o'])) nT
      refine q T M o' ms _ nM (FT.new okb).sq (lM.same kT) hok (by omega) (so.same kT) ((f'.same kT).mono (by omega)) (k'.trans (Ch.of_same kT))
end
end
section
open L2 PySem PySem.Spec PyProof.Rows
abbrev s__law_some_web : Stmt := topS 45
theorem sc__law_some_web : FnScope ["_law_feed_here", "_law_most"] ["_law_feed_here", "_law_most"] (defScope s__law_some_web) := ⟨rfl, rfl, rfl, by decide +kernel, rfl, by decide +kernel, by decide +kernel⟩
section
variable {base : Heap} {P : Program} {w : World} {K : PySem.W.Frag} {mg : Str → Option Value}
theorem ok_some_web (D : Dn K mg "_law_some_web" s__law_some_web ["_law_feed_here", "_law_most"]) (B : Bn mg) (C__law_draw : Cl P w K mg base 1 "_law_draw" ["_law_feed_here", "_law_many"] spDraw) (C__law_one : Cl P w K mg base 2 "_law_one" ["_law_feed_here", "_law_things"] (spOne K)) (C__law_wide_web : Cl P w K mg base 3 "_law_wide_web" ["_law_feed_here"] (spWideN K)) (C__law_web : Cl P w K mg base 4 "_law_web" ["_law_feed_here", "_law_way", "_law_most"] (spWebN K)) : Cl P w K mg base 5 "_law_some_web" ["_law_feed_here", "_law_most"] (spSomeN K) := by
  refine D.cl sc__law_some_web (fun vs H Q E h => ?_) (fun f cdv A outer s H vs Q E hr h => ?_)
  · obtain ⟨a, c, rfl, _⟩ := h
    rfl
  · obtain ⟨a, c, rfl, hf, hc, q⟩ := h
    refine ⟨_, (pss_cons (ps_if (PW.pt (pw_and (pt_cmpR op_eq (pe_c C__law_draw hr (pa_cons (pv 0) (pa_cons pe_int pa_nil))) pe_int (nomark _)) (pw_and1 (pt_cmpR op_gt (pv 1) pe_int (nomark _))))) (pss_one (ps_ret (pe_c C__law_wide_web hr (pa_cons (pv 0) pa_nil)))) pss_nil)
      (pss_one (ps_ret (pe_c C__law_web hr (pa_cons (pv 0) (pa_cons (pe_c C__law_one hr (pa_cons (pv 0) (pa_cons (pe_lst (pa_cons pe_str (pa_cons pe_str (pa_cons pe_str (pa_cons pe_str (pa_cons pe_str pa_nil)))))) pa_nil))) (pa_cons (pv 1) pa_nil))))))), ?_⟩
    repeat' (walk_at "jv")
    refine ⟨a, 5, c, rfl, hf, by decide, by decide, by omega, fun x H1 x0 x1 f1 k1 => ?_⟩
    repeat' (walk_at "jv")
    · exact ⟨a, c + 1, rfl, f1, by omega, fun v ps rs H2 nn W dv f2 k2 => q v ps rs H2 nn W dv (f2.mono (by omega)) (k1.trans k2)⟩
    all_goals
      intro L nL
      have dL := f1.ne nL
      refine ⟨a, L, _, [.str "ring", .str "whole", .str "whole", .str "any", .str "tree"], rfl, f1.upd (Ne.symm dL), SqA.l (sq_lst upd_same), dL, by show 0 < 5; decide, by show 5 < 1000000; decide, by omega, fun v H2 hv f2 k2 => ?_⟩
      have k3 := (k1.trans (Ch.upd_new (o := .lst [.str "ring", .str "whole", .str "whole", .str "any", .str "tree"]) nL)).trans k2
      obtain ⟨way, rfl⟩ : ∃ way : Str, v = .str way := by
        simp only [List.mem_cons, List.not_mem_nil, or_false] at hv
        rcases hv with rfl | rfl | rfl | rfl | rfl <;> exact ⟨_, rfl⟩
      repeat' (walk_at "jv")
      exact ⟨a, way, 8, _, rfl, f2, by decide, by decide, by omega, fun v ps rs H3 nn W _ dv f3 k4 => q v ps rs H3 nn W dv (f3.mono (by omega)) (k3.trans k4)⟩
end
end
section
open L2 PySem PySem.Spec PyProof.Rows
abbrev s_next_pairs : Stmt := topS 25
theorem sc_next_pairs : FnScope ["ring"] ["ring"] (defScope s_next_pairs) := ⟨rfl, rfl, rfl, by decide +kernel, rfl, by decide +kernel, by decide +kernel⟩
def spNextP (K : PySem.W.Frag) : Sp := fun vs H Q _ => ∃ (o : Addr) (l : List Str), vs = [.ref o] ∧ SqT K H o (l.map V.str) ∧ 2 ≤ l.length ∧ l.length ≤ 50 ∧ ∀ (q : Addr) (as : List Addr) (H' : Hp), Same H H' → H q = none → H' q = some (.lst (as.map V.ref)) → as.length = l.length → (∀ (j : Nat) (b : Addr), as[j]? = some b → ∃ p, (pairsR l)[j]? = some p ∧ H' b = some (.tup [.str p.1, .str p.2])) → Q (.ref q) H'
section
variable {base : Heap} {P : Program} {w : World} {K : PySem.W.Frag} {mg : Str → Option Value}
theorem ok_next (D : Dn K mg "next_pairs" s_next_pairs ["ring"]) (B : Bn mg) : Cl P w K mg base 1 "next_pairs" ["ring"] (spNextP K) := by
  refine D.cl sc_next_pairs (fun vs H Q E h => ?_) (fun f cdv A outer s H vs Q E hr h => ?_)
  · obtain ⟨o, l, rfl, _⟩ := h
    rfl
  · obtain ⟨o, l, rfl, so, h2, h50, q⟩ := h
    have hml : (l.map V.str).length = l.length := List.length_map ..
    refine ⟨_, (pss_one (ps_ret (k_listZipT (K := K) B.zip_ B.list_ (pa_cons (pv 0) (pa_cons (pe_op op_catA (pe_slice sl_tupA (pv 0) (po_some pe_int) po_none) (pe_slice sl_tupA (pv 0) po_none (po_some pe_int))) pa_nil))))), ?_⟩
    repeat' (walk_at "jv")
    refine i_lzT ?_
    repeat' (walk_at "jv")
    refine i_slG so fun A1 H1 k1 s1 => ?_
    rw [show cutV (l.map V.str) (some 1) none = (l.map V.str).drop 1 from cut_from (k := 1)] at s1
    replace so := TK.same k1 _ _ so
    repeat' (walk_at "jv")
    refine i_slG so fun A2 H2 k2 s2 => ?_
    rw [show cutV (l.map V.str) none (some 1) = (l.map V.str).take 1 from cut_take (k := 1)] at s2
    replace so := TK.same k2 _ _ so
    replace s1 := TK.same k2 _ _ s1
    refine i_catG s1 s2 (by rw [List.length_drop, List.length_take, sizeLine_eq]; omega) fun A3 H3 k3 s3 => ?_
    replace so := TK.same k3 _ _ so
    repeat' (walk_at "jv")
    refine ⟨o, A3, _, _, rfl, so, s3, by omega, by rw [List.length_append, List.length_drop, List.length_take]; omega, by omega, fun q2 as H4 z => ?_⟩
    have kk := (k1.trans k2).trans (k3.trans z.same)
    have ep : ∀ (j : Nat) (x y : V), (l.map V.str)[j]? = some x → ((l.map V.str).drop 1 ++ (l.map V.str).take 1)[j]? = some y → ∃ p, (pairsR l)[j]? = some p ∧ x = .str p.1 ∧ y = .str p.2 := fun j x y hx hy => by
      rw [List.getElem?_map] at hx
      rw [← List.map_drop, ← List.map_take, ← List.map_append, List.getElem?_map] at hy
      cases c1 : l[j]? with
      | none => rw [c1] at hx; cases hx
      | some u =>
        cases c2 : (l.drop 1 ++ l.take 1)[j]? with
        | none => rw [c2] at hy; cases hy
        | some w2 =>
          rw [c1] at hx
          rw [c2] at hy
          refine ⟨(u, w2), ?_, (Option.some.inj hx).symm, (Option.some.inj hy).symm⟩
          rw [← pairs_zip, List.getElem?_zip_eq_some]
          exact ⟨c1, c2⟩
    refine q q2 as H4 kk (free_same ((k1.trans k2).trans k3) z.free) z.list (by rw [z.len, hml]) fun j b hb => ?_
    obtain ⟨x, y, hx, hy, hb2⟩ := z.pair j b hb
    obtain ⟨p, hp, rfl, rfl⟩ := ep j x y hx hy
    exact ⟨p, hp, hb2⟩
end
end
section
open L2 PySem PySem.Spec PyProof.Rows
abbrev s__steps_forward : Stmt := topS 29
theorem sc__steps_forward : FnScope ["order", "ring", "one", "other"] ["order", "ring"] (defScope s__steps_forward) := ⟨rfl, rfl, rfl, by decide +kernel, rfl, by decide +kernel, by decide +kernel⟩
def spStepsF (K : PySem.W.Frag) : Sp := fun vs H Q _ => ∃ (o r : Addr) (qs l : List Str), vs = [.ref o, .ref r] ∧ FT H o (qs.map V.str) ∧ SqT K H r (l.map V.str) ∧ 2 ≤ l.length ∧ l.length ≤ 50 ∧ (∀ z ∈ l, z ∈ qs) ∧ qs.length ≤ 8 ∧ ∀ H', Same H H' → Q (.int (fwdN qs l : Nat)) H'
theorem road_inS {ps : List Str} {rs : List (Str × Str)} {x y : Str} (W : IsWeb ps rs) (h : isRoad rs x y = true) : x ∈ ps ∧ y ∈ ps := by
  unfold isRoad at h
  rcases (Bool.or_eq_true _ _).mp h with h | h
  · exact ⟨(W.ends _ (of_decide_eq_true h)).1, (W.ends _ (of_decide_eq_true h)).2.1⟩
  · exact ⟨(W.ends _ (of_decide_eq_true h)).2.1, (W.ends _ (of_decide_eq_true h)).1⟩
section
variable {base : Heap} {P : Program} {w : World} {K : PySem.W.Frag} {mg : Str → Option Value}
theorem ok_stepsF (D : Dn K mg "_steps_forward" s__steps_forward ["order", "ring"]) (B : Bn mg) (C_next_pairs : Cl P w K mg base 1 "next_pairs" ["ring"] (spNextP K)) : Cl P w K mg base 2 "_steps_forward" ["order", "ring"] (spStepsF K) := by
  refine D.cl sc__steps_forward (fun vs H Q E h => ?_) (fun f cdv A outer s H vs Q E hr h => ?_)
  · obtain ⟨o, r, qs, l, rfl, _⟩ := h
    rfl
  · obtain ⟨o, r, qs, l, rfl, so, sr, h2, h50, sub, h8, q⟩ := h
    refine ⟨_, (pss_one (ps_ret (pe_callB (k_len (K := K)) rfl B.len_ (by decide +kernel) (pa_cons (pe_lc (own := [("one", 2), ("other", 3)]) rfl sc__steps_forward.nd (kpi_list (K := K) (pe_c C_next_pairs hr (pa_cons (pv 1) pa_nil))) (blkOk_by (N := ["order", "ring", "one", "other"]) (sc := defScope s__steps_forward) (by decide +kernel)) (fun _ _ _ _ _ => (kpg_tup (K := K) (n := 2) rfl (pgs_cons (pg_name (i := 2) sc__steps_forward.nd rfl (by first | exact Or.inl rfl | exact Or.inr rfl)) (pgs_cons (pg_name (i := 3) sc__steps_forward.nd rfl (by first | exact Or.inl rfl | exact Or.inr rfl)) pgs_nil)))) (fun _ _ _ _ _ => pts_one (pt_cmpR op_lt (pe_bmF PySem.F.plainAttrs_tuple PySem.F.slot_tuple_index PySem.F.type_tuple_index (k_tindex (K := K)) (pv 0) (pa_cons (pv 2) pa_nil)) (pe_bmF PySem.F.plainAttrs_tuple PySem.F.slot_tuple_index PySem.F.type_tuple_index (k_tindex (K := K)) (pv 0) (pa_cons (pv 3) pa_nil)) (nomark _))) (fun _ _ _ _ _ => (pv 2))) pa_nil)))), ?_⟩
    repeat' (walk_at "jv")
    refine ⟨r, l, rfl, sr, h2, h50, fun q2 as H2 k2 nq eq hal hp => ?_⟩
    repeat' (walk_at "jv")
    have hal2 : (as.map V.ref).length = l.length := by rw [List.length_map, hal]
    have hpl := pairs_len l
    replace so := so.same k2
    refine c_list (as.map V.ref) (fun D i H' => H2 D = none ∧ Same H2 H' ∧ ∃ xs, H' D = some (.lst xs) ∧ xs.length = (((pairsR l).take i).filter (fwdB fun z => qs.idxOf z)).length) (fun D nD => ⟨nD, Same.upd_new nD, [], upd_same, rfl⟩) (fun D i H' _ h => sq_lst (h.2.1 _ _ eq)) (fun D i y H' hy h => ?_) (fun D H' h => ?_)
    · obtain ⟨nD, kD, xs, eD, hxs⟩ := h
      rw [List.getElem?_map] at hy
      cases hb : as[i]? with
      | none => rw [hb] at hy; cases hy
      | some b =>
        rw [hb] at hy
        obtain rfl := Option.some.inj hy
        obtain ⟨p2, hp2, eb⟩ := hp i b hb
        obtain ⟨m1, m2⟩ := pairsR_mem (List.mem_of_getElem? hp2)
        have hi : i < (pairsR l).length := (List.getElem?_eq_some_iff.mp hp2).1
        have so' := so.same kD
        have hlt : (((pairsR l).take i).filter (fwdB fun z => qs.idxOf z)).length ≤ 50 := Nat.le_trans (List.length_filter_le _ _) (by rw [List.length_take]; omega)
        have et : ((pairsR l).take (i + 1)).filter (fwdB fun z => qs.idxOf z) = ((pairsR l).take i).filter (fwdB fun z => qs.idxOf z) ++ if fwdB (fun z => qs.idxOf z) p2 = true then [p2] else [] := by
          rw [take_push hp2, List.filter_append]
          congr 1
          by_cases c : fwdB (fun z => qs.idxOf z) p2 = true
          · rw [if_pos c, List.filter_cons_of_pos c, List.filter_nil]
          · rw [if_neg c, List.filter_cons_of_neg c, List.filter_nil]
        refine i_gtup (sq_tup (kD _ _ eb)) rfl ?_
        repeat' (walk_at "jv")
        refine i_bmF (i_var rfl (i_tyF so' ?_))
        refine i_cons ?_
        repeat' (walk_at "jv")
        refine i_tix so'.sq (sub _ m1) ?_
        repeat' (walk_at "jv")
        refine i_bmF (i_var rfl (i_tyF so' ?_))
        refine i_cons ?_
        repeat' (walk_at "jv")
        refine i_tix so'.sq (sub _ m2) ?_
        repeat' (walk_at "jv")
        · rename_i c
          have fb : fwdB (fun z => qs.idxOf z) p2 = true := decide_eq_true (Int.ofNat_lt.mp c)
          refine ⟨nD, fun c oc z => (upd_ne (ne_of_none z nD)).trans (kD _ _ z), _, upd_same, ?_⟩
          rw [et, if_pos fb, List.length_append, List.length_append, hxs]
          rfl
        · rename_i c
          have fb : ¬ fwdB (fun z => qs.idxOf z) p2 = true := fun h => c (Int.ofNat_lt.mpr (of_decide_eq_true h))
          refine ⟨nD, kD, _, eD, ?_⟩
          rw [et, if_neg fb, List.append_nil, hxs]
    · obtain ⟨nD, kD, xs, eD, hxs⟩ := h
      rw [hal2, ← hpl, List.take_length] at hxs
      repeat' (walk_at "jv")
      rw [hxs]
      exact q H' (k2.trans kD)
end
end
section
open L2 PySem PySem.Spec PyProof.Rows
abbrev s__law_forward : Stmt := topS 46
theorem sc__law_forward : FnScope ["_law_order_here", "_law_ring", "_law_one_here", "_law_two"] ["_law_order_here", "_law_ring"] (defScope s__law_forward) := ⟨rfl, rfl, rfl, by decide +kernel, rfl, by decide +kernel, by decide +kernel⟩
def spLForward (K : PySem.W.Frag) : Sp := fun vs H Q _ => ∃ (o r : Addr) (qs l : List Str), vs = [.ref o, .ref r] ∧ FT H o (qs.map V.str) ∧ SqT K H r (l.map V.str) ∧ 2 ≤ l.length ∧ l.length ≤ 8 ∧ (∀ z ∈ l, z ∈ qs) ∧ qs.length ≤ 8 ∧ ∀ H', Same H H' → Q (.int (fwdN qs l : Nat)) H'
theorem turn_at {l : List Str} {j : Nat} {x y : V} (hx : (l.map V.str)[j]? = some x) (hy : ((l.map V.str).drop 1 ++ (l.map V.str).take 1)[j]? = some y) : ∃ p, (pairsR l)[j]? = some p ∧ x = .str p.1 ∧ y = .str p.2 := by
  rw [List.getElem?_map] at hx
  rw [← List.map_drop, ← List.map_take, ← List.map_append, List.getElem?_map] at hy
  cases c1 : l[j]? with
  | none => rw [c1] at hx; cases hx
  | some u =>
    cases c2 : (l.drop 1 ++ l.take 1)[j]? with
    | none => rw [c2] at hy; cases hy
    | some w2 =>
      rw [c1] at hx
      rw [c2] at hy
      refine ⟨(u, w2), ?_, (Option.some.inj hx).symm, (Option.some.inj hy).symm⟩
      rw [← pairs_zip, List.getElem?_zip_eq_some]
      exact ⟨c1, c2⟩
section
variable {base : Heap} {P : Program} {w : World} {K : PySem.W.Frag} {mg : Str → Option Value}
theorem ok_law_forward (D : Dn K mg "_law_forward" s__law_forward ["_law_order_here", "_law_ring"]) (B : Bn mg) : Cl P w K mg base 1 "_law_forward" ["_law_order_here", "_law_ring"] (spLForward K) := by
  refine D.cl sc__law_forward (fun vs H Q E h => ?_) (fun f cdv A outer s H vs Q E hr h => ?_)
  · obtain ⟨o, r, qs, l, rfl, _⟩ := h
    rfl
  · obtain ⟨o, r, qs, l, rfl, so, sr, h2, h50, sub, h8, q⟩ := h
    refine ⟨_, (pss_one (ps_ret (pe_callB (k_len (K := K)) rfl B.len_ (by decide +kernel) (pa_cons (pe_lc (own := [("_law_one_here", 2), ("_law_two", 3)]) rfl sc__law_forward.nd (kpi_zip (K := K) B.zip_ (pa_cons (pv 1) (pa_cons (pe_op op_catA (pe_slice sl_tupA (pv 1) (po_some pe_int) po_none) (pe_slice sl_tupA (pv 1) po_none (po_some pe_int))) pa_nil))) (blkOk_by (N := ["_law_order_here", "_law_ring", "_law_one_here", "_law_two"]) (sc := defScope s__law_forward) (by decide +kernel)) (fun _ _ _ _ _ => (kpg_tup (K := K) (n := 2) rfl (pgs_cons (pg_name (i := 2) sc__law_forward.nd rfl (by first | exact Or.inl rfl | exact Or.inr rfl)) (pgs_cons (pg_name (i := 3) sc__law_forward.nd rfl (by first | exact Or.inl rfl | exact Or.inr rfl)) pgs_nil)))) (fun _ _ _ _ _ => pts_one (pt_cmpR op_lt (pe_bmF PySem.F.plainAttrs_tuple PySem.F.slot_tuple_index PySem.F.type_tuple_index (k_tindex (K := K)) (pv 0) (pa_cons (pv 2) pa_nil)) (pe_bmF PySem.F.plainAttrs_tuple PySem.F.slot_tuple_index PySem.F.type_tuple_index (k_tindex (K := K)) (pv 0) (pa_cons (pv 3) pa_nil)) (nomark _))) (fun _ _ _ _ _ => pe_int)) pa_nil)))), ?_⟩
    repeat' (walk_at "jv")
    refine i_zip ?_
    repeat' (walk_at "jv")
    refine i_slG sr fun A1 H1 k1 s1 => ?_
    rw [show cutV (l.map V.str) (some 1) none = (l.map V.str).drop 1 from cut_from (k := 1)] at s1
    replace sr := TK.same (K := K) k1 _ _ sr
    repeat' (walk_at "jv")
    refine i_slG sr fun A2 H2 k2 s2 => ?_
    rw [show cutV (l.map V.str) none (some 1) = (l.map V.str).take 1 from cut_take (k := 1)] at s2
    replace sr := TK.same (K := K) k2 _ _ sr
    replace s1 := TK.same (K := K) k2 _ _ s1
    have hml : (l.map V.str).length = l.length := List.length_map ..
    refine i_catG s1 s2 (by rw [List.length_drop, List.length_take, sizeLine_eq]; omega) fun A3 H3 k3 s3 => ?_
    replace sr := TK.same (K := K) k3 _ _ sr
    replace so := so.same ((k1.trans k2).trans k3)
    repeat' (walk_at "jv")
    refine i_zipT sr s3 ?_
    have hpl := pairs_len l
    refine c_zip (l.map V.str) _ (by rw [List.length_append, List.length_drop, List.length_take]; omega) (fun D i H' => H3 D = none ∧ Same H3 H' ∧ ∃ xs, H' D = some (.lst xs) ∧ xs.length = (((pairsR l).take i).filter (fwdB fun z => qs.idxOf z)).length) (fun D nD => ⟨nD, Same.upd_new nD, [], upd_same, rfl⟩) (fun D i H' h => ⟨TK.same (K := K) h.2.1 _ _ sr, TK.same (K := K) h.2.1 _ _ s3⟩) (fun D i x y H' T hx hy h nT => ?_) (fun D H' h => ?_)
    · obtain ⟨nD, kD, xs, eD, hxs⟩ := h
      obtain ⟨p2, hp2, rfl, rfl⟩ := turn_at hx hy
      obtain ⟨m1, m2⟩ := pairsR_mem (List.mem_of_getElem? hp2)
      have hi : i < (pairsR l).length := (List.getElem?_eq_some_iff.mp hp2).1
      have kT := Same.upd_new (o := .tup [.str p2.1, .str p2.2]) nT
      have so' := so.same (kD.trans kT)
      have eD2 := kT _ _ eD
      have hlt : (((pairsR l).take i).filter (fwdB fun z => qs.idxOf z)).length ≤ 50 := Nat.le_trans (List.length_filter_le _ _) (by rw [List.length_take]; omega)
      have et : ((pairsR l).take (i + 1)).filter (fwdB fun z => qs.idxOf z) = ((pairsR l).take i).filter (fwdB fun z => qs.idxOf z) ++ if fwdB (fun z => qs.idxOf z) p2 = true then [p2] else [] := by
        rw [take_push hp2, List.filter_append]
        congr 1
        by_cases c : fwdB (fun z => qs.idxOf z) p2 = true
        · rw [if_pos c, List.filter_cons_of_pos c, List.filter_nil]
        · rw [if_neg c, List.filter_cons_of_neg c, List.filter_nil]
      repeat' (walk_at "jv")
      refine i_bmF (i_var rfl (i_tyF so' ?_))
      refine i_cons ?_
      repeat' (walk_at "jv")
      refine i_tix so'.sq (sub _ m1) ?_
      repeat' (walk_at "jv")
      refine i_bmF (i_var rfl (i_tyF so' ?_))
      refine i_cons ?_
      repeat' (walk_at "jv")
      refine i_tix so'.sq (sub _ m2) ?_
      repeat' (walk_at "jv")
      · rename_i c
        have fb : fwdB (fun z => qs.idxOf z) p2 = true := decide_eq_true (Int.ofNat_lt.mp c)
        refine ⟨nD, fun c oc z => (upd_ne (ne_of_none z nD)).trans (kT _ _ (kD _ _ z)), _, upd_same, ?_⟩
        rw [et, if_pos fb, List.length_append, List.length_append, hxs]
        rfl
      · rename_i c
        have fb : ¬ fwdB (fun z => qs.idxOf z) p2 = true := fun h => c (Int.ofNat_lt.mpr (of_decide_eq_true h))
        refine ⟨nD, kD.trans kT, _, eD2, ?_⟩
        rw [et, if_neg fb, List.append_nil, hxs]
    · obtain ⟨nD, kD, xs, eD, hxs⟩ := h
      rw [hml, ← hpl, List.take_length] at hxs
      repeat' (walk_at "jv")
      rw [hxs]
      exact q H' (((k1.trans k2).trans k3).trans kD)
end
end
section
open L2 PySem PySem.Spec PyProof.Rows
abbrev s_are_joined : Stmt := topS 19
theorem sc_are_joined : FnScope ["web", "one", "other"] ["web", "one", "other"] (defScope s_are_joined) := ⟨rfl, rfl, rfl, by decide +kernel, rfl, by decide +kernel, by decide +kernel⟩
abbrev s_near_of : Stmt := topS 20
theorem sc_near_of : FnScope ["web", "place", "other"] ["web", "place"] (defScope s_near_of) := ⟨rfl, rfl, rfl, by decide +kernel, rfl, by decide +kernel, by decide +kernel⟩
def spNearOfF (K : PySem.W.Frag) : Sp := fun vs H Q _ => ∃ (v : V) (x : Str) (ps : List Str) (rs : List (Str × Str)), vs = [v, .str x] ∧ Dp K H v (webD ps rs) ∧ IsWeb ps rs ∧ x ∈ ps ∧
  ∀ (p : Addr) (H' : Hp), Same H H' → FT H' p ((nearL ps rs x).map V.str) → Q (.ref p) H'
section
variable {base : Heap} {P : Program} {w : World} {K : PySem.W.Frag} {mg : Str → Option Value}
theorem ok_are_joined (D : Dn K mg "are_joined" s_are_joined ["web", "one", "other"]) (B : Bn mg) : Cl P w K mg base 1 "are_joined" ["web", "one", "other"] (spJoined K) := by
  refine D.cl sc_are_joined (fun vs H Q E h => ?_) (fun f cdv A outer s H vs Q E hr h => ?_)
  · obtain ⟨v, x, y, ps, rs, rfl, _⟩ := h
    rfl
  · obtain ⟨v, x, y, ps, rs, rfl, hd, W, hx, hy, q⟩ := h
    obtain ⟨t, tp, tr, xs, rfl, s1, s2, s3, d3, dr, dpl⟩ := web_parts hd
    refine ⟨_, (pss_one (ps_ret (pe_or (pe_cmpR (k_inQ (K := K) hr.units) (pe_tup (pa_cons (pv 1) (pa_cons (pv 2) pa_nil))) (pe_ix (k_ixT (K := K)) (pv 0) pe_int (fun _ _ => rfl)) (by rfl)) (pe_one (pe_cmpR (k_inQ (K := K) hr.units) (pe_tup (pa_cons (pv 2) (pa_cons (pv 1) pa_nil))) (pe_ix (k_ixT (K := K)) (pv 0) pe_int (fun _ _ => rfl)) (by rfl)))))), ?_⟩
    repeat' (walk_at "jv")
    intro p np
    have sp := Same.upd_new (o := .tup [.str x, .str y]) np
    have s1p := TK.same (K := K) sp _ _ s1
    repeat' (walk_at "jv")
    refine ⟨roadD (x, y), rs.map roadD, .tup (xs := [.str x, .str y]) (.inl (.inl upd_same)) (.cons (.str _) (.cons (.str _) .nil)), .inr (Dp.same sp _ _ dr), road_lay (W.names.2 _ hx) (W.names.2 _ hy), roads_lay W, by show 0 + 1 ≤ 60; decide, ?_⟩
    rw [if_neg (by decide), roads_any]
    repeat' (walk_at "jv")
    · rename_i h1
      have e : isRoad rs x y = true := by simp [isRoad, h1]
      rw [← e]
      exact q _ sp
    · rename_i h1
      intro p2 np2
      have sp2 := Same.upd_new (o := .tup [.str y, .str x]) np2
      have s1q := TK.same (K := K) sp2 _ _ s1p
      repeat' (walk_at "jv")
      refine ⟨roadD (y, x), rs.map roadD, .tup (xs := [.str y, .str x]) (.inl (.inl upd_same)) (.cons (.str _) (.cons (.str _) .nil)), .inr (Dp.same sp2 _ _ (Dp.same sp _ _ dr)), road_lay (W.names.2 _ hy) (W.names.2 _ hx), roads_lay W, by show 0 + 1 ≤ 60; decide, ?_⟩
      rw [if_neg (by decide), roads_any]
      have e : isRoad rs x y = decide ((y, x) ∈ rs) := by simp [isRoad, h1]
      rw [← e]
      exact q _ (sp.trans sp2)
theorem ok_near_of (D : Dn K mg "near_of" s_near_of ["web", "place"]) (B : Bn mg) (C_are_joined : Cl P w K mg base 1 "are_joined" ["web", "one", "other"] (spJoined K)) : Cl P w K mg base 2 "near_of" ["web", "place"] (spNearOfF K) := by
  refine D.cl sc_near_of (fun vs H Q E h => ?_) (fun f cdv A outer s H vs Q E hr h => ?_)
  · obtain ⟨v, x, ps, rs, rfl, _⟩ := h
    rfl
  · obtain ⟨v, x, ps, rs, rfl, hd, W, hx, q⟩ := h
    obtain ⟨t, tp, tr, xs, rfl, s1, s2, s3, d3, dr, dpl⟩ := web_parts hd
    refine ⟨_, (pss_one (ps_ret (pe_callTy (k_tupleF (K := K)) rfl B.tuple_ (by decide +kernel) (pa_cons (pe_lc (own := [("other", 2)]) rfl sc_near_of.nd (kpi_tup (K := K) (pe_ix (k_ixT (K := K)) (pv 0) pe_int (fun _ _ => rfl))) (blkOk_by (N := ["web", "place", "other"]) (sc := defScope s_near_of) (by decide +kernel)) (fun _ _ _ _ _ => (pg_name (i := 2) sc_near_of.nd rfl (by first | exact Or.inl rfl | exact Or.inr rfl))) (fun _ _ _ _ _ => pts_one (pt_val (pe_c C_are_joined hr (pa_cons (pv 0) (pa_cons (pv 1) (pa_cons (pv 2) pa_nil)))))) (fun _ _ _ _ _ => (pv 2))) pa_nil)))), ?_⟩
    repeat' (walk_at "jv")
    refine c_tup (ps.map V.str) (fun D2 i H' => H D2 = none ∧ Same H H' ∧ H' D2 = some (.lst (((ps.take i).filter fun y => isRoad rs x y).map V.str))) (fun D2 nD => ⟨nD, Same.upd_new nD, upd_same⟩) (fun D2 i H' _ h => TK.same h.2.1 _ _ s2) (fun D2 i y H' hy h => ?_) (fun D2 H' h => ?_)
    · obtain ⟨nD, k, e⟩ := h
      have hi : i < ps.length := by
        have := (List.getElem?_eq_some_iff.mp hy).1
        rwa [List.length_map] at this
      rw [List.getElem?_map, List.getElem?_eq_getElem hi] at hy
      obtain rfl : V.str ps[i] = y := Option.some.inj hy
      have h8 := W.le8
      have hl : (((ps.take i).filter fun y => isRoad rs x y).map V.str).length < sizeLine := by
        rw [List.length_map, sizeLine_eq]
        have := List.length_filter_le (fun y => isRoad rs x y) (ps.take i)
        rw [List.length_take] at this
        omega
      have et : ((ps.take (i + 1)).filter fun y => isRoad rs x y) = ((ps.take i).filter fun y => isRoad rs x y) ++ (if isRoad rs x ps[i] = true then [ps[i]] else []) := by
        rw [List.take_add_one, List.getElem?_eq_getElem hi, List.filter_append]
        show _ ++ List.filter (fun y => isRoad rs x y) [ps[i]] = _
        by_cases h : isRoad rs x ps[i] = true
        · simp [h]
        · simp [h]
      repeat' (walk_at "jv")
      refine ⟨_, x, ps[i], ps, rs, rfl, Dp.same k _ _ hd, W, hx, List.getElem_mem hi, fun H2 k2 => ?_⟩
      have e2 := k2 _ _ e
      refine ⟨_, rfl, ?_⟩
      cases er : isRoad rs x ps[i] with
      | true =>
        rw [if_pos er] at et
        repeat' (walk_at "jv")
        refine ⟨nD, fun b o z => ?_, ?_⟩
        · rw [upd_ne (fun w => by rw [w, nD] at z; cases z)]
          exact k2 _ _ (k _ _ z)
        · rw [upd_same, et, List.map_append]
          rfl
      | false =>
        rw [if_neg (by rw [er]; decide), List.append_nil] at et
        repeat' (walk_at "jv")
        exact ⟨nD, k.trans k2, by rw [et]; exact e2⟩
    · obtain ⟨nD, k, e⟩ := h
      rw [List.length_map, List.take_length] at e
      refine i_nil ?_
      refine ⟨_, _, rfl, sq_lst e, fun T ob nT okb => ?_⟩
      exact q T _ (k.trans (Same.upd_new nT)) (FT.new okb)
end
end
section
open L2 PySem PySem.Spec PyProof.Rows
abbrev s_pieces : Stmt := topS 21
theorem sc_pieces : FnScope ["web", "places", "roads", "place", "piece_of", "one", "other", "joined"] ["web"] (defScope s_pieces) := ⟨rfl, rfl, rfl, by decide +kernel, rfl, by decide +kernel, by decide +kernel⟩
theorem road_get {K : PySem.W.Frag} {H : Hp} {xs : List V} {l : List (Str × Str)} {i : Nat} {x : V} (d : DpAll K H xs (l.map roadD)) (hx : xs[i]? = some x) : ∃ r t, l[i]? = some r ∧ x = .ref t ∧ SqT K H t [.str r.1, .str r.2] := by
  obtain ⟨e, he, de⟩ := DpAll.get d hx
  rw [List.getElem?_map] at he
  cases c : l[i]? with
  | none => rw [c] at he; cases he
  | some r =>
    rw [c] at he
    obtain rfl : roadD r = e := Option.some.inj he
    obtain ⟨b, us, rfl, sb, db⟩ := tup_parts (ds := [.str r.1, .str r.2]) de
    cases db with
    | cons h1 h2 =>
      cases h2 with
      | cons h2 h3 =>
        cases h3
        cases h1
        cases h2
        exact ⟨r, b, rfl, rfl, sb⟩
theorem dp_refs {K : PySem.W.Frag} {H : Hp} : ∀ L : List (Addr × List Str), (∀ p ∈ L, SqT K H p.1 (p.2.map V.str)) → DpAll K H (L.map fun p => V.ref p.1) ((L.map fun p => p.2).map tsD)
  | [], _ => .nil
  | p :: L, h => .cons (ts_dp (h p List.mem_cons_self)) (dp_refs L fun q hq => h q (List.mem_cons_of_mem _ hq))
section
variable {base : Heap} {P : Program} {w : World} {K : PySem.W.Frag} {mg : Str → Option Value}
theorem ok_pieces (D : Dn K mg "pieces" s_pieces ["web"]) (B : Bn mg) (C_need_web : Cl P w K mg base 5 "need_web" ["web"] (spNeedWeb K)) : Cl P w K mg base 6 "pieces" ["web"] (spPieces K) := by
  refine D.cl sc_pieces (fun vs H Q E h => ?_) (fun f cdv A outer s H vs Q E hr h => ?_)
  · obtain ⟨v, ps, rs, rfl, _⟩ := h
    rfl
  · obtain ⟨v, ps, rs, rfl, hd, W, q⟩ := h
    have nd := W.names.1
    have h8 := W.le8
    have h14 := W.le14
    refine ⟨_, (pss_cons (ps_expr (pe_c C_need_web hr (pa_cons (pv 0) pa_nil)))
      (pss_cons (ps_asg (pv 0) (kpg_tup (K := K) (n := 2) rfl (pgs_cons (pg_name (i := 1) sc_pieces.nd rfl (by first | exact Or.inl rfl | exact Or.inr rfl)) (pgs_cons (pg_name (i := 2) sc_pieces.nd rfl (by first | exact Or.inl rfl | exact Or.inr rfl)) pgs_nil))))
      (pss_cons (ps_setDc (i := 4) (own := [("place", 3)]) rfl sc_pieces.nd rfl rfl (sw_dict rfl rfl rfl (by decide +kernel)) (kpi_tup (K := K) (pv 1)) (blkOk_by (N := ["web", "places", "roads", "place", "piece_of", "one", "other", "joined"]) (sc := defScope s_pieces) (by decide +kernel)) (fun _ _ _ _ _ => (pg_name (i := 3) sc_pieces.nd rfl (by first | exact Or.inl rfl | exact Or.inr rfl))) (fun _ _ _ _ _ => pts_nil) (fun _ _ _ _ _ => (pv 3)) (fun _ _ _ _ _ => (pe_tup (pa_cons (pv 3) pa_nil))))
      (pss_cons (ps_for PassesOwn.never rfl (kpi_tup (K := K) (pv 2)) (kpg_tup (K := K) (n := 2) rfl (pgs_cons (pg_name (i := 5) sc_pieces.nd rfl (by first | exact Or.inl rfl | exact Or.inr rfl)) (pgs_cons (pg_name (i := 6) sc_pieces.nd rfl (by first | exact Or.inl rfl | exact Or.inr rfl)) pgs_nil))) (pss_one (ps_if (pt_cmpR (k_notInS (K := K)) (pv 6) (pe_dget (hu1 hr) (pv 4) (pv 5) (fun _ _ => rfl)) (by rfl)) (pss_cons (ps_set (i := 7) sc_pieces.nd rfl (by first | exact Or.inl rfl | exact Or.inr rfl) (pe_callTy (k_tuple (K := K)) rfl B.tuple_ (by decide +kernel) (pa_cons (pe_callB (k_sortedTx (K := K)) rfl B.sorted_ (by decide +kernel) (pa_cons (pe_op (k_catA (K := K)) (pe_dget (hu1 hr) (pv 4) (pv 5) (fun _ _ => rfl)) (pe_dget (hu1 hr) (pv 4) (pv 6) (fun _ _ => rfl))) pa_nil)) pa_nil)))
      (pss_one (ps_for PassesOwn.never rfl (kpi_tup (K := K) (pv 7)) (pg_name (i := 3) sc_pieces.nd rfl (by first | exact Or.inl rfl | exact Or.inr rfl)) (pss_one (ps_dput (hu1 hr) (pv 4) (pv 3) (pv 7) rfl))))) pss_nil)))
      (pss_one (ps_ret (pe_callB (k_sortedTs (K := K) (P := P) (w := w) rfl hr.units) rfl B.sorted_ (by decide +kernel) (pa_cons (pe_callTy (k_setTx (K := K) (P := P) (w := w) rfl hr.units) rfl B.set_ (by decide +kernel) (pa_cons (pe_callTy (call_listVk rfl) rfl B.list_ (by decide +kernel) (pa_cons (pe_dkVals (pv 4)) pa_nil)) pa_nil)) pa_nil)))))))), ?_⟩
    repeat' (walk_at "jv")
    refine ⟨v, ps, rs, rfl, hd, W, fun H2 k2 => ?_⟩
    obtain ⟨t, tp, tr, xs, rfl, s1, s2, s3, d3, dr, dpl⟩ := web_parts (Dp.same k2 _ _ hd)
    repeat' (walk_at "jv")
    refine i_dc ?_
    repeat' (walk_at "jv")
    have hlp : (ps.map V.str).length = ps.length := List.length_map ..
    have nt : ∀ i (hi : i < ps.length), ps[i] ∉ ps.take i := fun i hi m => by
      obtain ⟨j, hj, e⟩ := List.getElem_of_mem m
      rw [List.length_take] at hj
      rw [List.getElem_take] at e
      have := (List.getElem_inj nd).mp e
      omega
    refine d_tup (ps.map V.str) (fun D i H' => H2 D = none ∧ Same H2 H' ∧ ∃ A : Str → Addr, H' D = some (.dK (fnK (ps.take i) fun z => .ref (A z))) ∧ ∀ z ∈ ps.take i, SqT K H' (A z) ([z].map V.str)) (fun D nD => ⟨nD, Same.upd_new nD, fun _ => 0, upd_same, fun z hz => absurd hz List.not_mem_nil⟩) (fun D i H' _ h => TK.same h.2.1 _ _ s2) (fun D i x H' hx h => ?_) (fun D H' h => ?_)
    · obtain ⟨nD, kD, A, eD, hA⟩ := h
      have hi : i < ps.length := by
        have := (List.getElem?_eq_some_iff.mp hx).1
        omega
      rw [List.getElem?_map, List.getElem?_eq_getElem hi] at hx
      obtain rfl : V.str ps[i] = x := Option.some.inj hx
      have nti := nt i hi
      have et : ps.take (i + 1) = ps.take i ++ [ps[i]] := by rw [List.take_add_one, List.getElem?_eq_getElem hi]; rfl
      repeat' (walk_at "jv")
      intro T nT
      have kT := Same.upd_new (o := .tup [.str ps[i]]) nT
      have sT : SqT K (upd H' T (.tup [.str ps[i]])) T [.str ps[i]] := sq_tup upd_same
      replace eD := kT _ _ eD
      replace hA : ∀ z ∈ ps.take i, SqT K (upd H' T (.tup [.str ps[i]])) (A z) ([z].map V.str) := fun z hz => TK.same kT _ _ (hA z hz)
      replace kD := kD.trans kT
      generalize upd H' T (.tup [.str ps[i]]) = H3 at *
      have eA : fnK (ps.take i) (fun z => V.ref (A z)) = fnK (ps.take i) fun z => V.ref (if z = ps[i] then T else A z) := fnK_congr fun z hz => by
        show V.ref (A z) = V.ref (if z = ps[i] then T else A z)
        rw [if_neg (fun e : z = ps[i] => nti (e ▸ hz))]
      have sf := sf_dk eD
      have kP : Ch D H3 (upd H3 D (.dK (putK (fnK (ps.take i) fun z => V.ref (A z)) (Sum.inr ps[i]) (.ref T)))) := Ch.upd_self
      have tP := tk_sf (K := K) kP sf
      refine ⟨_, Sum.inr ps[i], rfl, eD, by rw [fnK_len, List.length_take, sizeLine_eq]; omega, nD, fun c oc z => ?_, fun z => if z = ps[i] then T else A z, ?_, fun z hz => tP _ _ ?_⟩
      · rw [upd_ne (ne_of_none z nD)]
        exact kD _ _ z
      · have e1 := fnK_snoc (A := fun z => V.ref (if z = ps[i] then T else A z)) nti
        rw [if_pos rfl] at e1
        rw [upd_same, et, eA, e1]
      · show SqT K H3 (if z = ps[i] then T else A z) _
        by_cases e : z = ps[i]
        · rw [if_pos e, e]
          exact sT
        · rw [if_neg e]
          rw [et] at hz
          rcases List.mem_append.mp hz with hz | hz
          · exact hA z hz
          · exact absurd (List.mem_singleton.mp hz) e
    · obtain ⟨nD, kD, A0, eD, hA⟩ := h
      rw [hlp, List.take_length] at eD hA
      have nDH : H D = none := free_same k2 nD
      replace k2 := k2.trans kD
      have s3' := TK.same (K := K) kD _ _ s3
      have d3' := DpAll.same kD _ _ d3
      have hxl : xs.length = rs.length := by rw [DpAll.len d3, List.length_map]
      clear hd s1 s2 d3 s3 dr dpl kD nD
      repeat' (walk_at "jv")
      have part : ∀ i, PartI ps ((rs.take i).foldl stepG grp0) := fun i => (part_walk (rs.take i) (fun r hr => ⟨(W.ends r (List.mem_of_mem_take hr)).1, (W.ends r (List.mem_of_mem_take hr)).2.1⟩) PartI.start (ClsI.start nd)).1
      refine f_tup xs (fun i σ H' => ∃ y3 y5 y6 y7 A pg, σ = [some (.ref t), some (.ref tp), some (.ref tr), y3, some (.ref D), y5, y6, y7] ∧ Same H H' ∧ SqT K H' tr xs ∧ DpAll K H' xs (rs.map roadD) ∧ H' D = some (.dK (fnK ps fun z => .ref (A z))) ∧ (∀ z ∈ ps, SqT K H' (A z) ((pg z).map V.str)) ∧ ∀ z ∈ ps, (pg z).Perm ((rs.take i).foldl stepG grp0 z) ∧ sortedS (pg z) = true)
        ⟨_, _, _, _, A0, fun z => [z], rfl, k2, s3', d3', eD, hA, fun z hz => ⟨List.Perm.refl _, rfl⟩⟩ (fun i σ H' _ h => ?_) (fun i x σ H4 hx h => ?_) (fun σ H4 h => ?_)
      · obtain ⟨y3, y5, y6, y7, A, pg, rfl, kk, sr, dr, eD, hA, hP⟩ := h
        exact sr
      · clear k2 s3' d3' eD hA A0
        obtain ⟨y3, y5, y6, y7, A, pg, rfl, kk, sr, dr, eD, hA, hP⟩ := h
        obtain ⟨r, b, hr2, rfl, sb⟩ := road_get dr hx
        have hm : i < rs.length := (List.getElem?_eq_some_iff.mp hr2).1
        obtain ⟨w1, w2, w3⟩ := W.ends r (List.mem_of_getElem? hr2)
        have pI := part i
        have et : (rs.take (i + 1)).foldl stepG grp0 = stepG ((rs.take i).foldl stepG grp0) r := by rw [List.take_add_one, hr2, List.foldl_append]; rfl
        rw [et]
        generalize (rs.take i).foldl stepG grp0 = g at *
        obtain ⟨p1, u1⟩ := hP r.1 w1
        obtain ⟨p2, u2⟩ := hP r.2 w2
        have sA := hA r.1 w1
        refine i_gtup sb rfl ?_
        repeat' (walk_at "jv")
        have hgl : ∀ z ∈ ps, (pg z).length ≤ 8 := fun z hz => by
          rw [(hP z hz).1.length_eq]
          exact Nat.le_trans (nd_le _ _ (pI.nd z hz) fun y hy => (pI.mem z hz y hy).1) h8
        refine i_dg ?_
        repeat' (walk_at "jv")
        refine i_dget eD (fnK_val w1) ?_
        refine i_notInS (SqA.t sA) ?_
        refine ⟨_, rfl, i_iteB (fun h1 => ?_) (fun h1 => ?_)⟩
        · have c : r.2 ∉ g r.1 := by
            have : r.2 ∉ pg r.1 := by simpa using h1
            exact fun m => this (p1.mem_iff.mpr m)
          have l1 := hgl r.1 w1
          have l2 := hgl r.2 w2
          have ne2 : (pg r.2).map V.str ≠ [] := fun e => by
            have m := p2.mem_iff.mpr (pI.own _ w2)
            rw [List.map_eq_nil_iff.mp e] at m
            exact List.not_mem_nil m
          repeat' (walk_at "jv")
          refine i_dg ?_
          repeat' (walk_at "jv")
          refine i_dget eD (fnK_val w1) ?_
          refine i_dg ?_
          repeat' (walk_at "jv")
          refine i_dget eD (fnK_val w2) ?_
          refine i_catA sA (hA r.2 w2) ne2 (by rw [List.length_map, List.length_map, sizeLine_eq]; omega) fun P2 H5 k5 s5 => ?_
          replace hA : ∀ z ∈ ps, SqT K H5 (A z) ((pg z).map V.str) := fun z hz => TK.same k5 _ _ (hA z hz)
          first | replace kk := HF.same kk k5 | replace kk := WF.same kk k5 | replace kk := FT.same kk k5 | replace kk := Fd.same kk k5 | replace kk := LsD.same kk k5 | replace kk := TK.same k5 _ _ kk | replace kk := KeysT.tk kk (TK.same k5) | replace kk := KeysU.tk kk (TK.same k5) | replace kk := KeysN.tk kk (TK.same k5) | replace kk := DayV.tk kk (TK.same k5) | replace kk := Dp.same k5 _ _ kk | replace kk := DpAll.same k5 _ _ kk | replace kk := k5 _ _ kk | replace kk := Ch.trans kk (Ch.of_same k5) | replace kk := Same.trans kk k5 | replace kk := stepsAt.same kk k5 | replace kk := DpT.same kk k5 | replace kk := LOr.same kk k5 | replace kk := Ob.same kk k5 | replace kk := Gds.same kk k5 | replace kk := Gd2.same kk k5 | replace kk := Ob2.same kk k5 | replace kk := NE.same kk k5 | replace kk := NT.same kk k5 | replace kk := NEs.same kk k5 | replace kk := NX.same kk k5 | replace kk := EMs.same kk k5 | replace kk := EOs.same kk k5 | replace kk := EO.same kk k5 | replace kk := GT.same kk k5 | replace kk := GTs.same kk k5 | replace kk := RB.same kk k5 | replace kk := RBs.same kk k5 | replace kk := RB2s.same kk k5 | replace kk := GR.same kk k5 | replace kk := GRs.same kk k5 | replace kk := NO.same kk k5 | replace kk := NOs.same kk k5 | replace kk := NZ.same kk k5 | replace kk := NB.same kk k5 | replace kk := NBs.same kk k5 | replace kk := NQ.same kk k5 | replace kk := NQs.same kk k5 | replace kk := NX'.same kk k5
          first | replace sr := HF.same sr k5 | replace sr := WF.same sr k5 | replace sr := FT.same sr k5 | replace sr := Fd.same sr k5 | replace sr := LsD.same sr k5 | replace sr := TK.same k5 _ _ sr | replace sr := KeysT.tk sr (TK.same k5) | replace sr := KeysU.tk sr (TK.same k5) | replace sr := KeysN.tk sr (TK.same k5) | replace sr := DayV.tk sr (TK.same k5) | replace sr := Dp.same k5 _ _ sr | replace sr := DpAll.same k5 _ _ sr | replace sr := k5 _ _ sr | replace sr := Ch.trans sr (Ch.of_same k5) | replace sr := Same.trans sr k5 | replace sr := stepsAt.same sr k5 | replace sr := DpT.same sr k5 | replace sr := LOr.same sr k5 | replace sr := Ob.same sr k5 | replace sr := Gds.same sr k5 | replace sr := Gd2.same sr k5 | replace sr := Ob2.same sr k5 | replace sr := NE.same sr k5 | replace sr := NT.same sr k5 | replace sr := NEs.same sr k5 | replace sr := NX.same sr k5 | replace sr := EMs.same sr k5 | replace sr := EOs.same sr k5 | replace sr := EO.same sr k5 | replace sr := GT.same sr k5 | replace sr := GTs.same sr k5 | replace sr := RB.same sr k5 | replace sr := RBs.same sr k5 | replace sr := RB2s.same sr k5 | replace sr := GR.same sr k5 | replace sr := GRs.same sr k5 | replace sr := NO.same sr k5 | replace sr := NOs.same sr k5 | replace sr := NZ.same sr k5 | replace sr := NB.same sr k5 | replace sr := NBs.same sr k5 | replace sr := NQ.same sr k5 | replace sr := NQs.same sr k5 | replace sr := NX'.same sr k5
          first | replace dr := HF.same dr k5 | replace dr := WF.same dr k5 | replace dr := FT.same dr k5 | replace dr := Fd.same dr k5 | replace dr := LsD.same dr k5 | replace dr := TK.same k5 _ _ dr | replace dr := KeysT.tk dr (TK.same k5) | replace dr := KeysU.tk dr (TK.same k5) | replace dr := KeysN.tk dr (TK.same k5) | replace dr := DayV.tk dr (TK.same k5) | replace dr := Dp.same k5 _ _ dr | replace dr := DpAll.same k5 _ _ dr | replace dr := k5 _ _ dr | replace dr := Ch.trans dr (Ch.of_same k5) | replace dr := Same.trans dr k5 | replace dr := stepsAt.same dr k5 | replace dr := DpT.same dr k5 | replace dr := LOr.same dr k5 | replace dr := Ob.same dr k5 | replace dr := Gds.same dr k5 | replace dr := Gd2.same dr k5 | replace dr := Ob2.same dr k5 | replace dr := NE.same dr k5 | replace dr := NT.same dr k5 | replace dr := NEs.same dr k5 | replace dr := NX.same dr k5 | replace dr := EMs.same dr k5 | replace dr := EOs.same dr k5 | replace dr := EO.same dr k5 | replace dr := GT.same dr k5 | replace dr := GTs.same dr k5 | replace dr := RB.same dr k5 | replace dr := RBs.same dr k5 | replace dr := RB2s.same dr k5 | replace dr := GR.same dr k5 | replace dr := GRs.same dr k5 | replace dr := NO.same dr k5 | replace dr := NOs.same dr k5 | replace dr := NZ.same dr k5 | replace dr := NB.same dr k5 | replace dr := NBs.same dr k5 | replace dr := NQ.same dr k5 | replace dr := NQs.same dr k5 | replace dr := NX'.same dr k5
          first | replace eD := HF.same eD k5 | replace eD := WF.same eD k5 | replace eD := FT.same eD k5 | replace eD := Fd.same eD k5 | replace eD := LsD.same eD k5 | replace eD := TK.same k5 _ _ eD | replace eD := KeysT.tk eD (TK.same k5) | replace eD := KeysU.tk eD (TK.same k5) | replace eD := KeysN.tk eD (TK.same k5) | replace eD := DayV.tk eD (TK.same k5) | replace eD := Dp.same k5 _ _ eD | replace eD := DpAll.same k5 _ _ eD | replace eD := k5 _ _ eD | replace eD := Ch.trans eD (Ch.of_same k5) | replace eD := Same.trans eD k5 | replace eD := stepsAt.same eD k5 | replace eD := DpT.same eD k5 | replace eD := LOr.same eD k5 | replace eD := Ob.same eD k5 | replace eD := Gds.same eD k5 | replace eD := Gd2.same eD k5 | replace eD := Ob2.same eD k5 | replace eD := NE.same eD k5 | replace eD := NT.same eD k5 | replace eD := NEs.same eD k5 | replace eD := NX.same eD k5 | replace eD := EMs.same eD k5 | replace eD := EOs.same eD k5 | replace eD := EO.same eD k5 | replace eD := GT.same eD k5 | replace eD := GTs.same eD k5 | replace eD := RB.same eD k5 | replace eD := RBs.same eD k5 | replace eD := RB2s.same eD k5 | replace eD := GR.same eD k5 | replace eD := GRs.same eD k5 | replace eD := NO.same eD k5 | replace eD := NOs.same eD k5 | replace eD := NZ.same eD k5 | replace eD := NB.same eD k5 | replace eD := NBs.same eD k5 | replace eD := NQ.same eD k5 | replace eD := NQs.same eD k5 | replace eD := NX'.same eD k5
          clear k5 sA sb H4
          refine i_nil ?_
          refine ⟨P2, pg r.1 ++ pg r.2, rfl, by rw [List.map_append]; exact s5, fun ys p pm up np => ?_⟩
          have kY := Same.upd_new (o := .lst (ys.map V.str)) np
          have eY : (upd H5 p (.lst (ys.map V.str))) p = some (.lst (ys.map V.str)) := upd_same
          generalize upd H5 p (.lst (ys.map V.str)) = H6 at *
          replace hA : ∀ z ∈ ps, SqT K H6 (A z) ((pg z).map V.str) := fun z hz => TK.same kY _ _ (hA z hz)
          first | replace kk := HF.same kk kY | replace kk := WF.same kk kY | replace kk := FT.same kk kY | replace kk := Fd.same kk kY | replace kk := LsD.same kk kY | replace kk := TK.same kY _ _ kk | replace kk := KeysT.tk kk (TK.same kY) | replace kk := KeysU.tk kk (TK.same kY) | replace kk := KeysN.tk kk (TK.same kY) | replace kk := DayV.tk kk (TK.same kY) | replace kk := Dp.same kY _ _ kk | replace kk := DpAll.same kY _ _ kk | replace kk := kY _ _ kk | replace kk := Ch.trans kk (Ch.of_same kY) | replace kk := Same.trans kk kY | replace kk := stepsAt.same kk kY | replace kk := DpT.same kk kY | replace kk := LOr.same kk kY | replace kk := Ob.same kk kY | replace kk := Gds.same kk kY | replace kk := Gd2.same kk kY | replace kk := Ob2.same kk kY | replace kk := NE.same kk kY | replace kk := NT.same kk kY | replace kk := NEs.same kk kY | replace kk := NX.same kk kY | replace kk := EMs.same kk kY | replace kk := EOs.same kk kY | replace kk := EO.same kk kY | replace kk := GT.same kk kY | replace kk := GTs.same kk kY | replace kk := RB.same kk kY | replace kk := RBs.same kk kY | replace kk := RB2s.same kk kY | replace kk := GR.same kk kY | replace kk := GRs.same kk kY | replace kk := NO.same kk kY | replace kk := NOs.same kk kY | replace kk := NZ.same kk kY | replace kk := NB.same kk kY | replace kk := NBs.same kk kY | replace kk := NQ.same kk kY | replace kk := NQs.same kk kY | replace kk := NX'.same kk kY
          first | replace sr := HF.same sr kY | replace sr := WF.same sr kY | replace sr := FT.same sr kY | replace sr := Fd.same sr kY | replace sr := LsD.same sr kY | replace sr := TK.same kY _ _ sr | replace sr := KeysT.tk sr (TK.same kY) | replace sr := KeysU.tk sr (TK.same kY) | replace sr := KeysN.tk sr (TK.same kY) | replace sr := DayV.tk sr (TK.same kY) | replace sr := Dp.same kY _ _ sr | replace sr := DpAll.same kY _ _ sr | replace sr := kY _ _ sr | replace sr := Ch.trans sr (Ch.of_same kY) | replace sr := Same.trans sr kY | replace sr := stepsAt.same sr kY | replace sr := DpT.same sr kY | replace sr := LOr.same sr kY | replace sr := Ob.same sr kY | replace sr := Gds.same sr kY | replace sr := Gd2.same sr kY | replace sr := Ob2.same sr kY | replace sr := NE.same sr kY | replace sr := NT.same sr kY | replace sr := NEs.same sr kY | replace sr := NX.same sr kY | replace sr := EMs.same sr kY | replace sr := EOs.same sr kY | replace sr := EO.same sr kY | replace sr := GT.same sr kY | replace sr := GTs.same sr kY | replace sr := RB.same sr kY | replace sr := RBs.same sr kY | replace sr := RB2s.same sr kY | replace sr := GR.same sr kY | replace sr := GRs.same sr kY | replace sr := NO.same sr kY | replace sr := NOs.same sr kY | replace sr := NZ.same sr kY | replace sr := NB.same sr kY | replace sr := NBs.same sr kY | replace sr := NQ.same sr kY | replace sr := NQs.same sr kY | replace sr := NX'.same sr kY
          first | replace dr := HF.same dr kY | replace dr := WF.same dr kY | replace dr := FT.same dr kY | replace dr := Fd.same dr kY | replace dr := LsD.same dr kY | replace dr := TK.same kY _ _ dr | replace dr := KeysT.tk dr (TK.same kY) | replace dr := KeysU.tk dr (TK.same kY) | replace dr := KeysN.tk dr (TK.same kY) | replace dr := DayV.tk dr (TK.same kY) | replace dr := Dp.same kY _ _ dr | replace dr := DpAll.same kY _ _ dr | replace dr := kY _ _ dr | replace dr := Ch.trans dr (Ch.of_same kY) | replace dr := Same.trans dr kY | replace dr := stepsAt.same dr kY | replace dr := DpT.same dr kY | replace dr := LOr.same dr kY | replace dr := Ob.same dr kY | replace dr := Gds.same dr kY | replace dr := Gd2.same dr kY | replace dr := Ob2.same dr kY | replace dr := NE.same dr kY | replace dr := NT.same dr kY | replace dr := NEs.same dr kY | replace dr := NX.same dr kY | replace dr := EMs.same dr kY | replace dr := EOs.same dr kY | replace dr := EO.same dr kY | replace dr := GT.same dr kY | replace dr := GTs.same dr kY | replace dr := RB.same dr kY | replace dr := RBs.same dr kY | replace dr := RB2s.same dr kY | replace dr := GR.same dr kY | replace dr := GRs.same dr kY | replace dr := NO.same dr kY | replace dr := NOs.same dr kY | replace dr := NZ.same dr kY | replace dr := NB.same dr kY | replace dr := NBs.same dr kY | replace dr := NQ.same dr kY | replace dr := NQs.same dr kY | replace dr := NX'.same dr kY
          first | replace eD := HF.same eD kY | replace eD := WF.same eD kY | replace eD := FT.same eD kY | replace eD := Fd.same eD kY | replace eD := LsD.same eD kY | replace eD := TK.same kY _ _ eD | replace eD := KeysT.tk eD (TK.same kY) | replace eD := KeysU.tk eD (TK.same kY) | replace eD := KeysN.tk eD (TK.same kY) | replace eD := DayV.tk eD (TK.same kY) | replace eD := Dp.same kY _ _ eD | replace eD := DpAll.same kY _ _ eD | replace eD := kY _ _ eD | replace eD := Ch.trans eD (Ch.of_same kY) | replace eD := Same.trans eD kY | replace eD := stepsAt.same eD kY | replace eD := DpT.same eD kY | replace eD := LOr.same eD kY | replace eD := Ob.same eD kY | replace eD := Gds.same eD kY | replace eD := Gd2.same eD kY | replace eD := Ob2.same eD kY | replace eD := NE.same eD kY | replace eD := NT.same eD kY | replace eD := NEs.same eD kY | replace eD := NX.same eD kY | replace eD := EMs.same eD kY | replace eD := EOs.same eD kY | replace eD := EO.same eD kY | replace eD := GT.same eD kY | replace eD := GTs.same eD kY | replace eD := RB.same eD kY | replace eD := RBs.same eD kY | replace eD := RB2s.same eD kY | replace eD := GR.same eD kY | replace eD := GRs.same eD kY | replace eD := NO.same eD kY | replace eD := NOs.same eD kY | replace eD := NZ.same eD kY | replace eD := NB.same eD kY | replace eD := NBs.same eD kY | replace eD := NQ.same eD kY | replace eD := NQs.same eD kY | replace eD := NX'.same eD kY
          clear kY s5 np H5
          have hyl : (ys.map V.str).length ≤ 16 := by rw [List.length_map, pm.length_eq, List.length_append]; omega
          have hyl2 : (ys.map V.str).length = ys.length := List.length_map ..
          have pg2 : ys.Perm (g r.1 ++ g r.2) := pm.trans (p1.append p2)
          have yp : ∀ z ∈ ys, z ∈ ps := fun z hz => by
            rcases List.mem_append.mp (pg2.mem_iff.mp hz) with hz | hz
            · exact (pI.mem _ w1 z hz).1
            · exact (pI.mem _ w2 z hz).1
          repeat' (walk_at "jv")
          intro J nJ
          have kJ := Same.upd_new (o := .tup (ys.map V.str)) nJ
          have sJ : SqT K (upd H6 J (.tup (ys.map V.str))) J (ys.map V.str) := sq_tup upd_same
          generalize upd H6 J (.tup (ys.map V.str)) = H7 at *
          replace hA : ∀ z ∈ ps, SqT K H7 (A z) ((pg z).map V.str) := fun z hz => TK.same kJ _ _ (hA z hz)
          first | replace kk := HF.same kk kJ | replace kk := WF.same kk kJ | replace kk := FT.same kk kJ | replace kk := Fd.same kk kJ | replace kk := LsD.same kk kJ | replace kk := TK.same kJ _ _ kk | replace kk := KeysT.tk kk (TK.same kJ) | replace kk := KeysU.tk kk (TK.same kJ) | replace kk := KeysN.tk kk (TK.same kJ) | replace kk := DayV.tk kk (TK.same kJ) | replace kk := Dp.same kJ _ _ kk | replace kk := DpAll.same kJ _ _ kk | replace kk := kJ _ _ kk | replace kk := Ch.trans kk (Ch.of_same kJ) | replace kk := Same.trans kk kJ | replace kk := stepsAt.same kk kJ | replace kk := DpT.same kk kJ | replace kk := LOr.same kk kJ | replace kk := Ob.same kk kJ | replace kk := Gds.same kk kJ | replace kk := Gd2.same kk kJ | replace kk := Ob2.same kk kJ | replace kk := NE.same kk kJ | replace kk := NT.same kk kJ | replace kk := NEs.same kk kJ | replace kk := NX.same kk kJ | replace kk := EMs.same kk kJ | replace kk := EOs.same kk kJ | replace kk := EO.same kk kJ | replace kk := GT.same kk kJ | replace kk := GTs.same kk kJ | replace kk := RB.same kk kJ | replace kk := RBs.same kk kJ | replace kk := RB2s.same kk kJ | replace kk := GR.same kk kJ | replace kk := GRs.same kk kJ | replace kk := NO.same kk kJ | replace kk := NOs.same kk kJ | replace kk := NZ.same kk kJ | replace kk := NB.same kk kJ | replace kk := NBs.same kk kJ | replace kk := NQ.same kk kJ | replace kk := NQs.same kk kJ | replace kk := NX'.same kk kJ
          first | replace sr := HF.same sr kJ | replace sr := WF.same sr kJ | replace sr := FT.same sr kJ | replace sr := Fd.same sr kJ | replace sr := LsD.same sr kJ | replace sr := TK.same kJ _ _ sr | replace sr := KeysT.tk sr (TK.same kJ) | replace sr := KeysU.tk sr (TK.same kJ) | replace sr := KeysN.tk sr (TK.same kJ) | replace sr := DayV.tk sr (TK.same kJ) | replace sr := Dp.same kJ _ _ sr | replace sr := DpAll.same kJ _ _ sr | replace sr := kJ _ _ sr | replace sr := Ch.trans sr (Ch.of_same kJ) | replace sr := Same.trans sr kJ | replace sr := stepsAt.same sr kJ | replace sr := DpT.same sr kJ | replace sr := LOr.same sr kJ | replace sr := Ob.same sr kJ | replace sr := Gds.same sr kJ | replace sr := Gd2.same sr kJ | replace sr := Ob2.same sr kJ | replace sr := NE.same sr kJ | replace sr := NT.same sr kJ | replace sr := NEs.same sr kJ | replace sr := NX.same sr kJ | replace sr := EMs.same sr kJ | replace sr := EOs.same sr kJ | replace sr := EO.same sr kJ | replace sr := GT.same sr kJ | replace sr := GTs.same sr kJ | replace sr := RB.same sr kJ | replace sr := RBs.same sr kJ | replace sr := RB2s.same sr kJ | replace sr := GR.same sr kJ | replace sr := GRs.same sr kJ | replace sr := NO.same sr kJ | replace sr := NOs.same sr kJ | replace sr := NZ.same sr kJ | replace sr := NB.same sr kJ | replace sr := NBs.same sr kJ | replace sr := NQ.same sr kJ | replace sr := NQs.same sr kJ | replace sr := NX'.same sr kJ
          first | replace dr := HF.same dr kJ | replace dr := WF.same dr kJ | replace dr := FT.same dr kJ | replace dr := Fd.same dr kJ | replace dr := LsD.same dr kJ | replace dr := TK.same kJ _ _ dr | replace dr := KeysT.tk dr (TK.same kJ) | replace dr := KeysU.tk dr (TK.same kJ) | replace dr := KeysN.tk dr (TK.same kJ) | replace dr := DayV.tk dr (TK.same kJ) | replace dr := Dp.same kJ _ _ dr | replace dr := DpAll.same kJ _ _ dr | replace dr := kJ _ _ dr | replace dr := Ch.trans dr (Ch.of_same kJ) | replace dr := Same.trans dr kJ | replace dr := stepsAt.same dr kJ | replace dr := DpT.same dr kJ | replace dr := LOr.same dr kJ | replace dr := Ob.same dr kJ | replace dr := Gds.same dr kJ | replace dr := Gd2.same dr kJ | replace dr := Ob2.same dr kJ | replace dr := NE.same dr kJ | replace dr := NT.same dr kJ | replace dr := NEs.same dr kJ | replace dr := NX.same dr kJ | replace dr := EMs.same dr kJ | replace dr := EOs.same dr kJ | replace dr := EO.same dr kJ | replace dr := GT.same dr kJ | replace dr := GTs.same dr kJ | replace dr := RB.same dr kJ | replace dr := RBs.same dr kJ | replace dr := RB2s.same dr kJ | replace dr := GR.same dr kJ | replace dr := GRs.same dr kJ | replace dr := NO.same dr kJ | replace dr := NOs.same dr kJ | replace dr := NZ.same dr kJ | replace dr := NB.same dr kJ | replace dr := NBs.same dr kJ | replace dr := NQ.same dr kJ | replace dr := NQs.same dr kJ | replace dr := NX'.same dr kJ
          first | replace eD := HF.same eD kJ | replace eD := WF.same eD kJ | replace eD := FT.same eD kJ | replace eD := Fd.same eD kJ | replace eD := LsD.same eD kJ | replace eD := TK.same kJ _ _ eD | replace eD := KeysT.tk eD (TK.same kJ) | replace eD := KeysU.tk eD (TK.same kJ) | replace eD := KeysN.tk eD (TK.same kJ) | replace eD := DayV.tk eD (TK.same kJ) | replace eD := Dp.same kJ _ _ eD | replace eD := DpAll.same kJ _ _ eD | replace eD := kJ _ _ eD | replace eD := Ch.trans eD (Ch.of_same kJ) | replace eD := Same.trans eD kJ | replace eD := stepsAt.same eD kJ | replace eD := DpT.same eD kJ | replace eD := LOr.same eD kJ | replace eD := Ob.same eD kJ | replace eD := Gds.same eD kJ | replace eD := Gd2.same eD kJ | replace eD := Ob2.same eD kJ | replace eD := NE.same eD kJ | replace eD := NT.same eD kJ | replace eD := NEs.same eD kJ | replace eD := NX.same eD kJ | replace eD := EMs.same eD kJ | replace eD := EOs.same eD kJ | replace eD := EO.same eD kJ | replace eD := GT.same eD kJ | replace eD := GTs.same eD kJ | replace eD := RB.same eD kJ | replace eD := RBs.same eD kJ | replace eD := RB2s.same eD kJ | replace eD := GR.same eD kJ | replace eD := GRs.same eD kJ | replace eD := NO.same eD kJ | replace eD := NOs.same eD kJ | replace eD := NZ.same eD kJ | replace eD := NB.same eD kJ | replace eD := NBs.same eD kJ | replace eD := NQ.same eD kJ | replace eD := NQs.same eD kJ | replace eD := NX'.same eD kJ
          clear kJ nJ eY H6
          repeat' (walk_at "jv")
          refine f_tup (ys.map V.str) (fun m σ H' => ∃ y3, σ = [some (.ref t), some (.ref tp), some (.ref tr), y3, some (.ref D), some (.str r.1), some (.str r.2), some (.ref J)] ∧ Same H H' ∧ SqT K H' tr xs ∧ DpAll K H' xs (rs.map roadD) ∧ SqT K H' J (ys.map V.str) ∧ H' D = some (.dK (fnK ps fun z => .ref (if z ∈ ys.take m then J else A z))) ∧ ∀ z ∈ ps, SqT K H' (A z) ((pg z).map V.str))
            ⟨_, rfl, kk, sr, dr, sJ, by rw [eD]; refine congrArg (fun x => some (HO.dK x)) (fnK_congr fun z _ => ?_); rw [List.take_zero, if_neg List.not_mem_nil], hA⟩ (fun m σ H' _ h => ?_) (fun m x σ H8 hx2 h => ?_) (fun σ H8 h => ?_)
          · obtain ⟨y3, rfl, kk, sr, dr, sJ, eD, hA⟩ := h
            exact sJ
          · clear kk sr dr sJ eD hA H7
            obtain ⟨y3, rfl, kk, sr, dr, sJ, eD, hA⟩ := h
            have hm2 : m < ys.length := by
              have := (List.getElem?_eq_some_iff.mp hx2).1
              omega
            rw [List.getElem?_map, List.getElem?_eq_getElem hm2] at hx2
            obtain rfl : V.str ys[m] = x := Option.some.inj hx2
            have et2 : ys.take (m + 1) = ys.take m ++ [ys[m]] := by rw [List.take_add_one, List.getElem?_eq_getElem hm2]; rfl
            have my := yp _ (List.getElem_mem hm2)
            have sf := sf_dk eD
            repeat' (walk_at "jv")
            refine i_dPut ?_
            repeat' (walk_at "jv")
            refine ⟨D, _, rfl, .inl ⟨_, Sum.inr ys[m], eD, rfl, by rw [fnK_len, sizeLine_eq]; omega, rfl⟩, ?_⟩
            rw [fnK_put my]
            have kP : Ch D H8 (upd H8 D (.dK (fnK ps fun y => if y = ys[m] then V.ref J else V.ref (if y ∈ ys.take m then J else A y)))) := Ch.upd_self
            have tP := tk_sf (K := K) kP sf
            refine ⟨_, rfl, fun c oc z => ?_, tP _ _ sr, DpAll.tk tP _ _ (roads_only rs) dr, tP _ _ sJ, ?_, fun z hz => tP _ _ (hA z hz)⟩
            · rw [upd_ne (ne_of_none z nDH)]
              exact kk _ _ z
            · rw [upd_same]
              refine congrArg (fun x => some (HO.dK x)) (fnK_congr fun y _ => ?_)
              show (if y = ys[m] then V.ref J else V.ref (if y ∈ ys.take m then J else A y)) = V.ref (if y ∈ ys.take (m + 1) then J else A y)
              rw [et2]
              by_cases e : y = ys[m]
              · rw [if_pos e, if_pos (List.mem_append_right _ (List.mem_singleton.mpr e))]
              · rw [if_neg e]
                by_cases e2 : y ∈ ys.take m
                · rw [if_pos e2, if_pos (List.mem_append_left _ e2)]
                · rw [if_neg e2, if_neg (fun z => (List.mem_append.mp z).elim e2 fun q => e (List.mem_singleton.mp q))]
          · clear kk sr dr sJ eD hA H7
            obtain ⟨y3, rfl, kk, sr, dr, sJ, eD, hA⟩ := h
            rw [hyl2, List.take_length] at eD
            refine ⟨_, _, _, _, fun z => if z ∈ ys then J else A z, fun z => if z ∈ ys then ys else pg z, rfl, kk, sr, dr, eD, fun z hz => ?_, fun z hz => ?_⟩
            · show SqT K H8 (if z ∈ ys then J else A z) ((if z ∈ ys then ys else pg z).map V.str)
              by_cases e : z ∈ ys
              · rw [if_pos e, if_pos e]
                exact sJ
              · rw [if_neg e, if_neg e]
                exact hA z hz
            · show (if z ∈ ys then ys else pg z).Perm _ ∧ sortedS (if z ∈ ys then ys else pg z) = true
              by_cases e : z ∈ ys
              · rw [if_pos e, step_in c (pg2.mem_iff.mp e)]
                exact ⟨pg2, up⟩
              · rw [if_neg e, step_out c (fun m => e (pg2.mem_iff.mpr m))]
                exact hP z hz
        · have c : r.2 ∈ g r.1 := by
            have : r.2 ∈ pg r.1 := by simpa using h1
            exact p1.mem_iff.mp this
          repeat' (walk_at "jv")
          rw [step_old c]
          exact ⟨_, _, _, _, A, pg, rfl, kk, sr, dr, eD, hA, hP⟩
      · clear k2 s3' d3' eD hA A0
        obtain ⟨y3, y5, y6, y7, A, pg, rfl, kk, sr, dr, eD, hA, hP⟩ := h
        rw [hxl, List.take_length] at hP
        have pI : PartI ps (grpL rs) := (web_pcs W).1
        repeat' (walk_at "jv")
        refine i_dkVals ?_
        repeat' (walk_at "jv")
        refine ⟨D, _, rfl, eD, fun p np => ?_⟩
        have kp := Same.upd_new (o := VwO p D) np
        refine i_nil ?_
        refine ⟨p, D, _, rfl, upd_same, kp _ _ eD, fun q2 nq => ?_⟩
        have kq := kp.trans (Same.upd_new (o := .lst ((fnK ps fun z => V.ref (A z)).map fun l => l.2)) nq)
        refine i_nil ?_
        refine ⟨q2, ps.map fun z => (A z, pg z), rfl, sq_lst (by rw [upd_same, fnK_vals, List.map_map]; rfl), fun x hx => ?_, by rw [List.length_map]; omega, fun D3 L nD3 sub all nd3 => ?_⟩
        · obtain ⟨z, hz, rfl⟩ := List.mem_map.mp hx
          exact TK.same kq _ _ (hA z hz)
        · replace kq := kq.trans (Same.upd_new (o := TsO P w D3 L) nD3)
          have sL : ∀ x ∈ L, ∃ z ∈ ps, x = (A z, pg z) := fun x hx => by
            obtain ⟨z, hz, e⟩ := List.mem_map.mp (sub x hx)
            exact ⟨z, hz, e.symm⟩
          refine i_nil ?_
          refine ⟨D3, L, rfl, upd_same, fun x hx => ?_, fun x hx => ?_, fun L1 p3 pm np3 => ?_⟩
          · obtain ⟨z, hz, rfl⟩ := sL x hx
            exact TK.same kq _ _ (hA z hz)
          · obtain ⟨z, hz, rfl⟩ := sL x hx
            have m := (hP z hz).1.mem_iff.mpr (pI.own z hz)
            exact fun e => by rw [show pg z = [] from e] at m; exact List.not_mem_nil m
          · have n3 : H p3 = none := free_same (kk.trans kq) np3
            have pm2 : ((L1.mergeSort (PySem.W.dataLe false fun x => tsD x.2)).map fun x => x.2).Perm (L.map fun x => x.2) := ((List.mergeSort_perm L1 _).trans pm).map _
            replace kq := kq.trans (Same.upd_new (o := .lst ((L1.mergeSort (PySem.W.dataLe false fun x => tsD x.2)).map fun x => V.ref x.1)) np3)
            refine q p3 _ ((L1.mergeSort (PySem.W.dataLe false fun x => tsD x.2)).map fun x => x.2) _ (kk.trans kq) n3 upd_same (dp_refs _ fun x hx => ?_) ⟨fun z hz => ?_, fun k hk => ?_, fun k hk => ?_, pm2.nodup_iff.mpr nd3, sorted_up (fun x : Addr × List Str => x.2) L1⟩
            · obtain ⟨z, hz, rfl⟩ := sL x (pm.mem_iff.mp ((List.mergeSort_perm L1 _).mem_iff.mp hx))
              exact TK.same kq _ _ (hA z hz)
            · exact ⟨pg z, pm2.mem_iff.mpr (all _ (List.mem_map.mpr ⟨z, hz, rfl⟩)), (hP z hz).1⟩
            · obtain ⟨x, hx, rfl⟩ := List.mem_map.mp (pm2.mem_iff.mp hk)
              obtain ⟨z, hz, rfl⟩ := sL x hx
              exact ⟨z, hz, (hP z hz).1⟩
            · obtain ⟨x, hx, rfl⟩ := List.mem_map.mp (pm2.mem_iff.mp hk)
              obtain ⟨z, hz, rfl⟩ := sL x hx
              exact (hP z hz).2
theorem ok_piecesK (D : Dk K mg "pieces" s_pieces ["web"] ["web"]) (B : Bn mg) (C_need_web : Cl P w K mg base 5 "need_web" ["web"] (spNeedWeb K)) : ClK P w K mg base 6 "pieces" ["web"] ["web"] (spPieces K) := by
  refine D.cl sc_pieces (fun vs H Q E h => ?_) (fun f cdv A outer s H vs Q E hr h => ?_)
  · obtain ⟨v, ps, rs, rfl, _⟩ := h
    rfl
  · obtain ⟨v, ps, rs, rfl, hd, W, q⟩ := h
    have nd := W.names.1
    have h8 := W.le8
    have h14 := W.le14
    refine ⟨_, (pss_cons (ps_expr (pe_c C_need_web hr (pa_cons (pv 0) pa_nil)))
      (pss_cons (ps_asg (pv 0) (kpg_tup (K := K) (n := 2) rfl (pgs_cons (pg_name (i := 1) sc_pieces.nd rfl (by first | exact Or.inl rfl | exact Or.inr rfl)) (pgs_cons (pg_name (i := 2) sc_pieces.nd rfl (by first | exact Or.inl rfl | exact Or.inr rfl)) pgs_nil))))
      (pss_cons (ps_setDc (i := 4) (own := [("place", 3)]) rfl sc_pieces.nd rfl rfl (sw_dict rfl rfl rfl (by decide +kernel)) (kpi_tup (K := K) (pv 1)) (blkOk_by (N := ["web", "places", "roads", "place", "piece_of", "one", "other", "joined"]) (sc := defScope s_pieces) (by decide +kernel)) (fun _ _ _ _ _ => (pg_name (i := 3) sc_pieces.nd rfl (by first | exact Or.inl rfl | exact Or.inr rfl))) (fun _ _ _ _ _ => pts_nil) (fun _ _ _ _ _ => (pv 3)) (fun _ _ _ _ _ => (pe_tup (pa_cons (pv 3) pa_nil))))
      (pss_cons (ps_for PassesOwn.never rfl (kpi_tup (K := K) (pv 2)) (kpg_tup (K := K) (n := 2) rfl (pgs_cons (pg_name (i := 5) sc_pieces.nd rfl (by first | exact Or.inl rfl | exact Or.inr rfl)) (pgs_cons (pg_name (i := 6) sc_pieces.nd rfl (by first | exact Or.inl rfl | exact Or.inr rfl)) pgs_nil))) (pss_one (ps_if (pt_cmpR (k_notInS (K := K)) (pv 6) (pe_dget (hu1 hr) (pv 4) (pv 5) (fun _ _ => rfl)) (by rfl)) (pss_cons (ps_set (i := 7) sc_pieces.nd rfl (by first | exact Or.inl rfl | exact Or.inr rfl) (pe_callTy (k_tuple (K := K)) rfl B.tuple_ (by decide +kernel) (pa_cons (pe_callB (k_sortedTx (K := K)) rfl B.sorted_ (by decide +kernel) (pa_cons (pe_op (k_catA (K := K)) (pe_dget (hu1 hr) (pv 4) (pv 5) (fun _ _ => rfl)) (pe_dget (hu1 hr) (pv 4) (pv 6) (fun _ _ => rfl))) pa_nil)) pa_nil)))
      (pss_one (ps_for PassesOwn.never rfl (kpi_tup (K := K) (pv 7)) (pg_name (i := 3) sc_pieces.nd rfl (by first | exact Or.inl rfl | exact Or.inr rfl)) (pss_one (ps_dput (hu1 hr) (pv 4) (pv 3) (pv 7) rfl))))) pss_nil)))
      (pss_one (ps_ret (pe_callB (k_sortedTs (K := K) (P := P) (w := w) rfl hr.units) rfl B.sorted_ (by decide +kernel) (pa_cons (pe_callTy (k_setTx (K := K) (P := P) (w := w) rfl hr.units) rfl B.set_ (by decide +kernel) (pa_cons (pe_callTy (call_listVk rfl) rfl B.list_ (by decide +kernel) (pa_cons (pe_dkVals (pv 4)) pa_nil)) pa_nil)) pa_nil)))))))), ?_⟩
    repeat' (walk_at "jv")
    refine ⟨v, ps, rs, rfl, hd, W, fun H2 k2 => ?_⟩
    obtain ⟨t, tp, tr, xs, rfl, s1, s2, s3, d3, dr, dpl⟩ := web_parts (Dp.same k2 _ _ hd)
    repeat' (walk_at "jv")
    refine i_dc ?_
    repeat' (walk_at "jv")
    have hlp : (ps.map V.str).length = ps.length := List.length_map ..
    have nt : ∀ i (hi : i < ps.length), ps[i] ∉ ps.take i := fun i hi m => by
      obtain ⟨j, hj, e⟩ := List.getElem_of_mem m
      rw [List.length_take] at hj
      rw [List.getElem_take] at e
      have := (List.getElem_inj nd).mp e
      omega
    refine d_tup (ps.map V.str) (fun D i H' => H2 D = none ∧ Same H2 H' ∧ ∃ A : Str → Addr, H' D = some (.dK (fnK (ps.take i) fun z => .ref (A z))) ∧ ∀ z ∈ ps.take i, SqT K H' (A z) ([z].map V.str)) (fun D nD => ⟨nD, Same.upd_new nD, fun _ => 0, upd_same, fun z hz => absurd hz List.not_mem_nil⟩) (fun D i H' _ h => TK.same h.2.1 _ _ s2) (fun D i x H' hx h => ?_) (fun D H' h => ?_)
    · obtain ⟨nD, kD, A, eD, hA⟩ := h
      have hi : i < ps.length := by
        have := (List.getElem?_eq_some_iff.mp hx).1
        omega
      rw [List.getElem?_map, List.getElem?_eq_getElem hi] at hx
      obtain rfl : V.str ps[i] = x := Option.some.inj hx
      have nti := nt i hi
      have et : ps.take (i + 1) = ps.take i ++ [ps[i]] := by rw [List.take_add_one, List.getElem?_eq_getElem hi]; rfl
      repeat' (walk_at "jv")
      intro T nT
      have kT := Same.upd_new (o := .tup [.str ps[i]]) nT
      have sT : SqT K (upd H' T (.tup [.str ps[i]])) T [.str ps[i]] := sq_tup upd_same
      replace eD := kT _ _ eD
      replace hA : ∀ z ∈ ps.take i, SqT K (upd H' T (.tup [.str ps[i]])) (A z) ([z].map V.str) := fun z hz => TK.same kT _ _ (hA z hz)
      replace kD := kD.trans kT
      generalize upd H' T (.tup [.str ps[i]]) = H3 at *
      have eA : fnK (ps.take i) (fun z => V.ref (A z)) = fnK (ps.take i) fun z => V.ref (if z = ps[i] then T else A z) := fnK_congr fun z hz => by
        show V.ref (A z) = V.ref (if z = ps[i] then T else A z)
        rw [if_neg (fun e : z = ps[i] => nti (e ▸ hz))]
      have sf := sf_dk eD
      have kP : Ch D H3 (upd H3 D (.dK (putK (fnK (ps.take i) fun z => V.ref (A z)) (Sum.inr ps[i]) (.ref T)))) := Ch.upd_self
      have tP := tk_sf (K := K) kP sf
      refine ⟨_, Sum.inr ps[i], rfl, eD, by rw [fnK_len, List.length_take, sizeLine_eq]; omega, nD, fun c oc z => ?_, fun z => if z = ps[i] then T else A z, ?_, fun z hz => tP _ _ ?_⟩
      · rw [upd_ne (ne_of_none z nD)]
        exact kD _ _ z
      · have e1 := fnK_snoc (A := fun z => V.ref (if z = ps[i] then T else A z)) nti
        rw [if_pos rfl] at e1
        rw [upd_same, et, eA, e1]
      · show SqT K H3 (if z = ps[i] then T else A z) _
        by_cases e : z = ps[i]
        · rw [if_pos e, e]
          exact sT
        · rw [if_neg e]
          rw [et] at hz
          rcases List.mem_append.mp hz with hz | hz
          · exact hA z hz
          · exact absurd (List.mem_singleton.mp hz) e
    · obtain ⟨nD, kD, A0, eD, hA⟩ := h
      rw [hlp, List.take_length] at eD hA
      have nDH : H D = none := free_same k2 nD
      replace k2 := k2.trans kD
      have s3' := TK.same (K := K) kD _ _ s3
      have d3' := DpAll.same kD _ _ d3
      have hxl : xs.length = rs.length := by rw [DpAll.len d3, List.length_map]
      clear hd s1 s2 d3 s3 dr dpl kD nD
      repeat' (walk_at "jv")
      have part : ∀ i, PartI ps ((rs.take i).foldl stepG grp0) := fun i => (part_walk (rs.take i) (fun r hr => ⟨(W.ends r (List.mem_of_mem_take hr)).1, (W.ends r (List.mem_of_mem_take hr)).2.1⟩) PartI.start (ClsI.start nd)).1
      refine f_tup xs (fun i σ H' => ∃ y3 y5 y6 y7 A pg, σ = [some (.ref t), some (.ref tp), some (.ref tr), y3, some (.ref D), y5, y6, y7] ∧ Same H H' ∧ SqT K H' tr xs ∧ DpAll K H' xs (rs.map roadD) ∧ H' D = some (.dK (fnK ps fun z => .ref (A z))) ∧ (∀ z ∈ ps, SqT K H' (A z) ((pg z).map V.str)) ∧ ∀ z ∈ ps, (pg z).Perm ((rs.take i).foldl stepG grp0 z) ∧ sortedS (pg z) = true)
        ⟨_, _, _, _, A0, fun z => [z], rfl, k2, s3', d3', eD, hA, fun z hz => ⟨List.Perm.refl _, rfl⟩⟩ (fun i σ H' _ h => ?_) (fun i x σ H4 hx h => ?_) (fun σ H4 h => ?_)
      · obtain ⟨y3, y5, y6, y7, A, pg, rfl, kk, sr, dr, eD, hA, hP⟩ := h
        exact sr
      · clear k2 s3' d3' eD hA A0
        obtain ⟨y3, y5, y6, y7, A, pg, rfl, kk, sr, dr, eD, hA, hP⟩ := h
        obtain ⟨r, b, hr2, rfl, sb⟩ := road_get dr hx
        have hm : i < rs.length := (List.getElem?_eq_some_iff.mp hr2).1
        obtain ⟨w1, w2, w3⟩ := W.ends r (List.mem_of_getElem? hr2)
        have pI := part i
        have et : (rs.take (i + 1)).foldl stepG grp0 = stepG ((rs.take i).foldl stepG grp0) r := by rw [List.take_add_one, hr2, List.foldl_append]; rfl
        rw [et]
        generalize (rs.take i).foldl stepG grp0 = g at *
        obtain ⟨p1, u1⟩ := hP r.1 w1
        obtain ⟨p2, u2⟩ := hP r.2 w2
        have sA := hA r.1 w1
        refine i_gtup sb rfl ?_
        repeat' (walk_at "jv")
        have hgl : ∀ z ∈ ps, (pg z).length ≤ 8 := fun z hz => by
          rw [(hP z hz).1.length_eq]
          exact Nat.le_trans (nd_le _ _ (pI.nd z hz) fun y hy => (pI.mem z hz y hy).1) h8
        refine i_dg ?_
        repeat' (walk_at "jv")
        refine i_dget eD (fnK_val w1) ?_
        refine i_notInS (SqA.t sA) ?_
        refine ⟨_, rfl, i_iteB (fun h1 => ?_) (fun h1 => ?_)⟩
        · have c : r.2 ∉ g r.1 := by
            have : r.2 ∉ pg r.1 := by simpa using h1
            exact fun m => this (p1.mem_iff.mpr m)
          have l1 := hgl r.1 w1
          have l2 := hgl r.2 w2
          have ne2 : (pg r.2).map V.str ≠ [] := fun e => by
            have m := p2.mem_iff.mpr (pI.own _ w2)
            rw [List.map_eq_nil_iff.mp e] at m
            exact List.not_mem_nil m
          repeat' (walk_at "jv")
          refine i_dg ?_
          repeat' (walk_at "jv")
          refine i_dget eD (fnK_val w1) ?_
          refine i_dg ?_
          repeat' (walk_at "jv")
          refine i_dget eD (fnK_val w2) ?_
          refine i_catA sA (hA r.2 w2) ne2 (by rw [List.length_map, List.length_map, sizeLine_eq]; omega) fun P2 H5 k5 s5 => ?_
          replace hA : ∀ z ∈ ps, SqT K H5 (A z) ((pg z).map V.str) := fun z hz => TK.same k5 _ _ (hA z hz)
          first | replace kk := HF.same kk k5 | replace kk := WF.same kk k5 | replace kk := FT.same kk k5 | replace kk := Fd.same kk k5 | replace kk := LsD.same kk k5 | replace kk := TK.same k5 _ _ kk | replace kk := KeysT.tk kk (TK.same k5) | replace kk := KeysU.tk kk (TK.same k5) | replace kk := KeysN.tk kk (TK.same k5) | replace kk := DayV.tk kk (TK.same k5) | replace kk := Dp.same k5 _ _ kk | replace kk := DpAll.same k5 _ _ kk | replace kk := k5 _ _ kk | replace kk := Ch.trans kk (Ch.of_same k5) | replace kk := Same.trans kk k5 | replace kk := stepsAt.same kk k5 | replace kk := DpT.same kk k5 | replace kk := LOr.same kk k5 | replace kk := Ob.same kk k5 | replace kk := Gds.same kk k5 | replace kk := Gd2.same kk k5 | replace kk := Ob2.same kk k5 | replace kk := NE.same kk k5 | replace kk := NT.same kk k5 | replace kk := NEs.same kk k5 | replace kk := NX.same kk k5 | replace kk := EMs.same kk k5 | replace kk := EOs.same kk k5 | replace kk := EO.same kk k5 | replace kk := GT.same kk k5 | replace kk := GTs.same kk k5 | replace kk := RB.same kk k5 | replace kk := RBs.same kk k5 | replace kk := RB2s.same kk k5 | replace kk := GR.same kk k5 | replace kk := GRs.same kk k5 | replace kk := NO.same kk k5 | replace kk := NOs.same kk k5 | replace kk := NZ.same kk k5 | replace kk := NB.same kk k5 | replace kk := NBs.same kk k5 | replace kk := NQ.same kk k5 | replace kk := NQs.same kk k5 | replace kk := NX'.same kk k5
          first | replace sr := HF.same sr k5 | replace sr := WF.same sr k5 | replace sr := FT.same sr k5 | replace sr := Fd.same sr k5 | replace sr := LsD.same sr k5 | replace sr := TK.same k5 _ _ sr | replace sr := KeysT.tk sr (TK.same k5) | replace sr := KeysU.tk sr (TK.same k5) | replace sr := KeysN.tk sr (TK.same k5) | replace sr := DayV.tk sr (TK.same k5) | replace sr := Dp.same k5 _ _ sr | replace sr := DpAll.same k5 _ _ sr | replace sr := k5 _ _ sr | replace sr := Ch.trans sr (Ch.of_same k5) | replace sr := Same.trans sr k5 | replace sr := stepsAt.same sr k5 | replace sr := DpT.same sr k5 | replace sr := LOr.same sr k5 | replace sr := Ob.same sr k5 | replace sr := Gds.same sr k5 | replace sr := Gd2.same sr k5 | replace sr := Ob2.same sr k5 | replace sr := NE.same sr k5 | replace sr := NT.same sr k5 | replace sr := NEs.same sr k5 | replace sr := NX.same sr k5 | replace sr := EMs.same sr k5 | replace sr := EOs.same sr k5 | replace sr := EO.same sr k5 | replace sr := GT.same sr k5 | replace sr := GTs.same sr k5 | replace sr := RB.same sr k5 | replace sr := RBs.same sr k5 | replace sr := RB2s.same sr k5 | replace sr := GR.same sr k5 | replace sr := GRs.same sr k5 | replace sr := NO.same sr k5 | replace sr := NOs.same sr k5 | replace sr := NZ.same sr k5 | replace sr := NB.same sr k5 | replace sr := NBs.same sr k5 | replace sr := NQ.same sr k5 | replace sr := NQs.same sr k5 | replace sr := NX'.same sr k5
          first | replace dr := HF.same dr k5 | replace dr := WF.same dr k5 | replace dr := FT.same dr k5 | replace dr := Fd.same dr k5 | replace dr := LsD.same dr k5 | replace dr := TK.same k5 _ _ dr | replace dr := KeysT.tk dr (TK.same k5) | replace dr := KeysU.tk dr (TK.same k5) | replace dr := KeysN.tk dr (TK.same k5) | replace dr := DayV.tk dr (TK.same k5) | replace dr := Dp.same k5 _ _ dr | replace dr := DpAll.same k5 _ _ dr | replace dr := k5 _ _ dr | replace dr := Ch.trans dr (Ch.of_same k5) | replace dr := Same.trans dr k5 | replace dr := stepsAt.same dr k5 | replace dr := DpT.same dr k5 | replace dr := LOr.same dr k5 | replace dr := Ob.same dr k5 | replace dr := Gds.same dr k5 | replace dr := Gd2.same dr k5 | replace dr := Ob2.same dr k5 | replace dr := NE.same dr k5 | replace dr := NT.same dr k5 | replace dr := NEs.same dr k5 | replace dr := NX.same dr k5 | replace dr := EMs.same dr k5 | replace dr := EOs.same dr k5 | replace dr := EO.same dr k5 | replace dr := GT.same dr k5 | replace dr := GTs.same dr k5 | replace dr := RB.same dr k5 | replace dr := RBs.same dr k5 | replace dr := RB2s.same dr k5 | replace dr := GR.same dr k5 | replace dr := GRs.same dr k5 | replace dr := NO.same dr k5 | replace dr := NOs.same dr k5 | replace dr := NZ.same dr k5 | replace dr := NB.same dr k5 | replace dr := NBs.same dr k5 | replace dr := NQ.same dr k5 | replace dr := NQs.same dr k5 | replace dr := NX'.same dr k5
          first | replace eD := HF.same eD k5 | replace eD := WF.same eD k5 | replace eD := FT.same eD k5 | replace eD := Fd.same eD k5 | replace eD := LsD.same eD k5 | replace eD := TK.same k5 _ _ eD | replace eD := KeysT.tk eD (TK.same k5) | replace eD := KeysU.tk eD (TK.same k5) | replace eD := KeysN.tk eD (TK.same k5) | replace eD := DayV.tk eD (TK.same k5) | replace eD := Dp.same k5 _ _ eD | replace eD := DpAll.same k5 _ _ eD | replace eD := k5 _ _ eD | replace eD := Ch.trans eD (Ch.of_same k5) | replace eD := Same.trans eD k5 | replace eD := stepsAt.same eD k5 | replace eD := DpT.same eD k5 | replace eD := LOr.same eD k5 | replace eD := Ob.same eD k5 | replace eD := Gds.same eD k5 | replace eD := Gd2.same eD k5 | replace eD := Ob2.same eD k5 | replace eD := NE.same eD k5 | replace eD := NT.same eD k5 | replace eD := NEs.same eD k5 | replace eD := NX.same eD k5 | replace eD := EMs.same eD k5 | replace eD := EOs.same eD k5 | replace eD := EO.same eD k5 | replace eD := GT.same eD k5 | replace eD := GTs.same eD k5 | replace eD := RB.same eD k5 | replace eD := RBs.same eD k5 | replace eD := RB2s.same eD k5 | replace eD := GR.same eD k5 | replace eD := GRs.same eD k5 | replace eD := NO.same eD k5 | replace eD := NOs.same eD k5 | replace eD := NZ.same eD k5 | replace eD := NB.same eD k5 | replace eD := NBs.same eD k5 | replace eD := NQ.same eD k5 | replace eD := NQs.same eD k5 | replace eD := NX'.same eD k5
          clear k5 sA sb H4
          refine i_nil ?_
          refine ⟨P2, pg r.1 ++ pg r.2, rfl, by rw [List.map_append]; exact s5, fun ys p pm up np => ?_⟩
          have kY := Same.upd_new (o := .lst (ys.map V.str)) np
          have eY : (upd H5 p (.lst (ys.map V.str))) p = some (.lst (ys.map V.str)) := upd_same
          generalize upd H5 p (.lst (ys.map V.str)) = H6 at *
          replace hA : ∀ z ∈ ps, SqT K H6 (A z) ((pg z).map V.str) := fun z hz => TK.same kY _ _ (hA z hz)
          first | replace kk := HF.same kk kY | replace kk := WF.same kk kY | replace kk := FT.same kk kY | replace kk := Fd.same kk kY | replace kk := LsD.same kk kY | replace kk := TK.same kY _ _ kk | replace kk := KeysT.tk kk (TK.same kY) | replace kk := KeysU.tk kk (TK.same kY) | replace kk := KeysN.tk kk (TK.same kY) | replace kk := DayV.tk kk (TK.same kY) | replace kk := Dp.same kY _ _ kk | replace kk := DpAll.same kY _ _ kk | replace kk := kY _ _ kk | replace kk := Ch.trans kk (Ch.of_same kY) | replace kk := Same.trans kk kY | replace kk := stepsAt.same kk kY | replace kk := DpT.same kk kY | replace kk := LOr.same kk kY | replace kk := Ob.same kk kY | replace kk := Gds.same kk kY | replace kk := Gd2.same kk kY | replace kk := Ob2.same kk kY | replace kk := NE.same kk kY | replace kk := NT.same kk kY | replace kk := NEs.same kk kY | replace kk := NX.same kk kY | replace kk := EMs.same kk kY | replace kk := EOs.same kk kY | replace kk := EO.same kk kY | replace kk := GT.same kk kY | replace kk := GTs.same kk kY | replace kk := RB.same kk kY | replace kk := RBs.same kk kY | replace kk := RB2s.same kk kY | replace kk := GR.same kk kY | replace kk := GRs.same kk kY | replace kk := NO.same kk kY | replace kk := NOs.same kk kY | replace kk := NZ.same kk kY | replace kk := NB.same kk kY | replace kk := NBs.same kk kY | replace kk := NQ.same kk kY | replace kk := NQs.same kk kY | replace kk := NX'.same kk kY
          first | replace sr := HF.same sr kY | replace sr := WF.same sr kY | replace sr := FT.same sr kY | replace sr := Fd.same sr kY | replace sr := LsD.same sr kY | replace sr := TK.same kY _ _ sr | replace sr := KeysT.tk sr (TK.same kY) | replace sr := KeysU.tk sr (TK.same kY) | replace sr := KeysN.tk sr (TK.same kY) | replace sr := DayV.tk sr (TK.same kY) | replace sr := Dp.same kY _ _ sr | replace sr := DpAll.same kY _ _ sr | replace sr := kY _ _ sr | replace sr := Ch.trans sr (Ch.of_same kY) | replace sr := Same.trans sr kY | replace sr := stepsAt.same sr kY | replace sr := DpT.same sr kY | replace sr := LOr.same sr kY | replace sr := Ob.same sr kY | replace sr := Gds.same sr kY | replace sr := Gd2.same sr kY | replace sr := Ob2.same sr kY | replace sr := NE.same sr kY | replace sr := NT.same sr kY | replace sr := NEs.same sr kY | replace sr := NX.same sr kY | replace sr := EMs.same sr kY | replace sr := EOs.same sr kY | replace sr := EO.same sr kY | replace sr := GT.same sr kY | replace sr := GTs.same sr kY | replace sr := RB.same sr kY | replace sr := RBs.same sr kY | replace sr := RB2s.same sr kY | replace sr := GR.same sr kY | replace sr := GRs.same sr kY | replace sr := NO.same sr kY | replace sr := NOs.same sr kY | replace sr := NZ.same sr kY | replace sr := NB.same sr kY | replace sr := NBs.same sr kY | replace sr := NQ.same sr kY | replace sr := NQs.same sr kY | replace sr := NX'.same sr kY
          first | replace dr := HF.same dr kY | replace dr := WF.same dr kY | replace dr := FT.same dr kY | replace dr := Fd.same dr kY | replace dr := LsD.same dr kY | replace dr := TK.same kY _ _ dr | replace dr := KeysT.tk dr (TK.same kY) | replace dr := KeysU.tk dr (TK.same kY) | replace dr := KeysN.tk dr (TK.same kY) | replace dr := DayV.tk dr (TK.same kY) | replace dr := Dp.same kY _ _ dr | replace dr := DpAll.same kY _ _ dr | replace dr := kY _ _ dr | replace dr := Ch.trans dr (Ch.of_same kY) | replace dr := Same.trans dr kY | replace dr := stepsAt.same dr kY | replace dr := DpT.same dr kY | replace dr := LOr.same dr kY | replace dr := Ob.same dr kY | replace dr := Gds.same dr kY | replace dr := Gd2.same dr kY | replace dr := Ob2.same dr kY | replace dr := NE.same dr kY | replace dr := NT.same dr kY | replace dr := NEs.same dr kY | replace dr := NX.same dr kY | replace dr := EMs.same dr kY | replace dr := EOs.same dr kY | replace dr := EO.same dr kY | replace dr := GT.same dr kY | replace dr := GTs.same dr kY | replace dr := RB.same dr kY | replace dr := RBs.same dr kY | replace dr := RB2s.same dr kY | replace dr := GR.same dr kY | replace dr := GRs.same dr kY | replace dr := NO.same dr kY | replace dr := NOs.same dr kY | replace dr := NZ.same dr kY | replace dr := NB.same dr kY | replace dr := NBs.same dr kY | replace dr := NQ.same dr kY | replace dr := NQs.same dr kY | replace dr := NX'.same dr kY
          first | replace eD := HF.same eD kY | replace eD := WF.same eD kY | replace eD := FT.same eD kY | replace eD := Fd.same eD kY | replace eD := LsD.same eD kY | replace eD := TK.same kY _ _ eD | replace eD := KeysT.tk eD (TK.same kY) | replace eD := KeysU.tk eD (TK.same kY) | replace eD := KeysN.tk eD (TK.same kY) | replace eD := DayV.tk eD (TK.same kY) | replace eD := Dp.same kY _ _ eD | replace eD := DpAll.same kY _ _ eD | replace eD := kY _ _ eD | replace eD := Ch.trans eD (Ch.of_same kY) | replace eD := Same.trans eD kY | replace eD := stepsAt.same eD kY | replace eD := DpT.same eD kY | replace eD := LOr.same eD kY | replace eD := Ob.same eD kY | replace eD := Gds.same eD kY | replace eD := Gd2.same eD kY | replace eD := Ob2.same eD kY | replace eD := NE.same eD kY | replace eD := NT.same eD kY | replace eD := NEs.same eD kY | replace eD := NX.same eD kY | replace eD := EMs.same eD kY | replace eD := EOs.same eD kY | replace eD := EO.same eD kY | replace eD := GT.same eD kY | replace eD := GTs.same eD kY | replace eD := RB.same eD kY | replace eD := RBs.same eD kY | replace eD := RB2s.same eD kY | replace eD := GR.same eD kY | replace eD := GRs.same eD kY | replace eD := NO.same eD kY | replace eD := NOs.same eD kY | replace eD := NZ.same eD kY | replace eD := NB.same eD kY | replace eD := NBs.same eD kY | replace eD := NQ.same eD kY | replace eD := NQs.same eD kY | replace eD := NX'.same eD kY
          clear kY s5 np H5
          have hyl : (ys.map V.str).length ≤ 16 := by rw [List.length_map, pm.length_eq, List.length_append]; omega
          have hyl2 : (ys.map V.str).length = ys.length := List.length_map ..
          have pg2 : ys.Perm (g r.1 ++ g r.2) := pm.trans (p1.append p2)
          have yp : ∀ z ∈ ys, z ∈ ps := fun z hz => by
            rcases List.mem_append.mp (pg2.mem_iff.mp hz) with hz | hz
            · exact (pI.mem _ w1 z hz).1
            · exact (pI.mem _ w2 z hz).1
          repeat' (walk_at "jv")
          intro J nJ
          have kJ := Same.upd_new (o := .tup (ys.map V.str)) nJ
          have sJ : SqT K (upd H6 J (.tup (ys.map V.str))) J (ys.map V.str) := sq_tup upd_same
          generalize upd H6 J (.tup (ys.map V.str)) = H7 at *
          replace hA : ∀ z ∈ ps, SqT K H7 (A z) ((pg z).map V.str) := fun z hz => TK.same kJ _ _ (hA z hz)
          first | replace kk := HF.same kk kJ | replace kk := WF.same kk kJ | replace kk := FT.same kk kJ | replace kk := Fd.same kk kJ | replace kk := LsD.same kk kJ | replace kk := TK.same kJ _ _ kk | replace kk := KeysT.tk kk (TK.same kJ) | replace kk := KeysU.tk kk (TK.same kJ) | replace kk := KeysN.tk kk (TK.same kJ) | replace kk := DayV.tk kk (TK.same kJ) | replace kk := Dp.same kJ _ _ kk | replace kk := DpAll.same kJ _ _ kk | replace kk := kJ _ _ kk | replace kk := Ch.trans kk (Ch.of_same kJ) | replace kk := Same.trans kk kJ | replace kk := stepsAt.same kk kJ | replace kk := DpT.same kk kJ | replace kk := LOr.same kk kJ | replace kk := Ob.same kk kJ | replace kk := Gds.same kk kJ | replace kk := Gd2.same kk kJ | replace kk := Ob2.same kk kJ | replace kk := NE.same kk kJ | replace kk := NT.same kk kJ | replace kk := NEs.same kk kJ | replace kk := NX.same kk kJ | replace kk := EMs.same kk kJ | replace kk := EOs.same kk kJ | replace kk := EO.same kk kJ | replace kk := GT.same kk kJ | replace kk := GTs.same kk kJ | replace kk := RB.same kk kJ | replace kk := RBs.same kk kJ | replace kk := RB2s.same kk kJ | replace kk := GR.same kk kJ | replace kk := GRs.same kk kJ | replace kk := NO.same kk kJ | replace kk := NOs.same kk kJ | replace kk := NZ.same kk kJ | replace kk := NB.same kk kJ | replace kk := NBs.same kk kJ | replace kk := NQ.same kk kJ | replace kk := NQs.same kk kJ | replace kk := NX'.same kk kJ
          first | replace sr := HF.same sr kJ | replace sr := WF.same sr kJ | replace sr := FT.same sr kJ | replace sr := Fd.same sr kJ | replace sr := LsD.same sr kJ | replace sr := TK.same kJ _ _ sr | replace sr := KeysT.tk sr (TK.same kJ) | replace sr := KeysU.tk sr (TK.same kJ) | replace sr := KeysN.tk sr (TK.same kJ) | replace sr := DayV.tk sr (TK.same kJ) | replace sr := Dp.same kJ _ _ sr | replace sr := DpAll.same kJ _ _ sr | replace sr := kJ _ _ sr | replace sr := Ch.trans sr (Ch.of_same kJ) | replace sr := Same.trans sr kJ | replace sr := stepsAt.same sr kJ | replace sr := DpT.same sr kJ | replace sr := LOr.same sr kJ | replace sr := Ob.same sr kJ | replace sr := Gds.same sr kJ | replace sr := Gd2.same sr kJ | replace sr := Ob2.same sr kJ | replace sr := NE.same sr kJ | replace sr := NT.same sr kJ | replace sr := NEs.same sr kJ | replace sr := NX.same sr kJ | replace sr := EMs.same sr kJ | replace sr := EOs.same sr kJ | replace sr := EO.same sr kJ | replace sr := GT.same sr kJ | replace sr := GTs.same sr kJ | replace sr := RB.same sr kJ | replace sr := RBs.same sr kJ | replace sr := RB2s.same sr kJ | replace sr := GR.same sr kJ | replace sr := GRs.same sr kJ | replace sr := NO.same sr kJ | replace sr := NOs.same sr kJ | replace sr := NZ.same sr kJ | replace sr := NB.same sr kJ | replace sr := NBs.same sr kJ | replace sr := NQ.same sr kJ | replace sr := NQs.same sr kJ | replace sr := NX'.same sr kJ
          first | replace dr := HF.same dr kJ | replace dr := WF.same dr kJ | replace dr := FT.same dr kJ | replace dr := Fd.same dr kJ | replace dr := LsD.same dr kJ | replace dr := TK.same kJ _ _ dr | replace dr := KeysT.tk dr (TK.same kJ) | replace dr := KeysU.tk dr (TK.same kJ) | replace dr := KeysN.tk dr (TK.same kJ) | replace dr := DayV.tk dr (TK.same kJ) | replace dr := Dp.same kJ _ _ dr | replace dr := DpAll.same kJ _ _ dr | replace dr := kJ _ _ dr | replace dr := Ch.trans dr (Ch.of_same kJ) | replace dr := Same.trans dr kJ | replace dr := stepsAt.same dr kJ | replace dr := DpT.same dr kJ | replace dr := LOr.same dr kJ | replace dr := Ob.same dr kJ | replace dr := Gds.same dr kJ | replace dr := Gd2.same dr kJ | replace dr := Ob2.same dr kJ | replace dr := NE.same dr kJ | replace dr := NT.same dr kJ | replace dr := NEs.same dr kJ | replace dr := NX.same dr kJ | replace dr := EMs.same dr kJ | replace dr := EOs.same dr kJ | replace dr := EO.same dr kJ | replace dr := GT.same dr kJ | replace dr := GTs.same dr kJ | replace dr := RB.same dr kJ | replace dr := RBs.same dr kJ | replace dr := RB2s.same dr kJ | replace dr := GR.same dr kJ | replace dr := GRs.same dr kJ | replace dr := NO.same dr kJ | replace dr := NOs.same dr kJ | replace dr := NZ.same dr kJ | replace dr := NB.same dr kJ | replace dr := NBs.same dr kJ | replace dr := NQ.same dr kJ | replace dr := NQs.same dr kJ | replace dr := NX'.same dr kJ
          first | replace eD := HF.same eD kJ | replace eD := WF.same eD kJ | replace eD := FT.same eD kJ | replace eD := Fd.same eD kJ | replace eD := LsD.same eD kJ | replace eD := TK.same kJ _ _ eD | replace eD := KeysT.tk eD (TK.same kJ) | replace eD := KeysU.tk eD (TK.same kJ) | replace eD := KeysN.tk eD (TK.same kJ) | replace eD := DayV.tk eD (TK.same kJ) | replace eD := Dp.same kJ _ _ eD | replace eD := DpAll.same kJ _ _ eD | replace eD := kJ _ _ eD | replace eD := Ch.trans eD (Ch.of_same kJ) | replace eD := Same.trans eD kJ | replace eD := stepsAt.same eD kJ | replace eD := DpT.same eD kJ | replace eD := LOr.same eD kJ | replace eD := Ob.same eD kJ | replace eD := Gds.same eD kJ | replace eD := Gd2.same eD kJ | replace eD := Ob2.same eD kJ | replace eD := NE.same eD kJ | replace eD := NT.same eD kJ | replace eD := NEs.same eD kJ | replace eD := NX.same eD kJ | replace eD := EMs.same eD kJ | replace eD := EOs.same eD kJ | replace eD := EO.same eD kJ | replace eD := GT.same eD kJ | replace eD := GTs.same eD kJ | replace eD := RB.same eD kJ | replace eD := RBs.same eD kJ | replace eD := RB2s.same eD kJ | replace eD := GR.same eD kJ | replace eD := GRs.same eD kJ | replace eD := NO.same eD kJ | replace eD := NOs.same eD kJ | replace eD := NZ.same eD kJ | replace eD := NB.same eD kJ | replace eD := NBs.same eD kJ | replace eD := NQ.same eD kJ | replace eD := NQs.same eD kJ | replace eD := NX'.same eD kJ
          clear kJ nJ eY H6
          repeat' (walk_at "jv")
          refine f_tup (ys.map V.str) (fun m σ H' => ∃ y3, σ = [some (.ref t), some (.ref tp), some (.ref tr), y3, some (.ref D), some (.str r.1), some (.str r.2), some (.ref J)] ∧ Same H H' ∧ SqT K H' tr xs ∧ DpAll K H' xs (rs.map roadD) ∧ SqT K H' J (ys.map V.str) ∧ H' D = some (.dK (fnK ps fun z => .ref (if z ∈ ys.take m then J else A z))) ∧ ∀ z ∈ ps, SqT K H' (A z) ((pg z).map V.str))
            ⟨_, rfl, kk, sr, dr, sJ, by rw [eD]; refine congrArg (fun x => some (HO.dK x)) (fnK_congr fun z _ => ?_); rw [List.take_zero, if_neg List.not_mem_nil], hA⟩ (fun m σ H' _ h => ?_) (fun m x σ H8 hx2 h => ?_) (fun σ H8 h => ?_)
          · obtain ⟨y3, rfl, kk, sr, dr, sJ, eD, hA⟩ := h
            exact sJ
          · clear kk sr dr sJ eD hA H7
            obtain ⟨y3, rfl, kk, sr, dr, sJ, eD, hA⟩ := h
            have hm2 : m < ys.length := by
              have := (List.getElem?_eq_some_iff.mp hx2).1
              omega
            rw [List.getElem?_map, List.getElem?_eq_getElem hm2] at hx2
            obtain rfl : V.str ys[m] = x := Option.some.inj hx2
            have et2 : ys.take (m + 1) = ys.take m ++ [ys[m]] := by rw [List.take_add_one, List.getElem?_eq_getElem hm2]; rfl
            have my := yp _ (List.getElem_mem hm2)
            have sf := sf_dk eD
            repeat' (walk_at "jv")
            refine i_dPut ?_
            repeat' (walk_at "jv")
            refine ⟨D, _, rfl, .inl ⟨_, Sum.inr ys[m], eD, rfl, by rw [fnK_len, sizeLine_eq]; omega, rfl⟩, ?_⟩
            rw [fnK_put my]
            have kP : Ch D H8 (upd H8 D (.dK (fnK ps fun y => if y = ys[m] then V.ref J else V.ref (if y ∈ ys.take m then J else A y)))) := Ch.upd_self
            have tP := tk_sf (K := K) kP sf
            refine ⟨_, rfl, fun c oc z => ?_, tP _ _ sr, DpAll.tk tP _ _ (roads_only rs) dr, tP _ _ sJ, ?_, fun z hz => tP _ _ (hA z hz)⟩
            · rw [upd_ne (ne_of_none z nDH)]
              exact kk _ _ z
            · rw [upd_same]
              refine congrArg (fun x => some (HO.dK x)) (fnK_congr fun y _ => ?_)
              show (if y = ys[m] then V.ref J else V.ref (if y ∈ ys.take m then J else A y)) = V.ref (if y ∈ ys.take (m + 1) then J else A y)
              rw [et2]
              by_cases e : y = ys[m]
              · rw [if_pos e, if_pos (List.mem_append_right _ (List.mem_singleton.mpr e))]
              · rw [if_neg e]
                by_cases e2 : y ∈ ys.take m
                · rw [if_pos e2, if_pos (List.mem_append_left _ e2)]
                · rw [if_neg e2, if_neg (fun z => (List.mem_append.mp z).elim e2 fun q => e (List.mem_singleton.mp q))]
          · clear kk sr dr sJ eD hA H7
            obtain ⟨y3, rfl, kk, sr, dr, sJ, eD, hA⟩ := h
            rw [hyl2, List.take_length] at eD
            refine ⟨_, _, _, _, fun z => if z ∈ ys then J else A z, fun z => if z ∈ ys then ys else pg z, rfl, kk, sr, dr, eD, fun z hz => ?_, fun z hz => ?_⟩
            · show SqT K H8 (if z ∈ ys then J else A z) ((if z ∈ ys then ys else pg z).map V.str)
              by_cases e : z ∈ ys
              · rw [if_pos e, if_pos e]
                exact sJ
              · rw [if_neg e, if_neg e]
                exact hA z hz
            · show (if z ∈ ys then ys else pg z).Perm _ ∧ sortedS (if z ∈ ys then ys else pg z) = true
              by_cases e : z ∈ ys
              · rw [if_pos e, step_in c (pg2.mem_iff.mp e)]
                exact ⟨pg2, up⟩
              · rw [if_neg e, step_out c (fun m => e (pg2.mem_iff.mpr m))]
                exact hP z hz
        · have c : r.2 ∈ g r.1 := by
            have : r.2 ∈ pg r.1 := by simpa using h1
            exact p1.mem_iff.mp this
          repeat' (walk_at "jv")
          rw [step_old c]
          exact ⟨_, _, _, _, A, pg, rfl, kk, sr, dr, eD, hA, hP⟩
      · clear k2 s3' d3' eD hA A0
        obtain ⟨y3, y5, y6, y7, A, pg, rfl, kk, sr, dr, eD, hA, hP⟩ := h
        rw [hxl, List.take_length] at hP
        have pI : PartI ps (grpL rs) := (web_pcs W).1
        repeat' (walk_at "jv")
        refine i_dkVals ?_
        repeat' (walk_at "jv")
        refine ⟨D, _, rfl, eD, fun p np => ?_⟩
        have kp := Same.upd_new (o := VwO p D) np
        refine i_nil ?_
        refine ⟨p, D, _, rfl, upd_same, kp _ _ eD, fun q2 nq => ?_⟩
        have kq := kp.trans (Same.upd_new (o := .lst ((fnK ps fun z => V.ref (A z)).map fun l => l.2)) nq)
        refine i_nil ?_
        refine ⟨q2, ps.map fun z => (A z, pg z), rfl, sq_lst (by rw [upd_same, fnK_vals, List.map_map]; rfl), fun x hx => ?_, by rw [List.length_map]; omega, fun D3 L nD3 sub all nd3 => ?_⟩
        · obtain ⟨z, hz, rfl⟩ := List.mem_map.mp hx
          exact TK.same kq _ _ (hA z hz)
        · replace kq := kq.trans (Same.upd_new (o := TsO P w D3 L) nD3)
          have sL : ∀ x ∈ L, ∃ z ∈ ps, x = (A z, pg z) := fun x hx => by
            obtain ⟨z, hz, e⟩ := List.mem_map.mp (sub x hx)
            exact ⟨z, hz, e.symm⟩
          refine i_nil ?_
          refine ⟨D3, L, rfl, upd_same, fun x hx => ?_, fun x hx => ?_, fun L1 p3 pm np3 => ?_⟩
          · obtain ⟨z, hz, rfl⟩ := sL x hx
            exact TK.same kq _ _ (hA z hz)
          · obtain ⟨z, hz, rfl⟩ := sL x hx
            have m := (hP z hz).1.mem_iff.mpr (pI.own z hz)
            exact fun e => by rw [show pg z = [] from e] at m; exact List.not_mem_nil m
          · have n3 : H p3 = none := free_same (kk.trans kq) np3
            have pm2 : ((L1.mergeSort (PySem.W.dataLe false fun x => tsD x.2)).map fun x => x.2).Perm (L.map fun x => x.2) := ((List.mergeSort_perm L1 _).trans pm).map _
            replace kq := kq.trans (Same.upd_new (o := .lst ((L1.mergeSort (PySem.W.dataLe false fun x => tsD x.2)).map fun x => V.ref x.1)) np3)
            refine q p3 _ ((L1.mergeSort (PySem.W.dataLe false fun x => tsD x.2)).map fun x => x.2) _ (kk.trans kq) n3 upd_same (dp_refs _ fun x hx => ?_) ⟨fun z hz => ?_, fun k hk => ?_, fun k hk => ?_, pm2.nodup_iff.mpr nd3, sorted_up (fun x : Addr × List Str => x.2) L1⟩
            · obtain ⟨z, hz, rfl⟩ := sL x (pm.mem_iff.mp ((List.mergeSort_perm L1 _).mem_iff.mp hx))
              exact TK.same kq _ _ (hA z hz)
            · exact ⟨pg z, pm2.mem_iff.mpr (all _ (List.mem_map.mpr ⟨z, hz, rfl⟩)), (hP z hz).1⟩
            · obtain ⟨x, hx, rfl⟩ := List.mem_map.mp (pm2.mem_iff.mp hk)
              obtain ⟨z, hz, rfl⟩ := sL x hx
              exact ⟨z, hz, (hP z hz).1⟩
            · obtain ⟨x, hx, rfl⟩ := List.mem_map.mp (pm2.mem_iff.mp hk)
              obtain ⟨z, hz, rfl⟩ := sL x hx
              exact (hP z hz).2
end
end
section
open L2 PySem PySem.Spec PyProof.Rows
abbrev s_by_numbers : Stmt := topS 24
theorem sc_by_numbers : FnScope ["web", "order", "place"] ["web", "order"] (defScope s_by_numbers) := ⟨rfl, rfl, rfl, by decide +kernel, rfl, by decide +kernel, by decide +kernel⟩
abbrev s_from_least : Stmt := topS 27
theorem sc_from_least : FnScope ["ring", "at"] ["ring"] (defScope s_from_least) := ⟨rfl, rfl, rfl, by decide +kernel, rfl, by decide +kernel, by decide +kernel⟩
abbrev s__told_ring : Stmt := topS 32
theorem sc__told_ring : FnScope ["web", "ring", "numbers", "number"] ["web", "ring"] (defScope s__told_ring) := ⟨rfl, rfl, rfl, by decide +kernel, rfl, by decide +kernel, by decide +kernel⟩
def spByNum (K : PySem.W.Frag) : Sp := fun vs H Q _ => ∃ (v : V) (r : Addr) (l ps : List Str) (rs : List (Str × Str)), vs = [v, .ref r] ∧ WF K H v ps rs ∧ SqT K H r (l.map V.str) ∧ (∀ z ∈ l, z ∈ ps) ∧ l.length ≤ 8 ∧
  ∀ p H', Same H H' → FT H' p (natsV (numsR ps l)) → Q (.ref p) H'
def spLeastTN (K : PySem.W.Frag) : Sp := fun vs H Q _ => ∃ (a : Addr) (r : List Nat), vs = [.ref a] ∧ FT H a (natsV r) ∧ r ≠ [] ∧ r.length ≤ 256 ∧ ∀ T H', Same H H' → SqT K H' T (natsV (rotM r)) → Q (.ref T) H'
def spToldR (K : PySem.W.Frag) : Sp := fun vs H Q _ => ∃ (v : V) (r : Addr) (l ps : List Str) (rs : List (Str × Str)), vs = [v, .ref r] ∧ WF K H v ps rs ∧ SqT K H r (l.map V.str) ∧ (∀ z ∈ l, z ∈ ps) ∧ 2 ≤ l.length ∧ l.length ≤ 8 ∧
  ∀ T H', Same H H' → FT H' T ((tellR ps l).map V.str) → Q (.ref T) H'
theorem rotM_mem {r : List Nat} {x : Nat} : x ∈ rotM r ↔ x ∈ r := by
  unfold rotM
  rw [List.mem_append, or_comm, ← List.mem_append, List.take_append_drop]
theorem at_neg {α : Type} {xs : List α} {x : α} (h : xs[xs.length - 1]? = some x) : atI xs (-1) = some x := by
  obtain ⟨h1, h2⟩ := List.getElem?_eq_some_iff.mp h
  unfold atI ixN
  rw [if_neg (by decide), if_pos (by omega)]
  rw [show ((-1 : Int) + (xs.length : Int)).toNat = xs.length - 1 from by omega]
  exact h
section
variable {base : Heap} {P : Program} {w : World} {K : PySem.W.Frag} {mg : Str → Option Value}
theorem ok_by_numbers (D : Dn K mg "by_numbers" s_by_numbers ["web", "order"]) (B : Bn mg) : Cl P w K mg base 1 "by_numbers" ["web", "order"] (spByNum K) := by
  refine D.cl sc_by_numbers (fun vs H Q E h => ?_) (fun f cdv A outer s H vs Q E hr h => ?_)
  · obtain ⟨v, r, l, ps, rs, rfl, _⟩ := h
    rfl
  · obtain ⟨v, r, l, ps, rs, rfl, hw, sr, sub, h8, q⟩ := h
    obtain ⟨t, tp, tr, rfl, st, fp, dr⟩ := hw
    refine ⟨_, (pss_one (ps_ret (pe_callTy (k_tupleF (K := K)) rfl B.tuple_ (by decide +kernel) (pa_cons (pe_lc (own := [("place", 2)]) rfl sc_by_numbers.nd (kpi_tup (K := K) (pv 1)) (blkOk_by (N := ["web", "order", "place"]) (sc := defScope s_by_numbers) (by decide +kernel)) (fun _ _ _ _ _ => (pg_name (i := 2) sc_by_numbers.nd rfl (by first | exact Or.inl rfl | exact Or.inr rfl))) (fun _ _ _ _ _ => pts_nil) (fun _ _ _ _ _ => (pe_bmF PySem.F.plainAttrs_tuple PySem.F.slot_tuple_index PySem.F.type_tuple_index (k_tindex (K := K)) (pe_ix (k_ixT (K := K)) (pv 0) pe_int (fun _ _ => rfl)) (pa_cons (pv 2) pa_nil)))) pa_nil)))), ?_⟩
    repeat' (walk_at "jv")
    refine c_tup (l.map V.str) (fun D i H' => H D = none ∧ Same H H' ∧ H' D = some (.lst (natsV (numsR ps (l.take i))))) (fun D nD => ⟨nD, Same.upd_new nD, upd_same⟩) (fun D i H' _ h => TK.same (K := K) h.2.1 _ _ sr) (fun D i x H' hx h => ?_) (fun D H' h => ?_)
    · obtain ⟨nD, kD, eD⟩ := h
      rw [List.getElem?_map] at hx
      obtain ⟨z, hz, rfl⟩ := Option.map_eq_some_iff.mp hx
      have hi : i < l.length := (List.getElem?_eq_some_iff.mp hz).1
      have st' := TK.same (K := K) kD _ _ st
      have fp' := fp.same kD
      repeat' (walk_at "jv")
      refine i_bmF ?_
      repeat' (walk_at "jv")
      refine ⟨⟨tp, _, rfl, fp'⟩, ?_⟩
      repeat' (walk_at "jv")
      refine i_tix fp'.sq (sub _ (List.mem_of_getElem? hz)) ?_
      refine i_lcE eD (by rw [sizeLine_eq]; show ((numsR ps (l.take i)).map _).length < _; rw [List.length_map, nums_len, List.length_take]; omega) ⟨nD, fun c oc y => (upd_ne (ne_of_none y nD)).trans (kD _ _ y), ?_⟩
      have e1 : l.take (i + 1) = l.take i ++ [z] := take_push hz
      rw [e1]
      unfold numsR natsV
      rw [List.map_append, List.map_append]
      exact upd_same
    · obtain ⟨nD, kD, eD⟩ := h
      rw [List.length_map, List.take_length] at eD
      repeat' (walk_at "jv")
      refine ⟨_, _, rfl, sq_lst eD, fun T ob nT ho => ?_⟩
      exact q T _ (kD.trans (Same.upd_new nT)) (FT.new ho)
theorem ok_from_leastTN (D : Dn K mg "from_least" s_from_least ["ring"]) (B : Bn mg) : Cl P w K mg base 1 "from_least" ["ring"] (spLeastTN K) := by
  refine D.cl sc_from_least (fun vs H Q E h => ?_) (fun f cdv A outer s H vs Q E hr h => ?_)
  · obtain ⟨a, r, rfl, _⟩ := h
    rfl
  · obtain ⟨a, r, rfl, fa, ne, hl, q⟩ := h
    have sa := fa.sq (K := K)
    have hnl : (natsV r).length = r.length := List.length_map ..
    refine ⟨_, (pss_cons (ps_set (i := 1) sc_from_least.nd rfl (by first | exact Or.inl rfl | exact Or.inr rfl) (pe_bmF PySem.F.plainAttrs_tuple PySem.F.slot_tuple_index PySem.F.type_tuple_index (k_tindexN (K := K) (hu65 hr)) (pv 0) (pa_cons (pe_callB (k_minTN (K := K) rfl hr.units) rfl B.min_ (by decide +kernel) (pa_cons (pv 0) pa_nil)) pa_nil)))
      (pss_one (ps_ret (pe_op (k_catA (K := K)) (pe_slice (ksl_tup (K := K)) (pv 0) (po_some (pv 1)) po_none) (pe_slice (ksl_tup (K := K)) (pv 0) po_none (po_some (pv 1))))))), ?_⟩
    repeat' (walk_at "jv")
    refine i_bmF ?_
    repeat' (walk_at "jv")
    refine ⟨⟨a, _, rfl, fa⟩, ?_⟩
    repeat' (walk_at "jv")
    refine i_minTN sa ne ?_
    repeat' (walk_at "jv")
    refine i_tixN sa (lstN_is ne).1 ?_
    repeat' (walk_at "jv")
    refine i_slG sa fun A1 H1 k1 s1 => ?_
    rw [cut_from] at s1
    first | replace sa := HF.same sa k1 | replace sa := WF.same sa k1 | replace sa := FT.same sa k1 | replace sa := Fd.same sa k1 | replace sa := LsD.same sa k1 | replace sa := TK.same k1 _ _ sa | replace sa := KeysT.tk sa (TK.same k1) | replace sa := KeysU.tk sa (TK.same k1) | replace sa := KeysN.tk sa (TK.same k1) | replace sa := DayV.tk sa (TK.same k1) | replace sa := Dp.same k1 _ _ sa | replace sa := DpAll.same k1 _ _ sa | replace sa := k1 _ _ sa | replace sa := Ch.trans sa (Ch.of_same k1) | replace sa := Same.trans sa k1 | replace sa := stepsAt.same sa k1 | replace sa := DpT.same sa k1 | replace sa := LOr.same sa k1 | replace sa := Ob.same sa k1 | replace sa := Gds.same sa k1 | replace sa := Gd2.same sa k1 | replace sa := Ob2.same sa k1 | replace sa := NE.same sa k1 | replace sa := NT.same sa k1 | replace sa := NEs.same sa k1 | replace sa := NX.same sa k1 | replace sa := EMs.same sa k1 | replace sa := EOs.same sa k1 | replace sa := EO.same sa k1 | replace sa := GT.same sa k1 | replace sa := GTs.same sa k1 | replace sa := RB.same sa k1 | replace sa := RBs.same sa k1 | replace sa := RB2s.same sa k1 | replace sa := GR.same sa k1 | replace sa := GRs.same sa k1 | replace sa := NO.same sa k1 | replace sa := NOs.same sa k1 | replace sa := NZ.same sa k1 | replace sa := NB.same sa k1 | replace sa := NBs.same sa k1 | replace sa := NQ.same sa k1 | replace sa := NQs.same sa k1 | replace sa := NX'.same sa k1
    repeat' (walk_at "jv")
    refine i_slG sa fun A2 H2 k2 s2 => ?_
    rw [cut_take] at s2
    first | replace s1 := HF.same s1 k2 | replace s1 := WF.same s1 k2 | replace s1 := FT.same s1 k2 | replace s1 := Fd.same s1 k2 | replace s1 := LsD.same s1 k2 | replace s1 := TK.same k2 _ _ s1 | replace s1 := KeysT.tk s1 (TK.same k2) | replace s1 := KeysU.tk s1 (TK.same k2) | replace s1 := KeysN.tk s1 (TK.same k2) | replace s1 := DayV.tk s1 (TK.same k2) | replace s1 := Dp.same k2 _ _ s1 | replace s1 := DpAll.same k2 _ _ s1 | replace s1 := k2 _ _ s1 | replace s1 := Ch.trans s1 (Ch.of_same k2) | replace s1 := Same.trans s1 k2 | replace s1 := stepsAt.same s1 k2 | replace s1 := DpT.same s1 k2 | replace s1 := LOr.same s1 k2 | replace s1 := Ob.same s1 k2 | replace s1 := Gds.same s1 k2 | replace s1 := Gd2.same s1 k2 | replace s1 := Ob2.same s1 k2 | replace s1 := NE.same s1 k2 | replace s1 := NT.same s1 k2 | replace s1 := NEs.same s1 k2 | replace s1 := NX.same s1 k2 | replace s1 := EMs.same s1 k2 | replace s1 := EOs.same s1 k2 | replace s1 := EO.same s1 k2 | replace s1 := GT.same s1 k2 | replace s1 := GTs.same s1 k2 | replace s1 := RB.same s1 k2 | replace s1 := RBs.same s1 k2 | replace s1 := RB2s.same s1 k2 | replace s1 := GR.same s1 k2 | replace s1 := GRs.same s1 k2 | replace s1 := NO.same s1 k2 | replace s1 := NOs.same s1 k2 | replace s1 := NZ.same s1 k2 | replace s1 := NB.same s1 k2 | replace s1 := NBs.same s1 k2 | replace s1 := NQ.same s1 k2 | replace s1 := NQs.same s1 k2 | replace s1 := NX'.same s1 k2
    repeat' (walk_at "jv")
    refine i_catG s1 s2 (by rw [List.length_drop, List.length_take, sizeLine_eq]; omega) fun T H3 k3 s3 => ?_
    refine q T H3 ((k1.trans k2).trans k3) ?_
    unfold rotM natsV
    rw [List.map_append, List.map_drop, List.map_take]
    exact s3
theorem ok_told_ring (D : Dn K mg "_told_ring" s__told_ring ["web", "ring"]) (B : Bn mg) (C_from_least : Cl P w K mg base 1 "from_least" ["ring"] (spLeastTN K)) (C_by_numbers : Cl P w K mg base 1 "by_numbers" ["web", "order"] (spByNum K)) : Cl P w K mg base 2 "_told_ring" ["web", "ring"] (spToldR K) := by
  refine D.cl sc__told_ring (fun vs H Q E h => ?_) (fun f cdv A outer s H vs Q E hr h => ?_)
  · obtain ⟨v, r, l, ps, rs, rfl, _⟩ := h
    rfl
  · obtain ⟨v, r, l, ps, rs, rfl, hw, sr, sub, h2, h8, q⟩ := h
    have hnl := nums_len ps l
    refine ⟨_, (pss_cons (ps_set (i := 2) sc__told_ring.nd rfl (by first | exact Or.inl rfl | exact Or.inr rfl) (pe_c C_from_least hr (pa_cons (pe_c C_by_numbers hr (pa_cons (pv 0) (pa_cons (pv 1) pa_nil))) pa_nil)))
      (pss_cons (ps_if (pt_cmpR op_lt (pe_ix (k_ixT (K := K)) (pv 2) (pe_un un_neg pe_int) (fun _ _ => rfl)) (pe_ix (k_ixT (K := K)) (pv 2) pe_int (fun _ _ => rfl)) (nomark _)) (pss_one (ps_set (i := 2) sc__told_ring.nd rfl (by first | exact Or.inl rfl | exact Or.inr rfl) (pe_op (k_catA (K := K)) (pe_slice (ksl_tup (K := K)) (pv 2) po_none (po_some pe_int)) (pe_tailT (K := K) (pv 2))))) pss_nil)
      (pss_one (ps_ret (pe_callTy (k_tupleF (K := K)) rfl B.tuple_ (by decide +kernel) (pa_cons (pe_lc (own := [("number", 3)]) rfl sc__told_ring.nd (kpi_tup (K := K) (pv 2)) (blkOk_by (N := ["web", "ring", "numbers", "number"]) (sc := defScope s__told_ring) (by decide +kernel)) (fun _ _ _ _ _ => (pg_name (i := 3) sc__told_ring.nd rfl (by first | exact Or.inl rfl | exact Or.inr rfl))) (fun _ _ _ _ _ => pts_nil) (fun _ _ _ _ _ => (pe_ix (k_ixT (K := K)) (pe_ix (k_ixT (K := K)) (pv 0) pe_int (fun _ _ => rfl)) (pv 3) (fun _ _ => rfl)))) pa_nil)))))), ?_⟩
    repeat' (walk_at "jv")
    refine ⟨v, r, l, ps, rs, rfl, hw, sr, sub, h8, fun p H1 k1 fp => ?_⟩
    repeat' (walk_at "jv")
    refine ⟨p, numsR ps l, rfl, fp, fun e => (by rw [e] at hnl; have : (0 : Nat) = l.length := hnl; omega), by omega, fun T H2 k2 sT => ?_⟩
    replace hw := hw.same (k1.trans k2)
    have k12 := k1.trans k2
    clear fp k1 k2 sr
    have ml : (rotM (numsR ps l)).length = l.length := by rw [rotM_len, hnl]
    have mlt : ∀ x ∈ rotM (numsR ps l), x < ps.length := fun x hx => nums_lt sub x (rotM_mem.mp hx)
    have hq : ∀ T H', Same H H' → FT H' T ((backR ps (tellN (rotM (numsR ps l)))).map V.str) → Q (.ref T) H' := q
    generalize rotM (numsR ps l) = m at *
    have gm : ∀ i, i < m.length → atI (natsV m) (i : Int) = some (.int (m.getD i 0 : Nat)) := fun i hi => by
      refine atI_nat (j := i) ?_
      unfold natsV
      rw [List.getElem?_map, List.getD_eq_getElem?_getD, List.getElem?_eq_getElem hi]
      rfl
    have gneg : atI (natsV m) (-1) = some (.int (m.getD (m.length - 1) 0 : Nat)) := by
      refine at_neg ?_
      unfold natsV
      rw [List.length_map, List.getElem?_map, List.getD_eq_getElem?_getD, List.getElem?_eq_getElem (by omega)]
      rfl
    obtain ⟨t, tp, tr, rfl, st, ft, dr⟩ := hw
    have g1 : atI (natsV m) 1 = some (.int (m.getD 1 0 : Nat)) := gm 1 (by omega)
    refine i_gname ?_
    refine i_seq ?_
    refine i_cutS (fun σ' H' => ∃ T, σ' = [some (.ref t), some (.ref r), some (.ref T), none] ∧ Same H2 H' ∧ SqT K H' T (natsV (tellN m))) (fun N hN => ?_) (fun σ' H' h => ?_)
    · have et : tellN m = if m.getD (m.length - 1) 0 < m.getD 1 0 then m.take 1 ++ (m.drop 1).reverse else m := rfl
      repeat' (walk_at "jv")
      · rename_i c
        rw [if_pos (Int.ofNat_lt.mp c)] at et
        refine i_slG sT fun A1 H3 k3 s1 => ?_
        rw [show cutV (natsV m) none (some 1) = (natsV m).take 1 from cut_take (k := 1)] at s1
        have sT3 := TK.same (K := K) k3 _ _ sT
        repeat' (walk_at "jv")
        refine i_tailT ?_
        repeat' (walk_at "jv")
        refine ⟨T, _, rfl, sT3, by show 1 ≤ (natsV m).length; rw [show (natsV m).length = m.length from List.length_map ..]; omega, fun T4 ob n4 o4 => ?_⟩
        have k4 := Same.upd_new (o := .frz ob (.tup ((natsV m).drop 1).reverse)) n4
        have s4 := (FT.new (H := H3) (p := T4) (xs := ((natsV m).drop 1).reverse) o4).sq (K := K)
        replace s1 := TK.same (K := K) k4 _ _ s1
        have hnm : (natsV m).length = m.length := List.length_map ..
        repeat' (walk_at "jv")
        refine i_catG s1 s4 (by rw [List.length_take, List.length_reverse, List.length_drop, sizeLine_eq]; omega) fun T5 H5 k5 s5 => ?_
        repeat' (walk_at "jv")
        refine hN _ _ ⟨T5, rfl, (k3.trans k4).trans k5, ?_⟩
        rw [et]
        unfold natsV at s5 ⊢
        rw [List.map_append, List.map_reverse, List.map_take, List.map_drop]
        exact s5
      · rename_i c
        rw [if_neg (fun h => c (Int.ofNat_lt.mpr h))] at et
        refine hN _ _ ⟨T, rfl, fun _ _ z => z, ?_⟩
        rw [et]
        exact sT
    · obtain ⟨T9, rfl, k9, s9⟩ := h
      have tl : ∀ x ∈ tellN m, x < ps.length := fun x hx => by
        unfold tellN at hx
        split at hx
        · rcases List.mem_append.mp hx with hx | hx
          · exact mlt x (List.mem_of_mem_take hx)
          · exact mlt x (List.mem_of_mem_drop (List.mem_reverse.mp hx))
        · exact mlt x hx
      have tn : (tellN m).length ≤ 8 := by
        unfold tellN
        split
        · rw [List.length_append, List.length_reverse, List.length_take, List.length_drop]
          omega
        · omega
      generalize tellN m = u at *
      replace st := TK.same (K := K) k9 _ _ st
      replace ft := ft.same k9
      repeat' (walk_at "jv")
      refine c_tup (natsV u) (fun D i H6 => H' D = none ∧ Same H' H6 ∧ H6 D = some (.lst ((backR ps (u.take i)).map V.str))) (fun D nD => ⟨nD, Same.upd_new nD, upd_same⟩) (fun D i H6 _ h => TK.same (K := K) h.2.1 _ _ s9) (fun D i x H6 hx h => ?_) (fun D H6 h => ?_)
      · obtain ⟨nD, kD, eD⟩ := h
        unfold natsV at hx
        rw [List.getElem?_map] at hx
        obtain ⟨n, hn, rfl⟩ := Option.map_eq_some_iff.mp hx
        have hi : i < u.length := (List.getElem?_eq_some_iff.mp hn).1
        have hnp := tl n (List.mem_of_getElem? hn)
        have st' := TK.same (K := K) kD _ _ st
        have ft' := ft.same kD
        repeat' (walk_at "jv")
        refine i_ixT (v := .str (ps.getD n "")) ft'.sq (atI_nat (j := n) ?_) ?_
        · rw [List.getElem?_map, List.getD_eq_getElem?_getD, List.getElem?_eq_getElem hnp]
          rfl
        refine i_lcE eD (by rw [sizeLine_eq]; unfold backR; rw [List.length_map, List.length_map, List.length_take]; omega) ⟨nD, fun c oc y => (upd_ne (ne_of_none y nD)).trans (kD _ _ y), ?_⟩
        have e1 : u.take (i + 1) = u.take i ++ [n] := take_push hn
        rw [e1]
        unfold backR
        rw [List.map_append, List.map_append]
        exact upd_same
      · obtain ⟨nD, kD, eD⟩ := h
        rw [show (natsV u).length = u.length from List.length_map .., List.take_length] at eD
        repeat' (walk_at "jv")
        refine ⟨_, _, rfl, sq_lst eD, fun T ob nT ho => ?_⟩
        exact hq T _ (k12.trans ((k9.trans kD).trans (Same.upd_new nT))) (FT.new ho)
end
end
section
open L2 PySem PySem.Spec PyProof.Rows
abbrev s__way : Stmt := topS 31
theorem sc__way : FnScope ["web", "start", "end", "ways", "at", "way", "place"] ["web", "start", "end"] (defScope s__way) := ⟨rfl, rfl, rfl, by decide +kernel, rfl, by decide +kernel, by decide +kernel⟩
def spWay (K : PySem.W.Frag) : Sp := fun vs H Q _ => ∃ (v : V) (x y : Str) (ps : List Str) (ks : List (Str × Str)), vs = [v, .str x, .str y] ∧ Dp K H v (webD ps ks) ∧ IsWeb ps ks ∧ opensL ks grp0 = true ∧ x ∈ ps ∧
  (∀ T l H', SWay ks x y l → Same H H' → SqT K H' T (l.map V.str) → Q (.ref T) H') ∧ ((∀ l, ¬ SWay ks x y l) → ∀ H', Same H H' → Q .non H')
theorem str_vals {K : PySem.W.Frag} {H : Hp} : ∀ {xs : List V} {l : List Str}, DpAll K H xs (l.map PyData.str) → xs = l.map V.str
  | [], [], _ => rfl
  | [], _ :: _, h => by cases h
  | _ :: _, [], h => by cases h
  | x :: xs, z :: l, h => by
    cases h with
    | cons h1 h2 =>
      cases h1
      rw [str_vals h2]
      rfl
theorem ts_ref {K : PySem.W.Frag} {H : Hp} {v : V} {l : List Str} (h : Dp K H v (tsD l)) : ∃ b, v = .ref b ∧ SqT K H b (l.map V.str) := by
  obtain ⟨b, xs, rfl, s, d⟩ := tup_parts h
  exact ⟨b, rfl, str_vals d ▸ s⟩
theorem tss_only : ∀ f : List (List Str), tupOnlyAll (f.map tsD) = true
  | [] => rfl
  | t :: f => by
    show (tupOnly (tsD t) && tupOnlyAll (f.map tsD)) = true
    rw [tsD_only, tss_only f]
    rfl
theorem near_road {ps : List Str} {ks : List (Str × Str)} (W : IsWeb ps ks) (y p : Str) : p ∈ nearL ps ks y ↔ isRoad ks y p = true := by
  unfold nearL
  rw [List.mem_filter]
  exact ⟨fun h => h.2, fun h => ⟨(road_inS W h).2, h⟩⟩
theorem near_nodup {ps : List Str} {ks : List (Str × Str)} (W : IsWeb ps ks) (y : Str) : (nearL ps ks y).Nodup := W.names.1.filter _
theorem extW_eq {nb : Str → List Str} {w : List Str} {y : Str} (h : w.getLast? = some y) : extW nb w = ((nb y).filter fun p => decide (p ∉ w)).map fun p => w ++ [p] := by
  unfold extW
  rw [h]
  rfl
section
variable {base : Heap} {P : Program} {w : World} {K : PySem.W.Frag} {mg : Str → Option Value}
theorem ok_way (D : Dn K mg "_way" s__way ["web", "start", "end"]) (B : Bn mg) (C_near_of : Cl P w K mg base 2 "near_of" ["web", "place"] (spNearOfF K)) : Cl P w K mg base 3 "_way" ["web", "start", "end"] (spWay K) := by
  refine D.cl sc__way (fun vs H Q E h => ?_) (fun f cdv A outer s H vs Q E hr h => ?_)
  · obtain ⟨v, x, y, ps, ks, rfl, _⟩ := h
    rfl
  · obtain ⟨v, x, y, ps, ks, rfl, hd, W, op, hx, q1, q2⟩ := h
    have l8 := W.le8
    have hn1 : ∀ y, ∀ p ∈ nearL ps ks y, isRoad ks y p = true := fun y p hp => (near_road W y p).mp hp
    have hn2 : ∀ y p, isRoad ks y p = true → p ∈ nearL ps ks y := fun y p hp => (near_road W y p).mpr hp
    refine ⟨_, (pss_cons (ps_set (i := 3) sc__way.nd rfl (by first | exact Or.inl rfl | exact Or.inr rfl) (pe_lst (pa_cons (pe_tup (pa_cons (pv 1) pa_nil)) pa_nil)))
      (pss_cons (ps_set (i := 4) sc__way.nd rfl (by first | exact Or.inl rfl | exact Or.inr rfl) pe_int)
      (pss_cons (ps_while PassesOwn.never (pt_cmpR op_lt (pv 4) (pe_callB (k_len (K := K)) rfl B.len_ (by decide +kernel) (pa_cons (pv 3) pa_nil)) (nomark _)) (pss_cons (ps_set (i := 5) sc__way.nd rfl (by first | exact Or.inl rfl | exact Or.inr rfl) (pe_ix (k_ixL (K := K)) (pv 3) (pv 4) (fun _ _ => rfl)))
      (pss_cons (ps_if (pt_cmpR op_eq (pe_ix (k_ixT (K := K)) (pv 5) (pe_un un_neg pe_int) (fun _ _ => rfl)) (pv 2) (nomark _)) (pss_one (ps_ret (pv 5))) pss_nil)
      (pss_cons (ps_expr (pe_bm PySem.F.plainAttrs_list PySem.F.slot_list_extend PySem.F.type_list_extend mt_extend (pv 3) (pa_cons (pe_lc (own := [("place", 6)]) rfl sc__way.nd (kpi_tup (K := K) (pe_c C_near_of hr (pa_cons (pv 0) (pa_cons (pe_ix (k_ixT (K := K)) (pv 5) (pe_un un_neg pe_int) (fun _ _ => rfl)) pa_nil)))) (blkOk_by (N := ["web", "start", "end", "ways", "at", "way", "place"]) (sc := defScope s__way) (by decide +kernel)) (fun _ _ _ _ _ => (pg_name (i := 6) sc__way.nd rfl (by first | exact Or.inl rfl | exact Or.inr rfl))) (fun _ _ _ _ _ => pts_one (pt_cmpR (k_notInS (K := K)) (pv 6) (pv 5) (by rfl))) (fun _ _ _ _ _ => (pe_op (k_catA (K := K)) (pv 5) (pe_tup (pa_cons (pv 6) pa_nil))))) pa_nil)))
      (pss_one (ps_aug (i := 4) sc__way.nd rfl (by first | exact Or.inl rfl | exact Or.inr rfl) pe_int ip_add))))))
      (pss_one (ps_ret pe_non))))), ?_⟩
    repeat' (walk_at "jv")
    intro T nT
    have kT := Same.upd_new (o := .tup [.str x]) nT
    have sT : SqT K (upd H T (.tup [.str x])) T (([x] : List Str).map V.str) := sq_tup upd_same
    generalize upd H T (.tup [.str x]) = H1 at *
    repeat' (walk_at "jv")
    intro L nL
    have nLH : H L = none := free_same kT nL
    have kL := Same.upd_new (o := .lst [.ref T]) nL
    have sL : LsD K (upd H1 L (.lst [.ref T])) L (([[x]] : List (List Str)).map tsD) := ⟨_, upd_same, .cons (ts_dp (TK.same (K := K) kL _ _ sT)) .nil, by show (tupOnly (tsD [x]) && true) = true; rw [tsD_only]; rfl⟩
    replace kT := kT.trans kL
    generalize upd H1 L (.lst [.ref T]) = H2 at *
    clear sT kL
    repeat' (walk_at "jv")
    refine f_while ps.length (fun i σ H' => ∃ dn qu y5 y6, dn.length = i ∧ WInv ps ks (nearL ps ks) x y dn qu ∧ σ = [some v, some (.str x), some (.str y), some (.ref L), some (.int (i : Nat)), y5, y6] ∧ Same H H' ∧ LsD K H' L ((dn ++ qu).map tsD)) ⟨[], [[x]], _, _, rfl, winv_init, rfl, kT, sL⟩ (fun i σ H' hi h => ?_)
    obtain ⟨dn, qu, y5, y6, rfl, I, rfl, kk, lL⟩ := h
    have hlen := winv_len W op hx I
    obtain ⟨us, eL, dL, tL⟩ := id lL
    have hul : us.length = (dn ++ qu).length := by rw [DpAll.len dL, List.length_map]
    repeat' (walk_at "jv")
    · rename_i c
      have c : dn.length < us.length := Int.ofNat_lt.mp c
      rw [hul, List.length_append] at c
      cases qu with
      | nil => exact absurd c (by show ¬ dn.length < dn.length + 0; omega)
      | cons wy qu =>
        rw [List.length_append, List.length_cons] at hlen
        refine w_turn (by omega) ?_
        obtain ⟨d, hd1, hd2⟩ := DpAll.get dL (List.getElem?_eq_getElem (i := dn.length) (by rw [hul, List.length_append, List.length_cons]; omega))
        rw [List.getElem?_map, List.getElem?_append_right (Nat.le_refl _), Nat.sub_self] at hd1
        obtain rfl : tsD wy = d := Option.some.inj hd1
        obtain ⟨b, eb, sb⟩ := ts_ref hd2
        obtain ⟨z, sw⟩ := I.sw wy (List.mem_append_right _ List.mem_cons_self)
        have wl : wy.length ≤ ps.length := sub_len sw.nd fun p hp => by
          have hh := sw.hd
          have ww := sw.way
          cases wy with
          | nil => cases hp
          | cons a wy =>
            obtain rfl : a = x := Option.some.inj hh
            exact (conn_in W (way_conn _ _ ww p hp)).mp hx
        have zin : z ∈ ps := (conn_in W sw.conn).mp hx
        have glast : atI (wy.map V.str) (-1) = some (.str z) := at_neg (by
          rw [List.length_map, List.getElem?_map]
          have := sw.lt
          rw [List.getLast?_eq_getElem?] at this
          rw [this]
          rfl)
        repeat' (walk_at "jv")
        refine i_ixL (sq_lst eL) (atI_nat (j := dn.length) (List.getElem?_eq_getElem (by rw [hul, List.length_append, List.length_cons]; omega))) ?_
        rw [eb]
        repeat' (walk_at "jv")
        · rename_i c2
          subst c2
          exact q1 b wy H' sw kk sb
        · rename_i c2
          have c2 : z ≠ y := c2
          have I2 := winv_step hn1 (near_nodup W) I (by rw [sw.lt]; exact fun e => c2 (Option.some.inj e))
          have hlen2 := winv_len W op hx I2
          refine ⟨v, z, ps, ks, rfl, Dp.same kk _ _ hd, W, zin, fun p H3 k3 f3 => ?_⟩
          have nlen : (nearL ps ks z).length ≤ 8 := Nat.le_trans (List.length_filter_le _ _) l8
          have eL3 := k3 _ _ eL
          have sb3 := TK.same (K := K) k3 _ _ sb
          repeat' (walk_at "jv")
          refine i_itK f3.sq ?_
          refine c_tup ((nearL ps ks z).map V.str) (fun D i H' => H3 D = none ∧ Same H3 H' ∧ LsD K H' D (((((nearL ps ks z).take i).filter fun p => decide (p ∉ wy)).map fun p => wy ++ [p]).map tsD)) (fun D nD => ⟨nD, Same.upd_new nD, LsD.nil upd_same⟩) (fun D i H' _ h => TK.same (K := K) h.2.1 _ _ f3.sq) (fun D i g H4 hg h => ?_) (fun D H4 h => ?_)
          · obtain ⟨nD, kD, lD⟩ := h
            rw [List.getElem?_map] at hg
            obtain ⟨pl, hpl, rfl⟩ := Option.map_eq_some_iff.mp hg
            have hi : i < (nearL ps ks z).length := (List.getElem?_eq_some_iff.mp hpl).1
            have e1 : (nearL ps ks z).take (i + 1) = (nearL ps ks z).take i ++ [pl] := take_push hpl
            have sb4 := TK.same (K := K) kD _ _ sb3
            obtain ⟨us2, eU, dU, tU⟩ := id lD
            have hul2 : us2.length ≤ 8 := by
              have h1 := DpAll.len dU
              have h2 := List.length_filter_le (fun p => decide (p ∉ wy)) ((nearL ps ks z).take i)
              rw [List.length_map, List.length_map] at h1
              rw [List.length_take] at h2
              omega
            rw [e1, List.filter_append]
            repeat' (walk_at "jv")
            refine i_notInS (SqA.t sb4) ?_
            repeat' (walk_at "jv")
            · rename_i cn
              intro T4 n4
              have k4 := Same.upd_new (o := .tup [.str pl]) n4
              have s4 : SqT K (upd H4 T4 (.tup [.str pl])) T4 ([.str pl]) := sq_tup upd_same
              replace sb4 := TK.same (K := K) k4 _ _ sb4
              generalize upd H4 T4 (.tup [.str pl]) = H5 at *
              repeat' (walk_at "jv")
              refine i_catG sb4 s4 (by rw [List.length_map, sizeLine_eq]; show wy.length + 1 ≤ _; omega) fun T6 H6 k6 s6 => ?_
              have lD6 := lD.same (k4.trans k6)
              obtain ⟨us3, eU3, dU3, tU3⟩ := id lD6
              have hul3 : us3.length ≤ 8 := by
                have h1 := DpAll.len dU3
                have h2 := List.length_filter_le (fun p => decide (p ∉ wy)) ((nearL ps ks z).take i)
                rw [List.length_map, List.length_map] at h1
                rw [List.length_take] at h2
                omega
              refine i_lcE eU3 (by rw [sizeLine_eq]; omega) ⟨nD, fun c oc y => (upd_ne (ne_of_none y nD)).trans (k6 _ _ (k4 _ _ (kD _ _ y))), ?_⟩
              rw [show ([pl] : List Str).filter (fun p => decide (p ∉ wy)) = [pl] from by rw [List.filter_cons, if_pos (decide_eq_true cn)]; rfl, List.map_append, List.map_append]
              refine LsD.push eU3 dU3 tU3 (ts_dp (l := wy ++ [pl]) ?_) (tsD_only _)
              rw [List.map_append]
              exact s6
            · rename_i cn
              rw [show ([pl] : List Str).filter (fun p => decide (p ∉ wy)) = [] from by rw [List.filter_cons, if_neg (by rw [decide_eq_true_iff]; exact fun h => h cn)]; rfl, List.append_nil]
              exact ⟨nD, kD, lD⟩
          · obtain ⟨nD, kD, lD⟩ := h
            rw [List.length_map, List.take_length, ← extW_eq sw.lt] at lD
            have eL4 := kD _ _ eL3
            obtain ⟨us2, eU, dU, tU⟩ := lD
            have hul2 : us2.length = (extW (nearL ps ks) wy).length := by
              have h1 := DpAll.len dU
              rw [List.length_map] at h1
              exact h1
            repeat' (walk_at "jv")
            refine i_ext eL4 eU (by rw [sizeLine_eq]; have h3 := hlen2; rw [List.length_append, List.length_append, List.length_append] at h3; rw [hul, List.length_append, List.length_cons, hul2]; rw [List.length_singleton] at h3; omega) ?_
            have kx : Same H (upd H4 L (.lst (us ++ us2))) := fun c oc y => (upd_ne (ne_of_none y nLH)).trans (kD _ _ (k3 _ _ (kk _ _ y)))
            have tk4 := TK.same (K := K) (k3.trans kD)
            have dL4 := DpAll.same (k3.trans kD) _ _ dL
            have tkl : TK K H4 (upd H4 L (.lst (us ++ us2))) := TK.lst eL4
            repeat' (walk_at "jv")
            refine ⟨.int (dn.length : Nat), rfl, ?_⟩
            repeat' (walk_at "jv")
            refine ⟨_, _, rfl, rfl, ?_⟩
            repeat' (walk_at "jv")
            refine ⟨dn ++ [wy], qu ++ extW (nearL ps ks) wy, some (.ref b), y6, by rw [List.length_append, List.length_singleton], I2, ?_, kx, ?_⟩
            · rw [show ((dn.length + 1 : Nat) : Int) = ((dn.length : Nat) : Int) + 1 from by omega]
              rfl
            · have eq : (dn ++ [wy] ++ (qu ++ extW (nearL ps ks) wy)).map tsD = (dn ++ wy :: qu).map tsD ++ (extW (nearL ps ks) wy).map tsD := by
                rw [← List.map_append]
                congr 1
                simp
              rw [eq]
              have tall : tupOnlyAll ((dn ++ wy :: qu).map tsD ++ (extW (nearL ps ks) wy).map tsD) = true := by
                rw [← List.map_append]
                exact tss_only _
              refine ⟨us ++ us2, upd_same, ?_, tall⟩
              exact DpAll.tk tkl _ _ tall (DpAll.app dL4 dU)
    · rename_i c
      have c : ¬ dn.length < us.length := fun h => c (Int.ofNat_lt.mpr h)
      rw [hul, List.length_append] at c
      cases qu with
      | cons wy qu => exact absurd c (by rw [List.length_cons]; omega)
      | nil =>
        repeat' (walk_at "jv")
        exact q2 (winv_none hn2 I) H' kk
end
end
section
open L2 PySem PySem.Spec PyProof.Rows
abbrev s__told_rings : Stmt := topS 30
theorem sc__told_rings : FnScope ["web", "told", "kept", "road", "way"] ["web"] (defScope s__told_rings) := ⟨rfl, rfl, rfl, by decide +kernel, rfl, by decide +kernel, by decide +kernel⟩
abbrev s_ring_counts : Stmt := topS 33
theorem sc_ring_counts : FnScope ["web", "order", "ring"] ["web", "order"] (defScope s_ring_counts) := ⟨rfl, rfl, rfl, by decide +kernel, rfl, by decide +kernel, by decide +kernel⟩
def spToldRings (K : PySem.W.Frag) : Sp := fun vs H Q _ => ∃ (v : V) (ps : List Str) (rs : List (Str × Str)), vs = [v] ∧ WF K H v ps rs ∧ IsWeb ps rs ∧ ∀ D H', H D = none → Same H H' → LsD K H' D ((ringsT ps rs).map tsD) → Q (.ref D) H'
def spCounts (K : PySem.W.Frag) : Sp := fun vs H Q _ => ∃ (v : V) (o : Addr) (ps qs : List Str) (rs : List (Str × Str)), vs = [v, .ref o] ∧ WF K H v ps rs ∧ IsWeb ps rs ∧ FT H o (qs.map V.str) ∧ qs.Perm ps ∧ ∀ D H', H D = none → Same H H' → LsD K H' D ((cntsR ps rs qs).map rcD) → Q (.ref D) H'
theorem rings_snoc (ps : List Str) (rs : List (Str × Str)) (r : Str × Str) : ringsT ps (rs ++ [r]) = ringsT ps rs ++ (if r.2 ∈ grpL (keptL rs) r.1 then [tellR ps (wayF ps (keptL rs, r))] else []) := by
  unfold ringsT
  rw [toldL_snoc, List.map_append]
  split <;> rfl
section
variable {base : Heap} {P : Program} {w : World} {K : PySem.W.Frag} {mg : Str → Option Value}
theorem ok_told_rings (D : Dn K mg "_told_rings" s__told_rings ["web"]) (B : Bn mg) (C__way : Cl P w K mg base 3 "_way" ["web", "start", "end"] (spWay K)) (C__told_ring : Cl P w K mg base 2 "_told_ring" ["web", "ring"] (spToldR K)) : Cl P w K mg base 4 "_told_rings" ["web"] (spToldRings K) := by
  refine D.cl sc__told_rings (fun vs H Q E h => ?_) (fun f cdv A outer s H vs Q E hr h => ?_)
  · obtain ⟨v, ps, rs, rfl, _⟩ := h
    rfl
  · obtain ⟨v, ps, rs, rfl, hw, W, q⟩ := h
    have l14 := W.le14
    obtain ⟨t, tp, tr, rfl, st, ft, dr⟩ := hw
    obtain ⟨tr', xs, e, sr, dx⟩ := tup_parts dr
    obtain rfl : tr = tr' := by injection e
    have hxl : xs.length = rs.length := by rw [DpAll.len dx, List.length_map]
    refine ⟨_, (pss_cons (ps_set (i := 1) sc__told_rings.nd rfl (by first | exact Or.inl rfl | exact Or.inr rfl) (pe_lst pa_nil))
      (pss_cons (ps_set (i := 2) sc__told_rings.nd rfl (by first | exact Or.inl rfl | exact Or.inr rfl) (pe_tup pa_nil))
      (pss_cons (ps_for PassesOwn.never rfl (kpi_tup (K := K) (pe_ix (k_ixT (K := K)) (pv 0) pe_int (fun _ _ => rfl))) (pg_name (i := 3) sc__told_rings.nd rfl (by first | exact Or.inl rfl | exact Or.inr rfl)) (pss_cons (ps_set (i := 4) sc__told_rings.nd rfl (by first | exact Or.inl rfl | exact Or.inr rfl) (pe_c C__way hr (pa_cons (pe_tup (pa_cons (pe_ix (k_ixT (K := K)) (pv 0) pe_int (fun _ _ => rfl)) (pa_cons (pv 2) pa_nil))) (pa_cons (pe_ix (k_ixT (K := K)) (pv 3) pe_int (fun _ _ => rfl)) (pa_cons (pe_ix (k_ixT (K := K)) (pv 3) pe_int (fun _ _ => rfl)) pa_nil)))))
      (pss_one (ps_if (pt_cmpR op_isN (pv 4) pe_non (nomark _)) (pss_one (ps_set (i := 2) sc__told_rings.nd rfl (by first | exact Or.inl rfl | exact Or.inr rfl) (pe_op (k_catA (K := K)) (pv 2) (pe_tup (pa_cons (pv 3) pa_nil))))) (pss_one (ps_expr (pe_bm PySem.F.plainAttrs_list PySem.F.slot_list_append PySem.F.type_list_append mt_append (pv 1) (pa_cons (pe_c C__told_ring hr (pa_cons (pv 0) (pa_cons (pv 4) pa_nil))) pa_nil))))))))
      (pss_one (ps_ret (pv 1)))))), ?_⟩
    repeat' (walk_at "jv")
    intro D nD
    have kD := Same.upd_new (o := .lst []) nD
    have eD : (upd H D (.lst [])) D = some (.lst []) := upd_same
    generalize upd H D (.lst []) = H1 at *
    repeat' (walk_at "jv")
    intro Kp nK
    have kK := Same.upd_new (o := .tup []) nK
    have sK : SqT K (upd H1 Kp (.tup [])) Kp [] := sq_tup upd_same
    replace eD := kK _ _ eD
    replace kD := kD.trans kK
    generalize upd H1 Kp (.tup []) = H2 at *
    clear nK kK
    have st2 := TK.same (K := K) kD _ _ st
    have sr2 := TK.same (K := K) kD _ _ sr
    repeat' (walk_at "jv")
    refine f_tup xs (fun i σ H' => ∃ Kp y3 y4, σ = [some (.ref t), some (.ref D), some (.ref Kp), y3, y4] ∧ Same H H' ∧ LsD K H' D ((ringsT ps (rs.take i)).map tsD) ∧ Dp K H' (.ref Kp) (.tuple ((keptL (rs.take i)).map roadD))) ⟨Kp, _, _, rfl, kD, LsD.nil eD, .tup sK .nil⟩ (fun i σ H' _ h => ?_) (fun i x σ H3 hx h => ?_) (fun σ H3 h => ?_)
    · obtain ⟨Kp, y3, y4, rfl, kk, _⟩ := h
      exact TK.same (K := K) kk _ _ sr
    · clear sK eD kD st2
      obtain ⟨Kp, y3, y4, rfl, kk, lD, dK⟩ := h
      obtain ⟨r, b, hr2, rfl, sb⟩ := road_get (DpAll.same kk _ _ dx) hx
      have hi : i < rs.length := (List.getElem?_eq_some_iff.mp hr2).1
      have e1 : rs.take (i + 1) = rs.take i ++ [r] := take_push hr2
      have Wi : IsWeb ps (rs.take i) := web_sub W (List.take_sublist _ _)
      have Wk := web_kept Wi
      obtain ⟨w1, w2, w3⟩ := W.ends r (List.mem_of_getElem? hr2)
      have op := (kept_grp _ (rs.take i) rfl).2.1
      have es : rs = rs.take i ++ r :: rs.drop (i + 1) := by
        have h1 := (List.getElem?_eq_some_iff.mp hr2).2
        have h2 := List.drop_eq_getElem_cons hi
        rw [h1] at h2
        rw [← h2, List.take_append_drop]
      rw [e1, rings_snoc, kept_snoc]
      have hkl : (keptL (rs.take i)).length ≤ 14 := by
        have h1 := (kept_sub _ (rs.take i) rfl).length_le
        rw [List.length_take] at h1
        omega
      have hrl : (ringsT ps (rs.take i)).length ≤ 14 := by
        have h1 := told_le (rs.take i)
        rw [List.length_take] at h1
        unfold ringsT
        rw [List.length_map]
        omega
      generalize hks : keptL (rs.take i) = ks at *
      generalize ringsT ps (rs.take i) = fs at *
      have st3 := TK.same (K := K) kk _ _ st
      have ft3 := ft.same kk
      repeat' (walk_at "jv")
      intro T nT
      have kT := Same.upd_new (o := .tup [.ref tp, .ref Kp]) nT
      have sT : SqT K (upd H3 T (.tup [.ref tp, .ref Kp])) T [.ref tp, .ref Kp] := sq_tup upd_same
      first | replace st3 := HF.same st3 kT | replace st3 := WF.same st3 kT | replace st3 := FT.same st3 kT | replace st3 := Fd.same st3 kT | replace st3 := LsD.same st3 kT | replace st3 := TK.same kT _ _ st3 | replace st3 := KeysT.tk st3 (TK.same kT) | replace st3 := KeysU.tk st3 (TK.same kT) | replace st3 := KeysN.tk st3 (TK.same kT) | replace st3 := DayV.tk st3 (TK.same kT) | replace st3 := Dp.same kT _ _ st3 | replace st3 := DpAll.same kT _ _ st3 | replace st3 := kT _ _ st3 | replace st3 := Ch.trans st3 (Ch.of_same kT) | replace st3 := Same.trans st3 kT | replace st3 := stepsAt.same st3 kT | replace st3 := DpT.same st3 kT | replace st3 := LOr.same st3 kT | replace st3 := Ob.same st3 kT | replace st3 := Gds.same st3 kT | replace st3 := Gd2.same st3 kT | replace st3 := Ob2.same st3 kT | replace st3 := NE.same st3 kT | replace st3 := NT.same st3 kT | replace st3 := NEs.same st3 kT | replace st3 := NX.same st3 kT | replace st3 := EMs.same st3 kT | replace st3 := EOs.same st3 kT | replace st3 := EO.same st3 kT | replace st3 := GT.same st3 kT | replace st3 := GTs.same st3 kT | replace st3 := RB.same st3 kT | replace st3 := RBs.same st3 kT | replace st3 := RB2s.same st3 kT | replace st3 := GR.same st3 kT | replace st3 := GRs.same st3 kT | replace st3 := NO.same st3 kT | replace st3 := NOs.same st3 kT | replace st3 := NZ.same st3 kT | replace st3 := NB.same st3 kT | replace st3 := NBs.same st3 kT | replace st3 := NQ.same st3 kT | replace st3 := NQs.same st3 kT | replace st3 := NX'.same st3 kT
      first | replace ft3 := HF.same ft3 kT | replace ft3 := WF.same ft3 kT | replace ft3 := FT.same ft3 kT | replace ft3 := Fd.same ft3 kT | replace ft3 := LsD.same ft3 kT | replace ft3 := TK.same kT _ _ ft3 | replace ft3 := KeysT.tk ft3 (TK.same kT) | replace ft3 := KeysU.tk ft3 (TK.same kT) | replace ft3 := KeysN.tk ft3 (TK.same kT) | replace ft3 := DayV.tk ft3 (TK.same kT) | replace ft3 := Dp.same kT _ _ ft3 | replace ft3 := DpAll.same kT _ _ ft3 | replace ft3 := kT _ _ ft3 | replace ft3 := Ch.trans ft3 (Ch.of_same kT) | replace ft3 := Same.trans ft3 kT | replace ft3 := stepsAt.same ft3 kT | replace ft3 := DpT.same ft3 kT | replace ft3 := LOr.same ft3 kT | replace ft3 := Ob.same ft3 kT | replace ft3 := Gds.same ft3 kT | replace ft3 := Gd2.same ft3 kT | replace ft3 := Ob2.same ft3 kT | replace ft3 := NE.same ft3 kT | replace ft3 := NT.same ft3 kT | replace ft3 := NEs.same ft3 kT | replace ft3 := NX.same ft3 kT | replace ft3 := EMs.same ft3 kT | replace ft3 := EOs.same ft3 kT | replace ft3 := EO.same ft3 kT | replace ft3 := GT.same ft3 kT | replace ft3 := GTs.same ft3 kT | replace ft3 := RB.same ft3 kT | replace ft3 := RBs.same ft3 kT | replace ft3 := RB2s.same ft3 kT | replace ft3 := GR.same ft3 kT | replace ft3 := GRs.same ft3 kT | replace ft3 := NO.same ft3 kT | replace ft3 := NOs.same ft3 kT | replace ft3 := NZ.same ft3 kT | replace ft3 := NB.same ft3 kT | replace ft3 := NBs.same ft3 kT | replace ft3 := NQ.same ft3 kT | replace ft3 := NQs.same ft3 kT | replace ft3 := NX'.same ft3 kT
      first | replace sb := HF.same sb kT | replace sb := WF.same sb kT | replace sb := FT.same sb kT | replace sb := Fd.same sb kT | replace sb := LsD.same sb kT | replace sb := TK.same kT _ _ sb | replace sb := KeysT.tk sb (TK.same kT) | replace sb := KeysU.tk sb (TK.same kT) | replace sb := KeysN.tk sb (TK.same kT) | replace sb := DayV.tk sb (TK.same kT) | replace sb := Dp.same kT _ _ sb | replace sb := DpAll.same kT _ _ sb | replace sb := kT _ _ sb | replace sb := Ch.trans sb (Ch.of_same kT) | replace sb := Same.trans sb kT | replace sb := stepsAt.same sb kT | replace sb := DpT.same sb kT | replace sb := LOr.same sb kT | replace sb := Ob.same sb kT | replace sb := Gds.same sb kT | replace sb := Gd2.same sb kT | replace sb := Ob2.same sb kT | replace sb := NE.same sb kT | replace sb := NT.same sb kT | replace sb := NEs.same sb kT | replace sb := NX.same sb kT | replace sb := EMs.same sb kT | replace sb := EOs.same sb kT | replace sb := EO.same sb kT | replace sb := GT.same sb kT | replace sb := GTs.same sb kT | replace sb := RB.same sb kT | replace sb := RBs.same sb kT | replace sb := RB2s.same sb kT | replace sb := GR.same sb kT | replace sb := GRs.same sb kT | replace sb := NO.same sb kT | replace sb := NOs.same sb kT | replace sb := NZ.same sb kT | replace sb := NB.same sb kT | replace sb := NBs.same sb kT | replace sb := NQ.same sb kT | replace sb := NQs.same sb kT | replace sb := NX'.same sb kT
      first | replace lD := HF.same lD kT | replace lD := WF.same lD kT | replace lD := FT.same lD kT | replace lD := Fd.same lD kT | replace lD := LsD.same lD kT | replace lD := TK.same kT _ _ lD | replace lD := KeysT.tk lD (TK.same kT) | replace lD := KeysU.tk lD (TK.same kT) | replace lD := KeysN.tk lD (TK.same kT) | replace lD := DayV.tk lD (TK.same kT) | replace lD := Dp.same kT _ _ lD | replace lD := DpAll.same kT _ _ lD | replace lD := kT _ _ lD | replace lD := Ch.trans lD (Ch.of_same kT) | replace lD := Same.trans lD kT | replace lD := stepsAt.same lD kT | replace lD := DpT.same lD kT | replace lD := LOr.same lD kT | replace lD := Ob.same lD kT | replace lD := Gds.same lD kT | replace lD := Gd2.same lD kT | replace lD := Ob2.same lD kT | replace lD := NE.same lD kT | replace lD := NT.same lD kT | replace lD := NEs.same lD kT | replace lD := NX.same lD kT | replace lD := EMs.same lD kT | replace lD := EOs.same lD kT | replace lD := EO.same lD kT | replace lD := GT.same lD kT | replace lD := GTs.same lD kT | replace lD := RB.same lD kT | replace lD := RBs.same lD kT | replace lD := RB2s.same lD kT | replace lD := GR.same lD kT | replace lD := GRs.same lD kT | replace lD := NO.same lD kT | replace lD := NOs.same lD kT | replace lD := NZ.same lD kT | replace lD := NB.same lD kT | replace lD := NBs.same lD kT | replace lD := NQ.same lD kT | replace lD := NQs.same lD kT | replace lD := NX'.same lD kT
      first | replace dK := HF.same dK kT | replace dK := WF.same dK kT | replace dK := FT.same dK kT | replace dK := Fd.same dK kT | replace dK := LsD.same dK kT | replace dK := TK.same kT _ _ dK | replace dK := KeysT.tk dK (TK.same kT) | replace dK := KeysU.tk dK (TK.same kT) | replace dK := KeysN.tk dK (TK.same kT) | replace dK := DayV.tk dK (TK.same kT) | replace dK := Dp.same kT _ _ dK | replace dK := DpAll.same kT _ _ dK | replace dK := kT _ _ dK | replace dK := Ch.trans dK (Ch.of_same kT) | replace dK := Same.trans dK kT | replace dK := stepsAt.same dK kT | replace dK := DpT.same dK kT | replace dK := LOr.same dK kT | replace dK := Ob.same dK kT | replace dK := Gds.same dK kT | replace dK := Gd2.same dK kT | replace dK := Ob2.same dK kT | replace dK := NE.same dK kT | replace dK := NT.same dK kT | replace dK := NEs.same dK kT | replace dK := NX.same dK kT | replace dK := EMs.same dK kT | replace dK := EOs.same dK kT | replace dK := EO.same dK kT | replace dK := GT.same dK kT | replace dK := GTs.same dK kT | replace dK := RB.same dK kT | replace dK := RBs.same dK kT | replace dK := RB2s.same dK kT | replace dK := GR.same dK kT | replace dK := GRs.same dK kT | replace dK := NO.same dK kT | replace dK := NOs.same dK kT | replace dK := NZ.same dK kT | replace dK := NB.same dK kT | replace dK := NBs.same dK kT | replace dK := NQ.same dK kT | replace dK := NQs.same dK kT | replace dK := NX'.same dK kT
      replace kk := kk.trans kT
      generalize upd H3 T (.tup [.ref tp, .ref Kp]) = H4 at *
      repeat' (walk_at "jv")
      refine ⟨.ref T, r.1, r.2, ps, ks, rfl, .tup sT (.cons (.tup ft3.sq (DpAll.strs ps)) (.cons dK .nil)), Wk, op, w1, fun Tl l H5 sw k5 sl => ?_, fun no H5 k5 => ?_⟩
      · have hg : r.2 ∈ grpL ks r.1 := (grp_conn Wk w1).mpr ⟨w2, sw.conn⟩
        have el : l = wayF ps (ks, r) := way_one _ ks rfl Wk op _ _ _ _ w1 sw (wayF_is (r := r) Wk w1 sw.conn).2
        have hc : (ks, r) ∈ toldL rs := (told_mem _ rs rfl _).mpr ⟨rs.take i, rs.drop (i + 1), es, by rw [hks]; exact hg, hks.symm⟩
        have R := told_rung W hc
        subst el
        first | replace st3 := HF.same st3 k5 | replace st3 := WF.same st3 k5 | replace st3 := FT.same st3 k5 | replace st3 := Fd.same st3 k5 | replace st3 := LsD.same st3 k5 | replace st3 := TK.same k5 _ _ st3 | replace st3 := KeysT.tk st3 (TK.same k5) | replace st3 := KeysU.tk st3 (TK.same k5) | replace st3 := KeysN.tk st3 (TK.same k5) | replace st3 := DayV.tk st3 (TK.same k5) | replace st3 := Dp.same k5 _ _ st3 | replace st3 := DpAll.same k5 _ _ st3 | replace st3 := k5 _ _ st3 | replace st3 := Ch.trans st3 (Ch.of_same k5) | replace st3 := Same.trans st3 k5 | replace st3 := stepsAt.same st3 k5 | replace st3 := DpT.same st3 k5 | replace st3 := LOr.same st3 k5 | replace st3 := Ob.same st3 k5 | replace st3 := Gds.same st3 k5 | replace st3 := Gd2.same st3 k5 | replace st3 := Ob2.same st3 k5 | replace st3 := NE.same st3 k5 | replace st3 := NT.same st3 k5 | replace st3 := NEs.same st3 k5 | replace st3 := NX.same st3 k5 | replace st3 := EMs.same st3 k5 | replace st3 := EOs.same st3 k5 | replace st3 := EO.same st3 k5 | replace st3 := GT.same st3 k5 | replace st3 := GTs.same st3 k5 | replace st3 := RB.same st3 k5 | replace st3 := RBs.same st3 k5 | replace st3 := RB2s.same st3 k5 | replace st3 := GR.same st3 k5 | replace st3 := GRs.same st3 k5 | replace st3 := NO.same st3 k5 | replace st3 := NOs.same st3 k5 | replace st3 := NZ.same st3 k5 | replace st3 := NB.same st3 k5 | replace st3 := NBs.same st3 k5 | replace st3 := NQ.same st3 k5 | replace st3 := NQs.same st3 k5 | replace st3 := NX'.same st3 k5
        first | replace ft3 := HF.same ft3 k5 | replace ft3 := WF.same ft3 k5 | replace ft3 := FT.same ft3 k5 | replace ft3 := Fd.same ft3 k5 | replace ft3 := LsD.same ft3 k5 | replace ft3 := TK.same k5 _ _ ft3 | replace ft3 := KeysT.tk ft3 (TK.same k5) | replace ft3 := KeysU.tk ft3 (TK.same k5) | replace ft3 := KeysN.tk ft3 (TK.same k5) | replace ft3 := DayV.tk ft3 (TK.same k5) | replace ft3 := Dp.same k5 _ _ ft3 | replace ft3 := DpAll.same k5 _ _ ft3 | replace ft3 := k5 _ _ ft3 | replace ft3 := Ch.trans ft3 (Ch.of_same k5) | replace ft3 := Same.trans ft3 k5 | replace ft3 := stepsAt.same ft3 k5 | replace ft3 := DpT.same ft3 k5 | replace ft3 := LOr.same ft3 k5 | replace ft3 := Ob.same ft3 k5 | replace ft3 := Gds.same ft3 k5 | replace ft3 := Gd2.same ft3 k5 | replace ft3 := Ob2.same ft3 k5 | replace ft3 := NE.same ft3 k5 | replace ft3 := NT.same ft3 k5 | replace ft3 := NEs.same ft3 k5 | replace ft3 := NX.same ft3 k5 | replace ft3 := EMs.same ft3 k5 | replace ft3 := EOs.same ft3 k5 | replace ft3 := EO.same ft3 k5 | replace ft3 := GT.same ft3 k5 | replace ft3 := GTs.same ft3 k5 | replace ft3 := RB.same ft3 k5 | replace ft3 := RBs.same ft3 k5 | replace ft3 := RB2s.same ft3 k5 | replace ft3 := GR.same ft3 k5 | replace ft3 := GRs.same ft3 k5 | replace ft3 := NO.same ft3 k5 | replace ft3 := NOs.same ft3 k5 | replace ft3 := NZ.same ft3 k5 | replace ft3 := NB.same ft3 k5 | replace ft3 := NBs.same ft3 k5 | replace ft3 := NQ.same ft3 k5 | replace ft3 := NQs.same ft3 k5 | replace ft3 := NX'.same ft3 k5
        first | replace lD := HF.same lD k5 | replace lD := WF.same lD k5 | replace lD := FT.same lD k5 | replace lD := Fd.same lD k5 | replace lD := LsD.same lD k5 | replace lD := TK.same k5 _ _ lD | replace lD := KeysT.tk lD (TK.same k5) | replace lD := KeysU.tk lD (TK.same k5) | replace lD := KeysN.tk lD (TK.same k5) | replace lD := DayV.tk lD (TK.same k5) | replace lD := Dp.same k5 _ _ lD | replace lD := DpAll.same k5 _ _ lD | replace lD := k5 _ _ lD | replace lD := Ch.trans lD (Ch.of_same k5) | replace lD := Same.trans lD k5 | replace lD := stepsAt.same lD k5 | replace lD := DpT.same lD k5 | replace lD := LOr.same lD k5 | replace lD := Ob.same lD k5 | replace lD := Gds.same lD k5 | replace lD := Gd2.same lD k5 | replace lD := Ob2.same lD k5 | replace lD := NE.same lD k5 | replace lD := NT.same lD k5 | replace lD := NEs.same lD k5 | replace lD := NX.same lD k5 | replace lD := EMs.same lD k5 | replace lD := EOs.same lD k5 | replace lD := EO.same lD k5 | replace lD := GT.same lD k5 | replace lD := GTs.same lD k5 | replace lD := RB.same lD k5 | replace lD := RBs.same lD k5 | replace lD := RB2s.same lD k5 | replace lD := GR.same lD k5 | replace lD := GRs.same lD k5 | replace lD := NO.same lD k5 | replace lD := NOs.same lD k5 | replace lD := NZ.same lD k5 | replace lD := NB.same lD k5 | replace lD := NBs.same lD k5 | replace lD := NQ.same lD k5 | replace lD := NQs.same lD k5 | replace lD := NX'.same lD k5
        first | replace dK := HF.same dK k5 | replace dK := WF.same dK k5 | replace dK := FT.same dK k5 | replace dK := Fd.same dK k5 | replace dK := LsD.same dK k5 | replace dK := TK.same k5 _ _ dK | replace dK := KeysT.tk dK (TK.same k5) | replace dK := KeysU.tk dK (TK.same k5) | replace dK := KeysN.tk dK (TK.same k5) | replace dK := DayV.tk dK (TK.same k5) | replace dK := Dp.same k5 _ _ dK | replace dK := DpAll.same k5 _ _ dK | replace dK := k5 _ _ dK | replace dK := Ch.trans dK (Ch.of_same k5) | replace dK := Same.trans dK k5 | replace dK := stepsAt.same dK k5 | replace dK := DpT.same dK k5 | replace dK := LOr.same dK k5 | replace dK := Ob.same dK k5 | replace dK := Gds.same dK k5 | replace dK := Gd2.same dK k5 | replace dK := Ob2.same dK k5 | replace dK := NE.same dK k5 | replace dK := NT.same dK k5 | replace dK := NEs.same dK k5 | replace dK := NX.same dK k5 | replace dK := EMs.same dK k5 | replace dK := EOs.same dK k5 | replace dK := EO.same dK k5 | replace dK := GT.same dK k5 | replace dK := GTs.same dK k5 | replace dK := RB.same dK k5 | replace dK := RBs.same dK k5 | replace dK := RB2s.same dK k5 | replace dK := GR.same dK k5 | replace dK := GRs.same dK k5 | replace dK := NO.same dK k5 | replace dK := NOs.same dK k5 | replace dK := NZ.same dK k5 | replace dK := NB.same dK k5 | replace dK := NBs.same dK k5 | replace dK := NQ.same dK k5 | replace dK := NQs.same dK k5 | replace dK := NX'.same dK k5
        have wf5 : WF K H5 (.ref t) ps rs := ⟨t, tp, tr, rfl, st3, ft3, Dp.same (kk.trans k5) _ _ dr⟩
        rw [if_pos hg]
        have hgk : keptS ks r = ks := by unfold keptS; rw [if_pos hg]
        rw [hgk]
        obtain ⟨us, eU, dU, tU⟩ := id lD
        repeat' (walk_at "jv")
        refine ⟨rfl, ?_⟩
        rw [show decide (V.ref Tl = V.non) = false from decide_eq_false (fun h => nomatch h)]
        repeat' (walk_at "jv")
        refine ⟨.ref t, Tl, _, ps, rs, rfl, wf5, sl, R.sub, Nat.le_of_succ_le R.len, R.le8, fun T6 H6 k6 f6 => ?_⟩
        have eU6 := k6 _ _ eU
        have hul : us.length = fs.length := by rw [DpAll.len dU, List.length_map]
        repeat' (walk_at "jv")
        have k56 := (kk.trans k5).trans k6
        have nDH : H D = none := nD
        have tkl : TK K H6 (upd H6 D (.lst (us ++ [.ref T6]))) := TK.lst eU6
        refine ⟨Kp, _, _, rfl, fun c oc z => (upd_ne (ne_of_none z nDH)).trans (k56 _ _ z), ?_, Dp.tk tkl _ _ (roads_only _) (Dp.same k6 _ _ dK)⟩
        rw [List.map_append]
        exact LsD.push eU6 (DpAll.same k6 _ _ dU) tU (ts_dp f6.sq) (tsD_only _)
      · have hg : ¬ r.2 ∈ grpL ks r.1 := fun hg => by
          obtain ⟨l, sw⟩ := conn_way ((grp_conn Wk w1).mp hg).2
          exact no l sw
        first | replace st3 := HF.same st3 k5 | replace st3 := WF.same st3 k5 | replace st3 := FT.same st3 k5 | replace st3 := Fd.same st3 k5 | replace st3 := LsD.same st3 k5 | replace st3 := TK.same k5 _ _ st3 | replace st3 := KeysT.tk st3 (TK.same k5) | replace st3 := KeysU.tk st3 (TK.same k5) | replace st3 := KeysN.tk st3 (TK.same k5) | replace st3 := DayV.tk st3 (TK.same k5) | replace st3 := Dp.same k5 _ _ st3 | replace st3 := DpAll.same k5 _ _ st3 | replace st3 := k5 _ _ st3 | replace st3 := Ch.trans st3 (Ch.of_same k5) | replace st3 := Same.trans st3 k5 | replace st3 := stepsAt.same st3 k5 | replace st3 := DpT.same st3 k5 | replace st3 := LOr.same st3 k5 | replace st3 := Ob.same st3 k5 | replace st3 := Gds.same st3 k5 | replace st3 := Gd2.same st3 k5 | replace st3 := Ob2.same st3 k5 | replace st3 := NE.same st3 k5 | replace st3 := NT.same st3 k5 | replace st3 := NEs.same st3 k5 | replace st3 := NX.same st3 k5 | replace st3 := EMs.same st3 k5 | replace st3 := EOs.same st3 k5 | replace st3 := EO.same st3 k5 | replace st3 := GT.same st3 k5 | replace st3 := GTs.same st3 k5 | replace st3 := RB.same st3 k5 | replace st3 := RBs.same st3 k5 | replace st3 := RB2s.same st3 k5 | replace st3 := GR.same st3 k5 | replace st3 := GRs.same st3 k5 | replace st3 := NO.same st3 k5 | replace st3 := NOs.same st3 k5 | replace st3 := NZ.same st3 k5 | replace st3 := NB.same st3 k5 | replace st3 := NBs.same st3 k5 | replace st3 := NQ.same st3 k5 | replace st3 := NQs.same st3 k5 | replace st3 := NX'.same st3 k5
        first | replace ft3 := HF.same ft3 k5 | replace ft3 := WF.same ft3 k5 | replace ft3 := FT.same ft3 k5 | replace ft3 := Fd.same ft3 k5 | replace ft3 := LsD.same ft3 k5 | replace ft3 := TK.same k5 _ _ ft3 | replace ft3 := KeysT.tk ft3 (TK.same k5) | replace ft3 := KeysU.tk ft3 (TK.same k5) | replace ft3 := KeysN.tk ft3 (TK.same k5) | replace ft3 := DayV.tk ft3 (TK.same k5) | replace ft3 := Dp.same k5 _ _ ft3 | replace ft3 := DpAll.same k5 _ _ ft3 | replace ft3 := k5 _ _ ft3 | replace ft3 := Ch.trans ft3 (Ch.of_same k5) | replace ft3 := Same.trans ft3 k5 | replace ft3 := stepsAt.same ft3 k5 | replace ft3 := DpT.same ft3 k5 | replace ft3 := LOr.same ft3 k5 | replace ft3 := Ob.same ft3 k5 | replace ft3 := Gds.same ft3 k5 | replace ft3 := Gd2.same ft3 k5 | replace ft3 := Ob2.same ft3 k5 | replace ft3 := NE.same ft3 k5 | replace ft3 := NT.same ft3 k5 | replace ft3 := NEs.same ft3 k5 | replace ft3 := NX.same ft3 k5 | replace ft3 := EMs.same ft3 k5 | replace ft3 := EOs.same ft3 k5 | replace ft3 := EO.same ft3 k5 | replace ft3 := GT.same ft3 k5 | replace ft3 := GTs.same ft3 k5 | replace ft3 := RB.same ft3 k5 | replace ft3 := RBs.same ft3 k5 | replace ft3 := RB2s.same ft3 k5 | replace ft3 := GR.same ft3 k5 | replace ft3 := GRs.same ft3 k5 | replace ft3 := NO.same ft3 k5 | replace ft3 := NOs.same ft3 k5 | replace ft3 := NZ.same ft3 k5 | replace ft3 := NB.same ft3 k5 | replace ft3 := NBs.same ft3 k5 | replace ft3 := NQ.same ft3 k5 | replace ft3 := NQs.same ft3 k5 | replace ft3 := NX'.same ft3 k5
        first | replace lD := HF.same lD k5 | replace lD := WF.same lD k5 | replace lD := FT.same lD k5 | replace lD := Fd.same lD k5 | replace lD := LsD.same lD k5 | replace lD := TK.same k5 _ _ lD | replace lD := KeysT.tk lD (TK.same k5) | replace lD := KeysU.tk lD (TK.same k5) | replace lD := KeysN.tk lD (TK.same k5) | replace lD := DayV.tk lD (TK.same k5) | replace lD := Dp.same k5 _ _ lD | replace lD := DpAll.same k5 _ _ lD | replace lD := k5 _ _ lD | replace lD := Ch.trans lD (Ch.of_same k5) | replace lD := Same.trans lD k5 | replace lD := stepsAt.same lD k5 | replace lD := DpT.same lD k5 | replace lD := LOr.same lD k5 | replace lD := Ob.same lD k5 | replace lD := Gds.same lD k5 | replace lD := Gd2.same lD k5 | replace lD := Ob2.same lD k5 | replace lD := NE.same lD k5 | replace lD := NT.same lD k5 | replace lD := NEs.same lD k5 | replace lD := NX.same lD k5 | replace lD := EMs.same lD k5 | replace lD := EOs.same lD k5 | replace lD := EO.same lD k5 | replace lD := GT.same lD k5 | replace lD := GTs.same lD k5 | replace lD := RB.same lD k5 | replace lD := RBs.same lD k5 | replace lD := RB2s.same lD k5 | replace lD := GR.same lD k5 | replace lD := GRs.same lD k5 | replace lD := NO.same lD k5 | replace lD := NOs.same lD k5 | replace lD := NZ.same lD k5 | replace lD := NB.same lD k5 | replace lD := NBs.same lD k5 | replace lD := NQ.same lD k5 | replace lD := NQs.same lD k5 | replace lD := NX'.same lD k5
        first | replace dK := HF.same dK k5 | replace dK := WF.same dK k5 | replace dK := FT.same dK k5 | replace dK := Fd.same dK k5 | replace dK := LsD.same dK k5 | replace dK := TK.same k5 _ _ dK | replace dK := KeysT.tk dK (TK.same k5) | replace dK := KeysU.tk dK (TK.same k5) | replace dK := KeysN.tk dK (TK.same k5) | replace dK := DayV.tk dK (TK.same k5) | replace dK := Dp.same k5 _ _ dK | replace dK := DpAll.same k5 _ _ dK | replace dK := k5 _ _ dK | replace dK := Ch.trans dK (Ch.of_same k5) | replace dK := Same.trans dK k5 | replace dK := stepsAt.same dK k5 | replace dK := DpT.same dK k5 | replace dK := LOr.same dK k5 | replace dK := Ob.same dK k5 | replace dK := Gds.same dK k5 | replace dK := Gd2.same dK k5 | replace dK := Ob2.same dK k5 | replace dK := NE.same dK k5 | replace dK := NT.same dK k5 | replace dK := NEs.same dK k5 | replace dK := NX.same dK k5 | replace dK := EMs.same dK k5 | replace dK := EOs.same dK k5 | replace dK := EO.same dK k5 | replace dK := GT.same dK k5 | replace dK := GTs.same dK k5 | replace dK := RB.same dK k5 | replace dK := RBs.same dK k5 | replace dK := RB2s.same dK k5 | replace dK := GR.same dK k5 | replace dK := GRs.same dK k5 | replace dK := NO.same dK k5 | replace dK := NOs.same dK k5 | replace dK := NZ.same dK k5 | replace dK := NB.same dK k5 | replace dK := NBs.same dK k5 | replace dK := NQ.same dK k5 | replace dK := NQs.same dK k5 | replace dK := NX'.same dK k5
        first | replace sb := HF.same sb k5 | replace sb := WF.same sb k5 | replace sb := FT.same sb k5 | replace sb := Fd.same sb k5 | replace sb := LsD.same sb k5 | replace sb := TK.same k5 _ _ sb | replace sb := KeysT.tk sb (TK.same k5) | replace sb := KeysU.tk sb (TK.same k5) | replace sb := KeysN.tk sb (TK.same k5) | replace sb := DayV.tk sb (TK.same k5) | replace sb := Dp.same k5 _ _ sb | replace sb := DpAll.same k5 _ _ sb | replace sb := k5 _ _ sb | replace sb := Ch.trans sb (Ch.of_same k5) | replace sb := Same.trans sb k5 | replace sb := stepsAt.same sb k5 | replace sb := DpT.same sb k5 | replace sb := LOr.same sb k5 | replace sb := Ob.same sb k5 | replace sb := Gds.same sb k5 | replace sb := Gd2.same sb k5 | replace sb := Ob2.same sb k5 | replace sb := NE.same sb k5 | replace sb := NT.same sb k5 | replace sb := NEs.same sb k5 | replace sb := NX.same sb k5 | replace sb := EMs.same sb k5 | replace sb := EOs.same sb k5 | replace sb := EO.same sb k5 | replace sb := GT.same sb k5 | replace sb := GTs.same sb k5 | replace sb := RB.same sb k5 | replace sb := RBs.same sb k5 | replace sb := RB2s.same sb k5 | replace sb := GR.same sb k5 | replace sb := GRs.same sb k5 | replace sb := NO.same sb k5 | replace sb := NOs.same sb k5 | replace sb := NZ.same sb k5 | replace sb := NB.same sb k5 | replace sb := NBs.same sb k5 | replace sb := NQ.same sb k5 | replace sb := NQs.same sb k5 | replace sb := NX'.same sb k5
        rw [if_neg hg, List.append_nil]
        have hgk : keptS ks r = ks ++ [r] := by unfold keptS; rw [if_neg hg]
        rw [hgk]
        obtain ⟨Kp', us, ek, sk, du⟩ := tup_parts dK
        obtain rfl : Kp = Kp' := by injection ek
        have hul : us.length = ks.length := by rw [DpAll.len du, List.length_map]
        repeat' (walk_at "jv")
        refine ⟨rfl, ?_⟩
        rw [show decide (V.non = V.non) = true from decide_eq_true rfl]
        repeat' (walk_at "jv")
        intro T6 n6
        have k6 := Same.upd_new (o := .tup [.ref b]) n6
        have s6 : SqT K (upd H5 T6 (.tup [.ref b])) T6 [.ref b] := sq_tup upd_same
        first | replace sk := HF.same sk k6 | replace sk := WF.same sk k6 | replace sk := FT.same sk k6 | replace sk := Fd.same sk k6 | replace sk := LsD.same sk k6 | replace sk := TK.same k6 _ _ sk | replace sk := KeysT.tk sk (TK.same k6) | replace sk := KeysU.tk sk (TK.same k6) | replace sk := KeysN.tk sk (TK.same k6) | replace sk := DayV.tk sk (TK.same k6) | replace sk := Dp.same k6 _ _ sk | replace sk := DpAll.same k6 _ _ sk | replace sk := k6 _ _ sk | replace sk := Ch.trans sk (Ch.of_same k6) | replace sk := Same.trans sk k6 | replace sk := stepsAt.same sk k6 | replace sk := DpT.same sk k6 | replace sk := LOr.same sk k6 | replace sk := Ob.same sk k6 | replace sk := Gds.same sk k6 | replace sk := Gd2.same sk k6 | replace sk := Ob2.same sk k6 | replace sk := NE.same sk k6 | replace sk := NT.same sk k6 | replace sk := NEs.same sk k6 | replace sk := NX.same sk k6 | replace sk := EMs.same sk k6 | replace sk := EOs.same sk k6 | replace sk := EO.same sk k6 | replace sk := GT.same sk k6 | replace sk := GTs.same sk k6 | replace sk := RB.same sk k6 | replace sk := RBs.same sk k6 | replace sk := RB2s.same sk k6 | replace sk := GR.same sk k6 | replace sk := GRs.same sk k6 | replace sk := NO.same sk k6 | replace sk := NOs.same sk k6 | replace sk := NZ.same sk k6 | replace sk := NB.same sk k6 | replace sk := NBs.same sk k6 | replace sk := NQ.same sk k6 | replace sk := NQs.same sk k6 | replace sk := NX'.same sk k6
        first | replace du := HF.same du k6 | replace du := WF.same du k6 | replace du := FT.same du k6 | replace du := Fd.same du k6 | replace du := LsD.same du k6 | replace du := TK.same k6 _ _ du | replace du := KeysT.tk du (TK.same k6) | replace du := KeysU.tk du (TK.same k6) | replace du := KeysN.tk du (TK.same k6) | replace du := DayV.tk du (TK.same k6) | replace du := Dp.same k6 _ _ du | replace du := DpAll.same k6 _ _ du | replace du := k6 _ _ du | replace du := Ch.trans du (Ch.of_same k6) | replace du := Same.trans du k6 | replace du := stepsAt.same du k6 | replace du := DpT.same du k6 | replace du := LOr.same du k6 | replace du := Ob.same du k6 | replace du := Gds.same du k6 | replace du := Gd2.same du k6 | replace du := Ob2.same du k6 | replace du := NE.same du k6 | replace du := NT.same du k6 | replace du := NEs.same du k6 | replace du := NX.same du k6 | replace du := EMs.same du k6 | replace du := EOs.same du k6 | replace du := EO.same du k6 | replace du := GT.same du k6 | replace du := GTs.same du k6 | replace du := RB.same du k6 | replace du := RBs.same du k6 | replace du := RB2s.same du k6 | replace du := GR.same du k6 | replace du := GRs.same du k6 | replace du := NO.same du k6 | replace du := NOs.same du k6 | replace du := NZ.same du k6 | replace du := NB.same du k6 | replace du := NBs.same du k6 | replace du := NQ.same du k6 | replace du := NQs.same du k6 | replace du := NX'.same du k6
        first | replace lD := HF.same lD k6 | replace lD := WF.same lD k6 | replace lD := FT.same lD k6 | replace lD := Fd.same lD k6 | replace lD := LsD.same lD k6 | replace lD := TK.same k6 _ _ lD | replace lD := KeysT.tk lD (TK.same k6) | replace lD := KeysU.tk lD (TK.same k6) | replace lD := KeysN.tk lD (TK.same k6) | replace lD := DayV.tk lD (TK.same k6) | replace lD := Dp.same k6 _ _ lD | replace lD := DpAll.same k6 _ _ lD | replace lD := k6 _ _ lD | replace lD := Ch.trans lD (Ch.of_same k6) | replace lD := Same.trans lD k6 | replace lD := stepsAt.same lD k6 | replace lD := DpT.same lD k6 | replace lD := LOr.same lD k6 | replace lD := Ob.same lD k6 | replace lD := Gds.same lD k6 | replace lD := Gd2.same lD k6 | replace lD := Ob2.same lD k6 | replace lD := NE.same lD k6 | replace lD := NT.same lD k6 | replace lD := NEs.same lD k6 | replace lD := NX.same lD k6 | replace lD := EMs.same lD k6 | replace lD := EOs.same lD k6 | replace lD := EO.same lD k6 | replace lD := GT.same lD k6 | replace lD := GTs.same lD k6 | replace lD := RB.same lD k6 | replace lD := RBs.same lD k6 | replace lD := RB2s.same lD k6 | replace lD := GR.same lD k6 | replace lD := GRs.same lD k6 | replace lD := NO.same lD k6 | replace lD := NOs.same lD k6 | replace lD := NZ.same lD k6 | replace lD := NB.same lD k6 | replace lD := NBs.same lD k6 | replace lD := NQ.same lD k6 | replace lD := NQs.same lD k6 | replace lD := NX'.same lD k6
        first | replace sb := HF.same sb k6 | replace sb := WF.same sb k6 | replace sb := FT.same sb k6 | replace sb := Fd.same sb k6 | replace sb := LsD.same sb k6 | replace sb := TK.same k6 _ _ sb | replace sb := KeysT.tk sb (TK.same k6) | replace sb := KeysU.tk sb (TK.same k6) | replace sb := KeysN.tk sb (TK.same k6) | replace sb := DayV.tk sb (TK.same k6) | replace sb := Dp.same k6 _ _ sb | replace sb := DpAll.same k6 _ _ sb | replace sb := k6 _ _ sb | replace sb := Ch.trans sb (Ch.of_same k6) | replace sb := Same.trans sb k6 | replace sb := stepsAt.same sb k6 | replace sb := DpT.same sb k6 | replace sb := LOr.same sb k6 | replace sb := Ob.same sb k6 | replace sb := Gds.same sb k6 | replace sb := Gd2.same sb k6 | replace sb := Ob2.same sb k6 | replace sb := NE.same sb k6 | replace sb := NT.same sb k6 | replace sb := NEs.same sb k6 | replace sb := NX.same sb k6 | replace sb := EMs.same sb k6 | replace sb := EOs.same sb k6 | replace sb := EO.same sb k6 | replace sb := GT.same sb k6 | replace sb := GTs.same sb k6 | replace sb := RB.same sb k6 | replace sb := RBs.same sb k6 | replace sb := RB2s.same sb k6 | replace sb := GR.same sb k6 | replace sb := GRs.same sb k6 | replace sb := NO.same sb k6 | replace sb := NOs.same sb k6 | replace sb := NZ.same sb k6 | replace sb := NB.same sb k6 | replace sb := NBs.same sb k6 | replace sb := NQ.same sb k6 | replace sb := NQs.same sb k6 | replace sb := NX'.same sb k6
        generalize upd H5 T6 (.tup [.ref b]) = H6 at *
        repeat' (walk_at "jv")
        refine i_catG sk s6 (by rw [sizeLine_eq]; show us.length + 1 ≤ _; omega) fun T7 H7 k7 s7 => ?_
        repeat' (walk_at "jv")
        refine ⟨T7, _, _, rfl, ((kk.trans k5).trans k6).trans k7, lD.same k7, ?_⟩
        rw [List.map_append]
        exact .tup s7 (DpAll.app (DpAll.same k7 _ _ du) (.cons (Dp.same k7 _ _ (.tup sb (.cons (.str _) (.cons (.str _) .nil)))) .nil))
    · obtain ⟨Kp, y3, y4, rfl, kk, lD, _⟩ := h
      rw [hxl, List.take_length] at lD
      repeat' (walk_at "jv")
      exact q D H3 nD kk lD
theorem ok_counts (D : Dn K mg "ring_counts" s_ring_counts ["web", "order"]) (B : Bn mg) (C_need_ordered : Cl P w K mg base 6 "need_ordered" ["web", "order"] (spNeedOrder K)) (C__steps_forward : Cl P w K mg base 2 "_steps_forward" ["order", "ring"] (spStepsF K)) (C__told_rings : Cl P w K mg base 4 "_told_rings" ["web"] (spToldRings K)) : Cl P w K mg base 7 "ring_counts" ["web", "order"] (spCounts K) := by
  refine D.cl sc_ring_counts (fun vs H Q E h => ?_) (fun f cdv A outer s H vs Q E hr h => ?_)
  · obtain ⟨v, o, ps, qs, rs, rfl, _⟩ := h
    rfl
  · obtain ⟨v, o, ps, qs, rs, rfl, hw, W, ho, pm, q⟩ := h
    refine ⟨_, (pss_cons (ps_expr (pe_c C_need_ordered hr (pa_cons (pv 0) (pa_cons (pv 1) pa_nil))))
      (pss_one (ps_ret (pe_lc (own := [("ring", 2)]) rfl sc_ring_counts.nd (kpi_list (K := K) (pe_c C__told_rings hr (pa_cons (pv 0) pa_nil))) (blkOk_by (N := ["web", "order", "ring"]) (sc := defScope s_ring_counts) (by decide +kernel)) (fun _ _ _ _ _ => (pg_name (i := 2) sc_ring_counts.nd rfl (by first | exact Or.inl rfl | exact Or.inr rfl))) (fun _ _ _ _ _ => pts_nil) (fun _ _ _ _ _ => (pe_tup (pa_cons (pv 2) (pa_cons (pe_c C__steps_forward hr (pa_cons (pv 1) (pa_cons (pv 2) pa_nil))) pa_nil)))))))), ?_⟩
    repeat' (walk_at "jv")
    refine ⟨v, o, qs, ps, rs, rfl, hw.dp, W, ho.sq, pm, fun H1 k1 => ?_⟩
    repeat' (walk_at "jv")
    refine ⟨v, ps, rs, rfl, hw.same k1, W, fun L H2 nL k2 lL => ?_⟩
    have k12 := k1.trans k2
    have ho2 := ho.same k12
    obtain ⟨us, eL, dL, tL⟩ := id lL
    have hul : us.length = (ringsT ps rs).length := by rw [DpAll.len dL, List.length_map]
    have hrl : (ringsT ps rs).length ≤ 14 := by
      have h1 := told_le rs
      have := W.le14
      unfold ringsT
      rw [List.length_map]
      omega
    repeat' (walk_at "jv")
    refine c_list us (fun D i H' => H2 D = none ∧ Same H2 H' ∧ LsD K H' D ((((ringsT ps rs).take i).map fun t => (t, fwdN qs t)).map rcD)) (fun D nD => ⟨nD, Same.upd_new nD, LsD.nil upd_same⟩) (fun D i H' _ h => sq_lst (h.2.1 _ _ eL)) (fun D i x H3 hx h => ?_) (fun D H3 h => ?_)
    · obtain ⟨nD, kD, lD⟩ := h
      obtain ⟨d, hd1, hd2⟩ := DpAll.get (DpAll.same kD _ _ dL) hx
      rw [List.getElem?_map] at hd1
      obtain ⟨l, hl, rfl⟩ := Option.map_eq_some_iff.mp hd1
      have hi : i < (ringsT ps rs).length := (List.getElem?_eq_some_iff.mp hl).1
      have T := rings_tell W (List.mem_of_getElem? hl)
      have e1 : (ringsT ps rs).take (i + 1) = (ringsT ps rs).take i ++ [l] := take_push hl
      obtain ⟨b, rfl, sb⟩ := ts_ref hd2
      have ho3 := ho2.same kD
      repeat' (walk_at "jv")
      refine ⟨o, b, qs, l, rfl, ho3, sb, Nat.le_of_succ_le T.len, Nat.le_trans T.le8 (by decide), fun z hz => pm.mem_iff.mpr (T.sub z hz), by rw [pm.length_eq]; exact W.le8, fun H4 k4 => ?_⟩
      repeat' (walk_at "jv")
      intro T5 n5
      have k5 := Same.upd_new (o := .tup [.ref b, .int (fwdN qs l : Nat)]) n5
      have s5 : SqT K (upd H4 T5 (.tup [.ref b, .int (fwdN qs l : Nat)])) T5 [.ref b, .int (fwdN qs l : Nat)] := sq_tup upd_same
      replace sb := TK.same (K := K) (k4.trans k5) _ _ sb
      replace lD := lD.same (k4.trans k5)
      replace kD := kD.trans (k4.trans k5)
      generalize upd H4 T5 (.tup [.ref b, .int (fwdN qs l : Nat)]) = H5 at *
      obtain ⟨us2, eU, dU, tU⟩ := lD
      have hul2 : us2.length ≤ 14 := by
        have h1 := DpAll.len dU
        rw [List.length_map, List.length_map, List.length_take] at h1
        omega
      refine i_lcE eU (by rw [sizeLine_eq]; omega) ⟨nD, fun c oc y => (upd_ne (ne_of_none y nD)).trans (kD _ _ y), ?_⟩
      rw [e1, List.map_append, List.map_append]
      exact LsD.push eU dU tU (d := rcD (l, fwdN qs l)) (.tup s5 (.cons (ts_dp sb) (.cons (.int _) .nil))) (rcD_only _)
    · obtain ⟨nD, kD, lD⟩ := h
      rw [hul, List.take_length] at lD
      repeat' (walk_at "jv")
      exact q D H3 (free_same k12 nD) (k12.trans kD) lD
theorem ok_countsK (D : Dk K mg "ring_counts" s_ring_counts ["web", "order"] ["order", "web"]) (B : Bn mg) (C_need_ordered : Cl P w K mg base 6 "need_ordered" ["web", "order"] (spNeedOrder K)) (C__steps_forward : Cl P w K mg base 2 "_steps_forward" ["order", "ring"] (spStepsF K)) (C__told_rings : Cl P w K mg base 4 "_told_rings" ["web"] (spToldRings K)) : ClK P w K mg base 7 "ring_counts" ["web", "order"] ["order", "web"] (spCounts K) := by
  refine D.cl sc_ring_counts (fun vs H Q E h => ?_) (fun f cdv A outer s H vs Q E hr h => ?_)
  · obtain ⟨v, o, ps, qs, rs, rfl, _⟩ := h
    rfl
  · obtain ⟨v, o, ps, qs, rs, rfl, hw, W, ho, pm, q⟩ := h
    refine ⟨_, (pss_cons (ps_expr (pe_c C_need_ordered hr (pa_cons (pv 0) (pa_cons (pv 1) pa_nil))))
      (pss_one (ps_ret (pe_lc (own := [("ring", 2)]) rfl sc_ring_counts.nd (kpi_list (K := K) (pe_c C__told_rings hr (pa_cons (pv 0) pa_nil))) (blkOk_by (N := ["web", "order", "ring"]) (sc := defScope s_ring_counts) (by decide +kernel)) (fun _ _ _ _ _ => (pg_name (i := 2) sc_ring_counts.nd rfl (by first | exact Or.inl rfl | exact Or.inr rfl))) (fun _ _ _ _ _ => pts_nil) (fun _ _ _ _ _ => (pe_tup (pa_cons (pv 2) (pa_cons (pe_c C__steps_forward hr (pa_cons (pv 1) (pa_cons (pv 2) pa_nil))) pa_nil)))))))), ?_⟩
    repeat' (walk_at "jv")
    refine ⟨v, o, qs, ps, rs, rfl, hw.dp, W, ho.sq, pm, fun H1 k1 => ?_⟩
    repeat' (walk_at "jv")
    refine ⟨v, ps, rs, rfl, hw.same k1, W, fun L H2 nL k2 lL => ?_⟩
    have k12 := k1.trans k2
    have ho2 := ho.same k12
    obtain ⟨us, eL, dL, tL⟩ := id lL
    have hul : us.length = (ringsT ps rs).length := by rw [DpAll.len dL, List.length_map]
    have hrl : (ringsT ps rs).length ≤ 14 := by
      have h1 := told_le rs
      have := W.le14
      unfold ringsT
      rw [List.length_map]
      omega
    repeat' (walk_at "jv")
    refine c_list us (fun D i H' => H2 D = none ∧ Same H2 H' ∧ LsD K H' D ((((ringsT ps rs).take i).map fun t => (t, fwdN qs t)).map rcD)) (fun D nD => ⟨nD, Same.upd_new nD, LsD.nil upd_same⟩) (fun D i H' _ h => sq_lst (h.2.1 _ _ eL)) (fun D i x H3 hx h => ?_) (fun D H3 h => ?_)
    · obtain ⟨nD, kD, lD⟩ := h
      obtain ⟨d, hd1, hd2⟩ := DpAll.get (DpAll.same kD _ _ dL) hx
      rw [List.getElem?_map] at hd1
      obtain ⟨l, hl, rfl⟩ := Option.map_eq_some_iff.mp hd1
      have hi : i < (ringsT ps rs).length := (List.getElem?_eq_some_iff.mp hl).1
      have T := rings_tell W (List.mem_of_getElem? hl)
      have e1 : (ringsT ps rs).take (i + 1) = (ringsT ps rs).take i ++ [l] := take_push hl
      obtain ⟨b, rfl, sb⟩ := ts_ref hd2
      have ho3 := ho2.same kD
      repeat' (walk_at "jv")
      refine ⟨o, b, qs, l, rfl, ho3, sb, Nat.le_of_succ_le T.len, Nat.le_trans T.le8 (by decide), fun z hz => pm.mem_iff.mpr (T.sub z hz), by rw [pm.length_eq]; exact W.le8, fun H4 k4 => ?_⟩
      repeat' (walk_at "jv")
      intro T5 n5
      have k5 := Same.upd_new (o := .tup [.ref b, .int (fwdN qs l : Nat)]) n5
      have s5 : SqT K (upd H4 T5 (.tup [.ref b, .int (fwdN qs l : Nat)])) T5 [.ref b, .int (fwdN qs l : Nat)] := sq_tup upd_same
      replace sb := TK.same (K := K) (k4.trans k5) _ _ sb
      replace lD := lD.same (k4.trans k5)
      replace kD := kD.trans (k4.trans k5)
      generalize upd H4 T5 (.tup [.ref b, .int (fwdN qs l : Nat)]) = H5 at *
      obtain ⟨us2, eU, dU, tU⟩ := lD
      have hul2 : us2.length ≤ 14 := by
        have h1 := DpAll.len dU
        rw [List.length_map, List.length_map, List.length_take] at h1
        omega
      refine i_lcE eU (by rw [sizeLine_eq]; omega) ⟨nD, fun c oc y => (upd_ne (ne_of_none y nD)).trans (kD _ _ y), ?_⟩
      rw [e1, List.map_append, List.map_append]
      exact LsD.push eU dU tU (d := rcD (l, fwdN qs l)) (.tup s5 (.cons (ts_dp sb) (.cons (.int _) .nil))) (rcD_only _)
    · obtain ⟨nD, kD, lD⟩ := h
      rw [hul, List.take_length] at lD
      repeat' (walk_at "jv")
      exact q D H3 (free_same k12 nD) (k12.trans kD) lD
end
end
section
open L2 PySem PySem.Spec PyProof.Rows
abbrev s__law_told_rings : Stmt := topS 47
theorem sc__law_told_rings : FnScope ["_law_web_here", "_law_laid", "_law_got", "_law_one_here", "_law_other", "_law_ways", "_law_turn", "_law_here", "_law_there", "_law_ring", "_law_at", "_law_place"] ["_law_web_here"] (defScope s__law_told_rings) := ⟨rfl, rfl, rfl, by decide +kernel, rfl, by decide +kernel, by decide +kernel⟩
def spLRingsT (K : PySem.W.Frag) : Sp := fun vs H Q _ => ∃ (v : V) (ps : List Str) (rs : List (Str × Str)), vs = [v] ∧ WF K H v ps rs ∧ IsWeb ps rs ∧ ∀ D H', H D = none → Same H H' → LsD K H' D ((ringsT ps rs).map tsD) → Q (.ref D) H'
section
variable {base : Heap} {P : Program} {w : World} {K : PySem.W.Frag} {mg : Str → Option Value}
theorem ok_law_ringsT (D : Dn K mg "_law_told_rings" s__law_told_rings ["_law_web_here"]) (B : Bn mg) : Cl P w K mg base 1 "_law_told_rings" ["_law_web_here"] (spLRingsT K) := by
  refine D.cl sc__law_told_rings (fun vs H Q E h => ?_) (fun f cdv A outer s H vs Q E hr h => ?_)
  · obtain ⟨v, ps, rs, rfl, _⟩ := h
    rfl
  · obtain ⟨v, ps, rs, rfl, hw, W, q⟩ := h
    have l14 := W.le14
    have l8 := W.le8
    obtain ⟨t, tp, tr, rfl, st, ft, dr⟩ := hw
    obtain ⟨tr', xs, e, sr, dx⟩ := tup_parts dr
    obtain rfl : tr = tr' := by injection e
    have hxl : xs.length = rs.length := by rw [DpAll.len dx, List.length_map]
    refine ⟨_, (pss_cons (ps_par (i := 1) (j := 2) rfl sc__law_told_rings.nd rfl rfl (by decide) rfl rfl (pa_cons (pe_lst pa_nil) (pa_cons (pe_lst pa_nil) pa_nil)) (by rfl))
      (pss_cons (ps_for PassesOwn.never rfl (kpi_tup (K := K) (pe_ix (k_ixT (K := K)) (pv 0) pe_int (fun _ _ => rfl))) (kpg_tup (K := K) (n := 2) rfl (pgs_cons (pg_name (i := 3) sc__law_told_rings.nd rfl (by first | exact Or.inl rfl | exact Or.inr rfl)) (pgs_cons (pg_name (i := 4) sc__law_told_rings.nd rfl (by first | exact Or.inl rfl | exact Or.inr rfl)) pgs_nil))) (pss_cons (ps_set (i := 5) sc__law_told_rings.nd rfl (by first | exact Or.inl rfl | exact Or.inr rfl) (pe_disp (pps_cons (pv 3) (pe_tup (pa_cons (pv 3) pa_nil)) pps_nil) rfl rfl (List.cons_ne_nil _ _) (by decide)))
      (pss_cons (ps_for PassesOwn.never rfl (pi_range1 rfl B.range_ (pa_cons (pe_callB (k_len (K := K)) rfl B.len_ (by decide +kernel) (pa_cons (pe_ix (k_ixT (K := K)) (pv 0) pe_int (fun _ _ => rfl)) pa_nil)) pa_nil)) (pg_name (i := 6) sc__law_told_rings.nd rfl (by first | exact Or.inl rfl | exact Or.inr rfl)) (pss_one (ps_for PassesOwn.never rfl (kpi_list (K := K) (pv 1)) (kpg_tup (K := K) (n := 2) rfl (pgs_cons (pg_name (i := 7) sc__law_told_rings.nd rfl (by first | exact Or.inl rfl | exact Or.inr rfl)) (pgs_cons (pg_name (i := 8) sc__law_told_rings.nd rfl (by first | exact Or.inl rfl | exact Or.inr rfl)) pgs_nil))) (pss_one (ps_if (PW.pt (pw_and (pt_cmp (pc_din (hu1 hr) (pv 7) (pv 5))) (pw_and1 (pt_cmp (pc_dnotin (hu1 hr) (pv 8) (pv 5)))))) (pss_one (ps_dput (hu1 hr) (pv 5) (pv 8) (pe_op (k_catA (K := K)) (pe_dget (hu1 hr) (pv 5) (pv 7) (fun _ _ => rfl)) (pe_tup (pa_cons (pv 8) pa_nil))) rfl)) (pss_one (ps_if (PW.pt (pw_and (pt_cmp (pc_din (hu1 hr) (pv 8) (pv 5))) (pw_and1 (pt_cmp (pc_dnotin (hu1 hr) (pv 7) (pv 5)))))) (pss_one (ps_dput (hu1 hr) (pv 5) (pv 7) (pe_op (k_catA (K := K)) (pe_dget (hu1 hr) (pv 5) (pv 8) (fun _ _ => rfl)) (pe_tup (pa_cons (pv 7) pa_nil))) rfl)) pss_nil)))))))
      (pss_one (ps_if (pt_cmp (pc_dnotin (hu1 hr) (pv 4) (pv 5))) (pss_one (ps_expr (pe_bm PySem.F.plainAttrs_list PySem.F.slot_list_append PySem.F.type_list_append mt_append (pv 1) (pa_cons (pe_tup (pa_cons (pv 3) (pa_cons (pv 4) pa_nil))) pa_nil)))) (pss_cons (ps_set (i := 9) sc__law_told_rings.nd rfl (by first | exact Or.inl rfl | exact Or.inr rfl) (pe_dget (hu1 hr) (pv 5) (pv 4) (fun _ _ => rfl)))
      (pss_cons (ps_set (i := 10) sc__law_told_rings.nd rfl (by first | exact Or.inl rfl | exact Or.inr rfl) (k_bm (K := K) PySem.F.plainAttrs_list PySem.F.slot_list_index PySem.F.type_list_index (k_indexD (K := K) (hu65 hr)) (pe_lc (own := [("_law_place", 11)]) rfl sc__law_told_rings.nd (kpi_tup (K := K) (pv 9)) (blkOk_by (N := ["_law_web_here", "_law_laid", "_law_got", "_law_one_here", "_law_other", "_law_ways", "_law_turn", "_law_here", "_law_there", "_law_ring", "_law_at", "_law_place"]) (sc := defScope s__law_told_rings) (by decide +kernel)) (fun _ _ _ _ _ => (pg_name (i := 11) sc__law_told_rings.nd rfl (by first | exact Or.inl rfl | exact Or.inr rfl))) (fun _ _ _ _ _ => pts_nil) (fun _ _ _ _ _ => (pe_bmF PySem.F.plainAttrs_tuple PySem.F.slot_tuple_index PySem.F.type_tuple_index (k_tindex (K := K)) (pe_ix (k_ixT (K := K)) (pv 0) pe_int (fun _ _ => rfl)) (pa_cons (pv 11) pa_nil)))) (pa_cons (pe_callB (k_minN (K := K) rfl) rfl B.min_ (by decide +kernel) (pa_cons (pe_lc (own := [("_law_place", 11)]) rfl sc__law_told_rings.nd (kpi_tup (K := K) (pv 9)) (blkOk_by (N := ["_law_web_here", "_law_laid", "_law_got", "_law_one_here", "_law_other", "_law_ways", "_law_turn", "_law_here", "_law_there", "_law_ring", "_law_at", "_law_place"]) (sc := defScope s__law_told_rings) (by decide +kernel)) (fun _ _ _ _ _ => (pg_name (i := 11) sc__law_told_rings.nd rfl (by first | exact Or.inl rfl | exact Or.inr rfl))) (fun _ _ _ _ _ => pts_nil) (fun _ _ _ _ _ => (pe_bmF PySem.F.plainAttrs_tuple PySem.F.slot_tuple_index PySem.F.type_tuple_index (k_tindex (K := K)) (pe_ix (k_ixT (K := K)) (pv 0) pe_int (fun _ _ => rfl)) (pa_cons (pv 11) pa_nil)))) pa_nil)) pa_nil)))
      (pss_cons (ps_set (i := 9) sc__law_told_rings.nd rfl (by first | exact Or.inl rfl | exact Or.inr rfl) (pe_op (k_catA (K := K)) (pe_slice (ksl_tup (K := K)) (pv 9) (po_some (pv 10)) po_none) (pe_slice (ksl_tup (K := K)) (pv 9) po_none (po_some (pv 10)))))
      (pss_one (ps_expr (pe_bm PySem.F.plainAttrs_list PySem.F.slot_list_append PySem.F.type_list_append mt_append (pv 2) (pa_cons (pe_ifExp (pt_cmpR op_lt (pe_bmF PySem.F.plainAttrs_tuple PySem.F.slot_tuple_index PySem.F.type_tuple_index (k_tindex (K := K)) (pe_ix (k_ixT (K := K)) (pv 0) pe_int (fun _ _ => rfl)) (pa_cons (pe_ix (k_ixT (K := K)) (pv 9) pe_int (fun _ _ => rfl)) pa_nil)) (pe_bmF PySem.F.plainAttrs_tuple PySem.F.slot_tuple_index PySem.F.type_tuple_index (k_tindex (K := K)) (pe_ix (k_ixT (K := K)) (pv 0) pe_int (fun _ _ => rfl)) (pa_cons (pe_ix (k_ixT (K := K)) (pv 9) (pe_un un_neg pe_int) (fun _ _ => rfl)) pa_nil)) (nomark _)) (pv 9) (pe_op (k_catA (K := K)) (pe_slice (ksl_tup (K := K)) (pv 9) po_none (po_some pe_int)) (pe_revT (K := K) (pe_slice (ksl_tup (K := K)) (pv 9) (po_some pe_int) po_none)))) pa_nil))))))))))))
      (pss_one (ps_ret (pv 2))))), ?_⟩
    repeat' (walk_at "jv")
    intro LA nLA
    have kA := Same.upd_new (o := .lst []) nLA
    have eA : (upd H LA (.lst [])) LA = some (.lst []) := upd_same
    generalize upd H LA (.lst []) = H1 at *
    repeat' (walk_at "jv")
    intro LG nLG
    have nLGH : H LG = none := free_same kA nLG
    have neq : LA ≠ LG := ne_of_none eA nLG
    have kG := Same.upd_new (o := .lst []) nLG
    have eG : (upd H1 LG (.lst [])) LG = some (.lst []) := upd_same
    replace eA := kG _ _ eA
    replace kA := kA.trans kG
    generalize upd H1 LG (.lst []) = H2 at *
    clear kG nLG
    have st2 := TK.same (K := K) kA _ _ st
    have sr2 := TK.same (K := K) kA _ _ sr
    repeat' (walk_at "jv")
    refine f_tup xs (fun i σ H' => ∃ y3 y4 y5 y6 y7 y8 y9 ya yb, σ = [some (.ref t), some (.ref LA), some (.ref LG), y3, y4, y5, y6, y7, y8, y9, ya, yb] ∧ Same H H' ∧ LsD K H' LG ((ringsT ps (rs.take i)).map tsD) ∧ LsD K H' LA ((keptL (rs.take i)).map roadD)) ⟨_, _, _, _, _, _, _, _, _, rfl, kA, LsD.nil eG, LsD.nil eA⟩ (fun i σ H' _ h => ?_) (fun i x σ H3 hx h => ?_) (fun σ H3 h => ?_)
    · obtain ⟨y3, y4, y5, y6, y7, y8, y9, ya, yb, rfl, kk, _⟩ := h
      exact TK.same (K := K) kk _ _ sr
    · clear eA eG kA st2 sr2
      obtain ⟨y3, y4, y5, y6, y7, y8, y9, ya, yb, rfl, kk, lG, lA⟩ := h
      obtain ⟨r, b, hr2, rfl, sb⟩ := road_get (DpAll.same kk _ _ dx) hx
      have hi : i < rs.length := (List.getElem?_eq_some_iff.mp hr2).1
      have e1 : rs.take (i + 1) = rs.take i ++ [r] := take_push hr2
      have Wi : IsWeb ps (rs.take i) := web_sub W (List.take_sublist _ _)
      have Wk := web_kept Wi
      obtain ⟨w1, w2, w3⟩ := W.ends r (List.mem_of_getElem? hr2)
      have op := (kept_grp _ (rs.take i) rfl).2.1
      have es : rs = rs.take i ++ r :: rs.drop (i + 1) := by
        have h1 := (List.getElem?_eq_some_iff.mp hr2).2
        have h2 := List.drop_eq_getElem_cons hi
        rw [h1] at h2
        rw [← h2, List.take_append_drop]
      rw [e1, rings_snoc, kept_snoc]
      have hkl : (keptL (rs.take i)).length ≤ 14 := by
        have h1 := (kept_sub _ (rs.take i) rfl).length_le
        rw [List.length_take] at h1
        omega
      have hrl : (ringsT ps (rs.take i)).length ≤ 14 := by
        have h1 := told_le (rs.take i)
        rw [List.length_take] at h1
        unfold ringsT
        rw [List.length_map]
        omega
      generalize hks : keptL (rs.take i) = ks at *
      generalize ringsT ps (rs.take i) = fs at *
      have st3 := TK.same (K := K) kk _ _ st
      have ft3 := ft.same kk
      refine i_gtup sb rfl ?_
      repeat' (walk_at "jv")
      refine i_dispA fun Wd nW => ?_
      have kW := Same.upd_new (o := .dK []) nW
      have eW : (upd H3 Wd (.dK [])) Wd = some (.dK []) := upd_same
      generalize upd H3 Wd (.dK []) = H4 at *
      refine i_pairsA ?_
      repeat' (walk_at "jv")
      intro T nT
      have kT := Same.upd_new (o := .tup [.str r.1]) nT
      have sT : SqT K (upd H4 T (.tup [.str r.1])) T [.str r.1] := sq_tup upd_same
      replace eW := kT _ _ eW
      replace kW := kW.trans kT
      generalize upd H4 T (.tup [.str r.1]) = H5 at *
      clear kT nT
      refine i_pairsA0 ?_
      refine ⟨eW, [(Sum.inr r.1, .ref T)], rfl, by show 1 ≤ 15; decide, ?_⟩
      have tP := tk_sf (K := K) (p := Wd) (H := H5) (H' := upd H5 Wd (.dK (mergeK [] [(Sum.inr r.1, V.ref T)]))) Ch.upd_self (sf_dk eW)
      have fd : FlD K (upd H5 Wd (.dK (mergeK [] [(Sum.inr r.1, V.ref T)]))) Wd [(r.1, [r.1])] := ⟨fun _ => T, upd_same, fun q hq => by rw [List.mem_singleton.mp hq]; exact tP _ _ sT⟩
      have k6 : Same H3 (upd H5 Wd (.dK (mergeK [] [(Sum.inr r.1, V.ref T)]))) := fun c oc z => (upd_ne (ne_of_none z nW)).trans (kW _ _ z)
      generalize upd H5 Wd (.dK (mergeK [] [(Sum.inr r.1, V.ref T)])) = H6 at *
      clear tP sT eW kW
      have st6 := TK.same (K := K) k6 _ _ st3
      have ft6 := ft3.same k6
      have ft6q := ft6.sq (K := K)
      have hml : (ps.map V.str).length = ps.length := List.length_map ..
      repeat' (walk_at "jv")
      rw [hml, Int.toNat_natCast]
      have i0 := flood_init ks r.1
      obtain ⟨us, eA, dA, tA⟩ := id lA
      have hul : us.length = ks.length := by rw [DpAll.len dA, List.length_map]
      refine f_range (fun j σ H' => ∃ y6 y7 y8, σ = [some (.ref t), some (.ref LA), some (.ref LG), some (.str r.1), some (.str r.2), some (.ref Wd), y6, y7, y8, y9, ya, yb] ∧ Same H3 H' ∧ FlD K H' Wd (floodN ks j [(r.1, [r.1])])) ⟨_, _, _, rfl, k6, fd⟩ (fun j σ H7 hj h => ?_) (fun σ H7 h => ?_)
      · clear fd k6 st6 ft6 ft6q
        obtain ⟨y6, y7, y8, rfl, k7, fd⟩ := h
        have I7 : FInv ks r.1 (floodN ks j [(r.1, [r.1])]) := floodN_inv j _ i0
        have eA7 := k7 _ _ eA
        rw [floodN_succ]
        generalize floodN ks j [(r.1, [r.1])] = M at *
        repeat' (walk_at "jv")
        refine f_list us (fun e σ H' => ∃ y7 y8, σ = [some (.ref t), some (.ref LA), some (.ref LG), some (.str r.1), some (.str r.2), some (.ref Wd), some (.int (0 + (j : Int))), y7, y8, y9, ya, yb] ∧ Same H3 H' ∧ FlD K H' Wd ((ks.take e).foldl floodS M)) ⟨_, _, rfl, k7, fd⟩ (fun e σ H' _ h => ?_) (fun e x σ H8 hx h => ?_) (fun σ H8 h => ?_)
        · obtain ⟨y7, y8, rfl, k8, fd⟩ := h
          exact sq_lst (k8 _ _ eA)
        · clear fd k7 eA7
          obtain ⟨y7, y8, rfl, k8, fd⟩ := h
          obtain ⟨rr, b2, hr3, rfl, sb2⟩ := road_get (DpAll.same k8 _ _ dA) hx
          have et : ks.take (e + 1) = ks.take e ++ [rr] := take_push hr3
          have I8 : FInv ks r.1 ((ks.take e).foldl floodS M) := flood_fold _ M I7 (fun q hq => List.mem_of_mem_take hq)
          obtain ⟨ml, lw⟩ := flood_le Wk w1 I8
          rw [et, List.foldl_append]
          have ef0 : List.foldl floodS ((ks.take e).foldl floodS M) [rr] = floodS ((ks.take e).foldl floodS M) rr := rfl
          rw [ef0]
          generalize (ks.take e).foldl floodS M = M2 at *
          refine i_gtup sb2 rfl ?_
          repeat' (walk_at "jv")
          cases c1 : wayOf M2 rr.1 with
          | none =>
            cases c2 : wayOf M2 rr.2 with
            | none =>
              have ef : floodS M2 rr = M2 := by unfold floodS; rw [c1, c2]
              refine i_dIn ?_
              repeat' (walk_at "jv")
              obtain ⟨o1, g1, z1⟩ := fd.has rr.1
              refine ⟨Wd, o1, rfl, g1, ?_⟩
              rw [show o1.isSome = false from by rw [z1, c1]; rfl]
              repeat' (walk_at "jv")
              refine i_dIn ?_
              repeat' (walk_at "jv")
              obtain ⟨o2, g2, z2⟩ := fd.has rr.2
              refine ⟨Wd, o2, rfl, g2, ?_⟩
              rw [show o2.isSome = false from by rw [z2, c2]; rfl]
              repeat' (walk_at "jv")
              rw [ef]
              exact ⟨_, _, rfl, k8, fd⟩
            | some l =>
              have ef : floodS M2 rr = M2 ++ [(rr.1, l ++ [rr.1])] := by unfold floodS; rw [c1, c2]
              refine i_dIn ?_
              repeat' (walk_at "jv")
              obtain ⟨o1, g1, z1⟩ := fd.has rr.1
              refine ⟨Wd, o1, rfl, g1, ?_⟩
              rw [show o1.isSome = false from by rw [z1, c1]; rfl]
              repeat' (walk_at "jv")
              refine i_dIn ?_
              repeat' (walk_at "jv")
              obtain ⟨o2, g2, z2⟩ := fd.has rr.2
              refine ⟨Wd, o2, rfl, g2, ?_⟩
              rw [show o2.isSome = true from by rw [z2, c2]; rfl]
              repeat' (walk_at "jv")
              refine i_dNotIn ?_
              repeat' (walk_at "jv")
              obtain ⟨o1, g1, z1⟩ := fd.has rr.1
              refine ⟨Wd, o1, rfl, g1, ?_⟩
              rw [show o1.isSome = false from by rw [z1, c1]; rfl]
              repeat' (walk_at "jv")
              refine i_dPut ?_
              repeat' (walk_at "jv")
              refine i_dGetK ?_
              repeat' (walk_at "jv")
              obtain ⟨bw, gw, sw⟩ := fd.get c2
              refine ⟨Wd, .ref bw, rfl, gw, ?_⟩
              repeat' (walk_at "jv")
              intro T2 nT2
              have kT2 := Same.upd_new (o := .tup [.str rr.1]) nT2
              have sT2 : SqT K (upd H8 T2 (.tup [.str rr.1])) T2 [.str rr.1] := sq_tup upd_same
              replace sw := TK.same (K := K) kT2 _ _ sw
              replace fd := fd.same kT2
              replace k8 := k8.trans kT2
              generalize upd H8 T2 (.tup [.str rr.1]) = H9 at *
              have hll := (lw _ _ c2).1
              repeat' (walk_at "jv")
              refine i_catG sw sT2 (by rw [List.length_map, sizeLine_eq]; show l.length + 1 ≤ _; omega) fun T4 H10 k10 s10 => ?_
              have s11 : SqT K H10 T4 ((l ++ [rr.1]).map V.str) := by rw [List.map_append]; exact s10
              obtain ⟨H11, hp, ch, tk, fd11, _⟩ := (fd.same k10).put c1 s11 (by rw [sizeLine_eq]; omega)
              repeat' (walk_at "jv")
              refine ⟨Wd, H11, rfl, hp, ?_⟩
              repeat' (walk_at "jv")
              refine ⟨_, _, rfl, fun c oc z => ch c oc (fun e => by rw [e, nW] at z; cases z) (k10 _ _ (k8 _ _ z)), ?_⟩
              rw [ef]
              exact fd11
          | some l =>
            cases c2 : wayOf M2 rr.2 with
            | none =>
              have ef : floodS M2 rr = M2 ++ [(rr.2, l ++ [rr.2])] := by unfold floodS; rw [c1, c2]
              refine i_dIn ?_
              repeat' (walk_at "jv")
              obtain ⟨o1, g1, z1⟩ := fd.has rr.1
              refine ⟨Wd, o1, rfl, g1, ?_⟩
              rw [show o1.isSome = true from by rw [z1, c1]; rfl]
              repeat' (walk_at "jv")
              refine i_dNotIn ?_
              repeat' (walk_at "jv")
              obtain ⟨o2, g2, z2⟩ := fd.has rr.2
              refine ⟨Wd, o2, rfl, g2, ?_⟩
              rw [show o2.isSome = false from by rw [z2, c2]; rfl]
              repeat' (walk_at "jv")
              refine i_dPut ?_
              repeat' (walk_at "jv")
              refine i_dGetK ?_
              repeat' (walk_at "jv")
              obtain ⟨bw, gw, sw⟩ := fd.get c1
              refine ⟨Wd, .ref bw, rfl, gw, ?_⟩
              repeat' (walk_at "jv")
              intro T2 nT2
              have kT2 := Same.upd_new (o := .tup [.str rr.2]) nT2
              have sT2 : SqT K (upd H8 T2 (.tup [.str rr.2])) T2 [.str rr.2] := sq_tup upd_same
              replace sw := TK.same (K := K) kT2 _ _ sw
              replace fd := fd.same kT2
              replace k8 := k8.trans kT2
              generalize upd H8 T2 (.tup [.str rr.2]) = H9 at *
              have hll := (lw _ _ c1).1
              repeat' (walk_at "jv")
              refine i_catG sw sT2 (by rw [List.length_map, sizeLine_eq]; show l.length + 1 ≤ _; omega) fun T4 H10 k10 s10 => ?_
              have s11 : SqT K H10 T4 ((l ++ [rr.2]).map V.str) := by rw [List.map_append]; exact s10
              obtain ⟨H11, hp, ch, tk, fd11, _⟩ := (fd.same k10).put c2 s11 (by rw [sizeLine_eq]; omega)
              repeat' (walk_at "jv")
              refine ⟨Wd, H11, rfl, hp, ?_⟩
              repeat' (walk_at "jv")
              refine ⟨_, _, rfl, fun c oc z => ch c oc (fun e => by rw [e, nW] at z; cases z) (k10 _ _ (k8 _ _ z)), ?_⟩
              rw [ef]
              exact fd11
            | some l2 =>
              have ef : floodS M2 rr = M2 := by unfold floodS; rw [c1, c2]
              refine i_dIn ?_
              repeat' (walk_at "jv")
              obtain ⟨o1, g1, z1⟩ := fd.has rr.1
              refine ⟨Wd, o1, rfl, g1, ?_⟩
              rw [show o1.isSome = true from by rw [z1, c1]; rfl]
              repeat' (walk_at "jv")
              refine i_dNotIn ?_
              repeat' (walk_at "jv")
              obtain ⟨o2, g2, z2⟩ := fd.has rr.2
              refine ⟨Wd, o2, rfl, g2, ?_⟩
              rw [show o2.isSome = true from by rw [z2, c2]; rfl]
              repeat' (walk_at "jv")
              refine i_dIn ?_
              repeat' (walk_at "jv")
              obtain ⟨o2, g2, z2⟩ := fd.has rr.2
              refine ⟨Wd, o2, rfl, g2, ?_⟩
              rw [show o2.isSome = true from by rw [z2, c2]; rfl]
              repeat' (walk_at "jv")
              refine i_dNotIn ?_
              repeat' (walk_at "jv")
              obtain ⟨o1, g1, z1⟩ := fd.has rr.1
              refine ⟨Wd, o1, rfl, g1, ?_⟩
              rw [show o1.isSome = true from by rw [z1, c1]; rfl]
              repeat' (walk_at "jv")
              rw [ef]
              exact ⟨_, _, rfl, k8, fd⟩
        · obtain ⟨y7, y8, rfl, k8, fd⟩ := h
          rw [hul, List.take_length] at fd
          repeat' (walk_at "jv")
          exact ⟨_, _, _, rfl, k8, fd⟩
      · clear fd k6 st6 ft6 ft6q
        obtain ⟨y6, y7, y8, rfl, k7, fd⟩ := h
        have hwf := wayF_is (r := r) (ks := ks) Wk w1
        obtain ⟨I9, hnone⟩ := flood_ends Wk w1
        have st7 := TK.same (K := K) k7 _ _ st3
        have ft7 := ft3.same k7
        have kk7 := kk.trans k7
        obtain ⟨us7, eA7, dA7, tA7⟩ := lA.same k7
        obtain ⟨ug7, eG7, dG7, tG7⟩ := lG.same k7
        have hug : ug7.length = fs.length := by rw [DpAll.len dG7, List.length_map]
        have hus : us7.length = ks.length := by rw [DpAll.len dA7, List.length_map]
        clear dA eA hul i0 st3 ft3 lA lG
        repeat' (walk_at "jv")
        refine i_dNotIn ?_
        repeat' (walk_at "jv")
        obtain ⟨o, g, z⟩ := fd.has r.2
        refine ⟨Wd, o, rfl, g, ?_⟩
        cases c : wayOf (floodN ks ps.length [(r.1, [r.1])]) r.2 with
        | none =>
          have hg : ¬ r.2 ∈ grpL ks r.1 := fun hg => (hnone r.2).mp c ((grp_conn Wk w1).mp hg).2
          rw [show o.isSome = false from by rw [z, c]; rfl]
          rw [if_neg hg, List.append_nil]
          have hgk : keptS ks r = ks ++ [r] := by unfold keptS; rw [if_neg hg]
          rw [hgk]
          repeat' (walk_at "jv")
          intro T nT
          have kT := Same.upd_new (o := .tup [.str r.1, .str r.2]) nT
          have sT : SqT K (upd H7 T (.tup [.str r.1, .str r.2])) T [.str r.1, .str r.2] := sq_tup upd_same
          replace eA7 := kT _ _ eA7
          replace eG7 := kT _ _ eG7
          replace dA7 := DpAll.same kT _ _ dA7
          replace dG7 := DpAll.same kT _ _ dG7
          replace kk7 := kk7.trans kT
          generalize upd H7 T (.tup [.str r.1, .str r.2]) = H8 at *
          clear kT nT fd g
          repeat' (walk_at "jv")
          have tkl : TK K H8 (upd H8 LA (.lst (us7 ++ [.ref T]))) := TK.lst eA7
          refine ⟨_, _, _, _, _, _, _, _, _, rfl, fun c oc z => (upd_ne (ne_of_none z nLA)).trans (kk7 _ _ z), ⟨ug7, (upd_ne (Ne.symm neq)).trans eG7, DpAll.tk tkl _ _ tG7 dG7, tG7⟩, ?_⟩
          rw [List.map_append]
          exact LsD.push eA7 dA7 tA7 (d := roadD r) (.tup sT (.cons (.str _) (.cons (.str _) .nil))) rfl
        | some l =>
          have cn : Conn ks r.1 r.2 := Classical.byContradiction fun n => by
            rw [(hnone r.2).mpr n] at c
            cases c
          have hg : r.2 ∈ grpL ks r.1 := (grp_conn Wk w1).mpr ⟨w2, cn⟩
          have hc : (ks, r) ∈ toldL rs := (told_mem _ rs rfl _).mpr ⟨rs.take i, rs.drop (i + 1), es, by rw [hks]; exact hg, hks.symm⟩
          have R := told_rung W hc
          have el : l = wayF ps (ks, r) := by
            have h1 := (hwf cn).1
            rw [c] at h1
            exact Option.some.inj h1
          rw [show o.isSome = true from by rw [z, c]; rfl]
          rw [if_pos hg]
          have hgk : keptS ks r = ks := by unfold keptS; rw [if_pos hg]
          rw [hgk, ← el]
          have l2 := R.len
          have l8' := R.le8
          rw [← el] at l2 l8'
          have rsub := R.sub
          rw [← el] at rsub
          have rnd := R.sw.nd
          rw [← el] at rnd
          repeat' (walk_at "jv")
          refine i_dGetK ?_
          repeat' (walk_at "jv")
          obtain ⟨bw, gw, sw⟩ := fd.get c
          refine ⟨Wd, .ref bw, rfl, gw, ?_⟩
          repeat' (walk_at "jv")
          refine c_tup (l.map V.str) (fun D i H' => H7 D = none ∧ Same H7 H' ∧ H' D = some (.lst (natsV (numsR ps (l.take i))))) (fun D nD => ⟨nD, Same.upd_new nD, upd_same⟩) (fun D i H' _ h => TK.same (K := K) h.2.1 _ _ sw) (fun D i x H' hx h => ?_) (fun D1 H8 h => ?_)
          · obtain ⟨nD, kD, eD⟩ := h
            rw [List.getElem?_map] at hx
            obtain ⟨z, hz, rfl⟩ := Option.map_eq_some_iff.mp hx
            have hi : i < l.length := (List.getElem?_eq_some_iff.mp hz).1
            have st' := TK.same (K := K) kD _ _ st7
            have fp' := ft7.same kD
            repeat' (walk_at "jv")
            refine i_bmF ?_
            repeat' (walk_at "jv")
            refine ⟨⟨tp, _, rfl, fp'⟩, ?_⟩
            repeat' (walk_at "jv")
            refine i_tix fp'.sq (rsub _ (List.mem_of_getElem? hz)) ?_
            refine i_lcE eD (by rw [sizeLine_eq]; show ((numsR ps (l.take i)).map _).length < _; rw [List.length_map, nums_len, List.length_take]; omega) ⟨nD, fun c oc y => (upd_ne (ne_of_none y nD)).trans (kD _ _ y), ?_⟩
            have e1 : l.take (i + 1) = l.take i ++ [z] := take_push hz
            rw [e1]
            unfold numsR natsV
            rw [List.map_append, List.map_append]
            exact upd_same
          obtain ⟨nD1, k8, e1⟩ := h
          rw [List.length_map, List.take_length] at e1
          replace st7 := TK.same (K := K) k8 _ _ st7
          replace ft7 := ft7.same k8
          replace sw := TK.same (K := K) k8 _ _ sw
          replace kk7 := kk7.trans k8
          replace eA7 := k8 _ _ eA7
          replace eG7 := k8 _ _ eG7
          replace dA7 := DpAll.same k8 _ _ dA7
          replace dG7 := DpAll.same k8 _ _ dG7
          clear k8 nD1 fd gw g
          refine i_tyL (sq_lst e1) ?_
          repeat' (walk_at "jv")
          refine c_tup (l.map V.str) (fun D i H' => H8 D = none ∧ Same H8 H' ∧ H' D = some (.lst (natsV (numsR ps (l.take i))))) (fun D nD => ⟨nD, Same.upd_new nD, upd_same⟩) (fun D i H' _ h => TK.same (K := K) h.2.1 _ _ sw) (fun D i x H' hx h => ?_) (fun D2 H9 h => ?_)
          · obtain ⟨nD, kD, eD⟩ := h
            rw [List.getElem?_map] at hx
            obtain ⟨z, hz, rfl⟩ := Option.map_eq_some_iff.mp hx
            have hi : i < l.length := (List.getElem?_eq_some_iff.mp hz).1
            have st' := TK.same (K := K) kD _ _ st7
            have fp' := ft7.same kD
            repeat' (walk_at "jv")
            refine i_bmF ?_
            repeat' (walk_at "jv")
            refine ⟨⟨tp, _, rfl, fp'⟩, ?_⟩
            repeat' (walk_at "jv")
            refine i_tix fp'.sq (rsub _ (List.mem_of_getElem? hz)) ?_
            refine i_lcE eD (by rw [sizeLine_eq]; show ((numsR ps (l.take i)).map _).length < _; rw [List.length_map, nums_len, List.length_take]; omega) ⟨nD, fun c oc y => (upd_ne (ne_of_none y nD)).trans (kD _ _ y), ?_⟩
            have e1 : l.take (i + 1) = l.take i ++ [z] := take_push hz
            rw [e1]
            unfold numsR natsV
            rw [List.map_append, List.map_append]
            exact upd_same
          obtain ⟨nD2, k8, e2⟩ := h
          rw [List.length_map, List.take_length] at e2
          replace st7 := TK.same (K := K) k8 _ _ st7
          replace ft7 := ft7.same k8
          replace sw := TK.same (K := K) k8 _ _ sw
          replace kk7 := kk7.trans k8
          replace eA7 := k8 _ _ eA7
          replace eG7 := k8 _ _ eG7
          replace dA7 := DpAll.same k8 _ _ dA7
          replace dG7 := DpAll.same k8 _ _ dG7
          replace e1 := k8 _ _ e1
          clear k8 nD2
          have nne : numsR ps l ≠ [] := fun e => by
            have := nums_len ps l
            rw [e] at this
            have : (0 : Nat) = l.length := this
            omega
          repeat' (walk_at "jv")
          refine ⟨D2, numsR ps l, rfl, sq_lst e2, nne, ?_⟩
          repeat' (walk_at "jv")
          refine i_indexN (sq_lst e1) (fun x hx => by have := nums_lt rsub x hx; omega) (lstN_is nne).1 ?_
          have ei : (numsR ps l).idxOf (lstN (numsR ps l)) = lstI ps l := rfl
          rw [ei]
          clear e1 e2
          repeat' (walk_at "jv")
          refine i_slG sw fun A1 H1' k1 s1 => ?_
          rw [cut_from, ← List.map_drop] at s1
          have sw1 := TK.same (K := K) k1 _ _ sw
          repeat' (walk_at "jv")
          refine i_slG sw1 fun A2 H2' k2 s2 => ?_
          rw [cut_take, ← List.map_take] at s2
          replace s1 := TK.same (K := K) k2 _ _ s1
          repeat' (walk_at "jv")
          refine i_catG s1 s2 (by rw [List.length_map, List.length_map, List.length_drop, List.length_take, sizeLine_eq]; omega) fun A3 H3' k3 s3 => ?_
          rw [← List.map_append] at s3
          have s4 : SqT K H3' A3 ((turnR ps l).map V.str) := s3
          have k123 := (k1.trans k2).trans k3
          replace st7 := TK.same (K := K) k123 _ _ st7
          replace ft7 := ft7.same k123
          replace kk7 := kk7.trans k123
          replace eA7 := k123 _ _ eA7
          replace eG7 := k123 _ _ eG7
          replace dA7 := DpAll.same k123 _ _ dA7
          replace dG7 := DpAll.same k123 _ _ dG7
          have htl := turn_len ps l
          have tlaw := tell_law rsub rnd (by omega)
          have tmem : ∀ z ∈ turnR ps l, z ∈ ps := fun z hz => rsub z (turn_mem.mp hz)
          clear s3 s1 s2 sw1 sw k123 k1 k2 k3
          generalize turnR ps l = tu at *
          have g1 : atI (tu.map V.str) 1 = some (.str (tu.getD 1 "")) := atI_nat (j := 1) (by
            rw [List.getElem?_map, List.getD_eq_getElem?_getD, List.getElem?_eq_getElem (by omega)]
            rfl)
          have gneg : atI (tu.map V.str) (-1) = some (.str (tu.getD (l.length - 1) "")) := at_neg (by
            rw [List.length_map, List.getElem?_map, List.getD_eq_getElem?_getD, htl, List.getElem?_eq_getElem (by omega)]
            rfl)
          have m1 : tu.getD 1 "" ∈ ps := tmem _ (by rw [List.getD_eq_getElem?_getD, List.getElem?_eq_getElem (by omega)]; exact List.getElem_mem _)
          have m2 : tu.getD (l.length - 1) "" ∈ ps := tmem _ (by rw [List.getD_eq_getElem?_getD, List.getElem?_eq_getElem (by omega)]; exact List.getElem_mem _)
          refine i_gname ?_
          refine i_drop ?_
          refine i_bm ?_
          refine i_var rfl ?_
          refine i_tyL (sq_lst eG7) ?_
          refine i_cons ?_
          refine i_cut (fun v H' => ∃ T, v = .ref T ∧ Same H3' H' ∧ SqT K H' T ((tellR ps l).map V.str)) (fun Q' hQ => ?_) ?_
          · have ft7q := ft7.sq (K := K)
            repeat' (walk_at "jv")
            refine i_bmF ?_
            repeat' (walk_at "jv")
            refine ⟨⟨tp, _, rfl, ft7⟩, ?_⟩
            repeat' (walk_at "jv")
            refine i_tix ft7.sq m1 ?_
            repeat' (walk_at "jv")
            refine i_bmF ?_
            repeat' (walk_at "jv")
            refine ⟨⟨tp, _, rfl, ft7⟩, ?_⟩
            repeat' (walk_at "jv")
            refine i_tix ft7.sq m2 ?_
            repeat' (walk_at "jv")
            · rename_i cc
              rw [if_pos (Int.ofNat_lt.mp cc)] at tlaw
              refine hQ _ _ ⟨A3, rfl, fun _ _ z => z, ?_⟩
              rw [tlaw]
              exact s4
            · rename_i cc
              rw [if_neg (fun h => cc (Int.ofNat_lt.mpr h))] at tlaw
              refine i_slG s4 fun A4 H4' k4 s5 => ?_
              rw [show cutV (tu.map V.str) none (some 1) = (tu.map V.str).take 1 from cut_take (k := 1)] at s5
              have s4' := TK.same (K := K) k4 _ _ s4
              repeat' (walk_at "jv")
              refine i_revT ?_
              repeat' (walk_at "jv")
              refine i_slG s4' fun A5 H5' k5 s6 => ?_
              rw [show cutV (tu.map V.str) (some 1) none = (tu.map V.str).drop 1 from cut_from (k := 1)] at s6
              replace s5 := TK.same (K := K) k5 _ _ s5
              refine ⟨A5, _, rfl, s6, fun A6 ob n6 o6 => ?_⟩
              have k6 := Same.upd_new (o := .frz ob (.tup ((tu.map V.str).drop 1).reverse)) n6
              have s7 := (FT.new (H := H5') (p := A6) (xs := ((tu.map V.str).drop 1).reverse) o6).sq (K := K)
              replace s5 := TK.same (K := K) k6 _ _ s5
              have hmt : (tu.map V.str).length = tu.length := List.length_map ..
              repeat' (walk_at "jv")
              refine i_catG s5 s7 (by rw [List.length_take, List.length_reverse, List.length_drop, sizeLine_eq]; omega) fun A7 H7' k7' s8 => ?_
              refine hQ _ _ ⟨A7, rfl, ((k4.trans k5).trans k6).trans k7', ?_⟩
              rw [tlaw, List.map_append, List.map_reverse, List.map_take, List.map_drop]
              exact s8
          · rintro v H9' ⟨A9, rfl, k9, s9⟩
            replace kk7 := kk7.trans k9
            replace eA7 := k9 _ _ eA7
            replace eG7 := k9 _ _ eG7
            replace dA7 := DpAll.same k9 _ _ dA7
            replace dG7 := DpAll.same k9 _ _ dG7
            repeat' (walk_at "jv")
            have tkl : TK K H9' (upd H9' LG (.lst (ug7 ++ [.ref A9]))) := TK.lst eG7
            refine ⟨_, _, _, _, _, _, _, _, _, rfl, fun c oc z => (upd_ne (ne_of_none z nLGH)).trans (kk7 _ _ z), ?_, ⟨us7, (upd_ne neq).trans eA7, DpAll.tk tkl _ _ tA7 dA7, tA7⟩⟩
            rw [List.map_append]
            exact LsD.push eG7 dG7 tG7 (ts_dp s9) (tsD_only _)
    · obtain ⟨y3, y4, y5, y6, y7, y8, y9, ya, yb, rfl, kk, lG, _⟩ := h
      rw [hxl, List.take_length] at lG
      repeat' (walk_at "jv")
      exact q LG H3 nLGH kk lG
end
end
section
open L2 PySem PySem.Spec PyProof.Rows
abbrev s_law : Stmt := topS 48
theorem sc_law : FnScope ["_law_script", "_law_k", "_law_feed_here", "_law_web_here", "_law_order_here", "_law_rings", "_law_due", "_law_told", "_law_mixed_here", "_law_other", "_law_alike", "_law_ring", "_law_many"] ["_law_script"] (defScope s_law) := ⟨rfl, rfl, rfl, by decide +kernel, rfl, by decide +kernel, by decide +kernel⟩
def spOrderF (K : PySem.W.Frag) : Sp := fun vs H Q _ => ∃ (a : Addr) (v : V) (ps : List Str) (rs : List (Str × Str)) (c : Int), vs = [.ref a, v] ∧ Fd H a c ∧ Dp K H v (webD ps rs) ∧ ps.length ≤ 8 ∧ c < 10 ^ 13 ∧
  ∀ (T : Addr) (qs : List Str) (H' : Hp), qs.Perm ps → FT H' T (qs.map V.str) → Fd H' a (c + 1000) → Ch a H H' → Q (.ref T) H'
def spLaw (K : PySem.W.Frag) : Sp := fun vs H Q _ => ∃ (a : Addr) (ns : List Int), vs = [.ref a] ∧ SqL K H a (ns.map V.int) ∧ ns.length ≤ 63 ∧ ∀ H', Q (.bl true) H'
theorem cnts_ok {ps qs : List Str} {rs : List (Str × Str)} (W : IsWeb ps rs) : ∀ p ∈ cntsR ps rs qs, (∀ z ∈ p.1, nmOk z = true) ∧ p.1.length ≤ 8 ∧ p.2 ≤ 50 := fun p hp => by
  obtain ⟨t, ht, rfl⟩ := List.mem_map.mp hp
  have T := rings_tell W ht
  have l3 := T.len
  have hlt : fwdN qs t < t.length := fwd_lt (fun e => by rw [e] at l3; exact absurd l3 (by decide))
  have := T.le8
  exact ⟨fun z hz => W.names.2 _ (T.sub z hz), T.le8, by show fwdN qs t ≤ 50; omega⟩
theorem cnts_len {ps qs : List Str} {rs : List (Str × Str)} (W : IsWeb ps rs) : (cntsR ps rs qs).length = (toldL rs).length ∧ (toldL rs).length ≤ 14 := by
  have h1 := told_le rs
  have := W.le14
  unfold cntsR ringsT
  rw [List.length_map, List.length_map]
  exact ⟨rfl, by omega⟩
theorem cnts_shown {ps qs : List Str} {rs : List (Str × Str)} (W : IsWeb ps rs) : (PyData.list ((cntsR ps rs qs).map rcD)).showable = true ∧ (PyData.list ((cntsR ps rs qs).map rcD)).hasDict = false ∧ (PyData.list ((cntsR ps rs qs).map rcD)).depth ≤ 40 ∧ (PyData.list ((cntsR ps rs qs).map rcD)).shown.length ≤ sizeLine := rcs_shown (cnts_ok (qs := qs) W) (by rw [(cnts_len (qs := qs) W).1]; exact (cnts_len (qs := qs) W).2)
theorem rc_parts {K : PySem.W.Frag} {H : Hp} {v : V} {p : List Str × Nat} (h : Dp K H v (rcD p)) : ∃ b rb, v = .ref b ∧ SqT K H b [.ref rb, .int (p.2 : Nat)] ∧ SqT K H rb (p.1.map V.str) := by
  obtain ⟨b, xs, rfl, s, d⟩ := tup_parts h
  cases d with
  | cons h1 h2 =>
    cases h2 with
    | cons h2 h3 =>
      cases h3
      obtain ⟨rb, rfl, sr⟩ := ts_ref h1
      cases h2
      exact ⟨b, rb, rfl, s, sr⟩
theorem web_perm {ps : List Str} {rs rs' : List (Str × Str)} (W : IsWeb ps rs) (pm : rs'.Perm rs) : IsWeb ps rs' :=
  ⟨W.names, W.pos, W.le8, by rw [pm.length_eq]; exact W.le14, fun r hr => W.ends r (pm.mem_iff.mp hr), (List.Perm.pairwise_iff (fun {x y} h => ⟨fun e => h.1 e.symm, fun e => h.2 (by rw [e])⟩) pm).mpr W.uniq⟩
theorem road_perm {rs rs' : List (Str × Str)} (pm : rs'.Perm rs) (x y : Str) : isRoad rs' x y = isRoad rs x y := by
  unfold isRoad
  rw [decide_eq_decide.mpr (pm.mem_iff (a := (x, y))), decide_eq_decide.mpr (pm.mem_iff (a := (y, x)))]
theorem rc_eq {K : PySem.W.Frag} {H : Hp} {Q : VK} {D E : Addr} {l m : List (List Str × Nat)} (d : LsD K H D (l.map rcD)) (e : LsD K H E (m.map rcD)) (hl : ∀ p ∈ l, (∀ z ∈ p.1, nmOk z = true) ∧ p.1.length ≤ 8 ∧ p.2 ≤ 50) (hm : ∀ p ∈ m, (∀ z ∈ p.1, nmOk z = true) ∧ p.1.length ≤ 8 ∧ p.2 ≤ 50) (q : Q (.bl (decide (l = m))) H) : rEqD K (.ref D) (.ref E) H Q :=
  ⟨_, _, d.dp, e.dp, rcs_shaped hl, rcs_shaped hm, by rw [rcs_eqd]; exact q⟩
theorem rc_ne {K : PySem.W.Frag} {H : Hp} {Q : VK} {D E : Addr} {l m : List (List Str × Nat)} (d : LsD K H D (l.map rcD)) (e : LsD K H E (m.map rcD)) (hl : ∀ p ∈ l, (∀ z ∈ p.1, nmOk z = true) ∧ p.1.length ≤ 8 ∧ p.2 ≤ 50) (hm : ∀ p ∈ m, (∀ z ∈ p.1, nmOk z = true) ∧ p.1.length ≤ 8 ∧ p.2 ≤ 50) (q : Q (.bl (!decide (l = m))) H) : rNeD K (.ref D) (.ref E) H Q :=
  ⟨_, _, d.dp, e.dp, rcs_shaped hl, rcs_shaped hm, by rw [rcs_eqd]; exact q⟩
theorem back_ok {ps qs : List Str} {rs : List (Str × Str)} (W : IsWeb ps rs) : ∀ p ∈ (cntsR ps rs qs).map (fun p => (p.1, p.1.length - p.2)), (∀ z ∈ p.1, nmOk z = true) ∧ p.1.length ≤ 8 ∧ p.2 ≤ 50 := fun p hp => by
  obtain ⟨x, hx, rfl⟩ := List.mem_map.mp hp
  obtain ⟨h1, h2, h3⟩ := cnts_ok W x hx
  exact ⟨h1, h2, by show x.1.length - x.2 ≤ 50; omega⟩
section
variable {base : Heap} {P : Program} {w : World} {K : PySem.W.Frag} {mg : Str → Option Value}
theorem ok_orderF (D : Dn K mg "_law_order" s__law_order ["_law_feed_here", "_law_web_here"]) (B : Bn mg) (C__law_mixed : Cl P w K mg base 2 "_law_mixed" ["_law_feed_here", "_law_things"] (spMixedT K)) :
    Cl P w K mg base 3 "_law_order" ["_law_feed_here", "_law_web_here"] (spOrderF K) := by
  refine D.cl sc__law_order (fun vs H Q E h => ?_) (fun f cdv A outer s H vs Q E hr h => ?_)
  · obtain ⟨a, v, ps, rs, c, rfl, _⟩ := h
    rfl
  · obtain ⟨a, v, ps, rs, c, rfl, hf, hd, hl, hc, q⟩ := h
    obtain ⟨t, tp, tr, xs, rfl, s1, s2, s3, d3, dr, dpl⟩ := web_parts hd
    refine ⟨_, (pss_one (ps_ret (pe_callTy (k_tupleF (K := K)) rfl B.tuple_ (by decide +kernel) (pa_cons (pe_c C__law_mixed hr (pa_cons (pv 0) (pa_cons (pe_ix (k_ixT (K := K)) (pv 1) pe_int (fun _ _ => rfl)) pa_nil))) pa_nil)))), ?_⟩
    repeat' (walk_at "jv")
    refine ⟨a, tp, c, ps.map V.str, rfl, hf, s2, by rw [List.length_map]; omega, by omega, fun G ys H1 pm nG eG f1 k1 => ?_⟩
    obtain ⟨es, pe2, dz⟩ := DpAll.perm pm (DpAll.strs (K := K) (H := H1) ps)
    obtain ⟨qs, pq, rfl⟩ := perm_map_inv pe2 rfl
    have ez := DpAll.strs_inv dz
    subst ez
    refine i_nil ?_
    refine ⟨G, _, rfl, sq_lst eG, fun T ob nT ok => ?_⟩
    exact q T qs _ pq (FT.new ok) (f1.upd (Ne.symm (f1.ne nT))) (k1.trans (Ch.upd_new nT))
theorem ok_law {fL : Addr} {fdL : FuncData} (F : Fun K "law" "law" s_law fL fdL) (B : Bn mg) (C__law_feed : Cl P w K mg base 1 "_law_feed" ["_law_script", "_law_k"] (spFeed K)) (C__law_mixed : Cl P w K mg base 2 "_law_mixed" ["_law_feed_here", "_law_things"] (spMixedT K)) (C__law_some_web : Cl P w K mg base 5 "_law_some_web" ["_law_feed_here", "_law_most"] (spSomeN K))
    (C__law_order : Cl P w K mg base 3 "_law_order" ["_law_feed_here", "_law_web_here"] (spOrderF K)) (C__law_moves : Cl P w K mg base 2 "_law_moves" ["_law_feed_here", "_law_web_here", "_law_order_here", "_law_many"] (spLMovesF K)) (C__law_told_rings : Cl P w K mg base 1 "_law_told_rings" ["_law_web_here"] (spLRingsT K)) (C__law_forward : Cl P w K mg base 1 "_law_forward" ["_law_order_here", "_law_ring"] (spLForward K))
    (C_ring_counts : Cl P w K mg base 7 "ring_counts" ["web", "order"] (spCounts K)) (K_ring_counts : ClK P w K mg base 7 "ring_counts" ["web", "order"] ["order", "web"] (spCounts K)) (C_pieces : Cl P w K mg base 6 "pieces" ["web"] (spPieces K)) : FnG P w K mg base 8 fL fdL ["_law_script"] (spLaw K) := by
  refine okG F sc_law (fun vs H Q E h => ?_) (fun cdv A outer s H vs Q E hgd hr h => ?_)
  · obtain ⟨a, ns, rfl, _⟩ := h
    rfl
  · obtain ⟨a, ns, rfl, ha, hl, q⟩ := h
    refine ⟨_, (pss_cons (ps_for PassesOwn.never rfl (pi_range1 rfl B.range_ (pa_cons (pe_callB (j_max rfl) rfl B.max_ (by decide +kernel) (pa_cons pe_int (pa_cons (pe_callB (j_min rfl) rfl B.min_ (by decide +kernel) (pa_cons (pe_callB (k_len (K := K)) rfl B.len_ (by decide +kernel) (pa_cons (pv 0) pa_nil)) (pa_cons pe_int pa_nil))) pa_nil))) pa_nil)) (pg_name (i := 1) sc_law.nd rfl (by first | exact Or.inl rfl | exact Or.inr rfl)) (pss_cons (ps_set (i := 2) sc_law.nd rfl (by first | exact Or.inl rfl | exact Or.inr rfl) (pe_c C__law_feed hr (pa_cons (pv 0) (pa_cons (pv 1) pa_nil))))
      (pss_cons (ps_set (i := 3) sc_law.nd rfl (by first | exact Or.inl rfl | exact Or.inr rfl) (pe_c C__law_some_web hr (pa_cons (pv 2) (pa_cons pe_int pa_nil))))
      (pss_cons (ps_asg (pe_tup (pa_cons (pe_c C__law_order hr (pa_cons (pv 2) (pa_cons (pv 3) pa_nil))) (pa_cons (pe_c C__law_told_rings hr (pa_cons (pv 3) pa_nil)) pa_nil))) (kpg_tup (K := K) (n := 2) rfl (pgs_cons (pg_name (i := 4) sc_law.nd rfl (by first | exact Or.inl rfl | exact Or.inr rfl)) (pgs_cons (pg_name (i := 5) sc_law.nd rfl (by first | exact Or.inl rfl | exact Or.inr rfl)) pgs_nil))))
      (pss_cons (ps_setLc (i := 6) (own := [("_law_ring", 11)]) rfl sc_law.nd rfl rfl (sw_true rfl rfl rfl (by decide +kernel)) (kpi_list (K := K) (pv 5)) (blkOk_by (N := ["_law_script", "_law_k", "_law_feed_here", "_law_web_here", "_law_order_here", "_law_rings", "_law_due", "_law_told", "_law_mixed_here", "_law_other", "_law_alike", "_law_ring", "_law_many"]) (sc := defScope s_law) (by decide +kernel)) (fun _ _ _ _ _ => (pg_name (i := 11) sc_law.nd rfl (by first | exact Or.inl rfl | exact Or.inr rfl))) (fun _ _ _ _ _ => pts_nil) (fun _ _ _ _ _ => (pe_tup (pa_cons (pv 11) (pa_cons (pe_c C__law_forward hr (pa_cons (pv 4) (pa_cons (pv 11) pa_nil))) pa_nil)))))
      (pss_cons (ps_set (i := 7) sc_law.nd rfl (by first | exact Or.inl rfl | exact Or.inr rfl) (pe_c C_ring_counts hr (pa_cons (pv 3) (pa_cons (pv 4) pa_nil))))
      (pss_cons (ps_if (PW.pt (pw_or (pt_not (pt_val (pe_callB (k_isi (K := K)) rfl B.isinstance_ (by decide +kernel) (pa_cons (pv 7) (pa_cons (pe_ty (T := "list") B.list_ (by decide +kernel)) pa_nil))))) (pw_or (pt_cmpR op_ne (pe_callB (k_show (K := K) hgd hr.units) rfl B.repr_ (by decide +kernel) (pa_cons (pv 7) pa_nil)) (pe_callB (k_show (K := K) hgd hr.units) rfl B.repr_ (by decide +kernel) (pa_cons (pv 6) pa_nil)) (nomark _)) (pw_or1 (pt_cmpR op_ne (pe_callB (k_len (K := K)) rfl B.len_ (by decide +kernel) (pa_cons (pv 5) pa_nil)) (pe_op op_add (pe_op op_sub (pe_callB (k_len (K := K)) rfl B.len_ (by decide +kernel) (pa_cons (pe_ix (k_ixT (K := K)) (pv 3) pe_int (fun _ _ => rfl)) pa_nil)) (pe_callB (k_len (K := K)) rfl B.len_ (by decide +kernel) (pa_cons (pe_ix (k_ixT (K := K)) (pv 3) pe_int (fun _ _ => rfl)) pa_nil))) (pe_callB (k_len (K := K)) rfl B.len_ (by decide +kernel) (pa_cons (pe_c C_pieces hr (pa_cons (pv 3) pa_nil)) pa_nil))) (nomark _)))))) (pss_one (ps_ret pe_bl)) pss_nil)
      (pss_cons (ps_expr (pe_bm PySem.F.plainAttrs_list PySem.F.slot_list_append PySem.F.type_list_append mt_append (pv 7) (pa_cons pe_str pa_nil)))
      (pss_cons (ps_if (pt_cmpR op_ne (pe_callB (k_show (K := K) hgd hr.units) rfl B.repr_ (by decide +kernel) (pa_cons (pe_ck K_ring_counts hr (pk_cons (pv 4) (pk_cons (pv 3) pk_nil))) pa_nil)) (pe_callB (k_show (K := K) hgd hr.units) rfl B.repr_ (by decide +kernel) (pa_cons (pv 6) pa_nil)) (nomark _)) (pss_one (ps_ret pe_bl)) pss_nil)
      (pss_cons (ps_if (pt_cmpR (k_neD (K := K) hr.units) (pe_c C_ring_counts hr (pa_cons (pv 3) (pa_cons (pe_ix (k_ixT (K := K)) (pe_c C__law_moves hr (pa_cons (pv 2) (pa_cons (pv 3) (pa_cons (pv 4) (pa_cons pe_int pa_nil))))) pe_int (fun _ _ => rfl)) pa_nil))) (pv 6) (nomark _)) (pss_one (ps_ret pe_bl)) pss_nil)
      (pss_cons (ps_if (pt_cmpR (k_neD (K := K) hr.units) (pe_c C_ring_counts hr (pa_cons (pv 3) (pa_cons (pe_revT (K := K) (pv 4)) pa_nil))) (pe_lc (own := [("_law_ring", 11), ("_law_many", 12)]) rfl sc_law.nd (kpi_list (K := K) (pv 6)) (blkOk_by (N := ["_law_script", "_law_k", "_law_feed_here", "_law_web_here", "_law_order_here", "_law_rings", "_law_due", "_law_told", "_law_mixed_here", "_law_other", "_law_alike", "_law_ring", "_law_many"]) (sc := defScope s_law) (by decide +kernel)) (fun _ _ _ _ _ => (kpg_tup (K := K) (n := 2) rfl (pgs_cons (pg_name (i := 11) sc_law.nd rfl (by first | exact Or.inl rfl | exact Or.inr rfl)) (pgs_cons (pg_name (i := 12) sc_law.nd rfl (by first | exact Or.inl rfl | exact Or.inr rfl)) pgs_nil)))) (fun _ _ _ _ _ => pts_nil) (fun _ _ _ _ _ => (pe_tup (pa_cons (pv 11) (pa_cons (pe_op op_sub (pe_callB (k_len (K := K)) rfl B.len_ (by decide +kernel) (pa_cons (pv 11) pa_nil)) (pv 12)) pa_nil))))) (nomark _)) (pss_one (ps_ret pe_bl)) pss_nil)
      (pss_cons (ps_par (i := 8) (j := 9) rfl sc_law.nd rfl rfl (by decide) rfl rfl (pa_cons (pe_tup (pa_cons (pe_ix (k_ixT (K := K)) (pv 3) pe_int (fun _ _ => rfl)) (pa_cons (pe_callTy (k_tuple (K := K)) rfl B.tuple_ (by decide +kernel) (pa_cons (pe_c C__law_mixed hr (pa_cons (pv 2) (pa_cons (pe_ix (k_ixT (K := K)) (pv 3) pe_int (fun _ _ => rfl)) pa_nil))) pa_nil)) pa_nil))) (pa_cons (pe_c C__law_order hr (pa_cons (pv 2) (pa_cons (pv 3) pa_nil))) pa_nil)) (by rfl))
      (pss_cons (ps_set (i := 10) sc_law.nd rfl (by first | exact Or.inl rfl | exact Or.inr rfl) (pe_cmpR (k_eqD (K := K) hr.units) (pe_c C_ring_counts hr (pa_cons (pv 3) (pa_cons (pv 9) pa_nil))) (pv 6) (nomark _)))
      (pss_cons (ps_if (pt_cmpR op_ne (pe_cmpR (k_eqD (K := K) hr.units) (pe_c C_ring_counts hr (pa_cons (pv 8) (pa_cons (pv 9) pa_nil))) (pe_c C_ring_counts hr (pa_cons (pv 8) (pa_cons (pv 4) pa_nil))) (nomark _)) (pv 10) (nomark _)) (pss_one (ps_ret pe_bl)) pss_nil)
      (pss_one (ps_if (pt_cmpR op_ne (pe_callB (k_show (K := K) hgd hr.units) rfl B.repr_ (by decide +kernel) (pa_cons (pe_c C_ring_counts hr (pa_cons (pv 8) (pa_cons (pv 4) pa_nil))) pa_nil)) (pe_callB (k_show (K := K) hgd hr.units) rfl B.repr_ (by decide +kernel) (pa_cons (pe_lc (own := [("_law_ring", 11)]) rfl sc_law.nd (kpi_list (K := K) (pe_c C__law_told_rings hr (pa_cons (pv 8) pa_nil))) (blkOk_by (N := ["_law_script", "_law_k", "_law_feed_here", "_law_web_here", "_law_order_here", "_law_rings", "_law_due", "_law_told", "_law_mixed_here", "_law_other", "_law_alike", "_law_ring", "_law_many"]) (sc := defScope s_law) (by decide +kernel)) (fun _ _ _ _ _ => (pg_name (i := 11) sc_law.nd rfl (by first | exact Or.inl rfl | exact Or.inr rfl))) (fun _ _ _ _ _ => pts_nil) (fun _ _ _ _ _ => (pe_tup (pa_cons (pv 11) (pa_cons (pe_c C__law_forward hr (pa_cons (pv 4) (pa_cons (pv 11) pa_nil))) pa_nil))))) pa_nil)) (nomark _)) (pss_one (ps_ret pe_bl)) pss_nil))))))))))))))))
      (pss_one (ps_ret pe_bl))), ?_⟩
    repeat' (walk_at "jv")
    have hm : (max (2 : Int) (min (((ns.map V.int).length : Nat) : Int) 10)).toNat ≤ 10 := by omega
    generalize (max (2 : Int) (min (((ns.map V.int).length : Nat) : Int) 10)).toNat = m at hm ⊢
    refine f_range (fun i σ H' => ∃ y1 y2 y3 y4 y5 y6 y7 y8 y9 ya yb yc, σ = [some (.ref a), y1, y2, y3, y4, y5, y6, y7, y8, y9, ya, yb, yc] ∧ SqL K H' a (ns.map V.int)) ⟨none, none, none, none, none, none, none, none, none, none, none, none, rfl, ha⟩ (fun i σ H0 hi h => ?_) (fun σ H0 h => ?_)
    · obtain ⟨y1, y2, y3, y4, y5, y6, y7, y8, y9, ya, yb, yc, rfl, ha0⟩ := h
      have e0 : (0 : Int) + (i : Int) = (i : Int) := by omega
      rw [e0]
      repeat' (walk_at "jv")
      refine ⟨a, ns, (i : Int), rfl, ha0, hl, by omega, by omega, fun q1 H1 nq f1 s1 => ?_⟩
      have k1 : Ch q1 H0 H1 := Ch.of_same s1
      repeat' (walk_at "jv")
      refine ⟨q1, 0, rfl, f1, by decide, fun v ps rs H2 h99 W wf f2 k2 => ?_⟩
      replace k1 := k1.trans k2
      clear f1 k2 s1 H1
      have h8 := W.le8
      repeat' (walk_at "jv")
      refine ⟨q1, v, ps, rs, _, rfl, f2, wf.dp, W.le8, by omega, fun o qs H3 pm fo f3 k3 => ?_⟩
      replace wf := WF.ch wf k3 f2
      replace k1 := Ch.trans k1 k3
      clear f2 k3 H2
      repeat' (walk_at "jv")
      refine ⟨v, ps, rs, rfl, wf, W, fun GR H4 nGR kS lGR => ?_⟩
      have dGR := f3.ne nGR
      replace wf := WF.same wf kS
      replace k1 := Ch.trans k1 (Ch.of_same kS)
      replace fo := FT.same fo kS
      replace f3 := Fd.same f3 kS
      clear kS nGR H3
      repeat' (walk_at "jv")
      intro T nT
      have kT := Same.upd_new (o := .tup [.ref o, .ref GR]) nT
      have sT : SqT K (upd H4 T (.tup [.ref o, .ref GR])) T [.ref o, .ref GR] := sq_tup upd_same
      replace wf := WF.same wf kT
      replace k1 := Ch.trans k1 (Ch.of_same kT)
      replace fo := FT.same fo kT
      replace f3 := Fd.same f3 kT
      replace lGR := LsD.same lGR kT
      generalize upd H4 T (.tup [.ref o, .ref GR]) = H5 at *
      clear kT nT H4
      refine i_gtup sT rfl ?_
      refine i_gcons ?_
      repeat' (walk_at "jv")
      clear sT
      obtain ⟨us, eR, dR, tR⟩ := id lGR
      have hul : us.length = (ringsT ps rs).length := by rw [DpAll.len dR, List.length_map]
      have hrl : (ringsT ps rs).length ≤ 14 := by
        unfold ringsT
        rw [List.length_map]
        exact (cnts_len (qs := qs) W).2
      refine i_ilK (sq_lst eR) ?_
      refine c_list us (fun D i H' => H5 D = none ∧ Same H5 H' ∧ LsD K H' D ((((ringsT ps rs).take i).map fun t => (t, fwdN qs t)).map rcD)) (fun D nD => ⟨nD, Same.upd_new nD, LsD.nil upd_same⟩) (fun D i H' _ h => sq_lst (h.2.1 _ _ eR)) (fun D i x Hx hx h => ?_) (fun DU H6 h => ?_)
      · obtain ⟨nD, kD, lD⟩ := h
        obtain ⟨d, hd1, hd2⟩ := DpAll.get (DpAll.same kD _ _ dR) hx
        rw [List.getElem?_map] at hd1
        obtain ⟨l, hl, rfl⟩ := Option.map_eq_some_iff.mp hd1
        have hi : i < (ringsT ps rs).length := (List.getElem?_eq_some_iff.mp hl).1
        have T := rings_tell W (List.mem_of_getElem? hl)
        have e1 : (ringsT ps rs).take (i + 1) = (ringsT ps rs).take i ++ [l] := take_push hl
        obtain ⟨b, rfl, sb⟩ := ts_ref hd2
        have ho3 := fo.same kD
        repeat' (walk_at "jv")
        refine ⟨o, b, qs, l, rfl, ho3, sb, Nat.le_of_succ_le T.len, T.le8, fun z hz => pm.mem_iff.mpr (T.sub z hz), by rw [pm.length_eq]; exact W.le8, fun Hy k4 => ?_⟩
        repeat' (walk_at "jv")
        intro T5 n5
        have k5 := Same.upd_new (o := .tup [.ref b, .int (fwdN qs l : Nat)]) n5
        have s5 : SqT K (upd Hy T5 (.tup [.ref b, .int (fwdN qs l : Nat)])) T5 [.ref b, .int (fwdN qs l : Nat)] := sq_tup upd_same
        replace sb := TK.same (K := K) (k4.trans k5) _ _ sb
        replace lD := lD.same (k4.trans k5)
        replace kD := kD.trans (k4.trans k5)
        generalize upd Hy T5 (.tup [.ref b, .int (fwdN qs l : Nat)]) = Hz at *
        obtain ⟨us2, eU, dU, tU⟩ := lD
        have hul2 : us2.length ≤ 14 := by
          have h1 := DpAll.len dU
          rw [List.length_map, List.length_map, List.length_take] at h1
          omega
        refine i_lcE eU (by rw [sizeLine_eq]; omega) ⟨nD, fun c oc y => (upd_ne (ne_of_none y nD)).trans (kD _ _ y), ?_⟩
        rw [e1, List.map_append, List.map_append]
        exact LsD.push eU dU tU (d := rcD (l, fwdN qs l)) (.tup s5 (.cons (ts_dp sb) (.cons (.int _) .nil))) (rcD_only _)
      obtain ⟨nDU, kU, lDU⟩ := h
      rw [hul, List.take_length] at lDU
      replace lDU : LsD K H6 DU ((cntsR ps rs qs).map rcD) := lDU
      have dDU := f3.ne nDU
      replace wf := WF.same wf kU
      replace k1 := Ch.trans k1 (Ch.of_same kU)
      replace fo := FT.same fo kU
      replace f3 := Fd.same f3 kU
      replace lGR := LsD.same lGR kU
      clear eR dR tR kU nDU
      clear hul us H5
      repeat' (walk_at "jv")
      refine ⟨v, o, ps, qs, rs, rfl, wf, W, fo, pm, fun TD H7 nTD k7 lTD => ?_⟩
      have lDU7 := lDU.same k7
      obtain ⟨ut, eT, dT, tT⟩ := id lTD
      obtain ⟨ud, eD, dD, tD⟩ := id lDU7
      obtain ⟨ug, eG, dG, tG⟩ := lGR.same k7
      obtain ⟨sh1, sh2, sh3, sh4⟩ := cnts_shown (qs := qs) W
      have wf7 := wf.same k7
      repeat' (walk_at "jv")
      refine is_lst eT ?_
      refine ⟨_, rfl, ?_⟩
      rw [if_neg (by decide)]
      repeat' (walk_at "jv")
      refine ⟨.ref TD, _, rfl, lTD.dp, sh1, sh2, sh3, sh4, ⟨_, rfl⟩, ?_⟩
      repeat' (walk_at "jv")
      refine ⟨.ref DU, _, rfl, lDU7.dp, sh1, sh2, sh3, sh4, ⟨_, rfl⟩, ?_⟩
      repeat' (walk_at "jv")
      · rename_i hne
        exact absurd rfl hne
      obtain ⟨t, tp, tr, rfl, st, ft, dr⟩ := id wf7
      obtain ⟨tr', xr, er, sr, dxr⟩ := tup_parts dr
      obtain rfl : tr = tr' := by injection er
      have ftq := ft.sq (K := K)
      repeat' (walk_at "jv")
      refine ⟨.ref t, ps, rs, rfl, wf7.dp, W, fun PD H8 out us8 k8 nP eP dP ip => ?_⟩
      have eT8 := k8 _ _ eT
      repeat' (walk_at "jv")
      · rename_i hne
        exfalso
        apply hne
        have e1 := told_len _ rs rfl
        have e2 := ((web_pcs W).2 out ip).2.2.2
        have e3 : us8.length = out.length := by rw [DpAll.len dP, List.length_map]
        have e4 : ug.length = (toldL rs).length := by rw [DpAll.len dG, List.length_map]; exact List.length_map ..
        have e5 : xr.length = rs.length := by rw [DpAll.len dxr, List.length_map]
        rw [e3, e4, e5, List.length_map]
        omega
      have hutl : ut.length ≤ 14 := by
        rw [DpAll.len dT, List.length_map, (cnts_len (qs := qs) W).1]
        exact (cnts_len (qs := qs) W).2
      refine i_app eT8 (by rw [sizeLine_eq]; omega) ?_
      have k9 : Same H6 (upd H8 TD (.lst (ut ++ [.str "zz"]))) := fun c oc z => (upd_ne (ne_of_none z nTD)).trans (k8 _ _ (k7 _ _ z))
      replace wf := WF.same wf k9
      replace k1 := Ch.trans k1 (Ch.of_same k9)
      replace fo := FT.same fo k9
      replace f3 := Fd.same f3 k9
      replace lDU := LsD.same lDU k9
      generalize upd H8 TD (.lst (ut ++ [.str "zz"])) = H9 at *
      rename_i hne9
      clear hne9
      clear k9 eT8 nP eP dP ip us8 out eG dG tG ug wf7 st ft ftq dr dxr sr xr er eD dD tD ud eT dT tT ut lTD lDU7 nTD hutl lGR dGR
      clear k7 k8 H8 H7
      repeat' (walk_at "jv")
      refine i_ck ?_
      repeat' (walk_at "jv")
      refine ⟨.ref t, o, ps, qs, rs, rfl, wf, W, fo, pm, fun T2 H10 nT2 k10 lT2 => ?_⟩
      repeat' (walk_at "jv")
      refine ⟨.ref T2, _, rfl, lT2.dp, sh1, sh2, sh3, sh4, ⟨_, rfl⟩, ?_⟩
      repeat' (walk_at "jv")
      refine ⟨.ref DU, _, rfl, (lDU.same k10).dp, sh1, sh2, sh3, sh4, ⟨_, rfl⟩, ?_⟩
      repeat' (walk_at "jv")
      · rename_i hne
        exact absurd rfl hne
      replace wf := WF.same wf k10
      replace k1 := Ch.trans k1 (Ch.of_same k10)
      replace fo := FT.same fo k10
      replace f3 := Fd.same f3 k10
      replace lDU := LsD.same lDU k10
      clear k10 lT2 nT2 H9
      refine ⟨q1, .ref t, o, 15, qs, ps, rs, _, rfl, f3, by omega, by decide, wf.dp, W, fo, pm, fun T3 M o2 ms H11 nM sT3 lM okm hml so f4 k4 => ?_⟩
      replace wf := WF.ch wf k4 f3
      replace k1 := Ch.trans k1 k4
      replace fo := FT.ch fo k4 f3
      replace lDU := LsD.ch lDU k4 f3 (by assumption)
      clear k4 f3 lM nM
      have pm2 := (runM_perm ms qs okm).trans pm
      have em := cnts_moves W pm okm
      generalize runM ms qs = rq at *
      clear okm hml
      repeat' (walk_at "jv")
      refine ⟨.ref t, o2, ps, rq, rs, rfl, wf, W, so, pm2, fun T4 H12 n4 k12 lT4 => ?_⟩
      replace wf := WF.same wf k12
      replace k1 := Ch.trans k1 (Ch.of_same k12)
      replace fo := FT.same fo k12
      replace f4 := Fd.same f4 k12
      replace lDU := LsD.same lDU k12
      clear k12 n4
      repeat' (walk_at "jv")
      refine rc_ne lT4 lDU (cnts_ok W) (cnts_ok W) ?_
      rw [em, decide_eq_true rfl]
      repeat' (walk_at "jv")
      clear lT4 em so pm2 sT3 H10 H11
      refine i_revT ?_
      repeat' (walk_at "jv")
      refine ⟨o, _, rfl, fo.sq, fun p4 ob np okb => ?_⟩
      have s7 := (FT.new (H := H12) (p := p4) (xs := (qs.map V.str).reverse) okb)
      have k7 := Same.upd_new (o := .frz ob (.tup (qs.map V.str).reverse)) np
      rw [← List.map_reverse] at s7 k7 ⊢
      replace wf := WF.same wf k7
      replace k1 := Ch.trans k1 (Ch.of_same k7)
      replace fo := FT.same fo k7
      replace f4 := Fd.same f4 k7
      replace lDU := LsD.same lDU k7
      generalize upd H12 p4 (.frz ob (.tup (qs.reverse.map V.str))) = H13 at *
      clear k7 np
      repeat' (walk_at "jv")
      refine ⟨.ref t, p4, ps, qs.reverse, rs, rfl, wf, W, s7, (List.reverse_perm qs).trans pm, fun T5 H14 n5 k14 lT5 => ?_⟩
      replace wf := WF.same wf k14
      replace k1 := Ch.trans k1 (Ch.of_same k14)
      replace fo := FT.same fo k14
      replace f4 := Fd.same f4 k14
      replace lDU := LsD.same lDU k14
      clear k14 n5 s7 H13
      obtain ⟨ud, eD, dD, tD⟩ := id lDU
      have hud : ud.length = (cntsR ps rs qs).length := by rw [DpAll.len dD, List.length_map]
      have hcl : (cntsR ps rs qs).length ≤ 14 := by rw [(cnts_len (qs := qs) W).1]; exact (cnts_len (qs := qs) W).2
      repeat' (walk_at "jv")
      refine c_list ud (fun D i H' => H14 D = none ∧ Same H14 H' ∧ LsD K H' D ((((cntsR ps rs qs).take i).map fun p => (p.1, p.1.length - p.2)).map rcD)) (fun D nD => ⟨nD, Same.upd_new nD, LsD.nil upd_same⟩) (fun D i H' _ h => sq_lst (h.2.1 _ _ eD)) (fun D i x Hx hx h => ?_) (fun D6 H15 h => ?_)
      · obtain ⟨nD, kD, lD⟩ := h
        obtain ⟨d, hd1, hd2⟩ := DpAll.get (DpAll.same kD _ _ dD) hx
        rw [List.getElem?_map] at hd1
        obtain ⟨p, hp, rfl⟩ := Option.map_eq_some_iff.mp hd1
        have e1 : (cntsR ps rs qs).take (i + 1) = (cntsR ps rs qs).take i ++ [p] := take_push hp
        have hple : p.2 ≤ p.1.length := by
          obtain ⟨l, hl, rfl⟩ := List.mem_map.mp (List.mem_of_getElem? hp)
          have l3 := (rings_tell W hl).len
          have : fwdN qs l < l.length := fwd_lt (fun e => by rw [e] at l3; exact absurd l3 (by decide))
          show fwdN qs l ≤ l.length
          omega
        have hi : i < (cntsR ps rs qs).length := (List.getElem?_eq_some_iff.mp hp).1
        obtain ⟨b, rb, rfl, sb, sr⟩ := rc_parts hd2
        refine i_gtup sb rfl ?_
        repeat' (walk_at "jv")
        rw [show (((p.1.map V.str).length : Nat) : Int) - ((p.2 : Nat) : Int) = ((p.1.length - p.2 : Nat) : Int) from by rw [List.length_map]; omega]
        intro T5 n5
        have k5 := Same.upd_new (o := .tup [.ref rb, .int (p.1.length - p.2 : Nat)]) n5
        have s5 : SqT K (upd Hx T5 (.tup [.ref rb, .int (p.1.length - p.2 : Nat)])) T5 [.ref rb, .int (p.1.length - p.2 : Nat)] := sq_tup upd_same
        replace sr := TK.same (K := K) k5 _ _ sr
        replace lD := lD.same k5
        replace kD := kD.trans k5
        generalize upd Hx T5 (.tup [.ref rb, .int (p.1.length - p.2 : Nat)]) = Hz at *
        obtain ⟨us2, eU, dU, tU⟩ := lD
        have hul2 : us2.length ≤ 14 := by
          have h1 := DpAll.len dU
          rw [List.length_map, List.length_map, List.length_take] at h1
          omega
        refine i_lcE eU (by rw [sizeLine_eq]; omega) ⟨nD, fun c oc y => (upd_ne (ne_of_none y nD)).trans (kD _ _ y), ?_⟩
        rw [e1, List.map_append, List.map_append]
        exact LsD.push eU dU tU (d := rcD (p.1, p.1.length - p.2)) (.tup s5 (.cons (ts_dp sr) (.cons (.int _) .nil))) (rcD_only _)
      obtain ⟨nD6, k15, l6⟩ := h
      rw [hud, List.take_length] at l6
      replace wf := WF.same wf k15
      replace k1 := Ch.trans k1 (Ch.of_same k15)
      replace fo := FT.same fo k15
      replace f4 := Fd.same f4 k15
      replace lDU := LsD.same lDU k15
      replace lT5 := LsD.same lT5 k15
      clear k15 nD6 eD dD tD hud ud H14
      repeat' (walk_at "jv")
      refine rc_ne lT5 l6 (cnts_ok W) (back_ok W) ?_
      rw [decide_eq_true (cnts_back W pm)]
      repeat' (walk_at "jv")
      clear lT5 l6
      obtain ⟨t', tp, tr, et, st, ft, dr⟩ := id wf
      obtain rfl : t = t' := by injection et
      obtain ⟨tr', xr, er, sr, dxr⟩ := tup_parts dr
      obtain rfl : tr = tr' := by injection er
      have hxr : xr.length = rs.length := by rw [DpAll.len dxr, List.length_map]
      have l14 := W.le14
      repeat' (walk_at "jv")
      refine ⟨q1, tr, _, xr, rfl, f4, sr, by omega, by omega, fun G ys H16 pm3 nG eG f5 k5 => ?_⟩
      replace dxr := DpAll.tk (TK.ch (K := K) k5 f4) _ _ (roads_only rs) dxr
      replace wf := WF.ch wf k5 f4
      replace k1 := Ch.trans k1 k5
      replace fo := FT.ch fo k5 f4
      replace lDU := LsD.ch lDU k5 f4 (by assumption)
      replace ft := ft.ch k5 f4
      obtain ⟨es, pe2, dz⟩ := DpAll.perm pm3 dxr
      obtain ⟨rs', pq, rfl⟩ := perm_map_inv pe2 rfl
      clear k5 f4 nG st dr sr dxr pe2 et er
      repeat' (walk_at "jv")
      intro T6 n6
      have k6 := Same.upd_new (o := .tup ys) n6
      have s6 : SqT K (upd H16 T6 (.tup ys)) T6 ys := sq_tup upd_same
      replace wf := WF.same wf k6
      replace k1 := Ch.trans k1 (Ch.of_same k6)
      replace fo := FT.same fo k6
      replace f5 := Fd.same f5 k6
      replace lDU := LsD.same lDU k6
      replace ft := ft.same k6
      replace dz := DpAll.same k6 _ _ dz
      generalize upd H16 T6 (.tup ys) = H17 at *
      clear k6 n6 eG
      repeat' (walk_at "jv")
      intro T7 n7
      have k7 := Same.upd_new (o := .tup [.ref tp, .ref T6]) n7
      have s7 : SqT K (upd H17 T7 (.tup [.ref tp, .ref T6])) T7 [.ref tp, .ref T6] := sq_tup upd_same
      replace wf := WF.same wf k7
      replace k1 := Ch.trans k1 (Ch.of_same k7)
      replace fo := FT.same fo k7
      replace f5 := Fd.same f5 k7
      replace lDU := LsD.same lDU k7
      replace s6 := TK.same k7 _ _ s6
      replace ft := ft.same k7
      replace dz := DpAll.same k7 _ _ dz
      generalize upd H17 T7 (.tup [.ref tp, .ref T6]) = H18 at *
      have wm : WF K H18 (.ref T7) ps rs' := ⟨T7, tp, T6, rfl, s7, ft, .tup s6 dz⟩
      clear k7 n7 s7 s6 dz ft H17 pm3
      have W' := web_perm W pq
      repeat' (walk_at "jv")
      refine ⟨q1, .ref t, ps, rs, _, rfl, f5, wf.dp, W.le8, by omega, fun o3 os H19 pmo foo f6 k6 => ?_⟩
      replace wf := WF.ch wf k6 f5
      replace wm := WF.ch wm k6 f5
      replace k1 := Ch.trans k1 k6
      replace fo := FT.ch fo k6 f5
      replace lDU := LsD.ch lDU k6 f5 (by assumption)
      clear k6 f5
      repeat' (walk_at "jv")
      refine ⟨.ref t, o3, ps, os, rs, rfl, wf, W, foo, pmo, fun T8 H20 n8 k8 lT8 => ?_⟩
      replace wf := WF.same wf k8
      replace wm := WF.same wm k8
      replace k1 := Ch.trans k1 (Ch.of_same k8)
      replace fo := FT.same fo k8
      replace foo := FT.same foo k8
      replace f6 := Fd.same f6 k8
      replace lDU := LsD.same lDU k8
      clear k8 n8
      repeat' (walk_at "jv")
      refine rc_eq lT8 lDU (cnts_ok W) (cnts_ok W) ?_
      repeat' (walk_at "jv")
      clear lT8 lDU
      refine ⟨.ref T7, o3, ps, os, rs', rfl, wm, W', foo, pmo, fun T9 H21 n9 k9 lT9 => ?_⟩
      replace wf := WF.same wf k9
      replace wm := WF.same wm k9
      replace k1 := Ch.trans k1 (Ch.of_same k9)
      replace fo := FT.same fo k9
      replace foo := FT.same foo k9
      replace f6 := Fd.same f6 k9
      clear k9 n9
      repeat' (walk_at "jv")
      refine ⟨.ref T7, o, ps, qs, rs', rfl, wm, W', fo, pm, fun TA H22 nA kA lTA => ?_⟩
      replace wf := WF.same wf kA
      replace wm := WF.same wm kA
      replace k1 := Ch.trans k1 (Ch.of_same kA)
      replace fo := FT.same fo kA
      replace f6 := Fd.same f6 kA
      replace lT9 := LsD.same lT9 kA
      clear kA nA
      repeat' (walk_at "jv")
      refine rc_eq lT9 lTA (cnts_ok W') (cnts_ok W') ?_
      repeat' (walk_at "jv")
      refine i_neB ?_
      have hq : ∀ p ∈ ps, p ∈ qs := fun p hp => pm.mem_iff.mpr hp
      have hos : ∀ p ∈ ps, p ∈ os := fun p hp => pmo.mem_iff.mpr hp
      rw [decide_eq_true (show decide (cntsR ps rs' os = cntsR ps rs' qs) = decide (cntsR ps rs os = cntsR ps rs qs) from decide_eq_decide.mpr (cnts_mixed W' W hos hq (fun x y => road_perm pq x y)))]
      repeat' (walk_at "jv")
      clear lT9 lTA foo pmo hos hq
      refine ⟨.ref T7, o, ps, qs, rs', rfl, wm, W', fo, pm, fun TB H23 nB kB lTB => ?_⟩
      replace wm := WF.same wm kB
      replace k1 := Ch.trans k1 (Ch.of_same kB)
      replace fo := FT.same fo kB
      replace f6 := Fd.same f6 kB
      clear kB nB wf
      obtain ⟨g1, g2, g3, g4⟩ := cnts_shown (qs := qs) W'
      repeat' (walk_at "jv")
      refine ⟨.ref TB, _, rfl, lTB.dp, g1, g2, g3, g4, ⟨_, rfl⟩, ?_⟩
      repeat' (walk_at "jv")
      refine ⟨.ref T7, ps, rs', rfl, wm, W', fun GR H24 nGR kS lGR => ?_⟩
      replace k1 := Ch.trans k1 (Ch.of_same kS)
      replace fo := FT.same fo kS
      replace f6 := Fd.same f6 kS
      clear kS nGR lTB wm
      repeat' (walk_at "jv")
      obtain ⟨us, eR, dR, tR⟩ := id lGR
      have hul : us.length = (ringsT ps rs').length := by rw [DpAll.len dR, List.length_map]
      have hrl : (ringsT ps rs').length ≤ 14 := by
        unfold ringsT
        rw [List.length_map]
        exact (cnts_len (qs := qs) W').2
      refine i_ilK (sq_lst eR) ?_
      refine c_list us (fun D i H' => H24 D = none ∧ Same H24 H' ∧ LsD K H' D ((((ringsT ps rs').take i).map fun t => (t, fwdN qs t)).map rcD)) (fun D nD => ⟨nD, Same.upd_new nD, LsD.nil upd_same⟩) (fun D i H' _ h => sq_lst (h.2.1 _ _ eR)) (fun D i x Hx hx h => ?_) (fun D7 H25 h => ?_)
      · obtain ⟨nD, kD, lD⟩ := h
        obtain ⟨d, hd1, hd2⟩ := DpAll.get (DpAll.same kD _ _ dR) hx
        rw [List.getElem?_map] at hd1
        obtain ⟨l, hl, rfl⟩ := Option.map_eq_some_iff.mp hd1
        have hi : i < (ringsT ps rs').length := (List.getElem?_eq_some_iff.mp hl).1
        have T := rings_tell W' (List.mem_of_getElem? hl)
        have e1 : (ringsT ps rs').take (i + 1) = (ringsT ps rs').take i ++ [l] := take_push hl
        obtain ⟨b, rfl, sb⟩ := ts_ref hd2
        have ho3 := fo.same kD
        repeat' (walk_at "jv")
        refine ⟨o, b, qs, l, rfl, ho3, sb, Nat.le_of_succ_le T.len, T.le8, fun z hz => pm.mem_iff.mpr (T.sub z hz), by rw [pm.length_eq]; exact W.le8, fun Hy k4 => ?_⟩
        repeat' (walk_at "jv")
        intro T5 n5
        have k5 := Same.upd_new (o := .tup [.ref b, .int (fwdN qs l : Nat)]) n5
        have s5 : SqT K (upd Hy T5 (.tup [.ref b, .int (fwdN qs l : Nat)])) T5 [.ref b, .int (fwdN qs l : Nat)] := sq_tup upd_same
        replace sb := TK.same (K := K) (k4.trans k5) _ _ sb
        replace lD := lD.same (k4.trans k5)
        replace kD := kD.trans (k4.trans k5)
        generalize upd Hy T5 (.tup [.ref b, .int (fwdN qs l : Nat)]) = Hz at *
        obtain ⟨us2, eU, dU, tU⟩ := lD
        have hul2 : us2.length ≤ 14 := by
          have h1 := DpAll.len dU
          rw [List.length_map, List.length_map, List.length_take] at h1
          omega
        refine i_lcE eU (by rw [sizeLine_eq]; omega) ⟨nD, fun c oc y => (upd_ne (ne_of_none y nD)).trans (kD _ _ y), ?_⟩
        rw [e1, List.map_append, List.map_append]
        exact LsD.push eU dU tU (d := rcD (l, fwdN qs l)) (.tup s5 (.cons (ts_dp sb) (.cons (.int _) .nil))) (rcD_only _)
      obtain ⟨nDU, kU, lDU⟩ := h
      rw [hul, List.take_length] at lDU
      replace lDU : LsD K H25 D7 ((cntsR ps rs' qs).map rcD) := lDU
      replace k1 := Ch.trans k1 (Ch.of_same kU)
      repeat' (walk_at "jv")
      refine ⟨.ref D7, _, rfl, lDU.dp, g1, g2, g3, g4, ⟨_, rfl⟩, ?_⟩
      repeat' (walk_at "jv")
      · rename_i hne
        exact absurd rfl hne
      exact ⟨_, _, _, _, _, _, _, _, _, _, _, _, rfl, sqL_ch ha0 nq k1⟩
    · obtain ⟨y1, y2, y3, y4, y5, y6, y7, y8, y9, ya, yb, yc, rfl, ha0⟩ := h
      repeat' (walk_at "jv")
      exact q _
end
end
section
open L2 PySem PySem.Spec PyProof.Rows
def frees : List Str := ["int", "str", "tuple", "list", "bool", "len", "isinstance", "all", "any", "max", "min", "sum", "sorted", "repr", "range", "enumerate", "zip", "set", "dict"]
def freeB (K : PySem.W.Frag) : Bool := frees.all fun x => decide (PySem.W.nsIn K mainGlobals x = some none)
theorem bn_of {K : PySem.W.Frag} {mg : Str → Option Value} {h : Heap} (X : K.In h) (G : h.Ns mainGlobals mg) (b : freeB K = true) : Bn mg := by
  have z : ∀ x ∈ frees, mg x = none := fun x hx => PySem.W.mg_none_of X G (of_decide_eq_true (List.all_eq_true.mp b x hx))
  exact ⟨z _ (by simp [frees]), z _ (by simp [frees]), z _ (by simp [frees]), z _ (by simp [frees]), z _ (by simp [frees]), z _ (by simp [frees]), z _ (by simp [frees]), z _ (by simp [frees]), z _ (by simp [frees]), z _ (by simp [frees]), z _ (by simp [frees]), z _ (by simp [frees]), z _ (by simp [frees]), z _ (by simp [frees]), z _ (by simp [frees]), z _ (by simp [frees]), z _ (by simp [frees]), z _ (by simp [frees])⟩
theorem bd_of {K : PySem.W.Frag} {mg : Str → Option Value} {h : Heap} (X : K.In h) (G : h.Ns mainGlobals mg) (b : freeB K = true) : mg "dict" = none :=
  PySem.W.mg_none_of X G (of_decide_eq_true (List.all_eq_true.mp b "dict" (by simp [frees])))
theorem all_mk {P : Program} {w : World} {K : PySem.W.Frag} {h : Heap} {mg : Str → Option Value} {fa : Addr} (X : K.In h) (G : h.Ns mainGlobals mg) (hfa : mg "law" = some (.ref fa)) (b : freeB K = true)
    {f0 f1 f2 f3 f4 f5 f6 f7 f8 f9 f10 f11 f12 f13 f14 f15 f16 f17 f18 f19 f20 f21 f22 f23 f24 f25 f26 f27 f28 f29 f30 f31 f32 f33 f34 : Addr} {od0 an0 od1 an1 od2 an2 od3 an3 od4 an4 od5 an5 od6 an6 od7 an7 od8 an8 od9 an9 od10 an10 od11 an11 od12 an12 od13 an13 od14 an14 od15 an15 od16 an16 od17 an17 od18 an18 od19 an19 od20 an20 od21 an21 od22 an22 od23 an23 od24 an24 od25 an25 od26 an26 od27 an27 od28 an28 od29 an29 od30 an30 od31 an31 od32 an32 od33 an33 od34 an34 : Option Addr} {sl0 sl1 sl2 sl3 sl4 sl5 sl6 sl7 sl8 sl9 sl10 sl11 sl12 sl13 sl14 sl15 sl16 sl17 sl18 sl19 sl20 sl21 sl22 sl23 sl24 sl25 sl26 sl27 sl28 sl29 sl30 sl31 sl32 sl33 sl34 : Array (Option Value)} {oc0 kV0 dc0 pm0 cd0 ct0 oc1 kV1 dc1 pm1 cd1 ct1 oc2 kV2 dc2 pm2 cd2 ct2 oc3 kV3 dc3 pm3 cd3 ct3 oc4 kV4 dc4 pm4 cd4 ct4 oc5 kV5 dc5 pm5 cd5 ct5 oc6 kV6 dc6 pm6 cd6 ct6 oc7 kV7 dc7 pm7 cd7 ct7 oc8 kV8 dc8 pm8 cd8 ct8 oc9 kV9 dc9 pm9 cd9 ct9 oc10 kV10 dc10 pm10 cd10 ct10 oc11 kV11 dc11 pm11 cd11 ct11 oc12 kV12 dc12 pm12 cd12 ct12 oc13 kV13 dc13 pm13 cd13 ct13 oc14 kV14 dc14 pm14 cd14 ct14 oc15 kV15 dc15 pm15 cd15 ct15 oc16 kV16 dc16 pm16 cd16 ct16 oc17 kV17 dc17 pm17 cd17 ct17 oc18 kV18 dc18 pm18 cd18 ct18 oc19 kV19 dc19 pm19 cd19 ct19 oc20 kV20 dc20 pm20 cd20 ct20 oc21 kV21 dc21 pm21 cd21 ct21 oc22 kV22 dc22 pm22 cd22 ct22 oc23 kV23 dc23 pm23 cd23 ct23 oc24 kV24 dc24 pm24 cd24 ct24 oc25 kV25 dc25 pm25 cd25 ct25 oc26 kV26 dc26 pm26 cd26 ct26 oc27 kV27 dc27 pm27 cd27 ct27 oc28 kV28 dc28 pm28 cd28 ct28 oc29 kV29 dc29 pm29 cd29 ct29 oc30 kV30 dc30 pm30 cd30 ct30 oc31 kV31 dc31 pm31 cd31 ct31 oc32 kV32 dc32 pm32 cd32 ct32 oc33 kV33 dc33 pm33 cd33 ct33 oc34 kV34 dc34 pm34 cd34 ct34 : Value} {t0 t1 t2 t3 t4 : Tok}
    (g0 : PySem.W.nsIn K mainGlobals "LONGEST_NAME" = some (some (.int 8 t0)))
    (g1 : PySem.W.nsIn K mainGlobals "MOST_PLACES" = some (some (.int 8 t1)))
    (g2 : PySem.W.nsIn K mainGlobals "MOST_ROADS" = some (some (.int 14 t2)))
    (g3 : PySem.W.nsIn K mainGlobals "LETTERS" = some (some (.str "abcdefghijklmnopqrstuvwxyz" t3)))
    (g4 : PySem.W.nsIn K mainGlobals "NAME_SIGNS" = some (some (.str "abcdefghijklmnopqrstuvwxyz0123456789" t4)))
    (a0 : PySem.W.nsIn K mainGlobals "is_name" = some (some (.ref f0))) (l0 : K.lookup f0 = some ⟨oc0, od0, .func (PySem.W.fnOf "is_name" "is_name" (defArgs s_is_name) (defBody s_is_name) (defScope s_is_name) .none kV0 dc0 pm0 an0 cd0 ct0), sl0⟩) (c0 : PySem.W.codeIn K cd0 "is_name" = true) (k0 : PySem.W.keepIn K (.ref f0) = true)
    (a1 : PySem.W.nsIn K mainGlobals "is_web" = some (some (.ref f1))) (l1 : K.lookup f1 = some ⟨oc1, od1, .func (PySem.W.fnOf "is_web" "is_web" (defArgs s_is_web) (defBody s_is_web) (defScope s_is_web) .none kV1 dc1 pm1 an1 cd1 ct1), sl1⟩) (c1 : PySem.W.codeIn K cd1 "is_web" = true) (k1 : PySem.W.keepIn K (.ref f1) = true)
    (a2 : PySem.W.nsIn K mainGlobals "_are_places" = some (some (.ref f2))) (l2 : K.lookup f2 = some ⟨oc2, od2, .func (PySem.W.fnOf "_are_places" "_are_places" (defArgs s__are_places) (defBody s__are_places) (defScope s__are_places) .none kV2 dc2 pm2 an2 cd2 ct2), sl2⟩) (c2 : PySem.W.codeIn K cd2 "_are_places" = true) (k2 : PySem.W.keepIn K (.ref f2) = true)
    (a3 : PySem.W.nsIn K mainGlobals "_are_roads" = some (some (.ref f3))) (l3 : K.lookup f3 = some ⟨oc3, od3, .func (PySem.W.fnOf "_are_roads" "_are_roads" (defArgs s__are_roads) (defBody s__are_roads) (defScope s__are_roads) .none kV3 dc3 pm3 an3 cd3 ct3), sl3⟩) (c3 : PySem.W.codeIn K cd3 "_are_roads" = true) (k3 : PySem.W.keepIn K (.ref f3) = true)
    (a4 : PySem.W.nsIn K mainGlobals "_is_road" = some (some (.ref f4))) (l4 : K.lookup f4 = some ⟨oc4, od4, .func (PySem.W.fnOf "_is_road" "_is_road" (defArgs s__is_road) (defBody s__is_road) (defScope s__is_road) .none kV4 dc4 pm4 an4 cd4 ct4), sl4⟩) (c4 : PySem.W.codeIn K cd4 "_is_road" = true) (k4 : PySem.W.keepIn K (.ref f4) = true)
    (a5 : PySem.W.nsIn K mainGlobals "is_one_of" = some (some (.ref f5))) (l5 : K.lookup f5 = some ⟨oc5, od5, .func (PySem.W.fnOf "is_one_of" "is_one_of" (defArgs s_is_one_of) (defBody s_is_one_of) (defScope s_is_one_of) .none kV5 dc5 pm5 an5 cd5 ct5), sl5⟩) (c5 : PySem.W.codeIn K cd5 "is_one_of" = true) (k5 : PySem.W.keepIn K (.ref f5) = true)
    (a6 : PySem.W.nsIn K mainGlobals "need_web" = some (some (.ref f6))) (l6 : K.lookup f6 = some ⟨oc6, od6, .func (PySem.W.fnOf "need_web" "need_web" (defArgs s_need_web) (defBody s_need_web) (defScope s_need_web) .none kV6 dc6 pm6 an6 cd6 ct6), sl6⟩) (c6 : PySem.W.codeIn K cd6 "need_web" = true) (k6 : PySem.W.keepIn K (.ref f6) = true)
    (a7 : PySem.W.nsIn K mainGlobals "need_order" = some (some (.ref f7))) (l7 : K.lookup f7 = some ⟨oc7, od7, .func (PySem.W.fnOf "need_order" "need_order" (defArgs s_need_order) (defBody s_need_order) (defScope s_need_order) .none kV7 dc7 pm7 an7 cd7 ct7), sl7⟩) (c7 : PySem.W.codeIn K cd7 "need_order" = true) (k7 : PySem.W.keepIn K (.ref f7) = true)
    (a8 : PySem.W.nsIn K mainGlobals "is_order" = some (some (.ref f8))) (l8 : K.lookup f8 = some ⟨oc8, od8, .func (PySem.W.fnOf "is_order" "is_order" (defArgs s_is_order) (defBody s_is_order) (defScope s_is_order) .none kV8 dc8 pm8 an8 cd8 ct8), sl8⟩) (c8 : PySem.W.codeIn K cd8 "is_order" = true) (k8 : PySem.W.keepIn K (.ref f8) = true)
    (a9 : PySem.W.nsIn K mainGlobals "are_joined" = some (some (.ref f9))) (l9 : K.lookup f9 = some ⟨oc9, od9, .func (PySem.W.fnOf "are_joined" "are_joined" (defArgs s_are_joined) (defBody s_are_joined) (defScope s_are_joined) .none kV9 dc9 pm9 an9 cd9 ct9), sl9⟩) (c9 : PySem.W.codeIn K cd9 "are_joined" = true) (k9 : PySem.W.keepIn K (.ref f9) = true)
    (a10 : PySem.W.nsIn K mainGlobals "near_of" = some (some (.ref f10))) (l10 : K.lookup f10 = some ⟨oc10, od10, .func (PySem.W.fnOf "near_of" "near_of" (defArgs s_near_of) (defBody s_near_of) (defScope s_near_of) .none kV10 dc10 pm10 an10 cd10 ct10), sl10⟩) (c10 : PySem.W.codeIn K cd10 "near_of" = true) (k10 : PySem.W.keepIn K (.ref f10) = true)
    (a11 : PySem.W.nsIn K mainGlobals "pieces" = some (some (.ref f11))) (l11 : K.lookup f11 = some ⟨oc11, od11, .func (PySem.W.fnOf "pieces" "pieces" (defArgs s_pieces) (defBody s_pieces) (defScope s_pieces) .none kV11 dc11 pm11 an11 cd11 ct11), sl11⟩) (c11 : PySem.W.codeIn K cd11 "pieces" = true) (k11 : PySem.W.keepIn K (.ref f11) = true)
    (a12 : PySem.W.nsIn K mainGlobals "need_ordered" = some (some (.ref f12))) (l12 : K.lookup f12 = some ⟨oc12, od12, .func (PySem.W.fnOf "need_ordered" "need_ordered" (defArgs s_need_ordered) (defBody s_need_ordered) (defScope s_need_ordered) .none kV12 dc12 pm12 an12 cd12 ct12), sl12⟩) (c12 : PySem.W.codeIn K cd12 "need_ordered" = true) (k12 : PySem.W.keepIn K (.ref f12) = true)
    (a13 : PySem.W.nsIn K mainGlobals "by_numbers" = some (some (.ref f13))) (l13 : K.lookup f13 = some ⟨oc13, od13, .func (PySem.W.fnOf "by_numbers" "by_numbers" (defArgs s_by_numbers) (defBody s_by_numbers) (defScope s_by_numbers) .none kV13 dc13 pm13 an13 cd13 ct13), sl13⟩) (c13 : PySem.W.codeIn K cd13 "by_numbers" = true) (k13 : PySem.W.keepIn K (.ref f13) = true)
    (a14 : PySem.W.nsIn K mainGlobals "next_pairs" = some (some (.ref f14))) (l14 : K.lookup f14 = some ⟨oc14, od14, .func (PySem.W.fnOf "next_pairs" "next_pairs" (defArgs s_next_pairs) (defBody s_next_pairs) (defScope s_next_pairs) .none kV14 dc14 pm14 an14 cd14 ct14), sl14⟩) (c14 : PySem.W.codeIn K cd14 "next_pairs" = true) (k14 : PySem.W.keepIn K (.ref f14) = true)
    (a15 : PySem.W.nsIn K mainGlobals "from_least" = some (some (.ref f15))) (l15 : K.lookup f15 = some ⟨oc15, od15, .func (PySem.W.fnOf "from_least" "from_least" (defArgs s_from_least) (defBody s_from_least) (defScope s_from_least) .none kV15 dc15 pm15 an15 cd15 ct15), sl15⟩) (c15 : PySem.W.codeIn K cd15 "from_least" = true) (k15 : PySem.W.keepIn K (.ref f15) = true)
    (a16 : PySem.W.nsIn K mainGlobals "_steps_forward" = some (some (.ref f16))) (l16 : K.lookup f16 = some ⟨oc16, od16, .func (PySem.W.fnOf "_steps_forward" "_steps_forward" (defArgs s__steps_forward) (defBody s__steps_forward) (defScope s__steps_forward) .none kV16 dc16 pm16 an16 cd16 ct16), sl16⟩) (c16 : PySem.W.codeIn K cd16 "_steps_forward" = true) (k16 : PySem.W.keepIn K (.ref f16) = true)
    (a17 : PySem.W.nsIn K mainGlobals "_told_rings" = some (some (.ref f17))) (l17 : K.lookup f17 = some ⟨oc17, od17, .func (PySem.W.fnOf "_told_rings" "_told_rings" (defArgs s__told_rings) (defBody s__told_rings) (defScope s__told_rings) .none kV17 dc17 pm17 an17 cd17 ct17), sl17⟩) (c17 : PySem.W.codeIn K cd17 "_told_rings" = true) (k17 : PySem.W.keepIn K (.ref f17) = true)
    (a18 : PySem.W.nsIn K mainGlobals "_way" = some (some (.ref f18))) (l18 : K.lookup f18 = some ⟨oc18, od18, .func (PySem.W.fnOf "_way" "_way" (defArgs s__way) (defBody s__way) (defScope s__way) .none kV18 dc18 pm18 an18 cd18 ct18), sl18⟩) (c18 : PySem.W.codeIn K cd18 "_way" = true) (k18 : PySem.W.keepIn K (.ref f18) = true)
    (a19 : PySem.W.nsIn K mainGlobals "_told_ring" = some (some (.ref f19))) (l19 : K.lookup f19 = some ⟨oc19, od19, .func (PySem.W.fnOf "_told_ring" "_told_ring" (defArgs s__told_ring) (defBody s__told_ring) (defScope s__told_ring) .none kV19 dc19 pm19 an19 cd19 ct19), sl19⟩) (c19 : PySem.W.codeIn K cd19 "_told_ring" = true) (k19 : PySem.W.keepIn K (.ref f19) = true)
    (a20 : PySem.W.nsIn K mainGlobals "ring_counts" = some (some (.ref f20))) (l20 : K.lookup f20 = some ⟨oc20, od20, .func (PySem.W.fnOf "ring_counts" "ring_counts" (defArgs s_ring_counts) (defBody s_ring_counts) (defScope s_ring_counts) .none kV20 dc20 pm20 an20 cd20 ct20), sl20⟩) (c20 : PySem.W.codeIn K cd20 "ring_counts" = true) (k20 : PySem.W.keepIn K (.ref f20) = true)
    (a21 : PySem.W.nsIn K mainGlobals "_law_feed" = some (some (.ref f21))) (l21 : K.lookup f21 = some ⟨oc21, od21, .func (PySem.W.fnOf "_law_feed" "_law_feed" (defArgs s__law_feed) (defBody s__law_feed) (defScope s__law_feed) .none kV21 dc21 pm21 an21 cd21 ct21), sl21⟩) (c21 : PySem.W.codeIn K cd21 "_law_feed" = true) (k21 : PySem.W.keepIn K (.ref f21) = true)
    (a22 : PySem.W.nsIn K mainGlobals "_law_draw" = some (some (.ref f22))) (l22 : K.lookup f22 = some ⟨oc22, od22, .func (PySem.W.fnOf "_law_draw" "_law_draw" (defArgs s__law_draw) (defBody s__law_draw) (defScope s__law_draw) .none kV22 dc22 pm22 an22 cd22 ct22), sl22⟩) (c22 : PySem.W.codeIn K cd22 "_law_draw" = true) (k22 : PySem.W.keepIn K (.ref f22) = true)
    (a23 : PySem.W.nsIn K mainGlobals "_law_one" = some (some (.ref f23))) (l23 : K.lookup f23 = some ⟨oc23, od23, .func (PySem.W.fnOf "_law_one" "_law_one" (defArgs s__law_one) (defBody s__law_one) (defScope s__law_one) .none kV23 dc23 pm23 an23 cd23 ct23), sl23⟩) (c23 : PySem.W.codeIn K cd23 "_law_one" = true) (k23 : PySem.W.keepIn K (.ref f23) = true)
    (a24 : PySem.W.nsIn K mainGlobals "_law_mixed" = some (some (.ref f24))) (l24 : K.lookup f24 = some ⟨oc24, od24, .func (PySem.W.fnOf "_law_mixed" "_law_mixed" (defArgs s__law_mixed) (defBody s__law_mixed) (defScope s__law_mixed) .none kV24 dc24 pm24 an24 cd24 ct24), sl24⟩) (c24 : PySem.W.codeIn K cd24 "_law_mixed" = true) (k24 : PySem.W.keepIn K (.ref f24) = true)
    (a25 : PySem.W.nsIn K mainGlobals "_law_names" = some (some (.ref f25))) (l25 : K.lookup f25 = some ⟨oc25, od25, .func (PySem.W.fnOf "_law_names" "_law_names" (defArgs s__law_names) (defBody s__law_names) (defScope s__law_names) .none kV25 dc25 pm25 an25 cd25 ct25), sl25⟩) (c25 : PySem.W.codeIn K cd25 "_law_names" = true) (k25 : PySem.W.keepIn K (.ref f25) = true)
    (a26 : PySem.W.nsIn K mainGlobals "_law_web" = some (some (.ref f26))) (l26 : K.lookup f26 = some ⟨oc26, od26, .func (PySem.W.fnOf "_law_web" "_law_web" (defArgs s__law_web) (defBody s__law_web) (defScope s__law_web) .none kV26 dc26 pm26 an26 cd26 ct26), sl26⟩) (c26 : PySem.W.codeIn K cd26 "_law_web" = true) (k26 : PySem.W.keepIn K (.ref f26) = true)
    (a27 : PySem.W.nsIn K mainGlobals "_law_neighbours" = some (some (.ref f27))) (l27 : K.lookup f27 = some ⟨oc27, od27, .func (PySem.W.fnOf "_law_neighbours" "_law_neighbours" (defArgs s__law_neighbours) (defBody s__law_neighbours) (defScope s__law_neighbours) .none kV27 dc27 pm27 an27 cd27 ct27), sl27⟩) (c27 : PySem.W.codeIn K cd27 "_law_neighbours" = true) (k27 : PySem.W.keepIn K (.ref f27) = true)
    (a28 : PySem.W.nsIn K mainGlobals "_law_order" = some (some (.ref f28))) (l28 : K.lookup f28 = some ⟨oc28, od28, .func (PySem.W.fnOf "_law_order" "_law_order" (defArgs s__law_order) (defBody s__law_order) (defScope s__law_order) .none kV28 dc28 pm28 an28 cd28 ct28), sl28⟩) (c28 : PySem.W.codeIn K cd28 "_law_order" = true) (k28 : PySem.W.keepIn K (.ref f28) = true)
    (a29 : PySem.W.nsIn K mainGlobals "_law_moves" = some (some (.ref f29))) (l29 : K.lookup f29 = some ⟨oc29, od29, .func (PySem.W.fnOf "_law_moves" "_law_moves" (defArgs s__law_moves) (defBody s__law_moves) (defScope s__law_moves) .none kV29 dc29 pm29 an29 cd29 ct29), sl29⟩) (c29 : PySem.W.codeIn K cd29 "_law_moves" = true) (k29 : PySem.W.keepIn K (.ref f29) = true)
    (a30 : PySem.W.nsIn K mainGlobals "_law_wide_web" = some (some (.ref f30))) (l30 : K.lookup f30 = some ⟨oc30, od30, .func (PySem.W.fnOf "_law_wide_web" "_law_wide_web" (defArgs s__law_wide_web) (defBody s__law_wide_web) (defScope s__law_wide_web) .none kV30 dc30 pm30 an30 cd30 ct30), sl30⟩) (c30 : PySem.W.codeIn K cd30 "_law_wide_web" = true) (k30 : PySem.W.keepIn K (.ref f30) = true)
    (a31 : PySem.W.nsIn K mainGlobals "_law_some_web" = some (some (.ref f31))) (l31 : K.lookup f31 = some ⟨oc31, od31, .func (PySem.W.fnOf "_law_some_web" "_law_some_web" (defArgs s__law_some_web) (defBody s__law_some_web) (defScope s__law_some_web) .none kV31 dc31 pm31 an31 cd31 ct31), sl31⟩) (c31 : PySem.W.codeIn K cd31 "_law_some_web" = true) (k31 : PySem.W.keepIn K (.ref f31) = true)
    (a32 : PySem.W.nsIn K mainGlobals "_law_forward" = some (some (.ref f32))) (l32 : K.lookup f32 = some ⟨oc32, od32, .func (PySem.W.fnOf "_law_forward" "_law_forward" (defArgs s__law_forward) (defBody s__law_forward) (defScope s__law_forward) .none kV32 dc32 pm32 an32 cd32 ct32), sl32⟩) (c32 : PySem.W.codeIn K cd32 "_law_forward" = true) (k32 : PySem.W.keepIn K (.ref f32) = true)
    (a33 : PySem.W.nsIn K mainGlobals "_law_told_rings" = some (some (.ref f33))) (l33 : K.lookup f33 = some ⟨oc33, od33, .func (PySem.W.fnOf "_law_told_rings" "_law_told_rings" (defArgs s__law_told_rings) (defBody s__law_told_rings) (defScope s__law_told_rings) .none kV33 dc33 pm33 an33 cd33 ct33), sl33⟩) (c33 : PySem.W.codeIn K cd33 "_law_told_rings" = true) (k33 : PySem.W.keepIn K (.ref f33) = true)
    (a34 : PySem.W.nsIn K mainGlobals "law" = some (some (.ref f34))) (l34 : K.lookup f34 = some ⟨oc34, od34, .func (PySem.W.fnOf "law" "law" (defArgs s_law) (defBody s_law) (defScope s_law) .none kV34 dc34 pm34 an34 cd34 ct34), sl34⟩) (c34 : PySem.W.codeIn K cd34 "law" = true) (k34 : PySem.W.keepIn K (.ref f34) = true)
    : ∃ fd : FuncData, (∀ (s : Shared) (u : Value), BindsTo s fd ⟨[u], []⟩ [("_law_script", u)]) ∧ ∀ bs : Heap, K.In bs → bs.Ns mainGlobals mg → FnG P w K mg bs 8 fa fd ["_law_script"] (spLaw K) := by
  have B := bn_of X G b
  have Bd := bd_of X G b
  have Gg : Gn mg := ⟨⟨_, PySem.W.mg_of X G g0⟩, ⟨_, PySem.W.mg_of X G g1⟩, ⟨_, PySem.W.mg_of X G g2⟩, ⟨_, PySem.W.mg_of X G g3⟩, ⟨_, PySem.W.mg_of X G g4⟩⟩
  have F0 := fun_mk (st := s_is_name) l0 c0 k0
  have h0 := PySem.W.mg_of X G a0
  have D0 : Dn K mg "is_name" s_is_name ["thing"] := ⟨_, _, F0, h0, F0.binds fun _ _ _ _ _ _ us hl => match us, hl with | [_], _ => rfl⟩
  have F1 := fun_mk (st := s_is_web) l1 c1 k1
  have h1 := PySem.W.mg_of X G a1
  have D1 : Dn K mg "is_web" s_is_web ["thing"] := ⟨_, _, F1, h1, F1.binds fun _ _ _ _ _ _ us hl => match us, hl with | [_], _ => rfl⟩
  have F2 := fun_mk (st := s__are_places) l2 c2 k2
  have h2 := PySem.W.mg_of X G a2
  have D2 : Dn K mg "_are_places" s__are_places ["thing"] := ⟨_, _, F2, h2, F2.binds fun _ _ _ _ _ _ us hl => match us, hl with | [_], _ => rfl⟩
  have F3 := fun_mk (st := s__are_roads) l3 c3 k3
  have h3 := PySem.W.mg_of X G a3
  have D3 : Dn K mg "_are_roads" s__are_roads ["thing", "places"] := ⟨_, _, F3, h3, F3.binds fun _ _ _ _ _ _ us hl => match us, hl with | [_, _], _ => rfl⟩
  have F4 := fun_mk (st := s__is_road) l4 c4 k4
  have h4 := PySem.W.mg_of X G a4
  have D4 : Dn K mg "_is_road" s__is_road ["thing", "places"] := ⟨_, _, F4, h4, F4.binds fun _ _ _ _ _ _ us hl => match us, hl with | [_, _], _ => rfl⟩
  have F5 := fun_mk (st := s_is_one_of) l5 c5 k5
  have h5 := PySem.W.mg_of X G a5
  have D5 : Dn K mg "is_one_of" s_is_one_of ["thing", "places"] := ⟨_, _, F5, h5, F5.binds fun _ _ _ _ _ _ us hl => match us, hl with | [_, _], _ => rfl⟩
  have F6 := fun_mk (st := s_need_web) l6 c6 k6
  have h6 := PySem.W.mg_of X G a6
  have D6 : Dn K mg "need_web" s_need_web ["web"] := ⟨_, _, F6, h6, F6.binds fun _ _ _ _ _ _ us hl => match us, hl with | [_], _ => rfl⟩
  have F7 := fun_mk (st := s_need_order) l7 c7 k7
  have h7 := PySem.W.mg_of X G a7
  have D7 : Dn K mg "need_order" s_need_order ["web", "order"] := ⟨_, _, F7, h7, F7.binds fun _ _ _ _ _ _ us hl => match us, hl with | [_, _], _ => rfl⟩
  have F8 := fun_mk (st := s_is_order) l8 c8 k8
  have h8 := PySem.W.mg_of X G a8
  have D8 : Dn K mg "is_order" s_is_order ["web", "thing"] := ⟨_, _, F8, h8, F8.binds fun _ _ _ _ _ _ us hl => match us, hl with | [_, _], _ => rfl⟩
  have F9 := fun_mk (st := s_are_joined) l9 c9 k9
  have h9 := PySem.W.mg_of X G a9
  have D9 : Dn K mg "are_joined" s_are_joined ["web", "one", "other"] := ⟨_, _, F9, h9, F9.binds fun _ _ _ _ _ _ us hl => match us, hl with | [_, _, _], _ => rfl⟩
  have F10 := fun_mk (st := s_near_of) l10 c10 k10
  have h10 := PySem.W.mg_of X G a10
  have D10 : Dn K mg "near_of" s_near_of ["web", "place"] := ⟨_, _, F10, h10, F10.binds fun _ _ _ _ _ _ us hl => match us, hl with | [_, _], _ => rfl⟩
  have F11 := fun_mk (st := s_pieces) l11 c11 k11
  have h11 := PySem.W.mg_of X G a11
  have D11 : Dn K mg "pieces" s_pieces ["web"] := ⟨_, _, F11, h11, F11.binds fun _ _ _ _ _ _ us hl => match us, hl with | [_], _ => rfl⟩
  have F12 := fun_mk (st := s_need_ordered) l12 c12 k12
  have h12 := PySem.W.mg_of X G a12
  have D12 : Dn K mg "need_ordered" s_need_ordered ["web", "order"] := ⟨_, _, F12, h12, F12.binds fun _ _ _ _ _ _ us hl => match us, hl with | [_, _], _ => rfl⟩
  have F13 := fun_mk (st := s_by_numbers) l13 c13 k13
  have h13 := PySem.W.mg_of X G a13
  have D13 : Dn K mg "by_numbers" s_by_numbers ["web", "order"] := ⟨_, _, F13, h13, F13.binds fun _ _ _ _ _ _ us hl => match us, hl with | [_, _], _ => rfl⟩
  have F14 := fun_mk (st := s_next_pairs) l14 c14 k14
  have h14 := PySem.W.mg_of X G a14
  have D14 : Dn K mg "next_pairs" s_next_pairs ["ring"] := ⟨_, _, F14, h14, F14.binds fun _ _ _ _ _ _ us hl => match us, hl with | [_], _ => rfl⟩
  have F15 := fun_mk (st := s_from_least) l15 c15 k15
  have h15 := PySem.W.mg_of X G a15
  have D15 : Dn K mg "from_least" s_from_least ["ring"] := ⟨_, _, F15, h15, F15.binds fun _ _ _ _ _ _ us hl => match us, hl with | [_], _ => rfl⟩
  have F16 := fun_mk (st := s__steps_forward) l16 c16 k16
  have h16 := PySem.W.mg_of X G a16
  have D16 : Dn K mg "_steps_forward" s__steps_forward ["order", "ring"] := ⟨_, _, F16, h16, F16.binds fun _ _ _ _ _ _ us hl => match us, hl with | [_, _], _ => rfl⟩
  have F17 := fun_mk (st := s__told_rings) l17 c17 k17
  have h17 := PySem.W.mg_of X G a17
  have D17 : Dn K mg "_told_rings" s__told_rings ["web"] := ⟨_, _, F17, h17, F17.binds fun _ _ _ _ _ _ us hl => match us, hl with | [_], _ => rfl⟩
  have F18 := fun_mk (st := s__way) l18 c18 k18
  have h18 := PySem.W.mg_of X G a18
  have D18 : Dn K mg "_way" s__way ["web", "start", "end"] := ⟨_, _, F18, h18, F18.binds fun _ _ _ _ _ _ us hl => match us, hl with | [_, _, _], _ => rfl⟩
  have F19 := fun_mk (st := s__told_ring) l19 c19 k19
  have h19 := PySem.W.mg_of X G a19
  have D19 : Dn K mg "_told_ring" s__told_ring ["web", "ring"] := ⟨_, _, F19, h19, F19.binds fun _ _ _ _ _ _ us hl => match us, hl with | [_, _], _ => rfl⟩
  have F20 := fun_mk (st := s_ring_counts) l20 c20 k20
  have h20 := PySem.W.mg_of X G a20
  have D20 : Dn K mg "ring_counts" s_ring_counts ["web", "order"] := ⟨_, _, F20, h20, F20.binds fun _ _ _ _ _ _ us hl => match us, hl with | [_, _], _ => rfl⟩
  have F21 := fun_mk (st := s__law_feed) l21 c21 k21
  have h21 := PySem.W.mg_of X G a21
  have D21 : Dn K mg "_law_feed" s__law_feed ["_law_script", "_law_k"] := ⟨_, _, F21, h21, F21.binds fun _ _ _ _ _ _ us hl => match us, hl with | [_, _], _ => rfl⟩
  have F22 := fun_mk (st := s__law_draw) l22 c22 k22
  have h22 := PySem.W.mg_of X G a22
  have D22 : Dn K mg "_law_draw" s__law_draw ["_law_feed_here", "_law_many"] := ⟨_, _, F22, h22, F22.binds fun _ _ _ _ _ _ us hl => match us, hl with | [_, _], _ => rfl⟩
  have F23 := fun_mk (st := s__law_one) l23 c23 k23
  have h23 := PySem.W.mg_of X G a23
  have D23 : Dn K mg "_law_one" s__law_one ["_law_feed_here", "_law_things"] := ⟨_, _, F23, h23, F23.binds fun _ _ _ _ _ _ us hl => match us, hl with | [_, _], _ => rfl⟩
  have F24 := fun_mk (st := s__law_mixed) l24 c24 k24
  have h24 := PySem.W.mg_of X G a24
  have D24 : Dn K mg "_law_mixed" s__law_mixed ["_law_feed_here", "_law_things"] := ⟨_, _, F24, h24, F24.binds fun _ _ _ _ _ _ us hl => match us, hl with | [_, _], _ => rfl⟩
  have F25 := fun_mk (st := s__law_names) l25 c25 k25
  have h25 := PySem.W.mg_of X G a25
  have D25 : Dn K mg "_law_names" s__law_names ["_law_feed_here", "_law_many"] := ⟨_, _, F25, h25, F25.binds fun _ _ _ _ _ _ us hl => match us, hl with | [_, _], _ => rfl⟩
  have F26 := fun_mk (st := s__law_web) l26 c26 k26
  have h26 := PySem.W.mg_of X G a26
  have D26 : Dn K mg "_law_web" s__law_web ["_law_feed_here", "_law_way", "_law_most"] := ⟨_, _, F26, h26, F26.binds fun _ _ _ _ _ _ us hl => match us, hl with | [_, _, _], _ => rfl⟩
  have F27 := fun_mk (st := s__law_neighbours) l27 c27 k27
  have h27 := PySem.W.mg_of X G a27
  have D27 : Dn K mg "_law_neighbours" s__law_neighbours ["_law_web_here", "_law_place"] := ⟨_, _, F27, h27, F27.binds fun _ _ _ _ _ _ us hl => match us, hl with | [_, _], _ => rfl⟩
  have F28 := fun_mk (st := s__law_order) l28 c28 k28
  have h28 := PySem.W.mg_of X G a28
  have D28 : Dn K mg "_law_order" s__law_order ["_law_feed_here", "_law_web_here"] := ⟨_, _, F28, h28, F28.binds fun _ _ _ _ _ _ us hl => match us, hl with | [_, _], _ => rfl⟩
  have F29 := fun_mk (st := s__law_moves) l29 c29 k29
  have h29 := PySem.W.mg_of X G a29
  have D29 : Dn K mg "_law_moves" s__law_moves ["_law_feed_here", "_law_web_here", "_law_order_here", "_law_many"] := ⟨_, _, F29, h29, F29.binds fun _ _ _ _ _ _ us hl => match us, hl with | [_, _, _, _], _ => rfl⟩
  have F30 := fun_mk (st := s__law_wide_web) l30 c30 k30
  have h30 := PySem.W.mg_of X G a30
  have D30 : Dn K mg "_law_wide_web" s__law_wide_web ["_law_feed_here"] := ⟨_, _, F30, h30, F30.binds fun _ _ _ _ _ _ us hl => match us, hl with | [_], _ => rfl⟩
  have F31 := fun_mk (st := s__law_some_web) l31 c31 k31
  have h31 := PySem.W.mg_of X G a31
  have D31 : Dn K mg "_law_some_web" s__law_some_web ["_law_feed_here", "_law_most"] := ⟨_, _, F31, h31, F31.binds fun _ _ _ _ _ _ us hl => match us, hl with | [_, _], _ => rfl⟩
  have F32 := fun_mk (st := s__law_forward) l32 c32 k32
  have h32 := PySem.W.mg_of X G a32
  have D32 : Dn K mg "_law_forward" s__law_forward ["_law_order_here", "_law_ring"] := ⟨_, _, F32, h32, F32.binds fun _ _ _ _ _ _ us hl => match us, hl with | [_, _], _ => rfl⟩
  have F33 := fun_mk (st := s__law_told_rings) l33 c33 k33
  have h33 := PySem.W.mg_of X G a33
  have D33 : Dn K mg "_law_told_rings" s__law_told_rings ["_law_web_here"] := ⟨_, _, F33, h33, F33.binds fun _ _ _ _ _ _ us hl => match us, hl with | [_], _ => rfl⟩
  have F34 := fun_mk (st := s_law) l34 c34 k34
  have h34 := PySem.W.mg_of X G a34
  have e := hfa.symm.trans h34
  cases e
  have DK_pieces : Dk K mg "pieces" s_pieces ["web"] ["web"] := ⟨_, _, F11, h11, kb1 rfl fun _ => rfl⟩
  have DK_ring_counts : Dk K mg "ring_counts" s_ring_counts ["web", "order"] ["order", "web"] := ⟨_, _, F20, h20, kb2 rfl fun _ _ => rfl⟩
  refine ⟨PySem.W.fnOf "law" "law" (defArgs s_law) (defBody s_law) (defScope s_law) .none kV34 dc34 pm34 an34 cd34 ct34, fun s u => .of_eq rfl, fun bs _ _ => ?_⟩
  have r_C__law_draw := ok_draw (P := P) (w := w) (base := bs)  D22 B
  have r_C__law_one := ok_one (P := P) (w := w) (base := bs)  D23 B r_C__law_draw
  have r_C__law_mixed := ok_mixed (P := P) (w := w) (base := bs)  D24 B r_C__law_draw
  have r_C__law_names := ok_names (P := P) (w := w) (base := bs)  D25 B r_C__law_mixed
  have r_C__law_web := ok_web (P := P) (w := w) (base := bs)  D26 B r_C__law_draw r_C__law_mixed r_C__law_names
  have r_C__law_feed := ok_feed (P := P) (w := w) (base := bs)  D21 B
  have r_C__law_mixed_spMixedT := ok_mixedT (P := P) (w := w) (base := bs)  D24 B r_C__law_draw
  have r_C__law_order := ok_order (P := P) (w := w) (base := bs)  D28 B r_C__law_mixed_spMixedT
  have r_C_is_name := ok_is_name (P := P) (w := w) (base := bs)  D0 B Gg
  have r_C_is_one_of := ok_is_one_of (P := P) (w := w) (base := bs)  D5 B
  have r_C__is_road := ok_is_road (P := P) (w := w) (base := bs)  D4 B r_C_is_one_of
  have r_C__are_places := ok_are_places (P := P) (w := w) (base := bs)  D2 B Gg r_C_is_name
  have r_C__are_roads := ok_are_roads (P := P) (w := w) (base := bs)  D3 B Gg r_C__is_road
  have r_C_is_web := ok_is_web (P := P) (w := w) (base := bs)  D1 B r_C__are_places r_C__are_roads
  have r_C_need_web := ok_need_web (P := P) (w := w) (base := bs)  D6 B r_C_is_web
  have r_C_is_order := ok_is_order (P := P) (w := w) (base := bs)  D8 B r_C_is_one_of
  have r_C_need_order := ok_need_order (P := P) (w := w) (base := bs)  D7 B r_C_is_order
  have r_C_need_ordered := ok_need_ordered (P := P) (w := w) (base := bs)  D12 B r_C_need_web r_C_need_order
  have r_C__law_wide_web := ok_wide3 (P := P) (w := w) (base := bs)  D30 B r_C__law_draw r_C__law_one r_C__law_mixed
  have r_C__law_neighbours := ok_near (P := P) (w := w) (base := bs)  D27 B
  have r_C__law_moves := ok_lmovesF (P := P) (w := w) (base := bs)  D29 B r_C__law_draw r_C__law_neighbours
  have r_C__law_some_web := ok_some_web (P := P) (w := w) (base := bs)  D31 B r_C__law_draw r_C__law_one r_C__law_wide_web r_C__law_web
  have r_C_next_pairs := ok_next (P := P) (w := w) (base := bs)  D14 B
  have r_C__steps_forward := ok_stepsF (P := P) (w := w) (base := bs)  D16 B r_C_next_pairs
  have r_C__law_forward := ok_law_forward (P := P) (w := w) (base := bs)  D32 B
  have r_C_are_joined := ok_are_joined (P := P) (w := w) (base := bs)  D9 B
  have r_C_near_of := ok_near_of (P := P) (w := w) (base := bs)  D10 B r_C_are_joined
  have r_C_pieces := ok_pieces (P := P) (w := w) (base := bs)  D11 B r_C_need_web
  have r_K_pieces := ok_piecesK (P := P) (w := w) (base := bs)  DK_pieces B r_C_need_web
  have r_C_by_numbers := ok_by_numbers (P := P) (w := w) (base := bs)  D13 B
  have r_C_from_least := ok_from_leastTN (P := P) (w := w) (base := bs)  D15 B
  have r_C__told_ring := ok_told_ring (P := P) (w := w) (base := bs)  D19 B r_C_from_least r_C_by_numbers
  have r_C__way := ok_way (P := P) (w := w) (base := bs)  D18 B r_C_near_of
  have r_C__told_rings := ok_told_rings (P := P) (w := w) (base := bs)  D17 B r_C__way r_C__told_ring
  have r_C_ring_counts := ok_counts (P := P) (w := w) (base := bs)  D20 B r_C_need_ordered r_C__steps_forward r_C__told_rings
  have r_K_ring_counts := ok_countsK (P := P) (w := w) (base := bs)  DK_ring_counts B r_C_need_ordered r_C__steps_forward r_C__told_rings
  have r_C__law_told_rings := ok_law_ringsT (P := P) (w := w) (base := bs)  D33 B
  have r_C__law_order_spOrderF := ok_orderF (P := P) (w := w) (base := bs)  D28 B r_C__law_mixed_spMixedT
  exact ok_law (P := P) (w := w) (base := bs)  F34 B r_C__law_feed r_C__law_mixed_spMixedT r_C__law_some_web r_C__law_order_spOrderF r_C__law_moves r_C__law_told_rings r_C__law_forward r_C_ring_counts r_K_ring_counts r_C_pieces
end
end J
open PySem PySem.W PyProof.Rows in
set_option maxRecDepth 100000 in
set_option maxHeartbeats 0 in
theorem PySem.Challenge.cw_eachinturn_k44_told_rings_and_their_coun_holds : PySem.Challenge.rw_eachinturn_k44_told_rings_and_their_coun.Holds := by
  refine k44_top ?_
  k_fill
  refine J.walk_ofG (l := PySem.Challenge.rw_eachinturn_k44_told_rings_and_their_coun) (n := 63) (k := 8) (x := "_law_script") (sp := fun K => J.spLaw K) rfl (by decide) rfl ⟨rfl, by decide, by decide⟩ (fun w h Y => PySem.W.kIn_of Y) ?F (fun K H a ns hl _ hS => ⟨a, ns, rfl, hS, hl, fun _ => rfl⟩)
  case F =>
    intro w mg fa h KX G hmg
    refine' J.all_mk KX G hmg ?u_bs ?u_g0 ?u_g1 ?u_g2 ?u_g3 ?u_g4 ?u_a0 ?u_l0 ?u_c0 ?u_k0 ?u_a1 ?u_l1 ?u_c1 ?u_k1 ?u_a2 ?u_l2 ?u_c2 ?u_k2 ?u_a3 ?u_l3 ?u_c3 ?u_k3 ?u_a4 ?u_l4 ?u_c4 ?u_k4 ?u_a5 ?u_l5 ?u_c5 ?u_k5 ?u_a6 ?u_l6 ?u_c6 ?u_k6 ?u_a7 ?u_l7 ?u_c7 ?u_k7 ?u_a8 ?u_l8 ?u_c8 ?u_k8 ?u_a9 ?u_l9 ?u_c9 ?u_k9 ?u_a10 ?u_l10 ?u_c10 ?u_k10 ?u_a11 ?u_l11 ?u_c11 ?u_k11 ?u_a12 ?u_l12 ?u_c12 ?u_k12 ?u_a13 ?u_l13 ?u_c13 ?u_k13 ?u_a14 ?u_l14 ?u_c14 ?u_k14 ?u_a15 ?u_l15 ?u_c15 ?u_k15 ?u_a16 ?u_l16 ?u_c16 ?u_k16 ?u_a17 ?u_l17 ?u_c17 ?u_k17 ?u_a18 ?u_l18 ?u_c18 ?u_k18 ?u_a19 ?u_l19 ?u_c19 ?u_k19 ?u_a20 ?u_l20 ?u_c20 ?u_k20 ?u_a21 ?u_l21 ?u_c21 ?u_k21 ?u_a22 ?u_l22 ?u_c22 ?u_k22 ?u_a23 ?u_l23 ?u_c23 ?u_k23 ?u_a24 ?u_l24 ?u_c24 ?u_k24 ?u_a25 ?u_l25 ?u_c25 ?u_k25 ?u_a26 ?u_l26 ?u_c26 ?u_k26 ?u_a27 ?u_l27 ?u_c27 ?u_k27 ?u_a28 ?u_l28 ?u_c28 ?u_k28 ?u_a29 ?u_l29 ?u_c29 ?u_k29 ?u_a30 ?u_l30 ?u_c30 ?u_k30 ?u_a31 ?u_l31 ?u_c31 ?u_k31 ?u_a32 ?u_l32 ?u_c32 ?u_k32 ?u_a33 ?u_l33 ?u_c33 ?u_k33 ?u_a34 ?u_l34 ?u_c34 ?u_k34
    (case u_g0 => k_is)
    (case u_g1 => k_is)
    (case u_g2 => k_is)
    (case u_g3 => k_is)
    (case u_g4 => k_is)
    (case u_a0 => k_is)
    (case u_l0 => k_is)
    (case u_c0 => k_is)
    (case u_k0 => k_is)
    (case u_a1 => k_is)
    (case u_l1 => k_is)
    (case u_c1 => k_is)
    (case u_k1 => k_is)
    (case u_a2 => k_is)
    (case u_l2 => k_is)
    (case u_c2 => k_is)
    (case u_k2 => k_is)
    (case u_a3 => k_is)
    (case u_l3 => k_is)
    (case u_c3 => k_is)
    (case u_k3 => k_is)
    (case u_a4 => k_is)
    (case u_l4 => k_is)
    (case u_c4 => k_is)
    (case u_k4 => k_is)
    (case u_a5 => k_is)
    (case u_l5 => k_is)
    (case u_c5 => k_is)
    (case u_k5 => k_is)
    (case u_a6 => k_is)
    (case u_l6 => k_is)
    (case u_c6 => k_is)
    (case u_k6 => k_is)
    (case u_a7 => k_is)
    (case u_l7 => k_is)
    (case u_c7 => k_is)
    (case u_k7 => k_is)
    (case u_a8 => k_is)
    (case u_l8 => k_is)
    (case u_c8 => k_is)
    (case u_k8 => k_is)
    (case u_a9 => k_is)
    (case u_l9 => k_is)
    (case u_c9 => k_is)
    (case u_k9 => k_is)
    (case u_a10 => k_is)
    (case u_l10 => k_is)
    (case u_c10 => k_is)
    (case u_k10 => k_is)
    (case u_a11 => k_is)
    (case u_l11 => k_is)
    (case u_c11 => k_is)
    (case u_k11 => k_is)
    (case u_a12 => k_is)
    (case u_l12 => k_is)
    (case u_c12 => k_is)
    (case u_k12 => k_is)
    (case u_a13 => k_is)
    (case u_l13 => k_is)
    (case u_c13 => k_is)
    (case u_k13 => k_is)
    (case u_a14 => k_is)
    (case u_l14 => k_is)
    (case u_c14 => k_is)
    (case u_k14 => k_is)
    (case u_a15 => k_is)
    (case u_l15 => k_is)
    (case u_c15 => k_is)
    (case u_k15 => k_is)
    (case u_a16 => k_is)
    (case u_l16 => k_is)
    (case u_c16 => k_is)
    (case u_k16 => k_is)
    (case u_a17 => k_is)
    (case u_l17 => k_is)
    (case u_c17 => k_is)
    (case u_k17 => k_is)
    (case u_a18 => k_is)
    (case u_l18 => k_is)
    (case u_c18 => k_is)
    (case u_k18 => k_is)
    (case u_a19 => k_is)
    (case u_l19 => k_is)
    (case u_c19 => k_is)
    (case u_k19 => k_is)
    (case u_a20 => k_is)
    (case u_l20 => k_is)
    (case u_c20 => k_is)
    (case u_k20 => k_is)
    (case u_a21 => k_is)
    (case u_l21 => k_is)
    (case u_c21 => k_is)
    (case u_k21 => k_is)
    (case u_a22 => k_is)
    (case u_l22 => k_is)
    (case u_c22 => k_is)
    (case u_k22 => k_is)
    (case u_a23 => k_is)
    (case u_l23 => k_is)
    (case u_c23 => k_is)
    (case u_k23 => k_is)
    (case u_a24 => k_is)
    (case u_l24 => k_is)
    (case u_c24 => k_is)
    (case u_k24 => k_is)
    (case u_a25 => k_is)
    (case u_l25 => k_is)
    (case u_c25 => k_is)
    (case u_k25 => k_is)
    (case u_a26 => k_is)
    (case u_l26 => k_is)
    (case u_c26 => k_is)
    (case u_k26 => k_is)
    (case u_a27 => k_is)
    (case u_l27 => k_is)
    (case u_c27 => k_is)
    (case u_k27 => k_is)
    (case u_a28 => k_is)
    (case u_l28 => k_is)
    (case u_c28 => k_is)
    (case u_k28 => k_is)
    (case u_a29 => k_is)
    (case u_l29 => k_is)
    (case u_c29 => k_is)
    (case u_k29 => k_is)
    (case u_a30 => k_is)
    (case u_l30 => k_is)
    (case u_c30 => k_is)
    (case u_k30 => k_is)
    (case u_a31 => k_is)
    (case u_l31 => k_is)
    (case u_c31 => k_is)
    (case u_k31 => k_is)
    (case u_a32 => k_is)
    (case u_l32 => k_is)
    (case u_c32 => k_is)
    (case u_k32 => k_is)
    (case u_a33 => k_is)
    (case u_l33 => k_is)
    (case u_c33 => k_is)
    (case u_k33 => k_is)
    (case u_a34 => k_is)
    (case u_l34 => k_is)
    (case u_c34 => k_is)
    (case u_k34 => k_is)
    (case u_bs => kernel_rfl)
