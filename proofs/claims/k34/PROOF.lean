import PyProof.Rows.All
import Wide.All
import OpenK.AllK
import Wide.FinOn
import PySem.Challenge.RW_eachinturn_k34_rules_that_part_orders
import HandS.ForMost
import HandS.Deep
import HandS.Wide
import HandS.IsInst
import HandS.TupAny
import HandS.Style
import PyProof.P3In
import PyProof.Rows.EqDataRows
import HandS.Conv
import HandS.TupSets
import HandS.SetBool
import HandS.Strs
import HandS.ExcOwn
import HandS.ExcValue
import HandS.Text
import PyProof.Rows.SortShellAny
import PyProof.ReprLen
import PyProof.Rows.RegFStrParts
import HandS.Zip
import KE.KSortTupG
import HandS.RaiseMore
import HandS.Walk
import KE.KDictZip
import KE.GoesMore
import KE.KItemsList
import HandS.TupMul
import KE.KDictPairs
import KE.KDictKeyed
import HandS.Flow
import HandS.TupLen
import HandS.DictComp
import HandS.SetFor
import PyProof.Rows.ChunkEnd
import KE.SortData
import KE.KDictDisplayH
import KE.KeyNested
import HandS.List
import KE.KDictCopyH
import KE.DataMinMax
import HandS.WordsExc
import HandS.ExcIs
import HandS.ListItems
import HandS.SortInts
import KE.DatumIndex
import PyProof.NeKinds
set_option Elab.async false
set_option linter.all false
set_option maxRecDepth 100000
set_option maxHeartbeats 8000000
section
open PySem PySem.W PyProof.Rows
set_option maxRecDepth 100000
set_option maxHeartbeats 0
open_top k34_top for PySem.Challenge.rw_eachinturn_k34_rules_that_part_orders
end
namespace J
section
open L2 PySem PySem.Spec PyProof.Rows
structure FnG (P : Program) (w : World) (K : PySem.W.Frag) (mg : Str → Option Value) (base : Heap) (k : Nat) (f : Addr) (fd : FuncData) (ps : List Str) (sp : Sp) : Prop where
  len : ∀ us H Q E, sp us H Q E → us.length = ps.length
  go : ∀ (A : Around) (fr : List Env) (s : Shared) (H : Hp) (ar : Args) (us : List Value) (vs : List V) (Q : VK) (E : XK), A.guards = some [] → Room k A → Env0 P w K mg base A fr s H → BindsTo s fd ar (ps.zip us) →
    Vals vs us → sp vs H Q E → codeAny (model P w) A (.call (.ref f) ar) (CR CX0 fr P w H s Q E) s
section
variable {base : Heap} {P : Program} {w : World} {K : PySem.W.Frag} {mg : Str → Option Value}
theorem okG {x qual : Str} {st : Stmt} {f : Addr} {fd : FuncData} {N ps : List Str} {k : Nat} {sp : Sp} (F : Fun K x qual st f fd) (S : FnScope N ps (defScope st)) (len : ∀ vs H Q E, sp vs H Q E → vs.length = ps.length)
    (bd : ∀ (cdv : Value) (A : Around) (fr : List Env) (s : Shared) (H : Hp) (vs : List V) (Q : VK) (E : XK), A.guards = some [] → Room k (A.deeper (envOfC qual (defScope st) s.heap.objs.size f cdv)) → sp vs H Q E →
      ∃ t, PSs (cxOf CX0 P w K mg base N qual (defScope st) f cdv A fr s H E).nox (defBody st) t ∧ t { nx := fun _ H' => Q .non H', rt := Q } (start N vs) H) :
    FnG P w K mg base (k + 1) f fd ps sp := by
  obtain ⟨oc, od, kV, doc, pm, an, cdv, ct, osl, rfl, lk, hcd⟩ := F.ex
  refine ⟨len, fun A fr s H ar us vs Q E hg hr e0 hb r hsp => ?_⟩
  have hlen := len _ _ _ _ hsp
  have kin : K.In s.heap := PySem.W.Frag.In.keeps e0.mod.kin (fun b o e => (e0.bs b o e).1)
  have nol : s.heap.NoLimit := Heap.NoLimit.keeps e0.mod.nolimit (fun b o e => (e0.bs b o e).1)
  obtain ⟨t, ht, hq⟩ := bd cdv A fr s H vs Q E hg (hr.deeper _) hsp
  have kd : ∀ z ∈ ps.zip us, (defScope st).names.lookup z.1 = some .local ∨ ((defScope st).names.lookup z.1 = some .cell ∧ ((cellsFrom (s.heap.objs.size + 1) (defScope st).names []).lookup z.1).isSome = true) := by
    rintro ⟨n, v⟩ hz
    cases S.par n (List.of_mem_zip hz).1 with
    | inl q => exact .inl q
    | inr q => exact .inr ⟨q, PySem.W.cellsFrom_some _ _ _ (.inl q)⟩
  refine codeAny_call_function hr.depth (kin _ _ lk) rfl S.co S.gen rfl (PySem.W.codeRec_of kin hcd) (hb _ _ _ _ (wpAny_newFunctionEnv_cells S.kind kd ?_))
  rintro env rfl s1 x
  refine ⟨nol.keeps x.toInCall.keep, codeAny_func (wpAny_mono (ht.nox.run [] s1 (start N vs) H _ (inv_start S hr.hd e0 hlen r x) hq) ?_ fun _ _ z => z)⟩
  rintro (_ | _ | _ | u) s' hs
  · obtain ⟨_, _, J, q⟩ := hs
    exact ⟨V.non, _, J.os, J.bare, J.base, J.hok, rfl, q⟩
  · obtain ⟨_, _, _, q⟩ := hs
    exact q.elim
  · obtain ⟨_, _, _, q⟩ := hs
    exact q.elim
  · obtain ⟨v, _, _, J, rv, q⟩ := hs
    exact ⟨v, _, J.os, J.bare, J.base, J.hok, rv, q⟩
end
section
variable {P : Program} {w : World} {K : PySem.W.Frag} {mg mb : Str → Option Value} {k : Nat} {fa a : Addr} {fd : FuncData} {x : Str} {sp : Sp} {s₁ : Shared} {vs : List Value} {ns : List Int}
abbrev Told (s₁ : Shared) : Result → Shared → Prop := fun r s' => r = .ok (.ret (.bool true)) ∧ OldK s₁.heap s'.heap ∧ s'.os = s₁.os ∧ AllBare s'.gens
theorem run_core {H : Hp} (KX : K.In s₁.heap) (hns : s₁.heap.Ns mainGlobals mg) (hb : s₁.heap.Ns builtinsNs mb) (hbb : ∀ y : Str, y ≠ "__name__" → mb y = bootBuiltins y) (hlim : s₁.heap.NoLimit) (hg : s₁.gens = #[])
    (ha : s₁.heap.get? a = some { cls := .type "list", data := .seq vs.toArray }) (hr : Room k callerA)
    (F : ∀ bs : Heap, K.In bs → bs.Ns mainGlobals mg → FnG P w K mg bs k fa fd [x] sp) (hbind : ∀ (s : Shared) (u : Value), BindsTo s fd ⟨[u], []⟩ [(x, u)])
    (hO : Only H) (hsp : sp [.ref a] H (fun v _ => v = .bl true) fun _ _ _ => False) (hok : HOk P w H s₁.heap) (hA : ∀ b u, H b = some u → b = a) (hK : ∀ u, H a = some u → K.lookup a = none) :
    codeAny (model P w) callerA (.call (.ref fa) ⟨[.ref a], []⟩) (Told s₁) s₁ := by
  have away : ∀ {b : Addr} {o : Obj}, s₁.heap.get? b = some o → (∀ ws n, o.data ≠ .seq ws n) → H b = none := by
    intro b o e nd
    cases q : H b with
    | none => rfl
    | some u =>
      have eb := hA b u q
      rw [eb, ha] at e
      exact absurd (congrArg Obj.data (Option.some.inj e)).symm (nd _ _)
  have ns' : ∀ {b : Addr} {m : Str → Option Value}, s₁.heap.Ns b m → (hidT s₁.heap H).Ns b m := by
    rintro b m ⟨o, es, ep, e, dt, r⟩
    exact ⟨o, es, ep, hidT_get e (away e fun ws n z => by rw [dt] at z; cases z), dt, r⟩
  have kb : K.In (hidT s₁.heap H) := by
    intro b o e
    refine hidT_get (KX b o e) ?_
    cases q : H b with
    | none => rfl
    | some u =>
      have eb := hA b u q
      subst eb
      rw [hK u q] at e
      cases e
  have mo : Mod K mg (hidT s₁.heap H) := ⟨kb, ns' hns, ⟨mb, ns' hb, hbb⟩, by obtain ⟨mc, l1, l2⟩ := hlim; exact ⟨mc, ns' l1, l2⟩⟩
  have ev : Env0 P w K mg (hidT s₁.heap H) callerA [] s₁ H := ⟨rfl, mo, fun b o z => of_hidT z, Nat.le_of_eq (hidT_size _ _), trivial, by rintro b ⟨⟩, hok, .of_eq hg⟩
  have go := (F _ kb (ns' hns)).go callerA [] s₁ H ⟨[.ref a], []⟩ [.ref a] [.ref a] _ _ rfl hr ev (hbind s₁ (.ref a)) (.cons rfl .nil) hsp
  refine codeAny_mono go ?_
  rintro (err | (_ | _ | _ | u)) s' h
  · exact (show False by simpa [CR, CX0] using h).elim
  · exact h.elim
  · exact h.elim
  · exact h.elim
  · obtain ⟨v, H', os, bare, un, hok', r', q⟩ := h
    obtain rfl : v = .bl true := q
    obtain rfl : u = Value.bool true := r'
    refine ⟨rfl, OldK.of_keep ?_, os, bare⟩
    intro b o e
    rcases hO b with z | ⟨ob, xs, z⟩
    · exact un.keep b o e z (by rintro ⟨⟩) (by simp)
    · have f1 := (hok b _ z).1
      have f2 := (hok' b _ (un.frzs b ob _ z)).1
      rw [e] at f1
      cases f1
      exact f2
theorem law_callG (KX : K.In s₁.heap) (hns : s₁.heap.Ns mainGlobals mg) (hb : s₁.heap.Ns builtinsNs mb) (hbb : ∀ y : Str, y ≠ "__name__" → mb y = bootBuiltins y) (hlim : s₁.heap.NoLimit) (hg : s₁.gens = #[])
    (ha : s₁.heap.get? a = some { cls := .type "list", data := .seq vs.toArray })
    (hi : IntsAre vs ns) (hl : ns.length ≤ sizeLine) (hr : Room k callerA)
    (F : ∀ bs : Heap, K.In bs → bs.Ns mainGlobals mg → FnG P w K mg bs k fa fd [x] sp) (hbind : ∀ (s : Shared) (u : Value), BindsTo s fd ⟨[u], []⟩ [(x, u)])
    (hsp : ∀ H : Hp, Only H → SqL K H a (ns.map V.int) → sp [.ref a] H (fun v _ => v = .bl true) fun _ _ _ => False) :
    codeAny (model P w) callerA (.call (.ref fa) ⟨[.ref a], []⟩) (Told s₁) s₁ := by
  have rv := vals_ints hi
  have ln := hi.length
  by_cases hk : ∃ o, K.lookup a = some o
  · obtain ⟨o, hk⟩ := hk
    have e := KX a o hk
    rw [ha] at e
    cases e
    have hO : Only (fun _ => none) := fun _ => .inl rfl
    refine run_core (H := fun _ => none) KX hns hb hbb hlim hg ha hr F hbind hO (hsp _ hO (.inr ⟨_, vs.toArray, _, hk, rfl, rfl, rfl, ?_, by simpa using rv⟩)) ?_ ?_ ?_
    · rw [List.size_toArray, ln]
      exact hl
    · intro b u z
      cases z
    · intro b u z
      cases z
    · intro u z
      cases z
  · have hk0 : K.lookup a = none := by
      cases q : K.lookup a with
      | none => rfl
      | some o => exact absurd ⟨o, q⟩ hk
    let fz : HO := .frz { cls := .type "list", data := .seq vs.toArray } (.lst (ns.map V.int))
    let H : Hp := upd (fun _ => none) a fz
    have hO : Only H := by
      intro b
      by_cases e : b = a
      · subst e
        exact .inr ⟨_, _, upd_same⟩
      · exact .inl (upd_ne e)
    have one : ∀ b u, H b = some u → b = a := by
      intro b u z
      by_cases e : b = a
      · exact e
      · rw [show H b = none from upd_ne e] at z
        cases z
    refine run_core (H := H) KX hns hb hbb hlim hg ha hr F hbind hO (hsp _ hO (.inl (.inr ⟨_, upd_same⟩))) ?_ one fun _ _ => hk0
    intro b u z
    have eb := one b u z
    subst eb
    rw [show H b = some fz from upd_same] at z
    cases z
    refine ⟨ha, ?_, vs, _, rv, ha⟩
    rw [List.length_map]
    exact hl
end
theorem walk_ofG {l : PySem.W.OpenLaw} {n k : Nat} {q : Program} {loose : List Str} {XP : (Str → Option Value) → Heap → Prop} {YP : World → Heap → Prop} {d : DefRec} {K : Params → PySem.W.Frag} {sp : PySem.W.Frag → Sp} {x : Str}
    (hn : l.most = some n) (hn2 : n ≤ sizeLine)
    (hdf : d.params.defaults = []) (hr : Room k callerA) (hY : ∀ (w : World) (h : Heap), YP w h → (K w.params).In h)
    (F : ∀ (w : World) (mg : Str → Option Value) (fa : Addr) (h : Heap), (K w.params).In h → h.Ns mainGlobals mg →
      mg d.name = some (.ref fa) → ∃ fd : FuncData, (∀ (s : Shared) (u : Value), BindsTo s fd ⟨[u], []⟩ [(x, u)]) ∧ ∀ bs : Heap, (K w.params).In bs → bs.Ns mainGlobals mg → FnG l.prog w (K w.params) mg bs k fa fd [x] (sp (K w.params)))
    (hsp : ∀ (K : PySem.W.Frag) (H : Hp) (a : Addr) (ns : List Int), ns.length ≤ n → Only H → SqL K H a (ns.map V.int) → sp K [.ref a] H (fun v _ => v = .bl true) fun _ _ _ => False) :
    PySem.W.WalkO q loose XP YP l.row.toRowW d []
      (fun f vs => PySem.call f vs) := by
  refine Att.attach_call hn hdf fun w s0 s1 mg mb fa o pm cd doc a vs ns G Y ho hd hcd hmg hobj hints hlen hg => ?_
  have kk := hY w _ Y
  obtain ⟨fd, h1, h2⟩ := F w mg fa _ kk G.T.g hmg
  exact law_callG kk G.T.g G.T.b G.T.builtins G.T.nolimit hg hobj hints (Nat.le_trans hlen hn2) hr h2 h1 fun H hO hS => hsp _ H a ns hlen hO hS
end
section
open L2 PySem PySem.Spec PyProof.Rows
structure Bn (mg : Str → Option Value) : Prop where
  int_ : mg "int" = none
  str_ : mg "str" = none
  tuple_ : mg "tuple" = none
  list_ : mg "list" = none
  bool_ : mg "bool" = none
  len_ : mg "len" = none
  isinstance_ : mg "isinstance" = none
  all_ : mg "all" = none
  any_ : mg "any" = none
  max_ : mg "max" = none
  min_ : mg "min" = none
  sum_ : mg "sum" = none
  sorted_ : mg "sorted" = none
  repr_ : mg "repr" = none
  range_ : mg "range" = none
  enumerate_ : mg "enumerate" = none
  zip_ : mg "zip" = none
  set_ : mg "set" = none
structure Cl (P : Program) (w : World) (K : PySem.W.Frag) (mg : Str → Option Value) (base : Heap) (k : Nat) (x : Str) (ps : List Str) (sp : Sp) : Prop where
  ex : ∃ (f : Addr) (fd : FuncData), FnOk P w K mg base CX0 k f fd ps sp ∧ mg x = some (.ref f) ∧ PySem.W.keepIn K (.ref f) = true ∧ Binds K fd ps []
section
variable {X : Cx} {k k' : Nat} {ps : List Str} {sp : Sp} {E : XK} {x : Str} {p pos : Pos} {e : Expr} {es : List Expr} {t : TA}
theorem pe_c (C : Cl X.prog X.w X.K X.mg X.base k x ps sp) (hr : Room k' X.A) (ha : PA X (e :: es) t) (hg : Gl X x := by rfl) (hk : k ≤ k' := by decide) (h1 : (x == ("__debug__" : Str)) = false := by decide)
    (h2 : starEach (e :: es) X.env = (false, eval e X.env) :: starEach es X.env := by rfl) (h3 : (backTo pos (starEach es X.env)).any (·.1) = false := by rfl) :
    PE X (.Call (.Name x p) (e :: es) [] pos) (tCall sp [] (fun _ _ _ => False) t) := by
  obtain ⟨f, fd, F, hm, kp, b⟩ := C.ex
  exact pe_call F (hr.mono hk) hg hm kp b .nil pass0 ha h1 h2 h3
end
structure Dn (K : PySem.W.Frag) (mg : Str → Option Value) (x : String) (st : Stmt) (ps : List Str) : Prop where
  ex : ∃ (f : Addr) (fd : FuncData), Fun K x x st f fd ∧ mg x = some (.ref f) ∧ Binds K fd ps []
section
variable {base : Heap} {P : Program} {w : World} {K : PySem.W.Frag} {mg : Str → Option Value}
theorem Dn.cl {x : String} {st : Stmt} {N ps : List Str} {k : Nat} {sp : Sp} (D : Dn K mg x st ps) (S : FnScope N ps (defScope st)) (len : ∀ vs H Q E, sp vs H Q E → vs.length = ps.length)
    (bd : ∀ (f : Addr) (cdv : Value) (A : Around) (fr : List Env) (s : Shared) (H : Hp) (vs : List V) (Q : VK) (E : XK), Room k (A.deeper (envOfC x (defScope st) s.heap.objs.size f cdv)) → sp vs H Q E →
      ∃ t, PSs (cxOf CX0 P w K mg base N x (defScope st) f cdv A fr s H E).nox (defBody st) t ∧ t { nx := fun _ H' => Q .non H', rt := Q } (start N vs) H) : Cl P w K mg base (k + 1) x ps sp := by
  obtain ⟨f, fd, F, hm, b⟩ := D.ex
  exact ⟨f, fd, F.ok S len (bd f), hm, F.kp, b⟩
end
end
section
open L2 PySem PySem.Spec PyProof.Rows
section
variable {X : Cx}
def rInt : List V → Hp → VK → Prop := fun xs H Q => (∃ i, xs = [.int i] ∧ Q (.int i) H) ∨ ∃ k, xs = [.bl k] ∧ Q (.int (if k then 1 else 0)) H
theorem j_int : CallR X (.type "int") rInt := call_int1
def rTupleOf (K : PySem.W.Frag) : List V → Hp → VK → Prop := fun xs H Q => ∃ p ys, xs = [.ref p] ∧ ((SqL K H p ys ∧ ∀ l, H l = none → Q (.ref l) (upd H l (.tup ys))) ∨ (SqT K H p ys ∧ Q (.ref p) H))
theorem j_tuple (h : CallR X (.type "tuple") (rTupleOf X.K) := by exact call_tuple_of) : CallR X (.type "tuple") (rTupleOf X.K) := h
def rListOf (K : PySem.W.Frag) : List V → Hp → VK → Prop := fun xs H Q => ∃ p ys, xs = [.ref p] ∧ (SqL K H p ys ∨ SqT K H p ys) ∧ ∀ l, H l = none → Q (.ref l) (upd H l (.lst ys))
theorem j_list (h : CallR X (.type "list") (rListOf X.K) := by exact call_list_of) : CallR X (.type "list") (rListOf X.K) := h
def rLenQ (K : PySem.W.Frag) : List V → Hp → VK → Prop := fun xs H Q => ∃ p ys, xs = [.ref p] ∧ (SqL K H p ys ∨ SqT K H p ys) ∧ Q (.int (ys.length : Nat)) H
theorem j_len (h : CallR X (.builtin "len") (rLenQ X.K) := by exact call_len_seq) : CallR X (.builtin "len") (rLenQ X.K) := h
def rMax : List V → Hp → VK → Prop := fun xs H Q => ∃ i j : Int, xs = [.int i, .int j] ∧ Q (.int (if j > i then j else i)) H
theorem j_max (hc : X.calm = true) : CallR X (.builtin "max") rMax := call_max2 hc
def rMin : List V → Hp → VK → Prop := fun xs H Q => ∃ i j : Int, xs = [.int i, .int j] ∧ Q (.int (if j < i then j else i)) H
theorem j_min (hc : X.calm = true) : CallR X (.builtin "min") rMin := call_min2 hc
end
section
variable {σ : L2.St} {H : Hp} {D : Ends} {Q : VK} {QB : Bool → Hp → Prop} {K : PySem.W.Frag}
theorem i_seq {t u : TS} {n : L2.St → Hp → Prop} {r : VK} {b c : L2.St → Hp → Prop} (h : t ⟨u ⟨n, r, b, c⟩, r, b, c⟩ σ H) : tSeq t u ⟨n, r, b, c⟩ σ H := h
theorem i_next {n : L2.St → Hp → Prop} {r : VK} {b c : L2.St → Hp → Prop} (h : n σ H) : tNext ⟨n, r, b, c⟩ σ H := h
theorem i_asg {te : TE} {g : TG} {n : L2.St → Hp → Prop} {r : VK} {b c : L2.St → Hp → Prop} (h : te σ H fun x H1 => g x σ H1 n) : tAsg te g ⟨n, r, b, c⟩ σ H := h
theorem i_gname {i : Nat} {v : V} {q : L2.St → Hp → Prop} (h : q (σ.set i (some v)) H) : gName i v σ H q := h
theorem i_ret {te : TE} {n : L2.St → Hp → Prop} {r : VK} {b c : L2.St → Hp → Prop} (h : te σ H r) : tRet te ⟨n, r, b, c⟩ σ H := h
theorem i_drop {te : TE} {n : L2.St → Hp → Prop} {r : VK} {b c : L2.St → Hp → Prop} (h : te σ H fun _ H1 => n σ H1) : tDrop te ⟨n, r, b, c⟩ σ H := h
theorem i_ifS {k : TT} {t u : TS} {n : L2.St → Hp → Prop} {r : VK} {b c : L2.St → Hp → Prop} (h : k σ H fun d H1 => if d = true then t ⟨n, r, b, c⟩ σ H1 else u ⟨n, r, b, c⟩ σ H1) : tIfS k t u ⟨n, r, b, c⟩ σ H := h
theorem i_test {t : TE} (h : t σ H fun x H' => ∃ k, x = .bl k ∧ QB k H') : tTest t σ H QB := h
theorem i_tB {t : TE} (h : t σ H fun x H' => ∃ k, x = .bl k ∧ QB k H') : tB t σ H QB := h
theorem i_bl {b : Bool} (h : QB b H) : ∃ k, V.bl b = .bl k ∧ QB k H := ⟨b, rfl, h⟩
theorem i_not {t : TT} (h : t σ H fun c H1 => QB (!c) H1) : tNot t σ H QB := h
theorem i_and {t u : TT} (h : t σ H fun c H1 => if c = true then u σ H1 QB else QB false H1) : tAnd t u σ H QB := h
theorem i_or {t u : TT} (h : t σ H fun c H1 => if c = true then QB true H1 else u σ H1 QB) : tOr t u σ H QB := h
theorem i_notV {t : TE} (h : t σ H fun x H1 => ∃ c, x = .bl c ∧ Q (.bl (!c)) H1) : tNotV t σ H Q := h
theorem i_andV {t u : TE} (h : t σ H fun x H1 => ∃ c, x = .bl c ∧ if c = true then u σ H1 Q else Q (.bl false) H1) : tAndV t u σ H Q := h
theorem i_orV {t u : TE} (h : t σ H fun x H1 => ∃ c, x = .bl c ∧ if c = true then Q (.bl true) H1 else u σ H1 Q) : tOrV t u σ H Q := h
theorem i_blQ {b : Bool} {P : Bool → Prop} (h : P b) : ∃ k, V.bl b = .bl k ∧ P k := ⟨b, rfl, h⟩
theorem i_if {t : TT} {a b : TE} (h : t σ H fun c H1 => if c = true then a σ H1 Q else b σ H1 Q) : tIf t a b σ H Q := h
theorem i_op {r : R2} {a b : TE} (h : a σ H fun x H1 => b σ H1 fun y H2 => r x y H2 Q) : tOp r a b σ H Q := h
theorem i_un {r : V → Hp → VK → Prop} {a : TE} (h : a σ H fun x H1 => r x H1 Q) : tUn r a σ H Q := h
theorem i_chain {r r' : R2} {a b c : TE} (h : a σ H fun x H1 => b σ H1 fun y H2 => r x y H2 fun z H3 => ∃ k, z = .bl k ∧ if k = true then c σ H3 fun w' H4 => r' y w' H4 Q else Q (.bl false) H3) : tChain r r' a b c σ H Q := h
theorem i_var {i : Nat} {v : V} (e : σ[i]? = some (some v)) (h : Q v H) : tVar i σ H Q := ⟨v, e, h⟩
theorem i_c {v : V} (h : Q v H) : tC v σ H Q := h
theorem i_rI0 {g : Int → Int → V} {i j : Int} (h : Q (g i j) H) : rI0 g (.int i) (.int j) H Q := ⟨i, j, rfl, rfl, h⟩
theorem i_rI {C : Int → Int → Prop} {g : Int → Int → V} {i j : Int} (c : C i j) (h : Q (g i j) H) : rI C g (.int i) (.int j) H Q := ⟨i, j, rfl, rfl, c, h⟩
theorem i_rU {g : Int → V} {i : Int} (h : Q (g i) H) : rU g (.int i) H Q := ⟨i, rfl, h⟩
theorem i_eqI {i j : Int} (h : Q (.bl (decide (i = j))) H) : rEq (.int i) (.int j) H Q := ⟨rfl, by
  have e : decide (V.int i = V.int j) = decide (i = j) := by
    by_cases z : i = j
    · subst z
      simp
    · rw [decide_eq_false z, decide_eq_false (fun k => z (V.int.inj k))]
  rw [e]
  exact h⟩
theorem i_neI {i j : Int} (h : Q (.bl (decide (i ≠ j))) H) : rNe (.int i) (.int j) H Q := ⟨rfl, by
  have e : (!decide (V.int i = V.int j)) = decide (i ≠ j) := by
    by_cases z : i = j
    · subst z
      simp
    · rw [decide_eq_true z, decide_eq_false (fun k => z (V.int.inj k))]
      rfl
  rw [e]
  exact h⟩
theorem i_eqS {i j : Str} (h : Q (.bl (decide (i = j))) H) : rEq (.str i) (.str j) H Q := ⟨rfl, by
  have e : decide (V.str i = V.str j) = decide (i = j) := by
    by_cases z : i = j
    · subst z
      simp
    · rw [decide_eq_false z, decide_eq_false (fun k => z (V.str.inj k))]
  rw [e]
  exact h⟩
theorem i_neS {i j : Str} (h : Q (.bl (decide (i ≠ j))) H) : rNe (.str i) (.str j) H Q := ⟨rfl, by
  have e : (!decide (V.str i = V.str j)) = decide (i ≠ j) := by
    by_cases z : i = j
    · subst z
      simp
    · rw [decide_eq_true z, decide_eq_false (fun k => z (V.str.inj k))]
      rfl
  rw [e]
  exact h⟩
theorem i_ixL {p : Addr} {xs : List V} {i : Int} {v : V} (e : SqL K H p xs) (z : atI xs i = some v) (h : Q v H) : rIxL K (.ref p) (.int i) H Q := ⟨p, xs, i, v, rfl, rfl, e, z, h⟩
theorem i_ixT {p : Addr} {xs : List V} {i : Int} {v : V} (e : SqT K H p xs) (z : atI xs i = some v) (h : Q v H) : rIxT K (.ref p) (.int i) H Q := ⟨p, xs, i, v, rfl, rfl, e, z, h⟩
theorem i_setL {p : Addr} {xs : List V} {i : Int} {v : V} {j : Nat} {q : Hp → Prop} (e : H p = some (.lst xs)) (z : ixN xs.length i = some j) (h : q (upd H p (.lst (xs.set j v)))) : rSetL (.ref p) (.int i) v H q := ⟨p, xs, i, j, rfl, rfl, e, z, h⟩
theorem i_gsub {to ti : TE} {t : TSet} {v : V} {q : L2.St → Hp → Prop} (h : to σ H fun o H1 => ti σ H1 fun i H2 => t o i v H2 fun H3 => q σ H3) : gSub to ti t v σ H q := h
theorem i_cons {a : TE} {r : TA} {q : List V → Hp → Prop} (h : a σ H fun x H1 => r σ H1 fun xs H2 => q (x :: xs) H2) : tCons a r σ H q := h
theorem i_nil {q : List V → Hp → Prop} (h : q [] H) : tNil σ H q := h
theorem i_cb {r : List V → Hp → VK → Prop} {t : TA} (h : t σ H fun vs H1 => r vs H1 Q) : tCB r t σ H Q := h
theorem i_call {sp : Sp} {E : XK} {t : TA} (h : t σ H fun vs H1 => sp (vs ++ []) H1 Q E) : tCall sp [] E t σ H Q := h
theorem i_tup {t : TA} (h : t σ H fun xs H1 => xs.length ≤ sizeLine ∧ ∀ p, H1 p = none → Q (.ref p) (upd H1 p (.tup xs))) : tTup t σ H Q := h
theorem i_lst {t : TA} (h : t σ H fun xs H1 => xs.length ≤ sizeLine ∧ ∀ p, H1 p = none → Q (.ref p) (upd H1 p (.lst xs))) : tLst t σ H Q := h
theorem i_par {i j : Nat} {ta : TA} {n : L2.St → Hp → Prop} {r : VK} {b c : L2.St → Hp → Prop} (h : ta σ H fun vs H1 => ∃ v w, vs = [v, w] ∧ n ((σ.set i (some v)).set j (some w)) H1) : tPar i j ta ⟨n, r, b, c⟩ σ H := h
theorem i_par3 {i j l : Nat} {ta : TA} {n : L2.St → Hp → Prop} {r : VK} {b c : L2.St → Hp → Prop} (h : ta σ H fun vs H1 => ∃ u v w, vs = [u, v, w] ∧ n (((σ.set i (some u)).set j (some v)).set l (some w)) H1) : tPar3 i j l ta ⟨n, r, b, c⟩ σ H := h
theorem i_par' {v w : V} {P : V → V → Prop} (h : P v w) : ∃ a b, [v, w] = [a, b] ∧ P a b := ⟨v, w, rfl, h⟩
theorem i_int {i : Int} (h : Q (.int i) H) : rInt [.int i] H Q := .inl ⟨i, rfl, h⟩
theorem i_intB {b : Bool} (h : Q (.int (if b then 1 else 0)) H) : rInt [.bl b] H Q := .inr ⟨b, rfl, h⟩
theorem i_tupL {p : Addr} {ys : List V} (e : SqL K H p ys) (h : ∀ l, H l = none → Q (.ref l) (upd H l (.tup ys))) : rTupleOf K [.ref p] H Q := ⟨p, ys, rfl, .inl ⟨e, h⟩⟩
theorem i_lstT {p : Addr} {ys : List V} (e : SqT K H p ys) (h : ∀ l, H l = none → Q (.ref l) (upd H l (.lst ys))) : rListOf K [.ref p] H Q := ⟨p, ys, rfl, .inr e, h⟩
theorem i_lenL {p : Addr} {ys : List V} (e : SqL K H p ys) (h : Q (.int (ys.length : Nat)) H) : rLenQ K [.ref p] H Q := ⟨p, ys, rfl, .inl e, h⟩
theorem i_lenT {p : Addr} {ys : List V} (e : SqT K H p ys) (h : Q (.int (ys.length : Nat)) H) : rLenQ K [.ref p] H Q := ⟨p, ys, rfl, .inr e, h⟩
theorem i_all {p : Addr} {bs : List Bool} (e : SqL K H p (bs.map V.bl)) (h : Q (.bl (bs.all id)) H) : rAll K [.ref p] H Q := ⟨p, bs, rfl, e, h⟩
theorem i_max {i j : Int} (h : Q (.int (max i j)) H) : rMax [.int i, .int j] H Q := ⟨i, j, rfl, by
  have e : (if j > i then j else i) = max i j := by
    split <;> omega
  rw [e]
  exact h⟩
theorem i_min {i j : Int} (h : Q (.int (min i j)) H) : rMin [.int i, .int j] H Q := ⟨i, j, rfl, by
  have e : (if j < i then j else i) = min i j := by
    split <;> omega
  rw [e]
  exact h⟩
theorem i_ite {c : Prop} [Decidable c] {A B : Prop} (h1 : c → A) (h2 : ¬ c → B) : if decide c = true then A else B := by
  by_cases z : c
  · rw [decide_eq_true z, if_pos rfl]
    exact h1 z
  · rw [decide_eq_false z, if_neg Bool.false_ne_true]
    exact h2 z
theorem i_iteN {c : Prop} [Decidable c] {A B : Prop} (h1 : ¬ c → A) (h2 : c → B) : if (!decide c) = true then A else B := by
  by_cases z : c
  · rw [decide_eq_true z, if_neg (by decide)]
    exact h2 z
  · rw [decide_eq_false z, if_pos (by decide)]
    exact h1 z
theorem i_iteT {A B : Prop} (h : A) : if true = true then A else B := by rw [if_pos rfl]; exact h
theorem i_iteF {A B : Prop} (h : B) : if false = true then A else B := by rw [if_neg Bool.false_ne_true]; exact h
theorem sq_lst {p : Addr} {xs : List V} (e : H p = some (.lst xs)) : SqL K H p xs := .inl (.inl e)
theorem sq_tup {p : Addr} {xs : List V} (e : H p = some (.tup xs)) : SqT K H p xs := .inl (.inl e)
theorem at0 {α : Type} {x : α} {xs : List α} : atI (x :: xs) 0 = some x := atI_nat (j := 0) rfl
theorem at1 {α : Type} {x y : α} {xs : List α} : atI (x :: y :: xs) 1 = some y := atI_nat (j := 1) rfl
theorem at2 {α : Type} {x y z : α} {xs : List α} : atI (x :: y :: z :: xs) 2 = some z := atI_nat (j := 2) rfl
theorem ix_nat {n k : Nat} (h : k < n) : ixN n (k : Int) = some k := by
  unfold ixN
  rw [if_pos (by omega), if_pos (by omega)]
  simp
end
end
section
open L2 PySem PySem.Spec PyProof.Rows
section
variable {σ : L2.St} {H : Hp} {D : Ends} {Q : VK} {K : PySem.W.Frag}
theorem i_sl {r : V → Option Int → Option Int → Hp → VK → Prop} {te : TE} {tl th : TO} (h : te σ H fun x H1 => tl σ H1 fun l H2 => th σ H2 fun u H3 => r x l u H3 Q) : tSl r te tl th σ H Q := h
theorem i_npart {q : Option Int → Hp → Prop} (h : q none H) : tNoPart σ H q := h
def partK (q : Option Int → Hp → Prop) : VK := fun x H1 => ∃ i, x = .int i ∧ q (some i) H1
theorem i_part {te : TE} {q : Option Int → Hp → Prop} (h : te σ H (partK q)) : tPart te σ H q := h
theorem i_partI {i : Int} {q : Option Int → Hp → Prop} (h : q (some i) H) : partK q (.int i) H := ⟨i, rfl, h⟩
theorem i_slL {p : Addr} {xs : List V} {lo hi : Option Int} (e : SqL K H p xs) (h : ∀ l, H l = none → Q (.ref l) (upd H l (.lst (cutV xs lo hi)))) : rSlL K (.ref p) lo hi H Q := ⟨p, xs, rfl, e, h⟩
theorem i_bm {T : String} {r : V → List V → Hp → VK → Prop} {to : TE} {t : TA} (h : to σ H fun x H1 => tyV K T x H1 ∧ t σ H1 fun xs H2 => r x xs H2 Q) : tBM K T r to t σ H Q := h
theorem i_tyL {p : Addr} {xs : List V} {A : Prop} (e : SqL K H p xs) (h : A) : tyV K "list" (.ref p) H ∧ A := ⟨.inl ⟨rfl, xs, e⟩, h⟩
theorem i_app {p : Addr} {xs : List V} {y : V} (e : H p = some (.lst xs)) (z : xs.length < sizeLine) (h : Q .non (upd H p (.lst (xs ++ [y])))) : rAppend (.ref p) [y] H Q := ⟨p, xs, y, rfl, rfl, e, z, h⟩
theorem i_popAt {p : Addr} {xs : List V} {k : Nat} {y : V} (e : H p = some (.lst xs)) (b : k < 2 ^ 60) (z : xs[k]? = some y) (h : Q y (upd H p (.lst (xs.eraseIdx k)))) : rPopAt (.ref p) [.int (k : Int)] H Q :=
  ⟨p, xs, k, k, y, rfl, rfl, e, by omega, by omega, by
    have hk := (List.getElem?_eq_some_iff.mp z).1
    exact (ixN_seq (ix_nat hk)).1, z, h⟩
theorem i_ext {p q : Addr} {xs zs : List V} (e : H p = some (.lst xs)) (e2 : H q = some (.lst zs)) (z : xs.length + zs.length ≤ sizeLine) (h : Q .non (upd H p (.lst (xs ++ zs)))) : rExtend (.ref p) [.ref q] H Q := ⟨p, q, xs, zs, rfl, rfl, e, e2, z, h⟩
theorem i_gtup {n : Nat} {t : TGs} {p : Addr} {xs : List V} {q : L2.St → Hp → Prop} (e : SqT K H p xs) (z : xs.length = n) (h : t xs σ H q) : gTup K n t (.ref p) σ H q := ⟨p, xs, rfl, e, z, h⟩
theorem i_gcons {t : TG} {u : TGs} {v : V} {r : List V} {q : L2.St → Hp → Prop} (h : t v σ H fun σ' H' => u r σ' H' q) : gCons t u (v :: r) σ H q := ⟨v, r, rfl, h⟩
theorem i_gnil {q : L2.St → Hp → Prop} (h : q σ H) : gNil [] σ H q := ⟨rfl, h⟩
theorem i_sum {p : Addr} {ns : List Int} (e : SqL K H p (ns.map V.int)) (h : Q (.int ns.sum) H) : rSum K [.ref p] H Q := ⟨p, ns, rfl, e, h⟩
def rIxA (K : PySem.W.Frag) : R2 := fun x y H Q => rIxL K x y H Q ∨ rIxT K x y H Q
theorem ix_any {X : Cx} : IxR X (rIxA X.K) := by
  intro e1 e2 ps st sl hp x y v u Q I r1 r2 h hs
  rcases h with h | h
  · exact ix_list e1 e2 ps st sl hp x y v u Q I r1 r2 h hs
  · exact ix_tup e1 e2 ps st sl hp x y v u Q I r1 r2 h hs
def SqA (K : PySem.W.Frag) (H : Hp) (p : Addr) (xs : List V) : Prop := SqL K H p xs ∨ SqT K H p xs
theorem i_ixA {p : Addr} {xs : List V} {i : Int} {v : V} (e : SqA K H p xs) (z : atI xs i = some v) (h : Q v H) : rIxA K (.ref p) (.int i) H Q := by
  rcases e with e | e
  · exact .inl (i_ixL e z h)
  · exact .inr (i_ixT e z h)
theorem i_lenA {p : Addr} {ys : List V} (e : SqA K H p ys) (h : Q (.int (ys.length : Nat)) H) : rLenQ K [.ref p] H Q := ⟨p, ys, rfl, e, h⟩
theorem i_lstA {p : Addr} {ys : List V} (e : SqA K H p ys) (h : ∀ l, H l = none → Q (.ref l) (upd H l (.lst ys))) : rListOf K [.ref p] H Q := ⟨p, ys, rfl, e, h⟩
theorem perm_erase {α : Type} : ∀ (l : List α) (k : Nat) (h : k < l.length), (l[k] :: l.eraseIdx k).Perm l
  | [], _, h => absurd h (Nat.not_lt_zero _)
  | x :: r, 0, _ => List.Perm.refl _
  | x :: r, k + 1, h => by
    have hk : k < r.length := Nat.lt_of_succ_lt_succ h
    have ih := perm_erase r k hk
    show (r[k] :: x :: r.eraseIdx k).Perm (x :: r)
    exact (List.Perm.swap x r[k] _).trans (ih.cons x)
def forK (g : TG) (tb : TS) (D : Ends) (σ : L2.St) : It → Hp → Prop := fun J h => tFor (fun _ h' R => R J h') g tb D σ h
theorem i_for {wi : TI} {g : TG} {tb : TS} (h : wi σ H (forK g tb D σ)) : tFor wi g tb D σ H := h
def lcK (g : TG) (tt : TT) (te : TE) (vs : List Nat) (σ : L2.St) (Q : VK) : It → Hp → Prop := fun J h => tLc (fun _ h' R => R J h') g tt te vs σ h Q
theorem i_lc {wi : TI} {g : TG} {tt : TT} {te : TE} {vs : List Nat} (h : wi σ H (lcK g tt te vs σ Q)) : tLc wi g tt te vs σ H Q := h
section
variable {R : It → Hp → Prop}
def rgK (R : It → Hp → Prop) : List V → Hp → Prop := fun vs H => ∃ j : Int, vs = [.int j] ∧ -(2 ^ 62) ≤ j ∧ j < 2 ^ 62 ∧ R (Itr 0 j.toNat) H
def rgK2 (R : It → Hp → Prop) : List V → Hp → Prop := fun vs H => ∃ i j : Int, vs = [.int i, .int j] ∧ (-(2 ^ 62) ≤ i ∧ i < 2 ^ 62 ∧ -(2 ^ 62) ≤ j ∧ j < 2 ^ 62) ∧ R (Itr i (j - i).toNat) H
theorem i_rng1 {ta : TA} (h : ta σ H (rgK R)) : iRng1 ta σ H R := h
theorem i_rng2 {ta : TA} (h : ta σ H (rgK2 R)) : iRng2 ta σ H R := h
theorem i_rgK {j : Int} (b : -(2 ^ 62) ≤ j ∧ j < 2 ^ 62) (h : R (Itr 0 j.toNat) H) : rgK R [.int j] H := ⟨j, rfl, b.1, b.2, h⟩
theorem i_rgK2 {i j : Int} (b : -(2 ^ 62) ≤ i ∧ i < 2 ^ 62 ∧ -(2 ^ 62) ≤ j ∧ j < 2 ^ 62) (h : R (Itr i (j - i).toNat) H) : rgK2 R [.int i, .int j] H := ⟨i, j, rfl, b, h⟩
def ilK (K : PySem.W.Frag) (R : It → Hp → Prop) : V → Hp → Prop := fun x H1 => ∃ a, x = .ref a ∧ (∃ xs, SqL K H1 a xs) ∧ R (Itl K a) H1
def itK (K : PySem.W.Frag) (R : It → Hp → Prop) : V → Hp → Prop := fun x H1 => ∃ a, x = .ref a ∧ (∃ xs, SqT K H1 a xs) ∧ R (Itt K a) H1
theorem i_ilist {t : TE} (h : t σ H (ilK K R)) : iList K t σ H R := h
theorem i_itup {t : TE} (h : t σ H (itK K R)) : iTup K t σ H R := h
theorem i_ilK {p : Addr} {xs : List V} (e : SqL K H p xs) (h : R (Itl K p) H) : ilK K R (.ref p) H := ⟨p, rfl, ⟨xs, e⟩, h⟩
theorem i_itK {p : Addr} {xs : List V} (e : SqT K H p xs) (h : R (Itt K p) H) : itK K R (.ref p) H := ⟨p, rfl, ⟨xs, e⟩, h⟩
end
section
variable {g : TG} {tb : TS} {a : Addr} {xs : List V}
variable {n : L2.St → Hp → Prop} {r : VK} {b c : L2.St → Hp → Prop}
theorem f_list (xs : List V) (Pv : Nat → L2.St → Hp → Prop) (h0 : Pv 0 σ H) (hl : ∀ i σ H, i ≤ xs.length → Pv i σ H → SqL K H a xs)
    (hs : ∀ i x σ H, xs[i]? = some x → Pv i σ H → g x σ H fun σ2 H2 => tb ⟨Pv (i + 1), r, n, Pv (i + 1)⟩ σ2 H2) (hd : ∀ σ H, Pv xs.length σ H → n σ H) : forK g tb ⟨n, r, b, c⟩ σ (Itl K a) H := for_list Pv h0 hl hs hd
theorem f_tup (xs : List V) (Pv : Nat → L2.St → Hp → Prop) (h0 : Pv 0 σ H) (hl : ∀ i σ H, i ≤ xs.length → Pv i σ H → SqT K H a xs)
    (hs : ∀ i x σ H, xs[i]? = some x → Pv i σ H → g x σ H fun σ2 H2 => tb ⟨Pv (i + 1), r, n, Pv (i + 1)⟩ σ2 H2) (hd : ∀ σ H, Pv xs.length σ H → n σ H) : forK g tb ⟨n, r, b, c⟩ σ (Itt K a) H := for_tup Pv h0 hl hs hd
theorem f_range {lo : Int} {m : Nat} (Pv : Nat → L2.St → Hp → Prop) (h0 : Pv 0 σ H)
    (hs : ∀ i σ H, i < m → Pv i σ H → g (.int (lo + i)) σ H fun σ2 H2 => tb ⟨Pv (i + 1), r, n, Pv (i + 1)⟩ σ2 H2) (hd : ∀ σ H, Pv m σ H → n σ H) : forK g tb ⟨n, r, b, c⟩ σ (Itr lo m) H := for_range Pv h0 hs hd
end
section
variable {g : TG} {tt : TT} {te : TE} {vs : List Nat} {a : Addr}
def lcE (D : Addr) (N : Hp → Prop) : VK := fun y H4 => ∃ acc, H4 D = some (.lst acc) ∧ acc.length < sizeLine ∧ N (upd H4 D (.lst (acc ++ [y])))
theorem c_list (xs : List V) (Pv : Addr → Nat → Hp → Prop) (h0 : ∀ D, H D = none → Pv D 0 (upd H D (.lst []))) (hl : ∀ D i H, i ≤ xs.length → Pv D i H → SqL K H a xs)
    (hs : ∀ D i x H, xs[i]? = some x → Pv D i H → g x (wipe σ vs) H fun σ2 H2 => wipe σ2 vs = wipe σ vs ∧ tt σ2 H2 fun b H3 => if b = true then te σ2 H3 (lcE D (Pv D (i + 1))) else Pv D (i + 1) H3)
    (hd : ∀ D H, Pv D xs.length H → Q (.ref D) H) : lcK g tt te vs σ Q (Itl K a) H := fun D hD => lc_list (Qd := fun H => Q (.ref D) H) (Pv D) (h0 D hD) (hl D) (hs D) (hd D)
theorem c_tup (xs : List V) (Pv : Addr → Nat → Hp → Prop) (h0 : ∀ D, H D = none → Pv D 0 (upd H D (.lst []))) (hl : ∀ D i H, i ≤ xs.length → Pv D i H → SqT K H a xs)
    (hs : ∀ D i x H, xs[i]? = some x → Pv D i H → g x (wipe σ vs) H fun σ2 H2 => wipe σ2 vs = wipe σ vs ∧ tt σ2 H2 fun b H3 => if b = true then te σ2 H3 (lcE D (Pv D (i + 1))) else Pv D (i + 1) H3)
    (hd : ∀ D H, Pv D xs.length H → Q (.ref D) H) : lcK g tt te vs σ Q (Itt K a) H := fun D hD => lc_tup (Qd := fun H => Q (.ref D) H) (Pv D) (h0 D hD) (hl D) (hs D) (hd D)
theorem c_range {lo : Int} {n : Nat} (Pv : Addr → Nat → Hp → Prop) (h0 : ∀ D, H D = none → Pv D 0 (upd H D (.lst [])))
    (hs : ∀ D i H, i < n → Pv D i H → g (.int (lo + i)) (wipe σ vs) H fun σ2 H2 => wipe σ2 vs = wipe σ vs ∧ tt σ2 H2 fun b H3 => if b = true then te σ2 H3 (lcE D (Pv D (i + 1))) else Pv D (i + 1) H3)
    (hd : ∀ D H, Pv D n H → Q (.ref D) H) : lcK g tt te vs σ Q (Itr lo n) H := fun D hD => lc_range (Qd := fun H => Q (.ref D) H) (Pv D) (h0 D hD) (hs D) (hd D)
theorem upd_upd {h : Hp} {a : Addr} {o u : HO} : upd (upd h a o) a u = upd h a u := by
  funext b
  by_cases e : b = a
  · subst e
    rw [upd_same, upd_same]
  · rw [upd_ne e, upd_ne e, upd_ne e]
theorem i_yes {σ : L2.St} {H : Hp} {q : Bool → Hp → Prop} (h : q true H) : tYes σ H q := h
theorem i_wip {σ2 σ1 : L2.St} {vs : List Nat} {A : Prop} (e : wipe σ2 vs = wipe σ1 vs) (h : A) : wipe σ2 vs = wipe σ1 vs ∧ A := ⟨e, h⟩
theorem i_lcE {D : Addr} {N : Hp → Prop} {acc : List V} {y : V} (e : H D = some (.lst acc)) (z : acc.length < sizeLine) (h : N (upd H D (.lst (acc ++ [y])))) : lcE D N y H := ⟨acc, e, z, h⟩
end
end
end
section
open L2 PySem PySem.Spec PyProof.Rows
def Fd (H : Hp) (a : Addr) (c : Int) : Prop := ∃ x y n : Int, H a = some (.lst [.int x, .int y, .int n]) ∧ 0 ≤ x ∧ 0 ≤ y ∧ y < 10 ^ 39 + 23 ∧ 0 ≤ n ∧ n ≤ c
def Ch (a : Addr) (H H' : Hp) : Prop := ∀ b o, b ≠ a → H b = some o → H' b = some o
section
variable {a b p q : Addr} {c d : Int} {H H1 H2 H' : Hp} {o : HO} {K : PySem.W.Frag} {xs : List V}
theorem Fd.mono (h : Fd H a c) (z : c ≤ d) : Fd H a d := by
  obtain ⟨x, y, n, h1, h2, h3, h4, h5, h6⟩ := h
  exact ⟨x, y, n, h1, h2, h3, h4, h5, by omega⟩
theorem Fd.ne (h : Fd H a c) (n : H q = none) : q ≠ a := by
  obtain ⟨x, y, m, h1, _⟩ := h
  exact fun z => by rw [z, h1] at n; cases n
theorem Fd.upd (h : Fd H a c) (n : a ≠ q) : Fd (upd H q o) a c := by
  obtain ⟨x, y, m, h1, r⟩ := h
  exact ⟨x, y, m, (upd_ne n).trans h1, r⟩
theorem Ch.refl (H : Hp) : Ch a H H := fun _ _ _ h => h
theorem Ch.trans (h : Ch a H H1) (k : Ch a H1 H2) : Ch a H H2 := fun b o n e => k b o n (h b o n e)
theorem Ch.of_same (h : Same H H') : Ch a H H' := fun b o _ e => h b o e
theorem Ch.upd_new (n : H q = none) : Ch a H (upd H q o) := fun b u _ e => by
  rw [upd_ne (ne_of_none e n)]
  exact e
theorem Ch.upd_self : Ch a H (upd H a o) := fun b u n e => by
  rw [upd_ne n]
  exact e
theorem Ch.upd_l (C : Ch a H H2) (n : H q = none) : Ch a H (upd H2 q o) := fun b u nb e => by
  rw [upd_ne (ne_of_none e n)]
  exact C b u nb e
theorem Ch.upd_n (C : Ch a H H2) (n : H2 q = none) : Ch a H (upd H2 q o) := fun b u nb e => by
  have z := C b u nb e
  rw [upd_ne (ne_of_none z n)]
  exact z
theorem i_al {n : Nat} {A : Prop} (z : n ≤ sizeLine) (h : A) : n ≤ sizeLine ∧ A := ⟨z, h⟩
theorem Ch.at (C : Ch a H H') (n : b ≠ a) (e : H b = some o) : H' b = some o := C b o n e
theorem Ch.free (C : Ch a H H') (n : q ≠ a) (e : H' q = none) : H q = none := by
  cases z : H q with
  | none => rfl
  | some o =>
    rw [C q o n z] at e
    cases e
theorem Ch.sqL (C : Ch a H H') (n : p ≠ a) (e : SqL K H p xs) : SqL K H' p xs := by
  rcases e with (e | ⟨o, e⟩) | e
  · exact .inl (.inl (C p _ n e))
  · exact .inl (.inr ⟨o, C p _ n e⟩)
  · exact .inr e
theorem Ch.sqT (C : Ch a H H') (n : p ≠ a) (e : SqT K H p xs) : SqT K H' p xs := by
  rcases e with (e | ⟨o, e⟩) | e
  · exact .inl (.inl (C p _ n e))
  · exact .inl (.inr ⟨o, C p _ n e⟩)
  · exact .inr e
theorem Ch.sqA (C : Ch a H H') (n : p ≠ a) (e : SqA K H p xs) : SqA K H' p xs := by
  rcases e with e | e
  · exact .inl (C.sqL n e)
  · exact .inr (C.sqT n e)
theorem SqA.l (e : SqL K H p xs) : SqA K H p xs := .inl e
theorem SqA.t (e : SqT K H p xs) : SqA K H p xs := .inr e
theorem Same.upd_new (n : H q = none) : Same H (upd H q o) := fun b u e => by
  rw [upd_ne (ne_of_none e n)]
  exact e
theorem sqA_same (C : Same H H') (e : SqA K H p xs) : SqA K H' p xs := by
  rcases e with e | (e | ⟨o, e⟩) | e
  · exact .inl (C.seq e)
  · exact .inr (.inl (.inl (C p _ e)))
  · exact .inr (.inl (.inr ⟨o, C p _ e⟩))
  · exact .inr (.inr e)
end
theorem cube_ok {s : Int} (h0 : 0 ≤ s) (h1 : s < 2 ^ 160) : CMulW s s ∧ CMulW (s * s) s := by
  have a : s.natAbs < 2 ^ 160 := by omega
  exact ⟨wide_mul a a (by decide) (by decide) (by decide), wide_mul (wide_lt a a) a (by decide) (by decide) (by decide)⟩
def nmSign (c : Nat) : Bool := (decide (97 ≤ c) && decide (c ≤ 122)) || (decide (48 ≤ c) && decide (c ≤ 57))
def nmOk (z : Str) : Bool := match z.cps.toList with
  | [] => false
  | c :: r => decide (r.length ≤ 7) && (decide (97 ≤ c) && decide (c ≤ 122)) && r.all nmSign
def IsNames (ns : List Str) : Prop := ns.Nodup ∧ ∀ z ∈ ns, nmOk z = true
theorem IsNames.perm {ns ms : List Str} (h : IsNames ns) (p : ms.Perm ns) : IsNames ms := ⟨p.nodup_iff.mpr h.1, fun z hz => h.2 z (p.mem_iff.mp hz)⟩
theorem IsNames.take {ns : List Str} (h : IsNames ns) (k : Nat) : IsNames (ns.take k) := ⟨h.1.sublist (List.take_sublist _ _), fun z hz => h.2 z (List.mem_of_mem_take hz)⟩
def spDraw : Sp := fun vs H Q _ => ∃ (a : Addr) (m c : Int), vs = [.ref a, .int m] ∧ Fd H a c ∧ 0 < m ∧ m < 1000000 ∧ c < 10 ^ 15 ∧ ∀ (r : Int) (H' : Hp), 0 ≤ r → r < m → Fd H' a (c + 1) → Ch a H H' → Q (.int r) H'
def spFeed (K : PySem.W.Frag) : Sp := fun vs H Q _ => ∃ (a : Addr) (ns : List Int) (k : Int), vs = [.ref a, .int k] ∧ SqL K H a (ns.map V.int) ∧ ns.length ≤ 63 ∧ 0 ≤ k ∧ k ≤ 100 ∧ ∀ (q : Addr) (H' : Hp), H q = none → Fd H' q 0 → Same H H' → Q (.ref q) H'
def spOne (K : PySem.W.Frag) : Sp := fun vs H Q _ => ∃ (a p : Addr) (c : Int) (xs : List V), vs = [.ref a, .ref p] ∧ Fd H a c ∧ SqA K H p xs ∧ p ≠ a ∧ 0 < xs.length ∧ xs.length < 1000000 ∧ c < 10 ^ 15 ∧
  ∀ (v : V) (H' : Hp), v ∈ xs → Fd H' a (c + 1) → Ch a H H' → Q v H'
def spMixed (K : PySem.W.Frag) : Sp := fun vs H Q _ => ∃ (a p : Addr) (c : Int) (xs : List V), vs = [.ref a, .ref p] ∧ Fd H a c ∧ SqA K H p xs ∧ p ≠ a ∧ xs.length ≤ 1000 ∧ c < 10 ^ 14 ∧
  ∀ (q : Addr) (ys : List V) (H' : Hp), ys.Perm xs → H q = none → H' q = some (.lst ys) → Fd H' a (c + 1000) → Ch a H H' → Q (.ref q) H'
def spNames : Sp := fun vs H Q _ => ∃ (a : Addr) (m c : Int), vs = [.ref a, .int m] ∧ Fd H a c ∧ 0 ≤ m ∧ m ≤ 12 ∧ c < 10 ^ 14 ∧
  ∀ (q : Addr) (ns : List Str) (H' : Hp), IsNames ns → (ns.length : Int) = m → H q = none → H' q = some (.lst (ns.map V.str)) → Fd H' a (c + 1000) → Ch a H H' → Q (.ref q) H'
end
section
open L2 PySem PySem.Spec PyProof.Rows
mutual
def tupOnly : PyData → Bool
  | .none | .bool _ | .int _ => true
  | .str _ => true
  | .tuple xs => tupOnlyAll xs
  | .list _ | .dict _ => false
def tupOnlyAll : List PyData → Bool
  | [] => true
  | x :: xs => tupOnly x && tupOnlyAll xs
end
def TK (K : PySem.W.Frag) (H H' : Hp) : Prop := ∀ b xs, SqT K H b xs → SqT K H' b xs
section
variable {K : PySem.W.Frag} {H H1 H2 H' : Hp} {a p q : Addr} {o : HO} {c : Int}
theorem TK.trans (h : TK K H H1) (k : TK K H1 H2) : TK K H H2 := fun b xs e => k b xs (h b xs e)
theorem TK.of_at (h : ∀ b xs, H b = some (.tup xs) → H' b = some (.tup xs)) (k : ∀ b ob xs, H b = some (.frz ob (.tup xs)) → H' b = some (.frz ob (.tup xs))) : TK K H H' := fun b xs e => by
  rcases e with (e | ⟨ob, e⟩) | e
  · exact .inl (.inl (h b xs e))
  · exact .inl (.inr ⟨ob, k b ob xs e⟩)
  · exact .inr e
theorem TK.same (h : Same H H') : TK K H H' := TK.of_at (fun b _ e => h b _ e) fun b _ _ e => h b _ e
theorem TK.new (n : H q = none) : TK K H (upd H q o) := TK.same (Same.upd_new n)
theorem TK.lst {xs : List V} (e : H q = some (.lst xs)) : TK K H (upd H q o) := by
  refine TK.of_at (fun b ys z => ?_) fun b ob ys z => ?_
  · rw [upd_ne (fun w => by rw [w, e] at z; cases z)]
    exact z
  · rw [upd_ne (fun w => by rw [w, e] at z; cases z)]
    exact z
theorem TK.ch (h : Ch a H H') (f : Fd H a c) : TK K H H' := by
  obtain ⟨x, y, n, e, _⟩ := f
  refine TK.of_at (fun b ys z => h b _ (fun w => ?_) z) fun b ob ys z => h b _ (fun w => ?_) z
  · rw [w, e] at z; cases z
  · rw [w, e] at z; cases z
mutual
theorem Dp.tk (h : TK K H H') : ∀ (d : PyData) (v : V), tupOnly d = true → Dp K H v d → Dp K H' v d
  | .none, _, _, e => by cases e; exact .non
  | .bool b, _, _, e => by cases e; exact .bl b
  | .int i, _, _, e => by cases e; exact .int i
  | .str s, _, _, e => by cases e; exact .str s
  | .list _, _, t, _ => by simp [tupOnly] at t
  | .dict _, _, t, _ => by simp [tupOnly] at t
  | .tuple ds, _, t, e => by
    cases e with
    | tup hs ha => exact .tup (h _ _ hs) (DpAll.tk h ds _ (by simpa [tupOnly] using t) ha)
theorem DpAll.tk (h : TK K H H') : ∀ (ds : List PyData) (vs : List V), tupOnlyAll ds = true → DpAll K H vs ds → DpAll K H' vs ds
  | [], _, _, e => by cases e; exact .nil
  | d :: ds, _, t, e => by
    have t' : tupOnly d = true ∧ tupOnlyAll ds = true := by simpa [tupOnlyAll] using t
    cases e with
    | cons e1 e2 => exact .cons (Dp.tk h d _ t'.1 e1) (DpAll.tk h ds _ t'.2 e2)
end
mutual
theorem Dp.same (h : Same H H') : ∀ (d : PyData) (v : V), Dp K H v d → Dp K H' v d
  | .none, _, e => by cases e; exact .non
  | .bool b, _, e => by cases e; exact .bl b
  | .int i, _, e => by cases e; exact .int i
  | .str s, _, e => by cases e; exact .str s
  | .list ds, _, e => by
    cases e with
    | lst hs ha => exact .lst (h.seq hs) (DpAll.same h ds _ ha)
  | .dict _, _, e => by cases e
  | .tuple ds, _, e => by
    cases e with
    | tup hs ha => exact .tup (TK.same h _ _ hs) (DpAll.same h ds _ ha)
theorem DpAll.same (h : Same H H') : ∀ (ds : List PyData) (vs : List V), DpAll K H vs ds → DpAll K H' vs ds
  | [], _, e => by cases e; exact .nil
  | d :: ds, _, e => by
    cases e with
    | cons e1 e2 => exact .cons (Dp.same h d _ e1) (DpAll.same h ds _ e2)
end
theorem DpAll.strs : ∀ (ns : List Str), DpAll K H (ns.map V.str) (ns.map PyData.str)
  | [] => .nil
  | z :: r => .cons (.str z) (DpAll.strs r)
theorem DpAll.app : ∀ {vs us : List V} {ds es : List PyData}, DpAll K H vs ds → DpAll K H us es → DpAll K H (vs ++ us) (ds ++ es)
  | _, _, _, _, .nil, k => k
  | _, _, _, _, .cons h t, k => .cons h (DpAll.app t k)
theorem DpAll.len : ∀ {vs : List V} {ds : List PyData}, DpAll K H vs ds → vs.length = ds.length
  | _, _, .nil => rfl
  | _, _, .cons _ t => congrArg (· + 1) (DpAll.len t)
theorem DpAll.get : ∀ {vs : List V} {ds : List PyData} {i : Nat} {v : V}, DpAll K H vs ds → vs[i]? = some v → ∃ d, ds[i]? = some d ∧ Dp K H v d
  | _, _, 0, _, .cons h _, e => by cases e; exact ⟨_, rfl, h⟩
  | _, _, n + 1, _, .cons _ t, e => DpAll.get (i := n) t (by simpa using e)
theorem DpAll.take : ∀ {vs : List V} {ds : List PyData} (k : Nat), DpAll K H vs ds → DpAll K H (vs.take k) (ds.take k)
  | _, _, 0, _ => .nil
  | _, _, k + 1, .nil => .nil
  | _, _, k + 1, .cons h t => .cons h (DpAll.take k t)
theorem DpAll.strs_inv : ∀ {vs : List V} {ns : List Str}, DpAll K H vs (ns.map PyData.str) → vs = ns.map V.str
  | _, [], .nil => rfl
  | _, z :: r, h => by
    cases h with
    | cons h1 h2 =>
      cases h1
      rw [DpAll.strs_inv h2]
      rfl
theorem DpAll.perm {us vs : List V} (pm : us.Perm vs) : ∀ {ds : List PyData}, DpAll K H vs ds → ∃ es, es.Perm ds ∧ DpAll K H us es := by
  induction pm with
  | nil => intro ds h; exact ⟨ds, .refl _, h⟩
  | cons x _ ih =>
    intro ds h
    cases h with
    | cons h1 h2 =>
      obtain ⟨es, p1, p2⟩ := ih h2
      exact ⟨_ :: es, p1.cons _, .cons h1 p2⟩
  | swap x y l =>
    intro ds h
    cases h with
    | cons h1 h2 =>
      cases h2 with
      | cons h2 h3 => exact ⟨_, .swap _ _ _, .cons h2 (.cons h1 h3)⟩
  | trans _ _ ih1 ih2 =>
    intro ds h
    obtain ⟨es, p1, k1⟩ := ih2 h
    obtain ⟨fs, p2, k2⟩ := ih1 k1
    exact ⟨fs, p2.trans p1, k2⟩
end
def LsD (K : PySem.W.Frag) (H : Hp) (L : Addr) (ds : List PyData) : Prop := ∃ vs, H L = some (.lst vs) ∧ DpAll K H vs ds ∧ tupOnlyAll ds = true
theorem tupOnlyAll_app : ∀ (ds es : List PyData), tupOnlyAll ds = true → tupOnlyAll es = true → tupOnlyAll (ds ++ es) = true
  | [], _, _, k => k
  | d :: ds, es, h, k => by
    have h' : tupOnly d = true ∧ tupOnlyAll ds = true := by simpa [tupOnlyAll] using h
    show (tupOnly d && tupOnlyAll (ds ++ es)) = true
    rw [h'.1, tupOnlyAll_app ds es h'.2 k]
    rfl
section
variable {K : PySem.W.Frag} {H H1 H2 H' : Hp} {a p q L : Addr} {o : HO} {c : Int} {ds : List PyData} {d : PyData} {vs : List V} {y : V}
theorem LsD.nil (e : H L = some (.lst [])) : LsD K H L [] := ⟨[], e, .nil, rfl⟩
theorem LsD.tk (h : LsD K H L ds) (t : TK K H H') (e : ∀ vs, H L = some (.lst vs) → H' L = some (.lst vs)) : LsD K H' L ds := by
  obtain ⟨vs, h1, h2, h3⟩ := h
  exact ⟨vs, e vs h1, DpAll.tk t _ _ h3 h2, h3⟩
theorem LsD.ch (h : LsD K H L ds) (k : Ch a H H') (f : Fd H a c) (n : L ≠ a) : LsD K H' L ds := h.tk (TK.ch k f) fun _ e => k _ _ n e
theorem LsD.new (h : LsD K H L ds) (n : H q = none) : LsD K (upd H q o) L ds := h.tk (TK.new n) fun _ e => (upd_ne (ne_of_none e n)).trans e
theorem LsD.push (e : H L = some (.lst vs)) (h : DpAll K H vs ds) (t : tupOnlyAll ds = true) (hy : Dp K H y d) (td : tupOnly d = true) : LsD K (upd H L (.lst (vs ++ [y]))) L (ds ++ [d]) :=
  ⟨vs ++ [y], upd_same, DpAll.tk (TK.lst e) _ _ (tupOnlyAll_app _ _ t (by show (tupOnly d && true) = true; rw [td]; rfl)) (DpAll.app h (.cons hy .nil)), tupOnlyAll_app _ _ t (by show (tupOnly d && true) = true; rw [td]; rfl)⟩
theorem LsD.ext {us : List V} {es : List PyData} (e : H L = some (.lst vs)) (h : DpAll K H vs ds) (t : tupOnlyAll ds = true) (h2 : DpAll K H us es) (t2 : tupOnlyAll es = true) : LsD K (upd H L (.lst (vs ++ us))) L (ds ++ es) :=
  ⟨vs ++ us, upd_same, DpAll.tk (TK.lst e) _ _ (tupOnlyAll_app _ _ t t2) (DpAll.app h h2), tupOnlyAll_app _ _ t t2⟩
theorem LsD.push2 {x z : V} {dx dz : PyData} (e : H L = some (.lst vs)) (h : DpAll K H vs ds) (t : tupOnlyAll ds = true) (n : H p = none) (hx : Dp K H x dx) (hz : Dp K H z dz) (tx : tupOnly dx = true) (tz : tupOnly dz = true) :
    LsD K (upd (upd H p (.tup [x, z])) L (.lst (vs ++ [.ref p]))) L (ds ++ [.tuple [dx, dz]]) := by
  have t1 : TK K H (upd H p (.tup [x, z])) := TK.new n
  refine LsD.push ((upd_ne (ne_of_none e n)).trans e) (DpAll.tk t1 _ _ t h) t (.tup (xs := [x, z]) (.inl (.inl upd_same)) (.cons (Dp.tk t1 _ _ tx hx) (.cons (Dp.tk t1 _ _ tz hz) .nil))) ?_
  show (tupOnly dx && (tupOnly dz && true)) = true
  rw [tx, tz]
  rfl
end
section
variable {X : Cx}
mutual
/-- data without truths -/
def noB : PyData → Bool
  | .none | .int _ | .str _ => true
  | .tuple xs | .list xs => noBAll xs
  | .bool _ | .dict _ => false
def noBAll : List PyData → Bool
  | [] => true
  | x :: xs => noB x && noBAll xs
end
mutual
theorem eqv_dec : ∀ (d e : PyData), noB d = true → noB e = true → (PyData.eqv d e = true ↔ d = e)
  | .none, e, _, k => by cases e <;> simp_all [PyData.eqv, noB]
  | .bool b, _, h, _ => by simp [noB] at h
  | .int i, e, _, k => by cases e <;> simp_all [PyData.eqv, noB]
  | .str s, e, _, k => by cases e <;> simp_all [PyData.eqv, noB]
  | .dict _, _, h, _ => by simp [noB] at h
  | .list xs, e, h, k => by
    cases e with
    | list ys => simpa [PyData.eqv] using eqvAll_dec xs ys (by simpa [noB] using h) (by simpa [noB] using k)
    | _ => simp_all [PyData.eqv, noB]
  | .tuple xs, e, h, k => by
    cases e with
    | tuple ys => simpa [PyData.eqv] using eqvAll_dec xs ys (by simpa [noB] using h) (by simpa [noB] using k)
    | _ => simp_all [PyData.eqv, noB]
theorem eqvAll_dec : ∀ (ds es : List PyData), noBAll ds = true → noBAll es = true → (PyData.eqvAll ds es = true ↔ ds = es)
  | [], [], _, _ => by simp [PyData.eqvAll]
  | [], _ :: _, _, _ => by simp [PyData.eqvAll]
  | _ :: _, [], _, _ => by simp [PyData.eqvAll]
  | d :: ds, e :: es, h, k => by
    have h' : noB d = true ∧ noBAll ds = true := by simpa [noBAll] using h
    have k' : noB e = true ∧ noBAll es = true := by simpa [noBAll] using k
    have h1 := eqv_dec d e h'.1 k'.1
    have h2 := eqvAll_dec ds es h'.2 k'.2
    simp only [PyData.eqvAll, Bool.and_eq_true, h1, h2, List.cons.injEq]
end
def rInQ (K : PySem.W.Frag) (neg : Bool) : R2 := fun x y H Q => ∃ d ds, Dp K H x d ∧ (Dp K H y (.list ds) ∨ Dp K H y (.tuple ds)) ∧ d.canLay0 = true ∧ PyData.canLayAll0 ds = true ∧ d.depth ≤ 60 ∧ Q (.bl (if neg then !(ds.any fun z => PyData.eqv z d) else ds.any fun z => PyData.eqv z d)) H
theorem o_inQ (hu : X.A.units + 64 < cLine) : OpR X (compareOp .In) (rInQ X.K false) := by
  intro pins s σ H x y v u Q I rx ry h
  obtain ⟨d, ds, hd, he | he, sd, se, hz, q⟩ := h
  · obtain ⟨as, r1⟩ := Dp.reads I d x v hd rx
    obtain ⟨bs, r2⟩ := Dp.reads I (.list ds) y u he ry
    exact SeqAt.in_list_reads r2 r1 se sd (by have := Nat.min_le_right (PyData.depthAll ds) d.depth; omega) ⟨.bl _, H, I, rfl, q⟩
  · obtain ⟨as, r1⟩ := Dp.reads I d x v hd rx
    obtain ⟨bs, r2⟩ := Dp.reads I (.tuple ds) y u he ry
    exact SeqAt.in_tuple_reads r2 r1 se sd (by have := Nat.min_le_right (PyData.depthAll ds) d.depth; omega) ⟨.bl _, H, I, rfl, q⟩
theorem o_notInQ (hu : X.A.units + 64 < cLine) : OpR X (compareOp .NotIn) (rInQ X.K true) := by
  intro pins s σ H x y v u Q I rx ry h
  obtain ⟨d, ds, hd, he | he, sd, se, hz, q⟩ := h
  · obtain ⟨as, r1⟩ := Dp.reads I d x v hd rx
    obtain ⟨bs, r2⟩ := Dp.reads I (.list ds) y u he ry
    exact SeqAt.notIn_list_reads r2 r1 se sd (by have := Nat.min_le_right (PyData.depthAll ds) d.depth; omega) ⟨.bl _, H, I, rfl, q⟩
  · obtain ⟨as, r1⟩ := Dp.reads I d x v hd rx
    obtain ⟨bs, r2⟩ := Dp.reads I (.tuple ds) y u he ry
    exact SeqAt.notIn_tuple_reads r2 r1 se sd (by have := Nat.min_le_right (PyData.depthAll ds) d.depth; omega) ⟨.bl _, H, I, rfl, q⟩
end
end
section
open L2 PySem PySem.Spec PyProof.Rows
def roadD (r : Str × Str) : PyData := .tuple [.str r.1, .str r.2]
def webD (ps : List Str) (rs : List (Str × Str)) : PyData := .tuple [.tuple (ps.map .str), .tuple (rs.map roadD)]
structure IsWeb (ps : List Str) (rs : List (Str × Str)) : Prop where
  names : IsNames ps
  pos : 0 < ps.length
  le8 : ps.length ≤ 8
  le14 : rs.length ≤ 14
  ends : ∀ r ∈ rs, r.1 ∈ ps ∧ r.2 ∈ ps ∧ r.1 ≠ r.2
  uniq : rs.Pairwise fun r s => r ≠ s ∧ r ≠ (s.2, s.1)
section
variable {σ : L2.St} {H : Hp} {Q : VK} {K : PySem.W.Frag}
theorem inV_strs {z : Str} {ns : List Str} : inV (.str z) (ns.map V.str) = decide (z ∈ ns) := by
  unfold inV
  induction ns with
  | nil => rfl
  | cons y r ih =>
    rw [List.map_cons, List.any_cons, ih]
    have e : eqV (V.str y) (V.str z) = decide (z = y) := by
      by_cases h : z = y
      · subst h
        simp [eqV]
      · rw [decide_eq_false h]
        simp [eqV]
        exact fun k => h k.symm
    rw [e]
    by_cases h : z = y
    · subst h
      simp
    · simp [h]
theorem flat_str {ns : List Str} : (ns.map V.str).all flatV = true := by
  induction ns with
  | nil => rfl
  | cons y r ih =>
    rw [List.map_cons, List.all_cons, ih]
    rfl
theorem i_inS {z : Str} {p : Addr} {ns : List Str} (e : SqA K H p (ns.map V.str)) (h : Q (.bl (decide (z ∈ ns))) H) : rIn K false (.str z) (.ref p) H Q :=
  ⟨p, ns.map V.str, rfl, e, rfl, flat_str, by
    rw [inV_strs]
    exact h⟩
theorem i_cut {te : TE} (P : V → Hp → Prop) (main : ∀ Q' : VK, (∀ v H', P v H' → Q' v H') → te σ H Q') (rest : ∀ v H', P v H' → Q v H') : te σ H Q := main Q rest
theorem i_cutS {t : TS} {n : L2.St → Hp → Prop} {r : VK} {b c : L2.St → Hp → Prop} (P : L2.St → Hp → Prop) (main : ∀ N : L2.St → Hp → Prop, (∀ σ' H', P σ' H' → N σ' H') → t ⟨N, r, b, c⟩ σ H) (rest : ∀ σ' H', P σ' H' → n σ' H') : t ⟨n, r, b, c⟩ σ H := main n rest
theorem i_iteB {b : Bool} {A B : Prop} (h1 : b = true → A) (h2 : b = false → B) : if b = true then A else B := by
  cases b
  · exact h2 rfl
  · exact h1 rfl
end
def pairD (p : Nat × Nat) : PyData := .tuple [.int p.1, .int p.2]
theorem pairs_any (pl : List (Nat × Nat)) (p : Nat × Nat) : ((pl.map pairD).any fun z => PyData.eqv z (pairD p)) = decide (p ∈ pl) := by
  induction pl with
  | nil => rfl
  | cons x r ih =>
    rw [List.map_cons, List.any_cons, ih]
    have e : PyData.eqv (pairD x) (pairD p) = decide (p = x) := by
      have h := eqv_dec (pairD x) (pairD p) rfl rfl
      by_cases k : p = x
      · subst k
        rw [decide_eq_true rfl]
        exact h.mpr rfl
      · rw [decide_eq_false k]
        cases q : PyData.eqv (pairD x) (pairD p) with
        | false => rfl
        | true =>
          have z := h.mp q
          simp only [pairD, PyData.tuple.injEq, List.cons.injEq, PyData.int.injEq, and_true] at z
          exact absurd (Prod.ext (Int.ofNat.inj z.1.symm) (Int.ofNat.inj z.2.symm)) k
    rw [e]
    by_cases k : p = x
    · subst k
      simp
    · simp [k]
theorem pairs_lay (pl : List (Nat × Nat)) : PyData.canLayAll0 (pl.map pairD) = true := by
  induction pl with
  | nil => rfl
  | cons x r ih =>
    rw [List.map_cons]
    show ((pairD x).canLay0 && PyData.canLayAll0 (r.map pairD)) = true
    rw [ih]
    rfl
theorem pairs_only (pl : List (Nat × Nat)) : tupOnlyAll (pl.map pairD) = true := by
  induction pl with
  | nil => rfl
  | cons x r ih =>
    rw [List.map_cons]
    show (tupOnly (pairD x) && tupOnlyAll (r.map pairD)) = true
    rw [ih]
    rfl
theorem roads_only (rs : List (Str × Str)) : tupOnlyAll (rs.map roadD) = true := by
  induction rs with
  | nil => rfl
  | cons x r ih =>
    rw [List.map_cons]
    show (tupOnly (roadD x) && tupOnlyAll (r.map roadD)) = true
    rw [ih]
    rfl
theorem strs_only (ns : List Str) : tupOnlyAll (ns.map PyData.str) = true := by
  induction ns with
  | nil => rfl
  | cons x r ih =>
    rw [List.map_cons]
    show (tupOnly (.str x) && tupOnlyAll (r.map PyData.str)) = true
    rw [ih]
    rfl
theorem web_only (ps : List Str) (rs : List (Str × Str)) : tupOnly (webD ps rs) = true := by
  show (tupOnlyAll (ps.map PyData.str) && (tupOnlyAll (rs.map roadD) && true)) = true
  rw [strs_only, roads_only]
  rfl
theorem perm_map_inv {α β : Type} {f : α → β} {es ms : List β} (h : es.Perm ms) : ∀ {l : List α}, ms = l.map f → ∃ l' : List α, l'.Perm l ∧ es = l'.map f := by
  induction h with
  | nil => intro l e; exact ⟨[], by rw [List.map_eq_nil_iff.mp e.symm], rfl⟩
  | cons x _ ih =>
    intro l e
    match l, e with
    | y :: r, e =>
      rw [List.map_cons, List.cons.injEq] at e
      obtain ⟨l', p, q⟩ := ih e.2
      exact ⟨y :: l', p.cons y, by rw [List.map_cons, e.1, q]⟩
  | swap x y k =>
    intro l e
    match l, e with
    | u :: v :: r, e =>
      rw [List.map_cons, List.map_cons, List.cons.injEq, List.cons.injEq] at e
      exact ⟨v :: u :: r, .swap _ _ _, by rw [List.map_cons, List.map_cons, e.1, e.2.1, e.2.2]⟩
    | [_], e => cases e
  | trans _ _ ih1 ih2 =>
    intro l e
    obtain ⟨l1, p1, q1⟩ := ih2 e
    obtain ⟨l2, p2, q2⟩ := ih1 q1
    exact ⟨l2, p2.trans p1, q2⟩
def RoadOf (ns : List Str) (p : Nat × Nat) (r : Str × Str) : Prop := (ns[p.1]? = some r.1 ∧ ns[p.2]? = some r.2) ∨ (ns[p.1]? = some r.2 ∧ ns[p.2]? = some r.1)
theorem nodup_at {α : Type} {l : List α} (h : l.Nodup) {i j : Nat} {x : α} (a : l[i]? = some x) (b : l[j]? = some x) : i = j := by
  obtain ⟨ha, ea⟩ := List.getElem?_eq_some_iff.mp a
  obtain ⟨hb, eb⟩ := List.getElem?_eq_some_iff.mp b
  exact (List.getElem_inj h).mp (ea.trans eb.symm)
theorem web_of {ns ps : List Str} {pl : List (Nat × Nat)} {rs : List (Str × Str)} (hn : IsNames ns) (pm : ps.Perm ns) (h0 : 0 < ns.length) (h8 : ns.length ≤ 8) (nd : pl.Nodup) (lt : ∀ p ∈ pl, p.1 < p.2) (l14 : pl.length ≤ 14) (len : rs.length = pl.length)
    (ro : ∀ (k : Nat) p r, pl[k]? = some p → rs[k]? = some r → RoadOf ns p r) : IsWeb ps rs := by
  have at_ : ∀ {k : Nat} {r : Str × Str}, rs[k]? = some r → ∃ p, pl[k]? = some p ∧ RoadOf ns p r := by
    intro k r h
    have hk : k < pl.length := len ▸ (List.getElem?_eq_some_iff.mp h).1
    exact ⟨pl[k], List.getElem?_eq_getElem hk, ro k _ r (List.getElem?_eq_getElem hk) h⟩
  have mem : ∀ {i : Nat} {z : Str}, ns[i]? = some z → z ∈ ps := fun h => pm.mem_iff.mpr (List.mem_of_getElem? h)
  refine ⟨hn.perm pm, by rw [pm.length_eq]; exact h0, by rw [pm.length_eq]; exact h8, by omega, fun r hr => ?_, ?_⟩
  · obtain ⟨k, hk⟩ := List.getElem?_of_mem hr
    obtain ⟨p, hp, q⟩ := at_ hk
    have hlt := lt p (List.mem_of_getElem? hp)
    have ne : ∀ {i j : Nat} {x y : Str}, ns[i]? = some x → ns[j]? = some y → i ≠ j → x ≠ y := fun a b n e => n (nodup_at hn.1 a (e ▸ b))
    rcases q with ⟨q1, q2⟩ | ⟨q1, q2⟩
    · exact ⟨mem q1, mem q2, ne q1 q2 (by omega)⟩
    · exact ⟨mem q2, mem q1, ne q2 q1 (by omega)⟩
  · rw [(List.pairwise_iff_getElem)]
    intro i j hi hj hij
    obtain ⟨p, hp, q⟩ := at_ (List.getElem?_eq_getElem hi)
    obtain ⟨p', hp', q'⟩ := at_ (List.getElem?_eq_getElem hj)
    have hlt := lt p (List.mem_of_getElem? hp)
    have hlt' := lt p' (List.mem_of_getElem? hp')
    have key : p ≠ p' := fun e => by
      have := nodup_at nd hp (e ▸ hp')
      omega
    have inj : ∀ {a b : Nat} {x : Str}, ns[a]? = some x → ns[b]? = some x → a = b := fun a b => nodup_at hn.1 a b
    have cross : ∀ {x y : Str}, (ns[p.1]? = some x ∧ ns[p.2]? = some y) → (ns[p'.1]? = some x ∧ ns[p'.2]? = some y) → False := fun a b => key (Prod.ext (inj a.1 b.1) (inj a.2 b.2))
    have anti : ∀ {x y : Str}, (ns[p.1]? = some x ∧ ns[p.2]? = some y) → (ns[p'.1]? = some y ∧ ns[p'.2]? = some x) → False := fun a b => by
      have h1 := inj a.1 b.2
      have h2 := inj a.2 b.1
      omega
    constructor
    · intro e
      rw [e] at q
      rcases q with q | q <;> rcases q' with q' | q'
      · exact cross q q'
      · exact anti q q'
      · exact anti q q'
      · exact cross q q'
    · intro e
      rw [e] at q
      rcases q with q | q <;> rcases q' with q' | q'
      · exact anti q q'
      · exact cross q q'
      · exact cross q q'
      · exact anti q q'
theorem sl_of {c : Nat} (hc : 97 ≤ c ∧ c ≤ 122) : nmSign c = true := by
  unfold nmSign
  simp only [Bool.or_eq_true, Bool.and_eq_true, decide_eq_true_eq]
  exact .inl hc
theorem str_ext {x y : Str} (h : x.cps.toList = y.cps.toList) : x = y := by
  obtain ⟨a⟩ := x
  obtain ⟨b⟩ := y
  congr 1
  exact Array.toList_inj.mp h
def rItS : R2 := fun x y H Q => ∃ (z : Str) (i : Int) (c : Nat), x = .str z ∧ y = .int i ∧ 0 ≤ i ∧ i < 2 ^ 63 ∧ i < z.length ∧ z.cps[i.toNat]? = some c ∧ Q (.str ⟨#[c]⟩) H
theorem pe_its {X : Cx} {e b : Expr} {ta tb : TE} {pos : Pos} (ha : PE X e ta) (hb : PE X b tb) (hs : PlainIxT b) : PE X (.Subscript e b pos) (tOp rItS ta tb) := pe_item_str ha hb hs
end
section
open L2 PySem PySem.Spec PyProof.Rows
def isRoad (rs : List (Str × Str)) (x y : Str) : Bool := decide ((x, y) ∈ rs) || decide ((y, x) ∈ rs)
def nearL (ps : List Str) (rs : List (Str × Str)) (x : Str) : List Str := ps.filter fun y => isRoad rs x y
theorem nmOk_str {z : Str} (h : nmOk z = true) : PyData.strOk z = true := by
  unfold nmOk at h
  split at h
  · cases h
  · rename_i c r e
    simp only [Bool.and_eq_true, decide_eq_true_eq, List.all_eq_true] at h
    unfold PyData.strOk
    rw [← Array.all_toList, e, List.all_eq_true]
    intro x hx
    rcases List.mem_cons.mp hx with rfl | hx
    · simp; omega
    · have := h.2 x hx
      unfold nmSign at this
      simp only [Bool.or_eq_true, Bool.and_eq_true, decide_eq_true_eq] at this
      simp; omega
theorem strs_lay {ns : List Str} (h : ∀ z ∈ ns, nmOk z = true) : PyData.canLayAll0 (ns.map PyData.str) = true := by
  induction ns with
  | nil => rfl
  | cons x r ih =>
    show (PyData.canLay0 (.str x) && PyData.canLayAll0 (r.map PyData.str)) = true
    rw [ih fun z hz => h z (List.mem_cons_of_mem _ hz)]
    show (PyData.strOk x && true) = true
    rw [nmOk_str (h x List.mem_cons_self)]
    rfl
theorem road_lay {r : Str × Str} (h1 : nmOk r.1 = true) (h2 : nmOk r.2 = true) : (roadD r).canLay0 = true := by
  show (PyData.strOk r.1 && (PyData.strOk r.2 && true)) = true
  rw [nmOk_str h1, nmOk_str h2]
  rfl
theorem roads_lay {ps : List Str} {rs : List (Str × Str)} (W : IsWeb ps rs) : PyData.canLayAll0 (rs.map roadD) = true := by
  have all : ∀ l : List (Str × Str), (∀ r ∈ l, r ∈ rs) → PyData.canLayAll0 (l.map roadD) = true := by
    intro l
    induction l with
    | nil => intro _; rfl
    | cons x r ih =>
      intro h
      show ((roadD x).canLay0 && PyData.canLayAll0 (r.map roadD)) = true
      have hx := W.ends x (h x List.mem_cons_self)
      rw [ih fun z hz => h z (List.mem_cons_of_mem _ hz), road_lay (W.names.2 _ hx.1) (W.names.2 _ hx.2.1)]
      rfl
  exact all rs fun _ h => h
theorem roads_any (rs : List (Str × Str)) (p : Str × Str) : ((rs.map roadD).any fun z => PyData.eqv z (roadD p)) = decide (p ∈ rs) := by
  induction rs with
  | nil => rfl
  | cons x r ih =>
    rw [List.map_cons, List.any_cons, ih]
    have h := eqv_dec (roadD x) (roadD p) rfl rfl
    have e : PyData.eqv (roadD x) (roadD p) = decide (p = x) := by
      by_cases k : p = x
      · subst k
        rw [decide_eq_true rfl]
        exact h.mpr rfl
      · rw [decide_eq_false k]
        cases q : PyData.eqv (roadD x) (roadD p) with
        | false => rfl
        | true =>
          have z := h.mp q
          simp only [roadD, PyData.tuple.injEq, List.cons.injEq, PyData.str.injEq, and_true] at z
          exact absurd (Prod.ext z.1.symm z.2.symm) k
    rw [e]
    by_cases k : p = x
    · subst k
      simp
    · simp [k]
theorem web_parts {K : PySem.W.Frag} {H : Hp} {v : V} {ps : List Str} {rs : List (Str × Str)} (h : Dp K H v (webD ps rs)) : ∃ (t tp tr : Addr) (xs : List V), v = .ref t ∧ SqT K H t [.ref tp, .ref tr] ∧ SqT K H tp (ps.map V.str) ∧ SqT K H tr xs ∧ DpAll K H xs (rs.map roadD) ∧
    Dp K H (.ref tr) (.tuple (rs.map roadD)) ∧ Dp K H (.ref tp) (.tuple (ps.map .str)) := by
  unfold webD at h
  cases h with
  | tup hs ha =>
    cases ha with
    | cons g1 g2 =>
      cases g2 with
      | cons g3 g4 =>
        cases g4
        have g1' := g1
        have g3' := g3
        cases g1 with
        | tup s1 a1 =>
          cases g3 with
          | tup s3 a3 =>
            have e := DpAll.strs_inv a1
            subst e
            exact ⟨_, _, _, _, rfl, hs, s1, s3, a3, g3', g1'⟩
def spNear (K : PySem.W.Frag) : Sp := fun vs H Q _ => ∃ (v : V) (x : Str) (ps : List Str) (rs : List (Str × Str)), vs = [v, .str x] ∧ Dp K H v (webD ps rs) ∧ IsWeb ps rs ∧ x ∈ ps ∧
  ∀ (p : Addr) (H' : Hp), H p = none → Same H H' → H' p = some (.lst ((nearL ps rs x).map V.str)) → Q (.ref p) H'
section
variable {σ : L2.St} {H : Hp} {Q : VK} {K : PySem.W.Frag}
theorem strs_shaped {ns : List Str} (h : ∀ z ∈ ns, nmOk z = true) : SeqAt.shaped (.list (ns.map PyData.str)) = true := by
  have hd : PyData.depth (.list (ns.map PyData.str)) ≤ 64 := by
    show PyData.depthAll (ns.map PyData.str) + 1 ≤ 64
    have : PyData.depthAll (ns.map PyData.str) = 0 := by
      clear h
      induction ns with
      | nil => rfl
      | cons x r ih =>
        show max 0 (PyData.depthAll (r.map PyData.str)) = 0
        rw [ih]
        rfl
    omega
  show (PyData.canLayAll0 (ns.map PyData.str) && decide (PyData.depth (.list (ns.map PyData.str)) ≤ 64)) = true
  rw [strs_lay h, decide_eq_true hd]
  rfl
end
def intsD (t : List Nat) : PyData := .tuple (t.map fun n => .int ((n : Nat) : Int))
inductive RuleD (k : Nat) (near : List Str) : PyData → Prop
  | table (t : List Nat) (hl : t.length = k ^ (near.length + 1)) (hk : ∀ x ∈ t, x < k) : RuleD k near (.tuple [.str "table", intsD t])
  | sum (ts : List (List Nat)) (hl : ts.length = k) (hk : ∀ t ∈ ts, t.length = near.length * (k - 1) + 1 ∧ ∀ x ∈ t, x < k) : RuleD k near (.tuple [.str "sum", .tuple (ts.map intsD)])
  | keep : RuleD k near (.tuple [.str "keep"])
  | least : RuleD k near (.tuple [.str "least"])
  | greatest : RuleD k near (.tuple [.str "greatest"])
  | odd : RuleD k near (.tuple [.str "odd"])
  | most (n : Nat) (h : n ≤ 9) : RuleD k near (.tuple [.str "most", .int n])
  | copy (z : Str) (h : z ∈ near) : RuleD k near (.tuple [.str "copy", .str z])
theorem ints_only (t : List Nat) : tupOnlyAll (t.map fun n => PyData.int ((n : Nat) : Int)) = true := by
  induction t with
  | nil => rfl
  | cons x r ih =>
    show (true && tupOnlyAll (r.map fun n => PyData.int ((n : Nat) : Int))) = true
    rw [ih]
    rfl
theorem intss_only (ts : List (List Nat)) : tupOnlyAll (ts.map intsD) = true := by
  induction ts with
  | nil => rfl
  | cons x r ih =>
    show (tupOnlyAll (x.map fun n => PyData.int ((n : Nat) : Int)) && tupOnlyAll (r.map intsD)) = true
    rw [ih, ints_only]
    rfl
theorem rule_only {k : Nat} {near : List Str} {d : PyData} (h : RuleD k near d) : tupOnly d = true := by
  cases h with
  | table t _ _ =>
    show (tupOnlyAll (t.map fun n => PyData.int ((n : Nat) : Int)) && true) = true
    rw [ints_only]
    rfl
  | sum ts _ _ =>
    show (tupOnlyAll (ts.map intsD) && true) = true
    rw [intss_only]
    rfl
  | _ => rfl
end
section
open L2 PySem PySem.Spec PyProof.Rows
section
variable {X : Cx} {K : PySem.W.Frag}
theorem k_tuple (hK : X.K = K := by rfl) : CallR X (.type "tuple") (rTupleOf K) := by subst hK; exact j_tuple
theorem k_list (hK : X.K = K := by rfl) : CallR X (.type "list") (rListOf K) := by subst hK; exact j_list
theorem k_len (hK : X.K = K := by rfl) : CallR X (.builtin "len") (rLenQ K) := by subst hK; exact j_len
theorem k_all (hc : X.calm = true) (hK : X.K = K := by rfl) : CallR X (.builtin "all") (rAll K) := by subst hK; exact cr_all hc
theorem k_isi (hK : X.K = K := by rfl) : CallR X (.builtin "isinstance") (rIsi K) := by subst hK; exact call_isi
theorem k_ixL (hK : X.K = K := by rfl) : IxR X (rIxL K) := by subst hK; exact ix_list
theorem k_ixT (hK : X.K = K := by rfl) : IxR X (rIxT K) := by subst hK; exact ix_tup
theorem k_slL (hK : X.K = K := by rfl) : SlR X (rSlL K) := by subst hK; exact sl_list
theorem ksl_tup (hK : X.K = K := by rfl) : SlR X (rSlA K) := by subst hK; exact sl_tupA
theorem k_inS (hK : X.K = K := by rfl) : OpR X (compareOp .In) (rIn K false) := by subst hK; exact op_in_seq
theorem k_inQ (hu : X.A.units + 64 < cLine) (hK : X.K = K := by rfl) : OpR X (compareOp .In) (rInQ K false) := by subst hK; exact o_inQ hu
theorem k_notInQ (hu : X.A.units + 64 < cLine) (hK : X.K = K := by rfl) : OpR X (compareOp .NotIn) (rInQ K true) := by subst hK; exact o_notInQ hu
theorem k_eqD (hu : X.A.units + 64 < cLine) (hK : X.K = K := by rfl) : OpR X (compareOp .Eq) (rEqD K) := by subst hK; exact op_eqD hu
theorem k_neD (hu : X.A.units + 64 < cLine) (hK : X.K = K := by rfl) : OpR X (compareOp .NotEq) (rNeD K) := by subst hK; exact op_neD hu
variable {e : Expr} {es : List Expr} {t : TE} {tg : Expr} {to : TE} {ta : TA} {name : Str} {apos cpos pos : Pos} {T id : String} {r : V → List V → Hp → VK → Prop} {o : Expr}
theorem kpi_list (h : PE X e t) (hK : X.K = K := by rfl) : PI X tg e (iList K t) := by subst hK; exact pi_list h
theorem kpi_tup (h : PE X e t) (hK : X.K = K := by rfl) : PI X tg e (iTup K t) := by subst hK; exact pi_tup h
theorem kpg_tup {k n : Nat} {u : TGs} (hc : X.calm = true) (h : PGs X es u) (hK : X.K = K := by rfl) (h1 : (assignEach es X.env).length = n := by rfl) (h2 : List.findIdx? (fun x => x.fst) (assignEach es X.env) = none := by rfl) : PG X (.Tuple es k pos) (gTup K n u) := by subst hK; exact pg_tup hc h h1 h2
end
end
section
open L2 PySem PySem.Spec PyProof.Rows
def hallD (k : Nat) (ps : List Str) (rs : List (Str × Str)) (ds : List PyData) : PyData := .tuple [.int k, webD ps rs, .tuple ds]
structure IsHall (k : Nat) (ps : List Str) (rs : List (Str × Str)) (ds : List PyData) : Prop where
  two : k = 2 ∨ k = 3
  web : IsWeb ps rs
  few : k ^ ps.length ≤ 256
  len : ds.length = ps.length
  rules : ∀ (i : Nat) z d, ps[i]? = some z → ds[i]? = some d → RuleD k (nearL ps rs z) d
theorem near_len {ps : List Str} {rs : List (Str × Str)} {x : Str} (W : IsWeb ps rs) (hx : x ∈ ps) : (nearL ps rs x).length ≤ 7 := by
  have no : isRoad rs x x = false := by
    cases h : isRoad rs x x with
    | false => rfl
    | true =>
      have hm : (x, x) ∈ rs := by simpa [isRoad] using h
      exact absurd rfl (W.ends _ hm).2.2
  have h1 : (nearL ps rs x).length < ps.length := by
    unfold nearL
    refine Nat.lt_of_le_of_ne (List.length_filter_le _ _) fun e => ?_
    have := (List.length_filter_eq_length_iff.mp e) x hx
    simp [no] at this
  have := W.le8
  omega
theorem rules_only {ds : List PyData} : (∀ d ∈ ds, ∃ k near, RuleD k near d) → tupOnlyAll ds = true := by
  induction ds with
  | nil => intro _; rfl
  | cons x r ih =>
    intro h
    obtain ⟨k, near, hx⟩ := h x List.mem_cons_self
    show (tupOnly x && tupOnlyAll r) = true
    rw [rule_only hx, ih fun d hd => h d (List.mem_cons_of_mem _ hd)]
    rfl
end
section
open L2 PySem PySem.Spec PyProof.Rows
theorem pe_ty {X : Cx} {x : Str} {T : String} {p : Pos} (hm : X.mg x = none) (hv : bootBuiltins x = some (.type T)) (hg : Gl X x := by rfl) (h1 : x ≠ "__name__" := by decide) (h2 : (x == ("__debug__" : Str)) = false := by decide) : PE X (.Name x p) (tC (.ty T)) := pe_bltn (v := .ty T) hg hm hv rfl h1 h2
section
variable {K : PySem.W.Frag} {H : Hp} {Q : VK}
theorem i_isi {x : V} {n T : String} {b : Bool} (ty : TyX K H x (.type n)) (e : kitB n T = some b) (h : Q (.bl b) H) : rIsi K [x, .ty T] H Q :=
  ⟨x, .ty T, .type n, .type T, b, rfl, .ty T, ty, kit_ty e, h⟩
theorem ty_tup {a : Addr} {xs : List V} (s : SqT K H a xs) : TyX K H (.ref a) (.type "tuple") := by
  rcases s with (e | ⟨o, e⟩) | ⟨o, its, n, e, c, _⟩
  · exact .base (.tup e)
  · exact .fTuple e
  · exact .kTuple e c
theorem is_tup {a : Addr} {xs : List V} (s : SqT K H a xs) (h : Q (.bl true) H) : rIsi K [.ref a, .ty "tuple"] H Q := i_isi (ty_tup s) (by decide +kernel) h
end
theorem i_iteNT {A B : Prop} (h : B) : if (!true) = true then A else B := h
theorem i_iteNF {A B : Prop} (h : A) : if (!false) = true then A else B := h
theorem all_true {H : Hp} {K : PySem.W.Frag} {Q : VK} {p : Addr} {n : Nat} (e : SqL K H p ((List.range n).map fun _ => V.bl true)) (h : Q (.bl true) H) : rAll K [.ref p] H Q := by
  refine i_all (bs := (List.range n).map fun _ => true) ?_ ?_
  · rw [List.map_map]
    exact e
  · rw [List.all_eq_true.mpr fun x hx => by
      obtain ⟨_, _, rfl⟩ := List.mem_map.mp hx
      rfl]
    exact h
def spPower : Sp := fun vs H Q _ => ∃ (b e : Nat), vs = [.int b, .int e] ∧ b ≤ 3 ∧ e ≤ 8 ∧ Q (.int ((b ^ e : Nat) : Int)) H
def spTableLen (K : PySem.W.Frag) : Sp := fun vs H Q _ => ∃ (p : Addr) (k : Nat) (near : List Str), vs = [.int k, .ref p] ∧ SqA K H p (near.map V.str) ∧ near.length ≤ 7 ∧ k ≤ 3 ∧ Q (.int ((k ^ (near.length + 1) : Nat) : Int)) H
def spSumLen (K : PySem.W.Frag) : Sp := fun vs H Q _ => ∃ (p : Addr) (k : Nat) (near : List Str), vs = [.int k, .ref p] ∧ SqA K H p (near.map V.str) ∧ near.length ≤ 7 ∧ 2 ≤ k ∧ k ≤ 3 ∧ Q (.int ((near.length * (k - 1) + 1 : Nat) : Int)) H
end
section
open L2 PySem PySem.Spec PyProof.Rows
abbrev Tt (P : Program) (w : World) (h : Heap) (k : List Str) (b : Addr) : Prop := IsTupleKey (PySem.strKind P w) h k b
abbrev tx (P : Program) (w : World) (k : List Str) : Int := tupleKeyHash (PySem.strKind P w) k
def trow (P : Program) (w : World) (p : Addr × List Str) : Int × Value := (tx P w p.2, .ref p.1)
abbrev pr (m : Nat) (h : Int) (c : Nat) : SetTable.Probe := nth m (runAt m (SetTable.bits h % (m + 1)) (SetTable.bits h)) c
section
variable {P : Program} {w : World} {A : Around} {E : Value → Shared → Prop} {s : Shared}
theorem texts_of {k : List Str} {vs : List Value} (h : ItemsAre (PySem.strKind P w) k vs) : ∀ v ∈ vs, ∃ z t, v = Value.str z t := by
  induction h with
  | nil => exact fun v hv => nomatch hv
  | cons h1 _ ih =>
    intro v hv
    cases hv with
    | head =>
      obtain ⟨t, e⟩ := Value.isStrOf_shape h1
      exact ⟨_, t, e⟩
    | tail _ hv => exact ih v hv
theorem noClass_str (n : Nat) (z : Str) (t : Tok) : ofAClassStatement n (.str z t) = pure false := by cases n <;> rfl
theorem byVal_str (n : Nat) (z : Str) (t : Tok) : hashByValue n (.str z t) = pure false := hashByValue_scannable n (rfl : (Value.str z t).scannable = true)
theorem noClass_tt {k : List Str} {b : Addr} {Q : Bool → Shared → Prop} (hk : Tt P w s.heap k b) (q : Q false s) : wpAny (model P w) A (ofAClassStatement 8 (.ref b)) Q E s := by
  have ty := hk.typeIs
  obtain ⟨o, its, n, g, _, d, al⟩ := hk
  have al := texts_of al
  unfold ofAClassStatement
  refine wpAny_bind (wpAny_typeOf ty ?_)
  dsimp only
  simp only [show (("tuple" : String) == "tuple") = true from by decide, if_true, Bool.not_true, Bool.false_eq_true, if_false]
  try refine wpAny_bind (wpAny_pure ?_)
  try simp only [Bool.not_true, Bool.false_eq_true, if_false]
  show wpAny _ _ (seqItems? (.ref b) >>= _) _ _ s
  refine wpAny_bind (wpAny_seqItems g d ?_)
  dsimp only
  refine wpAny_bind ?_
  show wpAny _ _ (forIn its _ _) _ _ s
  rw [← Array.forIn_toList]
  refine wpAny_forIn_list _ (fun l r z => (∀ v ∈ l, ∃ y t, v = Value.str y t) ∧ r.1 = none ∧ z = s) _ (fun v l r z => ?_) (fun r z => ?_) _ _ ⟨al, rfl, rfl⟩
  · rintro ⟨h1, h2, rfl⟩
    obtain ⟨y, t, rfl⟩ := h1 v (.head _)
    rw [noClass_str]
    refine wpAny_bind (wpAny_pure ?_)
    simp only [Bool.false_eq_true, if_false]
    exact wpAny_pure ⟨fun u hu => h1 u (.tail _ hu), rfl, rfl⟩
  · obtain ⟨r1, r2⟩ := r
    rintro ⟨_, h2, rfl⟩
    simp only at h2
    subst h2
    exact wpAny_pure q
theorem byVal_tt {k : List Str} {b : Addr} {Q : Bool → Shared → Prop} (hk : Tt P w s.heap k b) (q : ∀ v, Q v s) : wpAny (model P w) A (hashByValue 8 (.ref b)) Q E s := by
  have ty := hk.typeIs
  obtain ⟨o, its, n, g, _, d, al⟩ := hk
  have al := texts_of al
  unfold hashByValue
  refine wpAny_bind (wpAny_specialOf ty F.slot_tuple_hash.lookup ?_)
  show wpAny _ _ (seqItems? (.ref b) >>= _) _ _ s
  refine wpAny_bind (wpAny_seqItems g d (wpAny_bind ?_))
  show wpAny _ _ (forIn its _ _) _ _ s
  rw [← Array.forIn_toList]
  refine wpAny_forIn_list _ (fun l r z => (∀ v ∈ l, ∃ y t, v = Value.str y t) ∧ r.1 = none ∧ z = s) _ (fun v l r z => ?_) (fun r z => ?_) _ _ ⟨al, rfl, rfl⟩
  · rintro ⟨h1, h2, rfl⟩
    obtain ⟨y, t, rfl⟩ := h1 v (.head _)
    rw [byVal_str]
    refine wpAny_bind (wpAny_pure ?_)
    simp only [Bool.not_false, if_true]
    exact wpAny_pure (wpAny_pure (q _))
  · obtain ⟨r1, r2⟩ := r
    rintro ⟨_, h2, rfl⟩
    simp only at h2
    subst h2
    exact wpAny_pure (q _)
theorem unseen_tt {k : List Str} {b : Addr} {Q : Bool → Shared → Prop} (hk : Tt P w s.heap k b) {ys : List Value} (hy : ∀ y ∈ ys, ∃ k' c, y = Value.ref c ∧ Tt P w s.heap k' c) (q : Q false s) :
    wpAny (model P w) A (searchCouldBeSeen (.ref b) ys) Q E s := by
  unfold searchCouldBeSeen
  refine wpAny_bind (wpAny_forIn_list _ (fun l r z => (∀ y ∈ l, ∃ k' c, y = Value.ref c ∧ Tt P w s.heap k' c) ∧ r.1 = none ∧ z = s) _ (fun v l r z => ?_) (fun r z => ?_) _ _ ⟨hy, rfl, rfl⟩)
  · rintro ⟨h1, h2, rfl⟩
    obtain ⟨k', c, rfl, hc⟩ := h1 v (.head _)
    have on : ∀ u ∈ l, ∃ k' c, u = Value.ref c ∧ Tt P w z.heap k' c := fun u hu => h1 u (.tail _ hu)
    dsimp only
    by_cases e : (b == c || (carriedByValue (.ref b) && carriedByValue (.ref c))) = true
    · exact wp_if_pos e (wpAny_pure ⟨on, rfl, rfl⟩)
    · refine wp_if_neg e (wpAny_bind (wpAny_eqIsQuiet_tuple hk ?_))
      simp only [Bool.not_true, Bool.false_eq_true, if_false]
      refine wpAny_bind (wpAny_eqIsQuiet_tuple hc ?_)
      simp only [Bool.not_true, Bool.false_eq_true, if_false]
      refine wpAny_bind (noClass_tt hk ?_)
      simp only [Bool.false_eq_true, if_false]
      refine wpAny_bind (noClass_tt hc ?_)
      simp only [Bool.false_eq_true, if_false]
      exact wpAny_pure ⟨on, rfl, rfl⟩
  · obtain ⟨r1, r2⟩ := r
    rintro ⟨_, h2, rfl⟩
    simp only at h2
    subst h2
    exact wpAny_pure q
structure TxS (P : Program) (w : World) (h : Heap) (a : Addr) (L : List (Addr × List Str)) (es : Array (Int × Value)) (ep : Nat) (t : SetTable) : Prop where
  here : ∃ o, h.get? a = some o ∧ o.ExactSet ∧ o.data = .set es ep t
  rows : es.toList = L.map (trow P w)
  tab : TabOk t (L.map fun p => tx P w p.2)
  led : w.params.followText "set-order" = true ∨ t.led = true
  room : L.length * 5 < t.mask * 3
  few : L.length < 64
variable {a : Addr} {L : List (Addr × List Str)} {es : Array (Int × Value)} {ep : Nat} {t : SetTable}
theorem rows_size (r : es.toList = L.map (trow P w)) : es.size = L.length := by
  simpa using congrArg List.length r
theorem fits_of {hs : List Int} (T : TabOk t hs) (hn : es.size = hs.length) (hm : hs.length ≤ t.mask) : t.fits es.size = true := by
  have z := T.sz
  simp only [SetTable.fits, SetTable.fill, T.dm, Bool.and_eq_true, beq_iff_eq, decide_eq_true_eq]
  exact ⟨by omega, by show t.place.size + 0 ≤ t.mask; omega⟩
theorem TxS.size (R : TxS P w s.heap a L es ep t) : es.size = L.length := rows_size R.rows
theorem TxS.fits (R : TxS P w s.heap a L es ep t) : t.fits es.size = true := by
  refine fits_of R.tab (by rw [R.size, List.length_map]) ?_
  have z := R.room
  rw [List.length_map]
  omega
theorem TxS.entry (R : TxS P w s.heap a L es ep t) {i : Nat} {p : Addr × List Str} (h : L[i]? = some p) : es[i]? = some (trow P w p) := by
  rw [← Array.getElem?_toList, R.rows, List.getElem?_map, h, Option.map_some]
theorem pr_dummy (m : Nat) (h : Int) (c : Nat) : (pr m h c).dummy = none := by
  have z : ∀ n (p : SetTable.Probe), p.dummy = none → (nth m p n).dummy = none := by
    intro n
    induction n with
    | zero => exact fun p e => e
    | succ n ih =>
      intro p e
      exact ih _ (by unfold adv; split <;> exact e)
  exact z c _ rfl
theorem TxS.search (R : TxS P w s.heap a L es ep t) (hT : ∀ p ∈ L, Tt P w s.heap p.2 p.1) {x : Addr} {k : List Str} (hx : Tt P w s.heap k x) (hu : A.units < cLine) (hk : ∀ p ∈ L, p.2 ≠ k) {K : Nat}
    (hKf : K < 10 * SetTable.turns t.mask) (hK : way t.mask (tx P w k) K ∉ t.place.toList) (hKb : ∀ c, c < K → way t.mask (tx P w k) c ∈ t.place.toList) {Q : SetFound → Shared → Prop}
    (q : Q (.free (way t.mask (tx P w k) K) false) s) : ∀ (f c : Nat) (st : Option SetTable.Probe), st.getD (t.probeStart (tx P w k)) = pr t.mask (tx P w k) c → c ≤ K → K - c < f →
      wpAny (model P w) A (setSearchFrom a (.ref x) (tx P w k) true f st) Q E s := by
  obtain ⟨o, g, hex, hd⟩ := R.here
  intro f
  induction f with
  | zero => exact fun c st _ _ z => absurd z (Nat.not_lt_zero _)
  | succ f ih =>
    intro c st hst hc hf
    have on : ∀ n, nth t.mask (pr t.mask (tx P w k) c) n = pr t.mask (tx P w k) (c + n) := fun n => (nth_add t.mask c _ n).symm
    have end_ : (nth t.mask (pr t.mask (tx P w k) c) (K - c)).j = way t.mask (tx P w k) K := by rw [on, Nat.add_sub_cancel' hc]
    rw [setSearchFrom_succ]
    refine wpAny_bind (wpAny_setState_of g hd R.fits ?_)
    dsimp only
    refine wp_if_neg (by unfold SetTable.gaveWay; rw [mask_odd R.tab.mok]; decide) ?_
    try refine wpAny_bind (wpAny_pure ?_)
    rcases go_spec t R.tab.ris R.tab.dm (fun i => (es[i]?.map (·.1)).getD 0) (tx P w k) (10 * SetTable.turns t.mask) (K - c) _ (pr_dummy _ _ c) (by omega)
      (fun n hn => by rw [on]; exact hKb _ (by omega)) (by rw [end_]; exact hK) with ⟨n, i, hn, hi, _, _, e⟩ | ⟨_, e⟩
    · rw [on, on, ← hst] at e
      rw [show t.probe (fun i => (es[i]?.map (·.1)).getD 0) (tx P w k) (st.getD (t.probeStart (tx P w k))) = _ from e]
      dsimp only
      rw [on] at hi
      have hl : i < L.length := by
        have h1 := (List.getElem?_eq_some_iff.mp hi).1
        have h2 := R.tab.sz
        rw [List.length_map] at h2
        rw [Array.length_toList] at h1
        omega
      have hp := List.getElem?_eq_getElem hl
      have me : L[i] ∈ L := List.getElem_mem hl
      have go : wpAny (model P w) A (searchRest a (.ref x) (tx P w k) true f es t (way t.mask (tx P w k) (c + n)) i (pr t.mask (tx P w k) (c + (n + 1)))) Q E s := by
        unfold searchRest
        rw [R.entry hp]
        dsimp only [trow]
        refine wpAny_bind (wpAny_holding (wpAny_eqBool_tuple hu (hT _ me) hx ?_))
        rw [decide_eq_false (hk _ me)]
        refine wpAny_bind (wpAny_setState_of g hd R.fits ?_)
        dsimp only
        refine wp_if_neg (by decide) ?_
        try refine wpAny_bind (wpAny_pure ?_)
        rw [L2.sameMem]
        dsimp only
        simp only [if_true, slot_live R.tab.ris hi, R.entry hp]
        refine wpAny_bind (wpAny_isSame_ref_self (wpAny_bind (wpAny_pure ?_)))
        simp only [if_true]
        refine wp_if_neg Bool.false_ne_true ?_
        exact ih (c + (n + 1)) _ rfl (by omega) (by omega)
      by_cases hl : t.led = true
      · refine wp_if_neg (by simp [hl]) ?_
        try refine wpAny_bind (wpAny_pure ?_)
        exact go
      · refine wp_if_pos (by simp [hl]) (wpAny_bind (unseen_tt hx (fun y hy => ?_) ?_))
        · obtain ⟨u, hu1, hu2⟩ := List.mem_map.mp hy
          have hu3 : u ∈ es ∧ u.1 = tx P w k := by simpa using hu1
          have hu4 : u ∈ es.toList := by simpa using hu3.1
          rw [R.rows] at hu4
          obtain ⟨p, hp1, hp2⟩ := List.mem_map.mp hu4
          exact ⟨p.2, p.1, by rw [← hu2, ← hp2]; rfl, hT p hp1⟩
        · refine wp_if_neg (by decide) ?_
          try refine wpAny_bind (wpAny_pure ?_)
          exact go
    · rw [end_, ← hst] at e
      rw [show t.probe (fun i => (es[i]?.map (·.1)).getD 0) (tx P w k) (st.getD (t.probeStart (tx P w k))) = _ from e]
      dsimp only
      exact wpAny_pure q
theorem TxS.look (R : TxS P w s.heap a L es ep t) (hT : ∀ p ∈ L, Tt P w s.heap p.2 p.1) {x : Addr} {k : List Str} (hx : Tt P w s.heap k x) (hu : A.units < cLine) (hk : ∀ p ∈ L, p.2 ≠ k) {Q : SetFound → Shared → Prop}
    (q : ∀ K, way t.mask (tx P w k) K ∉ t.place.toList → (∀ c, c < K → way t.mask (tx P w k) c ∈ t.place.toList) → Q (.free (way t.mask (tx P w k) K) false) s) :
    wpAny (model P w) A (setSearch a (.ref x) (tx P w k) true) Q E s := by
  have rm := R.room
  obtain ⟨K, h1, h2, h3⟩ := R.tab.first (by rw [List.length_map]; omega) (tx P w k)
  have h4 : K < 100000 := by
    have : 10 * SetTable.turns t.mask ≤ 1420 := by
      unfold SetTable.turns
      rcases R.tab.mok with e | e | e <;> omega
    omega
  unfold setSearch
  exact R.search hT hx hu hk h1 h2 h3 (q K h2 h3) 100000 0 none rfl (Nat.zero_le _) (by omega)
theorem picked {α β : Type} (g : α → β) (d : β) (L : List α) : ∀ l : List Nat, (∀ i ∈ l, i < L.length) → (l.filterMap fun i => L[i]?).map g = l.map fun i => (L.map g).getD i d
  | [], _ => rfl
  | i :: l, h => by
    have hi : i < L.length := h i (.head _)
    rw [List.filterMap_cons_some (List.getElem?_eq_getElem hi), List.map_cons, List.map_cons, picked g d L l fun j hj => h j (.tail _ hj)]
    congr 1
    rw [List.getD_eq_getElem?_getD, List.getElem?_map, List.getElem?_eq_getElem hi]
    rfl
theorem all_picked {α : Type} (L : List α) : ∀ n, n ≤ L.length → (List.range n).filterMap (fun i => L[i]?) = L.take n
  | 0, _ => rfl
  | n + 1, h => by
    rw [List.range_succ, List.filterMap_append, all_picked L n (Nat.le_of_succ_le h), List.take_succ]
    cases e : L[n]? <;> simp [e]
variable {o : Obj}
theorem relay_tx (g : s.heap.get? a = some o) (hex : o.ExactSet) (hd : o.data = .set es ep t) (hr : es.toList = L.map (trow P w)) (T : TabOk t (L.map fun p => tx P w p.2)) (hm : L.length ≤ t.mask) (ld : w.params.followText "set-order" = true ∨ t.led = true) (few : L.length < 64)
    {wd M : Nat} (hw : SetTable.sizeAbove wd - 1 = M) (hM : MaskOk M) (h128 : SetTable.sizeAbove wd ≤ 128) (hn : L.length * 5 < M * 3) {Q : Unit → Shared → Prop}
    (q : ∀ h' L' es' ep' t', Heap.SameBut a s.heap h' → TxS P w h' a L' es' ep' t' → L'.Perm L → Q () { s with heap := h' }) : wpAny (model P w) A (setRelay a wd) Q E s := by
  have sz := rows_size hr
  have ft : t.fits es.size = true := fits_of T (by rw [sz, List.length_map]) (by rw [List.length_map]; exact hm)
  obtain ⟨t', od, e, pm, T', m', l', p', _⟩ := relaid_ok t (hs := es.map (·.1)) (wanted := wd) hw hM (by rw [Array.size_map, sz]; omega)
  rw [Array.size_map, sz] at pm
  have lt : ∀ i ∈ od.toList, i < L.length := fun i hi => List.mem_range.mp (pm.mem_iff.mp hi)
  have eL : (es.map (·.1)).toList = L.map fun p => tx P w p.2 := by
    rw [Array.toList_map, hr, List.map_map]
    rfl
  have e1 : (od.filterMap (es[·]?)).toList = (od.toList.filterMap fun i => L[i]?).map (trow P w) := by
    rw [Array.toList_filterMap, picked (trow P w) (0, .none) L _ lt]
    have : ∀ l : List Nat, (∀ i ∈ l, i < L.length) → l.filterMap (fun i => es[i]?) = l.map fun i => (L.map (trow P w)).getD i (0, .none) := by
      intro l
      induction l with
      | nil => exact fun _ => rfl
      | cons i l ih =>
        intro hl
        have z : es[i]? = some ((L.map (trow P w)).getD i (0, .none)) := by
          rw [← Array.getElem?_toList, hr, List.getD_eq_getElem?_getD, List.getElem?_map, List.getElem?_eq_getElem (hl i (.head _))]
          rfl
        rw [List.filterMap_cons_some z, ih fun j hj => hl j (.tail _ hj), List.map_cons]
    exact this _ lt
  have e2 : (od.toList.filterMap fun i => L[i]?).map (fun p => tx P w p.2) = od.toList.map fun i => (es.map (·.1)).getD i 0 := by
    rw [picked (fun p : Addr × List Str => tx P w p.2) 0 L _ lt]
    refine List.map_congr_left fun i _ => ?_
    rw [← eL]
    simp [List.getD_eq_getElem?_getD, Array.getD_eq_getD_getElem?]
  have e3 : (od.toList.filterMap fun i => L[i]?).Perm L := by
    have z := pm.filterMap fun i => L[i]?
    rw [all_picked L L.length (Nat.le_refl _), List.take_length] at z
    exact z
  rw [← e2] at T'
  generalize (od.toList.filterMap fun i => L[i]?) = L2 at e1 e3 T'
  have s2 := rows_size e1
  rw [e3.length_eq] at s2
  rw [setRelay_eq]
  refine wpAny_bind (wpAny_setState_of g hd ft ?_)
  dsimp only
  refine wp_if_neg (by rw [sizeLine_eq]; omega) ?_
  try refine wpAny_bind (wpAny_pure ?_)
  rw [e]
  dsimp only
  refine wpAny_bind (wp_if_neg (by rw [s2, sz]; simp) ?_)
  try refine wpAny_bind (wpAny_pure ?_)
  refine wpAny_pure ?_
  dsimp only
  refine wpAny_storeSet_of g hd (q _ L2 _ (ep + 1) t' (Heap.SameBut.update ..) ⟨⟨_, store_at g hd, hex, rfl⟩, e1, T', by rw [l']; exact ld, ?_, ?_⟩ e3) (by rw [s2, sizeLine_eq]; omega)
  · rw [e3.length_eq, m']
    exact hn
  · rw [e3.length_eq]
    exact few
theorem TxS.add (R : TxS P w s.heap a L es ep t) (hT : ∀ p ∈ L, Tt P w s.heap p.2 p.1) {x : Addr} {k : List Str} (hx : Tt P w s.heap k x) (hu : A.units < cLine) (hk : ∀ p ∈ L, p.2 ≠ k) (hf : L.length + 1 < 64) {Q : Bool → Shared → Prop}
    (q : ∀ h' L' es' ep' t', Heap.SameBut a s.heap h' → TxS P w h' a L' es' ep' t' → L'.Perm ((x, k) :: L) → Q true { s with heap := h' }) :
    wpAny (model P w) A (setAddHashed a (.ref x) (tx P w k)) Q E s := by
  obtain ⟨o, g, hex, hd⟩ := R.here
  have sz := R.size
  have rm := R.room
  unfold setAddHashed
  refine wpAny_holding ?_
  rw [show (100000 : Nat) = 99999 + 1 from rfl, setAddHashedIn_succ]
  refine wpAny_bind (wpAny_setState_of g hd R.fits ?_)
  dsimp only
  refine wp_if_neg (by simp [byScan, Value.scannable]) ?_
  try refine wpAny_bind (wpAny_pure ?_)
  refine wpAny_bind (R.look hT hx hu hk fun K hK hb => ?_)
  dsimp only
  refine wpAny_bind (wpAny_setState_of g hd R.fits ?_)
  dsimp only
  obtain ⟨q1, q2, q3, q4, q5, q6, q7, q8, q9⟩ := R.tab.put hK hb
  generalize hu1 : t.put (way t.mask (tx P w k) K) = u at q1 q3 q4 q5 q6 q7 q8 q9 ⊢
  obtain ⟨t1, n⟩ := u
  dsimp only at q1 q3 q4 q5 q6 q7 q8 q9 ⊢
  subst q1
  have key : ∀ t2 : SetTable, TabOk t2 ((L.map fun p => tx P w p.2).take (SetTable.below t.place (way t.mask (tx P w k) K)) ++ tx P w k :: (L.map fun p => tx P w p.2).drop (SetTable.below t.place (way t.mask (tx P w k) K))) → t2.mask = t.mask → t2.led = t.led → t2.fill = t1.fill →
      wpAny (model P w) A (do
        storeSet a (SetTable.insertAt es (SetTable.below t.place (way t.mask (tx P w k) K)) (tx P w k, Value.ref x)) t2
        if !false && t2.tooFull then setRelay a (SetTable.grown (es.size + 1))
        return true) Q E s := fun t2 q3 q4 q5 q9' => by
    generalize hn : SetTable.below t.place (way t.mask (tx P w k) K) = n at q2 q3
    have r1 : (SetTable.insertAt es n (tx P w k, Value.ref x)).toList = (L.take n ++ (x, k) :: L.drop n).map (trow P w) := by
      rw [SetTable.toList_insertAt, R.rows, List.map_append, List.map_cons, List.map_take, List.map_drop]
      rfl
    have e3 : (L.take n ++ (x, k) :: L.drop n).map (fun p => tx P w p.2) = (L.map fun p => tx P w p.2).take n ++ tx P w k :: (L.map fun p => tx P w p.2).drop n := by
      rw [List.map_append, List.map_cons, List.map_take, List.map_drop]
    rw [← e3] at q3
    have pm : (L.take n ++ (x, k) :: L.drop n).Perm ((x, k) :: L) := put_perm L n (x, k)
    generalize SetTable.insertAt es n (tx P w k, Value.ref x) = es1 at r1 ⊢
    generalize L.take n ++ (x, k) :: L.drop n = L1 at r1 q3 pm
    have l1 : L1.length = L.length + 1 := pm.length_eq
    have s1 := rows_size r1
    rw [l1] at s1
    refine wpAny_bind (wpAny_storeSet_of g hd ?_ (by rw [s1, sizeLine_eq]; omega))
    have sb : Heap.SameBut a s.heap (s.heap.update a (Obj.putSet es1 t2)) := Heap.SameBut.update ..
    have g1 := store_at (es' := es1) (t' := t2) g hd
    generalize s.heap.update a (Obj.putSet es1 t2) = h1 at sb g1 ⊢
    have ld1 : w.params.followText "set-order" = true ∨ t2.led = true := by rw [q5]; exact R.led
    by_cases hfull : t2.tooFull = true
    · have z := hfull
      unfold SetTable.tooFull at z
      rw [decide_eq_true_eq, q9', q9, List.length_map] at z
      have two : (t.mask = 7 ∧ L.length = 4) ∨ (t.mask = 31 ∧ L.length = 18) := by
        rcases R.tab.mok with e | e | e <;> rw [q4, e] at z <;> rw [e] at rm
        · exact .inl ⟨e, by omega⟩
        · exact .inr ⟨e, by omega⟩
        · omega
      have step : ∀ M, SetTable.sizeAbove (SetTable.grown (L.length + 1)) - 1 = M → MaskOk M → SetTable.sizeAbove (SetTable.grown (L.length + 1)) ≤ 128 → (L.length + 1) * 5 < M * 3 →
          wpAny (model P w) A (setRelay a (SetTable.grown (L.length + 1))) (fun _ s' => wpAny (model P w) A (pure true) Q E s') E { s with heap := h1 } := fun M a1 a2 a3 a4 =>
        relay_tx (s := { s with heap := h1 }) g1 hex rfl r1 q3 (by rw [l1, q4]; rcases two with ⟨e, e2⟩ | ⟨e, e2⟩ <;> omega) ld1 (by rw [l1]; exact hf) a1 a2 a3 (by rw [l1]; exact a4)
          fun h2 L2 es2 ep2 t2 sb2 R2 pm2 => wpAny_pure (q h2 L2 es2 ep2 t2 (sb.trans sb2) R2 (pm2.trans pm))
      first
        | (refine wpAny_bind ?_; refine wp_if_pos (by simp [hfull]) ?_)
        | (refine wp_if_pos (by simp [hfull]) ?_; refine wpAny_bind ?_)
      rw [sz]
      rcases two with ⟨_, e2⟩ | ⟨_, e2⟩
      · exact step 31 (by rw [e2, size_20]) (.inr (.inl rfl)) (by rw [e2, size_20]; decide) (by omega)
      · exact step 127 (by rw [e2, size_76]) (.inr (.inr rfl)) (by rw [e2, size_76]; decide) (by omega)
    · first
        | refine wp_if_neg (by simp [hfull]) ?_
        | (refine wpAny_bind ?_; refine wp_if_neg (by simp [hfull]) ?_; refine wpAny_pure ?_)
      have z := hfull
      unfold SetTable.tooFull at z
      rw [decide_eq_true_eq, q9', q9, List.length_map] at z
      exact wpAny_pure (q h1 L1 es1 (ep + 1) t2 sb ⟨⟨_, g1, hex, rfl⟩, r1, q3, ld1, by rw [l1]; omega, by rw [l1]; exact hf⟩ pm)
  have fin : ∀ b : Bool, wpAny (model P w) A (do
        storeSet a (SetTable.insertAt es (SetTable.below t.place (way t.mask (tx P w k) K)) (tx P w k, Value.ref x)) (if b = true then t1 else { t1 with plain := false })
        if !false && (if b = true then t1 else { t1 with plain := false }).tooFull then setRelay a (SetTable.grown (es.size + 1))
        return true) Q E s := fun b => by
    cases b with
    | true => exact key t1 q3 q4 q5 rfl
    | false => exact key { t1 with plain := false } ⟨q3.ris, q3.dm, q3.sz, q3.mok, q3.bd, q3.reach⟩ q4 q5 rfl
  by_cases p1 : t1.plain = true
  · first
      | (refine wpAny_bind ?_; refine wp_if_pos p1 ?_; refine byVal_tt hx fun b => ?_)
      | refine wp_if_pos p1 (wpAny_bind (byVal_tt hx fun b => ?_))
    exact fin b
  · first
      | (refine wpAny_bind ?_; refine wp_if_neg p1 ?_; refine wpAny_pure ?_)
      | refine wp_if_neg p1 (wpAny_bind (wpAny_pure ?_))
      | refine wp_if_neg p1 ?_
    exact fin true
end
end
section
open L2 PySem PySem.Spec PyProof.Rows
def TsO (P : Program) (w : World) (a : Addr) (L : List (Addr × List Str)) : HO := .ext fun h => ∃ es ep t, TxS P w h a L es ep t
abbrev setObj0 (w : World) : Obj := { cls := .type "set", dict := none, data := .set #[] 0 (.fresh 0 0 (!w.params.followText "set-order")) }
section
variable {P : Program} {w : World} {A : Around} {E : Value → Shared → Prop} {s : Shared}
theorem TxS.keep {h h' : Heap} {a : Addr} {L : List (Addr × List Str)} {es : Array (Int × Value)} {ep : Nat} {t : SetTable} (R : TxS P w h a L es ep t) (k : ∀ o, h.get? a = some o → h'.get? a = some o) : TxS P w h' a L es ep t :=
  let ⟨o, g, r⟩ := R.here
  ⟨⟨o, k o g, r⟩, R.rows, R.tab, R.led, R.room, R.few⟩
theorem txs_fresh {h : Heap} {a : Addr} (g : h.get? a = some (setObj0 w)) : TxS P w h a [] #[] 0 (.fresh 0 0 (!w.params.followText "set-order")) := by
  refine ⟨⟨_, g, ⟨rfl, rfl, rfl⟩, rfl⟩, rfl, ⟨List.Pairwise.nil, rfl, rfl, .inl rfl, fun x hx => (by cases hx), fun i h j hi => (by simp at hi)⟩, ?_, by show 0 * 5 < 7 * 3; decide, by show 0 < 64; decide⟩
  cases e : w.params.followText "set-order"
  · exact .inr rfl
  · exact .inl rfl
theorem ts_obj {H : Hp} {h : Heap} {a : Addr} {L : List (Addr × List Str)} (R : ∃ es ep t, TxS P w h a L es ep t) : ObjOk P w H h a (TsO P w a L) := by
  refine ⟨R, ?_, fun h1 h2 ⟨es, ep, t, z⟩ k => ⟨es, ep, t, z.keep k⟩⟩
  obtain ⟨es, ep, t, z⟩ := R
  obtain ⟨o, g, _⟩ := z.here
  exact ⟨o, g⟩
theorem txs_put {a x : Addr} {L : List (Addr × List Str)} {k : List Str} {es : Array (Int × Value)} {ep : Nat} {t : SetTable} (R : TxS P w s.heap a L es ep t) (hT : ∀ p ∈ L, Tt P w s.heap p.2 p.1) (hx : Tt P w s.heap k x) (hu : A.units + 64 < cLine) (hk : ∀ p ∈ L, p.2 ≠ k) (hf : L.length + 1 < 64) {Q : Value → Shared → Prop}
    (q : ∀ h' L' tk, Heap.SameBut a s.heap h' → (∃ es ep t, TxS P w h' a L' es ep t) → L'.Perm ((x, k) :: L) → Q .none { s with heap := h', toks := tk }) : wpAny (model P w) A (call (.builtin "set.add") [.ref a, .ref x]) Q E s := by
  obtain ⟨o, g, hex, hd⟩ := R.here
  have ty : s.TypeIs (.ref a) "set" := ⟨o, g, hex.1⟩
  refine wpAny_call_entry F.slot_set_add ty F.entry_set_add ?_ (F.args_set_add_2 _ _)
  unfold Builtin.«set.add» Builtin.Frozenset.oneOther
  simp only [List.isEmpty_nil, bind_assoc]
  unfold Builtin.Frozenset.addrOf setAdd
  refine wpAny_bind (wpAny_pure ?_)
  try dsimp only
  refine wpAny_bind (wpAny_pure ?_)
  try dsimp only
  refine wpAny_bind (wpAny_holding (wpAny_bind (wpAny_pyHash_tuple ?hun hx ?_)))
  case hun => first | omega | (show A.units + 1 < cLine; omega) | (show A.units < cLine; omega)
  refine (show TxS P w ({ s with toks := s.toks + (k.length + 1) } : Shared).heap a L es ep t from R).add (s := { s with toks := s.toks + (k.length + 1) }) hT hx ?hun hk hf fun h' L' es' ep' t' sb R' pm => ?_
  case hun => first | omega | (show A.units + 1 < cLine; omega) | (show A.units < cLine; omega)
  show wpAny _ _ (ret Value.none) _ _ _
  exact wpAny_pure ⟨_, rfl, q h' L' _ sb ⟨es', ep', t', R'⟩ pm⟩
end
section
variable {X : Cx}
theorem tt_of {pins : List (Addr × Obj)} {σ : L2.St} {H : Hp} {s : Shared} {b : Addr} {k : List Str} (I : Inv X pins σ H s) (h : SqT X.K H b (k.map V.str)) : Tt X.prog X.w s.heap k b := by
  obtain ⟨its, r, ⟨o, g, c, n, d⟩, _⟩ := I.tuple h
  refine ⟨o, its.toArray, n, g, c, d, ?_⟩
  show ItemsAre _ k its
  have key : ∀ {k : List Str} {us : List Value}, Vals (k.map V.str) us → ItemsAre (PySem.strKind X.prog X.w) k us := by
    intro k
    induction k with
    | nil => intro us v; cases v; exact .nil
    | cons z k ih =>
      intro us v
      cases v with
      | cons r t =>
        obtain ⟨tk, rfl⟩ := r
        exact .cons (PySem.strKind_is _ _ z tk) (ih t)
  exact key r
theorem ts_add {pins : List (Addr × Obj)} {σ : L2.St} {H : Hp} {s : Shared} {E : Value → Shared → Prop} {D x : Addr} {L : List (Addr × List Str)} {k : List Str} {Q : Value → Shared → Prop} (I : Inv X pins σ H s) (hu : X.A.units + 64 < cLine) (hD : H D = some (TsO X.prog X.w D L))
    (hT : ∀ p ∈ L, SqT X.K H p.1 (p.2.map V.str)) (hx : SqT X.K H x (k.map V.str)) (hk : ∀ p ∈ L, p.2 ≠ k) (hf : L.length + 1 < 64)
    (h : ∀ L' s', L'.Perm ((x, k) :: L) → Inv X pins σ (upd H D (TsO X.prog X.w D L')) s' → Q .none s') : wpAny (model X.prog X.w) X.A (call (.builtin "set.add") [.ref D, .ref x]) Q E s := by
  obtain ⟨es, ep, t, R⟩ : ∃ es ep t, TxS X.prog X.w s.heap D L es ep t := (I.hok D _ hD).1
  refine txs_put R (fun p hp => tt_of I (hT p hp)) (tt_of I hx) hu hk hf fun h' L' tk sb R' pm => ?_
  have he : ∃ u, h'.get? D = some u := by
    obtain ⟨_, _, _, z⟩ := R'
    obtain ⟨o, g, _⟩ := z.here
    exact ⟨o, g⟩
  exact h L' _ pm (I.write (e := D) (t' := tk) (by rw [hD]; trivial) (.inl rfl) (fun b u hb hu => (sb.2 b hb).trans hu) he (ts_obj R'))
def rLenTs (P : Program) (w : World) : List V → Hp → VK → Prop := fun xs H Q => ∃ (D : Addr) (L : List (Addr × List Str)), xs = [.ref D] ∧ H D = some (TsO P w D L) ∧ Q (.int L.length) H
theorem cr_lenTs : CallR X (.builtin "len") (rLenTs X.prog X.w) := by
  intro pins s σ H xs us Q I r h
  obtain ⟨D, L, rfl, hD, q⟩ := h
  rw [Vals.ref1 r]
  obtain ⟨es, ep, t, R⟩ : ∃ es ep t, TxS X.prog X.w s.heap D L es ep t := (I.hok D _ hD).1
  obtain ⟨o, g, hex, hd⟩ := R.here
  refine call_len_set g hex hd R.fits ?_ ⟨.int L.length, H, I.tok _, ⟨_, by rw [R.size]⟩, q⟩
  have := R.few
  rw [R.size]
  omega
end
end
section
open L2 PySem PySem.Spec PyProof.Rows
abbrev TxOf (P : Program) (w : World) (h : Heap) (a : Addr) (xs : List Str) : Prop := h.SetOf (PySem.strKind P w) a (fun k => decide (k ∈ xs)) xs.length
abbrev eset (led : Bool) : Obj := { cls := .type "set", dict := none, data := .set #[] 0 (.fresh 0 0 led) }
theorem TxOf.at {P : Program} {w : World} {h h' : Heap} {a : Addr} {xs : List Str} (z : TxOf P w h a xs) (k : ∀ o, h.get? a = some o → h'.get? a = some o) : TxOf P w h' a xs :=
  let ⟨o, es, ep, t, g, r⟩ := z
  ⟨o, es, ep, t, k o g, r⟩
section
variable {P : Program} {w : World} {A : Around} {R : Result → Shared → Prop} {I : Addr} {fp wr : List Addr} {G : Array GenState → Array GenState → Prop} {n : Nat} {Pv : Nat → Value → Prop} {St : Nat → Shared → Prop}
theorem fill_texts (W : WalksS P w A.in1 I fp wr G n Pv St) (S : Addr) (nS : S ∉ fp) (xs : List Str) (hl : xs.length = n) (nd : xs.Nodup) (hb : n + 1 < scanBound) (hv : ∀ i v, Pv i v → ∃ z t, xs[i]? = some z ∧ v = .str z t) :
    ∀ (m i : Nat) (s : Shared), n - i = m → i ≤ n → St i s → TxOf P w s.heap S (xs.take i) → (∀ s', Moved (S :: wr) G s s' → TxOf P w s'.heap S xs → R (.ok (.ret .none)) s') →
      codeAny (model P w) A (.builtin "set.update.loop" ⟨[.ref S, .ref I], []⟩) R s := by
  have nw : S ∉ wr := fun z => nS (W.sub _ z)
  have up : ∀ b ∈ wr, b ∈ S :: wr := fun b hb => .tail _ hb
  intro m
  induction m with
  | zero =>
    intro i s hm hi st z q
    have e : i = n := by omega
    refine codeAny_builtin PyProof.Rows.F.entry_set_update_loop ?_
    rw [Around.under_plainId PyProof.Rows.F.plain_set_update_loop _]
    show wpAny _ A.in1 (pyNext (.ref I) >>= _) _ _ s
    rw [e] at st z
    refine wpAny_bind (W.done s _ _ st fun s' mv => ?_)
    show wpAny _ A.in1 (ret Value.none) _ _ s'
    rw [← hl, List.take_length] at z
    exact wpAny_pure (q s' (mv.mono up) (z.at fun o g => mv.heap S o nw g))
  | succ m ih =>
    intro i s hm hi st z q
    have lt : i < n := by omega
    refine codeAny_builtin PyProof.Rows.F.entry_set_update_loop ?_
    rw [Around.under_plainId PyProof.Rows.F.plain_set_update_loop _]
    show wpAny _ A.in1 (pyNext (.ref I) >>= _) _ _ s
    refine wpAny_bind (W.item i s _ _ lt st fun v s' pv st' mv => ?_)
    obtain ⟨x, tk, hx, rfl⟩ := hv i v pv
    have z' : TxOf P w s'.heap S (xs.take i) := z.at fun o g => mv.heap S o nw g
    have ln : (xs.take i).length = i := by rw [List.length_take]; omega
    have new : x ∉ xs.take i := fun hm => by
      obtain ⟨j, hj, e⟩ := List.getElem_of_mem hm
      rw [List.length_take] at hj
      obtain ⟨hi2, e2⟩ := List.getElem?_eq_some_iff.mp hx
      rw [List.getElem_take] at e
      have := (List.getElem_inj nd).mp (e.trans e2.symm)
      omega
    show wpAny _ A.in1 (holding [Value.str x tk] (setAdd S (.str x tk)) >>= _) _ _ s'
    refine wpAny_bind (wpAny_holding ?_)
    unfold setAdd
    refine wpAny_holding (wpAny_bind ((PySem.strKind P w).pyHash (k := x) (PySem.strKind_is _ _ _ _) ?_))
    refine wpAny_setAddHashed_of (knd := PySem.strKind P w) (s := { s' with toks := s'.toks + 1 }) (PySem.strKind_is _ _ _ _) rfl z' (by omega) fun h' sb z2 => ?_
    have z3 : TxOf P w h' S (xs.take (i + 1)) := by
      have tk1 : xs.take (i + 1) = xs.take i ++ [x] := by rw [List.take_succ, hx]; rfl
      refine SetOf_congr z2 (fun k => ?_) (by rw [if_neg (by simpa using new), ln, List.length_take]; omega)
      rw [tk1]
      by_cases e : k = x <;> simp [e]
    refine wpAny_pure ⟨plainId_quiet PyProof.Rows.F.plain_set_update_loop _, ih (i + 1) _ (by omega) lt (W.frame _ s' _ _ st' (Nat.le_succ _) fun b hb o e => (sb.2 b fun h => nS (h ▸ hb)).trans e) z3 fun s2 mv2 z4 => q s2 (Moved.trans W.gtrans ((mv.mono up).then_heap (Nat.le_succ _) fun b o hb e => (sb.2 b fun h => hb (h ▸ .head _)).trans e) mv2) z4⟩
end
section
variable {P : Program} {w : World} {A : Around} {E : Value → Shared → Prop} {s : Shared}
theorem call_set_texts {l : Addr} {items : Array Value} {xs : List Str} {Q : Value → Shared → Prop} (hh : A.handled = none) (hl : s.heap.IsTuple l items) (hi : StrsAre items.toList xs) (nd : xs.Nodup) (hb : xs.length + 1 < scanBound)
    (q : ∀ (h' : Heap) (tk : Nat), TxOf P w h' s.heap.objs.size xs → (∀ b o, b < s.heap.objs.size → s.heap.get? b = some o → h'.get? b = some o) → Q (.ref s.heap.objs.size) { s with heap := h', toks := tk }) :
    wpAny (model P w) A (call (.type "set") [.ref l]) Q E s := by
  have c1 := PySem.F.called_set.made
  have c2 := PySem.F.called_set.sub
  have c3 := PySem.F.called_set.notType
  have c4 := PySem.F.called_set.canCreate
  have c5 := PySem.F.typeCall_set_1 (.ref l)
  obtain ⟨_, _, c6⟩ := PySem.F.called_set.mro
  refine wpAny_call (codeAny_of_tree ?_)
  show wpAny _ _ (callAny (.type "set") _) _ _ _
  refine wpAny_pure ⟨Code.quiet_builtin _ (by decide +kernel), codeAny_builtin PySem.F.entry_type_call ?_⟩
  rw [Around.under_plain (weight_type_call_type "set" [.ref l] []) rfl]
  repeat (any_goals (first | assumption | wp_step))
  refine codeAny_mono (code_set_new_1 (.ref l) (E := E) (Q₁ := fun v z => ∃ led : Bool, v = .ref s.heap.objs.size ∧ z = { s with heap := s.heap.push (eset led) }) fun led => ⟨led, rfl, rfl⟩) fun r z hr => ?_
  cases r with
  | error e => exact hr
  | ok fl =>
   cases fl with
   | ret obj =>
    obtain ⟨led, rfl, rfl⟩ := hr
    have g0 : (s.heap.push (eset led)).get? s.heap.objs.size = some (eset led) := Heap.get?_push_size _ rfl
    have ty : Shared.TypeIs { s with heap := s.heap.push (eset led) } (.ref s.heap.objs.size) "set" := ⟨_, g0, rfl⟩
    have d1 := PySem.F.called_set.init.lookup
    have d2 := PySem.F.called_set.init.bind (.ref s.heap.objs.size)
    repeat (any_goals (first | assumption | wp_step))
    refine codeAny_mono (codeAny_call_builtin (R := wants (fun v z => v = .none ∧ ∃ h' tk, z = { s with heap := h', toks := tk } ∧ TxOf P w h' s.heap.objs.size xs ∧ ∀ b o, b < s.heap.objs.size → s.heap.get? b = some o → h'.get? b = some o) E) PySem.F.called_set.init.plain PySem.F.entry_set_init (check_set_init_1 ty ?_)) fun r z hr => ?_
    · obtain ⟨⟨cl, di, da, sl⟩, hol, hcl, nl, hdl⟩ := hl
      simp only at hcl hdl
      subst hcl hdl
      have hol' : (s.heap.push (eset led)).get? l = some { cls := .type "tuple", dict := di, data := .seq items nl, slots := sl } := Heap.get?_push_of_some _ hol
      have f1 := PySem.F.sub_tuple_set
      have f2 := PySem.F.sub_tuple_frozenset
      have f3 : (Value.type "tuple" == Value.type "dict") = false := by decide
      have hl1 : (s.heap.push (eset led)).IsTuple l items := ⟨_, hol', rfl, nl, rfl⟩
      unfold Builtin.«set.__init__» noKeywords Builtin.Frozenset.updateFrom
      generalize hPI : pyIter = PI
      wp_walk
      subst hPI
      refine wpAny_pyIter_tuple hl1 (wpAny_bind (wpAny_runValue ?_))
      have lt : l < s.heap.objs.size := Heap.lt_size hol
      have sz : (s.heap.push (eset led)).objs.size = s.heap.objs.size + 1 := Heap.size_push ..
      have ne : l ≠ (s.heap.push (eset led)).objs.size := by rw [sz]; exact Nat.ne_of_lt (Nat.lt_succ_of_lt lt)
      have nS : s.heap.objs.size ∉ [(s.heap.push (eset led)).objs.size, l] := by
        rw [sz]
        simp only [List.mem_cons, List.not_mem_nil, or_false, not_or]
        exact ⟨Nat.ne_of_lt (Nat.lt_succ_self _), Nat.ne_of_gt lt⟩
      have len : xs.length = items.size := by rw [← StrsAre.len_eq hi, Array.length_toList]
      have at_ : ∀ (i : Nat) (v : Value), items[i]? = some v → ∃ z t, xs[i]? = some z ∧ v = .str z t := fun i v hv => by
        obtain ⟨t, e⟩ := SS.strs_at hi i v (by rw [Array.getElem?_toList]; exact hv)
        have hlt : i < xs.length := by
          rw [len]
          exact (Array.getElem?_eq_some_iff.mp hv).1
        refine ⟨xs[i], t, List.getElem?_eq_getElem hlt, ?_⟩
        rw [e, List.getD_eq_getElem?_getD, List.getElem?_eq_getElem hlt]
        rfl
      refine fill_texts ((Walks.tuple (by simp [hh]) _ l ne items).toS) s.heap.objs.size nS xs len nd (by rw [← len]; exact hb) at_ (items.size - 0) 0 _ (by omega) (Nat.zero_le _) ⟨⟨_, Heap.get?_push_size _ rfl, rfl, rfl⟩, (hl1.push _)⟩ ?_ fun s' mv z => ?_
      · exact SetOf_congr ((setObjOf_fresh (knd := PySem.strKind P w) led).setOf (Heap.get?_push_of_some _ g0) (by unfold scanBound; omega)) (fun _ => by simp) rfl
      · obtain ⟨h', g', d', tk', os'⟩ := s'
        obtain rfl : g' = s.gens := mv.gens
        obtain rfl : d' = s.drawn := mv.drawn
        obtain rfl : os' = s.os := mv.os
        show wpAny _ _ _ _ _ _
        refine wpAny_pure ?_
        show wpAny _ _ (ret Value.none) _ _ _
        refine wpAny_pure ⟨rfl, h', tk', rfl, z, fun b o hb e => mv.heap b o ?_ (Heap.get?_push_of_some _ (Heap.get?_push_of_some _ e))⟩
        rw [sz]
        simp only [List.mem_cons, List.not_mem_nil, or_false, not_or]
        exact ⟨Nat.ne_of_lt hb, Nat.ne_of_lt (Nat.lt_succ_of_lt hb)⟩
    · cases r with
      | error e => exact hr
      | ok fl =>
       cases fl with
       | ret v =>
        obtain ⟨rfl, h', tk, rfl, z, k⟩ := hr
        repeat (any_goals (first | assumption | wp_step))
        exact q _ _ z k
       | _ => exact hr.elim
   | _ => exact hr.elim
end
section
variable {X : Cx}
def TxsO (P : Program) (w : World) (a : Addr) (xs : List Str) : HO := .ext fun h => TxOf P w h a xs
def rSetTexts (K : PySem.W.Frag) (P : Program) (w : World) : List V → Hp → VK → Prop := fun vs H Q => ∃ (l : Addr) (xs : List Str), vs = [.ref l] ∧ SqT K H l (xs.map V.str) ∧ xs.Nodup ∧ xs.length < 60 ∧ ∀ D, H D = none → Q (.ref D) (upd H D (TxsO P w D xs))
theorem cr_setTexts (hc : X.calm = true) : CallR X (.type "set") (rSetTexts X.K X.prog X.w) := by
  intro pins s σ H vs us Q I r h
  obtain ⟨l, xs, rfl, hl, nd, lt, q⟩ := h
  rw [Vals.ref1 r]
  obtain ⟨its, rv, pl, hz⟩ := I.tuple hl
  refine call_set_texts (I.ok.hd hc) pl (by simpa using strsAre_of rv) nd (by unfold scanBound; omega) fun h' tk z k => ?_
  refine ⟨.ref s.heap.objs.size, upd H s.heap.objs.size (TxsO X.prog X.w s.heap.objs.size xs), I.laid (t' := tk) (fun b o e => k b o (Heap.lt_size e) e) (Nat.le_refl _) ⟨z, ?_, fun h1 h2 z k => TxOf.at z k⟩, rfl, q _ (I.hok.fresh (Nat.le_refl _))⟩
  obtain ⟨o, _, _, _, g, _⟩ := z
  exact ⟨o, g⟩
def rLenTexts (P : Program) (w : World) : List V → Hp → VK → Prop := fun vs H Q => ∃ (D : Addr) (xs : List Str), vs = [.ref D] ∧ H D = some (TxsO P w D xs) ∧ Q (.int xs.length) H
theorem cr_lenTexts : CallR X (.builtin "len") (rLenTexts X.prog X.w) := by
  intro pins s σ H vs us Q I r h
  obtain ⟨D, xs, rfl, hD, q⟩ := h
  rw [Vals.ref1 r]
  obtain ⟨o, es, ep, t, ho, hex, hd, _, _, hlt, hf, hn⟩ : TxOf X.prog X.w s.heap D xs := (I.hok D _ hD).1
  refine call_len_set ho hex hd hf ?_ ⟨.int xs.length, H, I.tok _, ⟨_, by rw [hn]⟩, q⟩
  unfold scanBound at hlt
  omega
end
end
section
open L2 PySem PySem.Spec PyProof.Rows
section
variable {P : Program} {w : World} {A : Around} {E : Value → Shared → Prop} {s : Shared}
theorem sorted_texts {l : Addr} {items : Array Value} {ss : List Str} {Q : Value → Shared → Prop} (hl : s.heap.IsTuple l items) (hS : StrsAre items.toList ss) (hL : items.size ≤ sizeLine)
    (q : ∀ (h' : Heap) (a : Addr) (out : Array Value) (e : Nat) (ss' : List Str), (∀ b o, s.heap.get? b = some o → h'.get? b = some o) → s.heap.get? a = none → h'.get? a = some (seqObj "list" out e) → StrsAre out.toList ss' → ss'.Perm ss → sortedS ss' = true → Q (.ref a) { s with heap := h' }) :
    wpAny (model P w) A (call (.builtin "sorted") [.ref l]) Q E s := by
  obtain ⟨o, ho, hc, n, hd⟩ := hl
  refine Calls.call_function_entry kind_sorted plain_sorted entry_sorted (args_sorted1 _) ?_
  unfold Builtin.«sorted»
  refine wpAny_bind (m := checkCount "sorted" 1 1 _) (wpAny_pure (wpAny_bind (wpAny_collect_seq l (.inr rfl) ho hc hd (fun h1 k1 => wpAny_bind (wpAny_newList ?_ ?_)) hL)))
  · have g0 : (h1.push (seqObj "list" items.toList.toArray 0)).get? h1.objs.size = some (seqObj "list" items.toList.toArray 0) := Heap.get?_push_size _ rfl
    show wpAny _ _ _ _ _ { s with heap := h1.push (seqObj "list" items.toList.toArray 0) }
    refine wpAny_bind (wpAny_holding (wpAny_call_entry slot_list_sort ⟨_, g0, rfl⟩ entry_list_sort (list_sort_treeKAny strKind_oneLt g0 hS.keysOf (fun v₁ v₂ rest e => keyKind_strs (by rw [← e]; exact hS)) (by rw [Array.length_toList]; exact hL) fun st a1 a2 => ⟨_, rfl, ?_⟩) (args_list_sort _)))
    refine wpAny_pure ?_
    obtain ⟨ss', b1, b2, b3⟩ := sorted_out_str hS a1 a2
    obtain ⟨e, ge⟩ := sortedHeap_at (vs := items.toList) (out := (arrOf st).map (·.2)) g0
    refine ⟨_, rfl, q _ h1.objs.size _ e ss' (fun b o' z => ?_) ?_ ge b1 b2 b3⟩
    · have lt : b < h1.objs.size := Heap.lt_size (k1 b o' z)
      rw [sortedHeap_old (Nat.ne_of_lt lt) (by rw [size_push']; exact Nat.lt_succ_of_lt lt)]
      exact Heap.get?_push_of_some _ (k1 b o' z)
    · cases z : s.heap.get? h1.objs.size with
      | none => rfl
      | some o' => exact absurd (Heap.lt_size (k1 _ o' z)) (Nat.lt_irrefl _)
  · rw [Array.length_toList]
    exact hL
end
section
variable {X : Cx}
def rSortedTx (K : PySem.W.Frag) : List V → Hp → VK → Prop := fun vs H Q => ∃ (a : Addr) (xs : List Str), vs = [.ref a] ∧ SqT K H a (xs.map V.str) ∧ ∀ (ys : List Str) (p : Addr), ys.Perm xs → sortedS ys = true → H p = none → Q (.ref p) (upd H p (.lst (ys.map V.str)))
theorem cr_sortedTx : CallR X (.builtin "sorted") (rSortedTx X.K) := by
  intro pins s σ H vs us Q I r h
  obtain ⟨a, xs, rfl, hs, q⟩ := h
  obtain ⟨its, rv, pl, hz⟩ := I.tuple hs
  rw [Vals.ref1 r]
  have hz' : its.toArray.size ≤ sizeLine := by
    rw [List.size_toArray, ← rv.length]
    exact hz
  refine sorted_texts (ss := xs) pl (by simpa using rv.strs) hz' fun h' p out e ys k n0 g b1 b2 b3 => ?_
  have hn : H p = none := I.hok.gone n0
  refine ⟨.ref p, upd H p (.lst (ys.map V.str)), I.laidN (t' := s.toks) k n0 hn ⟨?_, out.toList, e, vals_of_strs b1, ?_⟩, rfl, q ys p b2 b3 hn⟩
  · rw [List.length_map, b2.length_eq, ← List.length_map (f := V.str)]
    exact hz
  · rw [g]
end
end
section
open L2 PySem PySem.Spec PyProof.Rows
theorem ps_dead {X : Cx} {st : Stmt} : PS X st (fun _ _ _ => False) := ⟨fun pins s σ H D I h => h.elim⟩
section
variable {X : Cx} {K : PySem.W.Frag}
theorem k_sortedTx (hK : X.K = K := by rfl) : CallR X (.builtin "sorted") (rSortedTx K) := by subst hK; exact cr_sortedTx
def rTIndex (K : PySem.W.Frag) : V → List V → Hp → VK → Prop := fun x xs H Q => ∃ p, ∃ ys : List Str, ∃ z j, x = .ref p ∧ xs = [.str z] ∧ SqT K H p (ys.map V.str) ∧ ys[j]? = some z ∧ (∀ m, m < j → ys[m]? ≠ some z) ∧ Q (.int (j : Nat)) H
theorem k_tindex (hK : X.K = K := by rfl) : MtR X "tuple.index" (rTIndex K) := by subst hK; exact mt_tup_index
end
theorem idx_first {ys : List Str} {z : Str} (h : z ∈ ys) : ys[ys.idxOf z]? = some z ∧ ∀ m, m < ys.idxOf z → ys[m]? ≠ some z := by
  have lt := List.idxOf_lt_length_iff.mpr h
  refine ⟨by rw [List.getElem?_eq_getElem lt, List.getElem_idxOf], fun m hm e => ?_⟩
  obtain ⟨hm2, e2⟩ := List.getElem?_eq_some_iff.mp e
  have := List.not_of_lt_findIdx (p := (· == z)) (xs := ys) hm
  rw [e2] at this
  simp at this
section
variable {σ : L2.St} {H : Hp} {Q : VK} {K : PySem.W.Frag}
theorem i_tix {p : Addr} {ys : List Str} {z : Str} (e : SqT K H p (ys.map V.str)) (h : z ∈ ys) (q : Q (.int ((ys.idxOf z : Nat) : Int)) H) : rTIndex K (.ref p) [.str z] H Q :=
  ⟨p, ys, z, ys.idxOf z, rfl, rfl, e, (idx_first h).1, (idx_first h).2, q⟩
end
end
section
open L2 PySem PySem.Spec PyProof.Rows
def obOk (ob : Obj) : Prop := ob.cls = .type "tuple" ∧ ob.dict = none
def FT (H : Hp) (p : Addr) (xs : List V) : Prop := ∃ ob, H p = some (.frz ob (.tup xs)) ∧ obOk ob
theorem FT.sq {K : PySem.W.Frag} {H : Hp} {p : Addr} {xs : List V} (h : FT H p xs) : SqT K H p xs := let ⟨ob, e, _⟩ := h; .inl (.inr ⟨ob, e⟩)
theorem FT.new {H : Hp} {p : Addr} {xs : List V} {ob : Obj} (h : obOk ob) : FT (upd H p (.frz ob (.tup xs))) p xs := ⟨ob, upd_same, h⟩
theorem FT.same {H H' : Hp} {p : Addr} {xs : List V} (h : FT H p xs) (k : Same H H') : FT H' p xs := let ⟨ob, e, o⟩ := h; ⟨ob, k _ _ e, o⟩
theorem FT.ch {H H' : Hp} {a p : Addr} {c : Int} {xs : List V} (h : FT H p xs) (k : Ch a H H') (f : Fd H a c) : FT H' p xs := by
  obtain ⟨ob, e, o⟩ := h
  obtain ⟨x, y, n, e2, _⟩ := f
  exact ⟨ob, k p _ (fun z => by rw [z, e2] at e; cases e) e, o⟩
section
variable {X : Cx}
theorem lay_tup {pins : List (Addr × Obj)} {σ : L2.St} {H : Hp} {s : Shared} {xs : List V} {us : List Value} (I : Inv X pins σ H s) (r : Vals xs us) (z : xs.length ≤ sizeLine) :
    ∃ (p : Addr) (ob : Obj), p = s.heap.objs.size ∧ obOk ob ∧ H p = none ∧ Inv X pins σ (upd H p (.frz ob (.tup xs))) { s with heap := s.heap.push { cls := .type "tuple", data := .seq us.toArray } } :=
  ⟨s.heap.objs.size, { cls := .type "tuple", data := .seq us.toArray }, rfl, ⟨rfl, rfl⟩, I.hok.fresh (Nat.le_refl _), I.laid (t' := s.toks) (fun b u e => Heap.get?_push_of_some _ e) (Nat.le_refl _)
    ⟨Heap.get?_push_size _ rfl, z, us, r, ⟨_, Heap.get?_push_size _ rfl, rfl, _, rfl⟩⟩⟩
def tTupF (t : TA) : TE := fun σ H Q => t σ H fun xs H1 => xs.length ≤ sizeLine ∧ ∀ p ob, H1 p = none → obOk ob → Q (.ref p) (upd H1 p (.frz ob (.tup xs)))
theorem pe_tupF {es : List Expr} {t : TA} {k : Nat} {pos : Pos} (h : PA X es t) : PE X (.Tuple es k pos) (tTupF t) := by
  refine ⟨fun pins s σ H Q I hq => ?_⟩
  refine wpAny_Tuple_spliced (thn (h.run pos pins s σ H _ I hq) fun us s1 ⟨xs, H1, I1, r, z, q⟩ => ⟨by rw [← r.length]; exact z, ?_⟩)
  obtain ⟨p, ob, rfl, ok, n, J⟩ := lay_tup I1 r z
  exact ⟨.ref _, _, J, rfl, q _ ob n ok⟩
def rTupleF (K : PySem.W.Frag) : List V → Hp → VK → Prop := fun xs H Q => ∃ p ys, xs = [.ref p] ∧ SqL K H p ys ∧ ∀ l ob, H l = none → obOk ob → Q (.ref l) (upd H l (.frz ob (.tup ys)))
theorem cr_tupleF : CallR X (.type "tuple") (rTupleF X.K) := by
  intro pins s σ H xs us Q I r h
  obtain ⟨p, ys, rfl, hq, q⟩ := h
  rw [Vals.ref1 r]
  obtain ⟨its, r', pl, hz⟩ := I.list hq
  have hl := r'.length
  refine call_tuple_list pl.isList (fun h' kp => ?_) (by simp only [List.size_toArray] <;> omega)
  obtain ⟨p, ob, rfl, ok, n, J⟩ := lay_tup (I.kept (t' := s.toks) kp : Inv X pins σ H { s with heap := h' }) r' hz
  exact ⟨.ref _, _, J, rfl, q _ ob n ok⟩
def rSlF (K : PySem.W.Frag) : V → Option Int → Option Int → Hp → VK → Prop := fun x lo hi H Q => ∃ a xs, x = .ref a ∧ SqT K H a xs ∧
  (HT.sIx xs.length 0 lo = 0 ∧ HT.sIx xs.length xs.length hi = xs.length → Q (.ref a) H) ∧ (¬ (HT.sIx xs.length 0 lo = 0 ∧ HT.sIx xs.length xs.length hi = xs.length) → ∀ p ob, H p = none → obOk ob → Q (.ref p) (upd H p (.frz ob (.tup (cutV xs lo hi)))))
theorem sl_tupF : SlR X (rSlF X.K) := by
  intro pins s σ H x v vl vu lo hi sl Q I rx hs pl pu h
  obtain ⟨a, xs, rfl, hx, q1, q2⟩ := h
  cases rx
  obtain ⟨its, r, ht, hz⟩ := I.tuple hx
  have hl : its.toArray.size = xs.length := by rw [List.size_toArray]; exact r.length.symm
  refine ⟨"tuple", _, PyProof.Rows.slot_tuple_getitem.lookup, ht.typeIs, ?_⟩
  by_cases hw : HT.sIx xs.length 0 lo = 0 ∧ HT.sIx xs.length xs.length hi = xs.length
  · exact getItem_tuple_whole ht hs pl pu (by rw [hl]; exact hw) ⟨.ref a, H, I, rfl, q1 hw⟩
  · refine HT.getItem_tuple_cut ht hs pl pu (by rw [hl]; exact hw) ?_ (by rw [hl]; exact hz)
    rw [hl]
    obtain ⟨p, ob, rfl, ok, n, J⟩ := lay_tup I ((r.drop (HT.sIx xs.length 0 lo)).take (HT.sIx xs.length xs.length hi - HT.sIx xs.length 0 lo)) (Nat.le_trans (cutV_length xs lo hi) hz)
    exact ⟨.ref _, _, J, rfl, q2 hw _ ob n ok⟩
def rCatF (K : PySem.W.Frag) : R2 := fun x y H Q => ∃ a b xs ys, x = .ref a ∧ y = .ref b ∧ SqT K H a xs ∧ SqT K H b ys ∧ xs.length + ys.length ≤ sizeLine ∧
  (xs = [] → Q (.ref b) H) ∧ (xs ≠ [] → ys = [] → Q (.ref a) H) ∧ (xs ≠ [] → ys ≠ [] → ∀ p ob, H p = none → obOk ob → Q (.ref p) (upd H p (.frz ob (.tup (xs ++ ys)))))
theorem op_catF : OpR X (binaryOp .Add) (rCatF X.K) := by
  intro pins s σ H x y v u Q I rx ry h
  obtain ⟨a, b, xs, ys, rfl, rfl, ha, hb, hz, q0, q1, q2⟩ := h
  cases rx
  cases ry
  obtain ⟨its, r1, p1, _⟩ := I.tuple ha
  obtain ⟨its2, r2, p2, _⟩ := I.tuple hb
  by_cases hx : xs = []
  · subst hx
    cases r1
    exact cat_tup0 p1 p2 ⟨.ref b, H, I, rfl, q0 rfl⟩
  · refine HT.cat_tup p1 p2 (fun z => hx (r1.nil_iff.mp z)) (fun z => ⟨.ref a, H, I, rfl, q1 hx (r2.nil_iff.mp z)⟩) (fun z => ?_) (by rw [← r1.length, ← r2.length]; exact hz)
    obtain ⟨p, ob, rfl, ok, n, J⟩ := lay_tup I (r1.append r2) (by rw [List.length_append]; exact hz)
    exact ⟨.ref _, _, J, rfl, q2 hx (fun w => z (r2.nil_iff.mpr w)) _ ob n ok⟩
end
section
variable {P : Program} {w : World} {A : Around} {E : Value → Shared → Prop} {s : Shared}
theorem applied_back {sl : Addr} {c : Value} {n : Nat} {Q : Int × Int × Nat → Shared → Prop} (hs : s.heap.IsSliceOf sl .none .none c) (pc : IsPart c (some (-1))) (q : Q ((n : Int) - 1, -1, n) s) : wpAny (model P w) A (Builtin.Slice.sliceApplied (.ref sl) (pure (n : Int))) Q E s := by
  obtain ⟨os, hos, hcs, hds⟩ := id hs
  unfold Builtin.Slice.sliceApplied Builtin.Slice.sliceFields
  refine wpAny_bind (wpAny_bind (wpAny_field hos hds (x := .none) rfl (wpAny_bind (wpAny_field hos hds (x := .none) rfl (wpAny_bind (wpAny_field hos hds (x := c) rfl (wpAny_pure ?_)))))))
  refine wpAny_bind (HT.slicePart_ pc ?_)
  show wpAny _ _ (if ((-1 : Int) == 0) = true then _ else _) _ _ s
  rw [if_neg (by decide)]
  refine wpAny_bind (HT.slicePart_ .none (wpAny_bind (HT.slicePart_ .none (wpAny_bind (wpAny_pure ?_)))))
  have e1 : Builtin.Slice.sliceAdjust none none (-1) (n : Int) = ((n : Int) - 1, -1) := by
    unfold Builtin.Slice.sliceAdjust
    simp
  have e2 : Builtin.Slice.slicePlaces ((n : Int) - 1) (-1) (-1) = n := by
    unfold Builtin.Slice.slicePlaces
    have h1 : ¬ ((-1 : Int) > 0) := by decide
    simp only [h1, if_false]
    by_cases h : (n : Int) - 1 > -1
    · rw [if_pos h, show (- -1 : Int) = 1 from by decide, Int.ediv_one]
      omega
    · rw [if_neg h]
      omega
  show wpAny _ _ (match Builtin.Slice.sliceAdjust none none (-1) (n : Int) with | (lo, hi) => pure (lo, (-1 : Int), Builtin.Slice.slicePlaces lo hi (-1))) _ _ s
  rw [e1]
  show wpAny _ _ (pure ((n : Int) - 1, (-1 : Int), Builtin.Slice.slicePlaces ((n : Int) - 1) (-1) (-1))) _ _ s
  rw [e2]
  exact wpAny_pure q
theorem back_pick (xs : Array Value) : ((List.range xs.size).filterMap fun (k : Nat) => xs[(((xs.size : Int) - 1) + (k : Int) * -1).toNat]?) = xs.toList.reverse := by
  rw [show (fun (k : Nat) => xs[(((xs.size : Int) - 1) + (k : Int) * -1).toNat]?) = fun k => xs[xs.size - 1 - k]? from funext fun k => by
    rw [show (((xs.size : Int) - 1) + (k : Int) * -1).toNat = xs.size - 1 - k from by omega]]
  have h := PySem.W.krv_all xs
  have e : (List.range xs.size).filterMap (fun k => xs[xs.size - 1 - k]?) = ((List.range xs.size).map fun k => xs.size - 1 - k).filterMap (xs[·]?) := by
    rw [List.filterMap_map]
    rfl
  rw [e, PySem.W.krv_range, List.filterMap_reverse, h]
theorem getItem_back {t sl : Addr} {items : Array Value} {c : Value} {Q : Value → Shared → Prop} (ht : IsTup s.heap t items) (hs : s.heap.IsSliceOf sl .none .none c) (pc : IsPart c (some (-1)))
    (q : Q (.ref s.heap.objs.size) { s with heap := s.heap.push { cls := .type "tuple", data := .seq items.toList.reverse.toArray } }) (hz : items.size ≤ sizeLine) : wpAny (model P w) A (getItem (.ref t) (.ref sl)) Q E s := by
  obtain ⟨os, hos, hcs, _⟩ := id hs
  have ty : s.TypeIs (.ref sl) "slice" := ⟨os, hos, hcs⟩
  unfold getItem
  try with_reducible refine wpAny_holding ?_
  first | refine wpAny_bind (wpAny_pure ?_) | skip
  refine wpAny_bind (wpAny_sequenceKey ht.typeIs (by decide) ?_)
  refine wpAny_bind (wpAny_callSpecial?_slot (name := Str.ofString "__getitem__") ht.typeIs PyProof.Rows.slot_tuple_getitem (wpAny_call_entry PyProof.Rows.slot_tuple_getitem ht.typeIs entry_tuple_getitem ?_ (args_tuple_getitem _ _)))
  show wpAny _ _ (Builtin.Tuple.tupleItemsOf (.ref t) >>= _) _ _ s
  refine wpAny_bind (tupleItemsOf_ ht (wpAny_bind (wpAny_typeOf ty ?_)))
  rw [if_pos (by decide)]
  refine wpAny_bind (applied_back hs pc ?_)
  have no : ¬ ((((items.size : Int) - 1) == 0 && (-1 : Int) == 1 && items.size == items.size) = true) := by
    simp
  show wpAny _ _ (if (((items.size : Int) - 1) == 0 && (-1 : Int) == 1 && items.size == items.size) = true then _ else _) _ _ s
  rw [if_neg no]
  have fit : sizeOk (.seq items.toList.reverse.toArray) := by
    show items.toList.reverse.toArray.size ≤ sizeLine
    rw [List.size_toArray, List.length_reverse, Array.length_toList]
    exact hz
  rw [back_pick]
  first
    | exact wpAny_bind (m := Builtin.Tuple.tupleExact _) (wpAny_newObj_type (wpAny_pure ⟨_, rfl, wpAny_pure q⟩) fit)
    | exact wpAny_bind (m := Builtin.Tuple.tupleExact _) (wpAny_newObj_type (wpAny_bind (wpAny_pure (wpAny_pure ⟨_, rfl, wpAny_pure q⟩))) fit)
    | exact wpAny_bind (wpAny_bind (m := Builtin.Tuple.tupleExact _) (wpAny_newObj_type (wpAny_pure (wpAny_pure ⟨_, rfl, wpAny_pure q⟩)) fit))
    | exact wpAny_bind (wpAny_bind (m := Builtin.Tuple.tupleExact _) (wpAny_newObj_type (wpAny_pure ⟨_, rfl, wpAny_pure q⟩) fit))
end
section
variable {X : Cx} {K : PySem.W.Frag}
def tRevT (K : PySem.W.Frag) (te : TE) : TE := fun σ H Q => te σ H fun x H1 => ∃ a xs, x = .ref a ∧ SqT K H1 a xs ∧ ∀ p ob, H1 p = none → obOk ob → Q (.ref p) (upd H1 p (.frz ob (.tup xs.reverse)))
theorem pe_revT {e : Expr} {te : TE} {k : Nat} {p1 p2 p3 pos : Pos} (he : PE X e te) (hK : X.K = K := by rfl) : PE X (.Subscript e (.Slice none none (some (.UnaryOp .USub (.Constant (.int 1) k p1) p2)) p3) pos) (tRevT K te) := by
  subst hK
  refine ⟨fun pins s σ H Q I h => ?_⟩
  refine Subscript_ (thn (he.run pins s σ H _ I h) fun v s1 ⟨x, H1, I1, r1, a, xs, ex, hx, q⟩ => ?_)
  subst ex
  cases r1
  have st : PO X (some (.UnaryOp .USub (.Constant (.int 1) k p1) p2)) (tPart (tUn (rU fun i => .int (-i)) (tC (.int 1)))) := po_some (pe_un un_neg pe_int)
  refine wpAny_Slice (thn (po_none.run pins s1 σ H1 (fun o H2 => o = none ∧ H2 = H1) I1 ⟨rfl, rfl⟩) fun vl s2 ⟨l, H2, I2, pl, el, e2⟩ => ?_)
  subst el e2
  refine thn (po_none.run pins s2 σ H2 (fun o H3 => o = none ∧ H3 = H2) I2 ⟨rfl, rfl⟩) fun vu s3 ⟨u, H3, I3, pu, eu, e3⟩ => ?_
  subst eu e3
  refine thn (st.run pins s3 σ H3 (fun o H4 => o = some (-1) ∧ H4 = H3) I3 ⟨1, rfl, -1, rfl, rfl, rfl⟩) fun vs s4 ⟨o, H4, I4, ps, eo, e4⟩ => ?_
  subst eo e4
  cases pl
  cases pu
  have I5 : Inv X pins σ H4 { s4 with heap := s4.heap.push { cls := .type "slice", data := .fields #[.none, .none, vs] } } := I4.kept (t' := s4.toks) fun b ob q => Heap.get?_push_of_some _ q
  obtain ⟨its, r, ht, hz⟩ := I5.tuple hx
  have hl := r.length
  show wpAny (model X.prog X.w) X.A (subscriptTail e (.Slice none none (some (.UnaryOp .USub (.Constant (.int 1) k p1) p2)) p3) (.ref a) (.ref s4.heap.objs.size)) (EP X pins σ Q) X.xe { s4 with heap := s4.heap.push { cls := .type "slice", data := .fields #[.none, .none, vs] } }
  refine tail_any (ops := [.ref a, .ref s4.heap.objs.size]) (T := "tuple") ht.typeIs PyProof.Rows.slot_tuple_getitem.lookup ?_ (by with_unfolding_all rfl)
  refine getItem_back ht (Heap.IsSliceOf.new _ .none .none vs) ps ?_ (by rw [List.size_toArray]; omega)
  obtain ⟨p, ob, rfl, ok, n, J⟩ := lay_tup I5 (xs := xs.reverse) (us := its.toArray.toList.reverse) (by simpa using r.reverse) (by rw [List.length_reverse]; exact hz)
  exact ⟨.ref _, _, J, rfl, q _ ob n ok⟩
theorem k_tupleF (hK : X.K = K := by rfl) : CallR X (.type "tuple") (rTupleF K) := by subst hK; exact cr_tupleF
theorem ksl_tupF (hK : X.K = K := by rfl) : SlR X (rSlF K) := by subst hK; exact sl_tupF
theorem k_catF (hK : X.K = K := by rfl) : OpR X (binaryOp .Add) (rCatF K) := by subst hK; exact op_catF
def tBMF (r : V → List V → Hp → VK → Prop) (to : TE) (t : TA) : TE := fun σ H Q => to σ H fun x H1 => (∃ p xs, x = .ref p ∧ FT H1 p xs) ∧ t σ H1 fun vs H2 => r x vs H2 Q
variable {o e : Expr} {es : List Expr} {to : TE} {t : TA} {name : Str} {apos cpos : Pos} {id : String} {r : V → List V → Hp → VK → Prop}
theorem pe_bmF (pa : PlainAttrs "tuple") (slot : Slot "tuple" name id) (hty : typeOf (.builtin id) = pure (.type "method_descriptor")) (hm : MtR X id r) (ho : PE X o to) (ha : PA X (e :: es) t)
    (hbase : attributeBase o name X.env (eval o X.env) = eval o X.env := by rfl)
    (hfew : ((backTo cpos (starEach (e :: es) X.env)).all (fun x => !x.1) && (backToKw cpos (keywordEach [] X.env)).all (fun x => x.1.isSome)
      && decide ((e :: es).length + ([] : List Keyword).length + (if ([] : List Keyword).isEmpty then 0 else 1) < 30)) = true := by rfl)
    (hline : (apos.endLine == cpos.line) = true := by rfl) (hs : starEach (e :: es) X.env = (false, eval e X.env) :: starEach es X.env := by rfl) (hplain : (backTo cpos (starEach es X.env)).any (·.1) = false := by rfl) :
    PE X (.Call (.Attribute o name apos) (e :: es) [] cpos) (tBMF r to t) := by
  refine ⟨fun pins s σ H Q I h => ?_⟩
  refine wpAny_Call_method_late hbase hfew hline rfl (thn (ho.run pins s σ H _ I h) fun v s1 ⟨x, H1, I1, r1, ⟨p, xs, ex, ob, hp, oc, od⟩, q1⟩ => ?_)
  subst ex
  obtain rfl : v = Value.ref p := r1
  have g : s1.heap.get? p = some ob := (I1.hok p _ hp).1
  refine ⟨"tuple", id, pa, slot, hty, ⟨ob, g, oc⟩, fun a z => ?_, ?_⟩
  · injection z with z
    subst z
    exact ⟨ob, g, od⟩
  have hA := ha.run cpos pins s1 σ H1 _ I1 q1
  rw [hs] at hA ⊢
  refine Calls.callWith_builtin (by show (false || (backTo cpos (starEach es X.env)).any (·.1)) = false; rw [hplain] <;> rfl) (Calls.evalArgs_plain ?_)
  exact thn hA fun us s2 ⟨vs, H2, I2, r2, q2⟩ => hm pins s2 σ H2 (.ref p) vs (.ref p) us Q I2 rfl r2 q2
end
section
variable {σ : L2.St} {H : Hp} {Q : VK} {K : PySem.W.Frag}
theorem i_bmF {r : V → List V → Hp → VK → Prop} {to : TE} {t : TA} (h : to σ H fun x H1 => (∃ p xs, x = .ref p ∧ FT H1 p xs) ∧ t σ H1 fun vs H2 => r x vs H2 Q) : tBMF r to t σ H Q := h
theorem i_tyF {p : Addr} {xs : List V} {A : Prop} (e : FT H p xs) (h : A) : (∃ q ys, V.ref p = .ref q ∧ FT H q ys) ∧ A := ⟨⟨p, xs, rfl, e⟩, h⟩
theorem i_revT {te : TE} (h : te σ H fun x H1 => ∃ a xs, x = .ref a ∧ SqT K H1 a xs ∧ ∀ p ob, H1 p = none → obOk ob → Q (.ref p) (upd H1 p (.frz ob (.tup xs.reverse)))) : tRevT K te σ H Q := h
end
end
section
open L2 PySem PySem.Spec PyProof.Rows
def arr1 (qs : List Str) (r : Str × Str) : Str × Str := if qs.idxOf r.1 < qs.idxOf r.2 then r else (r.2, r.1)
def arr (qs : List Str) (rs : List (Str × Str)) : List (Str × Str) := rs.map (arr1 qs)
def spIsOneOf (K : PySem.W.Frag) : Sp := fun vs H Q _ => ∃ (z : Str) (p : Addr) (ps : List Str), vs = [.str z, .ref p] ∧ SqT K H p (ps.map V.str) ∧ z ∈ ps ∧ Q (.bl true) H
def spIsWeb (K : PySem.W.Frag) : Sp := fun vs H Q _ => ∃ (v : V) (ps : List Str) (rs : List (Str × Str)), vs = [v] ∧ Dp K H v (webD ps rs) ∧ IsWeb ps rs ∧ ∀ H', Same H H' → Q (.bl true) H'
def spNeedWeb (K : PySem.W.Frag) : Sp := fun vs H Q _ => ∃ (v : V) (ps : List Str) (rs : List (Str × Str)), vs = [v] ∧ Dp K H v (webD ps rs) ∧ IsWeb ps rs ∧ ∀ H', Same H H' → Q .non H'
def spIsOrder (K : PySem.W.Frag) : Sp := fun vs H Q _ => ∃ (v : V) (o : Addr) (qs ps : List Str) (rs : List (Str × Str)), vs = [v, .ref o] ∧ Dp K H v (webD ps rs) ∧ IsWeb ps rs ∧ SqT K H o (qs.map V.str) ∧ qs.Perm ps ∧ ∀ H', Same H H' → Q (.bl true) H'
def spNeedOrder (K : PySem.W.Frag) : Sp := fun vs H Q _ => ∃ (v : V) (o : Addr) (qs ps : List Str) (rs : List (Str × Str)), vs = [v, .ref o] ∧ Dp K H v (webD ps rs) ∧ IsWeb ps rs ∧ SqT K H o (qs.map V.str) ∧ qs.Perm ps ∧ ∀ H', Same H H' → Q .non H'
def spPointed : Sp := fun vs H Q _ => ∃ (o : Addr) (qs : List Str) (x y : Str), vs = [.ref o, .str x, .str y] ∧ FT H o (qs.map V.str) ∧ x ∈ qs ∧ y ∈ qs ∧ ∀ T, H T = none → Q (.ref T) (upd H T (.tup [.str (arr1 qs (x, y)).1, .str (arr1 qs (x, y)).2]))
def spArrows (K : PySem.W.Frag) : Sp := fun vs H Q _ => ∃ (v : V) (o : Addr) (qs ps : List Str) (rs : List (Str × Str)), vs = [v, .ref o] ∧ Dp K H v (webD ps rs) ∧ IsWeb ps rs ∧ FT H o (qs.map V.str) ∧ qs.Perm ps ∧ ∀ (T : Addr) (H' : Hp), Same H H' → Dp K H' (.ref T) (.tuple ((arr qs rs).map roadD)) → Q (.ref T) H'
end
section
open L2 PySem PySem.Spec PyProof.Rows
section
variable {σ : L2.St} {H : Hp} {Q : VK} {K : PySem.W.Frag} {te : TE} {R : It → Hp → Prop}
def isK (R : It → Hp → Prop) : V → Hp → Prop := fun x H1 => ∃ z, x = .str z ∧ R (Its z) H1
theorem i_istr {t : TE} (h : t σ H (isK R)) : iStr t σ H R := h
theorem i_isK {z : Str} (h : R (Its z) H) : isK R (.str z) H := ⟨z, rfl, h⟩
theorem p_str {v : Nat} (z : Str) (f : Nat → V) (hz : z.cps.size ≤ 100000)
    (hs : ∀ D acc i c (N : VK), H D = none → z.cps[i]? = some c → N (f i) (upd H D (.lst acc)) → te ((wipe σ [v]).set v (some (.str ⟨#[c]⟩))) (upd H D (.lst acc)) N)
    (hd : ∀ D, H D = none → Q (.ref D) (upd H D (.lst ((List.range z.cps.size).map f)))) : lcK (gName v) tYes te [v] σ Q (Its z) H := by
  intro D nD
  refine ⟨fun i m H' => m = z.cps.size - i ∧ i ≤ z.cps.size ∧ H' = upd H D (.lst ((List.range i).map f)), ⟨z.cps.size, by simp, Nat.zero_le _, rfl⟩, ?_⟩
  rintro i m H' ⟨rfl, hi, rfl⟩
  by_cases lt : i < z.cps.size
  · refine .inr ⟨lt, fun H' => H' = upd H D (.lst ((List.range (i + 1)).map f)), fun H' e => ⟨z.cps.size - (i + 1), by omega, rfl, lt, e⟩, ?_⟩
    rintro x H' ⟨rfl, c, hc, rfl⟩
    refine ⟨?_, ?_⟩
    · show List.set (List.set (List.set σ v none) v (some _)) v none = List.set σ v none
      rw [List.set_set, List.set_set]
    · show te _ _ _
      refine hs D _ i c _ nD hc ⟨_, upd_same, ?_, ?_⟩
      · rw [List.length_map, List.length_range, sizeLine_eq]
        omega
      · rw [upd_upd, List.range_succ, List.map_append]
        rfl
  · have e : i = z.cps.size := by omega
    subst e
    exact .inl ⟨Nat.le_refl _, hd D nD⟩
end
theorem nm_parts {z : Str} (h : nmOk z = true) : ∃ c r, z.cps.toList = c :: r ∧ r.length ≤ 7 ∧ (97 ≤ c ∧ c ≤ 122) ∧ ∀ x ∈ r, nmSign x = true := by
  unfold nmOk at h
  split at h
  · cases h
  · rename_i c r e
    simp only [Bool.and_eq_true, decide_eq_true_eq, List.all_eq_true] at h
    exact ⟨c, r, e, h.1.1, h.1.2, h.2⟩
theorem road_parts {K : PySem.W.Frag} {H : Hp} {v : V} {r : Str × Str} (h : Dp K H v (roadD r)) : ∃ t, v = .ref t ∧ SqT K H t [.str r.1, .str r.2] := by
  cases h with
  | tup s1 a1 =>
    cases a1 with
    | cons g1 g2 =>
      cases g1
      cases g2 with
      | cons g3 g4 =>
        cases g3
        cases g4
        exact ⟨_, rfl, s1⟩
section
variable {H : Hp} {Q : VK} {K : PySem.W.Frag}
theorem cut_whole {xs : List V} {lo hi : Option Int} (h : HT.sIx xs.length 0 lo = 0 ∧ HT.sIx xs.length xs.length hi = xs.length) : cutV xs lo hi = xs := by
  unfold cutV
  rw [h.1, h.2, List.drop_zero, Nat.sub_zero, List.take_of_length_le (Nat.le_refl _)]
theorem i_slF {a : Addr} {xs : List V} {lo hi : Option Int} (e : FT H a xs) (h : ∀ p H', Same H H' → FT H' p (cutV xs lo hi) → Q (.ref p) H') : rSlF K (.ref a) lo hi H Q :=
  ⟨a, xs, rfl, e.sq, fun w => h a H (fun _ _ z => z) (by rw [cut_whole w]; exact e), fun _ p ob n ok => h p _ (Same.upd_new n) (FT.new ok)⟩
theorem i_catF {a b : Addr} {xs ys : List V} (e : FT H a xs) (e2 : FT H b ys) (z : xs.length + ys.length ≤ sizeLine) (h : ∀ p H', Same H H' → FT H' p (xs ++ ys) → Q (.ref p) H') : rCatF K (.ref a) (.ref b) H Q :=
  ⟨a, b, xs, ys, rfl, rfl, e.sq, e2.sq, z, fun w => h b H (fun _ _ z => z) (by rw [w]; exact e2), fun _ w => h a H (fun _ _ z => z) (by rw [w, List.append_nil]; exact e), fun _ _ p ob n ok => h p _ (Same.upd_new n) (FT.new ok)⟩
theorem i_tupF {σ : L2.St} {t : TA} (h : t σ H fun xs H1 => xs.length ≤ sizeLine ∧ ∀ p ob, H1 p = none → obOk ob → Q (.ref p) (upd H1 p (.frz ob (.tup xs)))) : tTupF t σ H Q := h
theorem at_str {qs : List Str} {k : Nat} {z : Str} (h : qs[k]? = some z) : atI (qs.map V.str) (k : Int) = some (.str z) := atI_nat (by rw [List.getElem?_map, h]; rfl)
theorem cut_from {xs : List V} {k : Nat} : cutV xs (some (k : Int)) none = xs.drop k := by
  unfold cutV
  rw [HT.sIx_none, HT.sIx_nat]
  by_cases h : k ≤ xs.length
  · rw [Nat.min_eq_left h, List.take_of_length_le (by rw [List.length_drop]; exact Nat.le_refl _)]
  · rw [Nat.min_eq_right (by omega), List.drop_of_length_le (Nat.le_refl _), List.drop_of_length_le (by omega), List.take_nil]
end
theorem at_nat {k : Nat} {α : Type} {l : List α} (h : k < l.length) : ∃ z, l[k]? = some z := ⟨l[k], List.getElem?_eq_getElem h⟩
def sw (qs : List Str) (i : Nat) : List Str := match qs[i]?, qs[i + 1]? with
  | some x, some y => qs.take i ++ y :: x :: qs.drop (i + 2)
  | _, _ => qs
end
section
open L2 PySem PySem.Spec PyProof.Rows
def g2 {α : Type} (us ws : List α) : List α := match us, ws with
  | [], [o] => [o]
  | [], [o, w] => [w, o]
  | [], [o, w, z] => [z, w, o]
  | [], [o, w, z, y] => [y, z, w, o]
  | _, _ => []
theorem g2_rel : ∀ {vs : List V} {us : List Value} {zs : List V} {ws : List Value}, Vals vs us → Vals zs ws → Vals (g2 vs zs) (g2 us ws)
  | [], [], [], [], _, _ => .nil
  | [], [], [_], [_], _, .cons x .nil => .cons x .nil
  | [], [], [_, _], [_, _], _, .cons x (.cons y .nil) => .cons y (.cons x .nil)
  | [], [], [_, _, _], [_, _, _], _, .cons x (.cons y (.cons z .nil)) => .cons z (.cons y (.cons x .nil))
  | [], [], [_, _, _, _], [_, _, _, _], _, .cons x (.cons y (.cons z (.cons a .nil))) => .cons a (.cons z (.cons y (.cons x .nil)))
  | [], [], _ :: _ :: _ :: _ :: _ :: _, _ :: _ :: _ :: _ :: _ :: _, _, _ => .nil
  | _ :: _, _ :: _, _, _, _, _ => .nil
theorem kb1 {K : PySem.W.Frag} {fd : FuncData} {ps ks : List Str} (hp : ps.length = 1) (h : ∀ a : Value, bindArgs fd ⟨[], ks.zip [a]⟩ = pure (ps.zip [a])) : KBinds K fd ps ks g2 g2 := by
  refine ⟨fun s us ws _ hl => ?_, g2_rel⟩
  rw [hp] at hl
  rcases us with _ | ⟨u, us⟩
  · rcases ws with _ | ⟨a, _ | ⟨b, _ | ⟨c, _ | ⟨d, _ | ⟨e, ws⟩⟩⟩⟩⟩
    · exact absurd hl (by simp [g2])
    · exact .of_eq (h a)
    · exact absurd hl (by simp [g2])
    · exact absurd hl (by simp [g2])
    · exact absurd hl (by simp [g2])
    · exact absurd hl (by simp [g2])
  · exact absurd hl (by simp [g2])
theorem kb3 {K : PySem.W.Frag} {fd : FuncData} {ps ks : List Str} (hp : ps.length = 3) (h : ∀ a b c : Value, bindArgs fd ⟨[], ks.zip [a, b, c]⟩ = pure (ps.zip [c, b, a])) : KBinds K fd ps ks g2 g2 := by
  refine ⟨fun s us ws _ hl => ?_, g2_rel⟩
  rw [hp] at hl
  rcases us with _ | ⟨u, us⟩
  · rcases ws with _ | ⟨a, _ | ⟨b, _ | ⟨c, _ | ⟨d, _ | ⟨e, ws⟩⟩⟩⟩⟩
    · exact absurd hl (by simp [g2])
    · exact absurd hl (by simp [g2])
    · exact absurd hl (by simp [g2])
    · exact .of_eq (h a b c)
    · exact absurd hl (by simp [g2])
    · exact absurd hl (by simp [g2])
  · exact absurd hl (by simp [g2])
theorem kb4 {K : PySem.W.Frag} {fd : FuncData} {ps ks : List Str} (hp : ps.length = 4) (h : ∀ a b c d : Value, bindArgs fd ⟨[], ks.zip [a, b, c, d]⟩ = pure (ps.zip [d, c, b, a])) : KBinds K fd ps ks g2 g2 := by
  refine ⟨fun s us ws _ hl => ?_, g2_rel⟩
  rw [hp] at hl
  rcases us with _ | ⟨u, us⟩
  · rcases ws with _ | ⟨a, _ | ⟨b, _ | ⟨c, _ | ⟨d, _ | ⟨e, ws⟩⟩⟩⟩⟩
    · exact absurd hl (by simp [g2])
    · exact absurd hl (by simp [g2])
    · exact absurd hl (by simp [g2])
    · exact absurd hl (by simp [g2])
    · exact .of_eq (h a b c d)
    · exact absurd hl (by simp [g2])
  · exact absurd hl (by simp [g2])
structure ClK (P : Program) (w : World) (K : PySem.W.Frag) (mg : Str → Option Value) (base : Heap) (k : Nat) (x : Str) (ps ks : List Str) (sp : Sp) : Prop where
  ex : ∃ (f : Addr) (fd : FuncData), FnOk P w K mg base CX0 k f fd ps sp ∧ mg x = some (.ref f) ∧ PySem.W.keepIn K (.ref f) = true ∧ KBinds K fd ps ks g2 g2
structure Dk (K : PySem.W.Frag) (mg : Str → Option Value) (x : String) (st : Stmt) (ps ks : List Str) : Prop where
  ex : ∃ (f : Addr) (fd : FuncData), Fun K x x st f fd ∧ mg x = some (.ref f) ∧ KBinds K fd ps ks g2 g2
section
variable {base : Heap} {P : Program} {w : World} {K : PySem.W.Frag} {mg : Str → Option Value}
theorem Dk.cl {x : String} {st : Stmt} {N ps ks : List Str} {k : Nat} {sp : Sp} (D : Dk K mg x st ps ks) (S : FnScope N ps (defScope st)) (len : ∀ vs H Q E, sp vs H Q E → vs.length = ps.length)
    (bd : ∀ (f : Addr) (cdv : Value) (A : Around) (fr : List Env) (s : Shared) (H : Hp) (vs : List V) (Q : VK) (E : XK), Room k (A.deeper (envOfC x (defScope st) s.heap.objs.size f cdv)) → sp vs H Q E →
      ∃ t, PSs (cxOf CX0 P w K mg base N x (defScope st) f cdv A fr s H E).nox (defBody st) t ∧ t { nx := fun _ H' => Q .non H', rt := Q } (start N vs) H) : ClK P w K mg base (k + 1) x ps ks sp := by
  obtain ⟨f, fd, F, hm, b⟩ := D.ex
  exact ⟨f, fd, F.ok S len (bd f), hm, F.kp, b⟩
end
section
variable {X : Cx} {k k' : Nat} {ps ks : List Str} {sp : Sp} {x : Str} {p pos : Pos} {kws : List Keyword} {tk : TA}
def tCallK0 (sp : Sp) (tk : TA) : TE := fun σ H Q => tk σ H fun zs H1 => sp (g2 [] zs) H1 Q (fun _ _ _ => False)
theorem pe_ck (C : ClK X.prog X.w X.K X.mg X.base k x ps ks sp) (hr : Room k' X.A) (hkw : PK X kws tk) (hg : Gl X x := by rfl) (hk : k ≤ k' := by decide) (hall : (backToKw pos (keywordEach kws X.env)).all (·.1.isSome) = true := by rfl) (hks : (backToKw pos (keywordEach kws X.env)).filterMap (·.1) = ks := by rfl)
    (hdb : (x == ("__debug__" : Str)) = false := by decide) (hpl : ((backTo pos (starEach [] X.env)).any (·.1) || (backToKw pos (keywordEach kws X.env)).any (·.1.isNone)) = false := by rfl) : PE X (.Call (.Name x p) [] kws pos) (tCallK0 sp tk) := by
  obtain ⟨f, fd, F, hm, kp, b⟩ := C.ex
  refine ⟨fun pins s σ H Q I h => ?_⟩
  refine wpAny_Call_Name_kw (ld_glob I hg hm ?_ hdb)
  refine PySem.W.callWith_KW0 (h₀ := X.base) I.ok.mod.kin kp hall (thn (hkw.run pos pins s σ H _ I h) fun ws s2 ⟨zs, H2, I2, rz, q2⟩ => ⟨I2.kIn, ?_⟩) hpl
  rw [hks]
  exact run_fnk F (hr.mono hk) b pass0 I2 .nil rz q2
end
end
section
open L2 PySem PySem.Spec PyProof.Rows
def NmR (r : Str × Str) : Prop := nmOk r.1 = true ∧ nmOk r.2 = true
theorem nm_size {z : Str} (h : nmOk z = true) : z.cps.size ≤ 8 := by
  obtain ⟨c, r, e, h7, _⟩ := nm_parts h
  rw [← Array.length_toList, e, List.length_cons]
  omega
theorem roads_data : ∀ l : List (Str × Str), (∀ r ∈ l, NmR r) → PyData.canLayAll0 (l.map roadD) = true ∧ PyData.showableAll (l.map roadD) = true ∧ PyData.hasDictAll (l.map roadD) = false ∧ PyData.depthAll (l.map roadD) ≤ 1 ∧
    PyData.weightAll (l.map roadD) ≤ 40 * l.length ∧ PyData.intsShortAll 13 (l.map roadD) = true ∧ noBAll (l.map roadD) = true
  | [], _ => ⟨rfl, rfl, rfl, Nat.zero_le _, Nat.le_refl _, rfl, rfl⟩
  | x :: l, h => by
    obtain ⟨a1, a2, a3, a4, a5, a6, a7⟩ := roads_data l fun r hr => h r (List.mem_cons_of_mem _ hr)
    obtain ⟨h1, h2⟩ := h x List.mem_cons_self
    have s1 := nm_size h1
    have s2 := nm_size h2
    refine ⟨?_, ?_, ?_, ?_, ?_, ?_, ?_⟩
    · show ((roadD x).canLay0 && PyData.canLayAll0 (l.map roadD)) = true
      rw [road_lay h1 h2, a1]
      rfl
    · show (true && PyData.showableAll (l.map roadD)) = true
      rw [a2]
      rfl
    · show (false || PyData.hasDictAll (l.map roadD)) = false
      rw [a3]
      rfl
    · show max (max 0 (max 0 0) + 1) (PyData.depthAll (l.map roadD)) ≤ 1
      omega
    · show (x.1.cps.size + 1 + (x.2.cps.size + 1 + 0)) + 1 + PyData.weightAll (l.map roadD) ≤ 40 * (l.length + 1)
      omega
    · show (true && PyData.intsShortAll 13 (l.map roadD)) = true
      rw [a6]
      rfl
    · show (true && noBAll (l.map roadD)) = true
      rw [a7]
      rfl
abbrev rsD (l : List (Str × Str)) : PyData := .tuple (l.map roadD)
theorem rs_shaped {l : List (Str × Str)} (h : ∀ r ∈ l, NmR r) : SeqAt.shaped (rsD l) = true := by
  obtain ⟨a1, _, _, a4, _⟩ := roads_data l h
  show (PyData.canLayAll0 (l.map roadD) && decide (PyData.depthAll (l.map roadD) + 1 ≤ 64)) = true
  rw [a1, decide_eq_true (by omega)]
  rfl
theorem road_shaped {r : Str × Str} (h : NmR r) : SeqAt.shaped (roadD r) = true := by
  show ((roadD r).canLay0 && true) = true
  rw [road_lay h.1 h.2]
  rfl
def swp (r : Str × Str) : Str × Str := (r.2, r.1)
theorem arr1_or (l : List Str) (r : Str × Str) : arr1 l r = r ∨ arr1 l r = swp r := by
  unfold arr1
  split
  · exact .inl rfl
  · exact .inr rfl
theorem sw_at {qs : List Str} {i : Nat} {x y : Str} (hx : qs[i]? = some x) (hy : qs[i + 1]? = some y) : sw qs i = qs.take i ++ y :: x :: qs.drop (i + 2) := by
  unfold sw
  rw [hx, hy]
theorem sw_perm {qs : List Str} {i : Nat} (hi : i + 1 < qs.length) : (sw qs i).Perm qs := by
  have hx : qs[i]? = some qs[i] := List.getElem?_eq_getElem (by omega)
  have hy : qs[i + 1]? = some qs[i + 1] := List.getElem?_eq_getElem hi
  rw [sw_at hx hy]
  have e : qs = qs.take i ++ qs[i] :: qs[i + 1] :: qs.drop (i + 2) := by
    conv => lhs; rw [← List.take_append_drop i qs]
    rw [List.drop_eq_getElem_cons (by omega : i < qs.length), List.drop_eq_getElem_cons (by omega : i + 1 < qs.length)]
  conv => rhs; rw [e]
  exact List.Perm.append_left _ (List.Perm.swap _ _ _)
end
section
open L2 PySem PySem.Spec PyProof.Rows
section
variable {σ : L2.St} {H : Hp} {Q : VK} {K : PySem.W.Frag} {te : TE}
theorem i_ck {sp : Sp} {tk : TA} (h : tk σ H fun zs H1 => sp (g2 [] zs) H1 Q (fun _ _ _ => False)) : tCallK0 sp tk σ H Q := h
theorem tup_parts {v : V} {ds : List PyData} (h : Dp K H v (.tuple ds)) : ∃ t xs, v = .ref t ∧ SqT K H t xs ∧ DpAll K H xs ds := by
  cases h with
  | tup s a => exact ⟨_, _, rfl, s, a⟩
theorem sqL_ch {H' : Hp} {a q : Addr} {xs : List V} (h : SqL K H a xs) (n : H q = none) (k : Ch q H H') : SqL K H' a xs := by
  rcases h with (e | ⟨o, e⟩) | e
  · exact .inl (.inl (k a _ (ne_of_none e n) e))
  · exact .inl (.inr ⟨o, k a _ (ne_of_none e n) e⟩)
  · exact .inr e
end
section
variable {qs ps : List Str} {rs : List (Str × Str)}
theorem arr_names (W : IsWeb ps rs) (qs : List Str) : ∀ r ∈ arr qs rs, NmR r := fun r hr => by
  obtain ⟨u, hu, rfl⟩ := List.mem_map.mp hr
  obtain ⟨h1, h2, _⟩ := W.ends u hu
  rcases arr1_or qs u with e | e <;> rw [e]
  · exact ⟨W.names.2 _ h1, W.names.2 _ h2⟩
  · exact ⟨W.names.2 _ h2, W.names.2 _ h1⟩
end
end
section
open L2 PySem PySem.Spec PyProof.Rows
section
variable {X : Cx} {σ : L2.St} {H : Hp} {Q : VK} {K : PySem.W.Frag} {g : TG} {tt : TT} {te : TE} {vs : List Nat} {a b : Addr} {R : It → Hp → Prop}
theorem kpi_zip {e e2 : Expr} {ta : TA} {p pos tpos : Pos} {elts : List Expr} {kk : Nat} (hm : X.mg "zip" = none) (ha : PA X [e, e2] ta) (hK : X.K = K := by rfl) (hg : Gl X "zip" := by rfl)
    (hs : starEach [e, e2] X.env = (false, eval e X.env) :: starEach [e2] X.env := by rfl) (hpl : (backTo pos (starEach [e2] X.env)).any (·.1) = false := by rfl) : PI X (.Tuple elts kk tpos) (.Call (.Name "zip" p) [e, e2] [] pos) (RZ.iZipA K ta) := by
  subst hK
  exact RZ.pi_zipA hg hm ha hs hpl
def zipK (K : PySem.W.Frag) (R : It → Hp → Prop) : List V → Hp → Prop := fun us H1 => ∃ a b xs ys, us = [.ref a, .ref b] ∧ ((SqL K H1 a xs ∧ SqL K H1 b ys ∧ R (Itz K a b) H1) ∨ (SqT K H1 a xs ∧ SqT K H1 b ys ∧ R (RZ.ItzT K a b) H1))
theorem i_zip {ta : TA} (h : ta σ H (zipK K R)) : RZ.iZipA K ta σ H R := h
theorem i_zipT {xs ys : List V} (ha : SqT K H a xs) (hb : SqT K H b ys) (h : R (RZ.ItzT K a b) H) : zipK K R [.ref a, .ref b] H := ⟨a, b, xs, ys, rfl, .inr ⟨ha, hb, h⟩⟩
theorem c_zip (xs ys : List V) (hl : xs.length = ys.length) (Pv : Addr → Nat → Hp → Prop) (h0 : ∀ D, H D = none → Pv D 0 (upd H D (.lst []))) (ha : ∀ D i H, Pv D i H → SqT K H a xs ∧ SqT K H b ys)
    (hs : ∀ D i x y H T, xs[i]? = some x → ys[i]? = some y → Pv D i H → H T = none → g (.ref T) (wipe σ vs) (upd H T (.tup [x, y])) fun σ2 H2 => wipe σ2 vs = wipe σ vs ∧ tt σ2 H2 fun c H3 => if c = true then te σ2 H3 (lcE D (Pv D (i + 1))) else Pv D (i + 1) H3)
    (hd : ∀ D H, Pv D xs.length H → Q (.ref D) H) : lcK g tt te vs σ Q (RZ.ItzT K a b) H := by
  intro D nD
  refine ⟨fun i m H => m = xs.length - i ∧ i ≤ xs.length ∧ Pv D i H, ⟨xs.length, by simp, Nat.zero_le _, h0 D nD⟩, ?_⟩
  rintro i m H ⟨rfl, hi, p⟩
  obtain ⟨qa, qb⟩ := ha D i H p
  by_cases lt : i < xs.length
  · have lt2 : i < ys.length := by omega
    refine .inr ⟨⟨xs, ys, xs[i], ys[i], qa, qb, by simp [lt], by simp [lt2]⟩, Pv D (i + 1), fun H' p' => ⟨xs.length - (i + 1), by omega, rfl, lt, p'⟩, fun v H' y => ?_⟩
    obtain ⟨T, x, z, rfl, nT, rfl, hx, hz⟩ := y
    exact hs D i x z H T (hx xs qa) (hz ys qb) p nT
  · have e : i = xs.length := by omega
    subst e
    exact .inl ⟨⟨xs, ys, qa, qb, .inl (Nat.le_refl _)⟩, hd D H p⟩
end
def spJoined (K : PySem.W.Frag) : Sp := fun vs H Q _ => ∃ (v : V) (x y : Str) (ps : List Str) (rs : List (Str × Str)), vs = [v, .str x, .str y] ∧ Dp K H v (webD ps rs) ∧ IsWeb ps rs ∧ x ∈ ps ∧ y ∈ ps ∧ ∀ H', Same H H' → Q (.bl (isRoad rs x y)) H'
def natsV (t : List Nat) : List V := t.map fun n => V.int ((n : Nat) : Int)
theorem hall_parts {K : PySem.W.Frag} {H : Hp} {v : V} {k : Nat} {ps : List Str} {rs : List (Str × Str)} {ds : List PyData} (h : Dp K H v (hallD k ps rs ds)) :
    ∃ (t : Addr) (wv : V) (tr : Addr) (us : List V), v = .ref t ∧ SqT K H t [.int k, wv, .ref tr] ∧ Dp K H wv (webD ps rs) ∧ SqT K H tr us ∧ DpAll K H us ds := by
  unfold hallD at h
  cases h with
  | tup s1 a1 =>
    cases a1 with
    | cons g1 g2 =>
      cases g1
      cases g2 with
      | cons g3 g4 =>
        cases g4 with
        | cons g5 g6 =>
          cases g6
          obtain ⟨tr, us, e, s2, a2⟩ := tup_parts g5
          subst e
          exact ⟨_, _, tr, us, rfl, s1, g3, s2, a2⟩
end
section
open L2 PySem PySem.Spec PyProof.Rows
section
variable {σ : L2.St} {H : Hp} {Q : VK} {K : PySem.W.Frag} {te : TE}
theorem k_catA {X : Cx} {K : PySem.W.Frag} (hK : X.K = K := by rfl) : OpR X (binaryOp .Add) (rCatA K) := by subst hK; exact op_catA
theorem i_catA {a b : Addr} {xs ys : List V} (e : SqT K H a xs) (e2 : SqT K H b ys) (ne : ys ≠ []) (z : xs.length + ys.length ≤ sizeLine) (h : ∀ p H', Same H H' → SqT K H' p (xs ++ ys) → Q (.ref p) H') : rCatA K (.ref a) (.ref b) H Q := by
  refine ⟨a, b, xs, ys, rfl, rfl, e, e2, z, fun hx => ?_, fun hx hy => absurd hy ne, fun hx hy p np => ?_⟩
  · subst hx
    exact h b H (Same.refl _) e2
  · exact h p _ (Same.upd_new np) (sq_tup upd_same)
end
def numN (k : Nat) (t : List Nat) : Nat := t.foldl (fun m o => m * k + o) 0
theorem numN_snoc (k : Nat) (s : List Nat) (o : Nat) : numN k (s ++ [o]) = numN k s * k + o := by
  unfold numN
  rw [List.foldl_append]
  rfl
def intsI (s : List Nat) : List Int := s.map fun n => ((n : Nat) : Int)
end
section
open L2 PySem PySem.Spec PyProof.Rows
def iD (n : Nat) : PyData := .int ((n : Nat) : Int)
theorem small_all : ∀ n : Fin 300, ((iD n.1).canLay0 && decide ((iD n.1).weight ≤ 10) && PyData.intsShort 13 (iD n.1) && (iD n.1).showable) = true := by decide +kernel
theorem small_int {n : Nat} (h : n < 300) : (iD n).canLay0 = true ∧ (iD n).weight ≤ 10 ∧ PyData.intsShort 13 (iD n) = true ∧ (iD n).showable = true := by
  have := small_all ⟨n, h⟩
  simp only [Bool.and_eq_true, decide_eq_true_eq] at this
  exact ⟨this.1.1.1, this.1.1.2, this.1.2, this.2⟩
theorem ints_data : ∀ l : List Nat, (∀ n ∈ l, n < 300) → PyData.canLayAll0 (l.map iD) = true ∧ PyData.showableAll (l.map iD) = true ∧ PyData.hasDictAll (l.map iD) = false ∧ PyData.depthAll (l.map iD) = 0 ∧
    PyData.weightAll (l.map iD) ≤ 11 * l.length ∧ PyData.intsShortAll 13 (l.map iD) = true ∧ noBAll (l.map iD) = true
  | [], _ => ⟨rfl, rfl, rfl, rfl, Nat.le_refl _, rfl, rfl⟩
  | x :: l, h => by
    obtain ⟨a1, a2, a3, a4, a5, a6, a7⟩ := ints_data l fun r hr => h r (List.mem_cons_of_mem _ hr)
    obtain ⟨b1, b2, b3, b4⟩ := small_int (h x List.mem_cons_self)
    refine ⟨?_, ?_, ?_, ?_, ?_, ?_, ?_⟩
    · show ((iD x).canLay0 && PyData.canLayAll0 (l.map iD)) = true
      rw [b1, a1]
      rfl
    · show ((iD x).showable && PyData.showableAll (l.map iD)) = true
      rw [b4, a2]
      rfl
    · show (false || PyData.hasDictAll (l.map iD)) = false
      rw [a3]
      rfl
    · show max 0 (PyData.depthAll (l.map iD)) = 0
      omega
    · show (iD x).weight + 1 + PyData.weightAll (l.map iD) ≤ 11 * (l.length + 1)
      omega
    · show (PyData.intsShort 13 (iD x) && PyData.intsShortAll 13 (l.map iD)) = true
      rw [b3, a6]
      rfl
    · show (true && noBAll (l.map iD)) = true
      rw [a7]
      rfl
abbrev liD (l : List Nat) : PyData := .list (l.map iD)
theorem li_shaped {l : List Nat} (h : ∀ n ∈ l, n < 300) : SeqAt.shaped (liD l) = true := by
  obtain ⟨a1, _, _, a4, _⟩ := ints_data l h
  show (PyData.canLayAll0 (l.map iD) && decide (PyData.depthAll (l.map iD) + 1 ≤ 64)) = true
  rw [a1, decide_eq_true (by omega)]
  rfl
theorem LsD.same {K : PySem.W.Frag} {H H' : Hp} {D : Addr} {ds : List PyData} (h : LsD K H D ds) (k : Same H H') : LsD K H' D ds := let ⟨vs, e, d, t⟩ := h; ⟨vs, k _ _ e, DpAll.same k _ _ d, t⟩
theorem fold_lt {k : Nat} : ∀ (t : List Nat) (m : Nat), (∀ x ∈ t, x < k) → t.foldl (fun m o => m * k + o) m < (m + 1) * k ^ t.length
  | [], m, _ => by simp
  | x :: r, m, h => by
    have hx := h x List.mem_cons_self
    have ih := fold_lt r (m * k + x) fun y hy => h y (List.mem_cons_of_mem _ hy)
    have : (m * k + x + 1) * k ^ r.length ≤ ((m + 1) * k) * k ^ r.length := Nat.mul_le_mul_right _ (by rw [Nat.succ_mul]; omega)
    rw [List.length_cons, Nat.pow_succ, Nat.mul_comm (k ^ r.length) k, ← Nat.mul_assoc]
    exact Nat.lt_of_lt_of_le ih this
theorem num_lt {k : Nat} {t : List Nat} (h : ∀ x ∈ t, x < k) : numN k t < k ^ t.length := by
  have := fold_lt t 0 h
  rw [Nat.zero_add, Nat.one_mul] at this
  exact this
theorem cut_take {xs : List V} {k : Nat} : cutV xs none (some (k : Int)) = xs.take k := by
  unfold cutV
  rw [HT.sIx_none, HT.sIx_nat, List.drop_zero, Nat.sub_zero]
  by_cases z : k ≤ xs.length
  · rw [Nat.min_eq_left z]
  · rw [Nat.min_eq_right (by omega), List.take_of_length_le (Nat.le_refl _), List.take_of_length_le (by omega)]
theorem dp_nts {K : PySem.W.Frag} {H : Hp} : ∀ t : List Nat, DpAll K H (natsV t) (t.map iD)
  | [] => .nil
  | x :: r => .cons (.int _) (dp_nts r)
end
section
open L2 PySem PySem.Spec PyProof.Rows
section
variable {K : PySem.W.Frag} {H H' : Hp} {a : Addr} {c : Int} {v : V} {k : Nat} {ps : List Str} {rs : List (Str × Str)} {ds : List PyData}
def WF (K : PySem.W.Frag) (H : Hp) (v : V) (ps : List Str) (rs : List (Str × Str)) : Prop := ∃ (t tp tr : Addr), v = .ref t ∧ SqT K H t [.ref tp, .ref tr] ∧ FT H tp (ps.map V.str) ∧ Dp K H (.ref tr) (.tuple (rs.map roadD))
theorem WF.dp (h : WF K H v ps rs) : Dp K H v (webD ps rs) := by
  obtain ⟨t, tp, tr, rfl, s, f, d⟩ := h
  exact .tup s (.cons (.tup f.sq (DpAll.strs ps)) (.cons d .nil))
theorem WF.same (h : WF K H v ps rs) (s : Same H H') : WF K H' v ps rs := by
  obtain ⟨t, tp, tr, rfl, q, f, d⟩ := h
  exact ⟨t, tp, tr, rfl, TK.same s _ _ q, f.same s, Dp.same s _ _ d⟩
theorem WF.ch (h : WF K H v ps rs) (s : Ch a H H') (f : Fd H a c) : WF K H' v ps rs := by
  obtain ⟨t, tp, tr, rfl, q, g, d⟩ := h
  have tk := TK.ch (K := K) s f
  exact ⟨t, tp, tr, rfl, tk _ _ q, g.ch s f, Dp.tk tk _ _ (roads_only rs) d⟩
def HF (K : PySem.W.Frag) (H : Hp) (v : V) (k : Nat) (ps : List Str) (rs : List (Str × Str)) (ds : List PyData) : Prop := ∃ (t T : Addr) (wv : V), v = .ref t ∧ SqT K H t [.int k, wv, .ref T] ∧ WF K H wv ps rs ∧ Dp K H (.ref T) (.tuple ds) ∧ tupOnlyAll ds = true
theorem HF.dp (h : HF K H v k ps rs ds) : Dp K H v (hallD k ps rs ds) := by
  obtain ⟨t, T, wv, rfl, s, w, d, _⟩ := h
  exact .tup s (.cons (.int _) (.cons w.dp (.cons d .nil)))
theorem HF.same (h : HF K H v k ps rs ds) (s : Same H H') : HF K H' v k ps rs ds := by
  obtain ⟨t, T, wv, rfl, q, w, d, u⟩ := h
  exact ⟨t, T, wv, rfl, TK.same s _ _ q, w.same s, Dp.same s _ _ d, u⟩
end
def spWebF (K : PySem.W.Frag) : Sp := fun vs H Q _ => ∃ (a : Addr) (way : Str) (most c : Int), vs = [.ref a, .str way, .int most] ∧ Fd H a c ∧ 1 ≤ most ∧ most ≤ 8 ∧ c < 10 ^ 13 ∧
  ∀ (v : V) (ps : List Str) (rs : List (Str × Str)) (H' : Hp), IsWeb ps rs → (ps.length : Int) ≤ max 3 most → WF K H' v ps rs → Fd H' a (c + 10000) → Ch a H H' → Q v H'
end
section
open L2 PySem PySem.Spec PyProof.Rows
def minN : List Nat → Nat
  | [] => 0
  | x :: r => r.foldl min x
def maxN : List Nat → Nat
  | [] => 0
  | x :: r => r.foldl max x
theorem fold_min (r : List Nat) (x : Nat) : (r.foldl min x ∈ x :: r) ∧ ∀ y ∈ x :: r, r.foldl min x ≤ y := by
  induction r generalizing x with
  | nil => exact ⟨by simp, fun y hy => by rw [List.mem_singleton.mp hy]; exact Nat.le_refl _⟩
  | cons z r ih =>
    obtain ⟨h1, h2⟩ := ih (min x z)
    show (r.foldl min (min x z) ∈ x :: z :: r) ∧ ∀ y ∈ x :: z :: r, r.foldl min (min x z) ≤ y
    refine ⟨?_, fun y hy => ?_⟩
    · rcases List.mem_cons.mp h1 with e | e
      · rw [e]
        rcases Nat.le_total x z with q | q
        · rw [Nat.min_eq_left q]; simp
        · rw [Nat.min_eq_right q]; simp
      · exact List.mem_cons_of_mem _ (List.mem_cons_of_mem _ e)
    · have h3 := h2 (min x z) List.mem_cons_self
      rcases List.mem_cons.mp hy with rfl | hy
      · omega
      · rcases List.mem_cons.mp hy with rfl | hy
        · omega
        · exact h2 y (List.mem_cons_of_mem _ hy)
theorem fold_max (r : List Nat) (x : Nat) : (r.foldl max x ∈ x :: r) ∧ ∀ y ∈ x :: r, y ≤ r.foldl max x := by
  induction r generalizing x with
  | nil => exact ⟨by simp, fun y hy => by rw [List.mem_singleton.mp hy]; exact Nat.le_refl _⟩
  | cons z r ih =>
    obtain ⟨h1, h2⟩ := ih (max x z)
    show (r.foldl max (max x z) ∈ x :: z :: r) ∧ ∀ y ∈ x :: z :: r, y ≤ r.foldl max (max x z)
    refine ⟨?_, fun y hy => ?_⟩
    · rcases List.mem_cons.mp h1 with e | e
      · rw [e]
        rcases Nat.le_total x z with q | q
        · rw [Nat.max_eq_right q]; simp
        · rw [Nat.max_eq_left q]; simp
      · exact List.mem_cons_of_mem _ (List.mem_cons_of_mem _ e)
    · have h3 := h2 (max x z) List.mem_cons_self
      rcases List.mem_cons.mp hy with rfl | hy
      · omega
      · rcases List.mem_cons.mp hy with rfl | hy
        · omega
        · exact h2 y (List.mem_cons_of_mem _ hy)
theorem min_is {s : List Nat} (h : s ≠ []) : minN s ∈ s ∧ ∀ y ∈ s, minN s ≤ y := by
  cases s with
  | nil => exact absurd rfl h
  | cons x r => exact fold_min r x
theorem max_is {s : List Nat} (h : s ≠ []) : maxN s ∈ s ∧ ∀ y ∈ s, y ≤ maxN s := by
  cases s with
  | nil => exact absurd rfl h
  | cons x r => exact fold_max r x
def tabIx (k : Nat) (ss : List Nat) : Nat := ss.reverse.foldl (fun i s => i * k + s) 0
theorem tabIx_eq (k : Nat) (ss : List Nat) : tabIx k ss = numN k ss.reverse := rfl
theorem tabIx_lt {k : Nat} {ss : List Nat} (h : ∀ s ∈ ss, s < k) : tabIx k ss < k ^ ss.length := by
  rw [tabIx_eq, ← List.length_reverse]
  exact num_lt fun x hx => h x (List.mem_reverse.mp hx)
def natOf : PyData → Nat
  | .int i => i.toNat
  | _ => 0
def tupOf : PyData → List PyData
  | .tuple l => l
  | _ => []
def nextV (k : Nat) (near : List Str) : PyData → List Nat → Nat
  | .tuple [.str s], ss => if s = "keep" then ss.headD 0 else if s = "least" then minN ss else if s = "greatest" then maxN ss else ss.sum % k
  | .tuple [.str s, .tuple ts], ss => if s = "table" then natOf (ts.getD (tabIx k ss) .none) else natOf ((tupOf (ts.getD (ss.headD 0) .none)).getD ss.tail.sum .none)
  | .tuple [.str _, .int n], ss => if n ≤ ((ss.tail.filter fun s => decide (s ≠ 0)).length : Int) then 1 else 0
  | .tuple [.str _, .str z], ss => ss.tail.getD (near.idxOf z) 0
  | _, _ => 0
section
variable (k : Nat) (near : List Str) (ss : List Nat)
theorem nextV_keep : nextV k near (.tuple [.str "keep"]) ss = ss.headD 0 := by
  simp only [nextV]
  rw [if_pos trivial]
theorem nextV_least : nextV k near (.tuple [.str "least"]) ss = minN ss := by
  simp only [nextV]
  rw [if_neg (by decide), if_pos trivial]
theorem nextV_greatest : nextV k near (.tuple [.str "greatest"]) ss = maxN ss := by
  simp only [nextV]
  rw [if_neg (by decide), if_neg (by decide), if_pos trivial]
theorem nextV_odd : nextV k near (.tuple [.str "odd"]) ss = ss.sum % k := by
  simp only [nextV]
  rw [if_neg (by decide), if_neg (by decide), if_neg (by decide)]
theorem nextV_table (t : List Nat) : nextV k near (.tuple [.str "table", intsD t]) ss = t.getD (tabIx k ss) 0 := by
  unfold intsD
  simp only [nextV]
  rw [if_pos trivial, List.getD_eq_getElem?_getD, List.getElem?_map, List.getD_eq_getElem?_getD]
  cases t[tabIx k ss]? <;> rfl
theorem nextV_sum (ts : List (List Nat)) (o : Nat) (r : List Nat) : nextV k near (.tuple [.str "sum", .tuple (ts.map intsD)]) (o :: r) = (ts.getD o []).getD r.sum 0 := by
  simp only [nextV, List.headD_cons, List.tail_cons]
  rw [if_neg (by decide), List.getD_eq_getElem?_getD (l := ts.map intsD), List.getElem?_map, List.getD_eq_getElem?_getD (l := ts)]
  cases ts[o]? with
  | none => rfl
  | some t =>
    show natOf ((t.map fun n => PyData.int ((n : Nat) : Int)).getD r.sum .none) = t.getD r.sum 0
    rw [List.getD_eq_getElem?_getD, List.getElem?_map, List.getD_eq_getElem?_getD]
    cases t[r.sum]? <;> rfl
end
def spTabIx (K : PySem.W.Frag) : Sp := fun vs H Q _ => ∃ (L : Addr) (k : Nat) (ss : List Nat), vs = [.int k, .ref L] ∧ SqL K H L (natsV ss) ∧ k ≤ 3 ∧ ∀ H', Same H H' → Q (.int (tabIx k ss : Nat)) H'
def spNext (K : PySem.W.Frag) : Sp := fun vs H Q _ => ∃ (v : V) (d : PyData) (p L : Addr) (k : Nat) (near : List Str) (ss : List Nat), vs = [v, .int k, .ref p, .ref L] ∧ Dp K H v d ∧ RuleD k near d ∧ FT H p (near.map V.str) ∧ near.Nodup ∧ SqL K H L (natsV ss) ∧ ss.length = near.length + 1 ∧ (∀ s ∈ ss, s < k) ∧ 2 ≤ k ∧ k ≤ 3 ∧ near.length ≤ 7 ∧
  ∀ H', Same H H' → Q (.int (nextV k near d ss : Nat)) H'
section
variable {K : PySem.W.Frag} {H : Hp} {Q : VK}
theorem k_minL {X : Cx} {K : PySem.W.Frag} (hc : X.calm = true) (hK : X.K = K := by rfl) : CallR X (.builtin "min") (L2.rMin K) := by subst hK; exact cr_min hc
theorem k_maxL {X : Cx} {K : PySem.W.Frag} (hc : X.calm = true) (hK : X.K = K := by rfl) : CallR X (.builtin "max") (L2.rMax K) := by subst hK; exact cr_max hc
theorem k_revL {X : Cx} {K : PySem.W.Frag} {e : Expr} {te : TE} {k : Nat} {p1 p2 p3 pos : Pos} (he : PE X e te) (hK : X.K = K := by rfl) : PE X (.Subscript e (.Slice none none (some (.UnaryOp .USub (.Constant (.int 1) k p1) p2)) p3) pos) (tRevL K te) := by subst hK; exact pe_revL he
theorem i_revL {σ : L2.St} {te : TE} (h : te σ H fun x H1 => ∃ a xs, x = .ref a ∧ SqL K H1 a xs ∧ ∀ p, H1 p = none → Q (.ref p) (upd H1 p (.lst xs.reverse))) : tRevL K te σ H Q := h
theorem k_sumL {X : Cx} {K : PySem.W.Frag} (hc : X.calm = true) (hK : X.K = K := by rfl) : CallR X (.builtin "sum") (rSum K) := by subst hK; exact cr_sum hc
theorem nats_int (ss : List Nat) : natsV ss = (intsI ss).map V.int := by
  unfold natsV intsI
  rw [List.map_map]
  rfl
theorem i_minL {a : Addr} {ss : List Nat} (e : SqL K H a (natsV ss)) (ne : ss ≠ []) (h : Q (.int (minN ss : Nat)) H) : L2.rMin K [.ref a] H Q := by
  obtain ⟨h1, h2⟩ := min_is ne
  refine ⟨a, intsI ss, rfl, by rw [← nats_int]; exact e, by unfold intsI; rw [List.length_map]; exact List.length_pos_iff.mpr ne, fun m hm hle => ?_⟩
  obtain ⟨x, hx, rfl⟩ := List.mem_map.mp hm
  have h3 : (x : Int) ≤ (minN ss : Nat) := hle _ (List.mem_map.mpr ⟨_, h1, rfl⟩)
  have h4 := h2 x hx
  rw [show x = minN ss by omega]
  exact h
theorem i_maxL {a : Addr} {ss : List Nat} (e : SqL K H a (natsV ss)) (ne : ss ≠ []) (h : Q (.int (maxN ss : Nat)) H) : L2.rMax K [.ref a] H Q := by
  obtain ⟨h1, h2⟩ := max_is ne
  refine ⟨a, intsI ss, rfl, by rw [← nats_int]; exact e, by unfold intsI; rw [List.length_map]; exact List.length_pos_iff.mpr ne, fun m hm hle => ?_⟩
  obtain ⟨x, hx, rfl⟩ := List.mem_map.mp hm
  have h3 : ((maxN ss : Nat) : Int) ≤ x := hle _ (List.mem_map.mpr ⟨_, h1, rfl⟩)
  have h4 := h2 x hx
  rw [show x = maxN ss by omega]
  exact h
theorem sum_nats (ss : List Nat) : (intsI ss).sum = ((ss.sum : Nat) : Int) := by
  induction ss with
  | nil => rfl
  | cons x r ih =>
    show ((x : Int) + (intsI r).sum) = (((x + r.sum : Nat)) : Int)
    rw [ih]
    omega
theorem i_sumN {a : Addr} {ss : List Nat} (e : SqL K H a (natsV ss)) (h : Q (.int ((ss.sum : Nat) : Int)) H) : rSum K [.ref a] H Q := by
  refine i_sum (ns := intsI ss) (by rw [← nats_int]; exact e) ?_
  rw [sum_nats]
  exact h
end
end
section
open L2 PySem PySem.Spec PyProof.Rows
def seenL (ps : List Str) (rs : List (Str × Str)) (z : Str) : List Nat := ps.idxOf z :: (nearL ps rs z).map fun y => ps.idxOf y
def ownV (k : Nat) (ps : List Str) (rs : List (Str × Str)) (ds : List PyData) (t : List Nat) (z : Str) : Nat := nextV k (nearL ps rs z) (ds.getD (ps.idxOf z) .none) ((seenL ps rs z).map fun i => t.getD i 0)
def stepN (k : Nat) (ps : List Str) (rs : List (Str × Str)) (ds : List PyData) (t : List Nat) (z : Str) : List Nat := t.set (ps.idxOf z) (ownV k ps rs ds t z)
def dayN (k : Nat) (ps : List Str) (rs : List (Str × Str)) (ds : List PyData) (t : List Nat) (qs : List Str) : List Nat := qs.foldl (stepN k ps rs ds) t
theorem step_len {k : Nat} {ps : List Str} {rs : List (Str × Str)} {ds : List PyData} {t : List Nat} {z : Str} : (stepN k ps rs ds t z).length = t.length := by
  unfold stepN
  rw [List.length_set]
theorem next_lt {k : Nat} {near : List Str} {d : PyData} {ss : List Nat} (hR : RuleD k near d) (hk : 2 ≤ k) (hl : ss.length = near.length + 1) (hs : ∀ s ∈ ss, s < k) : nextV k near d ss < k := by
  obtain ⟨own, oth, rfl⟩ : ∃ own oth, ss = own :: oth := by
    cases ss with
    | nil => simp at hl
    | cons x r => exact ⟨x, r, rfl⟩
  cases hR with
  | keep => rw [nextV_keep]; exact hs own List.mem_cons_self
  | least => rw [nextV_least]; exact hs _ (min_is (by simp)).1
  | greatest => rw [nextV_greatest]; exact hs _ (max_is (by simp)).1
  | odd => rw [nextV_odd]; exact Nat.mod_lt _ (by omega)
  | table t ht h =>
    have hlt := tabIx_lt hs
    rw [hl, ← ht] at hlt
    rw [nextV_table, List.getD_eq_getElem?_getD, List.getElem?_eq_getElem hlt]
    exact h _ (List.getElem_mem hlt)
  | sum ts ht h =>
    rw [nextV_sum]
    by_cases ho : own < ts.length
    · rw [List.getD_eq_getElem?_getD (l := ts), List.getElem?_eq_getElem ho, Option.getD_some, List.getD_eq_getElem?_getD]
      cases e : ts[own][oth.sum]? with
      | none => show 0 < k; omega
      | some x => exact (h _ (List.getElem_mem ho)).2 x (List.mem_of_getElem? e)
    · rw [List.getD_eq_getElem?_getD (l := ts), List.getElem?_eq_none (by omega)]
      show 0 < k
      omega
  | most n h =>
    show (if _ then 1 else 0) < k
    split <;> omega
  | copy z h =>
    show oth.getD (near.idxOf z) 0 < k
    rw [List.getD_eq_getElem?_getD]
    cases e : oth[near.idxOf z]? with
    | none => show 0 < k; omega
    | some x => exact hs x (List.mem_cons_of_mem _ (List.mem_of_getElem? e))
theorem getD_lt {k : Nat} {t : List Nat} (hk : 0 < k) (h : ∀ x ∈ t, x < k) (i : Nat) : t.getD i 0 < k := by
  rw [List.getD_eq_getElem?_getD]
  cases e : t[i]? with
  | none => exact hk
  | some x => exact h x (List.mem_of_getElem? e)
theorem own_lt {k : Nat} {ps : List Str} {rs : List (Str × Str)} {ds : List PyData} {t : List Nat} {z : Str} (hH : IsHall k ps rs ds) (hz : z ∈ ps) (h : ∀ x ∈ t, x < k) : ownV k ps rs ds t z < k := by
  have hk : 2 ≤ k := by rcases hH.two with e | e <;> omega
  have lt := List.idxOf_lt_length_iff.mpr hz
  have hd : ds.getD (ps.idxOf z) .none = ds[ps.idxOf z]'(by rw [hH.len]; exact lt) := by
    rw [List.getD_eq_getElem?_getD, List.getElem?_eq_getElem (by rw [hH.len]; exact lt)]
    rfl
  unfold ownV
  rw [hd]
  refine next_lt (hH.rules (ps.idxOf z) z _ (idx_first hz).1 (List.getElem?_eq_getElem _)) hk (by unfold seenL; simp) fun s hs => ?_
  obtain ⟨i, _, rfl⟩ := List.mem_map.mp hs
  exact getD_lt (by omega) h i
theorem step_lt {k : Nat} {ps : List Str} {rs : List (Str × Str)} {ds : List PyData} {t : List Nat} {z : Str} (hH : IsHall k ps rs ds) (hz : z ∈ ps) (h : ∀ x ∈ t, x < k) : ∀ x ∈ stepN k ps rs ds t z, x < k := by
  intro x hx
  unfold stepN at hx
  rcases List.mem_or_eq_of_mem_set hx with q | q
  · exact h x q
  · rw [q]
    exact own_lt hH hz h
def spLooks (K : PySem.W.Frag) : Sp := fun vs H Q _ => ∃ (v : V) (z : Str) (ps : List Str) (rs : List (Str × Str)), vs = [v, .int (ps.idxOf z : Nat)] ∧ WF K H v ps rs ∧ IsWeb ps rs ∧ z ∈ ps ∧
  ∀ T p L H', Same H H' → SqT K H' T [.ref p, .ref L] → FT H' p ((nearL ps rs z).map V.str) → SqL K H' L (natsV (seenL ps rs z)) → Q (.ref T) H'
def spStepped (K : PySem.W.Frag) : Sp := fun vs H Q _ => ∃ (v : V) (s : Addr) (z : Str) (k : Nat) (ps : List Str) (rs : List (Str × Str)) (ds : List PyData) (t : List Nat), vs = [v, .ref s, .str z] ∧ HF K H v k ps rs ds ∧ IsHall k ps rs ds ∧ SqT K H s (natsV t) ∧ t.length = ps.length ∧ (∀ x ∈ t, x < k) ∧ z ∈ ps ∧
  ∀ p H', Same H H' → SqT K H' p (natsV (stepN k ps rs ds t z)) → Q (.ref p) H'
def spPassed (K : PySem.W.Frag) : Sp := fun vs H Q _ => ∃ (v : V) (o s : Addr) (qs : List Str) (k : Nat) (ps : List Str) (rs : List (Str × Str)) (ds : List PyData) (t : List Nat), vs = [v, .ref o, .ref s] ∧ HF K H v k ps rs ds ∧ IsHall k ps rs ds ∧ SqT K H o (qs.map V.str) ∧ qs.Perm ps ∧ SqT K H s (natsV t) ∧ t.length = ps.length ∧ (∀ x ∈ t, x < k) ∧
  ∀ p H', Same H H' → SqT K H' p (natsV (dayN k ps rs ds t qs)) → Q (.ref p) H'
theorem i_catB {K : PySem.W.Frag} {H : Hp} {Q : VK} {a b : Addr} {xs ys : List V} (e : SqT K H a xs) (e2 : SqT K H b ys) (ne : xs ≠ []) (z : xs.length + ys.length ≤ sizeLine) (h : ∀ p H', Same H H' → SqT K H' p (xs ++ ys) → Q (.ref p) H') : rCatA K (.ref a) (.ref b) H Q := by
  refine ⟨a, b, xs, ys, rfl, rfl, e, e2, z, fun hx => absurd hx ne, fun hx hy => ?_, fun hx hy p np => ?_⟩
  · subst hy
    exact h a H (Same.refl _) (by rw [List.append_nil]; exact e)
  · exact h p _ (Same.upd_new np) (sq_tup upd_same)
theorem cut_all {xs : List V} {lo hi : Option Int} (h : HT.sIx xs.length 0 lo = 0 ∧ HT.sIx xs.length xs.length hi = xs.length) : cutV xs lo hi = xs := by
  unfold cutV
  rw [h.1, h.2, List.drop_zero, Nat.sub_zero, List.take_of_length_le (Nat.le_refl _)]
theorem i_slG {K : PySem.W.Frag} {H : Hp} {Q : VK} {p : Addr} {xs : List V} {lo hi : Option Int} (e : SqT K H p xs) (h : ∀ p' H', Same H H' → SqT K H' p' (cutV xs lo hi) → Q (.ref p') H') : rSlA K (.ref p) lo hi H Q :=
  ⟨p, xs, rfl, e, fun hf => h p H (Same.refl _) (by rw [cut_all hf]; exact e), fun _ p' np' => h p' _ (Same.upd_new np') (sq_tup upd_same)⟩
theorem nats_set {t : List Nat} {i x : Nat} (h : i < t.length) : (natsV t).take i ++ [V.int (x : Int)] ++ (natsV t).drop (i + 1) = natsV (t.set i x) := by
  unfold natsV
  rw [List.set_eq_take_append_cons_drop, if_pos h, List.map_append, List.map_cons, List.map_take, List.map_drop, List.append_assoc]
  rfl
end
section
open L2 PySem PySem.Spec PyProof.Rows
section
variable {k : Nat} {ps : List Str} {rs : List (Str × Str)} {ds : List PyData} {t : List Nat}
theorem idx_inj {x y : Str} (hx : x ∈ ps) (hy : y ∈ ps) (e : ps.idxOf x = ps.idxOf y) : x = y := by
  have a := (idx_first hx).1
  have b := (idx_first hy).1
  rw [e, b] at a
  exact (Option.some.inj a).symm
theorem road_sym (x y : Str) : isRoad rs x y = isRoad rs y x := by
  unfold isRoad
  rw [Bool.or_comm]
theorem day_app (t : List Nat) (a b : List Str) : dayN k ps rs ds t (a ++ b) = dayN k ps rs ds (dayN k ps rs ds t a) b := List.foldl_append
end
def spLNext (K : PySem.W.Frag) : Sp := fun vs H Q _ => ∃ (v : V) (s : Addr) (z : Str) (k : Nat) (ps : List Str) (rs : List (Str × Str)) (ds : List PyData) (t : List Nat), vs = [v, .ref s, .str z] ∧ HF K H v k ps rs ds ∧ IsHall k ps rs ds ∧ SqT K H s (natsV t) ∧ t.length = ps.length ∧ (∀ x ∈ t, x < k) ∧ z ∈ ps ∧
  ∀ H', Same H H' → Q (.int (ownV k ps rs ds t z : Nat)) H'
end
section
open L2 PySem PySem.Spec PyProof.Rows
theorem rising_all : ∀ (l : List Str) (p : Str), risingS p l = true → (∀ y ∈ l, ¬ y.cps.toList < p.cps.toList) ∧ sortedS l = true
  | [], _, _ => ⟨fun _ h => absurd h List.not_mem_nil, rfl⟩
  | x :: r, p, h => by
    have h' : (!ltCps x.cps.toList p.cps.toList && risingS x r) = true := h
    rw [Bool.and_eq_true, PyProof.Rows.ltCps_eq, Bool.not_eq_true', decide_eq_false_iff_not] at h'
    obtain ⟨a1, _⟩ := rising_all r x h'.2
    refine ⟨fun y hy => ?_, h'.2⟩
    rcases List.mem_cons.mp hy with rfl | hy
    · exact h'.1
    · intro c
      have h1 := a1 y hy
      exact absurd c (List.not_lt.mpr (List.le_trans (List.not_lt.mp h'.1) (List.not_lt.mp h1)))
theorem sorted_head {x : Str} {r : List Str} (h : sortedS (x :: r) = true) : (∀ y ∈ r, ¬ y.cps.toList < x.cps.toList) ∧ sortedS r = true := rising_all r x h
theorem str_anti {x y : Str} (a : ¬ x.cps.toList < y.cps.toList) (b : ¬ y.cps.toList < x.cps.toList) : x = y :=
  str_ext (List.le_antisymm (List.not_lt.mp b) (List.not_lt.mp a))
theorem sorted_one : ∀ {a b : List Str}, a.Perm b → sortedS a = true → sortedS b = true → a = b
  | [], b, p, _, _ => (List.Perm.nil_eq p)
  | x :: r, [], p, _, _ => absurd p.length_eq (by simp)
  | x :: r, y :: s, p, ha, hb => by
    obtain ⟨a1, a2⟩ := sorted_head ha
    obtain ⟨b1, b2⟩ := sorted_head hb
    have e : x = y := by
      by_cases e : x = y
      · exact e
      · have hx : x ∈ s := by
          rcases List.mem_cons.mp (p.mem_iff.mp List.mem_cons_self) with q | q
          · exact absurd q e
          · exact q
        have hy : y ∈ r := by
          rcases List.mem_cons.mp (p.mem_iff.mpr List.mem_cons_self) with q | q
          · exact absurd q.symm e
          · exact q
        exact str_anti (b1 x hx) (a1 y hy)
    subst e
    rw [sorted_one ((List.perm_cons x).mp p) a2 b2]
abbrev tsD (l : List Str) : PyData := .tuple (l.map .str)
theorem ins_shaped {t : List Nat} (h : ∀ n ∈ t, n < 300) : SeqAt.shaped (intsD t) = true := by
  obtain ⟨a1, _, _, a4, _⟩ := ints_data t h
  show (PyData.canLayAll0 (t.map iD) && decide (PyData.depthAll (t.map iD) + 1 ≤ 64)) = true
  rw [a1, decide_eq_true (by omega)]
  rfl
theorem map_int_inj {l m : List Nat} (e : l.map (fun n => PyData.int ((n : Nat) : Int)) = m.map (fun n => PyData.int ((n : Nat) : Int))) : l = m := by
  induction l generalizing m with
  | nil =>
    cases m with
    | nil => rfl
    | cons y s => simp at e
  | cons x r ih =>
    cases m with
    | nil => simp at e
    | cons y s =>
      rw [List.map_cons, List.map_cons] at e
      injection e with e1 e2
      injection e1 with e3
      rw [Int.ofNat.inj e3, ih e2]
theorem st_dp {K : PySem.W.Frag} {H : Hp} {p : Addr} {t : List Nat} (h : SqT K H p (natsV t)) : Dp K H (.ref p) (intsD t) := .tup h (dp_nts t)
theorem Fd.same {H H' : Hp} {a : Addr} {c : Int} (h : Fd H a c) (s : Same H H') : Fd H' a c := let ⟨x, y, n, h1, h2⟩ := h; ⟨x, y, n, s _ _ h1, h2⟩
theorem i_neB {i j : Bool} {H : Hp} {Q : VK} (h : Q (.bl (!decide (i = j))) H) : rNe (.bl i) (.bl j) H Q := ⟨rfl, by
  have e : (!decide (V.bl i = V.bl j)) = (!decide (i = j)) := by
    by_cases z : i = j
    · subst z
      simp
    · rw [decide_eq_false z, decide_eq_false (fun c => z (by injection c))]
  rw [e]
  exact h⟩
end
section
open L2 PySem PySem.Spec PyProof.Rows
theorem k_reprB {X : Cx} : CallR X (.builtin "repr") (fun xs H Q => ∃ b, xs = [.bl b] ∧ Q (.str (if b then "True" else "False")) H) := by
  intro pins s σ H xs us Q I r h
  obtain ⟨b, rfl, q⟩ := h
  obtain ⟨u, rfl, t, rfl⟩ := vals1 r
  exact PySem.P.repr_of_bool ⟨.str _, H, I.tok _, ⟨_, rfl⟩, q⟩
end
section
open L2 PySem PySem.Spec PyProof.Rows
structure GA (ds : List PyData) (w p : Nat) : Prop where
  lay : PyData.canLayAll0 ds = true
  sho : PyData.showableAll ds = true
  dct : PyData.hasDictAll ds = false
  dep : PyData.depthAll ds ≤ p
  wei : PyData.weightAll ds ≤ w
  sml : PyData.intsShortAll 13 ds = true
end
section
open L2 PySem PySem.Spec PyProof.Rows
section
variable {k : Nat} {ps : List Str} {rs : List (Str × Str)} {ds : List PyData}
theorem day_lt (hH : IsHall k ps rs ds) : ∀ (ord : List Str) (t : List Nat), (∀ z ∈ ord, z ∈ ps) → (∀ x ∈ t, x < k) → ∀ x ∈ dayN k ps rs ds t ord, x < k
  | [], _, _, h => h
  | z :: r, t, ho, h => day_lt hH r _ (fun y hy => ho y (List.mem_cons_of_mem _ hy)) (step_lt hH (ho z List.mem_cons_self) h)
end
end
section
open L2 PySem PySem.Spec PyProof.Rows
open PySem PySem.W PySem.Spec PyProof.Rows L2
section
variable {prog : Program} {w : World} {A : Around} {E : Value → Shared → Prop} {s : Shared}
theorem lk {b : Nat} (k m : Nat) (h : k < m) : b + k < b + m := by omega
theorem ltn {a b : Nat} (k : Nat) (h : a < b) : a ≠ b + k := by omega
end
end
section
open L2 PySem PySem.Spec PyProof.Rows
theorem k_notInS {X : Cx} {K : PySem.W.Frag} (hK : X.K = K := by rfl) : OpR X (compareOp .NotIn) (rIn K true) := by subst hK; exact op_notIn_seq
theorem hu1 {k : Nat} {A : Around} (r : Room k A) : A.units + 1 < cLine := by have := r.units; omega
end
section
open L2 PySem PySem.Spec PyProof.Rows
theorem at_last {α : Type} (xs : List α) (y : α) : atI (xs ++ [y]) (-1) = some y := by
  have h : ixN (xs ++ [y]).length (-1) = some xs.length := by
    unfold ixN
    rw [if_neg (by decide), List.length_append, List.length_singleton, if_pos (by omega)]
    congr 1
    omega
  unfold atI
  rw [h]
  show (xs ++ [y])[xs.length]? = some y
  simp
end
section
open L2 PySem PySem.Spec PyProof.Rows
theorem i_catG {K : PySem.W.Frag} {H : Hp} {Q : VK} {a b : Addr} {xs ys : List V} (e : SqT K H a xs) (e2 : SqT K H b ys) (z : xs.length + ys.length ≤ sizeLine) (h : ∀ p H', Same H H' → SqT K H' p (xs ++ ys) → Q (.ref p) H') : rCatA K (.ref a) (.ref b) H Q := by
  refine ⟨a, b, xs, ys, rfl, rfl, e, e2, z, fun hx => ?_, fun _ hy => ?_, fun _ _ p np => h p _ (Same.upd_new np) (sq_tup upd_same)⟩
  · subst hx
    exact h b H (Same.refl _) e2
  · subst hy
    exact h a H (Same.refl _) (by rw [List.append_nil]; exact e)
end
section
open L2 PySem PySem.Spec PyProof.Rows
theorem k_indexD {X : Cx} {K : PySem.W.Frag} (hu : X.A.units + 65 < cLine) (hK : X.K = K := by rfl) : MtR X "list.index" (rIndexD K) := by
  subst hK
  exact mt_indexD hu
theorem k_bm {X : Cx} {K : PySem.W.Frag} {o e : Expr} {es : List Expr} {to : TE} {t : TA} {name : Str} {apos cpos : Pos} {T id : String} {r : V → List V → Hp → VK → Prop} (pa : PlainAttrs T) (slot : Slot T name id) (hty : typeOf (.builtin id) = pure (.type "method_descriptor")) (hm : MtR X id r) (ho : PE X o to) (ha : PA X (e :: es) t)
    (hbase : attributeBase o name X.env (eval o X.env) = eval o X.env := by rfl)
    (hfew : ((backTo cpos (starEach (e :: es) X.env)).all (fun x => !x.1) && (backToKw cpos (keywordEach [] X.env)).all (fun x => x.1.isSome)
      && decide ((e :: es).length + ([] : List Keyword).length + (if ([] : List Keyword).isEmpty then 0 else 1) < 30)) = true := by rfl)
    (hline : (apos.endLine == cpos.line) = true := by rfl) (hs : starEach (e :: es) X.env = (false, eval e X.env) :: starEach es X.env := by rfl) (hplain : (backTo cpos (starEach es X.env)).any (·.1) = false := by rfl) (hK : X.K = K := by rfl) :
    PE X (.Call (.Attribute o name apos) (e :: es) [] cpos) (tBM K T r to t) := by
  subst hK
  exact pe_bm pa slot hty hm ho ha hbase hfew hline hs hplain
theorem hu65 {k : Nat} {A : Around} (r : Room k A) : A.units + 65 < cLine := by have := r.un; omega
theorem li_eqd {a b : List Nat} (ha : ∀ n ∈ a, n < 300) (hb : ∀ n ∈ b, n < 300) : PyData.eqv (liD a) (liD b) = decide (a = b) := by
  obtain ⟨_, _, _, _, _, _, a7⟩ := ints_data a ha
  obtain ⟨_, _, _, _, _, _, b7⟩ := ints_data b hb
  have q := eqv_dec (liD a) (liD b) a7 b7
  by_cases k : a = b
  · subst k
    rw [decide_eq_true rfl, q.mpr rfl]
  · rw [decide_eq_false k]
    cases z : PyData.eqv (liD a) (liD b) with
    | false => rfl
    | true =>
      have := q.mp z
      injection this with e
      exact absurd (map_int_inj e) k
theorem ints_inj {t u : List Nat} (e : intsD t = intsD u) : t = u := by
  unfold intsD at e
  injection e with e
  exact map_int_inj e
theorem nats_len (l : List Nat) : (natsV l).length = l.length := List.length_map ..
theorem nts_dp {K : PySem.W.Frag} {H : Hp} {M : Addr} {l : List Nat} (h : H M = some (.lst (natsV l))) : Dp K H (.ref M) (liD l) := .lst (sq_lst h) (dp_nts l)
section
variable {k : Nat} {ps : List Str} {rs : List (Str × Str)} {ds : List PyData} {ord : List Str}
theorem take_push {α : Type} {l : List α} {i : Nat} {x : α} (h : l[i]? = some x) : l.take (i + 1) = l.take i ++ [x] := by
  rw [List.take_add_one, h]
  rfl
end
end
section
open L2 PySem PySem.Spec PyProof.Rows
theorem i_catL {l b : Addr} {xs zs : List V} {H : Hp} {Q : VK} (e1 : H l = some (.lst xs)) (e2 : H b = some (.lst zs)) (z : xs.length + zs.length ≤ sizeLine) (h : ∀ p, H p = none → Q (.ref p) (upd H p (.lst (xs ++ zs)))) : rCat (.ref l) (.ref b) H Q := ⟨l, b, xs, zs, rfl, rfl, e1, e2, z, h⟩
def Sf (H : Hp) (p : Addr) : Prop := (∀ xs, H p ≠ some (.tup xs)) ∧ ∀ ob u, H p ≠ some (.frz ob u)
theorem sf_lst {H : Hp} {p : Addr} {xs : List V} (e : H p = some (.lst xs)) : Sf H p := ⟨fun ys c => (by rw [e] at c; cases c), fun ob u c => (by rw [e] at c; cases c)⟩
section
variable {K : PySem.W.Frag} {H H' : Hp} {p : Addr}
theorem tk_sf (k : Ch p H H') (s : Sf H p) : TK K H H' := TK.of_at (fun b xs e => k b _ (fun z => s.1 xs (z ▸ e)) e) (fun b ob xs e => k b _ (fun z => s.2 ob _ (z ▸ e)) e)
theorem ft_sf {q : Addr} {xs : List V} (h : FT H q xs) (k : Ch p H H') (s : Sf H p) : FT H' q xs := by
  obtain ⟨ob, e, o⟩ := h
  exact ⟨ob, k _ _ (fun z => s.2 ob _ (z ▸ e)) e, o⟩
theorem wf_sf {v : V} {ps : List Str} {rs : List (Str × Str)} (h : WF K H v ps rs) (k : Ch p H H') (s : Sf H p) : WF K H' v ps rs := by
  obtain ⟨t, tp, tr, e, h1, h2, h3⟩ := h
  exact ⟨t, tp, tr, e, tk_sf k s _ _ h1, ft_sf h2 k s, Dp.tk (tk_sf k s) _ _ (by show tupOnlyAll (rs.map roadD) = true; exact roads_only rs) h3⟩
theorem fd_sf {a : Addr} {c : Int} (h : Fd H a c) (k : Ch p H H') (n : a ≠ p) : Fd H' a c := by
  obtain ⟨x, y, m, e, r⟩ := h
  exact ⟨x, y, m, k _ _ n e, r⟩
end
end
section
open L2 PySem PySem.Spec PyProof.Rows
theorem nd_le {α : Type} [DecidableEq α] : ∀ (L ns : List α), L.Nodup → (∀ x ∈ L, x ∈ ns) → L.length ≤ ns.length
  | [], _, _, _ => Nat.zero_le _
  | x :: L, ns, nd, h => by
    obtain ⟨n1, n2⟩ := List.nodup_cons.mp nd
    have hx := h x List.mem_cons_self
    have := nd_le L (ns.erase x) n2 (fun y hy => (List.mem_erase_of_ne (fun e => n1 (by rw [← e]; exact hy))).mpr (h y (List.mem_cons_of_mem _ hy)))
    rw [List.length_erase_of_mem hx] at this
    have := List.length_pos_of_mem hx
    rw [List.length_cons]
    omega
theorem not_nd {α : Type} [DecidableEq α] : ∀ (l : List α), ¬ l.Nodup → ∃ x ∈ l, x ∈ l.erase x
  | [], h => absurd List.nodup_nil h
  | a :: r, h => by
    by_cases m : a ∈ r
    · exact ⟨a, List.mem_cons_self, by rw [List.erase_cons_head]; exact m⟩
    · obtain ⟨x, hx, hy⟩ := not_nd r (fun z => h (List.nodup_cons.mpr ⟨m, z⟩))
      have ne : a ≠ x := fun e => m (e ▸ hx)
      exact ⟨x, List.mem_cons_of_mem _ hx, by rw [List.erase_cons_tail (by simp [ne])]; exact List.mem_cons_of_mem _ hy⟩
theorem nd_eq {α : Type} [DecidableEq α] {L ns : List α} (nd : L.Nodup) (h : ∀ x, x ∈ L ↔ x ∈ ns) : L.length ≤ ns.length ∧ (L.length = ns.length ↔ ns.Nodup) := by
  refine ⟨nd_le L ns nd fun x hx => (h x).mp hx, fun e => Classical.byContradiction fun c => ?_, fun z => Nat.le_antisymm (nd_le L ns nd fun x hx => (h x).mp hx) (nd_le ns L z fun x hx => (h x).mpr hx)⟩
  obtain ⟨x, hx, hy⟩ := not_nd ns c
  have := nd_le L (ns.erase x) nd fun y hy2 => by
    by_cases e : y = x
    · rw [e]; exact hy
    · exact (List.mem_erase_of_ne e).mpr ((h y).mp hy2)
  rw [List.length_erase_of_mem hx] at this
  have := List.length_pos_of_mem hx
  omega
end
section
open L2 PySem PySem.Spec PyProof.Rows
def freeAt (rs : List (Str × Str)) (qs : List Str) (i : Nat) : Bool := match qs[i]?, qs[i + 1]? with
  | some x, some y => !isRoad rs x y
  | _, _ => false
def swapsL (rs : List (Str × Str)) (qs : List Str) : List Nat := (List.range (qs.length - 1)).filter (freeAt rs qs)
def okP (rs : List (Str × Str)) : List Str → List Nat → Prop
  | _, [] => True
  | qs, i :: p => freeAt rs qs i = true ∧ okP rs (sw qs i) p
def goP (qs : List Str) (p : List Nat) : List Str := p.foldl sw qs
section
variable {rs : List (Str × Str)} {ps qs os : List Str} {i a : Nat}
theorem free_iff : freeAt rs qs i = true ↔ ∃ x y, qs[i]? = some x ∧ qs[i + 1]? = some y ∧ isRoad rs x y = false := by
  unfold freeAt
  cases hx : qs[i]? with
  | none => simp
  | some x =>
    cases hy : qs[i + 1]? with
    | none => simp
    | some y => simp
theorem free_lt (h : freeAt rs qs i = true) : i + 1 < qs.length := by
  obtain ⟨x, y, _, hy, _⟩ := free_iff.mp h
  exact (List.getElem?_eq_some_iff.mp hy).1
theorem mem_swaps : i ∈ swapsL rs qs ↔ freeAt rs qs i = true := by
  unfold swapsL
  rw [List.mem_filter, List.mem_range]
  exact ⟨fun h => h.2, fun h => ⟨by have := free_lt h; omega, h⟩⟩
theorem free_perm (h : freeAt rs qs i = true) : (sw qs i).Perm qs := sw_perm (free_lt h)
theorem goP_app (p r : List Nat) : goP qs (p ++ r) = goP (goP qs p) r := List.foldl_append
theorem okP_app : ∀ (p r : List Nat) (qs : List Str), okP rs qs (p ++ r) ↔ okP rs qs p ∧ okP rs (goP qs p) r
  | [], r, qs => ⟨fun h => ⟨trivial, h⟩, fun h => h.2⟩
  | i :: p, r, qs => by
    show (freeAt rs qs i = true ∧ okP rs (sw qs i) (p ++ r)) ↔ (freeAt rs qs i = true ∧ okP rs (sw qs i) p) ∧ okP rs (goP (sw qs i) p) r
    rw [okP_app p r (sw qs i), and_assoc]
theorem goP_perm : ∀ (p : List Nat) (qs : List Str), okP rs qs p → (goP qs p).Perm qs
  | [], _, _ => List.Perm.refl _
  | i :: p, qs, h => (goP_perm p (sw qs i) h.2).trans (free_perm h.1)
end
end
section
open L2 PySem PySem.Spec PyProof.Rows
theorem map_road_inj : ∀ {l m : List (Str × Str)}, l.map roadD = m.map roadD → l = m
  | [], [], _ => rfl
  | [], _ :: _, e => by cases e
  | _ :: _, [], e => by cases e
  | x :: l, y :: m, e => by
    rw [List.map_cons, List.map_cons] at e
    injection e with e1 e2
    simp only [roadD, PyData.tuple.injEq, List.cons.injEq, PyData.str.injEq, and_true] at e1
    rw [Prod.ext e1.1 e1.2, map_road_inj e2]
theorem rs_eqd {l m : List (Str × Str)} (h : ∀ r ∈ l, NmR r) (g : ∀ r ∈ m, NmR r) : PyData.eqv (rsD l) (rsD m) = decide (l = m) := by
  obtain ⟨_, _, _, _, _, _, a7⟩ := roads_data l h
  obtain ⟨_, _, _, _, _, _, b7⟩ := roads_data m g
  have q := eqv_dec (rsD l) (rsD m) a7 b7
  by_cases k : l = m
  · subst k
    rw [decide_eq_true rfl, q.mpr rfl]
  · rw [decide_eq_false k]
    cases z : PyData.eqv (rsD l) (rsD m) with
    | false => rfl
    | true =>
      have := q.mp z
      injection this with e
      exact absurd (map_road_inj e) k
def spNeedTwo (K : PySem.W.Frag) : Sp := fun vs H Q _ => ∃ (v : V) (o o2 : Addr) (qs qs2 ps : List Str) (rs : List (Str × Str)), vs = [v, .ref o, .ref o2] ∧ Dp K H v (webD ps rs) ∧ IsWeb ps rs ∧ SqT K H o (qs.map V.str) ∧ qs.Perm ps ∧ SqT K H o2 (qs2.map V.str) ∧ qs2.Perm ps ∧ ∀ H', Same H H' → Q .non H'
def spApart (K : PySem.W.Frag) : Sp := fun vs H Q _ => ∃ (v : V) (x y : Str) (ps : List Str) (rs : List (Str × Str)), vs = [v, .str x, .str y] ∧ Dp K H v (webD ps rs) ∧ IsWeb ps rs ∧ x ∈ ps ∧ y ∈ ps ∧ ∀ H', Same H H' → Q (.bl (!isRoad rs x y)) H'
def spSwaps (K : PySem.W.Frag) : Sp := fun vs H Q _ => ∃ (v : V) (o : Addr) (qs ps : List Str) (rs : List (Str × Str)), vs = [v, .ref o] ∧ Dp K H v (webD ps rs) ∧ IsWeb ps rs ∧ SqT K H o (qs.map V.str) ∧ qs.Perm ps ∧ ∀ D H', H D = none → Same H H' → H' D = some (.lst (natsV (swapsL rs qs))) → Q (.ref D) H'
def spLike (K : PySem.W.Frag) : Sp := fun vs H Q _ => ∃ (a : Addr) (v : V) (o : Addr) (n : Nat) (qs ps : List Str) (rs : List (Str × Str)) (c : Int), vs = [.ref a, v, .ref o, .int n] ∧ Fd H a c ∧ c < 10 ^ 12 ∧ n ≤ 100 ∧ Dp K H v (webD ps rs) ∧ IsWeb ps rs ∧ FT H o (qs.map V.str) ∧ qs.Perm ps ∧
  ∀ T L o' p H', H L = none → SqT K H' T [.ref L, .ref o'] → H' L = some (.lst (natsV p)) → okP rs qs p → p.length ≤ n → FT H' o' ((goP qs p).map V.str) → Fd H' a (c + 1000) → Ch a H H' → Q (.ref T) H'
def spSecond (K : PySem.W.Frag) : Sp := fun vs H Q _ => ∃ (a : Addr) (v : V) (o : Addr) (qs ps : List Str) (rs : List (Str × Str)) (c : Int), vs = [.ref a, v, .ref o] ∧ Fd H a c ∧ c < 10 ^ 11 ∧ Dp K H v (webD ps rs) ∧ IsWeb ps rs ∧ FT H o (qs.map V.str) ∧ qs.Perm ps ∧
  ∀ o' (q2 : List Str) H', q2.Perm ps → FT H' o' (q2.map V.str) → Fd H' a (c + 5000) → Ch a H H' → Q (.ref o') H'
end
section
open L2 PySem PySem.Spec PyProof.Rows
mutual
def nkOf : PyData → NestedKey
  | .int i => .num i
  | .str x => .text x
  | .tuple ds => .tup (nkAll ds)
  | .none => .none
  | .bool b => .num (if b = true then 1 else 0)
  | .list _ => .none
  | .dict _ => .none
def nkAll : List PyData → List NestedKey
  | [] => []
  | d :: ds => nkOf d :: nkAll ds
end
abbrev DnL := List (NestedKey × Addr × V)
def arrK (l : List (Str × Str)) : NestedKey := nkOf (rsD l)
end
section
open L2 PySem PySem.Spec PyProof.Rows
def tTruth (K : PySem.W.Frag) (ta : TE) : TT := fun σ H Q => ta σ H fun x H' => ∃ k, TruV K x H' k ∧ Q k H'
theorem k_truth {X : Cx} {K : PySem.W.Frag} {a : Expr} {ta : TE} (ha : PE X a ta) (he : ∀ whole, isTrue a X.env whole = (do let v ← whole; standAt a.pos; holding [v] (truthy v))) (hK : X.K = K := by rfl) : PT X a (tTruth K ta) := by
  subst hK
  exact pt_truth ha he
section
variable {σ : L2.St} {H : Hp} {Q : VK} {QB : Bool → Hp → Prop} {K : PySem.W.Frag} {g : TG} {tt : TT} {te tk tv : TE} {vs : List Nat} {a : Addr}
theorem i_truth {ta : TE} (h : ta σ H fun x H' => ∃ k, TruV K x H' k ∧ QB k H') : tTruth K ta σ H QB := h
end
end
section
open L2 PySem PySem.Spec PyProof.Rows
mutual
inductive Ob (K : PySem.W.Frag) (H : Hp) (a : Addr) : V → PyData → Prop
  | non : Ob K H a .non .none
  | bl (b : Bool) : Ob K H a (.bl b) (.bool b)
  | int (i : Int) : Ob K H a (.int i) (.int i)
  | str (x : Str) : Ob K H a (.str x) (.str x)
  | lst {p : Addr} {xs : List V} {ds : List PyData} : H p = some (.lst xs) → p ≠ a → ObAll K H a xs ds → Ob K H a (.ref p) (.list ds)
  | tup {p : Addr} {xs : List V} {ds : List PyData} : SqT K H p xs → ObAll K H a xs ds → Ob K H a (.ref p) (.tuple ds)
  | dic {p : Addr} : H p = some (.dK []) → p ≠ a → Ob K H a (.ref p) (.dict [])
inductive ObAll (K : PySem.W.Frag) (H : Hp) (a : Addr) : List V → List PyData → Prop
  | nil : ObAll K H a [] []
  | cons {v : V} {vs : List V} {d : PyData} {ds : List PyData} : Ob K H a v d → ObAll K H a vs ds → ObAll K H a (v :: vs) (d :: ds)
end
section
variable {K : PySem.W.Frag} {H H' : Hp} {a : Addr}
mutual
theorem Ob.go (t : TK K H H') (k : ∀ p o, p ≠ a → H p = some o → H' p = some o) : ∀ (d : PyData) (v : V), Ob K H a v d → Ob K H' a v d
  | .none, _, h => by cases h; exact .non
  | .bool b, _, h => by cases h; exact .bl b
  | .int i, _, h => by cases h; exact .int i
  | .str x, _, h => by cases h; exact .str x
  | .list ds, _, h => by
    cases h with
    | lst e n al => exact .lst (k _ _ n e) n (ObAll.go t k ds _ al)
  | .tuple ds, _, h => by
    cases h with
    | tup s al => exact .tup (t _ _ s) (ObAll.go t k ds _ al)
  | .dict _, _, h => by
    cases h with
    | dic e n => exact .dic (k _ _ n e) n
theorem ObAll.go (t : TK K H H') (k : ∀ p o, p ≠ a → H p = some o → H' p = some o) : ∀ (ds : List PyData) (vs : List V), ObAll K H a vs ds → ObAll K H' a vs ds
  | [], _, h => by cases h; exact .nil
  | d :: ds, _, h => by
    cases h with
    | cons h1 h2 => exact .cons (Ob.go t k d _ h1) (ObAll.go t k ds _ h2)
end
theorem Ob.same {v : V} {d : PyData} (h : Ob K H a v d) (k : Same H H') : Ob K H' a v d := Ob.go (TK.same k) (fun p o _ e => k p o e) d v h
theorem ObAll.same {vs : List V} {ds : List PyData} (h : ObAll K H a vs ds) (k : Same H H') : ObAll K H' a vs ds := ObAll.go (TK.same k) (fun p o _ e => k p o e) ds vs h
mutual
theorem Ob.of : ∀ (d : PyData) (v : V), tupOnly d = true → Dp K H v d → Ob K H a v d
  | .none, _, _, h => by cases h; exact .non
  | .bool b, _, _, h => by cases h; exact .bl b
  | .int i, _, _, h => by cases h; exact .int i
  | .str x, _, _, h => by cases h; exact .str x
  | .list ds, _, t, h => by cases t
  | .tuple ds, _, t, h => by
    cases h with
    | tup s al => exact .tup s (ObAll.of ds _ t al)
  | .dict _, _, t, h => by cases t
theorem ObAll.of : ∀ (ds : List PyData) (vs : List V), tupOnlyAll ds = true → DpAll K H vs ds → ObAll K H a vs ds
  | [], _, _, h => by cases h; exact .nil
  | d :: ds, _, t, h => by
    have t' : (tupOnly d && tupOnlyAll ds) = true := t
    rw [Bool.and_eq_true] at t'
    cases h with
    | cons h1 h2 => exact .cons (Ob.of d _ t'.1 h1) (ObAll.of ds _ t'.2 h2)
end
theorem ObAll.len : ∀ {vs : List V} {ds : List PyData}, ObAll K H a vs ds → vs.length = ds.length
  | _, _, .nil => rfl
  | _, _, .cons _ t => congrArg Nat.succ (ObAll.len t)
theorem ObAll.get : ∀ {vs : List V} {ds : List PyData} {i : Nat} {v : V}, ObAll K H a vs ds → vs[i]? = some v → ∃ d, ds[i]? = some d ∧ Ob K H a v d
  | _, _, i, _, .nil, e => by simp at e
  | _, _, 0, _, .cons h _, e => by
    have := Option.some.inj e
    subst this
    exact ⟨_, rfl, h⟩
  | _, _, i + 1, _, .cons _ t, e => ObAll.get (i := i) t e
end
def tyN : PyData → String
  | .none => "NoneType"
  | .bool _ => "bool"
  | .int _ => "int"
  | .str _ => "str"
  | .list _ => "list"
  | .tuple _ => "tuple"
  | .dict _ => "dict"
def isI : PyData → Bool
  | .int _ => true
  | _ => false
def isIB : PyData → Bool
  | .int _ => true
  | .bool _ => true
  | _ => false
def isBo : PyData → Bool
  | .bool _ => true
  | _ => false
def isT : PyData → Bool
  | .tuple _ => true
  | _ => false
def isS : PyData → Bool
  | .str _ => true
  | _ => false
section
variable {K : PySem.W.Frag} {H : Hp} {a : Addr} {v : V} {d : PyData} {Q : VK}
theorem Ob.ty (h : Ob K H a v d) : TyX K H v (.type (tyN d)) := by
  cases h with
  | non => exact .base .non
  | bl b => exact .base (.bl b)
  | int i => exact .base (.int i)
  | str x => exact .base (.str x)
  | lst e n al => exact .base (.lst e)
  | tup s al => exact ty_tup s
  | dic e n => exact .base (.dK e)
theorem is_intO (h : Ob K H a v d) (q : Q (.bl (isIB d)) H) : rIsi K [v, .ty "int"] H Q := i_isi h.ty (by cases h <;> first | exact (by decide +kernel : kitB "NoneType" "int" = some false) | exact (by decide +kernel : kitB "bool" "int" = some true) | exact (by decide +kernel : kitB "int" "int" = some true) | exact (by decide +kernel : kitB "str" "int" = some false) | exact (by decide +kernel : kitB "list" "int" = some false) | exact (by decide +kernel : kitB "tuple" "int" = some false) | exact (by decide +kernel : kitB "dict" "int" = some false)) q
theorem is_boolO (h : Ob K H a v d) (q : Q (.bl (isBo d)) H) : rIsi K [v, .ty "bool"] H Q := i_isi h.ty (by cases h <;> first | exact (by decide +kernel : kitB "NoneType" "bool" = some false) | exact (by decide +kernel : kitB "bool" "bool" = some true) | exact (by decide +kernel : kitB "int" "bool" = some false) | exact (by decide +kernel : kitB "str" "bool" = some false) | exact (by decide +kernel : kitB "list" "bool" = some false) | exact (by decide +kernel : kitB "tuple" "bool" = some false) | exact (by decide +kernel : kitB "dict" "bool" = some false)) q
theorem is_tupO (h : Ob K H a v d) (q : Q (.bl (isT d)) H) : rIsi K [v, .ty "tuple"] H Q := i_isi h.ty (by cases h <;> first | exact (by decide +kernel : kitB "NoneType" "tuple" = some false) | exact (by decide +kernel : kitB "bool" "tuple" = some false) | exact (by decide +kernel : kitB "int" "tuple" = some false) | exact (by decide +kernel : kitB "str" "tuple" = some false) | exact (by decide +kernel : kitB "list" "tuple" = some false) | exact (by decide +kernel : kitB "tuple" "tuple" = some true) | exact (by decide +kernel : kitB "dict" "tuple" = some false)) q
theorem is_strO (h : Ob K H a v d) (q : Q (.bl (isS d)) H) : rIsi K [v, .ty "str"] H Q := i_isi h.ty (by cases h <;> first | exact (by decide +kernel : kitB "NoneType" "str" = some false) | exact (by decide +kernel : kitB "bool" "str" = some false) | exact (by decide +kernel : kitB "int" "str" = some false) | exact (by decide +kernel : kitB "str" "str" = some true) | exact (by decide +kernel : kitB "list" "str" = some false) | exact (by decide +kernel : kitB "tuple" "str" = some false) | exact (by decide +kernel : kitB "dict" "str" = some false)) q
end
section
variable {X : Cx} {pins : List (Addr × Obj)} {σ : L2.St} {H : Hp} {s : Shared} {a : Addr}
mutual
theorem Ob.reads (I : Inv X pins σ H s) : ∀ (d : PyData) (v : V) (u : Value), Ob X.K H a v d → RelV v u → ∃ as, Reads s.heap u d as ∧ (∀ kvs, d = .dict kvs → sysModules ∉ as)
  | .none, _, _, h, r => by
    cases h
    cases r
    exact ⟨_, .none, fun _ c => by cases c⟩
  | .bool b, _, _, h, r => by
    cases h
    cases r
    exact ⟨_, .bool b, fun _ c => by cases c⟩
  | .int i, _, _, h, r => by
    cases h
    obtain ⟨t, rfl⟩ := r
    exact ⟨_, .int i t, fun _ c => by cases c⟩
  | .str x, _, _, h, r => by
    cases h
    obtain ⟨t, rfl⟩ := r
    exact ⟨_, .str x t, fun _ c => by cases c⟩
  | .list ds, _, _, h, r => by
    cases h with
    | lst e n al =>
      cases r
      obtain ⟨its, rv, ⟨o, m, ho, hc, _, hd⟩, _⟩ := I.list (sq_lst e)
      obtain ⟨as, hr⟩ := ObAll.reads I ds _ its al rv
      exact ⟨_, .list ho hc hd hr, fun _ c => by cases c⟩
  | .tuple ds, _, _, h, r => by
    cases h with
    | tup s al =>
      cases r
      obtain ⟨its, rv, ⟨o, ho, hc, m, hd⟩, _⟩ := I.tuple s
      obtain ⟨as, hr⟩ := ObAll.reads I ds _ its al rv
      exact ⟨_, .tuple ho hc hd hr, fun _ c => by cases c⟩
  | .dict _, _, _, h, r => by
    cases h with
    | dic e n =>
      cases r
      obtain ⟨hz, hS, vs, rk, o, es, ep, h1, h2, h3, _, h4, _⟩ := (show ObjOk X.prog X.w H s.heap _ (.dK []) from I.hok _ _ e)
      cases rk
      have e0 : es.toList = [] := by
        generalize es.toList = l at h4
        cases l with
        | nil => rfl
        | cons x r => cases h4
      refine ⟨_, .dict (as := []) (bs := []) (kvs := []) h1 h2.1 h3 (by rw [e0]; exact .nil) (by rw [e0]; exact .nil), fun _ _ c => ?_⟩
      simp only [List.append_nil, List.mem_singleton] at c
      rw [← c] at hS
      simp at hS
theorem ObAll.reads (I : Inv X pins σ H s) : ∀ (ds : List PyData) (vs : List V) (us : List Value), ObAll X.K H a vs ds → Vals vs us → ∃ as, ReadsAll s.heap us ds as
  | [], _, _, h, r => by
    cases h
    cases r
    exact ⟨_, .nil⟩
  | d :: ds, _, _, h, r => by
    cases h with
    | cons h1 h2 =>
      cases r with
      | cons r1 r2 =>
        obtain ⟨as, q1, _⟩ := Ob.reads I d _ _ h1 r1
        obtain ⟨bs, q2⟩ := ObAll.reads I ds _ _ h2 r2
        exact ⟨_, .cons q1 q2⟩
end
end
def shO : PyData → Str
  | .none => "None"
  | .bool b => if b then "True" else "False"
  | .int i => toString i
  | .str x => reprText x
  | d => d.shown
structure ShO (d : PyData) : Prop where
  int_ : ∀ i, d = .int i → i.natAbs.log2 < 1920
  str_ : ∀ x, d = .str x → (reprText x).length ≤ sizeLine
  sho : d.showable = true
  dct : d.hasDict = false ∨ d = .dict []
  dep : d.depth ≤ 40
  len : d.shown.length ≤ sizeLine
def rShowO (K : PySem.W.Frag) : List V → Hp → VK → Prop := fun xs H Q => ∃ (x : V) (d : PyData) (a : Addr), xs = [x] ∧ Ob K H a x d ∧ ShO d ∧ Q (.str (shO d)) H
theorem k_showO {X : Cx} {K : PySem.W.Frag} (hg : X.A.guards = some []) (hu : X.A.units + 64 < cLine) (hK : X.K = K := by rfl) : CallR X (.builtin "repr") (rShowO K) := by
  subst hK
  intro pins s σ H xs us Q I r h
  obtain ⟨x, d, a, rfl, hd, hs, q⟩ := h
  match us, r with
  | [u], .cons ru .nil =>
    obtain ⟨as, rd, hno⟩ := Ob.reads I d _ u hd ru
    have hdep := hs.dep
    have hns : d.hasDict = true → sysModules ∉ as := fun z => by
      rcases hs.dct with c | c
      · rw [c] at z; cases z
      · exact hno _ c
    cases hd with
    | non =>
      cases ru
      exact PySem.P.repr_of_none ⟨.str "None", H, I.tok _, ⟨_, rfl⟩, q⟩
    | bl b =>
      cases ru
      exact PySem.P.repr_of_bool ⟨.str _, H, I.tok _, ⟨_, rfl⟩, q⟩
    | int i =>
      obtain ⟨t, rfl⟩ := ru
      exact PySem.P.repr_of_int (hs.int_ i rfl) ⟨.str _, H, I.tok _, ⟨_, rfl⟩, q⟩
    | str z =>
      obtain ⟨t, rfl⟩ := ru
      exact PySem.P.repr_of_str ⟨.str _, H, I.tok _, ⟨_, rfl⟩, q⟩ (hs.str_ z rfl)
    | lst e n al =>
      obtain rfl : u = Value.ref _ := ru
      exact repr_of_reads' rd hs.sho hns hg (by omega) (fun b o e => e) (fun h' t tk k => ⟨.str _, H, I.kept k, ⟨t, rfl⟩, q⟩) hs.len
    | tup e al =>
      obtain rfl : u = Value.ref _ := ru
      exact repr_of_reads' rd hs.sho hns hg (by omega) (fun b o e => e) (fun h' t tk k => ⟨.str _, H, I.kept k, ⟨t, rfl⟩, q⟩) hs.len
    | dic e n =>
      obtain rfl : u = Value.ref _ := ru
      exact repr_of_reads' rd hs.sho hns hg (by omega) (fun b o e => e) (fun h' t tk k => ⟨.str _, H, I.kept k, ⟨t, rfl⟩, q⟩) hs.len
end
section
open L2 PySem PySem.Spec PyProof.Rows
structure Sml (d : PyData) : Prop where
  sho : d.showable = true
  dct : d.hasDict = false
  dep : d.depth ≤ 5
  lea : d.leavesShort 40 = true
  wei : d.weight ≤ 1000
theorem sml_fin : ∀ n : Fin 400, ((PyData.int ((n.1 : Int) - 5)).showable && decide ((PyData.int ((n.1 : Int) - 5)).leavesShort 40 = true) && decide ((PyData.int ((n.1 : Int) - 5)).weight ≤ 10)) = true := by decide +kernel
theorem sml_int {i : Int} (h0 : -5 ≤ i) (h1 : i < 395) : Sml (.int i) ∧ (PyData.int i).weight ≤ 10 := by
  obtain ⟨n, hn⟩ := Int.eq_ofNat_of_zero_le (show 0 ≤ i + 5 by omega)
  have := sml_fin ⟨n, by omega⟩
  have e : ((⟨n, by omega⟩ : Fin 400).1 : Int) - 5 = i := by show (n : Int) - 5 = i; omega
  rw [e, Bool.and_eq_true, Bool.and_eq_true, decide_eq_true_iff, decide_eq_true_iff] at this
  exact ⟨⟨this.1.1, rfl, Nat.zero_le _, this.1.2, by omega⟩, this.2⟩
def spIsIntO (K : PySem.W.Frag) : Sp := fun vs H Q _ => ∃ (v : V) (d : PyData) (a : Addr), vs = [v] ∧ Ob K H a v d ∧ Q (.bl (isI d)) H
end
section
open L2 PySem PySem.Spec PyProof.Rows
theorem sh_none : ShO .none := ⟨fun i c => (by cases c), fun x c => (by cases c), rfl, .inl rfl, by decide, by decide +kernel⟩
mutual
inductive Ob2 (K : PySem.W.Frag) (H : Hp) (a b : Addr) : V → PyData → Prop
  | non : Ob2 K H a b .non .none
  | bl (c : Bool) : Ob2 K H a b (.bl c) (.bool c)
  | int (i : Int) : Ob2 K H a b (.int i) (.int i)
  | str (x : Str) : Ob2 K H a b (.str x) (.str x)
  | lst {p : Addr} {xs : List V} {ds : List PyData} : H p = some (.lst xs) → p ≠ a → p ≠ b → ObAll2 K H a b xs ds → Ob2 K H a b (.ref p) (.list ds)
  | tup {p : Addr} {xs : List V} {ds : List PyData} : SqT K H p xs → ObAll2 K H a b xs ds → Ob2 K H a b (.ref p) (.tuple ds)
  | dic {p : Addr} : H p = some (.dK []) → p ≠ a → p ≠ b → Ob2 K H a b (.ref p) (.dict [])
inductive ObAll2 (K : PySem.W.Frag) (H : Hp) (a b : Addr) : List V → List PyData → Prop
  | nil : ObAll2 K H a b [] []
  | cons {v : V} {vs : List V} {d : PyData} {ds : List PyData} : Ob2 K H a b v d → ObAll2 K H a b vs ds → ObAll2 K H a b (v :: vs) (d :: ds)
end
section
variable {K : PySem.W.Frag} {H H' : Hp} {a b : Addr}
mutual
theorem Ob2.go (t : TK K H H') (k : ∀ p o, p ≠ a → p ≠ b → H p = some o → H' p = some o) : ∀ (d : PyData) (v : V), Ob2 K H a b v d → Ob2 K H' a b v d
  | .none, _, h => by cases h; exact .non
  | .bool c, _, h => by cases h; exact .bl c
  | .int i, _, h => by cases h; exact .int i
  | .str x, _, h => by cases h; exact .str x
  | .list ds, _, h => by
    cases h with
    | lst e n n2 al => exact .lst (k _ _ n n2 e) n n2 (ObAll2.go t k ds _ al)
  | .tuple ds, _, h => by
    cases h with
    | tup s al => exact .tup (t _ _ s) (ObAll2.go t k ds _ al)
  | .dict _, _, h => by
    cases h with
    | dic e n n2 => exact .dic (k _ _ n n2 e) n n2
theorem ObAll2.go (t : TK K H H') (k : ∀ p o, p ≠ a → p ≠ b → H p = some o → H' p = some o) : ∀ (ds : List PyData) (vs : List V), ObAll2 K H a b vs ds → ObAll2 K H' a b vs ds
  | [], _, h => by cases h; exact .nil
  | d :: ds, _, h => by
    cases h with
    | cons h1 h2 => exact .cons (Ob2.go t k d _ h1) (ObAll2.go t k ds _ h2)
end
mutual
theorem Ob2.one : ∀ (d : PyData) (v : V), Ob2 K H a b v d → Ob K H a v d
  | .none, _, h => by cases h; exact .non
  | .bool c, _, h => by cases h; exact .bl c
  | .int i, _, h => by cases h; exact .int i
  | .str x, _, h => by cases h; exact .str x
  | .list ds, _, h => by
    cases h with
    | lst e n n2 al => exact .lst e n (ObAll2.one ds _ al)
  | .tuple ds, _, h => by
    cases h with
    | tup s al => exact .tup s (ObAll2.one ds _ al)
  | .dict _, _, h => by
    cases h with
    | dic e n n2 => exact .dic e n
theorem ObAll2.one : ∀ (ds : List PyData) (vs : List V), ObAll2 K H a b vs ds → ObAll K H a vs ds
  | [], _, h => by cases h; exact .nil
  | d :: ds, _, h => by
    cases h with
    | cons h1 h2 => exact .cons (Ob2.one d _ h1) (ObAll2.one ds _ h2)
end
theorem Ob2.same {v : V} {d : PyData} (h : Ob2 K H a b v d) (k : Same H H') : Ob2 K H' a b v d := Ob2.go (TK.same k) (fun p o _ _ e => k p o e) d v h
theorem ObAll2.same {vs : List V} {ds : List PyData} (h : ObAll2 K H a b vs ds) (k : Same H H') : ObAll2 K H' a b vs ds := ObAll2.go (TK.same k) (fun p o _ _ e => k p o e) ds vs h
theorem ObAll2.app : ∀ {vs ws : List V} {ds es : List PyData}, ObAll2 K H a b vs ds → ObAll2 K H a b ws es → ObAll2 K H a b (vs ++ ws) (ds ++ es)
  | _, _, _, _, .nil, h => h
  | _, _, _, _, .cons x t, h => .cons x (ObAll2.app t h)
theorem ObAll2.mem : ∀ {vs : List V} {ds : List PyData} {v : V}, ObAll2 K H a b vs ds → v ∈ vs → ∃ d, d ∈ ds ∧ Ob2 K H a b v d
  | _, _, _, .nil, h => absurd h List.not_mem_nil
  | _, _, v, .cons (d := d) x t, h => by
    rcases List.mem_cons.mp h with e | h
    · subst e
      exact ⟨d, List.mem_cons_self, x⟩
    · obtain ⟨e, m, o⟩ := ObAll2.mem t h
      exact ⟨e, List.mem_cons_of_mem _ m, o⟩
end
section
variable {K : PySem.W.Frag} {H H' : Hp} {a b q : Addr} {x : V}
theorem Ob2.ch {c : Int} {d : PyData} (h : Ob2 K H a b x d) (k : Ch a H H') (f : Fd H a c) : Ob2 K H' a b x d := Ob2.go (TK.ch k f) (fun p o n _ e => k p o n e) d _ h
end
end
section
open L2 PySem PySem.Spec PyProof.Rows
def okN (l : List (Str × Str)) (g : List Str) (z : Str) : Bool := !decide (z ∈ g) && l.all fun r => !decide (r.2 = z) || decide (r.1 ∈ g)
def growG (ps : List Str) (l : List (Str × Str)) : Nat → List (List Str)
  | 0 => [[]]
  | n + 1 => (growG ps l n).flatMap fun g => (ps.filter (okN l g)).map fun z => g ++ [z]
end
section
open L2 PySem PySem.Spec PyProof.Rows
def msk (ps g : List Str) : Nat := (g.map fun z => 2 ^ ps.idxOf z).sum
def pre (l : List (Str × Str)) (z : Str) : List Str := (l.filter fun r => decide (r.2 = z)).map Prod.fst
def okB (m k a : Nat) : Bool := decide (m &&& 2 ^ k = 0) && decide (m &&& a = a)
end
section
open L2 PySem PySem.Spec PyProof.Rows
def cM (ps : List Str) (l : List (Str × Str)) (n x : Nat) : Nat := ((growG ps l n).filter fun g => decide (msk ps g = x)).length
def cnt (ps : List Str) (l : List (Str × Str)) (x : Nat) : Nat := ((List.range (ps.length + 1)).map fun n => cM ps l n x).sum
def lastIn (ps : List Str) (l : List (Str × Str)) (z : Str) (x : Nat) : Bool := decide (2 ^ ps.idxOf z ≤ x) && okB (x - 2 ^ ps.idxOf z) (ps.idxOf z) (msk ps (pre l z))
section
variable {ps qs : List Str} {rs l : List (Str × Str)}
def partN (ps : List Str) (l : List (Str × Str)) (m j x : Nat) : Nat := (if x = 0 then 1 else 0) + (ps.map fun z => if (lastIn ps l z x && decide (x - 2 ^ ps.idxOf z < m ∨ x - 2 ^ ps.idxOf z = m ∧ ps.idxOf z < j)) = true then cnt ps l (x - 2 ^ ps.idxOf z) else 0).sum
end
end
section
open L2 PySem PySem.Spec PyProof.Rows
theorem i_shl {k : Nat} {H : Hp} {Q : VK} (hk : k ≤ 100) (h : Q (.int ((2 ^ k : Nat) : Int)) H) : rI CPow (fun i j => .int (i * 2 ^ j.toNat)) (.int 1) (.int (k : Nat)) H Q := by
  refine i_rI (i := 1) (j := (k : Int)) ⟨by omega, by omega, by decide⟩ ?_
  have e : (1 : Int) * 2 ^ ((k : Int)).toNat = ((2 ^ k : Nat) : Int) := by
    rw [Int.toNat_natCast, Int.one_mul]
    simp
  rw [e]
  exact h
def cs (ps : List Str) (l : List (Str × Str)) (m j : Nat) : List V := (List.range (2 ^ ps.length)).map fun x => V.int ((partN ps l m j x : Nat) : Int)
end
section
open L2 PySem PySem.Spec PyProof.Rows
abbrev ARow := List (Str × Str) × Addr × Nat
def nL (R : List ARow) : DnL := R.map fun r => (arrK r.1, r.2.1, V.int (r.2.2 : Nat))
end
section
open L2 PySem PySem.Spec PyProof.Rows
section
variable {P : Program} {w : World} {A : Around} {E : Value → Shared → Prop} {s : Shared} {a : Addr} {L : List (Addr × List Str)} {es : Array (Int × Value)} {ep : Nat} {t : SetTable}
theorem TxS.seek (R : TxS P w s.heap a L es ep t) (hT : ∀ p ∈ L, Tt P w s.heap p.2 p.1) {x : Addr} {k : List Str} (hx : Tt P w s.heap k x) (hu : A.units < cLine) {i0 : Nat} {p0 : Addr × List Str} (h0 : L[i0]? = some p0) (e0 : p0.2 = k) {K : Nat}
    (hKf : K < 10 * SetTable.turns t.mask) (hK : way t.mask (tx P w k) K ∉ t.place.toList) (hKb : ∀ c, c < K → way t.mask (tx P w k) c ∈ t.place.toList) {Q : SetFound → Shared → Prop}
    (q : Q (.there none) s) : ∀ (f c : Nat) (st : Option SetTable.Probe), st.getD (t.probeStart (tx P w k)) = pr t.mask (tx P w k) c → c ≤ K → K - c < f →
      (∃ c0, c ≤ c0 ∧ c0 < K ∧ t.place.toList[i0]? = some (way t.mask (tx P w k) c0)) → wpAny (model P w) A (setSearchFrom a (.ref x) (tx P w k) true f st) Q E s := by
  obtain ⟨o, g, hex, hd⟩ := R.here
  intro f
  induction f with
  | zero => exact fun c st _ _ z _ => absurd z (Nat.not_lt_zero _)
  | succ f ih =>
    rintro c st hst hc hf ⟨c0, b1, b2, b3⟩
    have on : ∀ n, nth t.mask (pr t.mask (tx P w k) c) n = pr t.mask (tx P w k) (c + n) := fun n => (nth_add t.mask c _ n).symm
    have end_ : (nth t.mask (pr t.mask (tx P w k) c) (K - c)).j = way t.mask (tx P w k) K := by rw [on, Nat.add_sub_cancel' hc]
    have at0 : (nth t.mask (pr t.mask (tx P w k) c) (c0 - c)).j = way t.mask (tx P w k) c0 := by rw [on, Nat.add_sub_cancel' b1]
    have same : (es[i0]?.map (·.1)).getD 0 = tx P w k := by
      rw [R.entry h0, ← e0]
      rfl
    rw [setSearchFrom_succ]
    refine wpAny_bind (wpAny_setState_of g hd R.fits ?_)
    dsimp only
    refine wp_if_neg (by unfold SetTable.gaveWay; rw [mask_odd R.tab.mok]; decide) ?_
    try refine wpAny_bind (wpAny_pure ?_)
    rcases go_spec t R.tab.ris R.tab.dm (fun i => (es[i]?.map (·.1)).getD 0) (tx P w k) (10 * SetTable.turns t.mask) (K - c) _ (pr_dummy _ _ c) (by omega)
      (fun n hn => by rw [on]; exact hKb _ (by omega)) (by rw [end_]; exact hK) with ⟨n, i, hn, hi, _, no, e⟩ | ⟨no, e⟩
    · have le0 : c + n ≤ c0 := by
        rcases Nat.lt_or_ge c0 (c + n) with z | z
        · exact absurd same (no (c0 - c) i0 (by omega) (by rw [at0]; exact b3))
        · exact z
      rw [on, on, ← hst] at e
      rw [show t.probe (fun i => (es[i]?.map (·.1)).getD 0) (tx P w k) (st.getD (t.probeStart (tx P w k))) = _ from e]
      dsimp only
      rw [on] at hi
      have hl : i < L.length := by
        have h1 := (List.getElem?_eq_some_iff.mp hi).1
        have h2 := R.tab.sz
        rw [List.length_map] at h2
        rw [Array.length_toList] at h1
        omega
      have hp := List.getElem?_eq_getElem hl
      have me : L[i] ∈ L := List.getElem_mem hl
      have go : wpAny (model P w) A (searchRest a (.ref x) (tx P w k) true f es t (way t.mask (tx P w k) (c + n)) i (pr t.mask (tx P w k) (c + (n + 1)))) Q E s := by
        unfold searchRest
        rw [R.entry hp]
        dsimp only [trow]
        refine wpAny_bind (wpAny_holding (wpAny_eqBool_tuple hu (hT _ me) hx ?_))
        by_cases y : L[i].2 = k
        · rw [decide_eq_true y]
          refine wpAny_bind (wpAny_setState_of g hd R.fits ?_)
          dsimp only
          exact wp_if_pos (by decide) (wpAny_pure q)
        · rw [decide_eq_false y]
          refine wpAny_bind (wpAny_setState_of g hd R.fits ?_)
          dsimp only
          refine wp_if_neg (by decide) ?_
          try refine wpAny_bind (wpAny_pure ?_)
          rw [L2.sameMem]
          dsimp only
          have live := slot_live R.tab.ris hi
          simp only [if_true, live, R.entry hp]
          refine wpAny_bind (wpAny_isSame_ref_self (wpAny_bind (wpAny_pure ?_)))
          simp only [if_true]
          refine wp_if_neg Bool.false_ne_true ?_
          refine ih (c + (n + 1)) _ rfl (by omega) (by omega) ⟨c0, ?_, b2, b3⟩
          rcases Nat.lt_or_ge (c + n) c0 with z | z
          · omega
          · have ec : c0 = c + n := Nat.le_antisymm z le0
            rw [ec] at b3
            have l0 := slot_live R.tab.ris b3
            rw [live] at l0
            injection l0 with l0
            rw [← l0, hp] at h0
            exact absurd ((congrArg Prod.snd (Option.some.inj h0)).trans e0) y
      by_cases hl : t.led = true
      · refine wp_if_neg (by simp [hl]) ?_
        try refine wpAny_bind (wpAny_pure ?_)
        exact go
      · refine wp_if_pos (by simp [hl]) (wpAny_bind (unseen_tt hx (fun y hy => ?_) ?_))
        · obtain ⟨u, hu1, hu2⟩ := List.mem_map.mp hy
          have hu3 : u ∈ es ∧ u.1 = tx P w k := by simpa using hu1
          have hu4 : u ∈ es.toList := by simpa using hu3.1
          rw [R.rows] at hu4
          obtain ⟨p, hp1, hp2⟩ := List.mem_map.mp hu4
          exact ⟨p.2, p.1, by rw [← hu2, ← hp2]; rfl, hT p hp1⟩
        · refine wp_if_neg (by decide) ?_
          try refine wpAny_bind (wpAny_pure ?_)
          exact go
    · exact absurd same (no (c0 - c) i0 (by omega) (by rw [at0]; exact b3))
theorem TxS.meet (R : TxS P w s.heap a L es ep t) (hT : ∀ p ∈ L, Tt P w s.heap p.2 p.1) {x : Addr} {k : List Str} (hx : Tt P w s.heap k x) (hu : A.units < cLine) (hk : k ∈ L.map (·.2)) {Q : SetFound → Shared → Prop}
    (q : Q (.there none) s) : wpAny (model P w) A (setSearch a (.ref x) (tx P w k) true) Q E s := by
  have rm := R.room
  obtain ⟨K, h1, h2, h3⟩ := R.tab.first (by rw [List.length_map]; omega) (tx P w k)
  have h4 : K < 100000 := by
    have : 10 * SetTable.turns t.mask ≤ 1420 := by
      unfold SetTable.turns
      rcases R.tab.mok with e | e | e <;> omega
    omega
  obtain ⟨p0, m0, e0⟩ := List.mem_map.mp hk
  obtain ⟨i0, hi0⟩ := List.getElem?_of_mem m0
  have hash : (L.map fun p => tx P w p.2)[i0]? = some (tx P w k) := by rw [List.getElem?_map, hi0, ← e0]; rfl
  have hlt : i0 < t.place.toList.length := by
    have h5 := (List.getElem?_eq_some_iff.mp hi0).1
    have h6 := R.tab.sz
    rw [List.length_map] at h6
    rw [Array.length_toList]
    omega
  have hj := List.getElem?_eq_getElem hlt
  obtain ⟨c0, b1, b2⟩ := R.tab.before h2 hash hj
  unfold setSearch
  exact R.seek hT hx hu hi0 e0 h1 h2 h3 q 100000 0 none rfl (Nat.zero_le _) (by omega) ⟨c0, Nat.zero_le _, b1, by rw [hj, b2]⟩
theorem TxS.again (R : TxS P w s.heap a L es ep t) (hT : ∀ p ∈ L, Tt P w s.heap p.2 p.1) {x : Addr} {k : List Str} (hx : Tt P w s.heap k x) (hu : A.units < cLine) (hk : k ∈ L.map (·.2)) {Q : Bool → Shared → Prop} (q : Q false s) :
    wpAny (model P w) A (setAddHashed a (.ref x) (tx P w k)) Q E s := by
  obtain ⟨o, g, hex, hd⟩ := R.here
  unfold setAddHashed
  refine wpAny_holding ?_
  rw [show (100000 : Nat) = 99999 + 1 from rfl, setAddHashedIn_succ]
  refine wpAny_bind (wpAny_setState_of g hd R.fits ?_)
  dsimp only
  refine wp_if_neg (by simp [byScan, Value.scannable]) ?_
  try refine wpAny_bind (wpAny_pure ?_)
  refine wpAny_bind (R.meet hT hx hu hk ?_)
  dsimp only
  exact wpAny_pure q
end
end
section
open L2 PySem PySem.Spec PyProof.Rows
abbrev dc2 (kx vx t0 i0 : Expr) (fs0 : List Expr) (t1 i1 : Expr) (fs1 : List Expr) (scope : Scope) (pos : Pos) : Expr := .DictComp kx vx [⟨t0, i0, fs0, 0⟩, ⟨t1, i1, fs1, 0⟩] scope pos
end
section
open L2 PySem PySem.Spec PyProof.Rows
theorem idx_of {α : Type} [BEq α] [LawfulBEq α] {l : List α} {x : α} (h : x ∈ l) : l[l.idxOf x]? = some x ∧ ∀ m, m < l.idxOf x → ∀ y, l[m]? = some y → y ≠ x := by
  refine ⟨?_, fun m hm y hy e => ?_⟩
  · rw [List.getElem?_eq_getElem (List.idxOf_lt_length_iff.mpr h), List.getElem_idxOf]
  · subst e
    have := List.not_of_lt_findIdx (p := fun z => z == y) hm
    obtain ⟨h1, h2⟩ := List.getElem?_eq_some_iff.mp hy
    rw [h2] at this
    simp at this
theorem ints_eqd {a b : List Nat} (ha : ∀ n ∈ a, n < 300) (hb : ∀ n ∈ b, n < 300) : PyData.eqv (intsD a) (intsD b) = decide (a = b) := by
  obtain ⟨_, _, _, _, _, _, a7⟩ := ints_data a ha
  obtain ⟨_, _, _, _, _, _, b7⟩ := ints_data b hb
  have q := eqv_dec (intsD a) (intsD b) a7 b7
  by_cases k : a = b
  · subst k
    rw [decide_eq_true rfl, q.mpr rfl]
  · rw [decide_eq_false k]
    cases z : PyData.eqv (intsD a) (intsD b) with
    | false => rfl
    | true => exact absurd (ints_inj (q.mp z)) k
end
section
open L2 PySem PySem.Spec PyProof.Rows
def gS {α : Type} (us ws : List α) : List α := match us with
  | [] => ws
  | _ :: _ => []
end
section
open L2 PySem PySem.Spec PyProof.Rows
section
variable {K : PySem.W.Frag} {H : Hp} {a : Addr}
mutual
theorem Ob.dp : ∀ (d : PyData) (v : V), d.canLay0 = true → Ob K H a v d → Dp K H v d
  | .none, _, _, h => by cases h; exact .non
  | .bool b, _, _, h => by cases h; exact .bl b
  | .int i, _, _, h => by cases h; exact .int i
  | .str x, _, _, h => by cases h; exact .str x
  | .list ds, _, c, h => by
    cases h with
    | lst e n al => exact .lst (sq_lst e) (ObAll.dp ds _ c al)
  | .tuple ds, _, c, h => by
    cases h with
    | tup s al => exact .tup s (ObAll.dp ds _ c al)
  | .dict _, _, c, _ => by cases c
theorem ObAll.dp : ∀ (ds : List PyData) (vs : List V), PyData.canLayAll0 ds = true → ObAll K H a vs ds → DpAll K H vs ds
  | [], _, _, h => by cases h; exact .nil
  | d :: ds, _, c, h => by
    have c' : (d.canLay0 && PyData.canLayAll0 ds) = true := c
    rw [Bool.and_eq_true] at c'
    cases h with
    | cons h1 h2 => exact .cons (Ob.dp d _ c'.1 h1) (ObAll.dp ds _ c'.2 h2)
end
end
end
section
open L2 PySem PySem.Spec PyProof.Rows
def uniqL (l : List Str) : List Str := l.foldl (fun acc x => if x ∈ acc then acc else acc ++ [x]) []
theorem uniq_snoc (l : List Str) (x : Str) : uniqL (l ++ [x]) = if x ∈ uniqL l then uniqL l else uniqL l ++ [x] := by
  unfold uniqL
  rw [List.foldl_append]
  rfl
theorem uniq_mem : ∀ (n : Nat) (l : List Str), l.length = n → ∀ z, z ∈ uniqL l ↔ z ∈ l
  | 0, l, h, z => by rw [List.length_eq_zero_iff.mp h]; exact Iff.rfl
  | n + 1, l, h, z => by
    obtain ⟨m, x, rfl⟩ : ∃ m x, l = m ++ [x] := ⟨l.dropLast, l.getLast (fun e => by rw [e] at h; cases h), (List.dropLast_concat_getLast _).symm⟩
    rw [List.length_append] at h
    have ih := uniq_mem n m (by have : [x].length = 1 := rfl; omega) 
    rw [uniq_snoc]
    split
    · rename_i c
      rw [ih z, List.mem_append, List.mem_singleton]
      exact ⟨.inl, fun h => h.elim id fun e => by rw [e]; exact (ih x).mp c⟩
    · rw [List.mem_append, List.mem_append, ih z]
theorem mem_uniq {l : List Str} {z : Str} : z ∈ uniqL l ↔ z ∈ l := uniq_mem _ l rfl z
def distN (l : List Str) : Nat := (uniqL l).length
theorem dist_snoc (l : List Str) (x : Str) : distN (l ++ [x]) = if x ∈ l then distN l else distN l + 1 := by
  unfold distN
  rw [uniq_snoc]
  by_cases c : x ∈ l
  · rw [if_pos (mem_uniq.mpr c), if_pos c]
  · rw [if_neg (fun h => c (mem_uniq.mp h)), if_neg c, List.length_append]
    rfl
theorem dist_le : ∀ (n : Nat) (l : List Str), l.length = n → distN l ≤ n ∧ (distN l = n ↔ l.Nodup)
  | 0, l, h => by rw [List.length_eq_zero_iff.mp h]; exact ⟨Nat.le_refl _, fun _ => List.nodup_nil, fun _ => rfl⟩
  | n + 1, l, h => by
    obtain ⟨m, x, rfl⟩ : ∃ m x, l = m ++ [x] := ⟨l.dropLast, l.getLast (fun e => by rw [e] at h; cases h), (List.dropLast_concat_getLast _).symm⟩
    rw [List.length_append] at h
    obtain ⟨i1, i2⟩ := dist_le n m (by have : [x].length = 1 := rfl; omega)
    rw [dist_snoc, List.nodup_append]
    split
    · rename_i c
      refine ⟨by omega, fun e => by omega, fun e => absurd rfl (e.2.2 x c x (List.mem_singleton.mpr rfl))⟩
    · rename_i c
      refine ⟨by omega, fun e => ⟨i2.mp (by omega), (List.nodup_cons.mpr ⟨List.not_mem_nil, List.nodup_nil⟩), fun y hy z hz ez => ?_⟩, fun e => by rw [i2.mpr e.1]⟩
      rw [List.mem_singleton.mp hz] at ez
      rw [ez] at hy
      exact c hy
abbrev TxD (P : Program) (w : World) (h : Heap) (a : Addr) (xs : List Str) : Prop := h.SetOf (PySem.strKind P w) a (fun k => decide (k ∈ xs)) (distN xs)
theorem TxD.at {P : Program} {w : World} {h h' : Heap} {a : Addr} {xs : List Str} (z : TxD P w h a xs) (k : ∀ o, h.get? a = some o → h'.get? a = some o) : TxD P w h' a xs :=
  let ⟨o, es, ep, t, g, r⟩ := z
  ⟨o, es, ep, t, k o g, r⟩
section
variable {P : Program} {w : World} {A : Around} {R : Result → Shared → Prop} {I : Addr} {fp wr : List Addr} {G : Array GenState → Array GenState → Prop} {n : Nat} {Pv : Nat → Value → Prop} {St : Nat → Shared → Prop}
theorem fill_textsD (W : WalksS P w A.in1 I fp wr G n Pv St) (S : Addr) (nS : S ∉ fp) (xs : List Str) (hl : xs.length = n) (hb : n + 1 < scanBound) (hv : ∀ i v, Pv i v → ∃ z t, xs[i]? = some z ∧ v = .str z t) :
    ∀ (m i : Nat) (s : Shared), n - i = m → i ≤ n → St i s → TxD P w s.heap S (xs.take i) → (∀ s', Moved (S :: wr) G s s' → TxD P w s'.heap S xs → R (.ok (.ret .none)) s') →
      codeAny (model P w) A (.builtin "set.update.loop" ⟨[.ref S, .ref I], []⟩) R s := by
  have nw : S ∉ wr := fun z => nS (W.sub _ z)
  have up : ∀ b ∈ wr, b ∈ S :: wr := fun b hb => .tail _ hb
  intro m
  induction m with
  | zero =>
    intro i s hm hi st z q
    have e : i = n := by omega
    refine codeAny_builtin PyProof.Rows.F.entry_set_update_loop ?_
    rw [Around.under_plainId PyProof.Rows.F.plain_set_update_loop _]
    show wpAny _ A.in1 (pyNext (.ref I) >>= _) _ _ s
    rw [e] at st z
    refine wpAny_bind (W.done s _ _ st fun s' mv => ?_)
    show wpAny _ A.in1 (ret Value.none) _ _ s'
    rw [← hl, List.take_length] at z
    exact wpAny_pure (q s' (mv.mono up) (z.at fun o g => mv.heap S o nw g))
  | succ m ih =>
    intro i s hm hi st z q
    have lt : i < n := by omega
    refine codeAny_builtin PyProof.Rows.F.entry_set_update_loop ?_
    rw [Around.under_plainId PyProof.Rows.F.plain_set_update_loop _]
    show wpAny _ A.in1 (pyNext (.ref I) >>= _) _ _ s
    refine wpAny_bind (W.item i s _ _ lt st fun v s' pv st' mv => ?_)
    obtain ⟨x, tk, hx, rfl⟩ := hv i v pv
    have z' : TxD P w s'.heap S (xs.take i) := z.at fun o g => mv.heap S o nw g
    have ln : (xs.take i).length = i := by rw [List.length_take]; omega
    have ld := (dist_le i (xs.take i) ln).1
    show wpAny _ A.in1 (holding [Value.str x tk] (setAdd S (.str x tk)) >>= _) _ _ s'
    refine wpAny_bind (wpAny_holding ?_)
    unfold setAdd
    refine wpAny_holding (wpAny_bind ((PySem.strKind P w).pyHash (k := x) (PySem.strKind_is _ _ _ _) ?_))
    refine wpAny_setAddHashed_of (knd := PySem.strKind P w) (s := { s' with toks := s'.toks + 1 }) (PySem.strKind_is _ _ _ _) rfl z' (by omega) fun h' sb z2 => ?_
    have z3 : TxD P w h' S (xs.take (i + 1)) := by
      have tk1 : xs.take (i + 1) = xs.take i ++ [x] := by rw [List.take_succ, hx]; rfl
      have tk2 : distN (xs.take (i + 1)) = if x ∈ xs.take i then distN (xs.take i) else distN (xs.take i) + 1 := by
        rw [List.take_succ, hx]
        exact dist_snoc _ _
      have tk1 : xs.take (i + 1) = xs.take i ++ [x] := by rw [List.take_succ, hx]; rfl
      refine SetOf_congr z2 (fun k => ?_) (by rw [tk2]; simp)
      rw [tk1]
      by_cases e : k = x <;> simp [e]
    refine wpAny_pure ⟨plainId_quiet PyProof.Rows.F.plain_set_update_loop _, ih (i + 1) _ (by omega) lt (W.frame _ s' _ _ st' (Nat.le_succ _) fun b hb o e => (sb.2 b fun h => nS (h ▸ hb)).trans e) z3 fun s2 mv2 z4 => q s2 (Moved.trans W.gtrans ((mv.mono up).then_heap (Nat.le_succ _) fun b o hb e => (sb.2 b fun h => hb (h ▸ .head _)).trans e) mv2) z4⟩
end
section
variable {P : Program} {w : World} {A : Around} {E : Value → Shared → Prop} {s : Shared}
theorem call_set_textsD {l : Addr} {items : Array Value} {xs : List Str} {Q : Value → Shared → Prop} (hh : A.handled = none) (hl : s.heap.IsTuple l items) (hi : StrsAre items.toList xs) (hb : xs.length + 1 < scanBound)
    (q : ∀ (h' : Heap) (tk : Nat), TxD P w h' s.heap.objs.size xs → (∀ b o, b < s.heap.objs.size → s.heap.get? b = some o → h'.get? b = some o) → Q (.ref s.heap.objs.size) { s with heap := h', toks := tk }) :
    wpAny (model P w) A (call (.type "set") [.ref l]) Q E s := by
  have c1 := PySem.F.called_set.made
  have c2 := PySem.F.called_set.sub
  have c3 := PySem.F.called_set.notType
  have c4 := PySem.F.called_set.canCreate
  have c5 := PySem.F.typeCall_set_1 (.ref l)
  obtain ⟨_, _, c6⟩ := PySem.F.called_set.mro
  refine wpAny_call (codeAny_of_tree ?_)
  show wpAny _ _ (callAny (.type "set") _) _ _ _
  refine wpAny_pure ⟨Code.quiet_builtin _ (by decide +kernel), codeAny_builtin PySem.F.entry_type_call ?_⟩
  rw [Around.under_plain (weight_type_call_type "set" [.ref l] []) rfl]
  repeat (any_goals (first | assumption | wp_step))
  refine codeAny_mono (code_set_new_1 (.ref l) (E := E) (Q₁ := fun v z => ∃ led : Bool, v = .ref s.heap.objs.size ∧ z = { s with heap := s.heap.push (eset led) }) fun led => ⟨led, rfl, rfl⟩) fun r z hr => ?_
  cases r with
  | error e => exact hr
  | ok fl =>
   cases fl with
   | ret obj =>
    obtain ⟨led, rfl, rfl⟩ := hr
    have g0 : (s.heap.push (eset led)).get? s.heap.objs.size = some (eset led) := Heap.get?_push_size _ rfl
    have ty : Shared.TypeIs { s with heap := s.heap.push (eset led) } (.ref s.heap.objs.size) "set" := ⟨_, g0, rfl⟩
    have d1 := PySem.F.called_set.init.lookup
    have d2 := PySem.F.called_set.init.bind (.ref s.heap.objs.size)
    repeat (any_goals (first | assumption | wp_step))
    refine codeAny_mono (codeAny_call_builtin (R := wants (fun v z => v = .none ∧ ∃ h' tk, z = { s with heap := h', toks := tk } ∧ TxD P w h' s.heap.objs.size xs ∧ ∀ b o, b < s.heap.objs.size → s.heap.get? b = some o → h'.get? b = some o) E) PySem.F.called_set.init.plain PySem.F.entry_set_init (check_set_init_1 ty ?_)) fun r z hr => ?_
    · obtain ⟨⟨cl, di, da, sl⟩, hol, hcl, nl, hdl⟩ := hl
      simp only at hcl hdl
      subst hcl hdl
      have hol' : (s.heap.push (eset led)).get? l = some { cls := .type "tuple", dict := di, data := .seq items nl, slots := sl } := Heap.get?_push_of_some _ hol
      have f1 := PySem.F.sub_tuple_set
      have f2 := PySem.F.sub_tuple_frozenset
      have f3 : (Value.type "tuple" == Value.type "dict") = false := by decide
      have hl1 : (s.heap.push (eset led)).IsTuple l items := ⟨_, hol', rfl, nl, rfl⟩
      unfold Builtin.«set.__init__» noKeywords Builtin.Frozenset.updateFrom
      generalize hPI : pyIter = PI
      wp_walk
      subst hPI
      refine wpAny_pyIter_tuple hl1 (wpAny_bind (wpAny_runValue ?_))
      have lt : l < s.heap.objs.size := Heap.lt_size hol
      have sz : (s.heap.push (eset led)).objs.size = s.heap.objs.size + 1 := Heap.size_push ..
      have ne : l ≠ (s.heap.push (eset led)).objs.size := by rw [sz]; exact Nat.ne_of_lt (Nat.lt_succ_of_lt lt)
      have nS : s.heap.objs.size ∉ [(s.heap.push (eset led)).objs.size, l] := by
        rw [sz]
        simp only [List.mem_cons, List.not_mem_nil, or_false, not_or]
        exact ⟨Nat.ne_of_lt (Nat.lt_succ_self _), Nat.ne_of_gt lt⟩
      have len : xs.length = items.size := by rw [← StrsAre.len_eq hi, Array.length_toList]
      have at_ : ∀ (i : Nat) (v : Value), items[i]? = some v → ∃ z t, xs[i]? = some z ∧ v = .str z t := fun i v hv => by
        obtain ⟨t, e⟩ := SS.strs_at hi i v (by rw [Array.getElem?_toList]; exact hv)
        have hlt : i < xs.length := by
          rw [len]
          exact (Array.getElem?_eq_some_iff.mp hv).1
        refine ⟨xs[i], t, List.getElem?_eq_getElem hlt, ?_⟩
        rw [e, List.getD_eq_getElem?_getD, List.getElem?_eq_getElem hlt]
        rfl
      refine fill_textsD ((Walks.tuple (by simp [hh]) _ l ne items).toS) s.heap.objs.size nS xs len (by rw [← len]; exact hb) at_ (items.size - 0) 0 _ (by omega) (Nat.zero_le _) ⟨⟨_, Heap.get?_push_size _ rfl, rfl, rfl⟩, (hl1.push _)⟩ ?_ fun s' mv z => ?_
      · exact SetOf_congr ((setObjOf_fresh (knd := PySem.strKind P w) led).setOf (Heap.get?_push_of_some _ g0) (by unfold scanBound; omega)) (fun _ => by simp) rfl
      · obtain ⟨h', g', d', tk', os'⟩ := s'
        obtain rfl : g' = s.gens := mv.gens
        obtain rfl : d' = s.drawn := mv.drawn
        obtain rfl : os' = s.os := mv.os
        show wpAny _ _ _ _ _ _
        refine wpAny_pure ?_
        show wpAny _ _ (ret Value.none) _ _ _
        refine wpAny_pure ⟨rfl, h', tk', rfl, z, fun b o hb e => mv.heap b o ?_ (Heap.get?_push_of_some _ (Heap.get?_push_of_some _ e))⟩
        rw [sz]
        simp only [List.mem_cons, List.not_mem_nil, or_false, not_or]
        exact ⟨Nat.ne_of_lt hb, Nat.ne_of_lt (Nat.lt_succ_of_lt hb)⟩
    · cases r with
      | error e => exact hr
      | ok fl =>
       cases fl with
       | ret v =>
        obtain ⟨rfl, h', tk, rfl, z, k⟩ := hr
        repeat (any_goals (first | assumption | wp_step))
        exact q _ _ z k
       | _ => exact hr.elim
   | _ => exact hr.elim
end
section
variable {X : Cx}
def TxsDO (P : Program) (w : World) (a : Addr) (xs : List Str) : HO := .ext fun h => TxD P w h a xs
def rSetTextsD (K : PySem.W.Frag) (P : Program) (w : World) : List V → Hp → VK → Prop := fun vs H Q => ∃ (l : Addr) (xs : List Str), vs = [.ref l] ∧ SqT K H l (xs.map V.str) ∧ xs.length < 60 ∧ ∀ D, H D = none → Q (.ref D) (upd H D (TxsDO P w D xs))
theorem cr_setTextsD (hc : X.calm = true) : CallR X (.type "set") (rSetTextsD X.K X.prog X.w) := by
  intro pins s σ H vs us Q I r h
  obtain ⟨l, xs, rfl, hl, lt, q⟩ := h
  rw [Vals.ref1 r]
  obtain ⟨its, rv, pl, hz⟩ := I.tuple hl
  refine call_set_textsD (I.ok.hd hc) pl (by simpa using strsAre_of rv) (by unfold scanBound; omega) fun h' tk z k => ?_
  refine ⟨.ref s.heap.objs.size, upd H s.heap.objs.size (TxsDO X.prog X.w s.heap.objs.size xs), I.laid (t' := tk) (fun b o e => k b o (Heap.lt_size e) e) (Nat.le_refl _) ⟨z, ?_, fun h1 h2 z k => TxD.at z k⟩, rfl, q _ (I.hok.fresh (Nat.le_refl _))⟩
  obtain ⟨o, _, _, _, g, _⟩ := z
  exact ⟨o, g⟩
def rLenTextsD (P : Program) (w : World) : List V → Hp → VK → Prop := fun vs H Q => ∃ (D : Addr) (xs : List Str), vs = [.ref D] ∧ H D = some (TxsDO P w D xs) ∧ Q (.int (distN xs)) H
theorem cr_lenTextsD : CallR X (.builtin "len") (rLenTextsD X.prog X.w) := by
  intro pins s σ H vs us Q I r h
  obtain ⟨D, xs, rfl, hD, q⟩ := h
  rw [Vals.ref1 r]
  obtain ⟨o, es, ep, t, ho, hex, hd, _, _, hlt, hf, hn⟩ : TxD X.prog X.w s.heap D xs := (I.hok D _ hD).1
  refine call_len_set ho hex hd hf ?_ ⟨.int (distN xs), H, I.tok _, ⟨_, by rw [hn]⟩, q⟩
  unfold scanBound at hlt
  omega
end
end
section
open L2 PySem PySem.Spec PyProof.Rows
abbrev ti (P : Program) (w : World) (k : List Int) : Int := tupleKeyHash (PySem.intKind P w) k
end
section
open L2 PySem PySem.Spec PyProof.Rows
theorem i_dGet2 {σ : L2.St} {H : Hp} {Q : VK} {td ty tx : TE} (h : td σ H fun x H1 => ∃ a, x = .ref a ∧ IsD H1 a ∧ ty σ H1 fun y H2 => tx σ H2 fun z H3 => ∃ o, DGet H3 a y o ∧ Q (o.getD z) H3) : tDGet2 td ty tx σ H Q := h
end
section
open L2 PySem PySem.Spec PyProof.Rows
section
variable {K : PySem.W.Frag} {H H' : Hp} {k n : Nat} {zs ys : List (Addr × Nat)}
variable {Q : VK} {x y : V} {t u : List Nat}
theorem i_neSt (ht : ∀ n ∈ t, n < 300) (hu : ∀ n ∈ u, n < 300) (dt : Dp K H x (intsD t)) (du : Dp K H y (intsD u)) (q : Q (.bl (!decide (t = u))) H) : rNeD K x y H Q :=
  ⟨_, _, dt, du, ins_shaped ht, ins_shaped hu, by rw [ints_eqd ht hu]; exact q⟩
end
end
section
open L2 PySem PySem.Spec PyProof.Rows
theorem i_indexT {K : PySem.W.Frag} {H : Hp} {Q : VK} {a : Addr} {ns : List Str} {z : Str} (hs : SqL K H a (ns.map V.str)) (ok : ∀ z ∈ ns, nmOk z = true) (hz : z ∈ ns) (q : Q (.int (ns.idxOf z : Nat)) H) : rIndexD K (.ref a) [.str z] H Q := by
  obtain ⟨i1, i2⟩ := idx_of hz
  have s1 : PyData.canLayAll0 ([z].map PyData.str) = true := strs_lay fun y hy => by rw [List.mem_singleton.mp hy]; exact ok z hz
  refine ⟨a, .str z, .str z, ns.map PyData.str, ns.idxOf z, .str z, rfl, rfl, .lst hs (DpAll.strs ns), .str _, strs_shaped ok, ?_, ?_, ?_, fun m z' hm hz' => ?_, q⟩
  · have s2 : ((PyData.str z).canLay0 && true) = true := s1
    rw [Bool.and_true] at s2
    show ((PyData.str z).canLay0 && decide (0 ≤ 64)) = true
    rw [s2]
    rfl
  · rw [List.getElem?_map, i1]
    rfl
  · show (z == z) = true
    exact beq_self_eq_true _
  · rw [List.getElem?_map] at hz'
    cases e : ns[m]? with
    | none => rw [e] at hz'; cases hz'
    | some y =>
      rw [e] at hz'
      obtain rfl := Option.some.inj hz'
      show (y == z) = false
      exact beq_false_of_ne (i2 m hm y e)
end
section
open L2 PySem PySem.Spec PyProof.Rows
def rNeE (K : PySem.W.Frag) : R2 := fun x y H Q => ∃ a b xs, x = .ref a ∧ y = .ref b ∧ SqL K H a xs ∧ SqL K H b [] ∧ Q (.bl (!xs.isEmpty)) H
section
variable {X : Cx}
theorem op_neE (hu : X.A.units + 64 < cLine) : OpR X (compareOp .NotEq) (rNeE X.K) := by
  intro pins s σ H x y v u Q I rx ry h
  obtain ⟨a, b, xs, rfl, rfl, ha, hb, q⟩ := h
  cases (show v = Value.ref a from rx)
  cases (show u = Value.ref b from ry)
  obtain ⟨us, r1, p1, _⟩ := I.list ha
  obtain ⟨ws, r2, p2, _⟩ := I.list hb
  cases r2
  cases xs with
  | nil =>
    cases r1
    exact SeqAt.RcNeAt.lists (e := fun _ => true) p1.isList p2.isList rfl (by omega) (fun j h1 _ => absurd h1 (Nat.not_lt_zero _)) X.prog X.w _ _ ⟨.bl _, H, I, rfl, q⟩
  | cons x xs =>
    cases r1
    exact SeqAt.RcNeAt.lists_lengths p1.isList p2.isList (by simp) (by omega) X.prog X.w _ _ ⟨.bl _, H, I, rfl, q⟩
end
theorem k_neE {X : Cx} {K : PySem.W.Frag} (hu : X.A.units + 64 < cLine) (hK : X.K = K := by rfl) : OpR X (compareOp .NotEq) (rNeE K) := by subst hK; exact op_neE hu
theorem i_neE {K : PySem.W.Frag} {H : Hp} {Q : VK} {a b : Addr} {xs : List V} (ha : SqL K H a xs) (hb : SqL K H b []) (q : Q (.bl (!xs.isEmpty)) H) : rNeE K (.ref a) (.ref b) H Q := ⟨a, b, xs, rfl, rfl, ha, hb, q⟩
end
section
open L2 PySem PySem.Spec PyProof.Rows
section
variable {P : Program} {w : World} {A : Around} {E : Value → Shared → Prop} {s : Shared}
theorem txs_old {a x : Addr} {L : List (Addr × List Str)} {k : List Str} {es : Array (Int × Value)} {ep : Nat} {t : SetTable} (R : TxS P w s.heap a L es ep t) (hT : ∀ p ∈ L, Tt P w s.heap p.2 p.1) (hx : Tt P w s.heap k x) (hu : A.units + 64 < cLine) (hk : k ∈ L.map (·.2)) {Q : Value → Shared → Prop}
    (q : ∀ tk, Q .none { s with toks := tk }) : wpAny (model P w) A (call (.builtin "set.add") [.ref a, .ref x]) Q E s := by
  obtain ⟨o, g, hex, hd⟩ := R.here
  have ty : s.TypeIs (.ref a) "set" := ⟨o, g, hex.1⟩
  refine wpAny_call_entry F.slot_set_add ty F.entry_set_add ?_ (F.args_set_add_2 _ _)
  unfold Builtin.«set.add» Builtin.Frozenset.oneOther
  simp only [List.isEmpty_nil, bind_assoc]
  unfold Builtin.Frozenset.addrOf setAdd
  refine wpAny_bind (wpAny_pure ?_)
  try dsimp only
  refine wpAny_bind (wpAny_pure ?_)
  try dsimp only
  refine wpAny_bind (wpAny_holding (wpAny_bind (wpAny_pyHash_tuple ?hun hx ?_)))
  case hun => first | omega | (show A.units + 1 < cLine; omega) | (show A.units < cLine; omega)
  refine (show TxS P w ({ s with toks := s.toks + (k.length + 1) } : Shared).heap a L es ep t from R).again (s := { s with toks := s.toks + (k.length + 1) }) hT hx ?hun hk ?_
  case hun => first | omega | (show A.units + 1 < cLine; omega) | (show A.units < cLine; omega)
  show wpAny _ _ (ret Value.none) _ _ _
  exact wpAny_pure ⟨_, rfl, q _⟩
end
section
variable {X : Cx}
theorem ts_addD {pins : List (Addr × Obj)} {σ : L2.St} {H : Hp} {s : Shared} {E : Value → Shared → Prop} {D x : Addr} {L : List (Addr × List Str)} {k : List Str} {Q : Value → Shared → Prop} (I : Inv X pins σ H s) (hu : X.A.units + 64 < cLine) (hD : H D = some (TsO X.prog X.w D L))
    (hT : ∀ p ∈ L, SqT X.K H p.1 (p.2.map V.str)) (hx : SqT X.K H x (k.map V.str)) (hf : L.length + 1 < 64) (ho : k ∈ L.map (·.2) → ∀ s', Inv X pins σ H s' → Q .none s')
    (h : k ∉ L.map (·.2) → ∀ L' s', L'.Perm ((x, k) :: L) → Inv X pins σ (upd H D (TsO X.prog X.w D L')) s' → Q .none s') : wpAny (model X.prog X.w) X.A (call (.builtin "set.add") [.ref D, .ref x]) Q E s := by
  by_cases c : k ∈ L.map (·.2)
  · obtain ⟨es, ep, t, R⟩ : ∃ es ep t, TxS X.prog X.w s.heap D L es ep t := (I.hok D _ hD).1
    exact txs_old R (fun p hp => tt_of I (hT p hp)) (tt_of I hx) hu c fun tk => ho c _ (I.tok _)
  · exact ts_add I hu hD hT hx (fun p hp e => c (e ▸ List.mem_map_of_mem hp)) hf (h c)
def tSctD (P : Program) (w : World) (K : PySem.W.Frag) (wi : TI) (g : TG) (tt : TT) (te : TE) (vs : List Nat) : TE := fun σ H Q => wi σ H fun J H1 => ∀ D, H1 D = none → ∃ W : Nat → Nat → Hp → Prop, (∃ m, W 0 m (upd H1 D (TsO P w D []))) ∧ ∀ i m H, W i m H →
  (J.stop i H ∧ Q (.ref D) H) ∨ (J.go i H ∧ ∃ Nx : Hp → Prop, (∀ H', Nx H' → ∃ m', m' < m ∧ W (i + 1) m' H') ∧ ∀ x H', J.yld i H x H' → g x (wipe σ vs) H' fun σ2 H2 => wipe σ2 vs = wipe σ vs ∧ tt σ2 H2 fun b H3 =>
    if b = true then te σ2 H3 fun y H4 => ∃ (p : Addr) (k : List Str) (L : List (Addr × List Str)), y = .ref p ∧ SqT K H4 p (k.map V.str) ∧ H4 D = some (TsO P w D L) ∧ (∀ q ∈ L, SqT K H4 q.1 (q.2.map V.str)) ∧ L.length + 1 < 64 ∧
      (k ∈ L.map (·.2) → Nx H4) ∧ (k ∉ L.map (·.2) → ∀ L' : List (Addr × List Str), L'.Perm ((p, k) :: L) → Nx (upd H4 D (TsO P w D L'))) else Nx H3)
theorem pe_sctD {elt tg iter : Expr} {ifs : List Expr} {scope : Scope} {own : List (PySem.Str × Nat)} {pos : Pos} {wi : TI} {g : TG} {tt : TT} {te : TE} (hc : X.calm = true) (hu : X.A.units + 64 < cLine) (hN : X.N.Nodup) (hi : PI X tg iter wi) (ok : BlkOk X.N X.env.scope scope own)
    (hg : ∀ (s : Shared) (H : Hp) (C : Addr) (cl : List (PySem.Str × Addr)) (fp : List Addr), PG (X.blk s H scope (compEnvC scope cl C X.env) fp) tg g) (ht : ∀ (s : Shared) (H : Hp) (C : Addr) (cl : List (PySem.Str × Addr)) (fp : List Addr), PTs (X.blk s H scope (compEnvC scope cl C X.env) fp) ifs tt)
    (he : ∀ (s : Shared) (H : Hp) (C : Addr) (cl : List (PySem.Str × Addr)) (fp : List Addr), PE (X.blk s H scope (compEnvC scope cl C X.env) fp) elt te) (hs : ∀ x, foldedSetIterable iter X.env x = pure x := by intro _; rfl) :
    PE X (.SetComp elt [⟨tg, iter, ifs, 0⟩] scope pos) (tSctD X.prog X.w X.K wi g tt te (own.map (·.2))) := by
  refine ⟨fun pins s σ H Q I h => ?_⟩
  rw [PpSet.eval_SetComp]
  have fr : ∀ y ∈ scope.names, y.2 = .free → ∃ c, X.env.cells.lookup y.1 = some c := fun y hy e => (ok.free y hy e).elim (fun k => I.ok.has _ (.inl k)) fun k => I.ok.has _ (.inr k)
  refine wpAny_comprehension_free rfl hs (closure_ok fr) ok.kind (fun y hy e => by rw [ok.uniq y hy, e]) (thn (hi.run pins s σ H _ I h) fun xv s1 hx => thn hx fun itv s2 ⟨it, fp, tn, J, H2, e, I2, T, st2, f2, q⟩ => ?_)
  subst e
  refine PpSet.newSet_ok (newEnv_comp ?_)
  obtain ⟨D, hD⟩ : ∃ D, D = s2.heap.objs.size := ⟨_, rfl⟩
  rw [← hD]
  have D0 : H2 D = none := I2.hok.fresh (Nat.le_of_eq hD.symm)
  obtain ⟨W, ⟨m0, w0⟩, turn⟩ := q D D0
  generalize es3 : ({ s2 with heap := s2.heap.push (setObj0 X.w) } : Shared) = s3
  have h3 : s3.heap = s2.heap.push (setObj0 X.w) := by rw [← es3]
  have I3 : Inv X pins σ (upd H2 D (TsO X.prog X.w D [])) s3 := by
    rw [← es3]
    refine I2.laid (t' := s2.toks) (fun b o e => Heap.get?_push_of_some _ e) (Nat.le_of_eq hD.symm) (ts_obj ⟨_, _, _, txs_fresh ?_⟩)
    rw [hD]
    exact Heap.get?_push_size _ rfl
  show codeAny _ _ (.compStart (.SetComp elt [⟨tg, iter, ifs, 0⟩] scope pos) 0 (.ref it) (.ref D) (compEnvC scope (cellsFrom (s3.heap.objs.size + 1) scope.names (cloFrom X.env.cells scope.names [])) s3.heap.objs.size X.env)) (compPost (model X.prog X.w) X.A X.xe none (EP X pins σ Q) (.ref D) s3.heap.objs.size) { s3 with heap := pushCells (s3.heap.push { cls := .type "dict", data := .dict #[] }) scope.names }
  have f3 : ∀ b ∈ fp, FpOk X pins (upd H2 D (TsO X.prog X.w D [])) b ∧ b < s3.heap.objs.size := fun b hb => by
    obtain ⟨o, e, _⟩ := T.obj _ _ st2 b hb
    have lt : b < s2.heap.objs.size := Heap.lt_size e
    refine ⟨⟨(upd_ne (by rw [hD]; exact Nat.ne_of_lt lt)).trans (f2 b hb).1, (f2 b hb).2⟩, ?_⟩
    rw [h3, Heap.size_push]
    exact Nat.lt_succ_of_lt lt
  have st3 : tn 0 s3.heap := T.keep _ _ _ st2 fun b _ o e => by rw [h3]; exact Heap.get?_push_of_some _ e
  obtain ⟨H3, eH3⟩ : ∃ H3, H3 = upd H2 D (TsO X.prog X.w D []) := ⟨_, rfl⟩
  rw [← eH3] at I3 f3 w0
  have I4 := block_start I3 ok hN f3
  have pg := hg s3 H3 s3.heap.objs.size (cellsFrom (s3.heap.objs.size + 1) scope.names (cloFrom X.env.cells scope.names [])) fp
  have pt := ht s3 H3 s3.heap.objs.size (cellsFrom (s3.heap.objs.size + 1) scope.names (cloFrom X.env.cells scope.names [])) fp
  have pe := he s3 H3 s3.heap.objs.size (cellsFrom (s3.heap.objs.size + 1) scope.names (cloFrom X.env.cells scope.names [])) fp
  obtain ⟨ce, ece⟩ : ∃ ce, ce = compEnvC scope (cellsFrom (s3.heap.objs.size + 1) scope.names (cloFrom X.env.cells scope.names [])) s3.heap.objs.size X.env := ⟨_, rfl⟩
  rw [← ece] at I4 pg pt pe
  have cL : ce.locals = s3.heap.objs.size := by rw [ece]; rfl
  obtain ⟨s4, es4⟩ : ∃ s4 : Shared, s4 = { s3 with heap := pushCells (s3.heap.push { cls := .type "dict", data := .dict #[] }) scope.names } := ⟨_, rfl⟩
  rw [← es4] at I4 ⊢
  have goal' : codeAny (model X.prog X.w) X.A (.compStart (.SetComp elt [⟨tg, iter, ifs, 0⟩] scope pos) 0 (.ref it) (.ref D) ce) (compPost (model X.prog X.w) X.A X.xe none (EP X pins σ Q) (.ref D) ce.locals) s4 := by
    have st4 : tn 0 s4.heap := T.keep _ _ _ st3 fun b _ o e => by rw [es4]; exact pushCells_keeps _ _ _ _ (Heap.get?_push_of_some _ e)
    have n4 : ∀ b ∈ fp, H3 b = none := fun b hb => (f3 b hb).1.1
    have own' : ∀ {σ' : L2.St} {H' : Hp} {s' : Shared}, Inv (X.blk s3 H3 scope ce fp) [] σ' H' s' → (∀ b ∈ fp, H' b = none) → ∀ b ∈ fp, FpOk (X.blk s3 H3 scope ce fp) [] H' b := fun I' n b hb =>
      ⟨n b hb, (I'.ok.exf b hb).1, I'.ok.exfs b hb, .inl hb, fun x c e => (I'.ok.exf b hb).2 x c e, fun p hp => absurd (show p ∈ ([] : List (Addr × Obj)) ++ [] from hp) (by simp)⟩
    have loop : codeAny (model X.prog X.w) X.A (.compLoop (.SetComp elt [⟨tg, iter, ifs, 0⟩] scope pos) 0 (.ref it) (.ref D) ce) (compPost (model X.prog X.w) X.A X.xe none (EP X pins σ Q) (.ref D) ce.locals) s4 := by
      refine PpSet.compLoopS_any (fun n s' => ∃ i H', W i n H' ∧ (∀ b ∈ fp, H' b = none) ∧ tn i s'.heap ∧ Inv (X.blk s3 H3 scope ce fp) [] (wipe σ (own.map (·.2))) H' s') ?_ m0 ⟨0, H3, w0, n4, st4, I4⟩
      rintro n s5 ⟨i, H5, w5, n5, st5, I5⟩
      rcases turn i n H5 w5 with ⟨stop, qq⟩ | ⟨go, Nx, hNx, step⟩
      · refine thnF (T.done (X.blk s3 H3 scope ce fp) rfl rfl rfl hc i [] s5 _ H5 (fun _ _ => False) I5 (own' I5 n5) st5 stop) fun r s6 ⟨hr, I6⟩ => ?_
        subst hr
        have I7 : Inv X pins σ H5 s6 := I3.call' (ch := fp) I6.os I6.base I6.hok I6.bare fun b hb => ⟨(f3 b hb).1.2.2.2.1, (f3 b hb).1.2.1, (f3 b hb).1.2.2.2.2.1, (f3 b hb).1.2.2.2.2.2⟩
        have nC : H5 s3.heap.objs.size = none := cL ▸ I6.free
        obtain ⟨m, hn, _⟩ := I6.loc
        have hn : s6.heap.Ns ce.locals m := hn
        obtain ⟨g0, g1, g3, g4, g5, g6⟩ := I3.fpOk (Nat.le_refl s3.heap.objs.size) nC
        rw [← cL] at g0 g1 g3 g4 g5 g6
        exact ⟨m, hn, fun h'' sb => ⟨.ref D, H5, I7.turned (t' := s6.toks) (fun b o hb e => (sb.2 b hb).trans e) g0 g1 g4 g5 g6, rfl, qq⟩⟩
      · refine thnF (T.item (X.blk s3 H3 scope ce fp) rfl rfl rfl hc i [] s5 _ H5 (fun _ _ => False) I5 (own' I5 n5) st5 go) fun r s6 ⟨u, hr, h6⟩ => ?_
        subst hr
        refine thnF h6 fun _ s7 ⟨x, H7, I7, r7, y7, st7, n7⟩ => ?_
        have I7' := I7.pinned (own' I7 n7) (T.obj _ _ st7)
        refine thnF (pg.run _ s7 _ H7 x u _ I7' r7 (step x H7 y7)) fun _ s8 ⟨σ8, H8, I8, hw8, q8⟩ => thnF (pt.run _ s8 σ8 H8 _ I8 q8) fun b s9 ⟨H9, I9, q9⟩ => ?_
        have fin : ∀ {s' : Shared} {H' : Hp}, Inv (X.blk s3 H3 scope ce fp) ([] ++ pinsAt fp s7.heap) σ8 H' s' → Nx H' → ∃ m, m < n ∧ ∃ i H', W i m H' ∧ (∀ b ∈ fp, H' b = none) ∧ tn i s'.heap ∧ Inv (X.blk s3 H3 scope ce fp) [] (wipe σ (own.map (·.2))) H' s' := fun {s' H'} I' nx => by
          obtain ⟨m', lt, w'⟩ := hNx H' nx
          have pin' : ∀ b ∈ fp, ∀ o, s7.heap.get? b = some o → s'.heap.get? b = some o ∧ H' b = none := fun b hb o e =>
            have z := I'.pin (b, o) (List.mem_append_right _ (List.mem_append_right _ (mem_pinsAt hb e)))
            ⟨z.1, z.2.1⟩
          refine ⟨m', lt, i + 1, H', w', fun b hb => ?_, T.keep _ _ _ st7 fun b hb o e => (pin' b hb o e).1, (I'.unpinned (pins := [])).weak (by rw [← hw8, wipe_length]) fun j v e => ?_⟩
          · obtain ⟨o, e, _⟩ := T.obj _ _ st7 b hb
            exact (pin' b hb o e).2
          · rw [← hw8] at e
            exact (wipe_some e).1
        cases b with
        | false =>
          simp only [Bool.false_eq_true, if_false] at q9 ⊢
          exact fin I9 q9
        | true =>
          simp only [if_true] at q9 ⊢
          refine thnF (pe.run _ s9 σ8 H9 _ I9 q9) fun z s10 ⟨yv, H10, I10, r10, p, k, L, ey, hp, hD10, hT, hf, nxo, nx⟩ => ?_
          subst ey
          cases r10
          exact ts_addD (X := X.blk s3 H3 scope ce fp) I10 hu hD10 hT hp hf (fun hk s11 I11 => fin I11 (nxo hk)) fun hk L' s11 pm I11 => fin I11 (nx hk L' pm)
    exact PpSet.codeAny_compStart_set loop (T.self X.A 0 _ _ _ st4 loop)
  rw [cL, ece] at goal'
  exact goal'
end
section
variable {P : Program} {w : World} {σ : L2.St} {H : Hp} {Q : VK} {K : PySem.W.Frag} {g : TG} {tt : TT} {te : TE} {vs : List Nat} {a : Addr}
def sctED (P : Program) (w : World) (K : PySem.W.Frag) (D : Addr) (N : Hp → Prop) : VK := fun y H4 => ∃ (p : Addr) (k : List Str) (L : List (Addr × List Str)), y = .ref p ∧ SqT K H4 p (k.map V.str) ∧ H4 D = some (TsO P w D L) ∧ (∀ q ∈ L, SqT K H4 q.1 (q.2.map V.str)) ∧ L.length + 1 < 64 ∧
  (k ∈ L.map (·.2) → N H4) ∧ (k ∉ L.map (·.2) → ∀ L' : List (Addr × List Str), L'.Perm ((p, k) :: L) → N (upd H4 D (TsO P w D L')))
def sctKD (P : Program) (w : World) (K : PySem.W.Frag) (g : TG) (tt : TT) (te : TE) (vs : List Nat) (σ : L2.St) (Q : VK) : It → Hp → Prop := fun J h => tSctD P w K (fun _ h' R => R J h') g tt te vs σ h Q
theorem i_sctD {wi : TI} (h : wi σ H (sctKD P w K g tt te vs σ Q)) : tSctD P w K wi g tt te vs σ H Q := h
theorem s_tupD (xs : List V) (Pv : Addr → Nat → Hp → Prop) (h0 : ∀ D, H D = none → Pv D 0 (upd H D (TsO P w D []))) (hl : ∀ D i H, i ≤ xs.length → Pv D i H → SqT K H a xs)
    (hs : ∀ D i x H, xs[i]? = some x → Pv D i H → g x (wipe σ vs) H fun σ2 H2 => wipe σ2 vs = wipe σ vs ∧ tt σ2 H2 fun b H3 => if b = true then te σ2 H3 (sctED P w K D (Pv D (i + 1))) else Pv D (i + 1) H3)
    (hd : ∀ D H, Pv D xs.length H → Q (.ref D) H) : sctKD P w K g tt te vs σ Q (Itt K a) H := by
  intro D nD
  refine ⟨fun i m H => m = xs.length - i ∧ i ≤ xs.length ∧ Pv D i H, ⟨xs.length, by simp, Nat.zero_le _, h0 D nD⟩, ?_⟩
  rintro i m H ⟨rfl, hi, p⟩
  have q := hl D i H hi p
  by_cases lt : i < xs.length
  · refine .inr ⟨⟨xs, xs[i], q, by simp [lt]⟩, Pv D (i + 1), fun H' p' => ⟨xs.length - (i + 1), by omega, rfl, lt, p'⟩, fun x H' y => ?_⟩
    obtain ⟨rfl, y⟩ := y
    exact hs D i x _ (y xs q) p
  · have e : i = xs.length := by omega
    subst e
    exact .inl ⟨⟨xs, q, Nat.le_refl _⟩, hd D H p⟩
end
end
section
open L2 PySem PySem.Spec PyProof.Rows
mutual
def okD : PyData → Bool
  | .str z => decide (z.cps.size ≤ 1000) && PyData.strOk z
  | .list ds => okAll ds
  | .tuple ds => okAll ds
  | _ => true
def okAll : List PyData → Bool
  | [] => true
  | d :: ds => okD d && okAll ds
end
theorem ok_all : ∀ {ds : List PyData}, okAll ds = true ↔ ∀ d ∈ ds, okD d = true
  | [] => ⟨fun _ d h => (nomatch h), fun _ => rfl⟩
  | d :: ds => by
    show (okD d && okAll ds) = true ↔ _
    rw [Bool.and_eq_true, ok_all (ds := ds)]
    exact ⟨fun h e he => (List.mem_cons.mp he).elim (fun k => k ▸ h.1) (h.2 e), fun h => ⟨h d List.mem_cons_self, fun e he => h e (List.mem_cons_of_mem _ he)⟩⟩
theorem ok_tup {ds : List PyData} : okD (.tuple ds) = true ↔ ∀ d ∈ ds, okD d = true := ok_all
theorem ok_str {z : Str} : okD (.str z) = true ↔ z.cps.size ≤ 1000 ∧ PyData.strOk z = true := by
  show (decide (z.cps.size ≤ 1000) && PyData.strOk z) = true ↔ _
  rw [Bool.and_eq_true, decide_eq_true_iff]
structure Nw (m n : Nat) (d : PyData) : Prop where
  sho : d.showable = true
  dct : d.hasDict = false
  dep : d.depth ≤ m
  lea : d.leavesShort 40 = true
  wei : d.weight ≤ n
  ok : okD d = true
theorem nw_str {z : Str} (h : PyData.strOk z = true) {k : Nat} (hl : z.cps.size ≤ k) (hk : k ≤ 1000) : Nw 0 k (.str z) := by
  refine ⟨rfl, rfl, Nat.le_refl _, ?_, hl, ok_str.mpr ⟨by omega, h⟩⟩
  refine PyData.leavesShort_of_canLay0 40 (.str z) ?_ rfl
  exact h
theorem nw_name {z : Str} (h : nmOk z = true) : Nw 0 8 (.str z) := nw_str (nmOk_str h) (nm_size h) (by decide)
theorem nw_int {i : Int} (h0 : -5 ≤ i) (h1 : i < 395) : Nw 0 10 (.int i) :=
  have r := sml_int h0 h1
  ⟨r.1.sho, rfl, Nat.le_refl _, r.1.lea, r.2, rfl⟩
theorem Nw.sh {m n : Nat} {d : PyData} (h : Nw m n d) (hm : m ≤ 40) (hn : n ≤ 390000) : ShO d := by
  have l := PyData.shown_le 40 (by decide) d h.lea
  have hl : d.shown.length ≤ sizeLine := by
    rw [sizeLine_eq]
    have := h.wei
    omega
  refine ⟨fun i e => ?_, fun x e => ?_, h.sho, .inl h.dct, Nat.le_trans h.dep hm, hl⟩
  · have := h.sho
    subst e
    exact of_decide_eq_true this
  · subst e
    exact hl
end
section
open L2 PySem PySem.Spec PyProof.Rows
def nameB : PyData → Bool
  | .str z => nmOk z
  | _ => false
def txtD : PyData → Str
  | .str z => z
  | _ => ""
def roadB (ps : List Str) : PyData → Bool
  | .tuple [.str x, .str y] => (decide (x ∈ ps) && decide (y ∈ ps)) && !decide (x = y)
  | _ => false
def endsD : PyData → Str × Str
  | .tuple [.str x, .str y] => (x, y)
  | _ => ("", "")
def uniqB (rs : List (Str × Str)) : Bool := decide (rs.Pairwise fun r s => r ≠ s ∧ r ≠ (s.2, s.1))
def placesB : PyData → Bool
  | .tuple ds => (decide (1 ≤ ds.length) && decide (ds.length ≤ 8)) && (ds.all nameB && decide (ds.map txtD).Nodup)
  | _ => false
def roadsB (ps : List Str) : PyData → Bool
  | .tuple ds => decide (ds.length ≤ 14) && (ds.all (roadB ps) && uniqB (ds.map endsD))
  | _ => false
def namesOf : PyData → List Str
  | .tuple ds => ds.map txtD
  | _ => []
def webB : PyData → Bool
  | .tuple [p, r] => placesB p && roadsB (namesOf p) r
  | _ => false
theorem names_all : ∀ {ds : List PyData}, ds.all nameB = true → ds = (ds.map txtD).map PyData.str ∧ ∀ z ∈ ds.map txtD, nmOk z = true
  | [], _ => ⟨rfl, fun z h => nomatch h⟩
  | d :: ds, h => by
    rw [List.all_cons, Bool.and_eq_true] at h
    obtain ⟨a, b⟩ := names_all h.2
    cases d with
    | str z =>
      refine ⟨?_, fun y hy => ?_⟩
      · show PyData.str z :: ds = PyData.str z :: (ds.map txtD).map PyData.str
        rw [← a]
      · rcases List.mem_cons.mp hy with e | hy
        · rw [e]
          exact h.1
        · exact b y hy
    | _ => cases h.1
theorem road_is {ps : List Str} {d : PyData} (h : roadB ps d = true) : d = roadD (endsD d) ∧ (endsD d).1 ∈ ps ∧ (endsD d).2 ∈ ps ∧ (endsD d).1 ≠ (endsD d).2 := by
  unfold roadB at h
  split at h
  · rename_i x y
    rw [Bool.and_eq_true, Bool.and_eq_true, decide_eq_true_iff, decide_eq_true_iff] at h
    refine ⟨rfl, h.1.1, h.1.2, ?_⟩
    have := h.2
    show x ≠ y
    simpa using this
  · cases h
theorem roads_all {ps : List Str} : ∀ {ds : List PyData}, ds.all (roadB ps) = true → ds = (ds.map endsD).map roadD ∧ ∀ r ∈ ds.map endsD, r.1 ∈ ps ∧ r.2 ∈ ps ∧ r.1 ≠ r.2
  | [], _ => ⟨rfl, fun z h => nomatch h⟩
  | d :: ds, h => by
    rw [List.all_cons, Bool.and_eq_true] at h
    obtain ⟨a, b⟩ := roads_all h.2
    obtain ⟨e1, e2⟩ := road_is h.1
    refine ⟨?_, fun y hy => ?_⟩
    · show d :: ds = roadD (endsD d) :: (ds.map endsD).map roadD
      rw [← a, ← e1]
    · rcases List.mem_cons.mp hy with e | hy
      · rw [e]
        exact e2
      · exact b y hy
theorem places_is {d : PyData} (h : placesB d = true) : ∃ ps : List Str, d = tsD ps ∧ namesOf d = ps ∧ IsNames ps ∧ 0 < ps.length ∧ ps.length ≤ 8 := by
  cases d with
  | tuple ds =>
    have h' : ((decide (1 ≤ ds.length) && decide (ds.length ≤ 8)) && (ds.all nameB && decide (ds.map txtD).Nodup)) = true := h
    rw [Bool.and_eq_true, Bool.and_eq_true, Bool.and_eq_true, decide_eq_true_iff, decide_eq_true_iff, decide_eq_true_iff] at h'
    obtain ⟨a, b⟩ := names_all h'.2.1
    refine ⟨ds.map txtD, ?_, rfl, ⟨h'.2.2, b⟩, by rw [List.length_map]; exact h'.1.1, by rw [List.length_map]; exact h'.1.2⟩
    show PyData.tuple ds = .tuple ((ds.map txtD).map .str)
    rw [← a]
  | _ => cases h
theorem roads_is {ps : List Str} {d : PyData} (h : roadsB ps d = true) : ∃ rs : List (Str × Str), d = rsD rs ∧ rs.length ≤ 14 ∧ (∀ r ∈ rs, r.1 ∈ ps ∧ r.2 ∈ ps ∧ r.1 ≠ r.2) ∧ rs.Pairwise fun r s => r ≠ s ∧ r ≠ (s.2, s.1) := by
  cases d with
  | tuple ds =>
    have h' : (decide (ds.length ≤ 14) && (ds.all (roadB ps) && uniqB (ds.map endsD))) = true := h
    rw [Bool.and_eq_true, Bool.and_eq_true, decide_eq_true_iff] at h'
    obtain ⟨a, b⟩ := roads_all h'.2.1
    refine ⟨ds.map endsD, ?_, by rw [List.length_map]; exact h'.1, b, of_decide_eq_true h'.2.2⟩
    show PyData.tuple ds = .tuple ((ds.map endsD).map roadD)
    rw [← a]
  | _ => cases h
theorem web_is {d : PyData} (h : webB d = true) : ∃ ps rs, d = webD ps rs ∧ IsWeb ps rs := by
  unfold webB at h
  split at h
  · rename_i p r
    rw [Bool.and_eq_true] at h
    obtain ⟨ps, rfl, e, n1, n2, n3⟩ := places_is h.1
    rw [e] at h
    obtain ⟨rs, rfl, r1, r2, r3⟩ := roads_is h.2
    exact ⟨ps, rs, rfl, n1, n2, n3, r1, r2, r3⟩
  · cases h
theorem txt_names (ps : List Str) : (ps.map PyData.str).map txtD = ps := by
  rw [List.map_map]
  exact List.map_id ps
theorem pair_roads (rs : List (Str × Str)) : (rs.map roadD).map endsD = rs := by
  rw [List.map_map]
  exact List.map_id rs
theorem names_nameB {ps : List Str} (h : ∀ z ∈ ps, nmOk z = true) : (ps.map PyData.str).all nameB = true := List.all_eq_true.mpr fun d hd => by
  obtain ⟨z, hz, rfl⟩ := List.mem_map.mp hd
  exact h z hz
theorem is_places {ps : List Str} (n : IsNames ps) (h0 : 0 < ps.length) (h8 : ps.length ≤ 8) : placesB (tsD ps) = true := by
  show ((decide (1 ≤ (ps.map PyData.str).length) && decide ((ps.map PyData.str).length ≤ 8)) && ((ps.map PyData.str).all nameB && decide ((ps.map PyData.str).map txtD).Nodup)) = true
  rw [txt_names, names_nameB n.2, List.length_map, decide_eq_true h8, decide_eq_true (show 1 ≤ ps.length from h0), decide_eq_true n.1]
  rfl
theorem road_roadB {ps : List Str} {r : Str × Str} (h : r.1 ∈ ps ∧ r.2 ∈ ps ∧ r.1 ≠ r.2) : roadB ps (roadD r) = true := by
  show ((decide (r.1 ∈ ps) && decide (r.2 ∈ ps)) && !decide (r.1 = r.2)) = true
  rw [decide_eq_true h.1, decide_eq_true h.2.1, decide_eq_false h.2.2]
  rfl
theorem is_roads {ps : List Str} {rs : List (Str × Str)} (h14 : rs.length ≤ 14) (e : ∀ r ∈ rs, r.1 ∈ ps ∧ r.2 ∈ ps ∧ r.1 ≠ r.2) (u : rs.Pairwise fun r s => r ≠ s ∧ r ≠ (s.2, s.1)) : roadsB ps (rsD rs) = true := by
  show (decide ((rs.map roadD).length ≤ 14) && ((rs.map roadD).all (roadB ps) && uniqB ((rs.map roadD).map endsD))) = true
  rw [pair_roads, List.length_map, decide_eq_true h14, show (rs.map roadD).all (roadB ps) = true from List.all_eq_true.mpr fun d hd => by
    obtain ⟨r, hr, rfl⟩ := List.mem_map.mp hd
    exact road_roadB (e r hr), show uniqB rs = true from decide_eq_true u]
  rfl
theorem is_webB {ps : List Str} {rs : List (Str × Str)} (W : IsWeb ps rs) : webB (webD ps rs) = true := by
  show (placesB (tsD ps) && roadsB ((ps.map PyData.str).map txtD) (rsD rs)) = true
  rw [txt_names, is_places W.names W.pos W.le8, is_roads W.le14 W.ends W.uniq]
  rfl
def srt (r : Str × Str) : List Str := if sortedS [r.1, r.2] = true then [r.1, r.2] else [r.2, r.1]
theorem srt_perm (r : Str × Str) : (srt r).Perm [r.1, r.2] := by
  unfold srt
  split
  · exact .refl _
  · exact .swap _ _ _
theorem srt_of {r : Str × Str} {ys : List Str} (p : ys.Perm [r.1, r.2]) (s : sortedS ys = true) : ys = srt r := by
  unfold srt
  have h2 : ys = [r.1, r.2] ∨ ys = [r.2, r.1] := by
    have hl := p.length_eq
    match ys, hl with
    | [u, v], _ =>
      have hu := p.mem_iff.mp (show u ∈ [u, v] from .head _)
      rcases List.mem_cons.mp hu with e | e
      · subst e
        have := List.perm_singleton.mp (List.Perm.cons_inv p)
        rw [List.cons.injEq] at this
        exact .inl (by rw [this.1])
      · have e : u = r.2 := List.mem_singleton.mp e
        subst e
        have p2 : [r.2, v].Perm [r.2, r.1] := p.trans (List.Perm.swap _ _ [])
        have := List.perm_singleton.mp (List.Perm.cons_inv p2)
        rw [List.cons.injEq] at this
        exact .inr (by rw [this.1])
  split
  · rename_i h
    exact sorted_one p s h
  · rename_i h
    rcases h2 with e | e
    · rw [e] at s
      exact absurd s h
    · exact e
theorem srt_two {x y : Str} (a : ¬ sortedS [x, y] = true) (b : ¬ sortedS [y, x] = true) : False := by
  have key : ∀ {u v : Str}, ¬ sortedS [u, v] = true → v.cps.toList < u.cps.toList := fun {u v} h => by
    have h' : ¬ (!ltCps v.cps.toList u.cps.toList && true) = true := h
    rw [Bool.and_true, PyProof.Rows.ltCps_eq, Bool.not_eq_true', decide_eq_false_iff_not, Decidable.not_not] at h'
    exact h'
  exact absurd (key a) (List.lt_asymm (key b))
theorem srt_eq {r q : Str × Str} : srt r = srt q ↔ r = q ∨ r = (q.2, q.1) := by
  constructor
  · intro h
    have h1 : [r.1, r.2].Perm [q.1, q.2] := (srt_perm r).symm.trans (h ▸ srt_perm q)
    have hu := h1.mem_iff.mp (show r.1 ∈ [r.1, r.2] from .head _)
    rcases List.mem_cons.mp hu with e | e
    · left
      rw [e] at h1
      have := List.perm_singleton.mp (List.Perm.cons_inv h1)
      rw [List.cons.injEq] at this
      exact Prod.ext e this.1
    · right
      have e : r.1 = q.2 := List.mem_singleton.mp e
      rw [e] at h1
      have := List.perm_singleton.mp (List.Perm.cons_inv (h1.trans (List.Perm.swap _ _ [])))
      rw [List.cons.injEq] at this
      exact Prod.ext e this.1
  · rintro (rfl | rfl)
    · rfl
    · unfold srt
      by_cases a : sortedS [q.1, q.2] = true
      · by_cases b : sortedS [q.2, q.1] = true
        · rw [if_pos a, if_pos b]
          exact sorted_one (List.Perm.swap _ _ []) b a
        · rw [if_pos a, if_neg b]
      · by_cases b : sortedS [q.2, q.1] = true
        · rw [if_neg a, if_pos b]
        · rw [if_neg a, if_neg b]
          exact (srt_two a b).elim
end
section
open L2 PySem PySem.Spec PyProof.Rows
def stB (k : Nat) : PyData → Bool
  | .int i => decide (0 ≤ i) && decide (i < (k : Int))
  | _ => false
def statesB (k many : Nat) : PyData → Bool
  | .tuple ds => decide (ds.length = many) && ds.all (stB k)
  | _ => false
def sumsB (k n : Nat) : PyData → Bool
  | .tuple ds => decide (ds.length = k) && ds.all (statesB k (n * (k - 1) + 1))
  | _ => false
def mostB : PyData → Bool
  | .int i => decide (0 ≤ i) && decide (i ≤ 9)
  | _ => false
def textB (near : List Str) : PyData → Bool
  | .str z => decide (z ∈ near)
  | _ => false
def worthB (k : Nat) (near : List Str) (s : Str) (w : PyData) : Bool :=
  if s = "table" then statesB k (k ^ (near.length + 1)) w else if s = "sum" then sumsB k near.length w else if s = "most" then mostB w else decide (s = "copy") && textB near w
def bareL : List Str := ["keep", "least", "greatest", "odd"]
def ruleB (k : Nat) (near : List Str) : PyData → Bool
  | .tuple (.str s :: r) => if s ∈ bareL then r.isEmpty else match r with
    | [w] => worthB k near s w
    | _ => false
  | _ => false
def rulesB (k : Nat) (ps : List Str) (rs : List (Str × Str)) : PyData → Bool
  | .tuple ds => decide (ds.length = ps.length) && (List.range ps.length).all fun i => ruleB k (nearL ps rs (ps.getD i "")) (ds.getD i .none)
  | _ => false
def roadsOf : PyData → List (Str × Str)
  | .tuple ds => ds.map endsD
  | _ => []
def webPs : PyData → List Str
  | .tuple [p, _] => namesOf p
  | _ => []
def webRs : PyData → List (Str × Str)
  | .tuple [_, r] => roadsOf r
  | _ => []
def twoB : PyData → Bool
  | .int i => decide (2 ≤ i) && decide (i ≤ 3)
  | _ => false
def kOf : PyData → Nat
  | .int i => i.toNat
  | _ => 0
def hallB : PyData → Bool
  | .tuple [dk, dw, dr] => (twoB dk && webB dw) && (decide (kOf dk ^ (webPs dw).length ≤ 256) && rulesB (kOf dk) (webPs dw) (webRs dw) dr)
  | _ => false
theorem st_is {k : Nat} {d : PyData} (h : stB k d = true) : ∃ n : Nat, d = .int (n : Int) ∧ n < k := by
  cases d with
  | int i =>
    have h' : (decide (0 ≤ i) && decide (i < (k : Int))) = true := h
    rw [Bool.and_eq_true, decide_eq_true_iff, decide_eq_true_iff] at h'
    obtain ⟨n, rfl⟩ := Int.eq_ofNat_of_zero_le h'.1
    exact ⟨n, rfl, by omega⟩
  | _ => cases h
theorem sts_is {k : Nat} : ∀ {ds : List PyData}, ds.all (stB k) = true → ∃ t : List Nat, ds = t.map (fun n => PyData.int ((n : Nat) : Int)) ∧ ∀ n ∈ t, n < k
  | [], _ => ⟨[], rfl, fun n h => nomatch h⟩
  | d :: ds, h => by
    rw [List.all_cons, Bool.and_eq_true] at h
    obtain ⟨n, rfl, hn⟩ := st_is h.1
    obtain ⟨t, rfl, ht⟩ := sts_is h.2
    exact ⟨n :: t, rfl, fun m hm => (List.mem_cons.mp hm).elim (fun e => e ▸ hn) (ht m)⟩
theorem states_is {k many : Nat} {d : PyData} (h : statesB k many d = true) : ∃ t : List Nat, d = intsD t ∧ t.length = many ∧ ∀ n ∈ t, n < k := by
  cases d with
  | tuple ds =>
    have h' : (decide (ds.length = many) && ds.all (stB k)) = true := h
    rw [Bool.and_eq_true, decide_eq_true_iff] at h'
    obtain ⟨t, rfl, ht⟩ := sts_is h'.2
    exact ⟨t, rfl, by rw [← h'.1, List.length_map], ht⟩
  | _ => cases h
theorem rows_is {k m : Nat} : ∀ {ds : List PyData}, ds.all (statesB k m) = true → ∃ ts : List (List Nat), ds = ts.map intsD ∧ ∀ t ∈ ts, t.length = m ∧ ∀ n ∈ t, n < k
  | [], _ => ⟨[], rfl, fun n h => nomatch h⟩
  | d :: ds, h => by
    rw [List.all_cons, Bool.and_eq_true] at h
    obtain ⟨t, rfl, ht⟩ := states_is h.1
    obtain ⟨ts, rfl, hts⟩ := rows_is h.2
    exact ⟨t :: ts, rfl, fun m hm => (List.mem_cons.mp hm).elim (fun e => e ▸ ht) (hts m)⟩
theorem worth_is {k : Nat} {near : List Str} {s : Str} {w : PyData} (h : worthB k near s w = true) : RuleD k near (.tuple [.str s, w]) := by
  unfold worthB at h
  split at h
  · rename_i e
    subst e
    obtain ⟨t, rfl, h1, h2⟩ := states_is h
    exact .table t h1 h2
  · split at h
    · rename_i e
      subst e
      cases w with
      | tuple ds =>
        have h' : (decide (ds.length = k) && ds.all (statesB k (near.length * (k - 1) + 1))) = true := h
        rw [Bool.and_eq_true, decide_eq_true_iff] at h'
        obtain ⟨ts, rfl, h2⟩ := rows_is h'.2
        exact .sum ts (by rw [← h'.1, List.length_map]) h2
      | _ => cases h
    · split at h
      · rename_i e
        subst e
        cases w with
        | int i =>
          have h' : (decide (0 ≤ i) && decide (i ≤ 9)) = true := h
          rw [Bool.and_eq_true, decide_eq_true_iff, decide_eq_true_iff] at h'
          obtain ⟨n, rfl⟩ := Int.eq_ofNat_of_zero_le h'.1
          exact .most n (by omega)
        | _ => cases h
      · rw [Bool.and_eq_true, decide_eq_true_iff] at h
        obtain ⟨rfl, h2⟩ := h
        cases w with
        | str z => exact .copy z (of_decide_eq_true h2)
        | _ => cases h2
theorem rule_is {k : Nat} {near : List Str} {d : PyData} (h : ruleB k near d = true) : RuleD k near d := by
  unfold ruleB at h
  split at h
  · rename_i s r
    split at h
    · rename_i m
      have e : r = [] := by
        cases r with
        | nil => rfl
        | cons x r => cases h
      subst e
      rcases List.mem_cons.mp m with rfl | m
      · exact .keep
      rcases List.mem_cons.mp m with rfl | m
      · exact .least
      rcases List.mem_cons.mp m with rfl | m
      · exact .greatest
      obtain rfl := List.mem_singleton.mp m
      exact .odd
    · split at h
      · exact worth_is h
      · cases h
  · cases h
theorem hall_is {d : PyData} (h : hallB d = true) : ∃ k ps rs ds, d = hallD k ps rs ds ∧ IsHall k ps rs ds := by
  unfold hallB at h
  split at h
  · rename_i dk dw dr
    rw [Bool.and_eq_true, Bool.and_eq_true, Bool.and_eq_true, decide_eq_true_iff] at h
    obtain ⟨⟨h1, h2⟩, h3, h4⟩ := h
    obtain ⟨ps, rs, rfl, W⟩ := web_is h2
    have e1 : webPs (webD ps rs) = ps := txt_names ps
    have e2 : webRs (webD ps rs) = rs := pair_roads rs
    rw [e1] at h3 h4
    rw [e2] at h4
    cases dk with
    | int i =>
      have h1' : (decide (2 ≤ i) && decide (i ≤ 3)) = true := h1
      rw [Bool.and_eq_true, decide_eq_true_iff, decide_eq_true_iff] at h1'
      obtain ⟨k, rfl⟩ := Int.eq_ofNat_of_zero_le (show 0 ≤ i by omega)
      have h3' : k ^ ps.length ≤ 256 := h3
      cases dr with
      | tuple ds =>
        have h4' : (decide (ds.length = ps.length) && (List.range ps.length).all fun i => ruleB k (nearL ps rs (ps.getD i "")) (ds.getD i .none)) = true := h4
        rw [Bool.and_eq_true, decide_eq_true_iff, List.all_eq_true] at h4'
        refine ⟨k, ps, rs, ds, rfl, by omega, W, h3', h4'.1, fun i z d hz hd => ?_⟩
        have hi := (List.getElem?_eq_some_iff.mp hz).1
        have := h4'.2 i (List.mem_range.mpr hi)
        rw [List.getD_eq_getElem?_getD, List.getD_eq_getElem?_getD, hz, hd] at this
        exact rule_is this
      | _ => cases h4
    | _ => cases h1
  · cases h
theorem is_st {k n : Nat} (h : n < k) : stB k (.int (n : Int)) = true := by
  show (decide ((0 : Int) ≤ (n : Int)) && decide ((n : Int) < (k : Int))) = true
  rw [decide_eq_true (by omega), decide_eq_true (by omega)]
  rfl
theorem is_states {k : Nat} {t : List Nat} (h : ∀ n ∈ t, n < k) : statesB k t.length (intsD t) = true := by
  show (decide ((t.map fun n => PyData.int ((n : Nat) : Int)).length = t.length) && (t.map fun n => PyData.int ((n : Nat) : Int)).all (stB k)) = true
  rw [decide_eq_true (List.length_map ..), Bool.true_and, List.all_eq_true]
  intro d hd
  obtain ⟨n, hn, rfl⟩ := List.mem_map.mp hd
  exact is_st (h n hn)
theorem rule_worth {k : Nat} {near : List Str} {s : Str} {w : PyData} (h : s ∉ bareL) : ruleB k near (.tuple [.str s, w]) = worthB k near s w := by
  show (if s ∈ bareL then [w].isEmpty else worthB k near s w) = _
  rw [if_neg h]
theorem is_rule {k : Nat} {near : List Str} {d : PyData} (h : RuleD k near d) : ruleB k near d = true := by
  cases h with
  | table t hl hk =>
    rw [rule_worth (by decide +kernel)]
    unfold worthB
    rw [if_pos rfl, ← hl]
    exact is_states hk
  | sum ts hl hk =>
    rw [rule_worth (by decide +kernel)]
    unfold worthB
    rw [if_neg (by decide +kernel), if_pos rfl]
    show (decide ((ts.map intsD).length = k) && (ts.map intsD).all (statesB k (near.length * (k - 1) + 1))) = true
    rw [List.length_map, decide_eq_true hl, Bool.true_and, List.all_eq_true]
    intro d hd
    obtain ⟨t, ht, rfl⟩ := List.mem_map.mp hd
    rw [← (hk t ht).1]
    exact is_states (hk t ht).2
  | keep => rfl
  | least => rfl
  | greatest => rfl
  | odd => rfl
  | most n h =>
    rw [rule_worth (by decide +kernel)]
    unfold worthB
    rw [if_neg (by decide +kernel), if_neg (by decide +kernel), if_pos rfl]
    show (decide ((0 : Int) ≤ (n : Int)) && decide ((n : Int) ≤ 9)) = true
    rw [decide_eq_true (by omega), decide_eq_true (by omega)]
    rfl
  | copy z h =>
    rw [rule_worth (by decide +kernel)]
    unfold worthB
    rw [if_neg (by decide +kernel), if_neg (by decide +kernel), if_neg (by decide +kernel)]
    show (decide (("copy" : Str) = "copy") && decide (z ∈ near)) = true
    rw [decide_eq_true rfl, decide_eq_true h]
    rfl
theorem is_hallB {k : Nat} {ps : List Str} {rs : List (Str × Str)} {ds : List PyData} (h : IsHall k ps rs ds) : hallB (hallD k ps rs ds) = true := by
  show (((decide ((2 : Int) ≤ (k : Int)) && decide ((k : Int) ≤ 3)) && webB (webD ps rs)) && (decide (k ^ ((ps.map PyData.str).map txtD).length ≤ 256) && rulesB k ((ps.map PyData.str).map txtD) ((rs.map roadD).map endsD) (.tuple ds))) = true
  rw [txt_names, pair_roads, is_webB h.web, decide_eq_true h.few, decide_eq_true (by rcases h.two with e | e <;> omega), decide_eq_true (by rcases h.two with e | e <;> omega)]
  show (decide (ds.length = ps.length) && (List.range ps.length).all fun i => ruleB k (nearL ps rs (ps.getD i "")) (ds.getD i .none)) = true
  rw [decide_eq_true h.len, Bool.true_and, List.all_eq_true]
  intro i hi
  have hi' := List.mem_range.mp hi
  have hd : i < ds.length := by rw [h.len]; exact hi'
  rw [List.getD_eq_getElem?_getD, List.getD_eq_getElem?_getD, List.getElem?_eq_getElem hi', List.getElem?_eq_getElem hd]
  exact is_rule (h.rules i _ _ (List.getElem?_eq_getElem hi') (List.getElem?_eq_getElem hd))
end
section
open L2 PySem PySem.Spec PyProof.Rows
end
section
open L2 PySem PySem.Spec PyProof.Rows
mutual
def noL : PyData → Bool
  | .list _ => false
  | .tuple ds => noLs ds
  | .dict kvs => kvs.isEmpty
  | _ => true
def noLs : List PyData → Bool
  | [] => true
  | d :: ds => noL d && noLs ds
end
theorem no_ls : ∀ {ds : List PyData}, noLs ds = true ↔ ∀ d ∈ ds, noL d = true
  | [] => ⟨fun _ d h => (nomatch h), fun _ => rfl⟩
  | d :: ds => by
    show (noL d && noLs ds) = true ↔ _
    rw [Bool.and_eq_true, no_ls (ds := ds)]
    exact ⟨fun h e he => (List.mem_cons.mp he).elim (fun k => k ▸ h.1) (h.2 e), fun h => ⟨h d List.mem_cons_self, fun e he => h e (List.mem_cons_of_mem _ he)⟩⟩
section
variable {X : Cx} {pins : List (Addr × Obj)} {σ : L2.St} {H : Hp} {s : Shared} {a : Addr}
mutual
theorem Ob.readsN (I : Inv X pins σ H s) : ∀ (d : PyData) (v : V) (u : Value), noL d = true → Ob X.K H a v d → RelV v u → ∃ as, Reads s.heap u d as ∧ sysModules ∉ as
  | .none, _, _, _, h, r => by
    cases h
    cases r
    exact ⟨_, .none, List.not_mem_nil⟩
  | .bool b, _, _, _, h, r => by
    cases h
    cases r
    exact ⟨_, .bool b, List.not_mem_nil⟩
  | .int i, _, _, _, h, r => by
    cases h
    obtain ⟨t, rfl⟩ := r
    exact ⟨_, .int i t, List.not_mem_nil⟩
  | .str x, _, _, _, h, r => by
    cases h
    obtain ⟨t, rfl⟩ := r
    exact ⟨_, .str x t, List.not_mem_nil⟩
  | .list ds, _, _, t, _, _ => by cases t
  | .tuple ds, _, _, t, h, r => by
    cases h with
    | tup sq al =>
      cases r
      obtain ⟨its, rv, ⟨o, ho, hc, m, hd⟩, _⟩ := I.tuple sq
      obtain ⟨as, q, n⟩ := ObAll.readsN I ds _ its t al rv
      exact ⟨as, .tuple ho hc hd q, n⟩
  | .dict kvs, v, u, t, h, r => by
    obtain ⟨as, q, n⟩ := Ob.reads I (.dict kvs) v u h r
    exact ⟨as, q, n kvs rfl⟩
theorem ObAll.readsN (I : Inv X pins σ H s) : ∀ (ds : List PyData) (vs : List V) (us : List Value), noLs ds = true → ObAll X.K H a vs ds → Vals vs us → ∃ as, ReadsAll s.heap us ds as ∧ sysModules ∉ as
  | [], _, _, _, h, r => by
    cases h
    cases r
    exact ⟨[], .nil, List.not_mem_nil⟩
  | d :: ds, _, _, t, h, r => by
    have t' : (noL d && noLs ds) = true := t
    rw [Bool.and_eq_true] at t'
    cases h with
    | cons h1 h2 =>
      cases r with
      | cons r1 r2 =>
        obtain ⟨as, q1, n1⟩ := Ob.readsN I d _ _ t'.1 h1 r1
        obtain ⟨bs, q2, n2⟩ := ObAll.readsN I ds _ _ t'.2 h2 r2
        exact ⟨as ++ bs, .cons q1 q2, fun m => (List.mem_append.mp m).elim n1 n2⟩
end
end
def ShY (d : PyData) : Prop := ShO d ∨ (isT d = true ∧ noL d = true ∧ d.showable = true ∧ d.depth ≤ 40 ∧ d.shown.length ≤ sizeLine)
def rShowY (K : PySem.W.Frag) : List V → Hp → VK → Prop := fun xs H Q => ∃ (x : V) (d : PyData) (a : Addr), xs = [x] ∧ Ob K H a x d ∧ ShY d ∧ Q (.str (shO d)) H
theorem k_showY {X : Cx} {K : PySem.W.Frag} (hg : X.A.guards = some []) (hu : X.A.units + 64 < cLine) (hK : X.K = K := by rfl) : CallR X (.builtin "repr") (rShowY K) := by
  intro pins s σ H xs us Q I r h
  obtain ⟨x, d, a, rfl, od, sh, q⟩ := h
  rcases sh with sh | ⟨ht, hn, h1, h2, h3⟩
  · exact k_showO hg hu hK pins s σ H _ us Q I r ⟨x, d, a, rfl, od, sh, q⟩
  · subst hK
    match us, r with
    | [u], .cons ru .nil =>
      obtain ⟨ds, rfl⟩ : ∃ ds, d = .tuple ds := by
        cases d with
        | tuple ds => exact ⟨ds, rfl⟩
        | _ => cases ht
      obtain ⟨as, rd, ns⟩ := Ob.readsN I _ _ _ hn od ru
      cases od with
      | @tup p _ _ sq al =>
      obtain rfl : u = Value.ref p := ru
      exact repr_of_reads' rd h1 (fun _ => ns) hg (by omega) (fun b o e => e) (fun h' t tk k => ⟨.str _, H, I.kept k, ⟨t, rfl⟩, q⟩) h3
def shAll : Nat → PyData → Prop
  | 0, d => ShY d
  | n + 1, d => ShY d ∧ ∀ ds, d = .tuple ds → ∀ e ∈ ds, shAll n e
theorem shAll.top : ∀ {n : Nat} {d : PyData}, shAll n d → ShY d
  | 0, _, h => h
  | _ + 1, _, h => h.1
structure Nv (m n : Nat) (d : PyData) : Prop where
  sho : d.showable = true
  nol : noL d = true
  dep : d.depth ≤ m
  lea : d.leavesShort 40 = true
  wei : d.weight ≤ n
  ok : okD d = true
theorem Nv.sh {m n : Nat} {d : PyData} (h : Nv m n d) (hm : m ≤ 40) (hn : n ≤ 390000) : ShY d := by
  have l := PyData.shown_le 40 (by decide) d h.lea
  have hl : d.shown.length ≤ sizeLine := by
    rw [sizeLine_eq]
    have := h.wei
    omega
  have base : d.hasDict = false ∨ d = .dict [] → ShY d := fun c => .inl ⟨fun i e => by
    have := h.sho
    subst e
    exact of_decide_eq_true this, fun x e => by
    subst e
    exact hl, h.sho, c, Nat.le_trans h.dep hm, hl⟩
  cases d with
  | tuple ds => exact .inr ⟨rfl, h.nol, h.sho, Nat.le_trans h.dep hm, hl⟩
  | list ds => exact absurd h.nol (by simp [noL])
  | dict kvs =>
    have : kvs.isEmpty = true := h.nol
    obtain rfl := List.isEmpty_iff.mp this
    exact base (.inr rfl)
  | _ => exact base (.inl rfl)
theorem all_get : ∀ {ds : List PyData} {d : PyData}, d ∈ ds → (PyData.showableAll ds = true → d.showable = true) ∧ (PyData.hasDictAll ds = false → d.hasDict = false) ∧ d.depth ≤ PyData.depthAll ds ∧ (PyData.leavesShortAll 40 ds = true → d.leavesShort 40 = true) ∧ d.weight ≤ PyData.weightAll ds
  | e :: ds, d, h => by
    rcases List.mem_cons.mp h with rfl | h
    · refine ⟨fun k => ?_, fun k => ?_, Nat.le_max_left _ _, fun k => ?_, by show d.weight ≤ d.weight + 1 + PyData.weightAll ds; omega⟩
      · have k' : (d.showable && PyData.showableAll ds) = true := k
        rw [Bool.and_eq_true] at k'
        exact k'.1
      · have k' : (d.hasDict || PyData.hasDictAll ds) = false := k
        rw [Bool.or_eq_false_iff] at k'
        exact k'.1
      · have k' : (d.leavesShort 40 && PyData.leavesShortAll 40 ds) = true := k
        rw [Bool.and_eq_true] at k'
        exact k'.1
    · obtain ⟨a1, a2, a3, a4, a5⟩ := all_get h
      refine ⟨fun k => ?_, fun k => ?_, Nat.le_trans a3 (Nat.le_max_right _ _), fun k => ?_, by show d.weight ≤ e.weight + 1 + PyData.weightAll ds; omega⟩
      · have k' : (e.showable && PyData.showableAll ds) = true := k
        rw [Bool.and_eq_true] at k'
        exact a1 k'.2
      · have k' : (e.hasDict || PyData.hasDictAll ds) = false := k
        rw [Bool.or_eq_false_iff] at k'
        exact a2 k'.2
      · have k' : (e.leavesShort 40 && PyData.leavesShortAll 40 ds) = true := k
        rw [Bool.and_eq_true] at k'
        exact a4 k'.2
theorem Nw.get {m n : Nat} {ds : List PyData} (h : Nw m n (.tuple ds)) {d : PyData} (hd : d ∈ ds) : Nw m n d := by
  obtain ⟨a1, a2, a3, a4, a5⟩ := all_get hd
  have hdp : PyData.depthAll ds + 1 ≤ m := h.dep
  exact ⟨a1 h.sho, a2 h.dct, by omega, a4 h.lea, Nat.le_trans a5 h.wei, ok_tup.mp h.ok d hd⟩
theorem Nv.get {m n : Nat} {ds : List PyData} (h : Nv m n (.tuple ds)) {d : PyData} (hd : d ∈ ds) : Nv m n d := by
  obtain ⟨a1, _, a3, a4, a5⟩ := all_get hd
  have hdp : PyData.depthAll ds + 1 ≤ m := h.dep
  exact ⟨a1 h.sho, no_ls.mp h.nol d hd, by omega, a4 h.lea, Nat.le_trans a5 h.wei, ok_tup.mp h.ok d hd⟩
theorem Nw.all {m n : Nat} (hm : m ≤ 40) (hn : n ≤ 390000) : ∀ (j : Nat) {d : PyData}, Nw m n d → shAll j d
  | 0, _, h => .inl (h.sh hm hn)
  | j + 1, _, h => ⟨.inl (h.sh hm hn), fun ds e x hx => by
    subst e
    exact Nw.all hm hn j (h.get hx)⟩
theorem Nv.all {m n : Nat} (hm : m ≤ 40) (hn : n ≤ 390000) : ∀ (j : Nat) {d : PyData}, Nv m n d → shAll j d
  | 0, _, h => h.sh hm hn
  | j + 1, _, h => ⟨h.sh hm hn, fun ds e x hx => by
    subst e
    exact Nv.all hm hn j (h.get hx)⟩
end
section
open L2 PySem PySem.Spec PyProof.Rows
structure Nz (b : Bool) (m n : Nat) (d : PyData) : Prop where
  sho : d.showable = true
  dct : b = false → d.hasDict = false
  nol : b = true → noL d = true
  dep : d.depth ≤ m
  lea : d.leavesShort 40 = true
  wei : d.weight ≤ n
  ok : okD d = true
structure Nzs (b : Bool) (m n : Nat) (ds : List PyData) : Prop where
  sho : PyData.showableAll ds = true
  dct : b = false → PyData.hasDictAll ds = false
  nol : b = true → noLs ds = true
  dep : PyData.depthAll ds ≤ m
  lea : PyData.leavesShortAll 40 ds = true
  wei : PyData.weightAll ds ≤ n
  ok : okAll ds = true
theorem Nz.mono {b : Bool} {m n m' n' : Nat} {d : PyData} (h : Nz b m n d) (hm : m ≤ m') (hn : n ≤ n') : Nz b m' n' d := ⟨h.sho, h.dct, h.nol, Nat.le_trans h.dep hm, h.lea, Nat.le_trans h.wei hn, h.ok⟩
theorem Nzs.mono {b : Bool} {m n m' n' : Nat} {ds : List PyData} (h : Nzs b m n ds) (hm : m ≤ m') (hn : n ≤ n') : Nzs b m' n' ds := ⟨h.sho, h.dct, h.nol, Nat.le_trans h.dep hm, h.lea, Nat.le_trans h.wei hn, h.ok⟩
theorem Nzs.nil {b : Bool} {m : Nat} : Nzs b m 0 [] := ⟨rfl, fun _ => rfl, fun _ => rfl, Nat.zero_le _, rfl, Nat.zero_le _, rfl⟩
theorem Nzs.cons {b : Bool} {m n n' : Nat} {d : PyData} {ds : List PyData} (h : Nz b m n d) (g : Nzs b m n' ds) : Nzs b m (n + 1 + n') (d :: ds) := by
  refine ⟨?_, fun e => ?_, fun e => ?_, ?_, ?_, ?_, ?_⟩
  · show (d.showable && PyData.showableAll ds) = true
    rw [h.sho, g.sho]
    rfl
  · show (d.hasDict || PyData.hasDictAll ds) = false
    rw [h.dct e, g.dct e]
    rfl
  · show (noL d && noLs ds) = true
    rw [h.nol e, g.nol e]
    rfl
  · show max d.depth (PyData.depthAll ds) ≤ m
    have := h.dep
    have := g.dep
    omega
  · show (d.leavesShort 40 && PyData.leavesShortAll 40 ds) = true
    rw [h.lea, g.lea]
    rfl
  · show d.weight + 1 + PyData.weightAll ds ≤ n + 1 + n'
    have := h.wei
    have := g.wei
    omega
  · show (okD d && okAll ds) = true
    rw [h.ok, g.ok]
    rfl
theorem nzs_of {b : Bool} {m n : Nat} : ∀ {ds : List PyData}, (∀ d ∈ ds, Nz b m n d) → Nzs b m ((n + 1) * ds.length) ds
  | [], _ => Nzs.nil.mono (Nat.le_refl _) (Nat.zero_le _)
  | d :: ds, h => (Nzs.cons (h d List.mem_cons_self) (nzs_of fun e he => h e (List.mem_cons_of_mem _ he))).mono (Nat.le_refl _) (by rw [List.length_cons, Nat.mul_succ]; omega)
theorem Nzs.tup {b : Bool} {m n : Nat} {ds : List PyData} (h : Nzs b m n ds) : Nz b (m + 1) n (.tuple ds) := ⟨h.sho, h.dct, h.nol, Nat.succ_le_succ h.dep, h.lea, h.wei, h.ok⟩
theorem Nz.nw {m n : Nat} {d : PyData} (h : Nz false m n d) : Nw m n d := ⟨h.sho, h.dct rfl, h.dep, h.lea, h.wei, h.ok⟩
theorem Nz.nv {m n : Nat} {d : PyData} (h : Nz true m n d) : Nv m n d := ⟨h.sho, h.nol rfl, h.dep, h.lea, h.wei, h.ok⟩
theorem Nz.all {b : Bool} {m n : Nat} {d : PyData} (h : Nz b m n d) (hm : m ≤ 40) (hn : n ≤ 390000) (j : Nat) : shAll j d := by
  cases b with
  | false => exact Nw.all hm hn j h.nw
  | true => exact Nv.all hm hn j h.nv
theorem nz_of {b : Bool} {m n : Nat} {d : PyData} (h : Nw m n d) (l : noL d = true) : Nz b m n d := ⟨h.sho, fun _ => h.dct, fun _ => l, h.dep, h.lea, h.wei, h.ok⟩
theorem nz_str {b : Bool} {z : Str} (h : PyData.strOk z = true) (hl : z.cps.size ≤ 20) : Nz b 0 20 (.str z) := nz_of (nw_str h hl (by decide)) rfl
theorem nz_int {b : Bool} {i : Int} (h0 : -5 ≤ i) (h1 : i < 395) : Nz b 0 10 (.int i) := nz_of (nw_int h0 h1) rfl
theorem nz_ints {b : Bool} {t : List Nat} (h : ∀ x ∈ t, x < 3) : Nzs b 0 (3 * t.length) (t.map fun n => PyData.int ((n : Nat) : Int)) := by
  induction t with
  | nil => exact .nil
  | cons x t ih =>
    have hx := h x List.mem_cons_self
    have key : ∀ y : Fin 3, (PyData.int ((y.1 : Nat) : Int)).weight ≤ 2 := by decide
    have h1 : Nz b 0 2 (.int ((x : Nat) : Int)) := ⟨(nz_int (b := b) (by omega) (by omega)).sho, fun _ => rfl, fun _ => rfl, Nat.zero_le _, (nz_int (b := b) (i := (x : Int)) (by omega) (by omega)).lea, key ⟨x, hx⟩, rfl⟩
    exact (Nzs.cons h1 (ih fun y hy => h y (List.mem_cons_of_mem _ hy))).mono (Nat.le_refl _) (by rw [List.length_cons]; omega)
theorem nz_name {b : Bool} {z : Str} (h : nmOk z = true) : Nz b 0 8 (.str z) := nz_of (nw_name h) rfl
theorem nz_rule {b : Bool} {k : Nat} {near : List Str} {d : PyData} (h : RuleD k near d) (hk : k ≤ 3) (hn : near.length ≤ 7) (hf : k ^ (near.length + 1) ≤ 256) (nm : ∀ z ∈ near, nmOk z = true) : Nz b 3 800 d := by
  have tx : ∀ z : Str, PyData.strOk z = true → z.cps.size ≤ 20 → Nz b 2 20 (.str z) := fun z h1 h2 => (nz_str h1 h2).mono (by decide) (Nat.le_refl _)
  have one : ∀ z : Str, PyData.strOk z = true → z.cps.size ≤ 20 → Nz b 3 800 (.tuple [.str z]) := fun z h1 h2 => (Nzs.cons (tx z h1 h2) .nil).tup.mono (Nat.le_refl _) (by decide)
  have two : ∀ (z : Str) (w : PyData), PyData.strOk z = true → z.cps.size ≤ 20 → Nz b 2 778 w → Nz b 3 800 (.tuple [.str z, w]) := fun z w h1 h2 h3 => (Nzs.cons (tx z h1 h2) (Nzs.cons h3 .nil)).tup.mono (Nat.le_refl _) (by decide)
  cases h with
  | table t hl hk2 => exact two _ _ (by decide +kernel) (by decide +kernel) ((nz_ints fun x hx => by have := hk2 x hx; omega).tup.mono (by decide) (by omega))
  | sum ts hl hk2 =>
    refine two _ _ (by decide +kernel) (by decide +kernel) ?_
    have := nzs_of (b := b) (m := 1) (n := 45) (ds := ts.map intsD) fun d hd => by
      obtain ⟨t, ht, rfl⟩ := List.mem_map.mp hd
      obtain ⟨h1, h2⟩ := hk2 t ht
      have hw15 : near.length * (k - 1) + 1 ≤ 15 := by
        have := Nat.mul_le_mul hn (show k - 1 ≤ 2 by omega)
        omega
      exact (nz_ints (b := b) fun x hx => by have := h2 x hx; omega).tup.mono (Nat.le_refl _) (by omega)
    rw [List.length_map] at this
    exact this.tup.mono (Nat.le_refl _) (by omega)
  | keep => exact one _ (by decide +kernel) (by decide +kernel)
  | least => exact one _ (by decide +kernel) (by decide +kernel)
  | greatest => exact one _ (by decide +kernel) (by decide +kernel)
  | odd => exact one _ (by decide +kernel) (by decide +kernel)
  | most n h9 => exact two _ _ (by decide +kernel) (by decide +kernel) ((nz_int (by omega) (by omega)).mono (by decide) (by decide))
  | copy z hz => exact two _ _ (by decide +kernel) (by decide +kernel) ((nz_name (nm z hz)).mono (by decide) (by decide))
end
section
open L2 PySem PySem.Spec PyProof.Rows
section
variable {k : Nat} {ps qs os : List Str} {rs : List (Str × Str)} {ds : List PyData} {x y : Str}
def partR (x y z : Str) : PyData := if z = x then .tuple [.str "copy", .str y] else if z = y then .tuple [.str "copy", .str x] else .tuple [.str "keep"]
def partRs (ps : List Str) (x y : Str) : List PyData := ps.map (partR x y)
def partS (ps : List Str) (x : Str) : List Nat := ps.map fun z => if z = x then 1 else 0
theorem near_iff {z : Str} : z ∈ nearL ps rs x ↔ z ∈ ps ∧ isRoad rs x z = true := List.mem_filter
theorem part_hall (W : IsWeb ps rs) (hx : x ∈ ps) (hy : y ∈ ps) (hr : isRoad rs x y = true) : IsHall 2 ps rs (partRs ps x y) where
  two := .inl rfl
  web := W
  few := by
    have := Nat.pow_le_pow_right (n := 2) (by decide) W.le8
    omega
  len := List.length_map ..
  rules := fun i z d hz hd => by
    unfold partRs at hd
    rw [List.getElem?_map, hz] at hd
    obtain rfl := Option.some.inj hd
    unfold partR
    by_cases c : z = x
    · rw [if_pos c, c]
      exact .copy y (near_iff.mpr ⟨hy, hr⟩)
    · rw [if_neg c]
      by_cases c2 : z = y
      · rw [if_pos c2, c2]
        exact .copy x (near_iff.mpr ⟨hx, by rw [road_sym]; exact hr⟩)
      · rw [if_neg c2]
        exact .keep
theorem part_get {z : Str} (hz : z ∈ ps) : (partRs ps x y).getD (ps.idxOf z) .none = partR x y z := by
  unfold partRs
  rw [List.getD_eq_getElem?_getD, List.getElem?_map, (idx_first hz).1]
  rfl
theorem part_keep {z : Str} {t : List Nat} (hl : t.length = ps.length) (hz : z ∈ ps) (n1 : z ≠ x) (n2 : z ≠ y) : stepN 2 ps rs (partRs ps x y) t z = t := by
  have lt := List.idxOf_lt_length_iff.mpr hz
  have h1 : (partRs ps x y).getD (ps.idxOf z) .none = .tuple [.str "keep"] := by
    rw [part_get hz]
    unfold partR
    rw [if_neg n1, if_neg n2]
  unfold stepN ownV seenL
  rw [h1, nextV_keep, List.map_cons, List.headD_cons, List.getD_eq_getElem?_getD, List.getElem?_eq_getElem (by omega)]
  exact List.set_getElem_self _
theorem near_look {z : Str} {t : List Nat} (h : y ∈ nearL ps rs z) : (((seenL ps rs z).map fun i => t.getD i 0).tail).getD ((nearL ps rs z).idxOf y) 0 = t.getD (ps.idxOf y) 0 := by
  unfold seenL
  rw [List.map_cons, List.tail_cons, List.map_map, List.getD_eq_getElem?_getD, List.getElem?_map, (idx_first h).1]
  rfl
theorem part_copy {z u : Str} {t : List Nat} (hz : z ∈ ps) (h1 : partR x y z = .tuple [.str "copy", .str u]) (hu : u ∈ nearL ps rs z) : stepN 2 ps rs (partRs ps x y) t z = t.set (ps.idxOf z) (t.getD (ps.idxOf u) 0) := by
  unfold stepN ownV
  rw [part_get hz, h1]
  show t.set _ ((((seenL ps rs z).map fun i => t.getD i 0).tail).getD ((nearL ps rs z).idxOf u) 0) = _
  rw [near_look hu]
theorem part_day {l : List Str} {t : List Nat} (hl : t.length = ps.length) (h : ∀ z ∈ l, z ∈ ps ∧ z ≠ x ∧ z ≠ y) : dayN 2 ps rs (partRs ps x y) t l = t := by
  induction l with
  | nil => rfl
  | cons z r ih =>
    obtain ⟨h1, h2, h3⟩ := h z List.mem_cons_self
    show dayN 2 ps rs (partRs ps x y) (stepN 2 ps rs (partRs ps x y) t z) r = t
    rw [part_keep hl h1 h2 h3]
    exact ih fun u hu => h u (List.mem_cons_of_mem _ hu)
theorem split_two : ∀ {qs : List Str}, x ∈ qs → y ∈ qs → qs.idxOf x < qs.idxOf y → ∃ A B C, qs = A ++ x :: (B ++ y :: C)
  | [], hx, _, _ => absurd hx List.not_mem_nil
  | z :: r, hx, hy, h => by
    by_cases c : z = x
    · subst c
      have ny : y ≠ z := fun e => by
        rw [e] at h
        exact Nat.lt_irrefl _ h
      obtain ⟨B, C, e⟩ := List.append_of_mem ((List.mem_cons.mp hy).resolve_left ny)
      exact ⟨[], B, C, by rw [e]; rfl⟩
    · by_cases d : z = y
      · subst d
        rw [List.idxOf_cons_self] at h
        exact absurd h (Nat.not_lt_zero _)
      · have hx2 := (List.mem_cons.mp hx).resolve_left fun e => c e.symm
        have hy2 := (List.mem_cons.mp hy).resolve_left fun e => d e.symm
        rw [List.idxOf_cons, List.idxOf_cons, beq_eq_false_iff_ne.mpr c, beq_eq_false_iff_ne.mpr d] at h
        obtain ⟨A, B, C, e⟩ := split_two hx2 hy2 (Nat.lt_of_succ_lt_succ h)
        exact ⟨z :: A, B, C, by rw [e]; rfl⟩
theorem part_run (nd : ps.Nodup) (pm : qs.Perm ps) {A B C : List Str} {u w : Str} (e : qs = A ++ u :: (B ++ w :: C)) (hs : (u = x ∧ w = y) ∨ (u = y ∧ w = x)) {t : List Nat} (hl : t.length = ps.length) :
    dayN 2 ps rs (partRs ps x y) t qs = stepN 2 ps rs (partRs ps x y) (stepN 2 ps rs (partRs ps x y) t u) w := by
  have nq := pm.nodup_iff.mpr nd
  have mq : ∀ z ∈ qs, z ∈ ps := fun z hz => pm.mem_iff.mp hz
  rw [e] at nq mq
  have nA : ∀ z ∈ A, z ≠ u ∧ z ≠ w := fun z hz => by
    have := (List.nodup_append.mp nq).2.2 z hz
    exact ⟨this u List.mem_cons_self, this w (List.mem_cons_of_mem _ (List.mem_append_right _ List.mem_cons_self))⟩
  have n2 := (List.nodup_append.mp nq).2.1
  have n3 := (List.nodup_cons.mp n2).2
  have nu := (List.nodup_cons.mp n2).1
  have nB : ∀ z ∈ B, z ≠ u ∧ z ≠ w := fun z hz => ⟨fun c => nu (List.mem_append_left _ (c ▸ hz)), (List.nodup_append.mp n3).2.2 z hz w List.mem_cons_self⟩
  have n4 := List.nodup_cons.mp (List.nodup_append.mp n3).2.1
  have nC : ∀ z ∈ C, z ≠ u ∧ z ≠ w := fun z hz => ⟨fun c => nu (List.mem_append_right _ (List.mem_cons_of_mem _ (c ▸ hz))), fun c => n4.1 (c ▸ hz)⟩
  have tr : ∀ z : Str, z ≠ u ∧ z ≠ w → z ≠ x ∧ z ≠ y := fun z h => by
    rcases hs with ⟨rfl, rfl⟩ | ⟨rfl, rfl⟩
    · exact h
    · exact ⟨h.2, h.1⟩
  have mA : ∀ z ∈ A, z ∈ ps := fun z hz => mq z (List.mem_append_left _ hz)
  have mB : ∀ z ∈ B, z ∈ ps := fun z hz => mq z (List.mem_append_right _ (List.mem_cons_of_mem _ (List.mem_append_left _ hz)))
  have mC : ∀ z ∈ C, z ∈ ps := fun z hz => mq z (List.mem_append_right _ (List.mem_cons_of_mem _ (List.mem_append_right _ (List.mem_cons_of_mem _ hz))))
  rw [e, day_app, part_day hl fun z hz => ⟨mA z hz, tr z (nA z hz)⟩]
  show dayN 2 ps rs (partRs ps x y) (stepN 2 ps rs (partRs ps x y) t u) (B ++ w :: C) = _
  rw [day_app, part_day (by rw [step_len]; exact hl) fun z hz => ⟨mB z hz, tr z (nB z hz)⟩]
  show dayN 2 ps rs (partRs ps x y) (stepN 2 ps rs (partRs ps x y) (stepN 2 ps rs (partRs ps x y) t u) w) C = _
  exact part_day (by rw [step_len, step_len]; exact hl) fun z hz => ⟨mC z hz, tr z (nC z hz)⟩
theorem partS_len : (partS ps x).length = ps.length := List.length_map ..
theorem partS_lt : ∀ n ∈ partS ps x, n < 2 := fun n hn => by
  obtain ⟨z, _, rfl⟩ := List.mem_map.mp hn
  show (if z = x then 1 else 0) < 2
  split <;> decide
theorem partS_at {z : Str} (hz : z ∈ ps) : (partS ps x).getD (ps.idxOf z) 0 = if z = x then 1 else 0 := by
  unfold partS
  rw [List.getD_eq_getElem?_getD, List.getElem?_map, (idx_first hz).1]
  rfl
theorem part_ne (W : IsWeb ps rs) (pq : qs.Perm ps) (po : os.Perm ps) (hx : x ∈ ps) (hy : y ∈ ps) (ne : x ≠ y) (hr : isRoad rs x y = true) (h1 : qs.idxOf x < qs.idxOf y) (h2 : os.idxOf y < os.idxOf x) :
    dayN 2 ps rs (partRs ps x y) (partS ps x) qs ≠ dayN 2 ps rs (partRs ps x y) (partS ps x) os := by
  obtain ⟨A, B, C, e1⟩ := split_two (pq.mem_iff.mpr hx) (pq.mem_iff.mpr hy) h1
  obtain ⟨A', B', C', e2⟩ := split_two (po.mem_iff.mpr hy) (po.mem_iff.mpr hx) h2
  have hH := part_hall W hx hy hr
  have rx : partR x y x = .tuple [.str "copy", .str y] := by unfold partR; rw [if_pos rfl]
  have ry : partR x y y = .tuple [.str "copy", .str x] := by unfold partR; rw [if_neg (Ne.symm ne), if_pos rfl]
  have mx : y ∈ nearL ps rs x := near_iff.mpr ⟨hy, hr⟩
  have my : x ∈ nearL ps rs y := near_iff.mpr ⟨hx, by rw [road_sym]; exact hr⟩
  have lx := List.idxOf_lt_length_iff.mpr hx
  have ly := List.idxOf_lt_length_iff.mpr hy
  have nij : ps.idxOf x ≠ ps.idxOf y := fun e => ne (idx_inj hx hy e)
  have sl := partS_len (ps := ps) (x := x)
  rw [part_run W.names.1 pq e1 (.inl ⟨rfl, rfl⟩) sl, part_run W.names.1 po e2 (.inr ⟨rfl, rfl⟩) sl, part_copy hx rx mx, part_copy hy ry my, part_copy hy ry my, part_copy hx rx mx]
  intro e
  have e3 := congrArg (fun l : List Nat => l.getD (ps.idxOf x) 0) e
  rw [partS_at hx, partS_at hy, if_pos rfl, if_neg (Ne.symm ne)] at e3
  rw [List.getD_eq_getElem?_getD, List.getD_eq_getElem?_getD (l := List.set (List.set (partS ps x) (ps.idxOf y) 1) _ _), List.getElem?_set_ne (Ne.symm nij), List.getElem?_set_self (by rw [sl]; exact lx), List.getElem?_set_self (by rw [List.length_set, sl]; exact lx)] at e3
  rw [List.getD_eq_getElem?_getD, List.getElem?_set_self (by rw [sl]; exact ly)] at e3
  exact absurd e3 (by decide)
def unlikeL (qs os : List Str) (rs : List (Str × Str)) : List (Str × Str) := (arr qs rs).filter fun p => decide (p ∉ arr os rs)
theorem no_back (W : IsWeb ps rs) {r : Str × Str} (h : r ∈ rs) : swp r ∉ rs := fun c => by
  have ne : swp r ≠ r := fun e => (W.ends r h).2.2 (congrArg Prod.snd e)
  have u := W.uniq
  obtain ⟨i, hi⟩ := List.mem_iff_getElem?.mp h
  obtain ⟨j, hj⟩ := List.mem_iff_getElem?.mp c
  obtain ⟨li, ei⟩ := List.getElem?_eq_some_iff.mp hi
  obtain ⟨lj, ej⟩ := List.getElem?_eq_some_iff.mp hj
  rw [List.pairwise_iff_getElem] at u
  rcases Nat.lt_trichotomy i j with q | q | q
  · have := (u i j li lj q).2
    rw [ei, ej] at this
    exact this rfl
  · subst q
    exact ne (ej.symm.trans ei)
  · have := (u j i lj li q).2
    rw [ei, ej] at this
    exact this rfl
theorem unlike_nil (W : IsWeb ps rs) (h : unlikeL qs os rs = []) : arr qs rs = arr os rs := by
  have h2 : ∀ r ∈ rs, arr1 qs r ∈ arr os rs := fun r hr => Decidable.byContradiction fun c => by
    have : arr1 qs r ∈ unlikeL qs os rs := List.mem_filter.mpr ⟨List.mem_map.mpr ⟨r, hr, rfl⟩, decide_eq_true c⟩
    rw [h] at this
    exact List.not_mem_nil this
  refine List.map_congr_left fun r hr => ?_
  obtain ⟨u, hu, e⟩ := List.mem_map.mp (h2 r hr)
  have hru : u = r := by
    rcases arr1_or os u with q | q <;> rcases arr1_or qs r with q2 | q2
    · rw [q, q2] at e
      exact e
    · rw [q, q2] at e
      exact absurd (e ▸ hu) (no_back W hr)
    · rw [q, q2] at e
      exact absurd (e ▸ hr) (no_back W hu)
    · rw [q, q2] at e
      have := congrArg swp e
      exact this
  rw [hru] at e
  exact e.symm
theorem unlike_get (W : IsWeb ps rs) (pq : qs.Perm ps) (po : os.Perm ps) {p : Str × Str} (h : p ∈ unlikeL qs os rs) : p.1 ∈ ps ∧ p.2 ∈ ps ∧ p.1 ≠ p.2 ∧ isRoad rs p.1 p.2 = true ∧ qs.idxOf p.1 < qs.idxOf p.2 ∧ os.idxOf p.2 < os.idxOf p.1 := by
  obtain ⟨h1, h2⟩ := List.mem_filter.mp h
  replace h2 := of_decide_eq_true h2
  obtain ⟨r, hr, rfl⟩ := List.mem_map.mp h1
  obtain ⟨m1, m2, ne⟩ := W.ends r hr
  have nq : ∀ (l : List Str), l.Perm ps → l.idxOf r.1 ≠ l.idxOf r.2 := fun l pl e => ne (by
    have a1 := (idx_first (pl.mem_iff.mpr m1)).1
    have a2 := (idx_first (pl.mem_iff.mpr m2)).1
    rw [e, a2] at a1
    exact (Option.some.inj a1).symm)
  have q1 := nq qs pq
  have q2 := nq os po
  have h3 : arr1 qs r ≠ arr1 os r := fun e => h2 (e ▸ List.mem_map.mpr ⟨r, hr, rfl⟩)
  have rd : isRoad rs r.1 r.2 = true := by
    unfold isRoad
    rw [decide_eq_true (show (r.1, r.2) ∈ rs from hr)]
    rfl
  unfold arr1 at h3 ⊢
  by_cases c : qs.idxOf r.1 < qs.idxOf r.2
  · rw [if_pos c] at h3 ⊢
    refine ⟨m1, m2, ne, rd, c, ?_⟩
    by_cases d : os.idxOf r.1 < os.idxOf r.2
    · rw [if_pos d] at h3
      exact absurd rfl h3
    · omega
  · rw [if_neg c] at h3 ⊢
    refine ⟨m2, m1, Ne.symm ne, by rw [road_sym]; exact rd, by show qs.idxOf r.2 < qs.idxOf r.1; omega, ?_⟩
    by_cases d : os.idxOf r.1 < os.idxOf r.2
    · exact d
    · rw [if_neg d] at h3
      exact absurd rfl h3
end
end
section
open L2 PySem PySem.Spec PyProof.Rows
def copyD (y : Str) : PyData := .tuple [.str "copy", .str y]
end
section
open L2 PySem PySem.Spec PyProof.Rows
section
variable {k : Nat} {ps qs os : List Str} {rs : List (Str × Str)} {ds : List PyData}
theorem unlike_eq (e : arr qs rs = arr os rs) : unlikeL qs os rs = [] := by
  unfold unlikeL
  rw [e]
  refine List.filter_eq_nil_iff.mpr fun p hp => ?_
  rw [decide_eq_false (fun c => c hp)]
  exact Bool.false_ne_true
end
end
section
open L2 PySem PySem.Spec PyProof.Rows
section
variable {ps os : List Str} {rs : List (Str × Str)} {ns : List Nat} {ds : List PyData}
variable (hH : IsHall 2 ps rs (ns.map mostD))
include hH
end
end
open L2 PySem PySem.Spec PyProof.Rows
local macro_rules | `(tactic| walk_at "jz") => `(tactic| first
  | assumption
  | (rw [sizeLine_eq]; simp only [List.length_map, List.length_append, List.length_cons, List.length_nil, List.length_range, List.length_take, List.length_drop]; omega)
  | (rw [sizeLine_eq]; omega)
  | fail "none")
local macro_rules | `(tactic| walk_at "jc") => `(tactic| first
  | assumption
  | (refine ⟨?_, ?_⟩ <;> omega)
  | (show (0 : Int) < _; omega)
  | (show (0 : Int) < _; decide)
  | (refine ⟨?_, ?_, ?_⟩ <;> decide)
  | (refine ⟨?_, ?_⟩ <;> decide)
  | (left; refine ⟨?_, ?_⟩ <;> omega)
  | (right; refine ⟨?_, ?_⟩ <;> omega)
  | fail "none")
local macro_rules | `(tactic| walk_at "jn") => `(tactic| first
  | assumption
  | (apply Ne.symm; assumption)
  | (refine Fd.ne (H := ?h0) (c := ?c0) ?e0 ?n0; (case n0 => assumption); (case e0 => walk_at "jf"))
  | (apply Ne.symm; refine Fd.ne (H := ?h0) (c := ?c0) ?e0 ?n0; (case n0 => assumption); (case e0 => walk_at "jf"))
  | (refine ne_of_none (H := ?h0) (o := ?o0) ?e0 ?n0; (case n0 => assumption); (case e0 => walk_at "jl"))
  | (apply Ne.symm; refine ne_of_none (H := ?h0) (o := ?o0) ?e0 ?n0; (case n0 => assumption); (case e0 => walk_at "jl"))
  | fail "none")
local macro_rules | `(tactic| walk_at "jl") => `(tactic| first
  | assumption
  | exact upd_same
  | (refine Ch.at (a := ?a0) (H := ?h0) ?c0 ?n0 ?e0; (case c0 => assumption); (case n0 => walk_at "jn"); (case e0 => walk_at "jl"))
  | (refine (upd_ne ?_).trans ?_; (walk_at "jn"); (walk_at "jl"))
  | fail "none")
local macro_rules | `(tactic| walk_at "jq") => `(tactic| first
  | assumption
  | ((with_reducible refine sq_lst ?_); (walk_at "jl"))
  | ((with_reducible refine sq_tup ?_); (walk_at "jl"))
  | ((with_reducible refine Ch.sqA (a := ?a0) (H := ?h0) ?c0 ?n0 ?e0); (case c0 => assumption); (case n0 => walk_at "jn"); (case e0 => walk_at "jq"))
  | ((with_reducible refine Ch.sqL (a := ?a0) (H := ?h0) ?c0 ?n0 ?e0); (case c0 => assumption); (case n0 => walk_at "jn"); (case e0 => walk_at "jq"))
  | ((with_reducible refine Ch.sqT (a := ?a0) (H := ?h0) ?c0 ?n0 ?e0); (case c0 => assumption); (case n0 => walk_at "jn"); (case e0 => walk_at "jq"))
  | ((with_reducible refine sqA_same (H := ?h0) ?c0 ?e0); (case c0 => first | assumption | (refine Same.upd_new ?_; assumption)); (case e0 => walk_at "jq"))
  | ((with_reducible refine SqA.l ?_); (walk_at "jq"))
  | ((with_reducible refine SqA.t ?_); (walk_at "jq"))
  | fail "none")
local macro_rules | `(tactic| walk_at "jf") => `(tactic| first
  | assumption
  | (refine Fd.upd ?_ ?_; (walk_at "jf"); (walk_at "jn"))
  | fail "none")
local macro_rules | `(tactic| walk_at "jh") => `(tactic| first
  | assumption
  | exact Ch.refl _
  | exact Ch.upd_self
  | (refine Ch.upd_l ?_ ?_; (walk_at "jh"); assumption)
  | (refine Ch.upd_a ?_; (walk_at "jh"))
  | (refine Ch.upd_n ?c0 ?c1; (case c1 => assumption); (case c0 => walk_at "jh"))
  | (refine Ch.trans (H1 := ?h1) ?c0 ?c1; (case c1 => assumption); (case c0 => walk_at "jh"))
  | fail "none")
local macro_rules | `(tactic| walk_at "jt") => `(tactic| first
  | assumption
  | exact TK.refl _
  | ((with_reducible refine TK.new' ?c0 ?c1); (case c1 => assumption); (case c0 => walk_at "jt"))
  | ((with_reducible refine TK.lst' (xs := ?xs1) ?c0 ?c1); (case c1 => walk_at "jl"); (case c0 => walk_at "jt"))
  | ((with_reducible refine TK.ch' (H1 := ?h1) (a := ?a1) (c := ?k1) ?c0 ?c1 ?c2); (case c1 => assumption); (case c2 => walk_at "jf"); (case c0 => walk_at "jt"))
  | fail "jt")
local macro_rules | `(tactic| walk_at "js") => `(tactic| with_reducible (first
  | refine i_seq ?_ | refine i_asg ?_ | refine i_gname ?_ | refine i_ifS ?_ | refine i_test ?_ | refine i_tB ?_ | refine i_ret ?_ | refine i_retN ?_ | refine i_drop ?_ | refine i_next ?_
  | refine i_op ?_ | refine i_un ?_ | refine i_c ?_ | refine i_rI0 ?_ | refine i_rU ?_ | refine i_add ?_ | refine i_sub ?_ | refine i_eqI ?_ | refine i_neI ?_ | refine i_eqS ?_ | refine i_neS ?_
  | refine i_bl ?_ | refine i_blQ ?_ | refine i_not ?_ | refine i_and ?_ | refine i_or ?_ | refine i_notV ?_ | refine i_andV ?_ | refine i_orV ?_ | refine i_if ?_ | refine i_chain ?_
  | refine i_gsub ?_ | refine i_cons ?_ | refine i_nil ?_ | refine i_cb ?_ | refine i_call ?_ | refine i_tup ?_ | refine i_lst ?_ | refine i_par ?_ | refine i_par' ?_ | refine i_par3 ?_ | refine i_par3' ?_
  | refine i_sl ?_ | refine i_npart ?_ | refine i_part ?_ | refine i_partI ?_ | refine i_bm ?_ | refine i_for ?_ | refine i_lc ?_ | refine i_yes ?_ | refine i_lrg ?_ | refine i_gcons ?_ | refine i_gnil ?_ | refine i_rng1 ?_ | refine i_rng2 ?_ | refine i_ilist ?_ | refine i_itup ?_
  | refine i_iteT ?_ | refine i_iteF ?_ | refine i_iteNT ?_ | refine i_iteNF ?_
  | fail "js"))
local macro_rules | `(tactic| walk_at "jv") => `(tactic| first
  | walk_at "js"
  | ((with_reducible refine i_var (v := ?v) ?e ?_); (case e => rfl))
  | ((with_reducible refine i_ixL (v := ?v) (xs := ?xs) ?e ?z ?_); (case e => walk_at "jq"); (case z => first | exact at0 | exact at1 | exact at2 | assumption))
  | ((with_reducible refine i_ixT (v := ?v) (xs := ?xs) ?e ?z ?_); (case e => walk_at "jq"); (case z => first | exact at0 | exact at1 | exact at2 | assumption))
  | ((with_reducible refine i_setL (xs := ?xs) (j := ?j) ?e ?z ?_); (case e => walk_at "jl"); (case z => first | rfl | assumption))
  | (with_reducible refine i_ite (fun _ => ?_) (fun _ => ?_))
  | (with_reducible refine i_iteN (fun _ => ?_) (fun _ => ?_))
  | ((with_reducible refine i_rI (i := ?i) (j := ?j) ?c ?_); (case c => walk_at "jc"))
  | (with_reducible refine i_int ?_)
  | (with_reducible refine i_intB ?_)
  | (with_reducible refine i_max ?_)
  | (with_reducible refine i_min ?_)
  | ((with_reducible refine i_tupL (ys := ?ys) ?e ?_); (case e => walk_at "jq"))
  | ((with_reducible refine i_tupT (ys := ?ys) ?e ?_); (case e => walk_at "jq"))
  | ((with_reducible refine i_lstL (ys := ?ys) ?e ?_); (case e => walk_at "jq"))
  | ((with_reducible refine i_lstT (ys := ?ys) ?e ?_); (case e => walk_at "jq"))
  | ((with_reducible refine i_lenL (ys := ?ys) ?e ?_); (case e => walk_at "jq"))
  | ((with_reducible refine i_lenT (ys := ?ys) ?e ?_); (case e => walk_at "jq"))
  | ((with_reducible refine i_all (bs := ?bs) ?e ?_); (case e => walk_at "jq"))
  | ((with_reducible refine i_slL (xs := ?xs) ?e ?_); (case e => walk_at "jq"))
  | ((with_reducible refine i_tyL (xs := ?xs) ?e ?_); (case e => walk_at "jq"))
  | ((with_reducible refine i_app (xs := ?xs) ?e ?z ?_); (case e => walk_at "jl"); (case z => walk_at "jz"))
  | ((with_reducible refine i_ixA (v := ?v) (xs := ?xs) ?e ?z ?_); (case e => walk_at "jq"); (case z => first | exact at0 | exact at1 | exact at2 | assumption))
  | ((with_reducible refine i_lenA (ys := ?ys) ?e ?_); (case e => walk_at "jq"))
  | ((with_reducible refine i_lstA (ys := ?ys) ?e ?_); (case e => walk_at "jq"))
  | ((with_reducible refine i_sum (ns := ?ns) ?e ?_); (case e => walk_at "jq"))
  | ((with_reducible refine i_rgK ?b ?_); (case b => first | assumption | (refine ⟨?_, ?_⟩ <;> omega)))
  | ((with_reducible refine i_rgK2 ?b ?_); (case b => first | assumption | (refine ⟨?_, ?_, ?_, ?_⟩ <;> omega)))
  | ((with_reducible refine i_ilK (xs := ?xs) ?e ?_); (case e => walk_at "jq"))
  | ((with_reducible refine i_itK (xs := ?xs) ?e ?_); (case e => walk_at "jq"))
  | ((with_reducible refine i_gtup (xs := ?xs) ?e ?z ?_); (case e => walk_at "jq"); (case z => rfl))
  | (with_reducible refine is_int _ ?_)
  | (with_reducible refine is_int_bool _ ?_)
  | (with_reducible refine is_str _ ?_)
  | ((with_reducible refine is_tup (xs := ?xs) ?e ?_); (case e => walk_at "jq"))
  | ((with_reducible refine i_wip ?z ?_); (case z => rfl))
  | ((with_reducible refine i_lcE (acc := ?acc) ?e ?z ?_); (case e => walk_at "jl"); (case z => walk_at "jz"))
  | ((with_reducible refine i_inS (ns := ?ns) ?e ?_); (case e => walk_at "jq"))
  | ((with_reducible refine i_al ?z ?_); (case z => first | (show _ ≤ sizeLine; decide) | walk_at "jz"))
  | (with_reducible refine i_nx ?_) | (with_reducible refine i_rt ?_) | (with_reducible refine i_bk ?_) | (with_reducible refine i_ct ?_)
  | fail "none")
section
open L2 PySem PySem.Spec PyProof.Rows
def topS (i : Nat) : Stmt := PySem.Challenge.pw_eachinturn_k34_rules_that_part_orders.main.body.getD i (.Pass ⟨0, 0, 0, 0⟩)
abbrev s__law_draw : Stmt := topS 53
theorem sc__law_draw : FnScope ["_law_feed_here", "_law_many", "_law_rest", "_law_got", "_law_stir"] ["_law_feed_here", "_law_many"] (defScope s__law_draw) := ⟨rfl, rfl, rfl, by decide +kernel, rfl, by decide +kernel, by decide +kernel⟩
abbrev s__law_feed : Stmt := topS 52
theorem sc__law_feed : FnScope ["_law_script", "_law_k", "_law_cell"] ["_law_script", "_law_k"] (defScope s__law_feed) := ⟨rfl, rfl, rfl, by decide +kernel, rfl, by decide +kernel, by decide +kernel⟩
abbrev s__law_one : Stmt := topS 54
theorem sc__law_one : FnScope ["_law_feed_here", "_law_things"] ["_law_feed_here", "_law_things"] (defScope s__law_one) := ⟨rfl, rfl, rfl, by decide +kernel, rfl, by decide +kernel, by decide +kernel⟩
abbrev s__law_mixed : Stmt := topS 55
theorem sc__law_mixed : FnScope ["_law_feed_here", "_law_things", "_law_pool", "_law_got", "_law_turn"] ["_law_feed_here", "_law_things"] (defScope s__law_mixed) := ⟨rfl, rfl, rfl, by decide +kernel, rfl, by decide +kernel, by decide +kernel⟩
abbrev s__law_names : Stmt := topS 56
theorem sc__law_names : FnScope ["_law_feed_here", "_law_many"] ["_law_feed_here", "_law_many"] (defScope s__law_names) := ⟨rfl, rfl, rfl, by decide +kernel, rfl, by decide +kernel, by decide +kernel⟩
section
variable {base : Heap} {P : Program} {w : World} {K : PySem.W.Frag} {mg : Str → Option Value}
theorem ok_draw (D : Dn K mg "_law_draw" s__law_draw ["_law_feed_here", "_law_many"]) (B : Bn mg) : Cl P w K mg base 1 "_law_draw" ["_law_feed_here", "_law_many"] spDraw := by
  refine D.cl sc__law_draw (fun vs H Q E h => ?_) (fun f cdv A outer s H vs Q E hr h => ?_)
  · obtain ⟨a, m, c, rfl, _⟩ := h
    rfl
  · obtain ⟨a, m, c, rfl, ⟨x, y, n, ha, hx, hy, hy2, hn, hnc⟩, hm0, hm1, hc, q⟩ := h
    refine ⟨_, (pss_cons (ps_if (pt_cmpR op_gt (pe_ix (k_ixL (K := K)) (pv 0) pe_int (fun _ _ => rfl)) pe_int (nomark _)) (pss_cons (ps_set (i := 2) sc__law_draw.nd rfl (by first | exact Or.inl rfl | exact Or.inr rfl) (pe_op op_fdiv (pe_ix (k_ixL (K := K)) (pv 0) pe_int (fun _ _ => rfl)) (pv 1)))
      (pss_cons (ps_set (i := 3) sc__law_draw.nd rfl (by first | exact Or.inl rfl | exact Or.inr rfl) (pe_op op_sub (pe_ix (k_ixL (K := K)) (pv 0) pe_int (fun _ _ => rfl)) (pe_op op_mul (pv 2) (pv 1))))
      (pss_cons (ps_asg (pv 2) (pg_sub (pv 0) pe_int set_list))
      (pss_one (ps_ret (pv 3)))))) pss_nil)
      (pss_cons (ps_asg (pe_op op_add (pe_ix (k_ixL (K := K)) (pv 0) pe_int (fun _ _ => rfl)) pe_int) (pg_sub (pv 0) pe_int set_list))
      (pss_cons (ps_set (i := 4) sc__law_draw.nd rfl (by first | exact Or.inl rfl | exact Or.inr rfl) (pe_op op_add (pe_ix (k_ixL (K := K)) (pv 0) pe_int (fun _ _ => rfl)) (pe_op op_mul pe_int (pe_ix (k_ixL (K := K)) (pv 0) pe_int (fun _ _ => rfl)))))
      (pss_cons (ps_set (i := 4) sc__law_draw.nd rfl (by first | exact Or.inl rfl | exact Or.inr rfl) (pe_op op_mod (pe_callTy (j_int) rfl B.int_ (by decide +kernel) (pa_cons (pe_op op_add (pe_op op_mulW (pe_op op_mulW (pv 4) (pv 4)) (pv 4)) (pe_op op_mul pe_int (pe_ix (k_ixL (K := K)) (pv 0) pe_int (fun _ _ => rfl)))) pa_nil)) (pe_op op_add (pe_op op_pow pe_int pe_int) pe_int)))
      (pss_cons (ps_set (i := 4) sc__law_draw.nd rfl (by first | exact Or.inl rfl | exact Or.inr rfl) (pe_op op_mod (pe_callTy (j_int) rfl B.int_ (by decide +kernel) (pa_cons (pe_op op_add (pe_op op_mulW (pv 4) (pv 4)) pe_int) pa_nil)) (pe_op op_add (pe_op op_pow pe_int pe_int) pe_int)))
      (pss_one (ps_ret (pe_op op_mod (pe_callTy (j_int) rfl B.int_ (by decide +kernel) (pa_cons (pe_op op_fdiv (pv 4) (pe_op op_pow pe_int pe_int)) pa_nil)) (pv 1))))))))), ?_⟩
    repeat' (walk_at "jv")
    · have e1 : 0 ≤ x / m := Int.ediv_nonneg hx (by omega)
      have e2 : x % m = x - x / m * m := by
        rw [Int.emod_def, Int.mul_comm]
      refine q _ _ (by rw [← e2]; exact Int.emod_nonneg _ (by omega)) (by rw [← e2]; exact Int.emod_lt_of_pos _ hm0) ⟨x / m, y, n, upd_same, e1, hy, hy2, hn, by omega⟩ Ch.upd_self
    · obtain ⟨c1, c2⟩ := cube_ok (s := y + 6700417 * (n + 1)) (by omega) (by omega)
      repeat' (walk_at "jv")
      generalize (y + 6700417 * (n + 1)) * (y + 6700417 * (n + 1)) * (y + 6700417 * (n + 1)) + 15485863 * (n + 1) = z at *
      have b1 : 0 ≤ z % (10 ^ Int.toNat 43 + 57) := Int.emod_nonneg _ (by decide)
      have b2 : z % (10 ^ Int.toNat 43 + 57) < 10 ^ Int.toNat 43 + 57 := Int.emod_lt_of_pos _ (by decide)
      rw [show (10 : Int) ^ Int.toNat 43 + 57 = 10 ^ 43 + 57 from rfl] at *
      generalize z % (10 ^ 43 + 57) = u at *
      have c3 : CMulW u u := (cube_ok b1 (Int.lt_trans b2 (by decide))).1
      repeat' (walk_at "jv")
      refine q _ _ (Int.emod_nonneg _ (by omega)) (Int.emod_lt_of_pos _ hm0) ⟨x, y, n + 1, upd_same, hx, hy, hy2, by omega, by omega⟩ Ch.upd_self
theorem ok_one (D : Dn K mg "_law_one" s__law_one ["_law_feed_here", "_law_things"]) (B : Bn mg) (C__law_draw : Cl P w K mg base 1 "_law_draw" ["_law_feed_here", "_law_many"] spDraw) : Cl P w K mg base 2 "_law_one" ["_law_feed_here", "_law_things"] (spOne K) := by
  refine D.cl sc__law_one (fun vs H Q E h => ?_) (fun f cdv A outer s H vs Q E hr h => ?_)
  · obtain ⟨a, p, c, xs, rfl, _⟩ := h
    rfl
  · obtain ⟨a, p, c, xs, rfl, hf, hp, hpa, h0, hz, hc, q⟩ := h
    refine ⟨_, (pss_one (ps_ret (pe_ix ix_any (pv 1) (pe_c C__law_draw hr (pa_cons (pv 0) (pa_cons (pe_callB (k_len (K := K)) rfl B.len_ (by decide +kernel) (pa_cons (pv 1) pa_nil)) pa_nil))) (fun _ _ => rfl)))), ?_⟩
    repeat' (walk_at "jv")
    refine ⟨a, xs.length, c, rfl, hf, by omega, by omega, hc, fun r H1 r0 r1 f1 k1 => ?_⟩
    obtain ⟨k, rfl⟩ := Int.eq_ofNat_of_zero_le r0
    have hk : k < xs.length := by omega
    refine i_ixA (k1.sqA hpa hp) (atI_nat (List.getElem?_eq_getElem hk)) ?_
    repeat' (walk_at "jv")
    exact q _ _ (List.getElem_mem hk) f1 k1
end
end
section
open L2 PySem PySem.Spec PyProof.Rows
section
variable {base : Heap} {P : Program} {w : World} {K : PySem.W.Frag} {mg : Str → Option Value}
theorem ok_mixed (D : Dn K mg "_law_mixed" s__law_mixed ["_law_feed_here", "_law_things"]) (B : Bn mg) (C__law_draw : Cl P w K mg base 1 "_law_draw" ["_law_feed_here", "_law_many"] spDraw) : Cl P w K mg base 2 "_law_mixed" ["_law_feed_here", "_law_things"] (spMixed K) := by
  refine D.cl sc__law_mixed (fun vs H Q E h => ?_) (fun f cdv A outer s H vs Q E hr h => ?_)
  · obtain ⟨a, p, c, xs, rfl, _⟩ := h
    rfl
  · obtain ⟨a, p, c, xs, rfl, hf, hp, hpa, hz, hc, q⟩ := h
    refine ⟨_, (pss_cons (ps_par (i := 2) (j := 3) rfl sc__law_mixed.nd rfl rfl (by decide) rfl rfl (pa_cons (pe_callTy (k_list (K := K)) rfl B.list_ (by decide +kernel) (pa_cons (pv 1) pa_nil)) (pa_cons (pe_lst pa_nil) pa_nil)) (by rfl))
      (pss_cons (ps_for PassesOwn.never rfl (pi_range1 rfl B.range_ (pa_cons (pe_callB (k_len (K := K)) rfl B.len_ (by decide +kernel) (pa_cons (pv 1) pa_nil)) pa_nil)) (pg_name (i := 4) sc__law_mixed.nd rfl (by first | exact Or.inl rfl | exact Or.inr rfl)) (pss_one (ps_expr (pe_bm PySem.F.plainAttrs_list PySem.F.slot_list_append PySem.F.type_list_append mt_append (pv 3) (pa_cons (pe_bm PySem.F.plainAttrs_list PySem.F.slot_list_pop PySem.F.type_list_pop mt_popAt (pv 2) (pa_cons (pe_c C__law_draw hr (pa_cons (pv 0) (pa_cons (pe_callB (k_len (K := K)) rfl B.len_ (by decide +kernel) (pa_cons (pv 2) pa_nil)) pa_nil))) pa_nil)) pa_nil)))))
      (pss_one (ps_ret (pv 3))))), ?_⟩
    repeat' (walk_at "jv")
    intro L nL
    have nLa := hf.ne nL
    repeat' (walk_at "jv")
    intro G nG
    have nGL : G ≠ L := by walk_at "jn"
    have nG0 : H G = none := Ch.free (a := a) (by walk_at "jh") (by walk_at "jn") nG
    have nGa := hf.ne nG0
    repeat' (walk_at "jv")
    refine f_range (fun i σ H' => ∃ y4 pool gs, σ = [some (.ref a), some (.ref p), some (.ref L), some (.ref G), y4] ∧ H' L = some (.lst pool) ∧ H' G = some (.lst gs) ∧ (gs ++ pool).Perm xs ∧ gs.length = i ∧ Fd H' a (c + i) ∧ Ch a H H') ⟨none, xs, [], rfl, ?_, ?_, List.Perm.refl _, rfl, ?_, ?_⟩ (fun i σ H' hi h => ?_) (fun σ H' h => ?_)
    · walk_at "jl"
    · walk_at "jl"
    · exact Fd.mono (c := c) (by walk_at "jf") (by omega)
    · walk_at "jh"
    · obtain ⟨y4, pool, gs, rfl, h1, h2, h3, h4, h5, h6⟩ := h
      have hl := h3.length_eq
      rw [List.length_append] at hl
      repeat' (walk_at "jv")
      refine ⟨a, pool.length, c + i, rfl, h5, by omega, by omega, by omega, fun r H1 r0 r1 f1 k1 => ?_⟩
      obtain ⟨k, rfl⟩ := Int.eq_ofNat_of_zero_le r0
      have hk : k < pool.length := by omega
      repeat' (walk_at "jv")
      refine i_popAt (xs := pool) (by walk_at "jl") (by omega) (List.getElem?_eq_getElem hk) ?_
      repeat' (walk_at "jv")
      refine ⟨_, _, _, rfl, by walk_at "jl", by walk_at "jl", ?_, ?_, ?_, by walk_at "jh"⟩
      · rw [List.append_assoc]
        exact (List.Perm.append_left gs (perm_erase pool k hk)).trans h3
      · rw [List.length_append, h4]
        rfl
      · exact Fd.mono (c := c + i + 1) (by walk_at "jf") (by omega)
    · obtain ⟨y4, pool, gs, rfl, h1, h2, h3, h4, h5, h6⟩ := h
      repeat' (walk_at "jv")
      have hl := h3.length_eq
      rw [List.length_append] at hl
      have e0 : pool = [] := List.eq_nil_of_length_eq_zero (by omega)
      rw [e0, List.append_nil] at h3
      exact q G gs H' h3 nG0 h2 (h5.mono (by omega)) h6
def theNames : List Str := ["a", "b10", "b", "zz", "a1", "q1w2e3r4", "b9", "x", "m0", "road", "k", "a1b"]
theorem the_names : IsNames theNames := ⟨by decide +kernel, by decide +kernel⟩
theorem ok_names (D : Dn K mg "_law_names" s__law_names ["_law_feed_here", "_law_many"]) (B : Bn mg) (C__law_mixed : Cl P w K mg base 2 "_law_mixed" ["_law_feed_here", "_law_things"] (spMixed K)) : Cl P w K mg base 3 "_law_names" ["_law_feed_here", "_law_many"] spNames := by
  refine D.cl sc__law_names (fun vs H Q E h => ?_) (fun f cdv A outer s H vs Q E hr h => ?_)
  · obtain ⟨a, m, c, rfl, _⟩ := h
    rfl
  · obtain ⟨a, m, c, rfl, hf, hm0, hm1, hc, q⟩ := h
    refine ⟨_, (pss_one (ps_ret (pe_slice (k_slL (K := K)) (pe_c C__law_mixed hr (pa_cons (pv 0) (pa_cons (pe_lst (pa_cons pe_str (pa_cons pe_str (pa_cons pe_str (pa_cons pe_str (pa_cons pe_str (pa_cons pe_str (pa_cons pe_str (pa_cons pe_str (pa_cons pe_str (pa_cons pe_str (pa_cons pe_str (pa_cons pe_str pa_nil))))))))))))) pa_nil))) po_none (po_some (pv 1))))), ?_⟩
    repeat' (walk_at "jv")
    intro L nL
    have nLa := hf.ne nL
    repeat' (walk_at "jv")
    refine ⟨a, L, c, theNames.map V.str, rfl, by walk_at "jf", SqA.l (sq_lst upd_same), nLa, by decide, hc, fun G ys H1 pm nG eG f1 k1 => ?_⟩
    repeat' (walk_at "jv")
    intro R nR
    repeat' (walk_at "jv")
    obtain ⟨ns, rfl⟩ : ∃ ns : List Str, ys = ns.map V.str := by
      refine ⟨ys.map fun v => match v with | .str z => z | _ => Str.empty, ?_⟩
      rw [List.map_map]
      conv => lhs; rw [← List.map_id ys]
      refine List.map_congr_left fun v hv => ?_
      have h1 := pm.mem_iff.mp hv
      obtain ⟨z, _, rfl⟩ := List.mem_map.mp h1
      rfl
    have pm2 : ns.Perm theNames := by
      have h2 := pm.map fun v => match v with | .str z => z | _ => Str.empty
      rw [List.map_map, List.map_map] at h2
      have e : ((fun v => match v with | V.str z => z | _ => Str.empty) ∘ V.str) = id := rfl
      rw [e, List.map_id, List.map_id] at h2
      exact h2
    obtain ⟨k, rfl⟩ := Int.eq_ofNat_of_zero_le hm0
    have e1 : cutV (ns.map V.str) none (some (k : Int)) = (ns.take k).map V.str := by
      unfold cutV
      rw [HT.sIx_none, HT.sIx_nat, List.drop_zero, Nat.sub_zero, List.length_map, List.map_take]
      have hl := pm2.length_eq
      rw [Nat.min_eq_left (by rw [hl]; show k ≤ 12; omega)]
    refine q R (ns.take k) _ ((the_names.perm pm2).take k) ?_ ?_ ?_ ?_ ?_
    · have hl := pm2.length_eq
      rw [List.length_take, hl]
      show ((min k 12 : Nat) : Int) = k
      omega
    · have n2 : R ≠ a := by walk_at "jn"
      have n3 : upd H L (.lst (theNames.map V.str)) R = none := k1.free n2 nR
      have n4 : R ≠ L := fun z => by rw [z, upd_same] at n3; cases n3
      rw [upd_ne n4] at n3
      exact n3
    · rw [← e1]
      exact upd_same
    · exact f1.upd (Ne.symm (f1.ne nR))
    · exact ((Ch.upd_new nL).trans k1).trans (Ch.upd_new nR)
end
end
section
open L2 PySem PySem.Spec PyProof.Rows
abbrev s__law_web : Stmt := topS 57
theorem sc__law_web : FnScope ["_law_feed_here", "_law_way", "_law_most", "_law_many", "_law_pairs", "_law_shape", "_law_at", "_law_back", "_law_turn", "_law_one_here", "_law_other", "_law_pair", "_law_names_here", "_law_roads"] ["_law_feed_here", "_law_way", "_law_most"] (defScope s__law_web) := ⟨rfl, rfl, rfl, by decide +kernel, rfl, by decide +kernel, by decide +kernel⟩
section
variable {base : Heap} {P : Program} {w : World} {K : PySem.W.Frag} {mg : Str → Option Value}
theorem ok_web (D : Dn K mg "_law_web" s__law_web ["_law_feed_here", "_law_way", "_law_most"]) (B : Bn mg) (C__law_draw : Cl P w K mg base 1 "_law_draw" ["_law_feed_here", "_law_many"] spDraw)
    (C__law_mixed : Cl P w K mg base 2 "_law_mixed" ["_law_feed_here", "_law_things"] (spMixed K)) (C__law_names : Cl P w K mg base 3 "_law_names" ["_law_feed_here", "_law_many"] spNames) :
    Cl P w K mg base 4 "_law_web" ["_law_feed_here", "_law_way", "_law_most"] (spWebF K) := by
  refine D.cl sc__law_web (fun vs H Q E h => ?_) (fun f cdv A outer s H vs Q E hr h => ?_)
  · obtain ⟨a, way, most, c, rfl, _⟩ := h
    rfl
  · obtain ⟨a, way, most, c, rfl, hf, hm1, hm8, hc, q⟩ := h
    refine ⟨_, (pss_cons (ps_set (i := 3) sc__law_web.nd rfl (by first | exact Or.inl rfl | exact Or.inr rfl) (pe_ifExp (pt_cmpR op_eq (pv 1) pe_str (nomark _)) (pe_callB (j_max rfl) rfl B.max_ (by decide +kernel) (pa_cons pe_int (pa_cons (pe_op op_add pe_int (pe_c C__law_draw hr (pa_cons (pv 0) (pa_cons (pv 2) pa_nil)))) pa_nil))) (pe_op op_add pe_int (pe_c C__law_draw hr (pa_cons (pv 0) (pa_cons (pv 2) pa_nil))))))
      (pss_cons (ps_par (i := 4) (j := 5) rfl sc__law_web.nd rfl rfl (by decide) rfl rfl (pa_cons (pe_lst pa_nil) (pa_cons (pe_c C__law_draw hr (pa_cons (pv 0) (pa_cons pe_int pa_nil))) pa_nil)) (by rfl))
      (pss_cons (ps_for PassesOwn.never rfl (pi_range2 rfl B.range_ (pa_cons pe_int (pa_cons (pv 3) pa_nil))) (pg_name (i := 6) sc__law_web.nd rfl (by first | exact Or.inl rfl | exact Or.inr rfl)) (pss_cons (ps_set (i := 7) sc__law_web.nd rfl (by first | exact Or.inl rfl | exact Or.inr rfl) (pe_ifExp (PW.pt (pw_or (pt_cmpR op_eq (pv 5) pe_int (nomark _)) (pw_or1 (pt_cmpR op_eq (pv 1) pe_str (nomark _))))) (pe_op op_sub (pv 6) pe_int) (pe_ifExp (pt_cmpR op_eq (pv 5) pe_int (nomark _)) pe_int (pe_c C__law_draw hr (pa_cons (pv 0) (pa_cons (pv 6) pa_nil))))))
      (pss_one (ps_if (PW.pt (pw_or (pt_cmpR op_ne (pv 1) pe_str (nomark _)) (pw_or1 (pt_cmpR op_gt (pe_c C__law_draw hr (pa_cons (pv 0) (pa_cons pe_int pa_nil))) pe_int (nomark _))))) (pss_one (ps_expr (pe_bm PySem.F.plainAttrs_list PySem.F.slot_list_append PySem.F.type_list_append mt_append (pv 4) (pa_cons (pe_tup (pa_cons (pv 7) (pa_cons (pv 6) pa_nil))) pa_nil)))) pss_nil))))
      (pss_cons (ps_if (pt_cmpR op_eq (pv 1) pe_str (nomark _)) (pss_one (ps_expr (pe_bm PySem.F.plainAttrs_list PySem.F.slot_list_append PySem.F.type_list_append mt_append (pv 4) (pa_cons (pe_tup (pa_cons pe_int (pa_cons (pe_op op_sub (pv 3) pe_int) pa_nil))) pa_nil)))) pss_nil)
      (pss_cons (ps_for PassesOwn.never rfl (pi_range1 rfl B.range_ (pa_cons (pe_ifExp (PW.pt (pw_and (pt_cmpR (k_inS (K := K)) (pv 1) (pe_tup (pa_cons pe_str (pa_cons pe_str pa_nil))) (by rfl)) (pw_and1 (pt_cmpR op_gt (pv 3) pe_int (nomark _))))) (pe_c C__law_draw hr (pa_cons (pv 0) (pa_cons pe_int pa_nil))) pe_int) pa_nil)) (pg_name (i := 8) sc__law_web.nd rfl (by first | exact Or.inl rfl | exact Or.inr rfl)) (pss_cons (ps_set (i := 9) sc__law_web.nd rfl (by first | exact Or.inl rfl | exact Or.inr rfl) (pe_c C__law_draw hr (pa_cons (pv 0) (pa_cons (pv 3) pa_nil))))
      (pss_cons (ps_set (i := 10) sc__law_web.nd rfl (by first | exact Or.inl rfl | exact Or.inr rfl) (pe_op op_mod (pe_callTy (j_int) rfl B.int_ (by decide +kernel) (pa_cons (pe_op op_add (pe_op op_add (pv 9) pe_int) (pe_c C__law_draw hr (pa_cons (pv 0) (pa_cons (pe_op op_sub (pv 3) pe_int) pa_nil)))) pa_nil)) (pv 3)))
      (pss_cons (ps_set (i := 11) sc__law_web.nd rfl (by first | exact Or.inl rfl | exact Or.inr rfl) (pe_tup (pa_cons (pe_callB (j_min rfl) rfl B.min_ (by decide +kernel) (pa_cons (pv 9) (pa_cons (pv 10) pa_nil))) (pa_cons (pe_callB (j_max rfl) rfl B.max_ (by decide +kernel) (pa_cons (pv 9) (pa_cons (pv 10) pa_nil))) pa_nil))))
      (pss_one (ps_if (pt_cmpR (o_notInQ hr.units) (pv 11) (pv 4) (by rfl)) (pss_one (ps_expr (pe_bm PySem.F.plainAttrs_list PySem.F.slot_list_append PySem.F.type_list_append mt_append (pv 4) (pa_cons (pv 11) pa_nil)))) pss_nil))))))
      (pss_cons (ps_set (i := 12) sc__law_web.nd rfl (by first | exact Or.inl rfl | exact Or.inr rfl) (pe_c C__law_names hr (pa_cons (pv 0) (pa_cons (pv 3) pa_nil))))
      (pss_cons (ps_set (i := 13) sc__law_web.nd rfl (by first | exact Or.inl rfl | exact Or.inr rfl) (pe_lst pa_nil))
      (pss_cons (ps_for PassesOwn.never rfl (kpi_list (K := K) (pe_c C__law_mixed hr (pa_cons (pv 0) (pa_cons (pv 4) pa_nil)))) (kpg_tup (K := K) (n := 2) rfl (pgs_cons (pg_name (i := 9) sc__law_web.nd rfl (by first | exact Or.inl rfl | exact Or.inr rfl)) (pgs_cons (pg_name (i := 10) sc__law_web.nd rfl (by first | exact Or.inl rfl | exact Or.inr rfl)) pgs_nil))) (pss_one (ps_expr (pe_bm PySem.F.plainAttrs_list PySem.F.slot_list_append PySem.F.type_list_append mt_append (pv 13) (pa_cons (pe_ifExp (pt_cmpR op_eq (pe_c C__law_draw hr (pa_cons (pv 0) (pa_cons pe_int pa_nil))) pe_int (nomark _)) (pe_tup (pa_cons (pe_ix (k_ixL (K := K)) (pv 12) (pv 9) (fun _ _ => rfl)) (pa_cons (pe_ix (k_ixL (K := K)) (pv 12) (pv 10) (fun _ _ => rfl)) pa_nil))) (pe_tup (pa_cons (pe_ix (k_ixL (K := K)) (pv 12) (pv 10) (fun _ _ => rfl)) (pa_cons (pe_ix (k_ixL (K := K)) (pv 12) (pv 9) (fun _ _ => rfl)) pa_nil)))) pa_nil)))))
      (pss_one (ps_ret (pe_tup (pa_cons (pe_callTy (k_tupleF (K := K)) rfl B.tuple_ (by decide +kernel) (pa_cons (pe_c C__law_mixed hr (pa_cons (pv 0) (pa_cons (pv 12) pa_nil))) pa_nil)) (pa_cons (pe_callTy (k_tuple (K := K)) rfl B.tuple_ (by decide +kernel) (pa_cons (pv 13) pa_nil)) pa_nil))))))))))))), ?_⟩
    refine i_seq ?_
    refine i_asg ?_
    refine i_cut (fun v H' => ∃ n : Nat, v = .int n ∧ 1 ≤ n ∧ (n : Int) ≤ max 3 most ∧ (way = "ring" → 3 ≤ n) ∧ Fd H' a (c + 1) ∧ Ch a H H') (fun Q1 hQ1 => ?_) ?_
    · repeat' (walk_at "jv")
      · refine ⟨a, most, c, rfl, hf, by omega, by omega, by omega, fun r H1 r0 r1 f1 k1 => ?_⟩
        repeat' (walk_at "jv")
        obtain ⟨k, rfl⟩ := Int.eq_ofNat_of_zero_le r0
        exact hQ1 _ _ ⟨max 3 (1 + k), congrArg V.int (by omega), by omega, by omega, fun _ => by omega, f1, k1⟩
      · rename_i hw
        refine ⟨a, most, c, rfl, hf, by omega, by omega, by omega, fun r H1 r0 r1 f1 k1 => ?_⟩
        repeat' (walk_at "jv")
        obtain ⟨k, rfl⟩ := Int.eq_ofNat_of_zero_le r0
        exact hQ1 _ _ ⟨1 + k, congrArg V.int (by omega), by omega, by omega, fun z => absurd z hw, f1, k1⟩
    rintro v H1 ⟨n, rfl, n1, n3, nr, f1, k1⟩
    repeat' (walk_at "jv")
    intro L nL
    have nLa := f1.ne nL
    have nL0 : H L = none := k1.free nLa nL
    repeat' (walk_at "jv")
    refine ⟨a, 3, c + 1, rfl, by walk_at "jf", by omega, by omega, by omega, fun r H2 r0 r1 f2 k2 => ?_⟩
    have eL : H2 L = some (.lst []) := by walk_at "jl"
    have k20 : Ch a H H2 := by walk_at "jh"
    repeat' (walk_at "jv")
    -- the tree's roads
    let PL := fun (pl : List (Nat × Nat)) (t : Nat) => pl.Nodup ∧ (∀ p ∈ pl, p.1 < p.2 ∧ p.2 ≤ t ∧ (way = "ring" → p.2 = p.1 + 1)) ∧ pl.length ≤ t
    have grow : ∀ (pl : List (Nat × Nat)) (i b : Nat), PL pl i → b ≤ i → (way = "ring" → b = i) → PL (pl ++ [(b, i + 1)]) (i + 1) := by
      rintro pl i b ⟨p1, p2, p3⟩ b1 b2
      refine ⟨List.nodup_append.mpr ⟨p1, by simp, fun x hx y hy => ?_⟩, fun p hp => ?_, ?_⟩
      · rcases List.mem_singleton.mp hy with rfl
        intro z
        have := (p2 x hx).2.1
        rw [z] at this
        simp at this
        omega
      · rcases List.mem_append.mp hp with hp | hp
        · have := p2 p hp
          exact ⟨this.1, by omega, this.2.2⟩
        · rcases List.mem_singleton.mp hp with rfl
          exact ⟨by show b < i + 1; omega, Nat.le_refl _, fun z => by show i + 1 = b + 1; rw [b2 z]⟩
      · rw [List.length_append]
        show pl.length + 1 ≤ i + 1
        omega
    have stay : ∀ (pl : List (Nat × Nat)) (i : Nat), PL pl i → PL pl (i + 1) := by
      rintro pl i ⟨p1, p2, p3⟩
      exact ⟨p1, fun p hp => by have := p2 p hp; exact ⟨this.1, by omega, this.2.2⟩, by omega⟩
    refine f_range (fun i σ H' => ∃ y6 y7 pl, σ = [some (.ref a), some (.str way), some (.int most), some (.int n), some (.ref L), some (.int r), y6, y7, none, none, none, none, none, none] ∧ LsD K H' L (pl.map pairD) ∧ PL pl i ∧ Fd H' a (c + 2 + 2 * i) ∧ Ch a H H')
      ⟨none, none, [], rfl, LsD.nil eL, ⟨List.nodup_nil, fun _ z => absurd z List.not_mem_nil, Nat.le_refl _⟩, by simpa using f2.mono (by omega), k20⟩ (fun i σ H3 hi h => ?_) (fun σ H3 h => ?_)
    · obtain ⟨y6, y7, pl, rfl, l3, hp, f3, k3⟩ := h
      refine i_gname ?_
      refine i_seq ?_
      refine i_asg ?_
      refine i_cut (fun v H' => ∃ b : Nat, v = .int b ∧ b ≤ i ∧ (way = "ring" → b = i) ∧ Fd H' a (c + 2 + 2 * i + 1) ∧ Ch a H3 H') (fun Q1 hQ1 => ?_) ?_
      · repeat' (walk_at "jv")
        · exact hQ1 _ _ ⟨i, congrArg V.int (by omega), Nat.le_refl _, fun _ => rfl, f3.mono (by omega), Ch.refl _⟩
        · exact hQ1 _ _ ⟨i, congrArg V.int (by omega), Nat.le_refl _, fun _ => rfl, f3.mono (by omega), Ch.refl _⟩
        · rename_i hw _
          exact hQ1 _ _ ⟨0, rfl, Nat.zero_le _, fun z => absurd z hw, f3.mono (by omega), Ch.refl _⟩
        · rename_i hw _
          refine ⟨a, _, _, rfl, f3, by omega, by omega, by omega, fun r1 H4 s0 s1 f4 k4 => ?_⟩
          repeat' (walk_at "jv")
          obtain ⟨k, rfl⟩ := Int.eq_ofNat_of_zero_le s0
          exact hQ1 _ _ ⟨k, rfl, by omega, fun z => absurd z hw, f4, k4⟩
      rintro v H4 ⟨b, rfl, b1, b2, f4, k4⟩
      obtain ⟨vs, e4, d4, t4⟩ := l3.ch k4 f3 nLa
      have hlen : vs.length = pl.length := by rw [DpAll.len d4, List.length_map]
      have hpl := hp.2.2
      have e1 : (1 + (i : Int)) = ((i + 1 : Nat) : Int) := by omega
      rw [e1]
      repeat' (walk_at "jv")
      · intro p np
        repeat' (walk_at "jv")
        exact ⟨_, _, pl ++ [(b, i + 1)], rfl, by rw [List.map_append]; exact LsD.push2 e4 d4 t4 np (.int b) (.int (i + 1 : Nat)) rfl rfl, grow pl i b hp b1 b2, Fd.mono (c := c + 2 + 2 * i + 1) (by walk_at "jf") (by omega), by walk_at "jh"⟩
      · refine ⟨a, 5, _, rfl, f4, by omega, by omega, by omega, fun r1 H5 s0 s1 f5 k5 => ?_⟩
        obtain ⟨us, e5, d5, t5⟩ := LsD.ch ⟨vs, e4, d4, t4⟩ k5 f4 nLa
        have hlen5 : us.length = pl.length := by rw [DpAll.len d5, List.length_map]
        repeat' (walk_at "jv")
        · intro p np
          repeat' (walk_at "jv")
          exact ⟨_, _, pl ++ [(b, i + 1)], rfl, by rw [List.map_append]; exact LsD.push2 e5 d5 t5 np (.int b) (.int (i + 1 : Nat)) rfl rfl, grow pl i b hp b1 b2, Fd.mono (c := c + 2 + 2 * i + 1 + 1) (by walk_at "jf") (by omega), by walk_at "jh"⟩
        · exact ⟨_, _, pl, rfl, ⟨us, e5, d5, t5⟩, stay pl i hp, f5.mono (by omega), by walk_at "jh"⟩
    · obtain ⟨y6, y7, pl, rfl, l3, hp, f3, k3⟩ := h
      have hn1 : (((n : Int) - 1).toNat : Int) = n - 1 := by omega
      rw [hn1] at f3
      let PW := fun (pl : List (Nat × Nat)) => pl.Nodup ∧ (∀ p ∈ pl, p.1 < p.2 ∧ p.2 < n)
      refine i_seq ?_
      refine i_cutS (fun σ H' => ∃ ql, σ = [some (.ref a), some (.str way), some (.int most), some (.int n), some (.ref L), some (.int r), y6, y7, none, none, none, none, none, none] ∧ LsD K H' L (ql.map pairD) ∧ PW ql ∧ ql.length ≤ n ∧ Fd H' a (c + 20) ∧ Ch a H H') (fun N hN => ?_) ?_
      · obtain ⟨vs, e3, d3, t3⟩ := l3
        repeat' (walk_at "jv")
        · rename_i hw
          intro p np
          have hlen : vs.length = pl.length := by rw [DpAll.len d3, List.length_map]
          have hpl := hp.2.2
          have hn3 := nr hw
          have e1 : (n : Int) - 1 = ((n - 1 : Nat) : Int) := by omega
          rw [e1]
          repeat' (walk_at "jv")
          refine hN _ _ ⟨pl ++ [(0, n - 1)], rfl, by rw [List.map_append]; exact LsD.push2 e3 d3 t3 np (.int 0) (.int (n - 1 : Nat)) rfl rfl, ⟨?_, ?_⟩, ?_, Fd.mono (c := c + 2 + 2 * (n - 1)) (by walk_at "jf") (by omega), by walk_at "jh"⟩
          · refine List.nodup_append.mpr ⟨hp.1, by simp, fun x hx y hy => ?_⟩
            rcases List.mem_singleton.mp hy with rfl
            intro z
            have h9 := (hp.2.1 x hx).2.2 hw
            rw [z] at h9
            simp at h9
            omega
          · intro p hp'
            rcases List.mem_append.mp hp' with hp' | hp'
            · have := hp.2.1 p hp'
              exact ⟨this.1, by omega⟩
            · rcases List.mem_singleton.mp hp' with rfl
              exact ⟨by show 0 < n - 1; omega, by show n - 1 < n; omega⟩
          · rw [List.length_append]
            show pl.length + 1 ≤ n
            omega
        · exact hN _ _ ⟨pl, rfl, ⟨vs, e3, d3, t3⟩, ⟨hp.1, fun p hp' => ⟨(hp.2.1 p hp').1, by have := (hp.2.1 p hp').2.1; omega⟩⟩, by have := hp.2.2; omega, f3.mono (by omega), k3⟩
      rintro σ H4 ⟨ql, rfl, l4, hq, hq2, f4, k4⟩
      clear hp l3 f3 k3 pl
      refine i_seq ?_
      refine i_for ?_
      refine i_rng1 ?_
      refine i_cons ?_
      refine i_cut (fun v H' => ∃ t : Nat, v = .int t ∧ t ≤ 4 ∧ (0 < t → 2 < n) ∧ Fd H' a (c + 30) ∧ Ch a H H' ∧ LsD K H' L (ql.map pairD)) (fun Q1 hQ1 => ?_) ?_
      · refine i_if ?_
        repeat' (walk_at "js")
        repeat' (walk_at "jv")
        intro p np
        repeat' (walk_at "jv")
        refine i_inS (ns := ["whole", "any"]) (SqA.t (sq_tup upd_same)) ?_
        have l5 : LsD K (upd H4 p (.tup [.str "whole", .str "any"])) L (ql.map pairD) := l4.new np
        repeat' (walk_at "jv")
        · refine ⟨a, 5, c + 20, rfl, by walk_at "jf", by omega, by omega, by omega, fun r1 H5 s0 s1 f5 k5 => ?_⟩
          repeat' (walk_at "jv")
          obtain ⟨k, rfl⟩ := Int.eq_ofNat_of_zero_le s0
          exact hQ1 _ _ ⟨k, rfl, by omega, fun _ => by omega, f5.mono (by omega), by walk_at "jh", l5.ch (c := c + 20) k5 (by walk_at "jf") nLa⟩
        · exact hQ1 _ _ ⟨0, rfl, by omega, fun z => absurd z (Nat.lt_irrefl 0), Fd.mono (c := c + 20) (by walk_at "jf") (by omega), by walk_at "jh", l5⟩
        · exact hQ1 _ _ ⟨0, rfl, by omega, fun z => absurd z (Nat.lt_irrefl 0), Fd.mono (c := c + 20) (by walk_at "jf") (by omega), by walk_at "jh", l5⟩
      rintro v H5 ⟨t, rfl, t4, tn, f5, k5, l5⟩
      repeat' (walk_at "jv")
      refine f_range (fun i σ H' => ∃ y8 y9 y10 y11 pl, σ = [some (.ref a), some (.str way), some (.int most), some (.int n), some (.ref L), some (.int r), y6, y7, y8, y9, y10, y11, none, none] ∧ LsD K H' L (pl.map pairD) ∧ PW pl ∧ pl.length ≤ n + i ∧ Fd H' a (c + 30 + 2 * i) ∧ Ch a H H')
        ⟨none, none, none, none, ql, rfl, l5, hq, hq2, f5.mono (by omega), k5⟩ (fun i σ H6 hi h => ?_) (fun σ H6 h => ?_)
      · obtain ⟨y8, y9, y10, y11, pl, rfl, l6, hp, hp2, f6, k6⟩ := h
        have hn2 := tn (by omega)
        repeat' (walk_at "jv")
        refine ⟨a, n, _, rfl, f6, by omega, by omega, by omega, fun x H7 s0 s1 f7 k7 => ?_⟩
        repeat' (walk_at "jv")
        refine ⟨a, (n : Int) - 1, _, rfl, f7, by omega, by omega, by omega, fun y H8 u0 u1 f8 k8 => ?_⟩
        obtain ⟨x, rfl⟩ := Int.eq_ofNat_of_zero_le s0
        obtain ⟨y, rfl⟩ := Int.eq_ofNat_of_zero_le u0
        repeat' (walk_at "jv")
        have eo : ∃ o : Nat, ((x : Int) + 1 + y) % n = o ∧ o < n ∧ o ≠ x := by
          by_cases hz : x + 1 + y < n
          · exact ⟨x + 1 + y, by rw [Int.emod_eq_of_lt (by omega) (by omega)]; omega, hz, by omega⟩
          · refine ⟨x + 1 + y - n, ?_, by omega, by omega⟩
            rw [← Int.sub_emod_right, Int.emod_eq_of_lt (by omega) (by omega)]
            omega
        obtain ⟨o, eo, o1, o2⟩ := eo
        rw [eo]
        repeat' (walk_at "jv")
        intro p np
        obtain ⟨vs, e8, d8, t8⟩ := ((l6.ch k7 f6 nLa).ch k8 f7 nLa).new (o := .tup [.int (min (x : Int) o), .int (max (x : Int) o)]) np
        have hlen : vs.length = pl.length := by rw [DpAll.len d8, List.length_map]
        have em : (min (x : Int) o) = ((min x o : Nat) : Int) := by omega
        have eM : (max (x : Int) o) = ((max x o : Nat) : Int) := by omega
        have dp : Dp K (upd H8 p (.tup [.int (min (x : Int) o), .int (max (x : Int) o)])) (.ref p) (pairD (min x o, max x o)) := by
          rw [em, eM]
          exact .tup (xs := [.int ((min x o : Nat) : Int), .int ((max x o : Nat) : Int)]) (.inl (.inl upd_same)) (.cons (.int _) (.cons (.int _) .nil))
        repeat' (walk_at "jv")
        refine ⟨pairD (min x o, max x o), pl.map pairD, dp, .inl (.lst (sq_lst e8) d8), rfl, pairs_lay pl, by show 0 + 1 ≤ 60; decide, ?_⟩
        rw [if_pos rfl, pairs_any]
        repeat' (walk_at "jv")
        · rename_i hin
          refine ⟨_, _, _, _, pl ++ [(min x o, max x o)], rfl, by rw [List.map_append]; exact LsD.push e8 d8 t8 dp rfl, ⟨?_, ?_⟩, by rw [List.length_append]; show pl.length + 1 ≤ _; omega, Fd.mono (c := c + 30 + 2 * i + 1 + 1) (by walk_at "jf") (by omega), by walk_at "jh"⟩
          · refine List.nodup_append.mpr ⟨hp.1, by simp, fun z hz w hw => ?_⟩
            rcases List.mem_singleton.mp hw with rfl
            intro e
            rw [e] at hz
            exact hin hz
          · intro q hq'
            rcases List.mem_append.mp hq' with hq' | hq'
            · exact hp.2 q hq'
            · rcases List.mem_singleton.mp hq' with rfl
              exact ⟨by show min x o < max x o; omega, by show max x o < n; omega⟩
        · exact ⟨_, _, _, _, pl, rfl, ⟨vs, e8, d8, t8⟩, hp, by omega, Fd.mono (c := c + 30 + 2 * i + 1 + 1) (by walk_at "jf") (by omega), by walk_at "jh"⟩
      · obtain ⟨y8, y9, y10, y11, pl, rfl, l6, hp, hp2, f6, k6⟩ := h
        repeat' (walk_at "jv")
        have nt : (((t : Int).toNat : Nat) : Int) = t := by omega
        rw [nt] at f6
        refine ⟨a, n, _, rfl, f6, by omega, by omega, by omega, fun G ns H7 hns hl nG eG f7 k7 => ?_⟩
        have nGa := f6.ne nG
        have l7 := l6.ch k7 f6 nLa
        have nG0 : H G = none := k6.free nGa nG
        have k70 : Ch a H H7 := k6.trans k7
        repeat' (walk_at "jv")
        intro R nR
        have nRa : R ≠ a := f7.ne nR
        have nR0 : H R = none := k70.free nRa nR
        have nRG : R ≠ G := (ne_of_none eG nR).symm
        have nRL : R ≠ L := by
          obtain ⟨vs, e, _⟩ := l7
          exact (ne_of_none e nR).symm
        obtain ⟨vs, e8, d8, t8⟩ := l7.new (o := .lst []) nR
        have hlen : vs.length = pl.length := by rw [DpAll.len d8, List.length_map]
        repeat' (walk_at "jv")
        refine ⟨a, L, c + 30 + 2 * t + 1000, vs, rfl, by walk_at "jf", SqA.l (sq_lst e8), nLa, by omega, by omega, fun q9 ys H9 pm n9 e9 f9 k9 => ?_⟩
        obtain ⟨es, pe, dy⟩ := DpAll.perm pm d8
        obtain ⟨pl', pp, rfl⟩ := perm_map_inv pe rfl
        have n9a : q9 ≠ a := by walk_at "jn"
        have n9R : q9 ≠ R := by walk_at "jn"
        have dy9 : DpAll K H9 ys (pl'.map pairD) := DpAll.tk (TK.ch (c := c + 30 + 2 * t + 1000) k9 (by walk_at "jf")) _ _ (pairs_only pl') dy
        have eR9 : H9 R = some (.lst []) := by walk_at "jl"
        have eG9 : H9 G = some (.lst (ns.map V.str)) := by walk_at "jl"
        have k90 : Ch a H H9 := by walk_at "jh"
        have n90 : H q9 = none := Ch.free (a := a) (H := H) (H' := upd H7 R (.lst [])) (by walk_at "jh") n9a n9
        have hpl' : pl'.length = pl.length := pp.length_eq
        have hys : ys.length = pl'.length := by rw [DpAll.len dy9, List.length_map]
        have ltn : ∀ p ∈ pl', p.1 < p.2 ∧ p.2 < n := fun p hp' => hp.2 p (pp.mem_iff.mp hp')
        repeat' (walk_at "jv")
        refine f_list ys (fun i σ H' => ∃ y9 y10 rs, σ = [some (.ref a), some (.str way), some (.int most), some (.int n), some (.ref L), some (.int r), y6, y7, y8, y9, y10, y11, some (.ref G), some (.ref R)] ∧ H' q9 = some (.lst ys) ∧ DpAll K H' ys (pl'.map pairD) ∧ H' G = some (.lst (ns.map V.str)) ∧
            LsD K H' R (rs.map roadD) ∧ rs.length = i ∧ (∀ (k : Nat) p x, pl'[k]? = some p → rs[k]? = some x → RoadOf ns p x) ∧ Fd H' a (c + 3000 + 2 * i) ∧ Ch a H H')
          ⟨_, _, [], rfl, e9, dy9, eG9, LsD.nil eR9, rfl, fun k p x _ z => by simp at z, f9.mono (by omega), k90⟩ (fun i σ H' _ h => ?_) (fun i x σ H' hx h => ?_) (fun σ H' h => ?_)
        · obtain ⟨_, _, _, _, h1, _⟩ := h
          exact sq_lst h1
        · obtain ⟨y9, y10, rs, rfl, h1, h2, h3, h4, h5, h6, h7, h8⟩ := h
          obtain ⟨d, hd, dx⟩ := DpAll.get h2 hx
          have hi : i < ys.length := (List.getElem?_eq_some_iff.mp hx).1
          have hip : i < pl'.length := by omega
          rw [List.getElem?_map, List.getElem?_eq_getElem hip] at hd
          have hd' : pairD pl'[i] = d := Option.some.inj hd
          subst hd'
          obtain ⟨p1, p2⟩ := ltn pl'[i] (List.getElem_mem hip)
          have ats : ∀ k, k < n → ∃ z, ns[k]? = some z ∧ atI (ns.map V.str) (k : Int) = some (.str z) := fun k hk => by
            have hk' : k < ns.length := by omega
            exact ⟨ns[k], List.getElem?_eq_getElem hk', atI_nat (by rw [List.getElem?_map, List.getElem?_eq_getElem hk']; rfl)⟩
          obtain ⟨z1, a1, b1⟩ := ats pl'[i].1 (by omega)
          obtain ⟨z2, a2, b2⟩ := ats pl'[i].2 (by omega)
          cases dx with
          | tup hs ha =>
            rename_i b xs
            cases ha with
            | cons g1 g2 =>
              cases g1
              cases g2 with
              | cons g3 g4 =>
                cases g3
                cases g4
                refine ⟨b, _, rfl, hs, rfl, _, _, rfl, ?_⟩
                refine i_gname ?_
                refine ⟨_, _, rfl, ?_⟩
                refine i_gname ?_
                refine ⟨rfl, ?_⟩
                refine i_drop ?_
                refine i_bm ?_
                refine i_var rfl ?_
                obtain ⟨ws, ew, dw, tw⟩ := h4
                have hws : ws.length = rs.length := by rw [DpAll.len dw, List.length_map]
                refine i_tyL (sq_lst ew) ?_
                refine i_cons ?_
                have push : ∀ (H5 : Hp) (p : Addr) (x : Str × Str), RoadOf ns pl'[i] x → H5 p = none → Ch a H' H5 → Fd H5 a (c + 3000 + 2 * i + 1) →
                    ∃ (y9 y10 : Option V) (rs : List (Str × Str)), ([some (.ref a), some (.str way), some (.int most), some (.int n), some (.ref L), some (.int r), y6, y7, y8, some (.int pl'[i].1), some (.int pl'[i].2), y11, some (.ref G), some (.ref R)] : L2.St) = [some (.ref a), some (.str way), some (.int most), some (.int n), some (.ref L), some (.int r), y6, y7, y8, y9, y10, y11, some (.ref G), some (.ref R)] ∧
                      (upd (upd H5 p (.tup [.str x.1, .str x.2])) R (.lst (ws ++ [.ref p]))) q9 = some (.lst ys) ∧ DpAll K (upd (upd H5 p (.tup [.str x.1, .str x.2])) R (.lst (ws ++ [.ref p]))) ys (pl'.map pairD) ∧ (upd (upd H5 p (.tup [.str x.1, .str x.2])) R (.lst (ws ++ [.ref p]))) G = some (.lst (ns.map V.str)) ∧
                      LsD K (upd (upd H5 p (.tup [.str x.1, .str x.2])) R (.lst (ws ++ [.ref p]))) R (rs.map roadD) ∧ rs.length = i + 1 ∧ (∀ (k : Nat) p x, pl'[k]? = some p → rs[k]? = some x → RoadOf ns p x) ∧ Fd (upd (upd H5 p (.tup [.str x.1, .str x.2])) R (.lst (ws ++ [.ref p]))) a (c + 3000 + 2 * (i + 1 : Nat)) ∧ Ch a H (upd (upd H5 p (.tup [.str x.1, .str x.2])) R (.lst (ws ++ [.ref p]))) := by
                  intro H5 p x rx np k5 f5
                  have e5R : H5 R = some (.lst ws) := k5 R _ nRa ew
                  have e59 : H5 q9 = some (.lst ys) := k5 q9 _ n9a h1
                  have e5G : H5 G = some (.lst (ns.map V.str)) := k5 G _ nGa h3
                  have t5 : TK K H' H5 := TK.ch k5 h7
                  have d5w := DpAll.tk t5 _ _ tw dw
                  have npR : R ≠ p := ne_of_none e5R np
                  have np9 : q9 ≠ p := ne_of_none e59 np
                  have npG : G ≠ p := ne_of_none e5G np
                  refine ⟨_, _, rs ++ [x], rfl, ?_, ?_, ?_, by rw [List.map_append]; exact LsD.push2 e5R d5w tw np (.str x.1) (.str x.2) rfl rfl, by rw [List.length_append, h5]; rfl, ?_, ?_, ?_⟩
                  · rw [upd_ne n9R, upd_ne np9]
                    exact e59
                  · exact DpAll.tk ((t5.trans (TK.new np)).trans (TK.lst (xs := ws) (by rw [upd_ne npR]; exact e5R))) _ _ (pairs_only pl') h2
                  · rw [upd_ne nRG.symm, upd_ne npG]
                    exact e5G
                  · intro k p' x' hp' hx'
                    by_cases hk : k < rs.length
                    · rw [List.getElem?_append_left hk] at hx'
                      exact h6 k p' x' hp' hx'
                    · rw [List.getElem?_append_right (by omega)] at hx'
                      have hk0 : k - rs.length = 0 := by
                        cases z : k - rs.length with
                        | zero => rfl
                        | succ m => rw [z] at hx'; simp at hx'
                      rw [hk0] at hx'
                      have hxx : x = x' := by simpa using hx'
                      subst hxx
                      have hki : k = i := by omega
                      subst hki
                      rw [List.getElem?_eq_getElem hip] at hp'
                      have := Option.some.inj hp'
                      subst this
                      exact rx
                  · have := ((f5.upd (q := p) (o := .tup [.str x.1, .str x.2]) (Ne.symm (f5.ne np))).upd (q := R) (o := .lst (ws ++ [.ref p])) (Ne.symm nRa)).mono (d := c + 3000 + 2 * (i + 1 : Nat)) (by omega)
                    exact this
                  · exact ((h8.trans k5).upd_n np).upd_l nR0
                refine i_if ?_
                repeat' (walk_at "js")
                repeat' (walk_at "jv")
                refine ⟨a, 2, _, rfl, h7, by omega, by omega, by omega, fun rr H5 s0 s1 f5 k5 => ?_⟩
                have e5R : H5 R = some (.lst ws) := k5 R _ nRa ew
                have e5G : H5 G = some (.lst (ns.map V.str)) := k5 G _ nGa h3
                repeat' (walk_at "jv")
                · intro p np
                  have npR : R ≠ p := ne_of_none e5R np
                  repeat' (walk_at "jv")
                  exact push H5 p (z1, z2) (.inl ⟨a1, a2⟩) np k5 f5
                · intro p np
                  have npR : R ≠ p := ne_of_none e5R np
                  repeat' (walk_at "jv")
                  exact push H5 p (z2, z1) (.inr ⟨a1, a2⟩) np k5 f5
        · obtain ⟨y9, y10, rs, rfl, h1, h2, h3, h4, h5, h6, h7, h8⟩ := h
          repeat' (walk_at "jv")
          refine ⟨a, G, _, ns.map V.str, rfl, h7, SqA.l (sq_lst h3), nGa, by rw [List.length_map]; omega, by omega, fun W zs HA pz nW eW fA kA => ?_⟩
          obtain ⟨ws, ew, dw, tw⟩ := h4.ch kA h7 nRa
          have hwl : ws.length = rs.length := by rw [DpAll.len dw, List.length_map]
          have kA0 : Ch a H HA := h8.trans kA
          obtain ⟨es, pe2, dz⟩ := DpAll.perm pz (DpAll.strs (K := K) (H := HA) ns)
          obtain ⟨ps, pps, rfl⟩ := perm_map_inv pe2 rfl
          have ez := DpAll.strs_inv dz
          subst ez
          repeat' (walk_at "jv")
          refine ⟨W, ps.map V.str, rfl, sq_lst eW, fun T1 ob nT1 okb => ?_⟩
          repeat' (walk_at "jv")
          intro T2 nT2
          refine i_nil ?_
          refine i_al (by show 2 ≤ sizeLine; decide) ?_
          intro T3 nT3
          have c1 : TK K HA (upd HA T1 (.frz ob (.tup (ps.map V.str)))) := TK.new nT1
          have c2 : TK K (upd HA T1 (.frz ob (.tup (ps.map V.str)))) (upd (upd HA T1 (.frz ob (.tup (ps.map V.str)))) T2 (.tup ws)) := TK.new nT2
          have c3 : TK K (upd (upd HA T1 (.frz ob (.tup (ps.map V.str)))) T2 (.tup ws)) (upd (upd (upd HA T1 (.frz ob (.tup (ps.map V.str)))) T2 (.tup ws)) T3 (.tup [.ref T1, .ref T2])) := TK.new nT3
          have fT1 : FT (upd HA T1 (.frz ob (.tup (ps.map V.str)))) T1 (ps.map V.str) := FT.new okb
          refine q _ ps rs _ (web_of hns pps (by omega) (by omega) (pp.nodup_iff.mpr hp.1) (fun p hp' => (ltn p hp').1) (by omega) (by omega) h6) (by rw [pps.length_eq]; omega) ?_ ?_ ?_
          · refine ⟨T3, T1, T2, rfl, .inl (.inl upd_same), (fT1.same (Same.upd_new nT2)).same (Same.upd_new nT3), ?_⟩
            exact Dp.tk c3 _ _ (roads_only rs) (.tup (xs := ws) (.inl (.inl upd_same)) (DpAll.tk (c1.trans c2) _ _ tw dw))
          · have g1 := fA.upd (q := T1) (o := .frz ob (.tup (ps.map V.str))) (Ne.symm (fA.ne nT1))
            have g2 := g1.upd (q := T2) (o := .tup ws) (Ne.symm (g1.ne nT2))
            exact (g2.upd (Ne.symm (g2.ne nT3))).mono (by omega)
          · exact ((kA0.upd_n nT1).upd_n nT2).upd_n nT3
end
end
section
open L2 PySem PySem.Spec PyProof.Rows
abbrev s__law_neighbours : Stmt := topS 58
theorem sc__law_neighbours : FnScope ["_law_web_here", "_law_place", "_law_got", "_law_other"] ["_law_web_here", "_law_place"] (defScope s__law_neighbours) := ⟨rfl, rfl, rfl, by decide +kernel, rfl, by decide +kernel, by decide +kernel⟩
section
variable {base : Heap} {P : Program} {w : World} {K : PySem.W.Frag} {mg : Str → Option Value}
theorem ok_near (D : Dn K mg "_law_neighbours" s__law_neighbours ["_law_web_here", "_law_place"]) (B : Bn mg) : Cl P w K mg base 1 "_law_neighbours" ["_law_web_here", "_law_place"] (spNear K) := by
  refine D.cl sc__law_neighbours (fun vs H Q E h => ?_) (fun f cdv A outer s H vs Q E hr h => ?_)
  · obtain ⟨v, x, ps, rs, rfl, _⟩ := h
    rfl
  · obtain ⟨v, x, ps, rs, rfl, hd, hW, hx, q⟩ := h
    obtain ⟨t, tp, tr, xs, rfl, s1, s2, s3, d3, dr, dpl⟩ := web_parts hd
    refine ⟨_, (pss_cons (ps_set (i := 2) sc__law_neighbours.nd rfl (by first | exact Or.inl rfl | exact Or.inr rfl) (pe_lst pa_nil))
      (pss_cons (ps_for PassesOwn.never rfl (kpi_tup (K := K) (pe_ix ix_tup (pv 0) pe_int (fun _ _ => rfl))) (pg_name (i := 3) sc__law_neighbours.nd rfl (by first | exact Or.inl rfl | exact Or.inr rfl)) (pss_one (ps_if (PW.pt (pw_or (pt_cmpR (o_inQ hr.units) (pe_tup (pa_cons (pv 1) (pa_cons (pv 3) pa_nil))) (pe_ix ix_tup (pv 0) pe_int (fun _ _ => rfl)) (by rfl)) (pw_or1 (pt_cmpR (o_inQ hr.units) (pe_tup (pa_cons (pv 3) (pa_cons (pv 1) pa_nil))) (pe_ix ix_tup (pv 0) pe_int (fun _ _ => rfl)) (by rfl))))) (pss_one (ps_expr (pe_bm PySem.F.plainAttrs_list PySem.F.slot_list_append PySem.F.type_list_append mt_append (pv 2) (pa_cons (pv 3) pa_nil)))) pss_nil)))
      (pss_one (ps_ret (pv 2))))), ?_⟩
    repeat' (walk_at "jv")
    intro L nL
    have sm : Same H (upd H L (.lst [])) := Same.upd_new nL
    have s1' := TK.same (K := K) sm _ _ s1
    have s2' := TK.same (K := K) sm _ _ s2
    repeat' (walk_at "jv")
    refine f_tup (ps.map V.str) (fun i σ H' => ∃ y3, σ = [some (.ref t), some (.str x), some (.ref L), y3] ∧ Same H H' ∧ H' L = some (.lst (((ps.take i).filter fun y => isRoad rs x y).map V.str))) ⟨none, rfl, sm, upd_same⟩ (fun i σ H' _ h => ?_) (fun i y σ H' hy h => ?_) (fun σ H' h => ?_)
    · obtain ⟨_, _, k, _⟩ := h
      exact TK.same k _ _ s2
    · obtain ⟨y3, rfl, k, e⟩ := h
      have hi : i < ps.length := by
        have := (List.getElem?_eq_some_iff.mp hy).1
        rwa [List.length_map] at this
      rw [List.getElem?_map, List.getElem?_eq_getElem hi] at hy
      obtain rfl : V.str ps[i] = y := Option.some.inj hy
      have hmem : ps[i] ∈ ps := List.getElem_mem hi
      have s1k := TK.same (K := K) k _ _ s1
      have drk := Dp.same (K := K) k _ _ dr
      have h8 := hW.le8
      have hl : (((ps.take i).filter fun y => isRoad rs x y).map V.str).length < sizeLine := by
        rw [List.length_map, sizeLine_eq]
        have := List.length_filter_le (fun y => isRoad rs x y) (ps.take i)
        rw [List.length_take] at this
        omega
      have et : ((ps.take (i + 1)).filter fun y => isRoad rs x y) = ((ps.take i).filter fun y => isRoad rs x y) ++ (if isRoad rs x ps[i] = true then [ps[i]] else []) := by
        rw [List.take_add_one, List.getElem?_eq_getElem hi, List.filter_append]
        show _ ++ List.filter (fun y => isRoad rs x y) [ps[i]] = _
        by_cases h : isRoad rs x ps[i] = true
        · simp [h]
        · simp [h]
      repeat' (walk_at "jv")
      intro p np
      have npL : L ≠ p := ne_of_none e np
      have sp := Same.upd_new (o := .tup [.str x, .str ps[i]]) np
      have s1p := TK.same (K := K) sp _ _ s1k
      repeat' (walk_at "jv")
      refine ⟨roadD (x, ps[i]), rs.map roadD, .tup (xs := [.str x, .str ps[i]]) (.inl (.inl upd_same)) (.cons (.str _) (.cons (.str _) .nil)), .inr (Dp.same sp _ _ drk), road_lay (hW.names.2 _ hx) (hW.names.2 _ hmem), roads_lay hW, by show 0 + 1 ≤ 60; decide, ?_⟩
      rw [if_neg (by decide), roads_any]
      repeat' (walk_at "jv")
      · rename_i h1
        have er : isRoad rs x ps[i] = true := by simp [isRoad, h1]
        rw [if_pos er] at et
        refine ⟨_, rfl, fun b o z => ?_, ?_⟩
        · have := sp _ _ (k _ _ z)
          rw [upd_ne (fun w => by rw [w, nL] at z; cases z)]
          exact this
        · rw [upd_same, et, List.map_append]
          rfl
      · rename_i h1
        intro p2 np2
        have npL2 : L ≠ p2 := ne_of_none ((upd_ne npL).trans e) np2
        have sp2 := Same.upd_new (o := .tup [.str ps[i], .str x]) np2
        have s1q := TK.same (K := K) sp2 _ _ s1p
        repeat' (walk_at "jv")
        refine ⟨roadD (ps[i], x), rs.map roadD, .tup (xs := [.str ps[i], .str x]) (.inl (.inl upd_same)) (.cons (.str _) (.cons (.str _) .nil)), .inr (Dp.same sp2 _ _ (Dp.same sp _ _ drk)), road_lay (hW.names.2 _ hmem) (hW.names.2 _ hx), roads_lay hW, by show 0 + 1 ≤ 60; decide, ?_⟩
        rw [if_neg (by decide), roads_any]
        have e2 : (upd (upd H' p (.tup [.str x, .str ps[i]])) p2 (.tup [.str ps[i], .str x])) L = some (.lst (((ps.take i).filter fun y => isRoad rs x y).map V.str)) := (upd_ne npL2).trans ((upd_ne npL).trans e)
        repeat' (walk_at "jv")
        · rename_i h2
          have er : isRoad rs x ps[i] = true := by simp [isRoad, h2]
          rw [if_pos er] at et
          refine ⟨_, rfl, fun b o z => ?_, ?_⟩
          · have := sp2 _ _ (sp _ _ (k _ _ z))
            rw [upd_ne (fun w => by rw [w, nL] at z; cases z)]
            exact this
          · rw [upd_same, et, List.map_append]
            rfl
        · rename_i h2
          have er : ¬ isRoad rs x ps[i] = true := by simp [isRoad, h1, h2]
          rw [if_neg er, List.append_nil] at et
          refine ⟨_, rfl, fun b o z => sp2 _ _ (sp _ _ (k _ _ z)), ?_⟩
          rw [et]
          exact e2
    · obtain ⟨y3, rfl, k, e⟩ := h
      repeat' (walk_at "jv")
      rw [List.length_map, List.take_length] at e
      exact q L H' nL k e
end
end
section
open L2 PySem PySem.Spec PyProof.Rows
abbrev s_is_integer : Stmt := topS 7
theorem sc_is_integer : FnScope ["thing"] ["thing"] (defScope s_is_integer) := ⟨rfl, rfl, rfl, by decide +kernel, rfl, by decide +kernel, by decide +kernel⟩
abbrev s_power : Stmt := topS 8
theorem sc_power : FnScope ["base", "exponent", "result", "_"] ["base", "exponent"] (defScope s_power) := ⟨rfl, rfl, rfl, by decide +kernel, rfl, by decide +kernel, by decide +kernel⟩
abbrev s_are_states : Stmt := topS 9
theorem sc_are_states : FnScope ["thing", "k", "many", "state"] ["thing", "k", "many"] (defScope s_are_states) := ⟨rfl, rfl, rfl, by decide +kernel, rfl, by decide +kernel, by decide +kernel⟩
abbrev s_table_length : Stmt := topS 10
theorem sc_table_length : FnScope ["k", "near"] ["k", "near"] (defScope s_table_length) := ⟨rfl, rfl, rfl, by decide +kernel, rfl, by decide +kernel, by decide +kernel⟩
abbrev s_sum_length : Stmt := topS 11
theorem sc_sum_length : FnScope ["k", "near"] ["k", "near"] (defScope s_sum_length) := ⟨rfl, rfl, rfl, by decide +kernel, rfl, by decide +kernel, by decide +kernel⟩
abbrev s__are_sums : Stmt := topS 14
theorem sc__are_sums : FnScope ["worth", "k", "near", "states"] ["worth", "k", "near"] (defScope s__are_sums) := ⟨rfl, rfl, rfl, by decide +kernel, rfl, by decide +kernel, by decide +kernel⟩
def spAreStatesO (K : PySem.W.Frag) : Sp := fun vs H Q _ => ∃ (a : Addr) (x : V) (d : PyData) (k many : Nat), vs = [x, .int (k : Int), .int (many : Int)] ∧ Ob K H a x d ∧ many ≤ 100000 ∧ ∀ H', Same H H' → Q (.bl (statesB k many d)) H'
def spAreSumsO (K : PySem.W.Frag) : Sp := fun vs H Q _ => ∃ (a p : Addr) (x : V) (d : PyData) (k : Nat) (near : List Str), vs = [x, .int (k : Int), .ref p] ∧ Ob K H a x d ∧ SqT K H p (near.map V.str) ∧ near.length ≤ 7 ∧ 2 ≤ k ∧ k ≤ 3 ∧ ∀ H', Same H H' → Q (.bl (sumsB k near.length d)) H'
section
variable {base : Heap} {P : Program} {w : World} {K : PySem.W.Frag} {mg : Str → Option Value}
theorem isI_no {d : PyData} (h : isIB d = false) : isI d = false := by cases d <;> first | rfl | cases h
theorem isI_yes {d : PyData} (h : isIB d = true) : isI d = !isBo d := by cases d <;> first | rfl | cases h
theorem isI_int {d : PyData} (h : isI d = true) : ∃ i, d = .int i := by cases d <;> first | exact ⟨_, rfl⟩ | cases h
theorem ok_is_intO (D : Dn K mg "is_integer" s_is_integer ["thing"]) (B : Bn mg) : Cl P w K mg base 1 "is_integer" ["thing"] (spIsIntO K) := by
  refine D.cl sc_is_integer (fun vs H Q E h => ?_) (fun f cdv A outer s H vs Q E hr h => ?_)
  · obtain ⟨v, d, a, rfl, _⟩ := h
    rfl
  · obtain ⟨v, d, a, rfl, hd, q⟩ := h
    refine ⟨_, (pss_one (ps_ret (pe_and (pe_callB (k_isi (K := K)) rfl B.isinstance_ (by decide +kernel) (pa_cons (pv 0) (pa_cons (pe_ty (T := "int") B.int_ (by decide +kernel)) pa_nil))) (pe_one (pe_not (pe_callB (k_isi (K := K)) rfl B.isinstance_ (by decide +kernel) (pa_cons (pv 0) (pa_cons (pe_ty (T := "bool") B.bool_ (by decide +kernel)) pa_nil)))))))), ?_⟩
    repeat' (walk_at "jv")
    refine is_intO hd ?_
    refine ⟨_, rfl, ?_⟩
    refine i_iteB (fun h1 => ?_) (fun h1 => ?_)
    · repeat' (walk_at "jv")
      refine is_boolO hd ?_
      refine ⟨_, rfl, ?_⟩
      rw [← isI_yes h1]
      exact q
    · rw [← isI_no h1]
      rw [isI_no h1] at q ⊢
      exact q
theorem ok_power (D : Dn K mg "power" s_power ["base", "exponent"]) (B : Bn mg) : Cl P w K mg base 1 "power" ["base", "exponent"] spPower := by
  refine D.cl sc_power (fun vs H Q E h => ?_) (fun f cdv A outer s H vs Q E hr h => ?_)
  · obtain ⟨b, e, rfl, _⟩ := h
    rfl
  · obtain ⟨b, e, rfl, hb, he, q⟩ := h
    refine ⟨_, (pss_cons (ps_set (i := 2) sc_power.nd rfl (by first | exact Or.inl rfl | exact Or.inr rfl) pe_int)
      (pss_cons (ps_for PassesOwn.never rfl (pi_range1 rfl B.range_ (pa_cons (pv 1) pa_nil)) (pg_name (i := 3) sc_power.nd rfl (by first | exact Or.inl rfl | exact Or.inr rfl)) (pss_one (ps_set (i := 2) sc_power.nd rfl (by first | exact Or.inl rfl | exact Or.inr rfl) (pe_op op_mul (pv 2) (pv 0)))))
      (pss_one (ps_ret (pv 2))))), ?_⟩
    repeat' (walk_at "jv")
    refine f_range (fun i σ H' => ∃ y3, σ = [some (.int b), some (.int e), some (.int ((b ^ i : Nat) : Int)), y3] ∧ H = H') ⟨none, rfl, rfl⟩ (fun i σ H' hi h => ?_) (fun σ H' h => ?_)
    · obtain ⟨y3, rfl, rfl⟩ := h
      repeat' (walk_at "jv")
      refine ⟨some (.int (0 + (i : Int))), ?_, rfl⟩
      rw [Nat.pow_succ, Int.natCast_mul]
      rfl
    · obtain ⟨y3, rfl, rfl⟩ := h
      repeat' (walk_at "jv")
      exact q
theorem ok_table_length (D : Dn K mg "table_length" s_table_length ["k", "near"]) (B : Bn mg) (C_power : Cl P w K mg base 1 "power" ["base", "exponent"] spPower) : Cl P w K mg base 2 "table_length" ["k", "near"] (spTableLen K) := by
  refine D.cl sc_table_length (fun vs H Q E h => ?_) (fun f cdv A outer s H vs Q E hr h => ?_)
  · obtain ⟨p, k, near, rfl, _⟩ := h
    rfl
  · obtain ⟨p, k, near, rfl, hs, hn, hk, q⟩ := h
    refine ⟨_, (pss_one (ps_ret (pe_c C_power hr (pa_cons (pv 0) (pa_cons (pe_op op_add (pe_callB (k_len (K := K)) rfl B.len_ (by decide +kernel) (pa_cons (pv 1) pa_nil)) pe_int) pa_nil))))), ?_⟩
    repeat' (walk_at "jv")
    refine ⟨k, near.length + 1, by rw [List.length_map]; rfl, hk, by omega, ?_⟩
    exact q
theorem ok_sum_length (D : Dn K mg "sum_length" s_sum_length ["k", "near"]) (B : Bn mg) : Cl P w K mg base 1 "sum_length" ["k", "near"] (spSumLen K) := by
  refine D.cl sc_sum_length (fun vs H Q E h => ?_) (fun f cdv A outer s H vs Q E hr h => ?_)
  · obtain ⟨p, k, near, rfl, _⟩ := h
    rfl
  · obtain ⟨p, k, near, rfl, hs, hn, hk2, hk, q⟩ := h
    refine ⟨_, (pss_one (ps_ret (pe_op op_add (pe_op op_mul (pe_callB (k_len (K := K)) rfl B.len_ (by decide +kernel) (pa_cons (pv 1) pa_nil)) (pe_op op_sub (pv 0) pe_int)) pe_int))), ?_⟩
    repeat' (walk_at "jv")
    rw [List.length_map]
    have e : (near.length : Int) * ((k : Int) - 1) + 1 = ((near.length * (k - 1) + 1 : Nat) : Int) := by
      rw [show (k : Int) - 1 = ((k - 1 : Nat) : Int) by omega, Int.natCast_add, Int.natCast_mul]
      rfl
    rw [e]
    exact q
theorem isT_off {d : PyData} (h : isT d = false) : (∀ k m, statesB k m d = false) ∧ (∀ k n, sumsB k n d = false) ∧ (∀ k near, ruleB k near d = false) ∧ (∀ k ps rs, rulesB k ps rs d = false) ∧ hallB d = false := by
  cases d with
  | tuple ds => cases h
  | _ => exact ⟨fun _ _ => rfl, fun _ _ => rfl, fun _ _ => rfl, fun _ _ _ => rfl, rfl⟩
theorem isT_tup {d : PyData} (h : isT d = true) : ∃ ds, d = .tuple ds := by
  cases d with
  | tuple ds => exact ⟨ds, rfl⟩
  | _ => cases h
theorem ok_are_statesO (D : Dn K mg "are_states" s_are_states ["thing", "k", "many"]) (B : Bn mg) (C_is_integer : Cl P w K mg base 1 "is_integer" ["thing"] (spIsIntO K)) : Cl P w K mg base 2 "are_states" ["thing", "k", "many"] (spAreStatesO K) := by
  refine D.cl sc_are_states (fun vs H Q E h => ?_) (fun f cdv A outer s H vs Q E hr h => ?_)
  · obtain ⟨a, x, d, k, many, rfl, _⟩ := h
    rfl
  · obtain ⟨a, x, d, k, many, rfl, ox, hm, q⟩ := h
    refine ⟨_, (pss_cons (ps_if (PW.pt (pw_or (pt_not (pt_val (pe_callB (k_isi (K := K)) rfl B.isinstance_ (by decide +kernel) (pa_cons (pv 0) (pa_cons (pe_ty (T := "tuple") B.tuple_ (by decide +kernel)) pa_nil))))) (pw_or1 (pt_cmpR op_ne (pe_callB (k_len (K := K)) rfl B.len_ (by decide +kernel) (pa_cons (pv 0) pa_nil)) (pv 2) (nomark _))))) (pss_one (ps_ret pe_bl)) pss_nil)
      (pss_one (ps_ret (pe_callB (k_all (K := K) rfl) rfl B.all_ (by decide +kernel) (pa_cons (pe_lc (own := [("state", 3)]) rfl sc_are_states.nd (kpi_tup (K := K) (pv 0)) (blkOk_by (N := ["thing", "k", "many", "state"]) (sc := defScope s_are_states) (by decide +kernel)) (fun _ _ _ _ _ => (pg_name (i := 3) sc_are_states.nd rfl (by first | exact Or.inl rfl | exact Or.inr rfl))) (fun _ _ _ _ _ => pts_nil) (fun _ _ _ _ _ => (pe_and (pe_c C_is_integer hr (pa_cons (pv 3) pa_nil)) (pe_one (pe_chain op_le op_lt pe_int (pv 3) (pv 1)))))) pa_nil))))), ?_⟩
    repeat' (walk_at "jv")
    refine is_tupO ox ?_
    refine ⟨_, rfl, ?_⟩
    cases c : isT d with
    | false =>
      rw [(isT_off c).1] at q
      repeat' (walk_at "jv")
      exact q H (Same.refl _)
    | true =>
      obtain ⟨ds, rfl⟩ := isT_tup c
      replace q : ∀ H', Same H H' → Q (.bl (decide (ds.length = many) && ds.all (stB k))) H' := q
      cases ox with
      | @tup t xs ds sx al =>
      have hxl := ObAll.len al
      repeat' (walk_at "jv")
      · rw [decide_eq_false (by omega), Bool.false_and] at q
        exact q H (Same.refl _)
      · rw [decide_eq_true (by omega), Bool.true_and] at q
        refine c_tup xs (fun D i H' => H D = none ∧ Same H H' ∧ H' D = some (.lst (((ds.take i).map (stB k)).map V.bl))) (fun D nD => ⟨nD, Same.upd_new nD, upd_same⟩) (fun D i H' _ h => TK.same h.2.1 _ _ sx) (fun D i y H' hy h => ?_) (fun D H' h => ?_)
        · obtain ⟨nD, kD, eD⟩ := h
          obtain ⟨d', hd', od'⟩ := ObAll.get al hy
          have hi : i < ds.length := (List.getElem?_eq_some_iff.mp hd').1
          have fin : ∀ b : Bool, b = stB k d' → H D = none ∧ Same H (upd H' D (.lst (((ds.take i).map (stB k)).map V.bl ++ [V.bl b]))) ∧ (upd H' D (.lst (((ds.take i).map (stB k)).map V.bl ++ [V.bl b]))) D = some (.lst (((ds.take (i + 1)).map (stB k)).map V.bl)) := fun b e => by
            refine ⟨nD, fun c oc z => (upd_ne (ne_of_none z nD)).trans (kD _ _ z), ?_⟩
            rw [take_push hd', List.map_append, List.map_append, e]
            exact upd_same
          repeat' (walk_at "jv")
          refine ⟨y, d', a, rfl, od'.same kD, ?_⟩
          refine ⟨_, rfl, ?_⟩
          cases ci : isI d' with
          | false =>
            have e0 : stB k d' = false := by cases d' <;> first | rfl | cases ci
            repeat' (walk_at "jv")
            exact fin _ e0.symm
          | true =>
            obtain ⟨i', rfl⟩ := isI_int ci
            cases od'
            repeat' (walk_at "jv")
            · rename_i h0
              refine fin _ ?_
              show _ = (decide (0 ≤ i') && decide (i' < (k : Int)))
              rw [decide_eq_true h0, Bool.true_and]
            · rename_i h0
              refine fin _ ?_
              show _ = (decide (0 ≤ i') && decide (i' < (k : Int)))
              rw [decide_eq_false h0, Bool.false_and]
        · obtain ⟨nD, kD, eD⟩ := h
          rw [hxl, List.take_length] at eD
          repeat' (walk_at "jv")
          rw [show (ds.map (stB k)).all id = ds.all (stB k) by rw [List.all_map]; rfl]
          exact q _ kD
theorem ok_are_sumsO (D : Dn K mg "_are_sums" s__are_sums ["worth", "k", "near"]) (B : Bn mg) (C_sum_length : Cl P w K mg base 1 "sum_length" ["k", "near"] (spSumLen K)) (C_are_states : Cl P w K mg base 2 "are_states" ["thing", "k", "many"] (spAreStatesO K)) :
    Cl P w K mg base 3 "_are_sums" ["worth", "k", "near"] (spAreSumsO K) := by
  refine D.cl sc__are_sums (fun vs H Q E h => ?_) (fun f cdv A outer s H vs Q E hr h => ?_)
  · obtain ⟨a, p, x, d, k, near, rfl, _⟩ := h
    rfl
  · obtain ⟨a, p, x, d, k, near, rfl, ox, hp, hn, hk2, hk3, q⟩ := h
    have hw15 : near.length * (k - 1) + 1 ≤ 15 := by
      have := Nat.mul_le_mul hn (show k - 1 ≤ 2 by omega)
      omega
    refine ⟨_, (pss_cons (ps_if (PW.pt (pw_or (pt_not (pt_val (pe_callB (k_isi (K := K)) rfl B.isinstance_ (by decide +kernel) (pa_cons (pv 0) (pa_cons (pe_ty (T := "tuple") B.tuple_ (by decide +kernel)) pa_nil))))) (pw_or1 (pt_cmpR op_ne (pe_callB (k_len (K := K)) rfl B.len_ (by decide +kernel) (pa_cons (pv 0) pa_nil)) (pv 1) (nomark _))))) (pss_one (ps_ret pe_bl)) pss_nil)
      (pss_one (ps_ret (pe_callB (k_all (K := K) rfl) rfl B.all_ (by decide +kernel) (pa_cons (pe_lc (own := [("states", 3)]) rfl sc__are_sums.nd (kpi_tup (K := K) (pv 0)) (blkOk_by (N := ["worth", "k", "near", "states"]) (sc := defScope s__are_sums) (by decide +kernel)) (fun _ _ _ _ _ => (pg_name (i := 3) sc__are_sums.nd rfl (by first | exact Or.inl rfl | exact Or.inr rfl))) (fun _ _ _ _ _ => pts_nil) (fun _ _ _ _ _ => (pe_c C_are_states hr (pa_cons (pv 3) (pa_cons (pv 1) (pa_cons (pe_c C_sum_length hr (pa_cons (pv 1) (pa_cons (pv 2) pa_nil))) pa_nil)))))) pa_nil))))), ?_⟩
    repeat' (walk_at "jv")
    refine is_tupO ox ?_
    refine ⟨_, rfl, ?_⟩
    cases c : isT d with
    | false =>
      rw [(isT_off c).2.1] at q
      repeat' (walk_at "jv")
      exact q H (Same.refl _)
    | true =>
      obtain ⟨ds, rfl⟩ := isT_tup c
      replace q : ∀ H', Same H H' → Q (.bl (decide (ds.length = k) && ds.all (statesB k (near.length * (k - 1) + 1)))) H' := q
      generalize hm : near.length * (k - 1) + 1 = m at *
      cases ox with
      | @tup t xs ds sx al =>
      have hxl := ObAll.len al
      repeat' (walk_at "jv")
      · rw [decide_eq_false (by omega), Bool.false_and] at q
        exact q H (Same.refl _)
      · rw [decide_eq_true (by omega), Bool.true_and] at q
        refine c_tup xs (fun D i H' => H D = none ∧ Same H H' ∧ H' D = some (.lst (((ds.take i).map (statesB k m)).map V.bl))) (fun D nD => ⟨nD, Same.upd_new nD, upd_same⟩) (fun D i H' _ h => TK.same h.2.1 _ _ sx) (fun D i y H' hy h => ?_) (fun D H' h => ?_)
        · obtain ⟨nD, kD, eD⟩ := h
          obtain ⟨d', hd', od'⟩ := ObAll.get al hy
          have hi : i < ds.length := (List.getElem?_eq_some_iff.mp hd').1
          have hp' := TK.same (K := K) kD _ _ hp
          repeat' (walk_at "jv")
          refine ⟨p, k, near, rfl, SqA.t hp', hn, hk2, hk3, ?_⟩
          rw [hm]
          repeat' (walk_at "jv")
          refine ⟨a, y, d', k, m, rfl, od'.same kD, by omega, fun H2 k2 => ?_⟩
          refine i_lcE (k2 _ _ eD) (by rw [List.length_map, List.length_map, List.length_take, sizeLine_eq]; omega) ⟨nD, fun c oc z => (upd_ne (ne_of_none z nD)).trans (k2 _ _ (kD _ _ z)), ?_⟩
          rw [take_push hd', List.map_append, List.map_append]
          exact upd_same
        · obtain ⟨nD, kD, eD⟩ := h
          rw [hxl, List.take_length] at eD
          repeat' (walk_at "jv")
          rw [show (ds.map (statesB k m)).all id = ds.all (statesB k m) by rw [List.all_map]; rfl]
          exact q _ kD
end
end
section
open L2 PySem PySem.Spec PyProof.Rows
abbrev s_is_name : Stmt := topS 24
theorem sc_is_name : FnScope ["thing", "sign"] ["thing"] (defScope s_is_name) := ⟨rfl, rfl, rfl, by decide +kernel, rfl, by decide +kernel, by decide +kernel⟩
abbrev s_is_one_of : Stmt := topS 29
theorem sc_is_one_of : FnScope ["thing", "places"] ["thing", "places"] (defScope s_is_one_of) := ⟨rfl, rfl, rfl, by decide +kernel, rfl, by decide +kernel, by decide +kernel⟩
abbrev s__is_road : Stmt := topS 28
theorem sc__is_road : FnScope ["thing", "places", "end"] ["thing", "places"] (defScope s__is_road) := ⟨rfl, rfl, rfl, by decide +kernel, rfl, by decide +kernel, by decide +kernel⟩
abbrev s__are_places : Stmt := topS 26
theorem sc__are_places : FnScope ["thing", "place"] ["thing"] (defScope s__are_places) := ⟨rfl, rfl, rfl, by decide +kernel, rfl, by decide +kernel, by decide +kernel⟩
abbrev s__are_roads : Stmt := topS 27
theorem sc__are_roads : FnScope ["thing", "places", "road"] ["thing", "places"] (defScope s__are_roads) := ⟨rfl, rfl, rfl, by decide +kernel, rfl, by decide +kernel, by decide +kernel⟩
abbrev s_is_web : Stmt := topS 25
theorem sc_is_web : FnScope ["thing", "places", "roads"] ["thing"] (defScope s_is_web) := ⟨rfl, rfl, rfl, by decide +kernel, rfl, by decide +kernel, by decide +kernel⟩
section
variable {X : Cx} {x : Str} {pos : Pos}
theorem gl_int {i : Int} {t : Tok} (hm : X.mg x = some (.int i t)) (hg : Gl X x := by rfl) (hd : (x == ("__debug__" : Str)) = false := by decide) : PE X (.Name x pos) (tC (.int i)) := pe_glob hg hm ⟨t, rfl⟩ hd
theorem gl_str {i : Str} {t : Tok} (hm : X.mg x = some (.str i t)) (hg : Gl X x := by rfl) (hd : (x == ("__debug__" : Str)) = false := by decide) : PE X (.Name x pos) (tC (.str i)) := pe_glob hg hm ⟨t, rfl⟩ hd
end
structure Gn (mg : Str → Option Value) : Prop where
  ln : ∃ t, mg "LONGEST_NAME" = some (.int 8 t)
  mp : ∃ t, mg "MOST_PLACES" = some (.int 8 t)
  mr : ∃ t, mg "MOST_ROADS" = some (.int 14 t)
  le : ∃ t, mg "LETTERS" = some (.str "abcdefghijklmnopqrstuvwxyz" t)
  ns : ∃ t, mg "NAME_SIGNS" = some (.str "abcdefghijklmnopqrstuvwxyz0123456789" t)
def spIsNameO (K : PySem.W.Frag) : Sp := fun vs H Q _ => ∃ (a : Addr) (x : V) (d : PyData), vs = [x] ∧ Ob K H a x d ∧ okD d = true ∧ ∀ H', Same H H' → Q (.bl (nameB d)) H'
def oneB (ps : List Str) : PyData → Bool
  | .str z => decide (z ∈ ps)
  | _ => false
def spIsOneO (K : PySem.W.Frag) : Sp := fun vs H Q _ => ∃ (a p : Addr) (x : V) (d : PyData) (ps : List Str), vs = [x, .ref p] ∧ Ob K H a x d ∧ SqT K H p (ps.map V.str) ∧ Q (.bl (oneB ps d)) H
def spIsRoadO (K : PySem.W.Frag) : Sp := fun vs H Q _ => ∃ (a p : Addr) (x : V) (d : PyData) (ps : List Str), vs = [x, .ref p] ∧ Ob K H a x d ∧ SqT K H p (ps.map V.str) ∧ ∀ H', Same H H' → Q (.bl (roadB ps d)) H'
def spArePlacesO (K : PySem.W.Frag) : Sp := fun vs H Q _ => ∃ (a : Addr) (x : V) (d : PyData), vs = [x] ∧ Ob K H a x d ∧ okD d = true ∧ ∀ H', Same H H' → Q (.bl (placesB d)) H'
def spAreRoadsO (K : PySem.W.Frag) : Sp := fun vs H Q _ => ∃ (a p : Addr) (x : V) (d : PyData) (ps : List Str), vs = [x, .ref p] ∧ Ob K H a x d ∧ SqT K H p (ps.map V.str) ∧ ∀ H', Same H H' → Q (.bl (roadsB ps d)) H'
def spIsWebO (K : PySem.W.Frag) : Sp := fun vs H Q _ => ∃ (a : Addr) (x : V) (d : PyData), vs = [x] ∧ Ob K H a x d ∧ okD d = true ∧ ∀ H', Same H H' → Q (.bl (webB d)) H'
theorem letters_are : (Str.ofString "abcdefghijklmnopqrstuvwxyz").cps.toList = List.range' 97 26 := by decide +kernel
theorem signs_are : (Str.ofString "abcdefghijklmnopqrstuvwxyz0123456789").cps.toList = List.range' 97 26 ++ List.range' 48 10 := by decide +kernel
theorem letter_iff (c : Nat) : decide (c ∈ (Str.ofString "abcdefghijklmnopqrstuvwxyz").cps.toList) = (decide (97 ≤ c) && decide (c ≤ 122)) := by
  rw [letters_are, ← Bool.decide_and]
  refine decide_eq_decide.mpr ?_
  rw [List.mem_range'_1]
  omega
theorem sign_iff (c : Nat) : decide (c ∈ (Str.ofString "abcdefghijklmnopqrstuvwxyz0123456789").cps.toList) = nmSign c := by
  rw [signs_are]
  unfold nmSign
  rw [← Bool.decide_and, ← Bool.decide_and, ← Bool.decide_or]
  refine decide_eq_decide.mpr ?_
  rw [List.mem_append, List.mem_range'_1, List.mem_range'_1]
  omega
theorem nm_long {z : Str} (h : ¬ (1 ≤ z.cps.size ∧ z.cps.size ≤ 8)) : nmOk z = false := by
  cases c : nmOk z with
  | false => rfl
  | true =>
    obtain ⟨x, r, e, h7, _⟩ := nm_parts c
    rw [← Array.length_toList, e, List.length_cons] at h
    omega
theorem nm_split {z : Str} {c : Nat} (h8 : z.cps.size ≤ 8) (h0 : z.cps[0]? = some c) : nmOk z = ((decide (97 ≤ c) && decide (c ≤ 122)) && z.cps.toList.all nmSign) := by
  have e : ∃ r, z.cps.toList = c :: r := by
    rw [← Array.getElem?_toList] at h0
    cases k : z.cps.toList with
    | nil => rw [k] at h0; cases h0
    | cons x r =>
      rw [k] at h0
      exact ⟨r, by rw [Option.some.inj h0]⟩
  obtain ⟨r, e⟩ := e
  have hl : r.length ≤ 7 := by
    rw [← Array.length_toList, e, List.length_cons] at h8
    omega
  unfold nmOk
  rw [e]
  show ((decide (r.length ≤ 7) && (decide (97 ≤ c) && decide (c ≤ 122))) && r.all nmSign) = _
  rw [decide_eq_true hl, Bool.true_and, List.all_cons]
  cases k : (decide (97 ≤ c) && decide (c ≤ 122)) with
  | false => rfl
  | true =>
    rw [Bool.true_and, Bool.true_and, sl_of (by rw [Bool.and_eq_true, decide_eq_true_iff, decide_eq_true_iff] at k; exact k), Bool.true_and]
section
variable {base : Heap} {P : Program} {w : World} {K : PySem.W.Frag} {mg : Str → Option Value}
theorem ok_is_nameO (D : Dn K mg "is_name" s_is_name ["thing"]) (B : Bn mg) (Gg : Gn mg) : Cl P w K mg base 1 "is_name" ["thing"] (spIsNameO K) := by
  obtain ⟨⟨t1, c_LONGEST_NAME⟩, _, _, ⟨t4, c_LETTERS⟩, ⟨t5, c_NAME_SIGNS⟩⟩ := Gg
  refine D.cl sc_is_name (fun vs H Q E h => ?_) (fun f cdv A outer s H vs Q E hr h => ?_)
  · obtain ⟨a, x, d, rfl, _⟩ := h
    rfl
  · obtain ⟨a, x, d, rfl, ox, ok, q⟩ := h
    refine ⟨_, (pss_cons (ps_if (PW.pt (pw_or (pt_not (pt_val (pe_callB (k_isi (K := K)) rfl B.isinstance_ (by decide +kernel) (pa_cons (pv 0) (pa_cons (pe_ty (T := "str") B.str_ (by decide +kernel)) pa_nil))))) (pw_or1 (pt_not (pt_chain op_le op_le pe_int (pe_callB (call_len_str) rfl B.len_ (by decide +kernel) (pa_cons (pv 0) pa_nil)) (gl_int c_LONGEST_NAME)))))) (pss_one (ps_ret pe_bl)) pss_nil)
      (pss_one (ps_ret (pe_and (pe_cmpR op_in_sign (pe_its (pv 0) pe_int (fun _ _ => rfl)) (gl_str c_LETTERS) (by rfl)) (pe_one (pe_callB (k_all (K := K) rfl) rfl B.all_ (by decide +kernel) (pa_cons (pe_lc (own := [("sign", 1)]) rfl sc_is_name.nd (pi_str (pv 0)) (blkOk_by (N := ["thing", "sign"]) (sc := defScope s_is_name) (by decide +kernel)) (fun _ _ _ _ _ => (pg_name (i := 1) sc_is_name.nd rfl (by first | exact Or.inl rfl | exact Or.inr rfl))) (fun _ _ _ _ _ => pts_nil) (fun _ _ _ _ _ => (pe_cmpR op_in_sign (pv 1) (gl_str c_NAME_SIGNS) (by rfl)))) pa_nil))))))), ?_⟩
    repeat' (walk_at "jv")
    refine is_strO ox ?_
    refine ⟨_, rfl, ?_⟩
    cases c1 : isS d with
    | false =>
      have e1 : nameB d = false := by
        cases d with
        | str z => cases c1
        | _ => rfl
      rw [e1] at q
      repeat' (walk_at "jv")
      exact q H (Same.refl _)
    | true =>
      obtain ⟨z, rfl⟩ : ∃ z, d = .str z := by
        cases d with
        | str z => exact ⟨z, rfl⟩
        | _ => cases c1
      cases ox
      replace q : ∀ H', Same H H' → Q (.bl (nmOk z)) H' := q
      obtain ⟨hsz, _⟩ := ok_str.mp ok
      have hln : (z.length : Int) = z.cps.size := rfl
      repeat' (walk_at "jv")
      refine ⟨z, rfl, by rw [sizeLine_eq]; show z.cps.size ≤ _; omega, ?_⟩
      repeat' (walk_at "jv")
      · rw [nm_long (by omega)] at q
        exact q H (Same.refl _)
      · have h8 : z.cps.size ≤ 8 := by omega
        have h1 : 0 < z.cps.size := by omega
        have h0 : z.cps[0]? = some z.cps[0] := Array.getElem?_eq_getElem h1
        generalize z.cps[0] = c at h0
        rw [nm_split h8 h0] at q
        refine ⟨z, 0, c, rfl, rfl, by omega, by decide, by show (0 : Int) < z.length; omega, h0, ?_⟩
        repeat' (walk_at "jv")
        refine ⟨c, _, rfl, rfl, ?_⟩
        rw [letter_iff]
        refine ⟨_, rfl, ?_⟩
        cases hc : (decide (97 ≤ c) && decide (c ≤ 122)) with
        | false =>
          rw [hc] at q
          repeat' (walk_at "jv")
          exact q H (Same.refl _)
        | true =>
          rw [hc, Bool.true_and] at q
          repeat' (walk_at "jv")
          refine i_istr (i_var rfl (i_isK ?_))
          refine p_str z (fun i => V.bl (nmSign (z.cps.toList.getD i 0))) (by omega) (fun D2 acc i d N nD hx hN => ?_) (fun D2 nD => ?_)
          · repeat' (walk_at "jv")
            refine ⟨d, _, rfl, rfl, ?_⟩
            rw [sign_iff]
            have e : z.cps.toList.getD i 0 = d := by
              rw [List.getD_eq_getElem?_getD, Array.getElem?_toList, hx]
              rfl
            rw [e] at hN
            exact hN
          · refine i_nil ?_
            have eb : (List.range z.cps.size).map (fun i => V.bl (nmSign (z.cps.toList.getD i 0))) = (z.cps.toList.map nmSign).map V.bl := by
              refine List.ext_getElem (by simp) fun i h1 h2 => ?_
              have hi : i < z.cps.size := by simpa using h1
              rw [List.getElem_map, List.getElem_map, List.getElem_map, List.getElem_range, List.getD_eq_getElem?_getD, List.getElem?_eq_getElem (by simpa using hi)]
              rfl
            refine i_all (bs := z.cps.toList.map nmSign) (sq_lst (by rw [upd_same, eb])) ?_
            rw [show (z.cps.toList.map nmSign).all id = z.cps.toList.all nmSign by rw [List.all_map]; rfl]
            exact q _ (Same.upd_new nD)
      · rw [nm_long (by omega)] at q
        exact q H (Same.refl _)
theorem strs_of_obs {H : Hp} {a : Addr} : ∀ {zs : List Str} {xs : List V}, ObAll K H a xs (zs.map PyData.str) → xs = zs.map V.str
  | [], _, .nil => rfl
  | z :: zs, _, .cons h t => by
    rw [strs_of_obs t]
    cases h
    rfl
theorem roads_of_obs {H : Hp} {a : Addr} : ∀ {l : List (Str × Str)} {xs : List V}, ObAll K H a xs (l.map roadD) → DpAll K H xs (l.map roadD)
  | [], _, .nil => .nil
  | r :: l, _, .cons h t => by
    refine .cons ?_ (roads_of_obs t)
    cases h with
    | tup s al =>
      cases al with
      | cons h1 h2 =>
      cases h2 with
      | cons h2 h3 =>
      cases h3
      cases h1
      cases h2
      exact .tup s (.cons (.str _) (.cons (.str _) .nil))
theorem few_srt {L : List (List Str)} {rs : List (Str × Str)} (nd : L.Nodup) (m : ∀ k, k ∈ L ↔ k ∈ rs.map srt) : decide ((L.length : Int) = (rs.length : Int)) = uniqB rs := by
  unfold uniqB
  refine decide_eq_decide.mpr ?_
  have iff1 : (rs.map srt).Nodup ↔ rs.Pairwise fun r s => r ≠ s ∧ r ≠ (s.2, s.1) := by
    rw [List.Nodup, List.pairwise_map]
    refine List.pairwise_iff_forall_sublist.trans ?_
    refine Iff.trans ?_ List.pairwise_iff_forall_sublist.symm
    constructor
    · intro h a b s
      have := h s
      rw [Ne, srt_eq, not_or] at this
      exact this
    · intro h a b s
      rw [Ne, srt_eq, not_or]
      exact h s
  have z := (nd_eq nd m).2
  rw [List.length_map] at z
  rw [← iff1, ← z]
  omega
theorem ok_is_oneO (D : Dn K mg "is_one_of" s_is_one_of ["thing", "places"]) (B : Bn mg) : Cl P w K mg base 1 "is_one_of" ["thing", "places"] (spIsOneO K) := by
  refine D.cl sc_is_one_of (fun vs H Q E h => ?_) (fun f cdv A outer s H vs Q E hr h => ?_)
  · obtain ⟨a, p, x, d, ps, rfl, _⟩ := h
    rfl
  · obtain ⟨a, p, x, d, ps, rfl, ox, hs, q⟩ := h
    refine ⟨_, (pss_one (ps_ret (pe_and (pe_callB (k_isi (K := K)) rfl B.isinstance_ (by decide +kernel) (pa_cons (pv 0) (pa_cons (pe_ty (T := "str") B.str_ (by decide +kernel)) pa_nil))) (pe_one (pe_cmpR (k_inS (K := K)) (pv 0) (pv 1) (by rfl)))))), ?_⟩
    repeat' (walk_at "jv")
    refine is_strO ox ?_
    refine ⟨_, rfl, ?_⟩
    cases c1 : isS d with
    | false =>
      have e1 : oneB ps d = false := by
        cases d with
        | str z => cases c1
        | _ => rfl
      rw [e1] at q
      repeat' (walk_at "jv")
      exact q
    | true =>
      obtain ⟨z, rfl⟩ : ∃ z, d = .str z := by
        cases d with
        | str z => exact ⟨z, rfl⟩
        | _ => cases c1
      cases ox
      repeat' (walk_at "jv")
      exact q
theorem road_two (ps : List Str) (d e : PyData) : roadB ps (.tuple [d, e]) = ((oneB ps d && oneB ps e) && !decide (txtD d = txtD e)) := by
  cases d with
  | str x => cases e with
    | str y => rfl
    | _ => show false = ((_ && false) && _); rw [Bool.and_false, Bool.false_and]
  | _ => show false = ((false && _) && _); rw [Bool.false_and, Bool.false_and]
theorem road_not {ps : List Str} {ds : List PyData} (h : ds.length ≠ 2) : roadB ps (.tuple ds) = false := by
  match ds, h with
  | [], _ => rfl
  | [d], _ => cases d <;> rfl
  | [d, e], h => exact absurd rfl h
  | d :: e :: f :: r, _ =>
    unfold roadB
    split
    · rename_i x y heq
      injection heq with heq
      injection heq with _ heq
      injection heq with _ heq
      cases heq
    · rfl
theorem isT_no {ps : List Str} {d : PyData} (h : isT d = false) : roadB ps d = false ∧ placesB d = false ∧ (∀ qs, roadsB qs d = false) ∧ webB d = false := by
  cases d with
  | tuple ds => cases h
  | _ => exact ⟨rfl, rfl, fun _ => rfl, rfl⟩
theorem ok_is_roadO (D : Dn K mg "_is_road" s__is_road ["thing", "places"]) (B : Bn mg) (C_is_one_of : Cl P w K mg base 1 "is_one_of" ["thing", "places"] (spIsOneO K)) : Cl P w K mg base 2 "_is_road" ["thing", "places"] (spIsRoadO K) := by
  refine D.cl sc__is_road (fun vs H Q E h => ?_) (fun f cdv A outer s H vs Q E hr h => ?_)
  · obtain ⟨a, p, x, d, ps, rfl, _⟩ := h
    rfl
  · obtain ⟨a, p, x, d, ps, rfl, ox, hs, q⟩ := h
    refine ⟨_, (pss_cons (ps_if (PW.pt (pw_or (pt_not (pt_val (pe_callB (k_isi (K := K)) rfl B.isinstance_ (by decide +kernel) (pa_cons (pv 0) (pa_cons (pe_ty (T := "tuple") B.tuple_ (by decide +kernel)) pa_nil))))) (pw_or1 (pt_cmpR op_ne (pe_callB (k_len (K := K)) rfl B.len_ (by decide +kernel) (pa_cons (pv 0) pa_nil)) pe_int (nomark _))))) (pss_one (ps_ret pe_bl)) pss_nil)
      (pss_one (ps_ret (pe_and (pe_callB (k_all (K := K) rfl) rfl B.all_ (by decide +kernel) (pa_cons (pe_lc (own := [("end", 2)]) rfl sc__is_road.nd (kpi_tup (K := K) (pv 0)) (blkOk_by (N := ["thing", "places", "end"]) (sc := defScope s__is_road) (by decide +kernel)) (fun _ _ _ _ _ => (pg_name (i := 2) sc__is_road.nd rfl (by first | exact Or.inl rfl | exact Or.inr rfl))) (fun _ _ _ _ _ => pts_nil) (fun _ _ _ _ _ => (pe_c C_is_one_of hr (pa_cons (pv 2) (pa_cons (pv 1) pa_nil))))) pa_nil)) (pe_one (pe_cmpR op_ne (pe_ix (k_ixT (K := K)) (pv 0) pe_int (fun _ _ => rfl)) (pe_ix (k_ixT (K := K)) (pv 0) pe_int (fun _ _ => rfl)) (nomark _))))))), ?_⟩
    repeat' (walk_at "jv")
    refine is_tupO ox ?_
    refine ⟨_, rfl, ?_⟩
    cases c : isT d with
    | false =>
      rw [(isT_no (ps := ps) c).1] at q
      repeat' (walk_at "jv")
      exact q H (Same.refl _)
    | true =>
      obtain ⟨ds, rfl⟩ : ∃ ds, d = .tuple ds := by
        cases d with
        | tuple ds => exact ⟨ds, rfl⟩
        | _ => cases c
      cases ox with
      | @tup t xs ds sx al =>
      have hxl := ObAll.len al
      repeat' (walk_at "jv")
      · rename_i hne
        rw [road_not (by omega)] at q
        exact q H (Same.refl _)
      · rename_i hne
        obtain ⟨d1, d2, rfl⟩ : ∃ d1 d2, ds = [d1, d2] := by
          match ds, (show ds.length = 2 by omega) with
          | [d1, d2], _ => exact ⟨d1, d2, rfl⟩
        rw [road_two] at q
        refine c_tup xs (fun D i H' => H D = none ∧ Same H H' ∧ H' D = some (.lst ((([d1, d2].take i).map (oneB ps)).map V.bl))) (fun D nD => ⟨nD, Same.upd_new nD, upd_same⟩) (fun D i H' _ h => TK.same h.2.1 _ _ sx) (fun D i y H' hy h => ?_) (fun D H' h => ?_)
        · obtain ⟨nD, kD, eD⟩ := h
          obtain ⟨d', hd', od'⟩ := ObAll.get al hy
          have hi : i < 2 := (List.getElem?_eq_some_iff.mp hd').1
          repeat' (walk_at "jv")
          refine ⟨a, p, y, d', ps, rfl, od'.same kD, TK.same (K := K) kD _ _ hs, ?_⟩
          refine i_lcE eD (by rw [List.length_map, List.length_map, List.length_take, sizeLine_eq]; omega) ⟨nD, fun c oc z => (upd_ne (ne_of_none z nD)).trans (kD _ _ z), ?_⟩
          rw [take_push hd', List.map_append, List.map_append]
          exact upd_same
        · obtain ⟨nD, kD, eD⟩ := h
          rw [hxl, List.take_length] at eD
          have sx' := TK.same (K := K) kD _ _ sx
          repeat' (walk_at "jv")
          have ea : ([d1, d2].map (oneB ps)).all id = (oneB ps d1 && oneB ps d2) := by
            show (oneB ps d1 && (oneB ps d2 && true)) = _
            rw [Bool.and_true]
          rw [ea]
          cases c2 : (oneB ps d1 && oneB ps d2) with
          | false =>
            rw [c2] at q
            repeat' (walk_at "jv")
            exact q H' kD
          | true =>
            rw [c2, Bool.true_and] at q
            rw [Bool.and_eq_true] at c2
            obtain ⟨u, rfl⟩ : ∃ u, d1 = .str u := by
              cases d1 with
              | str u => exact ⟨u, rfl⟩
              | _ => cases c2.1
            obtain ⟨u2, rfl⟩ : ∃ u, d2 = .str u := by
              cases d2 with
              | str u => exact ⟨u, rfl⟩
              | _ => cases c2.2
            cases al with
            | cons h1 h2 =>
            cases h2 with
            | cons h2 h3 =>
            cases h3
            cases h1
            cases h2
            repeat' (walk_at "jv")
            have e2 : (!decide (txtD (.str u) = txtD (.str u2))) = decide (u ≠ u2) := by
              show (!decide (u = u2)) = _
              rw [decide_not]
            rw [e2] at q
            exact q H' kD
theorem ok_are_placesO (D : Dn K mg "_are_places" s__are_places ["thing"]) (B : Bn mg) (Gg : Gn mg) (C_is_name : Cl P w K mg base 1 "is_name" ["thing"] (spIsNameO K)) : Cl P w K mg base 2 "_are_places" ["thing"] (spArePlacesO K) := by
  obtain ⟨_, ⟨t2, c_MOST_PLACES⟩, _, _, _⟩ := Gg
  refine D.cl sc__are_places (fun vs H Q E h => ?_) (fun f cdv A outer s H vs Q E hr h => ?_)
  · obtain ⟨a, x, d, rfl, _⟩ := h
    rfl
  · obtain ⟨a, x, d, rfl, ox, ok, q⟩ := h
    refine ⟨_, (pss_cons (ps_if (PW.pt (pw_or (pt_not (pt_val (pe_callB (k_isi (K := K)) rfl B.isinstance_ (by decide +kernel) (pa_cons (pv 0) (pa_cons (pe_ty (T := "tuple") B.tuple_ (by decide +kernel)) pa_nil))))) (pw_or1 (pt_not (pt_chain op_le op_le pe_int (pe_callB (k_len (K := K)) rfl B.len_ (by decide +kernel) (pa_cons (pv 0) pa_nil)) (gl_int c_MOST_PLACES)))))) (pss_one (ps_ret pe_bl)) pss_nil)
      (pss_one (ps_ret (pe_and (pe_callB (k_all (K := K) rfl) rfl B.all_ (by decide +kernel) (pa_cons (pe_lc (own := [("place", 1)]) rfl sc__are_places.nd (kpi_tup (K := K) (pv 0)) (blkOk_by (N := ["thing", "place"]) (sc := defScope s__are_places) (by decide +kernel)) (fun _ _ _ _ _ => (pg_name (i := 1) sc__are_places.nd rfl (by first | exact Or.inl rfl | exact Or.inr rfl))) (fun _ _ _ _ _ => pts_nil) (fun _ _ _ _ _ => (pe_c C_is_name hr (pa_cons (pv 1) pa_nil)))) pa_nil)) (pe_one (pe_cmpR op_eq (pe_callB (cr_lenTextsD) rfl B.len_ (by decide +kernel) (pa_cons (pe_callTy (cr_setTextsD rfl) rfl B.set_ (by decide +kernel) (pa_cons (pv 0) pa_nil)) pa_nil)) (pe_callB (k_len (K := K)) rfl B.len_ (by decide +kernel) (pa_cons (pv 0) pa_nil)) (nomark _))))))), ?_⟩
    repeat' (walk_at "jv")
    refine is_tupO ox ?_
    refine ⟨_, rfl, ?_⟩
    cases c : isT d with
    | false =>
      rw [(isT_no (ps := []) c).2.1] at q
      repeat' (walk_at "jv")
      exact q H (Same.refl _)
    | true =>
      obtain ⟨ds, rfl⟩ : ∃ ds, d = .tuple ds := by
        cases d with
        | tuple ds => exact ⟨ds, rfl⟩
        | _ => cases c
      cases ox with
      | @tup t xs ds sx al =>
      have hxl := ObAll.len al
      replace q : ∀ H', Same H H' → Q (.bl ((decide (1 ≤ ds.length) && decide (ds.length ≤ 8)) && (ds.all nameB && decide (ds.map txtD).Nodup))) H' := q
      repeat' (walk_at "jv")
      · rw [decide_eq_false (p := ds.length ≤ 8) (by omega), Bool.and_false, Bool.false_and] at q
        exact q H (Same.refl _)
      · rw [decide_eq_true (p := 1 ≤ ds.length) (by omega), decide_eq_true (p := ds.length ≤ 8) (by omega)] at q
        rw [Bool.true_and, Bool.true_and] at q
        refine c_tup xs (fun D i H' => H D = none ∧ Same H H' ∧ H' D = some (.lst (((ds.take i).map nameB).map V.bl))) (fun D nD => ⟨nD, Same.upd_new nD, upd_same⟩) (fun D i H' _ h => TK.same h.2.1 _ _ sx) (fun D i y H' hy h => ?_) (fun D H' h => ?_)
        · obtain ⟨nD, kD, eD⟩ := h
          obtain ⟨d', hd', od'⟩ := ObAll.get al hy
          have hi : i < ds.length := (List.getElem?_eq_some_iff.mp hd').1
          repeat' (walk_at "jv")
          refine ⟨a, y, d', rfl, od'.same kD, ok_tup.mp ok d' (List.mem_of_getElem? hd'), fun H2 k2 => ?_⟩
          refine i_lcE (k2 _ _ eD) (by rw [List.length_map, List.length_map, List.length_take, sizeLine_eq]; omega) ⟨nD, fun c oc z => (upd_ne (ne_of_none z nD)).trans (k2 _ _ (kD _ _ z)), ?_⟩
          rw [take_push hd', List.map_append, List.map_append]
          exact upd_same
        · obtain ⟨nD, kD, eD⟩ := h
          rw [hxl, List.take_length] at eD
          have sx' := TK.same (K := K) kD _ _ sx
          repeat' (walk_at "jv")
          rw [show (ds.map nameB).all id = ds.all nameB by rw [List.all_map]; rfl]
          cases ca : ds.all nameB with
          | false =>
            rw [ca] at q
            repeat' (walk_at "jv")
            exact q H' kD
          | true =>
            rw [ca, Bool.true_and] at q
            obtain ⟨ez, _⟩ := names_all ca
            have hzl : (ds.map txtD).length = ds.length := List.length_map ..
            generalize ds.map txtD = zs at ez hzl q
            subst ez
            obtain rfl := strs_of_obs al
            repeat' (walk_at "jv")
            refine ⟨t, zs, rfl, sx', by omega, fun D2 nD2 => ?_⟩
            repeat' (walk_at "jv")
            refine ⟨D2, zs, rfl, upd_same, ?_⟩
            have k2 := Same.upd_new (o := TxsDO P w D2 zs) nD2
            have sx2 := TK.same (K := K) k2 _ _ sx'
            have hzv : (zs.map V.str).length = zs.length := List.length_map ..
            repeat' (walk_at "jv")
            have ed : decide (((distN zs : Nat) : Int) = (((zs.map V.str).length : Nat) : Int)) = decide zs.Nodup := by
              refine decide_eq_decide.mpr ?_
              rw [← (dist_le zs.length zs rfl).2, hzv]
              omega
            rw [ed]
            exact q _ (kD.trans k2)
      · rw [decide_eq_false (p := 1 ≤ ds.length) (by omega), Bool.false_and, Bool.false_and] at q
        exact q H (Same.refl _)
theorem ok_are_roadsO (D : Dn K mg "_are_roads" s__are_roads ["thing", "places"]) (B : Bn mg) (Gg : Gn mg) (C__is_road : Cl P w K mg base 2 "_is_road" ["thing", "places"] (spIsRoadO K)) : Cl P w K mg base 3 "_are_roads" ["thing", "places"] (spAreRoadsO K) := by
  obtain ⟨_, _, ⟨t3, c_MOST_ROADS⟩, _, _⟩ := Gg
  refine D.cl sc__are_roads (fun vs H Q E h => ?_) (fun f cdv A outer s H vs Q E hr h => ?_)
  · obtain ⟨a, p, x, d, ps, rfl, _⟩ := h
    rfl
  · obtain ⟨a, p, x, d, ps, rfl, ox, hs, q⟩ := h
    refine ⟨_, (pss_cons (ps_if (PW.pt (pw_or (pt_not (pt_val (pe_callB (k_isi (K := K)) rfl B.isinstance_ (by decide +kernel) (pa_cons (pv 0) (pa_cons (pe_ty (T := "tuple") B.tuple_ (by decide +kernel)) pa_nil))))) (pw_or1 (pt_cmpR op_gt (pe_callB (k_len (K := K)) rfl B.len_ (by decide +kernel) (pa_cons (pv 0) pa_nil)) (gl_int c_MOST_ROADS) (nomark _))))) (pss_one (ps_ret pe_bl)) pss_nil)
      (pss_cons (ps_if (pt_not (pt_val (pe_callB (k_all (K := K) rfl) rfl B.all_ (by decide +kernel) (pa_cons (pe_lc (own := [("road", 2)]) rfl sc__are_roads.nd (kpi_tup (K := K) (pv 0)) (blkOk_by (N := ["thing", "places", "road"]) (sc := defScope s__are_roads) (by decide +kernel)) (fun _ _ _ _ _ => (pg_name (i := 2) sc__are_roads.nd rfl (by first | exact Or.inl rfl | exact Or.inr rfl))) (fun _ _ _ _ _ => pts_nil) (fun _ _ _ _ _ => (pe_c C__is_road hr (pa_cons (pv 2) (pa_cons (pv 1) pa_nil))))) pa_nil)))) (pss_one (ps_ret pe_bl)) pss_nil)
      (pss_one (ps_ret (pe_cmpR op_eq (pe_callB (cr_lenTs) rfl B.len_ (by decide +kernel) (pa_cons (pe_sctD (own := [("road", 2)]) rfl hr.units sc__are_roads.nd (kpi_tup (K := K) (pv 0)) (blkOk_by (N := ["thing", "places", "road"]) (sc := defScope s__are_roads) (by decide +kernel)) (fun _ _ _ _ _ => (pg_name (i := 2) sc__are_roads.nd rfl (by first | exact Or.inl rfl | exact Or.inr rfl))) (fun _ _ _ _ _ => pts_nil) (fun _ _ _ _ _ => (pe_callTy (k_tuple (K := K)) rfl B.tuple_ (by decide +kernel) (pa_cons (pe_callB (k_sortedTx (K := K)) rfl B.sorted_ (by decide +kernel) (pa_cons (pv 2) pa_nil)) pa_nil)))) pa_nil)) (pe_callB (k_len (K := K)) rfl B.len_ (by decide +kernel) (pa_cons (pv 0) pa_nil)) (nomark _)))))), ?_⟩
    repeat' (walk_at "jv")
    refine is_tupO ox ?_
    refine ⟨_, rfl, ?_⟩
    cases c : isT d with
    | false =>
      rw [(isT_no (ps := []) c).2.2.1] at q
      repeat' (walk_at "jv")
      exact q H (Same.refl _)
    | true =>
      obtain ⟨ds, rfl⟩ : ∃ ds, d = .tuple ds := by
        cases d with
        | tuple ds => exact ⟨ds, rfl⟩
        | _ => cases c
      cases ox with
      | @tup t xs ds sx al =>
      have hxl := ObAll.len al
      replace q : ∀ H', Same H H' → Q (.bl (decide (ds.length ≤ 14) && (ds.all (roadB ps) && uniqB (ds.map endsD)))) H' := q
      repeat' (walk_at "jv")
      · rw [decide_eq_false (p := ds.length ≤ 14) (by omega), Bool.false_and] at q
        exact q H (Same.refl _)
      · rw [decide_eq_true (p := ds.length ≤ 14) (by omega), Bool.true_and] at q
        refine c_tup xs (fun D i H' => H D = none ∧ Same H H' ∧ H' D = some (.lst (((ds.take i).map (roadB ps)).map V.bl))) (fun D nD => ⟨nD, Same.upd_new nD, upd_same⟩) (fun D i H' _ h => TK.same h.2.1 _ _ sx) (fun D i y H' hy h => ?_) (fun D H' h => ?_)
        · obtain ⟨nD, kD, eD⟩ := h
          obtain ⟨d', hd', od'⟩ := ObAll.get al hy
          have hi : i < ds.length := (List.getElem?_eq_some_iff.mp hd').1
          repeat' (walk_at "jv")
          refine ⟨a, p, y, d', ps, rfl, od'.same kD, TK.same (K := K) kD _ _ hs, fun H2 k2 => ?_⟩
          refine i_lcE (k2 _ _ eD) (by rw [List.length_map, List.length_map, List.length_take, sizeLine_eq]; omega) ⟨nD, fun c oc z => (upd_ne (ne_of_none z nD)).trans (k2 _ _ (kD _ _ z)), ?_⟩
          rw [take_push hd', List.map_append, List.map_append]
          exact upd_same
        · obtain ⟨nD, kD, eD⟩ := h
          rw [hxl, List.take_length] at eD
          have sx' := TK.same (K := K) kD _ _ sx
          repeat' (walk_at "jv")
          rw [show (ds.map (roadB ps)).all id = ds.all (roadB ps) by rw [List.all_map]; rfl]
          cases ca : ds.all (roadB ps) with
          | false =>
            rw [ca] at q
            repeat' (walk_at "jv")
            exact q H' kD
          | true =>
            rw [ca, Bool.true_and] at q
            obtain ⟨ez, _⟩ := roads_all ca
            have hzl : (ds.map endsD).length = ds.length := List.length_map ..
            generalize ds.map endsD = rs at ez hzl q
            subst ez
            have dx : DpAll K H' xs (rs.map roadD) := DpAll.same kD _ _ (roads_of_obs al)
            repeat' (walk_at "jv")
            refine i_sctD ?_
            repeat' (walk_at "jv")
            refine s_tupD xs (fun D3 i H3 => H' D3 = none ∧ Same H' H3 ∧ ∃ L : List (Addr × List Str), H3 D3 = some (TsO P w D3 L) ∧ L.length ≤ i ∧ (∀ q ∈ L, SqT K H3 q.1 (q.2.map V.str)) ∧ (L.map (·.2)).Nodup ∧ ∀ k, k ∈ L.map (·.2) ↔ k ∈ (rs.take i).map srt)
              (fun D3 nD3 => ⟨nD3, Same.upd_new nD3, [], upd_same, Nat.le_refl _, fun q z => absurd z List.not_mem_nil, List.nodup_nil, fun k => Iff.rfl⟩) (fun D3 i H3 _ h => TK.same h.2.1 _ _ sx') (fun D3 i y H3 hy h => ?_) (fun D3 H3 h => ?_)
            · obtain ⟨nD3, k3, L, eL, hL, sL, ndL, mL⟩ := h
              have hi : i < rs.length := by
                have := (List.getElem?_eq_some_iff.mp hy).1
                omega
              obtain ⟨d, hd, dy⟩ := DpAll.get dx hy
              rw [List.getElem?_map, List.getElem?_eq_getElem hi] at hd
              obtain rfl : roadD rs[i] = d := Option.some.inj hd
              obtain ⟨t2, rfl, st⟩ := road_parts (Dp.same k3 _ _ dy)
              have et : (rs.take (i + 1)).map srt = (rs.take i).map srt ++ [srt rs[i]] := by
                rw [take_push (List.getElem?_eq_getElem hi), List.map_append]
                rfl
              repeat' (walk_at "jv")
              refine ⟨t2, [rs[i].1, rs[i].2], rfl, st, fun ys p1 pm so np1 => ?_⟩
              refine i_nil ?_
              refine i_tupL (sq_lst upd_same) fun T nT => ?_
              have s1 := Same.upd_new (o := .lst (ys.map V.str)) np1
              have s2 := Same.upd_new (o := .tup (ys.map V.str)) nT
              have ey := srt_of pm so
              refine ⟨T, ys, L, rfl, .inl (.inl upd_same), s2 _ _ (s1 _ _ eL), fun q hq => TK.same (s1.trans s2) _ _ (sL q hq), by omega, fun old => ?_, fun new L' pL => ?_⟩
              · refine ⟨nD3, k3.trans (s1.trans s2), L, s2 _ _ (s1 _ _ eL), by omega, fun q hq => TK.same (s1.trans s2) _ _ (sL q hq), ndL, fun k => ?_⟩
                rw [et, List.mem_append, List.mem_singleton, ← ey, mL k]
                exact ⟨.inl, fun h => h.elim id fun e => e ▸ (mL ys).mp old⟩
              · refine ⟨nD3, fun b o z => ?_, L', upd_same, by rw [pL.length_eq, List.length_cons]; omega, fun q hq => ?_, ?_, fun k => ?_⟩
                · rw [upd_ne (fun w => by rw [w, nD3] at z; cases z)]
                  exact s2 _ _ (s1 _ _ (k3 _ _ z))
                · have tk : TK K (upd (upd H3 p1 (.lst (ys.map V.str))) T (.tup (ys.map V.str))) (upd (upd (upd H3 p1 (.lst (ys.map V.str))) T (.tup (ys.map V.str))) D3 (TsO P w D3 L')) := by
                    have eD := s2 _ _ (s1 _ _ eL)
                    refine TK.of_at (fun b zs z => ?_) fun b ob zs z => ?_
                    · rw [upd_ne (fun w => by rw [w, eD] at z; cases z)]
                      exact z
                    · rw [upd_ne (fun w => by rw [w, eD] at z; cases z)]
                      exact z
                  rcases List.mem_cons.mp (pL.mem_iff.mp hq) with e | hq
                  · subst e
                    exact tk _ _ (.inl (.inl upd_same))
                  · exact tk _ _ (TK.same (s1.trans s2) _ _ (sL q hq))
                · rw [(pL.map (·.2)).nodup_iff, List.map_cons, List.nodup_cons]
                  exact ⟨new, ndL⟩
                · rw [(pL.map (·.2)).mem_iff, List.map_cons, List.mem_cons, mL k, et, List.mem_append, List.mem_singleton, ← ey]
                  exact Or.comm
            · obtain ⟨nD3, k3, L, eL, hL, sL, ndL, mL⟩ := h
              refine i_nil ?_
              refine ⟨D3, L, rfl, eL, ?_⟩
              have sx3 := TK.same (K := K) k3 _ _ sx'
              have hml : xs.length = rs.length := by rw [hxl, List.length_map]
              rw [hml, List.take_length] at mL
              repeat' (walk_at "jv")
              have ef := few_srt ndL mL
              rw [List.length_map] at ef
              rw [show (xs.length : Int) = (rs.length : Int) by omega, ef]
              exact q _ (kD.trans k3)
theorem web_not {ds : List PyData} (h : ds.length ≠ 2) : webB (.tuple ds) = false := by
  match ds, h with
  | [], _ => rfl
  | [d], _ => rfl
  | [d, e], h => exact absurd rfl h
  | d :: e :: f :: r, _ => rfl
theorem ok_is_webO (D : Dn K mg "is_web" s_is_web ["thing"]) (B : Bn mg) (C__are_places : Cl P w K mg base 2 "_are_places" ["thing"] (spArePlacesO K)) (C__are_roads : Cl P w K mg base 3 "_are_roads" ["thing", "places"] (spAreRoadsO K)) : Cl P w K mg base 4 "is_web" ["thing"] (spIsWebO K) := by
  refine D.cl sc_is_web (fun vs H Q E h => ?_) (fun f cdv A outer s H vs Q E hr h => ?_)
  · obtain ⟨a, x, d, rfl, _⟩ := h
    rfl
  · obtain ⟨a, x, d, rfl, ox, ok, q⟩ := h
    refine ⟨_, (pss_cons (ps_if (PW.pt (pw_or (pt_not (pt_val (pe_callB (k_isi (K := K)) rfl B.isinstance_ (by decide +kernel) (pa_cons (pv 0) (pa_cons (pe_ty (T := "tuple") B.tuple_ (by decide +kernel)) pa_nil))))) (pw_or1 (pt_cmpR op_ne (pe_callB (k_len (K := K)) rfl B.len_ (by decide +kernel) (pa_cons (pv 0) pa_nil)) pe_int (nomark _))))) (pss_one (ps_ret pe_bl)) pss_nil)
      (pss_cons (ps_asg (pv 0) (kpg_tup (K := K) (n := 2) rfl (pgs_cons (pg_name (i := 1) sc_is_web.nd rfl (by first | exact Or.inl rfl | exact Or.inr rfl)) (pgs_cons (pg_name (i := 2) sc_is_web.nd rfl (by first | exact Or.inl rfl | exact Or.inr rfl)) pgs_nil))))
      (pss_one (ps_ret (pe_and (pe_c C__are_places hr (pa_cons (pv 1) pa_nil)) (pe_one (pe_c C__are_roads hr (pa_cons (pv 2) (pa_cons (pv 1) pa_nil))))))))), ?_⟩
    repeat' (walk_at "jv")
    refine is_tupO ox ?_
    refine ⟨_, rfl, ?_⟩
    cases c : isT d with
    | false =>
      rw [(isT_no (ps := []) c).2.2.2] at q
      repeat' (walk_at "jv")
      exact q H (Same.refl _)
    | true =>
      obtain ⟨ds, rfl⟩ : ∃ ds, d = .tuple ds := by
        cases d with
        | tuple ds => exact ⟨ds, rfl⟩
        | _ => cases c
      cases ox with
      | @tup t xs ds sx al =>
      have hxl := ObAll.len al
      repeat' (walk_at "jv")
      · rw [web_not (by omega)] at q
        exact q H (Same.refl _)
      · obtain ⟨d1, d2, rfl⟩ : ∃ d1 d2, ds = [d1, d2] := by
          match ds, (show ds.length = 2 by omega) with
          | [d1, d2], _ => exact ⟨d1, d2, rfl⟩
        replace q : ∀ H', Same H H' → Q (.bl (placesB d1 && roadsB (namesOf d1) d2)) H' := q
        cases al with
        | cons h1 h2 =>
        cases h2 with
        | cons h2 h3 =>
        cases h3
        have ok1 := ok_tup.mp ok d1 List.mem_cons_self
        repeat' (walk_at "jv")
        refine ⟨a, _, d1, rfl, h1, ok1, fun H2 k2 => ?_⟩
        refine ⟨_, rfl, ?_⟩
        cases cp : placesB d1 with
        | false =>
          rw [cp] at q
          repeat' (walk_at "jv")
          exact q H2 k2
        | true =>
          rw [cp, Bool.true_and] at q
          obtain ⟨ps, rfl, en, _⟩ := places_is cp
          rw [en] at q
          cases h1 with
          | @tup tp ys _ sy ay =>
          obtain rfl := strs_of_obs ay
          repeat' (walk_at "jv")
          exact ⟨a, tp, _, d2, ps, rfl, h2.same k2, TK.same (K := K) k2 _ _ sy, fun H3 k3 => q H3 (k2.trans k3)⟩
theorem ok_is_webOK (D : Dk K mg "is_web" s_is_web ["thing"] ["thing"]) (B : Bn mg) (C__are_places : Cl P w K mg base 2 "_are_places" ["thing"] (spArePlacesO K)) (C__are_roads : Cl P w K mg base 3 "_are_roads" ["thing", "places"] (spAreRoadsO K)) : ClK P w K mg base 4 "is_web" ["thing"] ["thing"] (spIsWebO K) := by
  refine D.cl sc_is_web (fun vs H Q E h => ?_) (fun f cdv A outer s H vs Q E hr h => ?_)
  · obtain ⟨a, x, d, rfl, _⟩ := h
    rfl
  · obtain ⟨a, x, d, rfl, ox, ok, q⟩ := h
    refine ⟨_, (pss_cons (ps_if (PW.pt (pw_or (pt_not (pt_val (pe_callB (k_isi (K := K)) rfl B.isinstance_ (by decide +kernel) (pa_cons (pv 0) (pa_cons (pe_ty (T := "tuple") B.tuple_ (by decide +kernel)) pa_nil))))) (pw_or1 (pt_cmpR op_ne (pe_callB (k_len (K := K)) rfl B.len_ (by decide +kernel) (pa_cons (pv 0) pa_nil)) pe_int (nomark _))))) (pss_one (ps_ret pe_bl)) pss_nil)
      (pss_cons (ps_asg (pv 0) (kpg_tup (K := K) (n := 2) rfl (pgs_cons (pg_name (i := 1) sc_is_web.nd rfl (by first | exact Or.inl rfl | exact Or.inr rfl)) (pgs_cons (pg_name (i := 2) sc_is_web.nd rfl (by first | exact Or.inl rfl | exact Or.inr rfl)) pgs_nil))))
      (pss_one (ps_ret (pe_and (pe_c C__are_places hr (pa_cons (pv 1) pa_nil)) (pe_one (pe_c C__are_roads hr (pa_cons (pv 2) (pa_cons (pv 1) pa_nil))))))))), ?_⟩
    repeat' (walk_at "jv")
    refine is_tupO ox ?_
    refine ⟨_, rfl, ?_⟩
    cases c : isT d with
    | false =>
      rw [(isT_no (ps := []) c).2.2.2] at q
      repeat' (walk_at "jv")
      exact q H (Same.refl _)
    | true =>
      obtain ⟨ds, rfl⟩ : ∃ ds, d = .tuple ds := by
        cases d with
        | tuple ds => exact ⟨ds, rfl⟩
        | _ => cases c
      cases ox with
      | @tup t xs ds sx al =>
      have hxl := ObAll.len al
      repeat' (walk_at "jv")
      · rw [web_not (by omega)] at q
        exact q H (Same.refl _)
      · obtain ⟨d1, d2, rfl⟩ : ∃ d1 d2, ds = [d1, d2] := by
          match ds, (show ds.length = 2 by omega) with
          | [d1, d2], _ => exact ⟨d1, d2, rfl⟩
        replace q : ∀ H', Same H H' → Q (.bl (placesB d1 && roadsB (namesOf d1) d2)) H' := q
        cases al with
        | cons h1 h2 =>
        cases h2 with
        | cons h2 h3 =>
        cases h3
        have ok1 := ok_tup.mp ok d1 List.mem_cons_self
        repeat' (walk_at "jv")
        refine ⟨a, _, d1, rfl, h1, ok1, fun H2 k2 => ?_⟩
        refine ⟨_, rfl, ?_⟩
        cases cp : placesB d1 with
        | false =>
          rw [cp] at q
          repeat' (walk_at "jv")
          exact q H2 k2
        | true =>
          rw [cp, Bool.true_and] at q
          obtain ⟨ps, rfl, en, _⟩ := places_is cp
          rw [en] at q
          cases h1 with
          | @tup tp ys _ sy ay =>
          obtain rfl := strs_of_obs ay
          repeat' (walk_at "jv")
          exact ⟨a, tp, _, d2, ps, rfl, h2.same k2, TK.same (K := K) k2 _ _ sy, fun H3 k3 => q H3 (k2.trans k3)⟩
end
end
section
open L2 PySem PySem.Spec PyProof.Rows
abbrev s_are_joined : Stmt := topS 33
theorem sc_are_joined : FnScope ["web", "one", "other"] ["web", "one", "other"] (defScope s_are_joined) := ⟨rfl, rfl, rfl, by decide +kernel, rfl, by decide +kernel, by decide +kernel⟩
abbrev s_near_of : Stmt := topS 34
theorem sc_near_of : FnScope ["web", "place", "other"] ["web", "place"] (defScope s_near_of) := ⟨rfl, rfl, rfl, by decide +kernel, rfl, by decide +kernel, by decide +kernel⟩
abbrev s__is_worth : Stmt := topS 13
theorem sc__is_worth : FnScope ["sort", "worth", "k", "near"] ["sort", "worth", "k", "near"] (defScope s__is_worth) := ⟨rfl, rfl, rfl, by decide +kernel, rfl, by decide +kernel, by decide +kernel⟩
abbrev s_is_rule : Stmt := topS 12
theorem sc_is_rule : FnScope ["thing", "k", "near"] ["thing", "k", "near"] (defScope s_is_rule) := ⟨rfl, rfl, rfl, by decide +kernel, rfl, by decide +kernel, by decide +kernel⟩
abbrev s__are_rules : Stmt := topS 36
theorem sc__are_rules : FnScope ["thing", "k", "web", "place", "rule"] ["thing", "k", "web"] (defScope s__are_rules) := ⟨rfl, rfl, rfl, by decide +kernel, rfl, by decide +kernel, by decide +kernel⟩
def spNearOfF (K : PySem.W.Frag) : Sp := fun vs H Q _ => ∃ (v : V) (x : Str) (ps : List Str) (rs : List (Str × Str)), vs = [v, .str x] ∧ Dp K H v (webD ps rs) ∧ IsWeb ps rs ∧ x ∈ ps ∧
  ∀ (p : Addr) (H' : Hp), Same H H' → FT H' p ((nearL ps rs x).map V.str) → Q (.ref p) H'
def spWorthO (K : PySem.W.Frag) : Sp := fun vs H Q _ => ∃ (a p : Addr) (s : Str) (x : V) (d : PyData) (k : Nat) (near : List Str), vs = [.str s, x, .int (k : Int), .ref p] ∧ Ob K H a x d ∧ SqT K H p (near.map V.str) ∧ near.length ≤ 7 ∧ 2 ≤ k ∧ k ≤ 3 ∧ ∀ H', Same H H' → Q (.bl (worthB k near s d)) H'
def spIsRuleO (K : PySem.W.Frag) : Sp := fun vs H Q _ => ∃ (a p : Addr) (x : V) (d : PyData) (k : Nat) (near : List Str), vs = [x, .int (k : Int), .ref p] ∧ Ob K H a x d ∧ SqT K H p (near.map V.str) ∧ near.length ≤ 7 ∧ 2 ≤ k ∧ k ≤ 3 ∧ ∀ H', Same H H' → Q (.bl (ruleB k near d)) H'
def spAreRulesO (K : PySem.W.Frag) : Sp := fun vs H Q _ => ∃ (a : Addr) (x v : V) (d : PyData) (k : Nat) (ps : List Str) (rs : List (Str × Str)), vs = [x, .int (k : Int), v] ∧ Ob K H a x d ∧ Dp K H v (webD ps rs) ∧ IsWeb ps rs ∧ 2 ≤ k ∧ k ≤ 3 ∧ ∀ H', Same H H' → Q (.bl (rulesB k ps rs d)) H'
section
variable {X : Cx} {x : Str} {pos : Pos}
theorem gl_ref {i : Addr} (hm : X.mg x = some (.ref i)) (hg : Gl X x := by rfl) (hd : (x == ("__debug__" : Str)) = false := by decide) : PE X (.Name x pos) (tC (.ref i)) := pe_glob hg hm rfl hd
end
structure Gr (K : PySem.W.Frag) (mg : Str → Option Value) : Prop where
  bs : ∃ T, mg "BARE_SORTS" = some (.ref T) ∧ ∀ H, SqT K H T ((["keep", "least", "greatest", "odd"] : List Str).map V.str)
  gm : ∃ t, mg "GREATEST_MOST" = some (.int 9 t)
section
variable {base : Heap} {P : Program} {w : World} {K : PySem.W.Frag} {mg : Str → Option Value}
theorem ok_are_joined (D : Dn K mg "are_joined" s_are_joined ["web", "one", "other"]) (B : Bn mg) : Cl P w K mg base 1 "are_joined" ["web", "one", "other"] (spJoined K) := by
  refine D.cl sc_are_joined (fun vs H Q E h => ?_) (fun f cdv A outer s H vs Q E hr h => ?_)
  · obtain ⟨v, x, y, ps, rs, rfl, _⟩ := h
    rfl
  · obtain ⟨v, x, y, ps, rs, rfl, hd, W, hx, hy, q⟩ := h
    obtain ⟨t, tp, tr, xs, rfl, s1, s2, s3, d3, dr, dpl⟩ := web_parts hd
    refine ⟨_, (pss_one (ps_ret (pe_or (pe_cmpR (k_inQ (K := K) hr.units) (pe_tup (pa_cons (pv 1) (pa_cons (pv 2) pa_nil))) (pe_ix (k_ixT (K := K)) (pv 0) pe_int (fun _ _ => rfl)) (by rfl)) (pe_one (pe_cmpR (k_inQ (K := K) hr.units) (pe_tup (pa_cons (pv 2) (pa_cons (pv 1) pa_nil))) (pe_ix (k_ixT (K := K)) (pv 0) pe_int (fun _ _ => rfl)) (by rfl)))))), ?_⟩
    repeat' (walk_at "jv")
    intro p np
    have sp := Same.upd_new (o := .tup [.str x, .str y]) np
    have s1p := TK.same (K := K) sp _ _ s1
    repeat' (walk_at "jv")
    refine ⟨roadD (x, y), rs.map roadD, .tup (xs := [.str x, .str y]) (.inl (.inl upd_same)) (.cons (.str _) (.cons (.str _) .nil)), .inr (Dp.same sp _ _ dr), road_lay (W.names.2 _ hx) (W.names.2 _ hy), roads_lay W, by show 0 + 1 ≤ 60; decide, ?_⟩
    rw [if_neg (by decide), roads_any]
    repeat' (walk_at "jv")
    · rename_i h1
      have e : isRoad rs x y = true := by simp [isRoad, h1]
      rw [← e]
      exact q _ sp
    · rename_i h1
      intro p2 np2
      have sp2 := Same.upd_new (o := .tup [.str y, .str x]) np2
      have s1q := TK.same (K := K) sp2 _ _ s1p
      repeat' (walk_at "jv")
      refine ⟨roadD (y, x), rs.map roadD, .tup (xs := [.str y, .str x]) (.inl (.inl upd_same)) (.cons (.str _) (.cons (.str _) .nil)), .inr (Dp.same sp2 _ _ (Dp.same sp _ _ dr)), road_lay (W.names.2 _ hy) (W.names.2 _ hx), roads_lay W, by show 0 + 1 ≤ 60; decide, ?_⟩
      rw [if_neg (by decide), roads_any]
      have e : isRoad rs x y = decide ((y, x) ∈ rs) := by simp [isRoad, h1]
      rw [← e]
      exact q _ (sp.trans sp2)
theorem ok_near_of (D : Dn K mg "near_of" s_near_of ["web", "place"]) (B : Bn mg) (C_are_joined : Cl P w K mg base 1 "are_joined" ["web", "one", "other"] (spJoined K)) : Cl P w K mg base 2 "near_of" ["web", "place"] (spNearOfF K) := by
  refine D.cl sc_near_of (fun vs H Q E h => ?_) (fun f cdv A outer s H vs Q E hr h => ?_)
  · obtain ⟨v, x, ps, rs, rfl, _⟩ := h
    rfl
  · obtain ⟨v, x, ps, rs, rfl, hd, W, hx, q⟩ := h
    obtain ⟨t, tp, tr, xs, rfl, s1, s2, s3, d3, dr, dpl⟩ := web_parts hd
    refine ⟨_, (pss_one (ps_ret (pe_callTy (k_tupleF (K := K)) rfl B.tuple_ (by decide +kernel) (pa_cons (pe_lc (own := [("other", 2)]) rfl sc_near_of.nd (kpi_tup (K := K) (pe_ix (k_ixT (K := K)) (pv 0) pe_int (fun _ _ => rfl))) (blkOk_by (N := ["web", "place", "other"]) (sc := defScope s_near_of) (by decide +kernel)) (fun _ _ _ _ _ => (pg_name (i := 2) sc_near_of.nd rfl (by first | exact Or.inl rfl | exact Or.inr rfl))) (fun _ _ _ _ _ => pts_one (pt_val (pe_c C_are_joined hr (pa_cons (pv 0) (pa_cons (pv 1) (pa_cons (pv 2) pa_nil)))))) (fun _ _ _ _ _ => (pv 2))) pa_nil)))), ?_⟩
    repeat' (walk_at "jv")
    refine c_tup (ps.map V.str) (fun D2 i H' => H D2 = none ∧ Same H H' ∧ H' D2 = some (.lst (((ps.take i).filter fun y => isRoad rs x y).map V.str))) (fun D2 nD => ⟨nD, Same.upd_new nD, upd_same⟩) (fun D2 i H' _ h => TK.same h.2.1 _ _ s2) (fun D2 i y H' hy h => ?_) (fun D2 H' h => ?_)
    · obtain ⟨nD, k, e⟩ := h
      have hi : i < ps.length := by
        have := (List.getElem?_eq_some_iff.mp hy).1
        rwa [List.length_map] at this
      rw [List.getElem?_map, List.getElem?_eq_getElem hi] at hy
      obtain rfl : V.str ps[i] = y := Option.some.inj hy
      have h8 := W.le8
      have hl : (((ps.take i).filter fun y => isRoad rs x y).map V.str).length < sizeLine := by
        rw [List.length_map, sizeLine_eq]
        have := List.length_filter_le (fun y => isRoad rs x y) (ps.take i)
        rw [List.length_take] at this
        omega
      have et : ((ps.take (i + 1)).filter fun y => isRoad rs x y) = ((ps.take i).filter fun y => isRoad rs x y) ++ (if isRoad rs x ps[i] = true then [ps[i]] else []) := by
        rw [List.take_add_one, List.getElem?_eq_getElem hi, List.filter_append]
        show _ ++ List.filter (fun y => isRoad rs x y) [ps[i]] = _
        by_cases h : isRoad rs x ps[i] = true
        · simp [h]
        · simp [h]
      repeat' (walk_at "jv")
      refine ⟨_, x, ps[i], ps, rs, rfl, Dp.same k _ _ hd, W, hx, List.getElem_mem hi, fun H2 k2 => ?_⟩
      have e2 := k2 _ _ e
      refine ⟨_, rfl, ?_⟩
      cases er : isRoad rs x ps[i] with
      | true =>
        rw [if_pos er] at et
        repeat' (walk_at "jv")
        refine ⟨nD, fun b o z => ?_, ?_⟩
        · rw [upd_ne (fun w => by rw [w, nD] at z; cases z)]
          exact k2 _ _ (k _ _ z)
        · rw [upd_same, et, List.map_append]
          rfl
      | false =>
        rw [if_neg (by rw [er]; decide), List.append_nil] at et
        repeat' (walk_at "jv")
        exact ⟨nD, k.trans k2, by rw [et]; exact e2⟩
    · obtain ⟨nD, k, e⟩ := h
      rw [List.length_map, List.take_length] at e
      refine i_nil ?_
      refine ⟨_, _, rfl, sq_lst e, fun T ob nT okb => ?_⟩
      exact q T _ (k.trans (Same.upd_new nT)) (FT.new okb)
theorem text_one (near : List Str) (d : PyData) : textB near d = oneB near d := by cases d <;> rfl
theorem ok_is_worthO (D : Dn K mg "_is_worth" s__is_worth ["sort", "worth", "k", "near"]) (B : Bn mg) (G : Gr K mg) (C_table_length : Cl P w K mg base 2 "table_length" ["k", "near"] (spTableLen K)) (C_are_states : Cl P w K mg base 2 "are_states" ["thing", "k", "many"] (spAreStatesO K))
    (C__are_sums : Cl P w K mg base 3 "_are_sums" ["worth", "k", "near"] (spAreSumsO K)) (C_is_integer : Cl P w K mg base 1 "is_integer" ["thing"] (spIsIntO K)) : Cl P w K mg base 4 "_is_worth" ["sort", "worth", "k", "near"] (spWorthO K) := by
  obtain ⟨_, t9, c_GREATEST_MOST⟩ := G
  refine D.cl sc__is_worth (fun vs H Q E h => ?_) (fun f cdv A outer s H vs Q E hr h => ?_)
  · obtain ⟨a, p, z, x, d, k, near, rfl, _⟩ := h
    rfl
  · obtain ⟨a, p, z, x, d, k, near, rfl, ox, hp, hn, hk2, hk3, q⟩ := h
    refine ⟨_, (pss_cons (ps_if (pt_cmpR op_eq (pv 0) pe_str (nomark _)) (pss_one (ps_ret (pe_c C_are_states hr (pa_cons (pv 1) (pa_cons (pv 2) (pa_cons (pe_c C_table_length hr (pa_cons (pv 2) (pa_cons (pv 3) pa_nil))) pa_nil)))))) pss_nil)
      (pss_cons (ps_if (pt_cmpR op_eq (pv 0) pe_str (nomark _)) (pss_one (ps_ret (pe_c C__are_sums hr (pa_cons (pv 1) (pa_cons (pv 2) (pa_cons (pv 3) pa_nil)))))) pss_nil)
      (pss_cons (ps_if (pt_cmpR op_eq (pv 0) pe_str (nomark _)) (pss_one (ps_ret (pe_and (pe_c C_is_integer hr (pa_cons (pv 1) pa_nil)) (pe_one (pe_chain op_le op_le pe_int (pv 1) (gl_int c_GREATEST_MOST)))))) pss_nil)
      (pss_one (ps_ret (pe_and (pe_cmpR op_eq (pv 0) pe_str (nomark _)) (pe_and (pe_callB (k_isi (K := K)) rfl B.isinstance_ (by decide +kernel) (pa_cons (pv 1) (pa_cons (pe_ty (T := "str") B.str_ (by decide +kernel)) pa_nil))) (pe_one (pe_cmpR (k_inS (K := K)) (pv 1) (pv 3) (by rfl)))))))))), ?_⟩
    have hp' := SqA.t hp
    have hb : k ^ (near.length + 1) ≤ 10000 := by
      have h1 : k ^ (near.length + 1) ≤ 3 ^ (near.length + 1) := Nat.pow_le_pow_left hk3 _
      have h2 : 3 ^ (near.length + 1) ≤ 3 ^ 8 := Nat.pow_le_pow_right (by decide) (by omega)
      have h3 : (3 : Nat) ^ 8 ≤ 10000 := by decide
      omega
    unfold worthB at q
    repeat' (walk_at "jv")
    · rename_i hz
      rw [if_pos hz] at q
      refine ⟨p, k, near, rfl, hp', hn, hk3, ?_⟩
      repeat' (walk_at "jv")
      exact ⟨a, x, d, k, k ^ (near.length + 1), rfl, ox, by omega, q⟩
    · rename_i h1 hz
      rw [if_neg h1, if_pos hz] at q
      exact ⟨a, p, x, d, k, near, rfl, ox, hp, hn, hk2, hk3, q⟩
    · rename_i h1 h2 hz
      rw [if_neg h1, if_neg h2, if_pos hz] at q
      refine ⟨x, d, a, rfl, ox, ?_⟩
      refine ⟨_, rfl, ?_⟩
      cases ci : isI d with
      | false =>
        have e0 : mostB d = false := by cases d <;> first | rfl | cases ci
        rw [e0] at q
        repeat' (walk_at "jv")
        exact q H (Same.refl _)
      | true =>
        obtain ⟨i', rfl⟩ := isI_int ci
        cases ox
        replace q : ∀ H', Same H H' → Q (.bl (decide (0 ≤ i') && decide (i' ≤ 9))) H' := q
        repeat' (walk_at "jv")
        · rename_i h0
          rw [decide_eq_true h0, Bool.true_and] at q
          exact q H (Same.refl _)
        · rename_i h0
          rw [decide_eq_false h0, Bool.false_and] at q
          exact q H (Same.refl _)
    · rename_i h1 h2 h3 hz
      rw [if_neg h1, if_neg h2, if_neg h3, decide_eq_true hz, Bool.true_and, text_one] at q
      refine is_strO ox ?_
      refine ⟨_, rfl, ?_⟩
      cases c1 : isS d with
      | false =>
        have e0 : oneB near d = false := by cases d <;> first | rfl | cases c1
        rw [e0] at q
        repeat' (walk_at "jv")
        exact q H (Same.refl _)
      | true =>
        obtain ⟨u, rfl⟩ : ∃ z, d = .str z := by
          cases d with
          | str z => exact ⟨z, rfl⟩
          | _ => cases c1
        cases ox
        repeat' (walk_at "jv")
        exact q H (Same.refl _)
    · rename_i h1 h2 h3 hz
      rw [if_neg h1, if_neg h2, if_neg h3, decide_eq_false hz, Bool.false_and] at q
      exact q H (Same.refl _)
theorem rule_text {k : Nat} {near : List Str} {d : PyData} {ds : List PyData} (h : isS d = false) : ruleB k near (.tuple (d :: ds)) = false := by
  cases d with
  | str z => cases h
  | _ => rfl
def ruleTail (k : Nat) (near : List Str) (z : Str) : List PyData → Bool
  | [w] => worthB k near z w
  | _ => false
theorem rule_head {k : Nat} {near : List Str} {z : Str} {ds : List PyData} : ruleB k near (.tuple (.str z :: ds)) = if z ∈ bareL then ds.isEmpty else ruleTail k near z ds := rfl
theorem rule_tail_no {k : Nat} {near : List Str} {z : Str} {ds : List PyData} (h : ds.length ≠ 1) : ruleTail k near z ds = false := by
  match ds, h with
  | [], _ => rfl
  | [y], h => exact absurd rfl h
  | y :: y2 :: r, _ => rfl
theorem ok_is_ruleO (D : Dn K mg "is_rule" s_is_rule ["thing", "k", "near"]) (B : Bn mg) (G : Gr K mg) (C__is_worth : Cl P w K mg base 4 "_is_worth" ["sort", "worth", "k", "near"] (spWorthO K)) : Cl P w K mg base 5 "is_rule" ["thing", "k", "near"] (spIsRuleO K) := by
  obtain ⟨⟨T, c_BARE, hT⟩, _⟩ := G
  refine D.cl sc_is_rule (fun vs H Q E h => ?_) (fun f cdv A outer s H vs Q E hr h => ?_)
  · obtain ⟨a, p, x, d, k, near, rfl, _⟩ := h
    rfl
  · obtain ⟨a, p, x, d, k, near, rfl, ox, hp, hn, hk2, hk3, q⟩ := h
    refine ⟨_, (pss_cons (ps_if (PW.pt (pw_or (pt_not (pt_val (pe_callB (k_isi (K := K)) rfl B.isinstance_ (by decide +kernel) (pa_cons (pv 0) (pa_cons (pe_ty (T := "tuple") B.tuple_ (by decide +kernel)) pa_nil))))) (pw_or (pt_cmpR op_eq (pe_callB (k_len (K := K)) rfl B.len_ (by decide +kernel) (pa_cons (pv 0) pa_nil)) pe_int (nomark _)) (pw_or1 (pt_not (pt_val (pe_callB (k_isi (K := K)) rfl B.isinstance_ (by decide +kernel) (pa_cons (pe_ix (k_ixT (K := K)) (pv 0) pe_int (fun _ _ => rfl)) (pa_cons (pe_ty (T := "str") B.str_ (by decide +kernel)) pa_nil))))))))) (pss_one (ps_ret pe_bl)) pss_nil)
      (pss_cons (ps_if (pt_cmpR (k_inS (K := K)) (pe_ix (k_ixT (K := K)) (pv 0) pe_int (fun _ _ => rfl)) (gl_ref c_BARE) (by rfl)) (pss_one (ps_ret (pe_cmpR op_eq (pe_callB (k_len (K := K)) rfl B.len_ (by decide +kernel) (pa_cons (pv 0) pa_nil)) pe_int (nomark _)))) pss_nil)
      (pss_one (ps_ret (pe_and (pe_cmpR op_eq (pe_callB (k_len (K := K)) rfl B.len_ (by decide +kernel) (pa_cons (pv 0) pa_nil)) pe_int (nomark _)) (pe_one (pe_c C__is_worth hr (pa_cons (pe_ix (k_ixT (K := K)) (pv 0) pe_int (fun _ _ => rfl)) (pa_cons (pe_ix (k_ixT (K := K)) (pv 0) pe_int (fun _ _ => rfl)) (pa_cons (pv 1) (pa_cons (pv 2) pa_nil))))))))))), ?_⟩
    have hb : SqA K H T (bareL.map V.str) := SqA.t (hT H)
    repeat' (walk_at "jv")
    refine is_tupO ox ?_
    refine ⟨_, rfl, ?_⟩
    cases c : isT d with
    | false =>
      rw [(isT_off c).2.2.1] at q
      repeat' (walk_at "jv")
      exact q H (Same.refl _)
    | true =>
      obtain ⟨ds, rfl⟩ := isT_tup c
      cases ox with
      | @tup t xs ds sx al =>
      cases al with
      | nil =>
        repeat' (walk_at "jv")
        · exact q H (Same.refl _)
        all_goals (rename_i h; exact absurd rfl h)
      | @cons x0 xs' d0 ds' h0 al =>
        have hxl := ObAll.len al
        repeat' (walk_at "jv")
        · rename_i h
          exact absurd h (by rw [List.length_cons]; omega)
        refine is_strO h0 ?_
        refine ⟨_, rfl, ?_⟩
        cases c1 : isS d0 with
        | false =>
          rw [rule_text c1] at q
          repeat' (walk_at "jv")
          exact q H (Same.refl _)
        | true =>
          obtain ⟨z, rfl⟩ : ∃ z, d0 = .str z := by
            cases d0 with
            | str z => exact ⟨z, rfl⟩
            | _ => cases c1
          cases h0
          repeat' (walk_at "jv")
          · rename_i hz
            rw [rule_head] at q
            rw [if_pos hz] at q
            have e : decide ((((V.str z :: xs').length : Nat) : Int) = 1) = ds'.isEmpty := by
              rw [List.length_cons, hxl]
              cases ds' with
              | nil => rfl
              | cons y r => exact decide_eq_false (by rw [List.length_cons]; omega)
            rw [e]
            exact q H (Same.refl _)
          · rename_i hz h2
            rw [rule_head] at q
            rw [if_neg hz] at q
            rw [List.length_cons] at h2
            cases al with
            | nil => exact absurd h2 (by decide)
            | @cons x1 xs2 d1 ds2 h1 al =>
              have hx2 := ObAll.len al
              obtain rfl : xs2 = [] := List.eq_nil_of_length_eq_zero (by rw [List.length_cons] at h2; omega)
              obtain rfl : ds2 = [] := List.eq_nil_of_length_eq_zero hx2.symm
              repeat' (walk_at "jv")
              exact ⟨a, p, z, x1, d1, k, near, rfl, h1, hp, hn, hk2, hk3, q⟩
          · rename_i hz h2
            rw [rule_head] at q
            rw [if_neg hz] at q
            rw [List.length_cons, hxl] at h2
            rw [rule_tail_no (by omega)] at q
            exact q H (Same.refl _)
theorem ok_are_rulesO (D : Dn K mg "_are_rules" s__are_rules ["thing", "k", "web"]) (B : Bn mg) (C_is_rule : Cl P w K mg base 5 "is_rule" ["thing", "k", "near"] (spIsRuleO K)) (C_near_of : Cl P w K mg base 2 "near_of" ["web", "place"] (spNearOfF K)) : Cl P w K mg base 6 "_are_rules" ["thing", "k", "web"] (spAreRulesO K) := by
  refine D.cl sc__are_rules (fun vs H Q E h => ?_) (fun f cdv A outer s H vs Q E hr h => ?_)
  · obtain ⟨a, x, v, d, k, ps, rs, rfl, _⟩ := h
    rfl
  · obtain ⟨a, x, v, d, k, ps, rs, rfl, ox, hd, W, hk2, hk3, q⟩ := h
    have hd2 := hd
    obtain ⟨wt, tp, tr, us, rfl, s1, s2, s3, d3, dr, dpl⟩ := web_parts hd2
    clear hd2 d3 dr dpl s3
    have h8 := W.le8
    have hmp : (ps.map V.str).length = ps.length := List.length_map ..
    refine ⟨_, (pss_cons (ps_if (PW.pt (pw_or (pt_not (pt_val (pe_callB (k_isi (K := K)) rfl B.isinstance_ (by decide +kernel) (pa_cons (pv 0) (pa_cons (pe_ty (T := "tuple") B.tuple_ (by decide +kernel)) pa_nil))))) (pw_or1 (pt_cmpR op_ne (pe_callB (k_len (K := K)) rfl B.len_ (by decide +kernel) (pa_cons (pv 0) pa_nil)) (pe_callB (k_len (K := K)) rfl B.len_ (by decide +kernel) (pa_cons (pe_ix (k_ixT (K := K)) (pv 2) pe_int (fun _ _ => rfl)) pa_nil)) (nomark _))))) (pss_one (ps_ret pe_bl)) pss_nil)
      (pss_one (ps_ret (pe_callB (k_all (K := K) rfl) rfl B.all_ (by decide +kernel) (pa_cons (pe_lc (own := [("place", 3), ("rule", 4)]) rfl sc__are_rules.nd (kpi_zip (K := K) B.zip_ (pa_cons (pe_ix (k_ixT (K := K)) (pv 2) pe_int (fun _ _ => rfl)) (pa_cons (pv 0) pa_nil))) (blkOk_by (N := ["thing", "k", "web", "place", "rule"]) (sc := defScope s__are_rules) (by decide +kernel)) (fun _ _ _ _ _ => (kpg_tup (K := K) (n := 2) rfl (pgs_cons (pg_name (i := 3) sc__are_rules.nd rfl (by first | exact Or.inl rfl | exact Or.inr rfl)) (pgs_cons (pg_name (i := 4) sc__are_rules.nd rfl (by first | exact Or.inl rfl | exact Or.inr rfl)) pgs_nil)))) (fun _ _ _ _ _ => pts_nil) (fun _ _ _ _ _ => (pe_c C_is_rule hr (pa_cons (pv 4) (pa_cons (pv 1) (pa_cons (pe_c C_near_of hr (pa_cons (pv 2) (pa_cons (pv 3) pa_nil))) pa_nil)))))) pa_nil))))), ?_⟩
    repeat' (walk_at "jv")
    refine is_tupO ox ?_
    refine ⟨_, rfl, ?_⟩
    cases c : isT d with
    | false =>
      rw [(isT_off c).2.2.2.1] at q
      repeat' (walk_at "jv")
      exact q H (Same.refl _)
    | true =>
      obtain ⟨ds, rfl⟩ := isT_tup c
      cases ox with
      | @tup t xs ds sx al =>
      have hxl := ObAll.len al
      replace q : ∀ H', Same H H' → Q (.bl (decide (ds.length = ps.length) && (List.range ps.length).all fun i => ruleB k (nearL ps rs (ps.getD i "")) (ds.getD i .none))) H' := q
      repeat' (walk_at "jv")
      · rw [decide_eq_false (by omega), Bool.false_and] at q
        exact q H (Same.refl _)
      · rw [decide_eq_true (by omega), Bool.true_and] at q
        refine i_zip ?_
        repeat' (walk_at "jv")
        refine i_zipT s2 sx ?_
        refine c_zip (ps.map V.str) xs (by omega) (fun D2 i H' => H D2 = none ∧ Same H H' ∧ H' D2 = some (.lst (((List.range i).map fun i => ruleB k (nearL ps rs (ps.getD i "")) (ds.getD i .none)).map V.bl))) (fun D2 nD => ⟨nD, Same.upd_new nD, upd_same⟩) (fun D2 i H' h => ⟨TK.same h.2.1 _ _ s2, TK.same h.2.1 _ _ sx⟩) (fun D2 i x y H' T hx hy h nT => ?_) (fun D2 H' h => ?_)
        · obtain ⟨nD, sm, e⟩ := h
          have hi : i < ps.length := by
            have := (List.getElem?_eq_some_iff.mp hx).1
            rwa [List.length_map] at this
          rw [List.getElem?_map, List.getElem?_eq_getElem hi] at hx
          obtain rfl : V.str ps[i] = x := Option.some.inj hx
          have sT := Same.upd_new (o := .tup [V.str ps[i], y]) nT
          have smT := sm.trans sT
          obtain ⟨d, hdd, dx⟩ := ObAll.get (al.same smT) hy
          repeat' (walk_at "jv")
          refine ⟨_, ps[i], ps, rs, rfl, Dp.same smT _ _ hd, W, List.getElem_mem hi, fun p2 H2 sm2 hs2 => ?_⟩
          repeat' (walk_at "jv")
          refine ⟨a, p2, y, d, k, nearL ps rs ps[i], rfl, dx.same sm2, hs2.sq, near_len W (List.getElem_mem hi), hk2, hk3, fun H3 sm3 => ?_⟩
          have sm4 := sT.trans (sm2.trans sm3)
          have e2 := sm4 _ _ e
          have eg : ruleB k (nearL ps rs (ps.getD i "")) (ds.getD i .none) = ruleB k (nearL ps rs ps[i]) d := by
            rw [List.getD_eq_getElem?_getD, List.getD_eq_getElem?_getD, List.getElem?_eq_getElem hi, hdd]
            rfl
          refine i_lcE e2 (by rw [List.length_map, List.length_map, List.length_range, sizeLine_eq]; omega) ?_
          refine ⟨nD, fun b o z => ?_, by rw [upd_same, List.range_succ, List.map_append, List.map_append, ← eg]; rfl⟩
          rw [upd_ne (fun w => by rw [w, nD] at z; cases z)]
          exact sm4 _ _ (sm _ _ z)
        · obtain ⟨nD, sm, e⟩ := h
          rw [hmp] at e
          refine i_nil ?_
          refine i_all (sq_lst e) ?_
          rw [List.all_map]
          exact q _ sm
end
end
section
open L2 PySem PySem.Spec PyProof.Rows
abbrev s_is_hall : Stmt := topS 35
theorem sc_is_hall : FnScope ["thing", "k", "web", "rules"] ["thing"] (defScope s_is_hall) := ⟨rfl, rfl, rfl, by decide +kernel, rfl, by decide +kernel, by decide +kernel⟩
def spIsHallO (K : PySem.W.Frag) : Sp := fun vs H Q _ => ∃ (a : Addr) (x : V) (d : PyData), vs = [x] ∧ Ob K H a x d ∧ okD d = true ∧ ∀ H', Same H H' → Q (.bl (hallB d)) H'
theorem hall_not {ds : List PyData} (h : ds.length ≠ 3) : hallB (.tuple ds) = false := by
  match ds, h with
  | [], _ => rfl
  | [_], _ => rfl
  | [_, _], _ => rfl
  | [_, _, _], h => exact absurd rfl h
  | _ :: _ :: _ :: _ :: _, _ => rfl
theorem web_layW {ps : List Str} {rs : List (Str × Str)} (W : IsWeb ps rs) : (webD ps rs).canLay0 = true := by
  show (PyData.canLayAll0 (ps.map .str) && (PyData.canLayAll0 (rs.map roadD) && true)) = true
  rw [strs_lay W.names.2, roads_lay W]
  rfl
section
variable {base : Heap} {P : Program} {w : World} {K : PySem.W.Frag} {mg : Str → Option Value}
theorem ok_is_hallO (D : Dn K mg "is_hall" s_is_hall ["thing"]) (B : Bn mg) (hm : ∃ t, mg "MOST_STATES" = some (.int 256 t)) (C_is_integer : Cl P w K mg base 1 "is_integer" ["thing"] (spIsIntO K)) (C_is_web : Cl P w K mg base 4 "is_web" ["thing"] (spIsWebO K))
    (C_power : Cl P w K mg base 1 "power" ["base", "exponent"] spPower) (C__are_rules : Cl P w K mg base 6 "_are_rules" ["thing", "k", "web"] (spAreRulesO K)) : Cl P w K mg base 7 "is_hall" ["thing"] (spIsHallO K) := by
  obtain ⟨t0, c_MOST_STATES⟩ := hm
  refine D.cl sc_is_hall (fun vs H Q E h => ?_) (fun f cdv A outer s H vs Q E hr h => ?_)
  · obtain ⟨a, x, d, rfl, _⟩ := h
    rfl
  · obtain ⟨a, x, d, rfl, ox, ok, q⟩ := h
    refine ⟨_, (pss_cons (ps_if (PW.pt (pw_or (pt_not (pt_val (pe_callB (k_isi (K := K)) rfl B.isinstance_ (by decide +kernel) (pa_cons (pv 0) (pa_cons (pe_ty (T := "tuple") B.tuple_ (by decide +kernel)) pa_nil))))) (pw_or1 (pt_cmpR op_ne (pe_callB (k_len (K := K)) rfl B.len_ (by decide +kernel) (pa_cons (pv 0) pa_nil)) pe_int (nomark _))))) (pss_one (ps_ret pe_bl)) pss_nil)
      (pss_cons (ps_asg (pv 0) (kpg_tup (K := K) (n := 3) rfl (pgs_cons (pg_name (i := 1) sc_is_hall.nd rfl (by first | exact Or.inl rfl | exact Or.inr rfl)) (pgs_cons (pg_name (i := 2) sc_is_hall.nd rfl (by first | exact Or.inl rfl | exact Or.inr rfl)) (pgs_cons (pg_name (i := 3) sc_is_hall.nd rfl (by first | exact Or.inl rfl | exact Or.inr rfl)) pgs_nil)))))
      (pss_cons (ps_if (PW.pt (pw_or (pt_not (pt_val (pe_c C_is_integer hr (pa_cons (pv 1) pa_nil)))) (pw_or (pt_not (pt_chain op_le op_le pe_int (pv 1) pe_int)) (pw_or1 (pt_not (pt_val (pe_c C_is_web hr (pa_cons (pv 2) pa_nil)))))))) (pss_one (ps_ret pe_bl)) pss_nil)
      (pss_one (ps_ret (pe_and (pe_cmpR op_le (pe_c C_power hr (pa_cons (pv 1) (pa_cons (pe_callB (k_len (K := K)) rfl B.len_ (by decide +kernel) (pa_cons (pe_ix (k_ixT (K := K)) (pv 2) pe_int (fun _ _ => rfl)) pa_nil)) pa_nil))) (gl_int c_MOST_STATES) (nomark _)) (pe_one (pe_c C__are_rules hr (pa_cons (pv 3) (pa_cons (pv 1) (pa_cons (pv 2) pa_nil))))))))))), ?_⟩
    repeat' (walk_at "jv")
    refine is_tupO ox ?_
    refine ⟨_, rfl, ?_⟩
    cases c : isT d with
    | false =>
      rw [(isT_off c).2.2.2.2] at q
      repeat' (walk_at "jv")
      exact q H (Same.refl _)
    | true =>
      obtain ⟨ds, rfl⟩ := isT_tup c
      cases ox with
      | @tup t xs ds sx al =>
      have hxl := ObAll.len al
      repeat' (walk_at "jv")
      · rw [hall_not (by omega)] at q
        exact q H (Same.refl _)
      · rename_i h3
        have h3' : ds.length = 3 := by omega
        cases al with
        | nil => exact absurd h3' (by decide)
        | @cons x1 _ d1 _ o1 al =>
        cases al with
        | nil => exact absurd h3' (by simp)
        | @cons x2 _ d2 _ o2 al =>
        cases al with
        | nil => exact absurd h3' (by simp)
        | @cons x3 xs3 d3 ds3 o3 al =>
        obtain rfl : ds3 = [] := List.eq_nil_of_length_eq_zero (by rw [List.length_cons, List.length_cons, List.length_cons] at h3'; omega)
        cases al
        replace q : ∀ H', Same H H' → Q (.bl ((twoB d1 && webB d2) && (decide (kOf d1 ^ (webPs d2).length ≤ 256) && rulesB (kOf d1) (webPs d2) (webRs d2) d3))) H' := q
        have ok2 := ok_tup.mp ok d2 (List.mem_cons_of_mem _ List.mem_cons_self)
        repeat' (walk_at "jv")
        refine ⟨x1, d1, a, rfl, o1, ?_⟩
        refine ⟨_, rfl, ?_⟩
        cases ci : isI d1 with
        | false =>
          have e0 : twoB d1 = false := by cases d1 <;> first | rfl | cases ci
          rw [e0, Bool.false_and, Bool.false_and] at q
          repeat' (walk_at "jv")
          exact q H (Same.refl _)
        | true =>
        obtain ⟨i', rfl⟩ := isI_int ci
        cases o1
        repeat' (walk_at "jv")
        · rename_i g1 g2
          rw [show twoB (.int i') = false by show (decide (2 ≤ i') && decide (i' ≤ 3)) = false; rw [decide_eq_false g2, Bool.and_false], Bool.false_and, Bool.false_and] at q
          exact q H (Same.refl _)
        · rename_i g1 g2
          obtain ⟨k, rfl⟩ := Int.eq_ofNat_of_zero_le (show 0 ≤ i' by omega)
          have hk2 : 2 ≤ k := by omega
          have hk3 : k ≤ 3 := by omega
          rw [show twoB (.int (k : Int)) = true by show (decide (2 ≤ (k : Int)) && decide ((k : Int) ≤ 3)) = true; rw [decide_eq_true g1, decide_eq_true g2]; rfl, Bool.true_and] at q
          replace q : ∀ H', Same H H' → Q (.bl (webB d2 && (decide (k ^ (webPs d2).length ≤ 256) && rulesB k (webPs d2) (webRs d2) d3))) H' := q
          refine ⟨a, x2, d2, rfl, o2, ok2, fun H2 k2 => ?_⟩
          refine ⟨_, rfl, ?_⟩
          cases cw : webB d2 with
          | false =>
            rw [cw, Bool.false_and] at q
            repeat' (walk_at "jv")
            exact q H2 k2
          | true =>
            obtain ⟨ps, rs, rfl, W⟩ := web_is cw
            have e1 : webPs (webD ps rs) = ps := txt_names ps
            have e2 : webRs (webD ps rs) = rs := pair_roads rs
            rw [cw, Bool.true_and, e1, e2] at q
            have dw := Dp.same k2 _ _ (Ob.dp _ _ (web_layW W) o2)
            obtain ⟨wt, tp, tr, us, rfl, s1, s2, s3, d3', dr, dpl⟩ := web_parts dw
            clear s3 d3' dr dpl
            have h8 := W.le8
            replace o3 := o3.same k2
            repeat' (walk_at "jv")
            refine ⟨k, ps.length, by rw [List.length_map]; rfl, hk3, h8, ?_⟩
            repeat' (walk_at "jv")
            · rename_i hf
              rw [decide_eq_true (show k ^ ps.length ≤ 256 by omega), Bool.true_and] at q
              exact ⟨a, x3, .ref wt, d3, k, ps, rs, rfl, o3, dw, W, hk2, hk3, fun H3 k3 => q _ (k2.trans k3)⟩
            · rename_i hf
              rw [decide_eq_false (show ¬ k ^ ps.length ≤ 256 by omega), Bool.false_and] at q
              exact q H2 k2
        · rename_i g1
          rw [show twoB (.int i') = false by show (decide (2 ≤ i') && decide (i' ≤ 3)) = false; rw [decide_eq_false g1, Bool.false_and], Bool.false_and, Bool.false_and] at q
          exact q H (Same.refl _)
theorem ok_is_hallOK (D : Dk K mg "is_hall" s_is_hall ["thing"] ["thing"]) (B : Bn mg) (hm : ∃ t, mg "MOST_STATES" = some (.int 256 t)) (C_is_integer : Cl P w K mg base 1 "is_integer" ["thing"] (spIsIntO K)) (C_is_web : Cl P w K mg base 4 "is_web" ["thing"] (spIsWebO K))
    (C_power : Cl P w K mg base 1 "power" ["base", "exponent"] spPower) (C__are_rules : Cl P w K mg base 6 "_are_rules" ["thing", "k", "web"] (spAreRulesO K)) : ClK P w K mg base 7 "is_hall" ["thing"] ["thing"] (spIsHallO K) := by
  obtain ⟨t0, c_MOST_STATES⟩ := hm
  refine D.cl sc_is_hall (fun vs H Q E h => ?_) (fun f cdv A outer s H vs Q E hr h => ?_)
  · obtain ⟨a, x, d, rfl, _⟩ := h
    rfl
  · obtain ⟨a, x, d, rfl, ox, ok, q⟩ := h
    refine ⟨_, (pss_cons (ps_if (PW.pt (pw_or (pt_not (pt_val (pe_callB (k_isi (K := K)) rfl B.isinstance_ (by decide +kernel) (pa_cons (pv 0) (pa_cons (pe_ty (T := "tuple") B.tuple_ (by decide +kernel)) pa_nil))))) (pw_or1 (pt_cmpR op_ne (pe_callB (k_len (K := K)) rfl B.len_ (by decide +kernel) (pa_cons (pv 0) pa_nil)) pe_int (nomark _))))) (pss_one (ps_ret pe_bl)) pss_nil)
      (pss_cons (ps_asg (pv 0) (kpg_tup (K := K) (n := 3) rfl (pgs_cons (pg_name (i := 1) sc_is_hall.nd rfl (by first | exact Or.inl rfl | exact Or.inr rfl)) (pgs_cons (pg_name (i := 2) sc_is_hall.nd rfl (by first | exact Or.inl rfl | exact Or.inr rfl)) (pgs_cons (pg_name (i := 3) sc_is_hall.nd rfl (by first | exact Or.inl rfl | exact Or.inr rfl)) pgs_nil)))))
      (pss_cons (ps_if (PW.pt (pw_or (pt_not (pt_val (pe_c C_is_integer hr (pa_cons (pv 1) pa_nil)))) (pw_or (pt_not (pt_chain op_le op_le pe_int (pv 1) pe_int)) (pw_or1 (pt_not (pt_val (pe_c C_is_web hr (pa_cons (pv 2) pa_nil)))))))) (pss_one (ps_ret pe_bl)) pss_nil)
      (pss_one (ps_ret (pe_and (pe_cmpR op_le (pe_c C_power hr (pa_cons (pv 1) (pa_cons (pe_callB (k_len (K := K)) rfl B.len_ (by decide +kernel) (pa_cons (pe_ix (k_ixT (K := K)) (pv 2) pe_int (fun _ _ => rfl)) pa_nil)) pa_nil))) (gl_int c_MOST_STATES) (nomark _)) (pe_one (pe_c C__are_rules hr (pa_cons (pv 3) (pa_cons (pv 1) (pa_cons (pv 2) pa_nil))))))))))), ?_⟩
    repeat' (walk_at "jv")
    refine is_tupO ox ?_
    refine ⟨_, rfl, ?_⟩
    cases c : isT d with
    | false =>
      rw [(isT_off c).2.2.2.2] at q
      repeat' (walk_at "jv")
      exact q H (Same.refl _)
    | true =>
      obtain ⟨ds, rfl⟩ := isT_tup c
      cases ox with
      | @tup t xs ds sx al =>
      have hxl := ObAll.len al
      repeat' (walk_at "jv")
      · rw [hall_not (by omega)] at q
        exact q H (Same.refl _)
      · rename_i h3
        have h3' : ds.length = 3 := by omega
        cases al with
        | nil => exact absurd h3' (by decide)
        | @cons x1 _ d1 _ o1 al =>
        cases al with
        | nil => exact absurd h3' (by simp)
        | @cons x2 _ d2 _ o2 al =>
        cases al with
        | nil => exact absurd h3' (by simp)
        | @cons x3 xs3 d3 ds3 o3 al =>
        obtain rfl : ds3 = [] := List.eq_nil_of_length_eq_zero (by rw [List.length_cons, List.length_cons, List.length_cons] at h3'; omega)
        cases al
        replace q : ∀ H', Same H H' → Q (.bl ((twoB d1 && webB d2) && (decide (kOf d1 ^ (webPs d2).length ≤ 256) && rulesB (kOf d1) (webPs d2) (webRs d2) d3))) H' := q
        have ok2 := ok_tup.mp ok d2 (List.mem_cons_of_mem _ List.mem_cons_self)
        repeat' (walk_at "jv")
        refine ⟨x1, d1, a, rfl, o1, ?_⟩
        refine ⟨_, rfl, ?_⟩
        cases ci : isI d1 with
        | false =>
          have e0 : twoB d1 = false := by cases d1 <;> first | rfl | cases ci
          rw [e0, Bool.false_and, Bool.false_and] at q
          repeat' (walk_at "jv")
          exact q H (Same.refl _)
        | true =>
        obtain ⟨i', rfl⟩ := isI_int ci
        cases o1
        repeat' (walk_at "jv")
        · rename_i g1 g2
          rw [show twoB (.int i') = false by show (decide (2 ≤ i') && decide (i' ≤ 3)) = false; rw [decide_eq_false g2, Bool.and_false], Bool.false_and, Bool.false_and] at q
          exact q H (Same.refl _)
        · rename_i g1 g2
          obtain ⟨k, rfl⟩ := Int.eq_ofNat_of_zero_le (show 0 ≤ i' by omega)
          have hk2 : 2 ≤ k := by omega
          have hk3 : k ≤ 3 := by omega
          rw [show twoB (.int (k : Int)) = true by show (decide (2 ≤ (k : Int)) && decide ((k : Int) ≤ 3)) = true; rw [decide_eq_true g1, decide_eq_true g2]; rfl, Bool.true_and] at q
          replace q : ∀ H', Same H H' → Q (.bl (webB d2 && (decide (k ^ (webPs d2).length ≤ 256) && rulesB k (webPs d2) (webRs d2) d3))) H' := q
          refine ⟨a, x2, d2, rfl, o2, ok2, fun H2 k2 => ?_⟩
          refine ⟨_, rfl, ?_⟩
          cases cw : webB d2 with
          | false =>
            rw [cw, Bool.false_and] at q
            repeat' (walk_at "jv")
            exact q H2 k2
          | true =>
            obtain ⟨ps, rs, rfl, W⟩ := web_is cw
            have e1 : webPs (webD ps rs) = ps := txt_names ps
            have e2 : webRs (webD ps rs) = rs := pair_roads rs
            rw [cw, Bool.true_and, e1, e2] at q
            have dw := Dp.same k2 _ _ (Ob.dp _ _ (web_layW W) o2)
            obtain ⟨wt, tp, tr, us, rfl, s1, s2, s3, d3', dr, dpl⟩ := web_parts dw
            clear s3 d3' dr dpl
            have h8 := W.le8
            replace o3 := o3.same k2
            repeat' (walk_at "jv")
            refine ⟨k, ps.length, by rw [List.length_map]; rfl, hk3, h8, ?_⟩
            repeat' (walk_at "jv")
            · rename_i hf
              rw [decide_eq_true (show k ^ ps.length ≤ 256 by omega), Bool.true_and] at q
              exact ⟨a, x3, .ref wt, d3, k, ps, rs, rfl, o3, dw, W, hk2, hk3, fun H3 k3 => q _ (k2.trans k3)⟩
            · rename_i hf
              rw [decide_eq_false (show ¬ k ^ ps.length ≤ 256 by omega), Bool.false_and] at q
              exact q H2 k2
        · rename_i g1
          rw [show twoB (.int i') = false by show (decide (2 ≤ i') && decide (i' ≤ 3)) = false; rw [decide_eq_false g1, Bool.false_and], Bool.false_and, Bool.false_and] at q
          exact q H (Same.refl _)
end
end
section
open L2 PySem PySem.Spec PyProof.Rows
abbrev s__table_index : Stmt := topS 16
theorem sc__table_index : FnScope ["k", "states", "index", "state"] ["k", "states"] (defScope s__table_index) := ⟨rfl, rfl, rfl, by decide +kernel, rfl, by decide +kernel, by decide +kernel⟩
abbrev s_next_state : Stmt := topS 15
theorem sc_next_state : FnScope ["rule", "k", "near", "states", "sort", "own", "others", "state"] ["rule", "k", "near", "states"] (defScope s_next_state) := ⟨rfl, rfl, rfl, by decide +kernel, rfl, by decide +kernel, by decide +kernel⟩
section
variable {base : Heap} {P : Program} {w : World} {K : PySem.W.Frag} {mg : Str → Option Value}
theorem nats_of {K : PySem.W.Frag} {H : Hp} : ∀ (t : List Nat) (xs : List V), DpAll K H xs (t.map fun n => PyData.int ((n : Nat) : Int)) → xs = natsV t
  | [], _, h => by cases h; rfl
  | y :: r, _, h => by
    cases h with
    | cons h1 h2 =>
      cases h1
      rw [nats_of r _ h2]
      rfl
theorem ok_table_index (D : Dn K mg "_table_index" s__table_index ["k", "states"]) (B : Bn mg) : Cl P w K mg base 1 "_table_index" ["k", "states"] (spTabIx K) := by
  refine D.cl sc__table_index (fun vs H Q E h => ?_) (fun f cdv A outer s H vs Q E hr h => ?_)
  · obtain ⟨L, k, ss, rfl, _⟩ := h
    rfl
  · obtain ⟨L, k, ss, rfl, hL, hk3, q⟩ := h
    refine ⟨_, (pss_cons (ps_set (i := 2) sc__table_index.nd rfl (by first | exact Or.inl rfl | exact Or.inr rfl) pe_int)
      (pss_cons (ps_for PassesOwn.never rfl (kpi_list (K := K) (k_revL (K := K) (pv 1))) (pg_name (i := 3) sc__table_index.nd rfl (by first | exact Or.inl rfl | exact Or.inr rfl)) (pss_one (ps_set (i := 2) sc__table_index.nd rfl (by first | exact Or.inl rfl | exact Or.inr rfl) (pe_op op_add (pe_op op_mul (pv 2) (pv 0)) (pv 3)))))
      (pss_one (ps_ret (pv 2))))), ?_⟩
    repeat' (walk_at "jv")
    refine i_revL (i_var rfl ⟨L, _, rfl, hL, fun R nR => ?_⟩)
    have kR := Same.upd_new (o := .lst (natsV ss).reverse) nR
    have eR : (natsV ss).reverse = natsV ss.reverse := by
      unfold natsV
      rw [List.map_reverse]
    rw [eR] at kR ⊢
    have sR : SqL K (upd H R (.lst (natsV ss.reverse))) R (natsV ss.reverse) := sq_lst upd_same
    generalize upd H R (.lst (natsV ss.reverse)) = H1 at *
    repeat' (walk_at "jv")
    refine f_list (natsV ss.reverse) (fun i σ H' => ∃ y3, σ = [some (.int k), some (.ref L), some (.int (numN k (ss.reverse.take i) : Nat)), y3] ∧ H1 = H') ⟨none, rfl, rfl⟩ (fun i σ H' _ h => ?_) (fun i x σ H' hx h => ?_) (fun σ H' h => ?_)
    · obtain ⟨y3, rfl, rfl⟩ := h
      exact sR
    · obtain ⟨y3, rfl, rfl⟩ := h
      generalize ss.reverse = t at *
      have hi : i < t.length := by
        have := (List.getElem?_eq_some_iff.mp hx).1
        unfold natsV at this
        rwa [List.length_map] at this
      unfold natsV at hx
      rw [List.getElem?_map, List.getElem?_eq_getElem hi] at hx
      obtain rfl : V.int ((t[i] : Nat) : Int) = x := Option.some.inj hx
      repeat' (walk_at "jv")
      refine ⟨some (.int ((t[i] : Nat) : Int)), ?_, rfl⟩
      have e : numN k (t.take (i + 1)) = numN k (t.take i) * k + t[i] := by
        rw [List.take_add_one, List.getElem?_eq_getElem hi]
        exact numN_snoc k _ _
      rw [e, Int.natCast_add, Int.natCast_mul]
      rfl
    · obtain ⟨y3, rfl, rfl⟩ := h
      unfold natsV
      rw [List.length_map, List.take_length]
      repeat' (walk_at "jv")
      exact q _ kR
theorem rule_headN {k : Nat} {near : List Str} {d : PyData} (h : RuleD k near d) : ∃ s r, d = .tuple (.str s :: r) := by
  cases h <;> exact ⟨_, _, rfl⟩
theorem sum_le {c : Nat} : ∀ {l : List Nat}, (∀ s ∈ l, s ≤ c) → l.sum ≤ l.length * c
  | [], _ => by simp
  | x :: r, h => by
    have h1 := h x List.mem_cons_self
    have h2 := sum_le fun s hs => h s (List.mem_cons_of_mem _ hs)
    rw [List.sum_cons, List.length_cons, Nat.succ_mul]
    omega
theorem cut_one {x : V} (r : List V) : cutV (x :: r) (some 1) none = r := by
  unfold cutV
  rw [show (1 : Int) = ((1 : Nat) : Int) from rfl, HT.sIx_nat, HT.sIx_none, List.length_cons, Nat.min_eq_left (by omega)]
  show List.take (r.length + 1 - 1) r = r
  rw [Nat.add_sub_cancel]
  exact List.take_of_length_le (Nat.le_refl _)
theorem ok_next_state (D : Dn K mg "next_state" s_next_state ["rule", "k", "near", "states"]) (B : Bn mg) (C__table_index : Cl P w K mg base 1 "_table_index" ["k", "states"] (spTabIx K)) : Cl P w K mg base 2 "next_state" ["rule", "k", "near", "states"] (spNext K) := by
  refine D.cl sc_next_state (fun vs H Q E h => ?_) (fun f cdv A outer s H vs Q E hr h => ?_)
  · obtain ⟨v, d, p, L, k, near, ss, rfl, _⟩ := h
    rfl
  · obtain ⟨v, d, p, L, k, near, ss, rfl, hd, hR, hp, nd, hL, hl, hs, hk2, hk3, h7, q⟩ := h
    refine ⟨_, (pss_cons (ps_par3 (i := 4) (j := 5) (l := 6) rfl sc_next_state.nd rfl rfl rfl (by decide) (by decide) (by decide) rfl rfl rfl (pa_cons (pe_ix (k_ixT (K := K)) (pv 0) pe_int (fun _ _ => rfl)) (pa_cons (pe_ix (k_ixL (K := K)) (pv 3) pe_int (fun _ _ => rfl)) (pa_cons (pe_slice (k_slL (K := K)) (pv 3) (po_some pe_int) po_none) pa_nil))) (by rfl))
      (pss_cons (ps_if (pt_cmpR op_eq (pv 4) pe_str (nomark _)) (pss_one (ps_ret (pe_ix (k_ixT (K := K)) (pe_ix (k_ixT (K := K)) (pv 0) pe_int (fun _ _ => rfl)) (pe_c C__table_index hr (pa_cons (pv 1) (pa_cons (pv 3) pa_nil))) (fun _ _ => rfl)))) pss_nil)
      (pss_cons (ps_if (pt_cmpR op_eq (pv 4) pe_str (nomark _)) (pss_one (ps_ret (pe_ix (k_ixT (K := K)) (pe_ix (k_ixT (K := K)) (pe_ix (k_ixT (K := K)) (pv 0) pe_int (fun _ _ => rfl)) (pv 5) (fun _ _ => rfl)) (pe_callB ((k_sumL (K := K) rfl)) rfl B.sum_ (by decide +kernel) (pa_cons (pv 6) pa_nil)) (fun _ _ => rfl)))) pss_nil)
      (pss_cons (ps_if (pt_cmpR op_eq (pv 4) pe_str (nomark _)) (pss_one (ps_ret (pv 5))) pss_nil)
      (pss_cons (ps_if (pt_cmpR op_eq (pv 4) pe_str (nomark _)) (pss_one (ps_ret (pe_callB ((k_minL (K := K) rfl)) rfl B.min_ (by decide +kernel) (pa_cons (pv 3) pa_nil)))) pss_nil)
      (pss_cons (ps_if (pt_cmpR op_eq (pv 4) pe_str (nomark _)) (pss_one (ps_ret (pe_callB ((k_maxL (K := K) rfl)) rfl B.max_ (by decide +kernel) (pa_cons (pv 3) pa_nil)))) pss_nil)
      (pss_cons (ps_if (pt_cmpR op_eq (pv 4) pe_str (nomark _)) (pss_one (ps_ret (pe_op op_mod (pe_callB ((k_sumL (K := K) rfl)) rfl B.sum_ (by decide +kernel) (pa_cons (pv 3) pa_nil)) (pv 1)))) pss_nil)
      (pss_cons (ps_if (pt_cmpR op_eq (pv 4) pe_str (nomark _)) (pss_one (ps_ret (pe_ifExp (pt_cmpR op_ge (pe_callB (k_len (K := K)) rfl B.len_ (by decide +kernel) (pa_cons (pe_lc (own := [("state", 7)]) rfl sc_next_state.nd (kpi_list (K := K) (pv 6)) (blkOk_by (N := ["rule", "k", "near", "states", "sort", "own", "others", "state"]) (sc := defScope s_next_state) (by decide +kernel)) (fun _ _ _ _ _ => (pg_name (i := 7) sc_next_state.nd rfl (by first | exact Or.inl rfl | exact Or.inr rfl))) (fun _ _ _ _ _ => pts_one (pt_cmpR op_ne (pv 7) pe_int (nomark _))) (fun _ _ _ _ _ => (pv 7))) pa_nil)) (pe_ix (k_ixT (K := K)) (pv 0) pe_int (fun _ _ => rfl)) (nomark _)) pe_int pe_int))) pss_nil)
      (pss_one (ps_ret (pe_ix (k_ixL (K := K)) (pv 6) (pe_bmF PySem.F.plainAttrs_tuple PySem.F.slot_tuple_index PySem.F.type_tuple_index (k_tindex (K := K)) (pv 2) (pa_cons (pe_ix (k_ixT (K := K)) (pv 0) pe_int (fun _ _ => rfl)) pa_nil)) (fun _ _ => rfl)))))))))))), ?_⟩
    obtain ⟨own, oth, rfl⟩ : ∃ own oth, ss = own :: oth := by
      cases ss with
      | nil => simp at hl
      | cons x r => exact ⟨x, r, rfl⟩
    obtain ⟨s0, rest, rfl⟩ := rule_headN hR
    obtain ⟨a, us, rfl, sa, da⟩ := tup_parts hd
    obtain ⟨vr, rfl, dr⟩ : ∃ vr, us = .str s0 :: vr ∧ DpAll K H vr rest := by
      cases da with
      | cons h1 h2 => cases h1; exact ⟨_, rfl, h2⟩
    refine i_seq ?_
    refine i_cutS (fun σ H' => ∃ l, σ = [some (.ref a), some (.int k), some (.ref p), some (.ref L), some (.str s0), some (.int own), some (.ref l), none] ∧ Same H H' ∧ SqL K H' l (natsV oth)) (fun N hN => ?_) ?_
    · repeat' (walk_at "jv")
      intro l nl
      have ec : cutV (natsV (own :: oth)) (some 1) none = natsV oth := cut_one (x := V.int (own : Int)) (natsV oth)
      rw [ec]
      refine i_nil ?_
      refine ⟨_, _, _, rfl, ?_⟩
      exact hN _ _ ⟨l, rfl, Same.upd_new nl, sq_lst upd_same⟩
    rintro σ H1 ⟨l, rfl, k1, sl⟩
    have sa1 := TK.same (K := K) k1 _ _ sa
    have dr1 := DpAll.same k1 _ _ dr
    have hL1 := k1.seq hL
    have hp1 := hp.same k1
    cases hR with
    | keep =>
      repeat' (walk_at "jv")
      all_goals first
        | (rename_i h; exact absurd h (by decide))
        | exact absurd (rfl : ("keep" : Str) = "keep") (by assumption)
        | (rw [nextV_keep] at q; exact q _ k1)
    | least =>
      repeat' (walk_at "jv")
      all_goals first
        | (rename_i h; exact absurd h (by decide))
        | exact absurd (rfl : ("least" : Str) = "least") (by assumption)
        | (rw [nextV_least] at q; exact i_minL hL1 (by simp) (q _ k1))
    | greatest =>
      repeat' (walk_at "jv")
      all_goals first
        | (rename_i h; exact absurd h (by decide))
        | exact absurd (rfl : ("greatest" : Str) = "greatest") (by assumption)
        | (rw [nextV_greatest] at q; exact i_maxL hL1 (by simp) (q _ k1))
    | odd =>
      repeat' (walk_at "jv")
      all_goals first
        | (rename_i h; exact absurd h (by decide))
        | exact absurd (rfl : ("odd" : Str) = "odd") (by assumption)
        | skip
      refine i_sumN hL1 ?_
      repeat' (walk_at "jv")
      have e : (((own :: oth).sum : Nat) : Int) % (k : Int) = (((own :: oth).sum % k : Nat) : Int) := (Int.natCast_emod _ _).symm
      rw [e]
      rw [nextV_odd] at q
      exact q _ k1
    | table t ht hk =>
      obtain ⟨y, rfl, dy⟩ : ∃ y, vr = [y] ∧ Dp K H1 y (intsD t) := by
        cases dr1 with
        | cons h1 h2 => cases h2; exact ⟨_, rfl, h1⟩
      obtain ⟨b, us2, rfl, sb, db⟩ := tup_parts (ds := t.map fun n => PyData.int ((n : Nat) : Int)) dy
      have := nats_of t us2 db
      subst this
      have hlt := tabIx_lt hs
      rw [hl, ← ht] at hlt
      repeat' (walk_at "jv")
      · refine ⟨L, k, own :: oth, rfl, hL1, hk3, fun H2 k2 => ?_⟩
        refine i_ixT (TK.same k2 _ _ sb) (atI_nat (v := V.int ((t[tabIx k (own :: oth)] : Nat) : Int)) ?_) ?_
        · unfold natsV
          rw [List.getElem?_map, List.getElem?_eq_getElem hlt]
          rfl
        · rw [nextV_table, List.getD_eq_getElem?_getD, List.getElem?_eq_getElem hlt] at q
          exact q _ (k1.trans k2)
      all_goals first
        | (rename_i h; exact absurd h (by decide))
        | exact absurd (rfl : ("table" : Str) = "table") (by assumption)
    | sum ts ht hk =>
      obtain ⟨y, rfl, dy⟩ : ∃ y, vr = [y] ∧ Dp K H1 y (.tuple (ts.map intsD)) := by
        cases dr1 with
        | cons h1 h2 => cases h2; exact ⟨_, rfl, h1⟩
      obtain ⟨b, us2, rfl, sb, db⟩ := tup_parts (ds := ts.map intsD) dy
      have ho : own < ts.length := by
        rw [ht]
        exact hs own List.mem_cons_self
      obtain ⟨w1, w2⟩ := hk ts[own] (List.getElem_mem ho)
      have hu : us2.length = ts.length := by rw [DpAll.len db, List.length_map]
      have hx : us2[own]? = some us2[own] := List.getElem?_eq_getElem (by omega)
      obtain ⟨d, hdd, dx⟩ := DpAll.get db hx
      rw [List.getElem?_map, List.getElem?_eq_getElem ho] at hdd
      obtain rfl : intsD ts[own] = d := Option.some.inj hdd
      obtain ⟨b2, us3, ex, sb2, db2⟩ := tup_parts (ds := ts[own].map fun n => PyData.int ((n : Nat) : Int)) dx
      have := nats_of _ us3 db2
      subst this
      rw [ex] at hx
      have hz : atI us2 (own : Int) = some (V.ref b2) := atI_nat hx
      have hsum : oth.sum ≤ oth.length * (k - 1) := sum_le fun s h => by
        have := hs s (List.mem_cons_of_mem _ h)
        omega
      have hol : oth.length = near.length := by
        rw [List.length_cons] at hl
        omega
      rw [hol] at hsum
      have hlt : oth.sum < ts[own].length := by omega
      repeat' (walk_at "jv")
      all_goals first
        | (rename_i h; exact absurd h (by decide))
        | exact absurd (rfl : ("sum" : Str) = "sum") (by assumption)
        | skip
      refine i_sumN sl ?_
      refine i_ixT sb2 (atI_nat (v := V.int ((ts[own][oth.sum] : Nat) : Int)) ?_) ?_
      · unfold natsV
        rw [List.getElem?_map, List.getElem?_eq_getElem hlt]
        rfl
      · rw [nextV_sum, List.getD_eq_getElem?_getD (l := ts), List.getElem?_eq_getElem ho, Option.getD_some, List.getD_eq_getElem?_getD, List.getElem?_eq_getElem hlt] at q
        exact q _ k1
    | most n hn9 =>
      obtain rfl : vr = [.int n] := by
        cases dr1 with
        | cons h1 h2 => cases h1; cases h2; rfl
      repeat' (walk_at "jv")
      all_goals first
        | (rename_i h; exact absurd h (by decide))
        | exact absurd (rfl : ("most" : Str) = "most") (by assumption)
        | skip
      refine c_list (natsV oth) (fun D i H' => H1 D = none ∧ Same H1 H' ∧ H' D = some (.lst (natsV ((oth.take i).filter fun s => decide (s ≠ 0))))) (fun D nD => ⟨nD, Same.upd_new nD, upd_same⟩) (fun D i H' _ h => h.2.1.seq sl) (fun D i x H' hx h => ?_) (fun D H' h => ?_)
      · obtain ⟨nD, kD, eD⟩ := h
        have hi : i < oth.length := by
          have := (List.getElem?_eq_some_iff.mp hx).1
          unfold natsV at this
          rwa [List.length_map] at this
        unfold natsV at hx
        rw [List.getElem?_map, List.getElem?_eq_getElem hi] at hx
        obtain rfl : V.int ((oth[i] : Nat) : Int) = x := Option.some.inj hx
        have hf : ((oth.take i).filter fun s => decide (s ≠ 0)).length ≤ i := Nat.le_trans (List.length_filter_le _ _) (by rw [List.length_take]; omega)
        have h8 : oth.length = near.length := by
          rw [List.length_cons] at hl
          omega
        have et : ((oth.take (i + 1)).filter fun s => decide (s ≠ 0)) = ((oth.take i).filter fun s => decide (s ≠ 0)) ++ (if oth[i] ≠ 0 then [oth[i]] else []) := by
          rw [List.take_add_one, List.getElem?_eq_getElem hi, List.filter_append]
          congr 1
          by_cases z : oth[i] = 0
          · simp [z]
          · simp [z]
        repeat' (walk_at "jv")
        · rename_i hz
          have hz' : oth[i] ≠ 0 := fun e => hz (by rw [e]; rfl)
          refine i_lcE eD (by unfold natsV; rw [List.length_map, sizeLine_eq]; omega) ⟨nD, fun b o z => ?_, ?_⟩
          · rw [upd_ne (fun w => by rw [w, nD] at z; cases z)]
            exact kD _ _ z
          · rw [upd_same, et, if_pos hz']
            unfold natsV
            rw [List.map_append]
            rfl
        · rename_i hz
          have hz' : ¬ oth[i] ≠ 0 := fun e => hz (fun w => e (by omega))
          rw [if_neg hz', List.append_nil] at et
          exact ⟨nD, kD, by rw [et]; exact eD⟩
      · obtain ⟨nD, kD, eD⟩ := h
        unfold natsV at eD
        rw [List.length_map, List.take_length] at eD
        have sa2 := TK.same (K := K) kD _ _ sa1
        have eq : nextV k near (.tuple [.str "most", .int n]) (own :: oth) = if (n : Int) ≤ ((oth.filter fun s => decide (s ≠ 0)).length : Int) then 1 else 0 := rfl
        refine i_nil ?_
        refine i_lenL (sq_lst eD) ?_
        rw [List.length_map]
        repeat' (walk_at "jv")
        · rename_i hc
          rw [eq, if_pos hc] at q
          exact q _ (k1.trans kD)
        · rename_i hc
          rw [eq, if_neg hc] at q
          exact q _ (k1.trans kD)
    | copy z hz =>
      obtain rfl : vr = [.str z] := by
        cases dr1 with
        | cons h1 h2 => cases h1; cases h2; rfl
      have hol : oth.length = near.length := by
        rw [List.length_cons] at hl
        omega
      have hix : near.idxOf z < oth.length := by
        rw [hol]
        exact List.idxOf_lt_length_iff.mpr hz
      repeat' (walk_at "jv")
      all_goals first
        | (rename_i h; exact absurd h (by decide))
        | skip
      refine i_bmF (i_var rfl (i_tyF hp1 ?_))
      repeat' (walk_at "jv")
      refine i_tix hp1.sq hz ?_
      refine i_ixL sl (atI_nat (v := V.int ((oth[near.idxOf z] : Nat) : Int)) ?_) ?_
      · unfold natsV
        rw [List.getElem?_map, List.getElem?_eq_getElem hix]
        rfl
      · have eq : nextV k near (.tuple [.str "copy", .str z]) (own :: oth) = oth.getD (near.idxOf z) 0 := rfl
        rw [eq, List.getD_eq_getElem?_getD, List.getElem?_eq_getElem hix] at q
        exact q _ k1
end
end
section
open L2 PySem PySem.Spec PyProof.Rows
abbrev s__looks_at : Stmt := topS 44
theorem sc__looks_at : FnScope ["web", "number", "near", "place"] ["web", "number"] (defScope s__looks_at) := ⟨rfl, rfl, rfl, by decide +kernel, rfl, by decide +kernel, by decide +kernel⟩
abbrev s_stepped : Stmt := topS 45
theorem sc_stepped : FnScope ["hall", "state", "place", "k", "web", "rules", "number", "near", "seen", "own", "at"] ["hall", "state", "place"] (defScope s_stepped) := ⟨rfl, rfl, rfl, by decide +kernel, rfl, by decide +kernel, by decide +kernel⟩
abbrev s_passed : Stmt := topS 46
theorem sc_passed : FnScope ["hall", "order", "state", "place"] ["hall", "order", "state"] (defScope s_passed) := ⟨rfl, rfl, rfl, by decide +kernel, rfl, by decide +kernel, by decide +kernel⟩
section
variable {base : Heap} {P : Program} {w : World} {K : PySem.W.Frag} {mg : Str → Option Value}
theorem ok_looks_at (D : Dn K mg "_looks_at" s__looks_at ["web", "number"]) (B : Bn mg) (C_near_of : Cl P w K mg base 2 "near_of" ["web", "place"] (spNearOfF K)) : Cl P w K mg base 3 "_looks_at" ["web", "number"] (spLooks K) := by
  refine D.cl sc__looks_at (fun vs H Q E h => ?_) (fun f cdv A outer s H vs Q E hr h => ?_)
  · obtain ⟨v, z, ps, rs, rfl, _⟩ := h
    rfl
  · obtain ⟨v, z, ps, rs, rfl, hw, W, hz, q⟩ := h
    unfold seenL at q
    have hd := hw.dp
    obtain ⟨t, tp, tr, rfl, s1, fp, dr⟩ := hw
    have sp := fp.sq (K := K)
    have h8 := W.le8
    refine ⟨_, (pss_cons (ps_set (i := 2) sc__looks_at.nd rfl (by first | exact Or.inl rfl | exact Or.inr rfl) (pe_c C_near_of hr (pa_cons (pv 0) (pa_cons (pe_ix (k_ixT (K := K)) (pe_ix (k_ixT (K := K)) (pv 0) pe_int (fun _ _ => rfl)) (pv 1) (fun _ _ => rfl)) pa_nil))))
      (pss_one (ps_ret (pe_tup (pa_cons (pv 2) (pa_cons (pe_op op_cat (pe_lst (pa_cons (pv 1) pa_nil)) (pe_lc (own := [("place", 3)]) rfl sc__looks_at.nd (kpi_tup (K := K) (pv 2)) (blkOk_by (N := ["web", "number", "near", "place"]) (sc := defScope s__looks_at) (by decide +kernel)) (fun _ _ _ _ _ => (pg_name (i := 3) sc__looks_at.nd rfl (by first | exact Or.inl rfl | exact Or.inr rfl))) (fun _ _ _ _ _ => pts_nil) (fun _ _ _ _ _ => (pe_bmF PySem.F.plainAttrs_tuple PySem.F.slot_tuple_index PySem.F.type_tuple_index (k_tindex (K := K)) (pe_ix (k_ixT (K := K)) (pv 0) pe_int (fun _ _ => rfl)) (pa_cons (pv 3) pa_nil))))) pa_nil)))))), ?_⟩
    have hix : atI (ps.map V.str) ((ps.idxOf z : Nat) : Int) = some (V.str z) := at_str (idx_first hz).1
    repeat' (walk_at "jv")
    refine ⟨.ref t, z, ps, rs, rfl, hd, W, hz, fun p H1 k1 f1 => ?_⟩
    have s11 := TK.same (K := K) k1 _ _ s1
    have fp1 := fp.same k1
    repeat' (walk_at "jv")
    intro L1 nL1
    have kL := Same.upd_new (o := .lst [V.int ((ps.idxOf z : Nat) : Int)]) nL1
    have e1 : (upd H1 L1 (.lst [V.int ((ps.idxOf z : Nat) : Int)])) L1 = some (.lst [V.int ((ps.idxOf z : Nat) : Int)]) := upd_same
    have s12 := TK.same (K := K) kL _ _ s11
    have fp2 := fp1.same kL
    have f2 := f1.same kL
    have k2 := k1.trans kL
    generalize upd H1 L1 (.lst [V.int ((ps.idxOf z : Nat) : Int)]) = H2 at *
    have nl := near_len W hz
    have nm : ∀ y ∈ nearL ps rs z, y ∈ ps := fun y hy => (List.mem_filter.mp hy).1
    generalize nearL ps rs z = near at *
    have f2s := f2.sq (K := K)
    repeat' (walk_at "jv")
    refine c_tup (near.map V.str) (fun D i H' => H2 D = none ∧ Same H2 H' ∧ H' D = some (.lst (natsV ((near.take i).map fun y => ps.idxOf y)))) (fun D nD => ⟨nD, Same.upd_new nD, upd_same⟩) (fun D i H' _ h => TK.same h.2.1 _ _ f2s) (fun D i x H' hx h => ?_) (fun D H' h => ?_)
    · obtain ⟨nD, kD, eD⟩ := h
      have hi : i < near.length := by
        have := (List.getElem?_eq_some_iff.mp hx).1
        rwa [List.length_map] at this
      rw [List.getElem?_map, List.getElem?_eq_getElem hi] at hx
      obtain rfl : V.str near[i] = x := Option.some.inj hx
      have s13 := TK.same (K := K) kD _ _ s12
      repeat' (walk_at "jv")
      refine i_bmF ?_
      repeat' (walk_at "jv")
      refine i_tyF (fp2.same kD) ?_
      repeat' (walk_at "jv")
      refine i_tix (fp2.same kD).sq (nm _ (List.getElem_mem hi)) ?_
      refine i_lcE eD (by unfold natsV; rw [List.length_map, List.length_map, List.length_take, sizeLine_eq]; omega) ⟨nD, fun b o z => ?_, ?_⟩
      · rw [upd_ne (fun w => by rw [w, nD] at z; cases z)]
        exact kD _ _ z
      · rw [upd_same, List.take_add_one, List.getElem?_eq_getElem hi]
        unfold natsV
        rw [List.map_append, List.map_append]
        rfl
    · obtain ⟨nD, kD, eD⟩ := h
      rw [List.length_map, List.take_length] at eD
      refine ⟨L1, D, _, _, rfl, rfl, kD _ _ e1, eD, by unfold natsV; rw [List.length_map, List.length_map, sizeLine_eq]; show 1 + _ ≤ _; omega, fun p3 np3 => ?_⟩
      have k3 := Same.upd_new (o := .lst ([V.int ((ps.idxOf z : Nat) : Int)] ++ natsV (near.map fun y => ps.idxOf y))) np3
      repeat' (walk_at "jv")
      intro p4 np4
      have k4 := Same.upd_new (o := .tup [.ref p, .ref p3]) np4
      exact q p4 p p3 _ (k2.trans (kD.trans (k3.trans k4))) (sq_tup upd_same) (f2.same (kD.trans (k3.trans k4))) (k4.seq (sq_lst upd_same))
theorem ok_stepped (D : Dn K mg "stepped" s_stepped ["hall", "state", "place"]) (B : Bn mg) (C__looks_at : Cl P w K mg base 3 "_looks_at" ["web", "number"] (spLooks K)) (C_next_state : Cl P w K mg base 2 "next_state" ["rule", "k", "near", "states"] (spNext K)) : Cl P w K mg base 4 "stepped" ["hall", "state", "place"] (spStepped K) := by
  refine D.cl sc_stepped (fun vs H Q E h => ?_) (fun f cdv A outer s H vs Q E hr h => ?_)
  · obtain ⟨v, s, z, k, ps, rs, ds, t, rfl, _⟩ := h
    rfl
  · obtain ⟨v, st, z, k, ps, rs, ds, t, rfl, hh, hH, hs, hl, hk, hz, q⟩ := h
    obtain ⟨ta, T, wv, rfl, sh, hw, dT, uT⟩ := hh
    obtain ⟨wt, tp, tr, ew, sw, fp, drr⟩ := id hw
    have W := hH.web
    have h8 := W.le8
    refine ⟨_, (pss_cons (ps_asg (pv 0) (kpg_tup (K := K) (n := 3) rfl (pgs_cons (pg_name (i := 3) sc_stepped.nd rfl (by first | exact Or.inl rfl | exact Or.inr rfl)) (pgs_cons (pg_name (i := 4) sc_stepped.nd rfl (by first | exact Or.inl rfl | exact Or.inr rfl)) (pgs_cons (pg_name (i := 5) sc_stepped.nd rfl (by first | exact Or.inl rfl | exact Or.inr rfl)) pgs_nil)))))
      (pss_cons (ps_set (i := 6) sc_stepped.nd rfl (by first | exact Or.inl rfl | exact Or.inr rfl) (pe_bmF PySem.F.plainAttrs_tuple PySem.F.slot_tuple_index PySem.F.type_tuple_index (k_tindex (K := K)) (pe_ix (k_ixT (K := K)) (pv 4) pe_int (fun _ _ => rfl)) (pa_cons (pv 2) pa_nil)))
      (pss_cons (ps_asg (pe_c C__looks_at hr (pa_cons (pv 4) (pa_cons (pv 6) pa_nil))) (kpg_tup (K := K) (n := 2) rfl (pgs_cons (pg_name (i := 7) sc_stepped.nd rfl (by first | exact Or.inl rfl | exact Or.inr rfl)) (pgs_cons (pg_name (i := 8) sc_stepped.nd rfl (by first | exact Or.inl rfl | exact Or.inr rfl)) pgs_nil))))
      (pss_cons (ps_set (i := 9) sc_stepped.nd rfl (by first | exact Or.inl rfl | exact Or.inr rfl) (pe_c C_next_state hr (pa_cons (pe_ix (k_ixT (K := K)) (pv 5) (pv 6) (fun _ _ => rfl)) (pa_cons (pv 3) (pa_cons (pv 7) (pa_cons (pe_lc (own := [("at", 10)]) rfl sc_stepped.nd (kpi_list (K := K) (pv 8)) (blkOk_by (N := ["hall", "state", "place", "k", "web", "rules", "number", "near", "seen", "own", "at"]) (sc := defScope s_stepped) (by decide +kernel)) (fun _ _ _ _ _ => (pg_name (i := 10) sc_stepped.nd rfl (by first | exact Or.inl rfl | exact Or.inr rfl))) (fun _ _ _ _ _ => pts_nil) (fun _ _ _ _ _ => (pe_ix (k_ixT (K := K)) (pv 1) (pv 10) (fun _ _ => rfl)))) pa_nil))))))
      (pss_one (ps_ret (pe_op (k_catA (K := K)) (pe_op (k_catA (K := K)) (pe_slice (ksl_tup (K := K)) (pv 1) po_none (po_some (pv 6))) (pe_tup (pa_cons (pv 9) pa_nil))) (pe_slice (ksl_tup (K := K)) (pv 1) (po_some (pe_op op_add (pv 6) pe_int)) po_none)))))))), ?_⟩
    subst ew
    repeat' (walk_at "jv")
    refine i_bmF ?_
    repeat' (walk_at "jv")
    refine i_tyF fp ?_
    repeat' (walk_at "jv")
    refine i_tix fp.sq hz ?_
    repeat' (walk_at "jv")
    refine ⟨.ref wt, z, ps, rs, rfl, hw, W, hz, fun T1 p L H1 k1 sT1 fp1 sL => ?_⟩
    have lt := List.idxOf_lt_length_iff.mpr hz
    obtain ⟨T', us, eT, sT, dU⟩ := tup_parts dT
    obtain rfl : T = T' := by injection eT
    have hul : us.length = ps.length := by rw [DpAll.len dU, hH.len]
    have hx : us[ps.idxOf z]? = some us[ps.idxOf z] := List.getElem?_eq_getElem (by omega)
    obtain ⟨d, hd, dx⟩ := DpAll.get (DpAll.same k1 _ _ dU) hx
    have hR := hH.rules (ps.idxOf z) z d (idx_first hz).1 hd
    have hdD : ds.getD (ps.idxOf z) .none = d := by rw [List.getD_eq_getElem?_getD, hd]; rfl
    have sT' := TK.same (K := K) k1 _ _ sT
    have hxx : atI us ((ps.idxOf z : Nat) : Int) = some us[ps.idxOf z] := atI_nat hx
    have st1 := TK.same (K := K) k1 _ _ hs
    have hk2 : 2 ≤ k ∧ k ≤ 3 := by rcases hH.two with e | e <;> omega
    have nl := near_len W hz
    have hseen : ∀ i ∈ seenL ps rs z, i < t.length := by
      intro i hi
      unfold seenL at hi
      rw [hl]
      rcases List.mem_cons.mp hi with rfl | hi
      · exact lt
      · obtain ⟨y, hy, rfl⟩ := List.mem_map.mp hi
        exact List.idxOf_lt_length_iff.mpr (List.mem_filter.mp hy).1
    have hsl : (seenL ps rs z).length = (nearL ps rs z).length + 1 := by
      unfold seenL
      rw [List.length_cons, List.length_map]
    have hown : ownV k ps rs ds t z = nextV k (nearL ps rs z) d ((seenL ps rs z).map fun i => t.getD i 0) := by
      unfold ownV
      rw [hdD]
    have ndn : (nearL ps rs z).Nodup := W.names.1.filter _
    generalize us[ps.idxOf z] = vx at *
    repeat' (walk_at "jv")
    refine c_list (natsV (seenL ps rs z)) (fun D i H' => H1 D = none ∧ Same H1 H' ∧ H' D = some (.lst (natsV (((seenL ps rs z).take i).map fun i => t.getD i 0)))) (fun D nD => ⟨nD, Same.upd_new nD, upd_same⟩) (fun D i H' _ h => h.2.1.seq sL) (fun D i x H' hx h => ?_) (fun D H2 h => ?_)
    · obtain ⟨nD, kD, eD⟩ := h
      have hi : i < (seenL ps rs z).length := by
        have := (List.getElem?_eq_some_iff.mp hx).1
        unfold natsV at this
        rwa [List.length_map] at this
      unfold natsV at hx
      rw [List.getElem?_map, List.getElem?_eq_getElem hi] at hx
      obtain rfl : V.int (((seenL ps rs z)[i] : Nat) : Int) = x := Option.some.inj hx
      have hit := hseen _ (List.getElem_mem hi)
      have st2 := TK.same (K := K) kD _ _ st1
      repeat' (walk_at "jv")
      refine i_ixT st2 (atI_nat (v := V.int ((t[(seenL ps rs z)[i]] : Nat) : Int)) ?_) ?_
      · unfold natsV
        rw [List.getElem?_map, List.getElem?_eq_getElem hit]
        rfl
      refine i_lcE eD (by unfold natsV; rw [List.length_map, List.length_map, List.length_take, sizeLine_eq]; omega) ⟨nD, fun b o z => ?_, ?_⟩
      · rw [upd_ne (fun w => by rw [w, nD] at z; cases z)]
        exact kD _ _ z
      · rw [upd_same, List.take_add_one, List.getElem?_eq_getElem hi]
        unfold natsV
        rw [List.map_append, List.map_append]
        show some (HO.lst (_ ++ [V.int _])) = some (HO.lst (_ ++ [V.int ((t.getD (seenL ps rs z)[i] 0 : Nat) : Int)]))
        rw [List.getD_eq_getElem?_getD, List.getElem?_eq_getElem hit]
        rfl
    · obtain ⟨nD, kD, eD⟩ := h
      unfold natsV at eD
      rw [List.length_map, List.take_length] at eD
      refine i_nil ?_
      refine ⟨vx, d, p, D, k, nearL ps rs z, (seenL ps rs z).map fun i => t.getD i 0, rfl, Dp.same kD _ _ dx, hR, fp1.same kD, ndn, sq_lst eD, by rw [List.length_map, hsl], fun s hs => ?_, hk2.1, hk2.2, nl, fun H3 k3 => ?_⟩
      · obtain ⟨i, _, rfl⟩ := List.mem_map.mp hs
        exact getD_lt (by omega) hk i
      rw [← hown]
      have st3 := TK.same (K := K) (kD.trans k3) _ _ st1
      have h9 : (natsV t).length ≤ 8 := by
        unfold natsV
        rw [List.length_map, hl]
        exact h8
      repeat' (walk_at "jv")
      refine i_slG st3 fun p5 H5 k5 s5 => ?_
      repeat' (walk_at "jv")
      intro p6 np6
      have k6 := Same.upd_new (o := .tup [V.int ((ownV k ps rs ds t z : Nat) : Int)]) np6
      have c1 : cutV (natsV t) none (some ((ps.idxOf z : Nat) : Int)) = (natsV t).take (ps.idxOf z) := cut_take
      rw [c1] at s5
      refine i_catA (TK.same k6 _ _ s5) (sq_tup upd_same) (by simp) (by rw [List.length_take, List.length_singleton, sizeLine_eq]; omega) fun p7 H7 k7 s7 => ?_
      have st7 := TK.same (K := K) (k5.trans (k6.trans k7)) _ _ st3
      repeat' (walk_at "jv")
      have c2 : ((ps.idxOf z : Nat) : Int) + 1 = ((ps.idxOf z + 1 : Nat) : Int) := by omega
      rw [c2]
      refine i_slG st7 fun p8 H8 k8 s8 => ?_
      rw [cut_from] at s8
      refine i_catB (TK.same k8 _ _ s7) s8 (by simp) (by rw [List.length_append, List.length_take, List.length_drop, List.length_singleton, sizeLine_eq]; omega) fun p9 H9 k9 s9 => ?_
      rw [nats_set (by rw [hl]; exact lt)] at s9
      exact q p9 _ (k1.trans (kD.trans (k3.trans (k5.trans (k6.trans (k7.trans (k8.trans k9))))))) s9
theorem ok_passed (D : Dn K mg "passed" s_passed ["hall", "order", "state"]) (B : Bn mg) (C_stepped : Cl P w K mg base 4 "stepped" ["hall", "state", "place"] (spStepped K)) : Cl P w K mg base 5 "passed" ["hall", "order", "state"] (spPassed K) := by
  refine D.cl sc_passed (fun vs H Q E h => ?_) (fun f cdv A outer s H vs Q E hr h => ?_)
  · obtain ⟨v, o, s, qs, k, ps, rs, ds, t, rfl, _⟩ := h
    rfl
  · obtain ⟨v, o, st, qs, k, ps, rs, ds, t, rfl, hh, hH, ho, pm, hs, hl, hk, q⟩ := h
    refine ⟨_, (pss_cons (ps_for PassesOwn.never rfl (kpi_tup (K := K) (pv 1)) (pg_name (i := 3) sc_passed.nd rfl (by first | exact Or.inl rfl | exact Or.inr rfl)) (pss_one (ps_set (i := 2) sc_passed.nd rfl (by first | exact Or.inl rfl | exact Or.inr rfl) (pe_c C_stepped hr (pa_cons (pv 0) (pa_cons (pv 2) (pa_cons (pv 3) pa_nil)))))))
      (pss_one (ps_ret (pv 2)))), ?_⟩
    repeat' (walk_at "jv")
    refine f_tup (qs.map V.str) (fun i σ H' => ∃ p y3, σ = [some v, some (.ref o), some (.ref p), y3] ∧ Same H H' ∧ SqT K H' p (natsV (dayN k ps rs ds t (qs.take i))) ∧ (dayN k ps rs ds t (qs.take i)).length = ps.length ∧ ∀ x ∈ dayN k ps rs ds t (qs.take i), x < k)
      ⟨st, none, rfl, Same.refl _, hs, hl, hk⟩ (fun i σ H' _ h => ?_) (fun i x σ H' hx h => ?_) (fun σ H' h => ?_)
    · obtain ⟨p, y3, rfl, k1, _⟩ := h
      exact TK.same k1 _ _ ho
    · obtain ⟨p, y3, rfl, k1, sp, l1, b1⟩ := h
      have hi : i < qs.length := by
        have := (List.getElem?_eq_some_iff.mp hx).1
        rwa [List.length_map] at this
      rw [List.getElem?_map, List.getElem?_eq_getElem hi] at hx
      obtain rfl : V.str qs[i] = x := Option.some.inj hx
      have hm : qs[i] ∈ ps := pm.mem_iff.mp (List.getElem_mem hi)
      have e : dayN k ps rs ds t (qs.take (i + 1)) = stepN k ps rs ds (dayN k ps rs ds t (qs.take i)) qs[i] := by
        rw [List.take_add_one, List.getElem?_eq_getElem hi]
        unfold dayN
        rw [List.foldl_append]
        rfl
      repeat' (walk_at "jv")
      refine ⟨v, p, qs[i], k, ps, rs, ds, _, rfl, hh.same k1, hH, sp, l1, b1, hm, fun p2 H2 k2 s2 => ?_⟩
      repeat' (walk_at "jv")
      exact ⟨p2, _, rfl, k1.trans k2, by rw [e]; exact s2, by rw [e, step_len]; exact l1, by rw [e]; exact step_lt hH hm b1⟩
    · obtain ⟨p, y3, rfl, k1, sp, l1, b1⟩ := h
      rw [List.length_map, List.take_length] at sp
      repeat' (walk_at "jv")
      exact q p _ k1 sp
end
end
section
open L2 PySem PySem.Spec PyProof.Rows
abbrev s_need_web : Stmt := topS 30
theorem sc_need_web : FnScope ["web"] ["web"] (defScope s_need_web) := ⟨rfl, rfl, rfl, by decide +kernel, rfl, by decide +kernel, by decide +kernel⟩
abbrev s_is_order : Stmt := topS 32
theorem sc_is_order : FnScope ["web", "thing", "place"] ["web", "thing"] (defScope s_is_order) := ⟨rfl, rfl, rfl, by decide +kernel, rfl, by decide +kernel, by decide +kernel⟩
abbrev s_need_order : Stmt := topS 31
theorem sc_need_order : FnScope ["web", "order"] ["web", "order"] (defScope s_need_order) := ⟨rfl, rfl, rfl, by decide +kernel, rfl, by decide +kernel, by decide +kernel⟩
abbrev s_need_ordered : Stmt := topS 39
theorem sc_need_ordered : FnScope ["web", "order"] ["web", "order"] (defScope s_need_ordered) := ⟨rfl, rfl, rfl, by decide +kernel, rfl, by decide +kernel, by decide +kernel⟩
abbrev s__pointed : Stmt := topS 42
theorem sc__pointed : FnScope ["order", "one", "other"] ["order", "one", "other"] (defScope s__pointed) := ⟨rfl, rfl, rfl, by decide +kernel, rfl, by decide +kernel, by decide +kernel⟩
abbrev s_arrows_of : Stmt := topS 41
theorem sc_arrows_of : FnScope ["web", "order", "one", "other"] ["web", "order"] (defScope s_arrows_of) := ⟨rfl, rfl, rfl, by decide +kernel, rfl, by decide +kernel, by decide +kernel⟩
theorem Cl.imp {P : Program} {w : World} {K : PySem.W.Frag} {mg : Str → Option Value} {base : Heap} {k : Nat} {x : Str} {ps : List Str} {sp sp' : Sp} (C : Cl P w K mg base k x ps sp) (h : ∀ vs H Q E, sp' vs H Q E → sp vs H Q E) : Cl P w K mg base k x ps sp' := by
  obtain ⟨f, fd, F, hm, kp, b⟩ := C.ex
  exact ⟨f, fd, F.imp h, hm, kp, b⟩
theorem okD_web {ps : List Str} {rs : List (Str × Str)} (W : IsWeb ps rs) : okD (webD ps rs) = true := by
  have nm : ∀ z, nmOk z = true → okD (.str z) = true := fun z h => ok_str.mpr ⟨by have := nm_size h; omega, nmOk_str h⟩
  refine ok_tup.mpr fun d hd => ?_
  rcases List.mem_cons.mp hd with rfl | hd
  · refine ok_tup.mpr fun d hd => ?_
    obtain ⟨z, hz, rfl⟩ := List.mem_map.mp hd
    exact nm z (W.names.2 z hz)
  · obtain rfl := List.mem_singleton.mp hd
    refine ok_tup.mpr fun d hd => ?_
    obtain ⟨r, hr, rfl⟩ := List.mem_map.mp hd
    refine ok_tup.mpr fun d hd => ?_
    obtain ⟨e1, e2, _⟩ := W.ends r hr
    rcases List.mem_cons.mp hd with rfl | hd
    · exact nm _ (W.names.2 _ e1)
    · obtain rfl := List.mem_singleton.mp hd
      exact nm _ (W.names.2 _ e2)
section
variable {base : Heap} {P : Program} {w : World} {K : PySem.W.Frag} {mg : Str → Option Value}
theorem ok_is_oneW (D : Dn K mg "is_one_of" s_is_one_of ["thing", "places"]) (B : Bn mg) (C_is_one_of : Cl P w K mg base 1 "is_one_of" ["thing", "places"] (spIsOneO K)) : Cl P w K mg base 1 "is_one_of" ["thing", "places"] (spIsOneOf K) := by
  refine C_is_one_of.imp fun vs H Q E h => ?_
  obtain ⟨z, p, ps, rfl, s, hz, q⟩ := h
  refine ⟨0, p, .str z, .str z, ps, rfl, .str z, s, ?_⟩
  have : oneB ps (.str z) = true := decide_eq_true hz
  rw [this]
  exact q
theorem ok_is_webW (D : Dn K mg "is_web" s_is_web ["thing"]) (B : Bn mg) (C_is_web : Cl P w K mg base 4 "is_web" ["thing"] (spIsWebO K)) : Cl P w K mg base 4 "is_web" ["thing"] (spIsWeb K) := by
  refine C_is_web.imp fun vs H Q E h => ?_
  obtain ⟨v, ps, rs, rfl, d, W, q⟩ := h
  refine ⟨0, v, _, rfl, Ob.of _ _ (web_only ps rs) d, okD_web W, fun H' k => ?_⟩
  rw [is_webB W]
  exact q H' k
theorem ok_need_web (D : Dn K mg "need_web" s_need_web ["web"]) (B : Bn mg) (C_is_web : Cl P w K mg base 4 "is_web" ["thing"] (spIsWeb K)) : Cl P w K mg base 5 "need_web" ["web"] (spNeedWeb K) := by
  refine D.cl sc_need_web (fun vs H Q E h => ?_) (fun f cdv A outer s H vs Q E hr h => ?_)
  · obtain ⟨v, ps, rs, rfl, _⟩ := h
    rfl
  · obtain ⟨v, ps, rs, rfl, hd, W, q⟩ := h
    refine ⟨_, (pss_one (ps_if (pt_not (pt_val (pe_c C_is_web hr (pa_cons (pv 0) pa_nil)))) (pss_one ps_dead) pss_nil)), ?_⟩
    repeat' (walk_at "jv")
    refine ⟨v, ps, rs, rfl, hd, W, fun H2 k2 => ?_⟩
    repeat' (walk_at "jv")
    exact q _ k2
theorem ok_is_order (D : Dn K mg "is_order" s_is_order ["web", "thing"]) (B : Bn mg) (C_is_one_of : Cl P w K mg base 1 "is_one_of" ["thing", "places"] (spIsOneOf K)) : Cl P w K mg base 2 "is_order" ["web", "thing"] (spIsOrder K) := by
  refine D.cl sc_is_order (fun vs H Q E h => ?_) (fun f cdv A outer s H vs Q E hr h => ?_)
  · obtain ⟨v, o, qs, ps, rs, rfl, _⟩ := h
    rfl
  · obtain ⟨v, o, qs, ps, rs, rfl, hd, W, ho, pm, q⟩ := h
    obtain ⟨t, tp, tr, xs, rfl, s1, s2, s3, d3, dr, dpl⟩ := web_parts hd
    have nd := W.names.1
    have h8 := W.le8
    have hs := s2
    refine ⟨_, (pss_cons (ps_if (PW.pt (pw_or (pt_not (pt_val (pe_callB (k_isi (K := K)) rfl B.isinstance_ (by decide +kernel) (pa_cons (pv 1) (pa_cons (pe_ty (T := "tuple") B.tuple_ (by decide +kernel)) pa_nil))))) (pw_or1 (pt_cmpR op_ne (pe_callB (k_len (K := K)) rfl B.len_ (by decide +kernel) (pa_cons (pv 1) pa_nil)) (pe_callB (k_len (K := K)) rfl B.len_ (by decide +kernel) (pa_cons (pe_ix (k_ixT (K := K)) (pv 0) pe_int (fun _ _ => rfl)) pa_nil)) (nomark _))))) (pss_one (ps_ret pe_bl)) pss_nil)
      (pss_one (ps_ret (pe_and (pe_callB (k_all (K := K) rfl) rfl B.all_ (by decide +kernel) (pa_cons (pe_lc (own := [("place", 2)]) rfl sc_is_order.nd (kpi_tup (K := K) (pv 1)) (blkOk_by (N := ["web", "thing", "place"]) (sc := defScope s_is_order) (by decide +kernel)) (fun _ _ _ _ _ => (pg_name (i := 2) sc_is_order.nd rfl (by first | exact Or.inl rfl | exact Or.inr rfl))) (fun _ _ _ _ _ => pts_nil) (fun _ _ _ _ _ => (pe_c C_is_one_of hr (pa_cons (pv 2) (pa_cons (pe_ix (k_ixT (K := K)) (pv 0) pe_int (fun _ _ => rfl)) pa_nil))))) pa_nil)) (pe_one (pe_cmpR op_eq (pe_callB (cr_lenTexts) rfl B.len_ (by decide +kernel) (pa_cons (pe_callTy (cr_setTexts rfl) rfl B.set_ (by decide +kernel) (pa_cons (pv 1) pa_nil)) pa_nil)) (pe_callB (k_len (K := K)) rfl B.len_ (by decide +kernel) (pa_cons (pv 1) pa_nil)) (nomark _))))))), ?_⟩
    have hl : (qs.map V.str).length = qs.length := List.length_map ..
    have hl2 : (ps.map V.str).length = ps.length := List.length_map ..
    have hpl := pm.length_eq
    repeat' (walk_at "jv")
    · omega
    · refine c_tup (qs.map V.str) (fun D2 i H' => H D2 = none ∧ Same H H' ∧ H' D2 = some (.lst ((List.range i).map fun _ => V.bl true))) (fun D2 nD => ⟨nD, Same.upd_new nD, upd_same⟩) (fun D2 i H' _ h => TK.same h.2.1 _ _ ho) (fun D2 i y H' hy h => ?_) (fun D2 H' h => ?_)
      · obtain ⟨nD, k, e⟩ := h
        have hi : i < qs.length := by
          have := (List.getElem?_eq_some_iff.mp hy).1
          omega
        rw [List.getElem?_map, List.getElem?_eq_getElem hi] at hy
        obtain rfl : V.str qs[i] = y := Option.some.inj hy
        have s1' := TK.same (K := K) k _ _ s1
        repeat' (walk_at "jv")
        refine ⟨qs[i], tp, ps, rfl, TK.same k _ _ hs, pm.mem_iff.mp (List.getElem_mem hi), ?_⟩
        refine i_lcE e (by rw [List.length_map, List.length_range, sizeLine_eq]; omega) ⟨nD, fun b o z => ?_, ?_⟩
        · rw [upd_ne (fun w => by rw [w, nD] at z; cases z)]
          exact k _ _ z
        · rw [upd_same, List.range_succ, List.map_append]
          rfl
      · obtain ⟨nD, k, e⟩ := h
        refine i_nil ?_
        refine all_true (sq_lst e) ?_
        have ho2 := TK.same (K := K) k _ _ ho
        repeat' (walk_at "jv")
        refine ⟨o, qs, rfl, ho2, pm.nodup_iff.mpr nd, by omega, fun D3 nD3 => ?_⟩
        refine i_nil ?_
        refine ⟨D3, qs, rfl, upd_same, ?_⟩
        have sm3 := Same.upd_new (o := TxsO P w D3 qs) nD3
        have hs3 := TK.same (K := K) sm3 _ _ ho2
        repeat' (walk_at "jv")
        rw [decide_eq_true (by rw [hl])]
        exact q _ (k.trans sm3)
theorem ok_need_order (D : Dn K mg "need_order" s_need_order ["web", "order"]) (B : Bn mg) (C_is_order : Cl P w K mg base 2 "is_order" ["web", "thing"] (spIsOrder K)) : Cl P w K mg base 3 "need_order" ["web", "order"] (spNeedOrder K) := by
  refine D.cl sc_need_order (fun vs H Q E h => ?_) (fun f cdv A outer s H vs Q E hr h => ?_)
  · obtain ⟨v, o, qs, ps, rs, rfl, _⟩ := h
    rfl
  · obtain ⟨v, o, qs, ps, rs, rfl, hd, W, ho, pm, q⟩ := h
    refine ⟨_, (pss_one (ps_if (pt_not (pt_val (pe_c C_is_order hr (pa_cons (pv 0) (pa_cons (pv 1) pa_nil))))) (pss_one ps_dead) pss_nil)), ?_⟩
    repeat' (walk_at "jv")
    refine ⟨v, o, qs, ps, rs, rfl, hd, W, ho, pm, fun H2 k2 => ?_⟩
    repeat' (walk_at "jv")
    exact q _ k2
theorem ok_need_ordered (D : Dn K mg "need_ordered" s_need_ordered ["web", "order"]) (B : Bn mg) (C_need_web : Cl P w K mg base 5 "need_web" ["web"] (spNeedWeb K)) (C_need_order : Cl P w K mg base 3 "need_order" ["web", "order"] (spNeedOrder K)) : Cl P w K mg base 6 "need_ordered" ["web", "order"] (spNeedOrder K) := by
  refine D.cl sc_need_ordered (fun vs H Q E h => ?_) (fun f cdv A outer s H vs Q E hr h => ?_)
  · obtain ⟨v, o, qs, ps, rs, rfl, _⟩ := h
    rfl
  · obtain ⟨v, o, qs, ps, rs, rfl, hd, W, ho, pm, q⟩ := h
    refine ⟨_, (pss_cons (ps_expr (pe_c C_need_web hr (pa_cons (pv 0) pa_nil)))
      (pss_one (ps_expr (pe_c C_need_order hr (pa_cons (pv 0) (pa_cons (pv 1) pa_nil)))))), ?_⟩
    repeat' (walk_at "jv")
    refine ⟨v, ps, rs, rfl, hd, W, fun H2 k2 => ?_⟩
    repeat' (walk_at "jv")
    refine ⟨v, o, qs, ps, rs, rfl, Dp.same k2 _ _ hd, W, TK.same k2 _ _ ho, pm, fun H3 k3 => ?_⟩
    repeat' (walk_at "jv")
    exact q _ (k2.trans k3)
theorem ok_pointed (D : Dn K mg "_pointed" s__pointed ["order", "one", "other"]) (B : Bn mg) : Cl P w K mg base 1 "_pointed" ["order", "one", "other"] spPointed := by
  refine D.cl sc__pointed (fun vs H Q E h => ?_) (fun f cdv A outer s H vs Q E hr h => ?_)
  · obtain ⟨o, qs, x, y, rfl, _⟩ := h
    rfl
  · obtain ⟨o, qs, x, y, rfl, ho, hx, hy, q⟩ := h
    refine ⟨_, (pss_one (ps_ret (pe_ifExp (pt_cmpR op_lt (pe_bmF PySem.F.plainAttrs_tuple PySem.F.slot_tuple_index PySem.F.type_tuple_index (k_tindex (K := K)) (pv 0) (pa_cons (pv 1) pa_nil)) (pe_bmF PySem.F.plainAttrs_tuple PySem.F.slot_tuple_index PySem.F.type_tuple_index (k_tindex (K := K)) (pv 0) (pa_cons (pv 2) pa_nil)) (nomark _)) (pe_tup (pa_cons (pv 1) (pa_cons (pv 2) pa_nil))) (pe_tup (pa_cons (pv 2) (pa_cons (pv 1) pa_nil)))))), ?_⟩
    repeat' (walk_at "jv")
    refine i_bmF (i_var rfl (i_tyF ho ?_))
    refine i_cons (i_var rfl (i_nil ?_))
    refine i_tix ho.sq hx ?_
    refine i_bmF (i_var rfl (i_tyF ho ?_))
    refine i_cons (i_var rfl (i_nil ?_))
    refine i_tix ho.sq hy ?_
    repeat' (walk_at "jv")
    · rename_i lt
      have e : arr1 qs (x, y) = (x, y) := if_pos (by show qs.idxOf x < qs.idxOf y; omega)
      rw [e] at q
      exact q
    · rename_i lt
      have e : arr1 qs (x, y) = (y, x) := if_neg (by show ¬ (qs.idxOf x < qs.idxOf y); omega)
      rw [e] at q
      exact q
theorem ok_arrows_of (D : Dn K mg "arrows_of" s_arrows_of ["web", "order"]) (B : Bn mg) (C__pointed : Cl P w K mg base 1 "_pointed" ["order", "one", "other"] spPointed) : Cl P w K mg base 2 "arrows_of" ["web", "order"] (spArrows K) := by
  refine D.cl sc_arrows_of (fun vs H Q E h => ?_) (fun f cdv A outer s H vs Q E hr h => ?_)
  · obtain ⟨v, o, qs, ps, rs, rfl, _⟩ := h
    rfl
  · obtain ⟨v, o, qs, ps, rs, rfl, hd, W, ho, pm, q⟩ := h
    obtain ⟨t, tp, tr, xs, rfl, s1, s2, s3, d3, dr, dpl⟩ := web_parts hd
    refine ⟨_, (pss_one (ps_ret (pe_callTy (k_tuple (K := K)) rfl B.tuple_ (by decide +kernel) (pa_cons (pe_lc (own := [("one", 2), ("other", 3)]) rfl sc_arrows_of.nd (kpi_tup (K := K) (pe_ix (k_ixT (K := K)) (pv 0) pe_int (fun _ _ => rfl))) (blkOk_by (N := ["web", "order", "one", "other"]) (sc := defScope s_arrows_of) (by decide +kernel)) (fun _ _ _ _ _ => (kpg_tup (K := K) (n := 2) rfl (pgs_cons (pg_name (i := 2) sc_arrows_of.nd rfl (by first | exact Or.inl rfl | exact Or.inr rfl)) (pgs_cons (pg_name (i := 3) sc_arrows_of.nd rfl (by first | exact Or.inl rfl | exact Or.inr rfl)) pgs_nil)))) (fun _ _ _ _ _ => pts_nil) (fun _ _ _ _ _ => (pe_c C__pointed hr (pa_cons (pv 1) (pa_cons (pv 2) (pa_cons (pv 3) pa_nil)))))) pa_nil)))), ?_⟩
    have hl : xs.length = rs.length := by rw [DpAll.len d3, List.length_map]
    have h14 := W.le14
    repeat' (walk_at "jv")
    refine c_tup xs (fun D2 i H' => H D2 = none ∧ Same H H' ∧ LsD K H' D2 ((arr qs (rs.take i)).map roadD)) (fun D2 nD => ⟨nD, Same.upd_new nD, LsD.nil upd_same⟩) (fun D2 i H' _ h => TK.same h.2.1 _ _ s3) (fun D2 i y H' hy h => ?_) (fun D2 H' h => ?_)
    · obtain ⟨nD, k, ws, ew, dw, tw⟩ := h
      have hi : i < rs.length := by
        have := (List.getElem?_eq_some_iff.mp hy).1
        omega
      have hws : ws.length ≤ 14 := by
        rw [DpAll.len dw, List.length_map]
        unfold arr
        rw [List.length_map, List.length_take]
        omega
      obtain ⟨d, hd2, dy⟩ := DpAll.get d3 hy
      rw [List.getElem?_map, List.getElem?_eq_getElem hi] at hd2
      obtain rfl : roadD rs[i] = d := Option.some.inj hd2
      obtain ⟨t2, rfl, st⟩ := road_parts (Dp.same k _ _ dy)
      obtain ⟨w1, w2, w3⟩ := W.ends _ (List.getElem_mem hi)
      repeat' (walk_at "jv")
      refine ⟨o, qs, rs[i].1, rs[i].2, rfl, ho.same k, pm.mem_iff.mpr w1, pm.mem_iff.mpr w2, fun T nT => ?_⟩
      have eD : (upd H' T (.tup [.str (arr1 qs (rs[i].1, rs[i].2)).1, .str (arr1 qs (rs[i].1, rs[i].2)).2])) D2 = some (.lst ws) := (upd_ne (ne_of_none ew nT)).trans ew
      refine i_lcE eD (by rw [sizeLine_eq]; omega) ⟨nD, fun b u z => ?_, ?_⟩
      · rw [upd_ne (fun w => by rw [w, nD] at z; cases z)]
        exact Same.upd_new nT _ _ (k _ _ z)
      · have et : arr qs (rs.take (i + 1)) = arr qs (rs.take i) ++ [arr1 qs (rs[i].1, rs[i].2)] := by
          unfold arr
          rw [List.take_add_one, List.getElem?_eq_getElem hi, List.map_append]
          rfl
        rw [et, List.map_append]
        exact LsD.push2 ew dw tw nT (.str _) (.str _) rfl rfl
    · obtain ⟨nD, k, ws, ew, dw, tw⟩ := h
      rw [hl, List.take_length] at dw tw
      refine i_nil ?_
      refine i_tupL (sq_lst ew) fun T nT => ?_
      have sm := Same.upd_new (o := .tup ws) nT
      exact q T _ (k.trans sm) (.tup (xs := ws) (.inl (.inl upd_same)) (DpAll.same sm _ _ dw))
end
end
section
open L2 PySem PySem.Spec PyProof.Rows
abbrev s__law_next : Stmt := topS 60
theorem sc__law_next : FnScope ["_law_hall", "_law_state", "_law_place", "_law_k", "_law_web_here", "_law_rules", "_law_at", "_law_others", "_law_rule", "_law_both", "_law_word", "_law_index", "_law_one_here", "_law_other"] ["_law_hall", "_law_state", "_law_place"] (defScope s__law_next) := ⟨rfl, rfl, rfl, by decide +kernel, rfl, by decide +kernel, by decide +kernel⟩
theorem atI_getD {t : List Nat} {i : Nat} (h : i < t.length) : atI (natsV t) (i : Int) = some (V.int ((t.getD i 0 : Nat) : Int)) := by
  refine atI_nat ?_
  unfold natsV
  rw [List.getElem?_map, List.getD_eq_getElem?_getD, List.getElem?_eq_getElem h]
  rfl
section
variable {base : Heap} {P : Program} {w : World} {K : PySem.W.Frag} {mg : Str → Option Value}
theorem ok_lnext (D : Dn K mg "_law_next" s__law_next ["_law_hall", "_law_state", "_law_place"]) (B : Bn mg) (C__law_neighbours : Cl P w K mg base 1 "_law_neighbours" ["_law_web_here", "_law_place"] (spNear K)) : Cl P w K mg base 2 "_law_next" ["_law_hall", "_law_state", "_law_place"] (spLNext K) := by
  refine D.cl sc__law_next (fun vs H Q E h => ?_) (fun f cdv A outer s H vs Q E hr h => ?_)
  · obtain ⟨v, s, z, k, ps, rs, ds, t, rfl, _⟩ := h
    rfl
  · obtain ⟨v, st, z, k, ps, rs, ds, t, rfl, hh, hH, hs, hl, hk, hz, q⟩ := h
    obtain ⟨ta, T, wv, rfl, sh, hw, dT, uT⟩ := hh
    obtain ⟨wt, tp, tr, ew, sw, fp, drr⟩ := id hw
    have W := hH.web
    have h8 := W.le8
    refine ⟨_, (pss_cons (ps_asg (pv 0) (kpg_tup (K := K) (n := 3) rfl (pgs_cons (pg_name (i := 3) sc__law_next.nd rfl (by first | exact Or.inl rfl | exact Or.inr rfl)) (pgs_cons (pg_name (i := 4) sc__law_next.nd rfl (by first | exact Or.inl rfl | exact Or.inr rfl)) (pgs_cons (pg_name (i := 5) sc__law_next.nd rfl (by first | exact Or.inl rfl | exact Or.inr rfl)) pgs_nil)))))
      (pss_cons (ps_set (i := 6) sc__law_next.nd rfl (by first | exact Or.inl rfl | exact Or.inr rfl) (pe_bmF PySem.F.plainAttrs_tuple PySem.F.slot_tuple_index PySem.F.type_tuple_index (k_tindex (K := K)) (pe_ix (k_ixT (K := K)) (pv 4) pe_int (fun _ _ => rfl)) (pa_cons (pv 2) pa_nil)))
      (pss_cons (ps_setLc (i := 7) (own := [("_law_other", 13)]) rfl sc__law_next.nd rfl rfl (sw_true rfl rfl rfl (by decide +kernel)) (kpi_list (K := K) (pe_c C__law_neighbours hr (pa_cons (pv 4) (pa_cons (pv 2) pa_nil)))) (blkOk_by (N := ["_law_hall", "_law_state", "_law_place", "_law_k", "_law_web_here", "_law_rules", "_law_at", "_law_others", "_law_rule", "_law_both", "_law_word", "_law_index", "_law_one_here", "_law_other"]) (sc := defScope s__law_next) (by decide +kernel)) (fun _ _ _ _ _ => (pg_name (i := 13) sc__law_next.nd rfl (by first | exact Or.inl rfl | exact Or.inr rfl))) (fun _ _ _ _ _ => pts_nil) (fun _ _ _ _ _ => (pe_ix (k_ixT (K := K)) (pv 1) (pe_bmF PySem.F.plainAttrs_tuple PySem.F.slot_tuple_index PySem.F.type_tuple_index (k_tindex (K := K)) (pe_ix (k_ixT (K := K)) (pv 4) pe_int (fun _ _ => rfl)) (pa_cons (pv 13) pa_nil)) (fun _ _ => rfl))))
      (pss_cons (ps_par (i := 8) (j := 9) rfl sc__law_next.nd rfl rfl (by decide) rfl rfl (pa_cons (pe_ix (k_ixT (K := K)) (pv 5) (pv 6) (fun _ _ => rfl)) (pa_cons (pe_op op_cat (pe_lst (pa_cons (pe_ix (k_ixT (K := K)) (pv 1) (pv 6) (fun _ _ => rfl)) pa_nil)) (pv 7)) pa_nil)) (by rfl))
      (pss_cons (ps_set (i := 10) sc__law_next.nd rfl (by first | exact Or.inl rfl | exact Or.inr rfl) (pe_ix (k_ixT (K := K)) (pv 8) pe_int (fun _ _ => rfl)))
      (pss_cons (ps_if (pt_cmpR op_eq (pv 10) pe_str (nomark _)) (pss_cons (ps_set (i := 11) sc__law_next.nd rfl (by first | exact Or.inl rfl | exact Or.inr rfl) pe_int)
      (pss_cons (ps_for PassesOwn.never rfl (kpi_list (K := K) (k_revL (K := K) (pv 9))) (pg_name (i := 12) sc__law_next.nd rfl (by first | exact Or.inl rfl | exact Or.inr rfl)) (pss_one (ps_set (i := 11) sc__law_next.nd rfl (by first | exact Or.inl rfl | exact Or.inr rfl) (pe_op op_add (pe_op op_mul (pv 11) (pv 3)) (pv 12)))))
      (pss_one (ps_ret (pe_ix (k_ixT (K := K)) (pe_ix (k_ixT (K := K)) (pv 8) pe_int (fun _ _ => rfl)) (pv 11) (fun _ _ => rfl)))))) pss_nil)
      (pss_cons (ps_if (pt_cmpR op_eq (pv 10) pe_str (nomark _)) (pss_one (ps_ret (pe_ix (k_ixT (K := K)) (pe_ix (k_ixT (K := K)) (pe_ix (k_ixT (K := K)) (pv 8) pe_int (fun _ _ => rfl)) (pe_ix (k_ixT (K := K)) (pv 1) (pv 6) (fun _ _ => rfl)) (fun _ _ => rfl)) (pe_callB ((k_sumL (K := K) rfl)) rfl B.sum_ (by decide +kernel) (pa_cons (pv 7) pa_nil)) (fun _ _ => rfl)))) pss_nil)
      (pss_cons (ps_if (pt_cmpR op_eq (pv 10) pe_str (nomark _)) (pss_one (ps_ret (pe_ix (k_ixT (K := K)) (pv 1) (pv 6) (fun _ _ => rfl)))) pss_nil)
      (pss_cons (ps_if (pt_cmpR (k_inS (K := K)) (pv 10) (pe_tup (pa_cons pe_str (pa_cons pe_str pa_nil))) (by rfl)) (pss_one (ps_ret (pe_ifExp (pt_cmpR op_eq (pv 10) pe_str (nomark _)) (pe_callB ((k_minL (K := K) rfl)) rfl B.min_ (by decide +kernel) (pa_cons (pv 9) pa_nil)) (pe_callB ((k_maxL (K := K) rfl)) rfl B.max_ (by decide +kernel) (pa_cons (pv 9) pa_nil))))) pss_nil)
      (pss_cons (ps_if (pt_cmpR op_eq (pv 10) pe_str (nomark _)) (pss_one (ps_ret (pe_op op_mod (pe_callTy (j_int) rfl B.int_ (by decide +kernel) (pa_cons (pe_callB ((k_sumL (K := K) rfl)) rfl B.sum_ (by decide +kernel) (pa_cons (pv 9) pa_nil)) pa_nil)) (pv 3)))) pss_nil)
      (pss_cons (ps_if (pt_cmpR op_eq (pv 10) pe_str (nomark _)) (pss_one (ps_ret (pe_callTy (j_int) rfl B.int_ (by decide +kernel) (pa_cons (pe_cmpR op_ge (pe_callB (k_len (K := K)) rfl B.len_ (by decide +kernel) (pa_cons (pe_lc (own := [("_law_one_here", 12)]) rfl sc__law_next.nd (kpi_list (K := K) (pv 7)) (blkOk_by (N := ["_law_hall", "_law_state", "_law_place", "_law_k", "_law_web_here", "_law_rules", "_law_at", "_law_others", "_law_rule", "_law_both", "_law_word", "_law_index", "_law_one_here", "_law_other"]) (sc := defScope s__law_next) (by decide +kernel)) (fun _ _ _ _ _ => (pg_name (i := 12) sc__law_next.nd rfl (by first | exact Or.inl rfl | exact Or.inr rfl))) (fun _ _ _ _ _ => pts_one (pt_cmpR op_gt (pv 12) pe_int (nomark _))) (fun _ _ _ _ _ => (pv 12))) pa_nil)) (pe_ix (k_ixT (K := K)) (pv 8) pe_int (fun _ _ => rfl)) (nomark _)) pa_nil)))) pss_nil)
      (pss_one (ps_ret (pe_ix (k_ixT (K := K)) (pv 1) (pe_bmF PySem.F.plainAttrs_tuple PySem.F.slot_tuple_index PySem.F.type_tuple_index (k_tindex (K := K)) (pe_ix (k_ixT (K := K)) (pv 4) pe_int (fun _ _ => rfl)) (pa_cons (pe_ix (k_ixT (K := K)) (pv 8) pe_int (fun _ _ => rfl)) pa_nil)) (fun _ _ => rfl))))))))))))))), ?_⟩
    subst ew
    repeat' (walk_at "jv")
    refine i_bmF ?_
    repeat' (walk_at "jv")
    refine i_tyF fp ?_
    repeat' (walk_at "jv")
    refine i_tix fp.sq hz ?_
    repeat' (walk_at "jv")
    refine ⟨_, z, ps, rs, rfl, hw.dp, W, hz, fun pn H1 npn k1 en => ?_⟩
    have lt := List.idxOf_lt_length_iff.mpr hz
    have nl := near_len W hz
    have nm : ∀ y ∈ nearL ps rs z, y ∈ ps := fun y hy => (List.mem_filter.mp hy).1
    have hk2 : 2 ≤ k ∧ k ≤ 3 := by rcases hH.two with e | e <;> omega
    obtain ⟨T', us, eT, sT, dU⟩ := tup_parts dT
    obtain rfl : T = T' := by injection eT
    have hul : us.length = ps.length := by rw [DpAll.len dU, hH.len]
    have hx : us[ps.idxOf z]? = some us[ps.idxOf z] := List.getElem?_eq_getElem (by omega)
    obtain ⟨d, hd, dx⟩ := DpAll.get dU hx
    have hR := hH.rules (ps.idxOf z) z d (idx_first hz).1 hd
    have hxx : atI us ((ps.idxOf z : Nat) : Int) = some us[ps.idxOf z] := atI_nat hx
    have hown : ownV k ps rs ds t z = nextV k (nearL ps rs z) d (t.getD (ps.idxOf z) 0 :: (nearL ps rs z).map fun y => t.getD (ps.idxOf y) 0) := by
      unfold ownV seenL
      rw [List.getD_eq_getElem?_getD (l := ds), hd, List.map_cons, List.map_map]
      rfl
    have hti : atI (natsV t) ((ps.idxOf z : Nat) : Int) = some (V.int ((t.getD (ps.idxOf z) 0 : Nat) : Int)) := atI_getD (by omega)
    generalize us[ps.idxOf z] = vx at *
    have sw1 := TK.same (K := K) k1 _ _ sw
    have fp1 := fp.same k1
    have st1 := TK.same (K := K) k1 _ _ hs
    repeat' (walk_at "jv")
    refine c_list ((nearL ps rs z).map V.str) (fun D i H' => H1 D = none ∧ Same H1 H' ∧ H' D = some (.lst (natsV (((nearL ps rs z).take i).map fun y => t.getD (ps.idxOf y) 0)))) (fun D nD => ⟨nD, Same.upd_new nD, upd_same⟩) (fun D i H' _ h => sq_lst (h.2.1 _ _ en)) (fun D i x H' hx h => ?_) (fun D H2 h => ?_)
    · obtain ⟨nD, kD, eD⟩ := h
      have hi : i < (nearL ps rs z).length := by
        have := (List.getElem?_eq_some_iff.mp hx).1
        rwa [List.length_map] at this
      rw [List.getElem?_map, List.getElem?_eq_getElem hi] at hx
      obtain rfl : V.str (nearL ps rs z)[i] = x := Option.some.inj hx
      have hm := nm _ (List.getElem_mem hi)
      have s2 := TK.same (K := K) kD _ _ sw1
      have st2 := TK.same (K := K) kD _ _ st1
      repeat' (walk_at "jv")
      refine i_bmF ?_
      repeat' (walk_at "jv")
      refine i_tyF (fp1.same kD) ?_
      repeat' (walk_at "jv")
      refine i_tix (fp1.same kD).sq hm ?_
      refine i_ixT st2 (atI_getD (by rw [hl]; exact List.idxOf_lt_length_iff.mpr hm)) ?_
      refine i_lcE eD (by unfold natsV; rw [List.length_map, List.length_map, List.length_take, sizeLine_eq]; omega) ⟨nD, fun b o z => ?_, ?_⟩
      · rw [upd_ne (fun w => by rw [w, nD] at z; cases z)]
        exact kD _ _ z
      · rw [upd_same, List.take_add_one, List.getElem?_eq_getElem hi]
        unfold natsV
        rw [List.map_append, List.map_append]
        rfl
    obtain ⟨nD, kD, eD⟩ := h
    rw [List.length_map, List.take_length] at eD
    have bnd : ∀ s ∈ t.getD (ps.idxOf z) 0 :: (nearL ps rs z).map fun y => t.getD (ps.idxOf y) 0, s < k := by
      intro s hs
      rcases List.mem_cons.mp hs with rfl | hs
      · exact getD_lt (by omega) hk _
      · obtain ⟨y, _, rfl⟩ := List.mem_map.mp hs
        exact getD_lt (by omega) hk _
    have hlo : ((nearL ps rs z).map fun y => t.getD (ps.idxOf y) 0).length = (nearL ps rs z).length := List.length_map ..
    have k12 := k1.trans kD
    rw [hown] at q
    have hcp : ∀ y ∈ nearL ps rs z, ((nearL ps rs z).map fun y => t.getD (ps.idxOf y) 0).getD ((nearL ps rs z).idxOf y) 0 = t.getD (ps.idxOf y) 0 := by
      intro y hy
      rw [List.getD_eq_getElem?_getD, List.getElem?_map, (idx_first hy).1]
      rfl
    generalize hoth : ((nearL ps rs z).map fun y => t.getD (ps.idxOf y) 0) = oth at *
    generalize hownn : t.getD (ps.idxOf z) 0 = own at *
    have sT2 := TK.same (K := K) k12 _ _ sT
    have st2 := TK.same (K := K) k12 _ _ hs
    have dx2 := Dp.same (K := K) k12 _ _ dx
    have fp2 := fp.same k12
    have sw2 := TK.same (K := K) k12 _ _ sw
    repeat' (walk_at "jv")
    intro p np
    have kp := Same.upd_new (o := .lst [V.int (own : Int)]) np
    have h9 : oth.length ≤ 7 := by omega
    refine i_var rfl ?_
    refine ⟨p, D, _, _, rfl, rfl, upd_same, kp _ _ eD, by unfold natsV; rw [List.length_map, sizeLine_eq]; show 1 + _ ≤ _; omega, fun L nL => ?_⟩
    have kL := Same.upd_new (o := .lst ([V.int (own : Int)] ++ natsV oth)) nL
    have sL : SqL K (upd (upd H2 p (.lst [V.int (own : Int)])) L (.lst ([V.int (own : Int)] ++ natsV oth))) L (natsV (own :: oth)) := sq_lst upd_same
    have kpL := kp.trans kL
    have sD := sq_lst (K := K) (kpL _ _ eD)
    have k5 := k12.trans kpL
    generalize upd (upd H2 p (.lst [V.int (own : Int)])) L (.lst ([V.int (own : Int)] ++ natsV oth)) = H5 at *
    have dx5 := Dp.same (K := K) kpL _ _ dx2
    have st5 := TK.same (K := K) kpL _ _ st2
    have fp5 := fp2.same kpL
    have sw5 := TK.same (K := K) kpL _ _ sw2
    clear sT2 st2 dx2 fp2 sw2 kp kL np nL sT sw1 fp1 st1 en npn dx
    refine i_nil ?_
    refine ⟨_, _, rfl, ?_⟩
    obtain ⟨s0, rest, rfl⟩ := rule_headN hR
    obtain ⟨a, us9, rfl, sa, da⟩ := tup_parts dx5
    obtain ⟨vr, rfl, dr⟩ : ∃ vr, us9 = .str s0 :: vr ∧ DpAll K H5 vr rest := by
      cases da with
      | cons h1 h2 => cases h1; exact ⟨_, rfl, h2⟩
    cases hR with
    | keep =>
      repeat' (walk_at "jv")
      all_goals first
        | (rename_i h; exact absurd h (by decide))
        | exact absurd (rfl : ("keep" : Str) = "keep") (by assumption)
        | (rw [nextV_keep] at q; exact q _ k5)
    | least =>
      repeat' (walk_at "jv")
      all_goals first
        | (rename_i h; exact absurd h (by decide))
        | exact absurd (rfl : ("least" : Str) = "least") (by assumption)
        | skip
      intro pw npw
      have k6 := Same.upd_new (o := .tup [V.str "least", V.str "greatest"]) npw
      have sw6 : SqT K (upd H5 pw (.tup [V.str "least", V.str "greatest"])) pw ((["least", "greatest"] : List Str).map V.str) := sq_tup upd_same
      have k56 := k5.trans k6
      have sa6 := TK.same (K := K) k6 _ _ sa
      have st6 := TK.same (K := K) k6 _ _ st5
      have sL6 := k6.seq sL
      have sD6 := k6.seq sD
      have fp6 := fp5.same k6
      have sx6 := TK.same (K := K) k6 _ _ sw5
      have dr6 := DpAll.same k6 _ _ dr
      clear sa st5 sL sD fp5 sw5 dr da dx5 k5
      generalize upd H5 pw (.tup [V.str "least", V.str "greatest"]) = H6 at *
      refine i_inS (SqA.t sw6) ?_
      rw [decide_eq_true (by decide)]
      repeat' (walk_at "jv")
      all_goals first
        | (rename_i h; exact absurd h (by decide))
        | exact absurd (rfl : ("least" : Str) = "least") (by assumption)
        | skip
      rw [nextV_least] at q
      exact i_minL sL6 (by simp) (q _ k56)
    | greatest =>
      repeat' (walk_at "jv")
      all_goals first
        | (rename_i h; exact absurd h (by decide))
        | exact absurd (rfl : ("greatest" : Str) = "greatest") (by assumption)
        | skip
      intro pw npw
      have k6 := Same.upd_new (o := .tup [V.str "least", V.str "greatest"]) npw
      have sw6 : SqT K (upd H5 pw (.tup [V.str "least", V.str "greatest"])) pw ((["least", "greatest"] : List Str).map V.str) := sq_tup upd_same
      have k56 := k5.trans k6
      have sa6 := TK.same (K := K) k6 _ _ sa
      have st6 := TK.same (K := K) k6 _ _ st5
      have sL6 := k6.seq sL
      have sD6 := k6.seq sD
      have fp6 := fp5.same k6
      have sx6 := TK.same (K := K) k6 _ _ sw5
      have dr6 := DpAll.same k6 _ _ dr
      clear sa st5 sL sD fp5 sw5 dr da dx5 k5
      generalize upd H5 pw (.tup [V.str "least", V.str "greatest"]) = H6 at *
      refine i_inS (SqA.t sw6) ?_
      rw [decide_eq_true (by decide)]
      repeat' (walk_at "jv")
      all_goals first
        | (rename_i h; exact absurd h (by decide))
        | exact absurd (rfl : ("greatest" : Str) = "greatest") (by assumption)
        | skip
      rw [nextV_greatest] at q
      exact i_maxL sL6 (by simp) (q _ k56)
    | odd =>
      repeat' (walk_at "jv")
      all_goals first
        | (rename_i h; exact absurd h (by decide))
        | exact absurd (rfl : ("odd" : Str) = "odd") (by assumption)
        | skip
      intro pw npw
      have k6 := Same.upd_new (o := .tup [V.str "least", V.str "greatest"]) npw
      have sw6 : SqT K (upd H5 pw (.tup [V.str "least", V.str "greatest"])) pw ((["least", "greatest"] : List Str).map V.str) := sq_tup upd_same
      have k56 := k5.trans k6
      have sa6 := TK.same (K := K) k6 _ _ sa
      have st6 := TK.same (K := K) k6 _ _ st5
      have sL6 := k6.seq sL
      have sD6 := k6.seq sD
      have fp6 := fp5.same k6
      have sx6 := TK.same (K := K) k6 _ _ sw5
      have dr6 := DpAll.same k6 _ _ dr
      clear sa st5 sL sD fp5 sw5 dr da dx5 k5
      generalize upd H5 pw (.tup [V.str "least", V.str "greatest"]) = H6 at *
      refine i_inS (SqA.t sw6) ?_
      rw [decide_eq_false (by decide)]
      repeat' (walk_at "jv")
      all_goals first
        | (rename_i h; exact absurd h (by decide))
        | exact absurd (rfl : ("odd" : Str) = "odd") (by assumption)
        | skip
      refine i_sumN sL6 ?_
      repeat' (walk_at "jv")
      have e : (((own :: oth).sum : Nat) : Int) % (k : Int) = (((own :: oth).sum % k : Nat) : Int) := (Int.natCast_emod _ _).symm
      rw [e]
      rw [nextV_odd] at q
      exact q _ k56
    | most n hn9 =>
      obtain rfl : vr = [.int n] := by
        cases dr with
        | cons h1 h2 => cases h1; cases h2; rfl
      repeat' (walk_at "jv")
      all_goals first
        | (rename_i h; exact absurd h (by decide))
        | exact absurd (rfl : ("most" : Str) = "most") (by assumption)
        | skip
      intro pw npw
      have k6 := Same.upd_new (o := .tup [V.str "least", V.str "greatest"]) npw
      have sw6 : SqT K (upd H5 pw (.tup [V.str "least", V.str "greatest"])) pw ((["least", "greatest"] : List Str).map V.str) := sq_tup upd_same
      have k56 := k5.trans k6
      have sa6 := TK.same (K := K) k6 _ _ sa
      have st6 := TK.same (K := K) k6 _ _ st5
      have sL6 := k6.seq sL
      have sD6 := k6.seq sD
      have fp6 := fp5.same k6
      have sx6 := TK.same (K := K) k6 _ _ sw5
      have dr6 := DpAll.same k6 _ _ dr
      clear sa st5 sL sD fp5 sw5 dr da dx5 k5
      generalize upd H5 pw (.tup [V.str "least", V.str "greatest"]) = H6 at *
      refine i_inS (SqA.t sw6) ?_
      rw [decide_eq_false (by decide)]
      repeat' (walk_at "jv")
      all_goals first
        | (rename_i h; exact absurd h (by decide))
        | exact absurd (rfl : ("most" : Str) = "most") (by assumption)
        | skip
      refine c_list (natsV oth) (fun D i H' => H6 D = none ∧ Same H6 H' ∧ H' D = some (.lst (natsV ((oth.take i).filter fun s => decide (s ≠ 0))))) (fun D nD => ⟨nD, Same.upd_new nD, upd_same⟩) (fun D i H' _ h => h.2.1.seq sD6) (fun D i x H' hx h => ?_) (fun D H' h => ?_)
      · obtain ⟨nD, kD, eD⟩ := h
        have hi : i < oth.length := by
          have := (List.getElem?_eq_some_iff.mp hx).1
          unfold natsV at this
          rwa [List.length_map] at this
        unfold natsV at hx
        rw [List.getElem?_map, List.getElem?_eq_getElem hi] at hx
        obtain rfl : V.int ((oth[i] : Nat) : Int) = x := Option.some.inj hx
        have hf : ((oth.take i).filter fun s => decide (s ≠ 0)).length ≤ i := Nat.le_trans (List.length_filter_le _ _) (by rw [List.length_take]; omega)
        have et : ((oth.take (i + 1)).filter fun s => decide (s ≠ 0)) = ((oth.take i).filter fun s => decide (s ≠ 0)) ++ (if oth[i] ≠ 0 then [oth[i]] else []) := by
          rw [List.take_add_one, List.getElem?_eq_getElem hi, List.filter_append]
          congr 1
          by_cases z : oth[i] = 0
          · simp [z]
          · simp [z]
        repeat' (walk_at "jv")
        · rename_i hz
          have hz' : oth[i] ≠ 0 := by omega
          refine i_lcE eD (by unfold natsV; rw [List.length_map, sizeLine_eq]; omega) ⟨nD, fun b o z => ?_, ?_⟩
          · rw [upd_ne (fun w => by rw [w, nD] at z; cases z)]
            exact kD _ _ z
          · rw [upd_same, et, if_pos hz']
            unfold natsV
            rw [List.map_append]
            rfl
        · rename_i hz
          have hz' : ¬ oth[i] ≠ 0 := fun e => hz (by omega)
          rw [if_neg hz', List.append_nil] at et
          exact ⟨nD, kD, by rw [et]; exact eD⟩
      · obtain ⟨nD, kD, eD⟩ := h
        unfold natsV at eD
        rw [List.length_map, List.take_length] at eD
        have sa7 := TK.same (K := K) kD _ _ sa6
        have eq : nextV k (nearL ps rs z) (.tuple [.str "most", .int n]) (own :: oth) = if (n : Int) ≤ ((oth.filter fun s => decide (s ≠ 0)).length : Int) then 1 else 0 := rfl
        refine i_nil ?_
        refine i_lenL (sq_lst eD) ?_
        rw [List.length_map]
        repeat' (walk_at "jv")
        rw [eq] at q
        by_cases hc : (n : Int) ≤ ((oth.filter fun s => decide (s ≠ 0)).length : Int)
        · rw [if_pos hc] at q
          simp only [hc, decide_true, if_true]
          exact q _ (k56.trans kD)
        · rw [if_neg hc] at q
          simp only [hc, decide_false]
          exact q _ (k56.trans kD)
    | copy z2 hz2 =>
      obtain rfl : vr = [.str z2] := by
        cases dr with
        | cons h1 h2 => cases h1; cases h2; rfl
      repeat' (walk_at "jv")
      all_goals first
        | (rename_i h; exact absurd h (by decide))
        | exact absurd (rfl : ("copy" : Str) = "copy") (by assumption)
        | skip
      intro pw npw
      have k6 := Same.upd_new (o := .tup [V.str "least", V.str "greatest"]) npw
      have sw6 : SqT K (upd H5 pw (.tup [V.str "least", V.str "greatest"])) pw ((["least", "greatest"] : List Str).map V.str) := sq_tup upd_same
      have k56 := k5.trans k6
      have sa6 := TK.same (K := K) k6 _ _ sa
      have st6 := TK.same (K := K) k6 _ _ st5
      have sL6 := k6.seq sL
      have sD6 := k6.seq sD
      have fp6 := fp5.same k6
      have sx6 := TK.same (K := K) k6 _ _ sw5
      have dr6 := DpAll.same k6 _ _ dr
      clear sa st5 sL sD fp5 sw5 dr da dx5 k5
      generalize upd H5 pw (.tup [V.str "least", V.str "greatest"]) = H6 at *
      refine i_inS (SqA.t sw6) ?_
      rw [decide_eq_false (by decide)]
      repeat' (walk_at "jv")
      all_goals first
        | (rename_i h; exact absurd h (by decide))
        | exact absurd (rfl : ("copy" : Str) = "copy") (by assumption)
        | skip
      have hz3 := nm _ hz2
      refine i_bmF ?_
      repeat' (walk_at "jv")
      refine i_tyF fp6 ?_
      repeat' (walk_at "jv")
      refine i_tix fp6.sq hz3 ?_
      refine i_ixT st6 (atI_getD (by rw [hl]; exact List.idxOf_lt_length_iff.mpr hz3)) ?_
      have eq : nextV k (nearL ps rs z) (.tuple [.str "copy", .str z2]) (own :: oth) = oth.getD ((nearL ps rs z).idxOf z2) 0 := rfl
      rw [eq, hcp z2 hz2] at q
      exact q _ k56
    | table t9 ht hk9 =>
      obtain ⟨y, rfl, dy⟩ : ∃ y, vr = [y] ∧ Dp K H5 y (intsD t9) := by
        cases dr with
        | cons h1 h2 => cases h2; exact ⟨_, rfl, h1⟩
      obtain ⟨b, us2, rfl, sb, db⟩ := tup_parts (ds := t9.map fun n => PyData.int ((n : Nat) : Int)) dy
      have := nats_of t9 us2 db
      subst this
      have hlt := tabIx_lt bnd
      rw [List.length_cons, hlo, ← ht] at hlt
      repeat' (walk_at "jv")
      all_goals first
        | (rename_i h; exact absurd h (by decide))
        | exact absurd (rfl : ("table" : Str) = "table") (by assumption)
        | skip
      refine i_revL (i_var rfl ⟨L, _, rfl, sL, fun R nR => ?_⟩)
      have kR := Same.upd_new (o := .lst (natsV (own :: oth)).reverse) nR
      have eR : (natsV (own :: oth)).reverse = natsV (own :: oth).reverse := by
        unfold natsV
        rw [List.map_reverse]
      rw [eR] at kR ⊢
      have sR : SqL K (upd H5 R (.lst (natsV (own :: oth).reverse))) R (natsV (own :: oth).reverse) := sq_lst upd_same
      generalize upd H5 R (.lst (natsV (own :: oth).reverse)) = H6 at *
      have sa6 := TK.same (K := K) kR _ _ sa
      have sb6 := TK.same (K := K) kR _ _ sb
      repeat' (walk_at "jv")
      refine f_list (natsV (own :: oth).reverse) (fun i σ H' => ∃ y12, σ = [some (.ref ta), some (.ref st), some (.str z), some (.int k), some (.ref wt), some (.ref T), some (.int ((ps.idxOf z : Nat) : Int)), some (.ref D), some (.ref a), some (.ref L), some (.str "table"), some (.int (numN k ((own :: oth).reverse.take i) : Nat)), y12, none] ∧ H6 = H') ⟨none, rfl, rfl⟩ (fun i σ H' _ h => ?_) (fun i x σ H' hx h => ?_) (fun σ H' h => ?_)
      · obtain ⟨y3, rfl, rfl⟩ := h
        exact sR
      · obtain ⟨y3, rfl, rfl⟩ := h
        generalize (own :: oth).reverse = tt at *
        have hi : i < tt.length := by
          have := (List.getElem?_eq_some_iff.mp hx).1
          unfold natsV at this
          rwa [List.length_map] at this
        unfold natsV at hx
        rw [List.getElem?_map, List.getElem?_eq_getElem hi] at hx
        obtain rfl : V.int ((tt[i] : Nat) : Int) = x := Option.some.inj hx
        have hk3 := hk2.2
        repeat' (walk_at "jv")
        refine ⟨some (.int ((tt[i] : Nat) : Int)), ?_, rfl⟩
        have e : numN k (tt.take (i + 1)) = numN k (tt.take i) * k + tt[i] := by
          rw [List.take_add_one, List.getElem?_eq_getElem hi]
          exact numN_snoc k _ _
        rw [e, Int.natCast_add, Int.natCast_mul]
        rfl
      · obtain ⟨y3, rfl, rfl⟩ := h
        unfold natsV
        rw [List.length_map, List.take_length]
        have ei : numN k (own :: oth).reverse = tabIx k (own :: oth) := rfl
        rw [ei]
        repeat' (walk_at "jv")
        refine i_ixT sb6 (atI_nat (v := V.int ((t9[tabIx k (own :: oth)] : Nat) : Int)) ?_) ?_
        · unfold natsV
          rw [List.getElem?_map, List.getElem?_eq_getElem hlt]
          rfl
        · rw [nextV_table, List.getD_eq_getElem?_getD, List.getElem?_eq_getElem hlt] at q
          exact q _ (k5.trans kR)
    | sum ts ht hk9 =>
      obtain ⟨y, rfl, dy⟩ : ∃ y, vr = [y] ∧ Dp K H5 y (.tuple (ts.map intsD)) := by
        cases dr with
        | cons h1 h2 => cases h2; exact ⟨_, rfl, h1⟩
      obtain ⟨b, us2, rfl, sb, db⟩ := tup_parts (ds := ts.map intsD) dy
      have ho : own < ts.length := by
        rw [ht]
        exact bnd own List.mem_cons_self
      obtain ⟨w1, w2⟩ := hk9 ts[own] (List.getElem_mem ho)
      have hu : us2.length = ts.length := by rw [DpAll.len db, List.length_map]
      have hx2 : us2[own]? = some us2[own] := List.getElem?_eq_getElem (by omega)
      obtain ⟨d, hdd, dx⟩ := DpAll.get db hx2
      rw [List.getElem?_map, List.getElem?_eq_getElem ho] at hdd
      obtain rfl : intsD ts[own] = d := Option.some.inj hdd
      obtain ⟨b2, us3, ex, sb2, db2⟩ := tup_parts (ds := ts[own].map fun n => PyData.int ((n : Nat) : Int)) dx
      have := nats_of _ us3 db2
      subst this
      rw [ex] at hx2
      have hz9 : atI us2 (own : Int) = some (V.ref b2) := atI_nat hx2
      have hsum : oth.sum ≤ oth.length * (k - 1) := sum_le fun s h => by
        have := bnd s (List.mem_cons_of_mem _ h)
        omega
      rw [hlo] at hsum
      have hlt : oth.sum < ts[own].length := by omega
      repeat' (walk_at "jv")
      all_goals first
        | (rename_i h; exact absurd h (by decide))
        | exact absurd (rfl : ("sum" : Str) = "sum") (by assumption)
        | skip
      refine i_sumN sD ?_
      refine i_ixT sb2 (atI_nat (v := V.int ((ts[own][oth.sum] : Nat) : Int)) ?_) ?_
      · unfold natsV
        rw [List.getElem?_map, List.getElem?_eq_getElem hlt]
        rfl
      · rw [nextV_sum, List.getD_eq_getElem?_getD (l := ts), List.getElem?_eq_getElem ho, Option.getD_some, List.getD_eq_getElem?_getD, List.getElem?_eq_getElem hlt] at q
        exact q _ k5
end
end
section
open L2 PySem PySem.Spec PyProof.Rows
abbrev s__law_step : Stmt := topS 61
theorem sc__law_step : FnScope ["_law_hall", "_law_state", "_law_place", "_law_at"] ["_law_hall", "_law_state", "_law_place"] (defScope s__law_step) := ⟨rfl, rfl, rfl, by decide +kernel, rfl, by decide +kernel, by decide +kernel⟩
abbrev s__law_day : Stmt := topS 62
theorem sc__law_day : FnScope ["_law_hall", "_law_order_here", "_law_state", "_law_place"] ["_law_hall", "_law_order_here", "_law_state"] (defScope s__law_day) := ⟨rfl, rfl, rfl, by decide +kernel, rfl, by decide +kernel, by decide +kernel⟩
section
variable {base : Heap} {P : Program} {w : World} {K : PySem.W.Frag} {mg : Str → Option Value}
theorem ok_lstep (D : Dn K mg "_law_step" s__law_step ["_law_hall", "_law_state", "_law_place"]) (B : Bn mg) (C__law_next : Cl P w K mg base 2 "_law_next" ["_law_hall", "_law_state", "_law_place"] (spLNext K)) : Cl P w K mg base 3 "_law_step" ["_law_hall", "_law_state", "_law_place"] (spStepped K) := by
  refine D.cl sc__law_step (fun vs H Q E h => ?_) (fun f cdv A outer s H vs Q E hr h => ?_)
  · obtain ⟨v, s, z, k, ps, rs, ds, t, rfl, _⟩ := h
    rfl
  · obtain ⟨v, st, z, k, ps, rs, ds, t, rfl, hh, hH, hs, hl, hk, hz, q⟩ := h
    obtain ⟨ta, T, wv, ea, sh, hw, dT, uT⟩ := id hh
    obtain ⟨wt, tp, tr, ew, sw, fp, drr⟩ := id hw
    have W := hH.web
    have h8 := W.le8
    refine ⟨_, (pss_cons (ps_set (i := 3) sc__law_step.nd rfl (by first | exact Or.inl rfl | exact Or.inr rfl) (pe_bmF PySem.F.plainAttrs_tuple PySem.F.slot_tuple_index PySem.F.type_tuple_index (k_tindex (K := K)) (pe_ix (k_ixT (K := K)) (pe_ix (k_ixT (K := K)) (pv 0) pe_int (fun _ _ => rfl)) pe_int (fun _ _ => rfl)) (pa_cons (pv 2) pa_nil)))
      (pss_one (ps_ret (pe_op (k_catA (K := K)) (pe_op (k_catA (K := K)) (pe_slice (ksl_tup (K := K)) (pv 1) po_none (po_some (pv 3))) (pe_tup (pa_cons (pe_c C__law_next hr (pa_cons (pv 0) (pa_cons (pv 1) (pa_cons (pv 2) pa_nil)))) pa_nil))) (pe_slice (ksl_tup (K := K)) (pv 1) (po_some (pe_op op_add (pv 3) pe_int)) po_none))))), ?_⟩
    subst ea ew
    repeat' (walk_at "jv")
    refine i_bmF ?_
    repeat' (walk_at "jv")
    refine i_tyF fp ?_
    repeat' (walk_at "jv")
    refine i_tix fp.sq hz ?_
    have lt := List.idxOf_lt_length_iff.mpr hz
    have h9 : (natsV t).length ≤ 8 := by
      unfold natsV
      rw [List.length_map, hl]
      exact h8
    repeat' (walk_at "jv")
    refine i_slG hs fun p5 H5 k5 s5 => ?_
    repeat' (walk_at "jv")
    refine ⟨_, st, z, k, ps, rs, ds, t, rfl, hh.same k5, hH, TK.same k5 _ _ hs, hl, hk, hz, fun H6 k6 => ?_⟩
    repeat' (walk_at "jv")
    intro p7 np7
    have k7 := Same.upd_new (o := .tup [V.int ((ownV k ps rs ds t z : Nat) : Int)]) np7
    have c1 : cutV (natsV t) none (some ((ps.idxOf z : Nat) : Int)) = (natsV t).take (ps.idxOf z) := cut_take
    rw [c1] at s5
    refine i_catA (TK.same (k6.trans k7) _ _ s5) (sq_tup upd_same) (by simp) (by rw [List.length_take, List.length_singleton, sizeLine_eq]; omega) fun p8 H8 k8 s8 => ?_
    have st8 := TK.same (K := K) (k5.trans (k6.trans (k7.trans k8))) _ _ hs
    repeat' (walk_at "jv")
    have c2 : ((ps.idxOf z : Nat) : Int) + 1 = ((ps.idxOf z + 1 : Nat) : Int) := by omega
    rw [c2]
    refine i_slG st8 fun p9 H9 k9 s9 => ?_
    rw [cut_from] at s9
    refine i_catB (TK.same k9 _ _ s8) s9 (by simp) (by rw [List.length_append, List.length_take, List.length_drop, List.length_singleton, sizeLine_eq]; omega) fun pA HA kA sA => ?_
    rw [nats_set (by rw [hl]; exact lt)] at sA
    exact q pA _ (k5.trans (k6.trans (k7.trans (k8.trans (k9.trans kA))))) sA
theorem ok_lday (D : Dn K mg "_law_day" s__law_day ["_law_hall", "_law_order_here", "_law_state"]) (B : Bn mg) (C__law_step : Cl P w K mg base 3 "_law_step" ["_law_hall", "_law_state", "_law_place"] (spStepped K)) : Cl P w K mg base 4 "_law_day" ["_law_hall", "_law_order_here", "_law_state"] (spPassed K) := by
  refine D.cl sc__law_day (fun vs H Q E h => ?_) (fun f cdv A outer s H vs Q E hr h => ?_)
  · obtain ⟨v, o, s, qs, k, ps, rs, ds, t, rfl, _⟩ := h
    rfl
  · obtain ⟨v, o, st, qs, k, ps, rs, ds, t, rfl, hh, hH, ho, pm, hs, hl, hk, q⟩ := h
    refine ⟨_, (pss_cons (ps_for PassesOwn.never rfl (kpi_tup (K := K) (pv 1)) (pg_name (i := 3) sc__law_day.nd rfl (by first | exact Or.inl rfl | exact Or.inr rfl)) (pss_one (ps_set (i := 2) sc__law_day.nd rfl (by first | exact Or.inl rfl | exact Or.inr rfl) (pe_c C__law_step hr (pa_cons (pv 0) (pa_cons (pv 2) (pa_cons (pv 3) pa_nil)))))))
      (pss_one (ps_ret (pv 2)))), ?_⟩
    repeat' (walk_at "jv")
    refine f_tup (qs.map V.str) (fun i σ H' => ∃ p y3, σ = [some v, some (.ref o), some (.ref p), y3] ∧ Same H H' ∧ SqT K H' p (natsV (dayN k ps rs ds t (qs.take i))) ∧ (dayN k ps rs ds t (qs.take i)).length = ps.length ∧ ∀ x ∈ dayN k ps rs ds t (qs.take i), x < k)
      ⟨st, none, rfl, Same.refl _, hs, hl, hk⟩ (fun i σ H' _ h => ?_) (fun i x σ H' hx h => ?_) (fun σ H' h => ?_)
    · obtain ⟨p, y3, rfl, k1, _⟩ := h
      exact TK.same k1 _ _ ho
    · obtain ⟨p, y3, rfl, k1, sp, l1, b1⟩ := h
      have hi : i < qs.length := by
        have := (List.getElem?_eq_some_iff.mp hx).1
        rwa [List.length_map] at this
      rw [List.getElem?_map, List.getElem?_eq_getElem hi] at hx
      obtain rfl : V.str qs[i] = x := Option.some.inj hx
      have hm : qs[i] ∈ ps := pm.mem_iff.mp (List.getElem_mem hi)
      have e : dayN k ps rs ds t (qs.take (i + 1)) = stepN k ps rs ds (dayN k ps rs ds t (qs.take i)) qs[i] := by
        rw [List.take_add_one, List.getElem?_eq_getElem hi]
        unfold dayN
        rw [List.foldl_append]
        rfl
      repeat' (walk_at "jv")
      refine ⟨v, p, qs[i], k, ps, rs, ds, _, rfl, hh.same k1, hH, sp, l1, b1, hm, fun p2 H2 k2 s2 => ?_⟩
      repeat' (walk_at "jv")
      exact ⟨p2, _, rfl, k1.trans k2, by rw [e]; exact s2, by rw [e, step_len]; exact l1, by rw [e]; exact step_lt hH hm b1⟩
    · obtain ⟨p, y3, rfl, k1, sp, l1, b1⟩ := h
      rw [List.length_map, List.take_length] at sp
      repeat' (walk_at "jv")
      exact q p _ k1 sp
end
end
section
open L2 PySem PySem.Spec PyProof.Rows
abbrev s__law_order : Stmt := topS 59
theorem sc__law_order : FnScope ["_law_feed_here", "_law_web_here"] ["_law_feed_here", "_law_web_here"] (defScope s__law_order) := ⟨rfl, rfl, rfl, by decide +kernel, rfl, by decide +kernel, by decide +kernel⟩
def spMixedT (K : PySem.W.Frag) : Sp := fun vs H Q _ => ∃ (a p : Addr) (c : Int) (xs : List V), vs = [.ref a, .ref p] ∧ Fd H a c ∧ SqT K H p xs ∧ xs.length ≤ 1000 ∧ c < 10 ^ 14 ∧
  ∀ (q : Addr) (ys : List V) (H' : Hp), ys.Perm xs → H q = none → H' q = some (.lst ys) → Fd H' a (c + 1000) → Ch a H H' → Q (.ref q) H'
def spOrderF (K : PySem.W.Frag) : Sp := fun vs H Q _ => ∃ (a : Addr) (v : V) (ps : List Str) (rs : List (Str × Str)) (c : Int), vs = [.ref a, v] ∧ Fd H a c ∧ Dp K H v (webD ps rs) ∧ ps.length ≤ 8 ∧ c < 10 ^ 13 ∧
  ∀ (T : Addr) (qs : List Str) (H' : Hp), qs.Perm ps → FT H' T (qs.map V.str) → Fd H' a (c + 1000) → Ch a H H' → Q (.ref T) H'
section
variable {base : Heap} {P : Program} {w : World} {K : PySem.W.Frag} {mg : Str → Option Value}
theorem ok_mixedT (D : Dn K mg "_law_mixed" s__law_mixed ["_law_feed_here", "_law_things"]) (B : Bn mg) (C__law_draw : Cl P w K mg base 1 "_law_draw" ["_law_feed_here", "_law_many"] spDraw) : Cl P w K mg base 2 "_law_mixed" ["_law_feed_here", "_law_things"] (spMixedT K) := by
  refine D.cl sc__law_mixed (fun vs H Q E h => ?_) (fun f cdv A outer s H vs Q E hr h => ?_)
  · obtain ⟨a, p, c, xs, rfl, _⟩ := h
    rfl
  · obtain ⟨a, p, c, xs, rfl, hf, hp, hz, hc, q⟩ := h
    refine ⟨_, (pss_cons (ps_par (i := 2) (j := 3) rfl sc__law_mixed.nd rfl rfl (by decide) rfl rfl (pa_cons (pe_callTy (k_list (K := K)) rfl B.list_ (by decide +kernel) (pa_cons (pv 1) pa_nil)) (pa_cons (pe_lst pa_nil) pa_nil)) (by rfl))
      (pss_cons (ps_for PassesOwn.never rfl (pi_range1 rfl B.range_ (pa_cons (pe_callB (k_len (K := K)) rfl B.len_ (by decide +kernel) (pa_cons (pv 1) pa_nil)) pa_nil)) (pg_name (i := 4) sc__law_mixed.nd rfl (by first | exact Or.inl rfl | exact Or.inr rfl)) (pss_one (ps_expr (pe_bm PySem.F.plainAttrs_list PySem.F.slot_list_append PySem.F.type_list_append mt_append (pv 3) (pa_cons (pe_bm PySem.F.plainAttrs_list PySem.F.slot_list_pop PySem.F.type_list_pop mt_popAt (pv 2) (pa_cons (pe_c C__law_draw hr (pa_cons (pv 0) (pa_cons (pe_callB (k_len (K := K)) rfl B.len_ (by decide +kernel) (pa_cons (pv 2) pa_nil)) pa_nil))) pa_nil)) pa_nil)))))
      (pss_one (ps_ret (pv 3))))), ?_⟩
    repeat' (walk_at "jv")
    intro L nL
    have nLa := hf.ne nL
    repeat' (walk_at "jv")
    intro G nG
    have nGL : G ≠ L := by walk_at "jn"
    have nG0 : H G = none := Ch.free (a := a) (by walk_at "jh") (by walk_at "jn") nG
    have nGa := hf.ne nG0
    have hp2 : SqT K (upd (upd H L (.lst xs)) G (.lst [])) p xs := (TK.new (K := K) nG) _ _ ((TK.new (K := K) nL) _ _ hp)
    repeat' (walk_at "jv")
    refine f_range (fun i σ H' => ∃ y4 pool gs, σ = [some (.ref a), some (.ref p), some (.ref L), some (.ref G), y4] ∧ H' L = some (.lst pool) ∧ H' G = some (.lst gs) ∧ (gs ++ pool).Perm xs ∧ gs.length = i ∧ Fd H' a (c + i) ∧ Ch a H H') ⟨none, xs, [], rfl, ?_, ?_, List.Perm.refl _, rfl, ?_, ?_⟩ (fun i σ H' hi h => ?_) (fun σ H' h => ?_)
    · walk_at "jl"
    · walk_at "jl"
    · exact Fd.mono (c := c) (by walk_at "jf") (by omega)
    · walk_at "jh"
    · obtain ⟨y4, pool, gs, rfl, h1, h2, h3, h4, h5, h6⟩ := h
      have hl := h3.length_eq
      rw [List.length_append] at hl
      repeat' (walk_at "jv")
      refine ⟨a, pool.length, c + i, rfl, h5, by omega, by omega, by omega, fun r H1 r0 r1 f1 k1 => ?_⟩
      obtain ⟨k, rfl⟩ := Int.eq_ofNat_of_zero_le r0
      have hk : k < pool.length := by omega
      repeat' (walk_at "jv")
      refine i_popAt (xs := pool) (by walk_at "jl") (by omega) (List.getElem?_eq_getElem hk) ?_
      repeat' (walk_at "jv")
      refine ⟨_, _, _, rfl, by walk_at "jl", by walk_at "jl", ?_, ?_, ?_, by walk_at "jh"⟩
      · rw [List.append_assoc]
        exact (List.Perm.append_left gs (perm_erase pool k hk)).trans h3
      · rw [List.length_append, h4]
        rfl
      · exact Fd.mono (c := c + i + 1) (by walk_at "jf") (by omega)
    · obtain ⟨y4, pool, gs, rfl, h1, h2, h3, h4, h5, h6⟩ := h
      repeat' (walk_at "jv")
      have hl := h3.length_eq
      rw [List.length_append] at hl
      have e0 : pool = [] := List.eq_nil_of_length_eq_zero (by omega)
      rw [e0, List.append_nil] at h3
      exact q G gs H' h3 nG0 h2 (h5.mono (by omega)) h6
theorem ok_orderF (D : Dn K mg "_law_order" s__law_order ["_law_feed_here", "_law_web_here"]) (B : Bn mg) (C__law_mixed : Cl P w K mg base 2 "_law_mixed" ["_law_feed_here", "_law_things"] (spMixedT K)) :
    Cl P w K mg base 3 "_law_order" ["_law_feed_here", "_law_web_here"] (spOrderF K) := by
  refine D.cl sc__law_order (fun vs H Q E h => ?_) (fun f cdv A outer s H vs Q E hr h => ?_)
  · obtain ⟨a, v, ps, rs, c, rfl, _⟩ := h
    rfl
  · obtain ⟨a, v, ps, rs, c, rfl, hf, hd, hl, hc, q⟩ := h
    obtain ⟨t, tp, tr, xs, rfl, s1, s2, s3, d3, dr, dpl⟩ := web_parts hd
    refine ⟨_, (pss_one (ps_ret (pe_callTy (k_tupleF (K := K)) rfl B.tuple_ (by decide +kernel) (pa_cons (pe_c C__law_mixed hr (pa_cons (pv 0) (pa_cons (pe_ix (k_ixT (K := K)) (pv 1) pe_int (fun _ _ => rfl)) pa_nil))) pa_nil)))), ?_⟩
    repeat' (walk_at "jv")
    refine ⟨a, tp, c, ps.map V.str, rfl, hf, s2, by rw [List.length_map]; omega, by omega, fun G ys H1 pm nG eG f1 k1 => ?_⟩
    obtain ⟨es, pe2, dz⟩ := DpAll.perm pm (DpAll.strs (K := K) (H := H1) ps)
    obtain ⟨qs, pq, rfl⟩ := perm_map_inv pe2 rfl
    have ez := DpAll.strs_inv dz
    subst ez
    refine i_nil ?_
    refine ⟨G, _, rfl, sq_lst eG, fun T ob nT ok => ?_⟩
    exact q T qs _ pq (FT.new ok) (f1.upd (Ne.symm (f1.ne nT))) (k1.trans (Ch.upd_new nT))
end
end
section
open L2 PySem PySem.Spec PyProof.Rows
abbrev s__law_any_web : Stmt := topS 65
theorem sc__law_any_web : FnScope ["_law_feed_here", "_law_most"] ["_law_feed_here", "_law_most"] (defScope s__law_any_web) := ⟨rfl, rfl, rfl, by decide +kernel, rfl, by decide +kernel, by decide +kernel⟩
def spWideWebF (K : PySem.W.Frag) : Sp := fun vs H Q _ => ∃ (a : Addr) (most c : Int), vs = [.ref a, .int most] ∧ Fd H a c ∧ 1 ≤ most ∧ most ≤ 8 ∧ c < 10 ^ 13 ∧
  ∀ (v : V) (ps : List Str) (rs : List (Str × Str)) (H' : Hp), IsWeb ps rs → (ps.length : Int) ≤ max 3 most → WF K H' v ps rs → Fd H' a (c + 10000) → Ch a H H' → Q v H'
def spAnyWebF (K : PySem.W.Frag) : Sp := fun vs H Q _ => ∃ (a : Addr) (most c : Int), vs = [.ref a, .int most] ∧ Fd H a c ∧ 1 ≤ most ∧ most ≤ 8 ∧ c < 10 ^ 12 ∧
  ∀ (v : V) (ps : List Str) (rs : List (Str × Str)) (H' : Hp), IsWeb ps rs → (ps.length : Int) ≤ max 3 most → WF K H' v ps rs → Fd H' a (c + 20000) → Ch a H H' → Q v H'
section
variable {base : Heap} {P : Program} {w : World} {K : PySem.W.Frag} {mg : Str → Option Value}
theorem ok_any_web (D : Dn K mg "_law_any_web" s__law_any_web ["_law_feed_here", "_law_most"]) (B : Bn mg) (C__law_draw : Cl P w K mg base 1 "_law_draw" ["_law_feed_here", "_law_many"] spDraw)
    (C__law_one : Cl P w K mg base 2 "_law_one" ["_law_feed_here", "_law_things"] (spOne K)) (C__law_web : Cl P w K mg base 4 "_law_web" ["_law_feed_here", "_law_way", "_law_most"] (spWebF K))
    (C__law_wide_web : Cl P w K mg base 4 "_law_wide_web" ["_law_feed_here", "_law_most"] (spWideWebF K)) : Cl P w K mg base 5 "_law_any_web" ["_law_feed_here", "_law_most"] (spAnyWebF K) := by
  refine D.cl sc__law_any_web (fun vs H Q E h => ?_) (fun f cdv A outer s H vs Q E hr h => ?_)
  · obtain ⟨a, m, c, rfl, _⟩ := h
    rfl
  · obtain ⟨a, m, c, rfl, hf, hm1, hm8, hc, q⟩ := h
    refine ⟨_, (pss_cons (ps_if (pt_cmpR op_eq (pe_c C__law_draw hr (pa_cons (pv 0) (pa_cons pe_int pa_nil))) pe_int (nomark _)) (pss_one (ps_ret (pe_c C__law_wide_web hr (pa_cons (pv 0) (pa_cons (pv 1) pa_nil))))) pss_nil)
      (pss_one (ps_ret (pe_c C__law_web hr (pa_cons (pv 0) (pa_cons (pe_c C__law_one hr (pa_cons (pv 0) (pa_cons (pe_lst (pa_cons pe_str (pa_cons pe_str (pa_cons pe_str (pa_cons pe_str pa_nil))))) pa_nil))) (pa_cons (pv 1) pa_nil))))))), ?_⟩
    repeat' (walk_at "jv")
    refine ⟨a, 2, c, rfl, hf, by omega, by omega, by omega, fun r H1 r0 r1 f1 k1 => ?_⟩
    repeat' (walk_at "jv")
    · refine ⟨a, m, c + 1, rfl, f1, hm1, hm8, by omega, fun v ps rs H2 W hb d f2 k2 => q v ps rs H2 W hb d (f2.mono (by omega)) (k1.trans k2)⟩
    · intro L nL
      refine i_nil ?_
      refine ⟨a, L, c + 1, (["tree", "ring", "whole", "any"] : List Str).map V.str, rfl, f1.upd (Ne.symm (f1.ne nL)), SqA.l (sq_lst upd_same), f1.ne nL, by decide, by decide, by omega, fun v H2 hv f2 k2 => ?_⟩
      obtain ⟨z, _, rfl⟩ := List.mem_map.mp hv
      repeat' (walk_at "jv")
      refine ⟨a, z, m, c + 1 + 1, rfl, f2, hm1, hm8, by omega, fun v ps rs H3 W hb d f3 k3 => q v ps rs H3 W hb d (f3.mono (by omega)) ((k1.trans (Ch.upd_new nL)).trans (k2.trans k3))⟩
end
end
section
open L2 PySem PySem.Spec PyProof.Rows
abbrev s__law_wide_web : Stmt := topS 64
theorem sc__law_wide_web : FnScope ["_law_feed_here", "_law_most", "_law_many", "_law_pairs", "_law_names_here", "_law_at", "_law_roads", "_law_one_here", "_law_other", "_law_to"] ["_law_feed_here", "_law_most"] (defScope s__law_wide_web) := ⟨rfl, rfl, rfl, by decide +kernel, rfl, by decide +kernel, by decide +kernel⟩
def nm (ns : List Str) (i : Nat) : Str := ns.getD i Str.empty
def pd (ns : List Str) (p : Nat × Nat) : PyData := roadD (nm ns p.2, nm ns p.1)
theorem nm_at {ns : List Str} {k : Nat} (h : k < ns.length) : ns[k]? = some (nm ns k) := by
  unfold nm
  rw [List.getD_eq_getElem?_getD, List.getElem?_eq_getElem h]
  rfl
theorem nm_ix {ns : List Str} {k : Nat} (h : k < ns.length) : atI (ns.map V.str) (k : Int) = some (.str (nm ns k)) := atI_nat (by rw [List.getElem?_map, nm_at h]; rfl)
theorem pd_only (ns : List Str) : ∀ pl : List (Nat × Nat), tupOnlyAll (pl.map (pd ns)) = true
  | [] => rfl
  | p :: pl => by
    show (tupOnly (pd ns p) && tupOnlyAll (pl.map (pd ns))) = true
    rw [pd_only ns pl]
    rfl
section
variable {base : Heap} {P : Program} {w : World} {K : PySem.W.Frag} {mg : Str → Option Value}
theorem ok_wide_web (D : Dn K mg "_law_wide_web" s__law_wide_web ["_law_feed_here", "_law_most"]) (B : Bn mg) (C__law_draw : Cl P w K mg base 1 "_law_draw" ["_law_feed_here", "_law_many"] spDraw)
    (C__law_mixed : Cl P w K mg base 2 "_law_mixed" ["_law_feed_here", "_law_things"] (spMixed K)) (C__law_names : Cl P w K mg base 3 "_law_names" ["_law_feed_here", "_law_many"] spNames) :
    Cl P w K mg base 4 "_law_wide_web" ["_law_feed_here", "_law_most"] (spWideWebF K) := by
  refine D.cl sc__law_wide_web (fun vs H Q E h => ?_) (fun f cdv A outer s H vs Q E hr h => ?_)
  · obtain ⟨a, m, c, rfl, _⟩ := h
    rfl
  · obtain ⟨a, m, c, rfl, hf, hm1, hm8, hc, q⟩ := h
    refine ⟨_, (pss_cons (ps_par (i := 2) (j := 3) rfl sc__law_wide_web.nd rfl rfl (by decide) rfl rfl (pa_cons (pe_op op_add pe_int (pe_c C__law_draw hr (pa_cons (pv 0) (pa_cons (pv 1) pa_nil)))) (pa_cons (pe_lst pa_nil) pa_nil)) (by rfl))
      (pss_cons (ps_set (i := 4) sc__law_wide_web.nd rfl (by first | exact Or.inl rfl | exact Or.inr rfl) (pe_c C__law_names hr (pa_cons (pv 0) (pa_cons (pv 2) pa_nil))))
      (pss_cons (ps_for PassesOwn.never rfl (pi_range1 rfl B.range_ (pa_cons (pv 2) pa_nil)) (pg_name (i := 5) sc__law_wide_web.nd rfl (by first | exact Or.inl rfl | exact Or.inr rfl)) (pss_one (ps_expr (pe_bm PySem.F.plainAttrs_list PySem.F.slot_list_extend PySem.F.type_list_extend mt_extend (pv 3) (pa_cons (pe_lc (own := [("_law_to", 9)]) rfl sc__law_wide_web.nd (pi_range1 rfl B.range_ (pa_cons (pv 5) pa_nil)) (blkOk_by (N := ["_law_feed_here", "_law_most", "_law_many", "_law_pairs", "_law_names_here", "_law_at", "_law_roads", "_law_one_here", "_law_other", "_law_to"]) (sc := defScope s__law_wide_web) (by decide +kernel)) (fun _ _ _ _ _ => (pg_name (i := 9) sc__law_wide_web.nd rfl (by first | exact Or.inl rfl | exact Or.inr rfl))) (fun _ _ _ _ _ => pts_nil) (fun _ _ _ _ _ => (pe_tup (pa_cons (pe_ix (k_ixL (K := K)) (pv 4) (pv 5) (fun _ _ => rfl)) (pa_cons (pe_ix (k_ixL (K := K)) (pv 4) (pv 9) (fun _ _ => rfl)) pa_nil))))) pa_nil)))))
      (pss_cons (ps_set (i := 6) sc__law_wide_web.nd rfl (by first | exact Or.inl rfl | exact Or.inr rfl) (pe_slice (k_slL (K := K)) (pe_c C__law_mixed hr (pa_cons (pv 0) (pa_cons (pv 3) pa_nil))) po_none (po_some (pe_c C__law_draw hr (pa_cons (pv 0) (pa_cons (pe_op op_add (pe_callB (j_min rfl) rfl B.min_ (by decide +kernel) (pa_cons pe_int (pa_cons (pe_callB (k_len (K := K)) rfl B.len_ (by decide +kernel) (pa_cons (pv 3) pa_nil)) pa_nil))) pe_int) pa_nil))))))
      (pss_cons (ps_setLc (i := 6) (own := [("_law_one_here", 7), ("_law_other", 8)]) rfl sc__law_wide_web.nd rfl rfl (sw_true rfl rfl rfl (by decide +kernel)) (kpi_list (K := K) (pv 6)) (blkOk_by (N := ["_law_feed_here", "_law_most", "_law_many", "_law_pairs", "_law_names_here", "_law_at", "_law_roads", "_law_one_here", "_law_other", "_law_to"]) (sc := defScope s__law_wide_web) (by decide +kernel)) (fun _ _ _ _ _ => (kpg_tup (K := K) (n := 2) rfl (pgs_cons (pg_name (i := 7) sc__law_wide_web.nd rfl (by first | exact Or.inl rfl | exact Or.inr rfl)) (pgs_cons (pg_name (i := 8) sc__law_wide_web.nd rfl (by first | exact Or.inl rfl | exact Or.inr rfl)) pgs_nil)))) (fun _ _ _ _ _ => pts_nil) (fun _ _ _ _ _ => (pe_ifExp (pt_cmpR op_eq (pe_c C__law_draw hr (pa_cons (pv 0) (pa_cons pe_int pa_nil))) pe_int (nomark _)) (pe_tup (pa_cons (pv 8) (pa_cons (pv 7) pa_nil))) (pe_tup (pa_cons (pv 7) (pa_cons (pv 8) pa_nil))))))
      (pss_one (ps_ret (pe_tup (pa_cons (pe_callTy (k_tupleF (K := K)) rfl B.tuple_ (by decide +kernel) (pa_cons (pe_c C__law_mixed hr (pa_cons (pv 0) (pa_cons (pv 4) pa_nil))) pa_nil)) (pa_cons (pe_callTy (k_tuple (K := K)) rfl B.tuple_ (by decide +kernel) (pa_cons (pv 6) pa_nil)) pa_nil)))))))))), ?_⟩
    repeat' (walk_at "jv")
    refine ⟨a, m, c, rfl, hf, by omega, by omega, by omega, fun r1 H1 r10 r11 f1 k1 => ?_⟩
    obtain ⟨m1, rfl⟩ := Int.eq_ofNat_of_zero_le r10
    have en : (1 : Int) + (m1 : Int) = ((1 + m1 : Nat) : Int) := by omega
    refine i_rI0 ?_
    rw [en]
    have hn : 1 ≤ 1 + m1 ∧ 1 + m1 ≤ 8 := by omega
    have hnm : ((1 + m1 : Nat) : Int) ≤ m := by omega
    generalize 1 + m1 = n at *
    repeat' (walk_at "jv")
    intro L nL
    have nLa := f1.ne nL
    have nL0 : H L = none := k1.free nLa nL
    repeat' (walk_at "jv")
    refine ⟨a, n, c + 1, rfl, f1.upd (Ne.symm nLa), by omega, by omega, by omega, fun G ns H2 hns hl nG eG f2 k2 => ?_⟩
    have eL : H2 L = some (.lst []) := k2 L _ nLa upd_same
    have k20 : Ch a H H2 := (k1.upd_n nL).trans k2
    have nG1 : upd H1 L (.lst []) G = none := nG
    have nGa : G ≠ a := (f1.upd (q := L) (o := .lst []) (Ne.symm nLa)).ne nG
    have nG0 : H G = none := (k1.upd_n nL).free nGa nG
    have nGL : L ≠ G := ne_of_none (H := upd H1 L (.lst [])) upd_same nG
    have hln : ns.length = n := by omega
    repeat' (walk_at "jv")
    have en' : ((n : Int)).toNat = n := by omega
    refine f_range (fun i σ H' => ∃ y5 pl, σ = [some (.ref a), some (.int m), some (.int n), some (.ref L), some (.ref G), y5, none, none, none, none] ∧ LsD K H' L (pl.map (pd ns)) ∧ H' G = some (.lst (ns.map V.str)) ∧ pl.Nodup ∧ (∀ p ∈ pl, p.1 < p.2 ∧ p.2 < i) ∧ pl.length ≤ 8 * i ∧ Fd H' a (c + 1001) ∧ Ch a H H')
      ⟨none, [], rfl, LsD.nil eL, eG, List.nodup_nil, fun _ z => absurd z List.not_mem_nil, Nat.zero_le _, f2.mono (by omega), k20⟩ (fun i σ H5 hi h => ?_) (fun σ H5 h => ?_)
    · obtain ⟨y5, pl, rfl, ⟨vs, e5, d5, t5⟩, eG5, h1, h2, h3, f5, k5⟩ := h
      have hlen : vs.length = pl.length := by rw [DpAll.len d5, List.length_map]
      have e1 : (0 + (i : Int)) = (i : Int) := by omega
      rw [e1]
      rw [en'] at hi
      repeat' (walk_at "jv")
      refine c_range (fun D j H' => G ≠ D ∧ D ≠ L ∧ D ≠ a ∧ H D = none ∧ H' L = some (.lst vs) ∧ H' G = some (.lst (ns.map V.str)) ∧ DpAll K H' vs (pl.map (pd ns)) ∧ LsD K H' D (((List.range j).map fun b => (b, i)).map (pd ns)) ∧ Fd H' a (c + 1001) ∧ Ch a H H')
        (fun D nD => ⟨ne_of_none eG5 nD, (ne_of_none e5 nD).symm, f5.ne nD, k5.free (f5.ne nD) nD, (upd_ne (ne_of_none e5 nD)).trans e5, (upd_ne (ne_of_none eG5 nD)).trans eG5, DpAll.tk (TK.new nD) _ _ t5 d5, LsD.nil upd_same, by walk_at "jf", by walk_at "jh"⟩) (fun D j H6 hj h => ?_) (fun D H6 h => ?_)
      · obtain ⟨nGD, g1, g2, g3, g4, gG, g5, ⟨us, g6, g7, g8⟩, g9, g10⟩ := h
        have hul : us.length = j := by rw [DpAll.len g7, List.length_map, List.length_map, List.length_range]
        have e0 : (0 : Int) + (j : Int) = (j : Int) := by omega
        have hji : j < i := by omega
        have hj1 : j < ns.length := by omega
        have hi1 : i < ns.length := by omega
        rw [e0]
        repeat' (walk_at "jv")
        refine i_ixL (sq_lst gG) (nm_ix hi1) ?_
        repeat' (walk_at "jv")
        refine i_ixL (sq_lst gG) (nm_ix hj1) ?_
        repeat' (walk_at "jv")
        intro p3 np3
        have npD : D ≠ p3 := ne_of_none g6 np3
        have npL3 : L ≠ p3 := ne_of_none g4 np3
        have npG3 : G ≠ p3 := ne_of_none gG np3
        repeat' (walk_at "jv")
        have hu8 : us.length < sizeLine := by rw [sizeLine_eq]; omega
        have nDG : G ≠ D := nGD
        refine ⟨nGD, g1, g2, g3, ?_, ?_, ?_, ?_, ?_, ?_⟩
        · rw [upd_ne g1.symm, upd_ne npL3]
          exact g4
        · rw [upd_ne nDG, upd_ne npG3]
          exact gG
        · exact DpAll.tk ((TK.new np3).trans (TK.lst (xs := us) ((upd_ne npD).trans g6))) _ _ t5 g5
        · rw [List.range_succ, List.map_append, List.map_append]
          exact LsD.push2 g6 g7 g8 np3 (.str (nm ns i)) (.str (nm ns j)) rfl rfl
        · exact (g9.upd (Ne.symm (g9.ne np3))).upd g2.symm
        · exact (g10.upd_n np3).upd_l g3
      · obtain ⟨nGD, g1, g2, g3, g4, gG, g5, ⟨us, g6, g7, g8⟩, g9, g10⟩ := h
        have ei : (((i : Nat) : Int).toNat) = i := by omega
        rw [ei] at g7 g8
        have hul : us.length = i := by rw [DpAll.len g7, List.length_map, List.length_map, List.length_range]
        repeat' (walk_at "jv")
        refine i_ext g4 g6 (by rw [sizeLine_eq]; omega) ?_
        repeat' (walk_at "jv")
        refine ⟨_, pl ++ (List.range i).map fun b => (b, i), rfl, ?_, ?_, ?_, ?_, ?_, ?_, ?_⟩
        · rw [List.map_append]
          exact LsD.ext g4 g5 t5 g7 g8
        · rw [upd_ne nGL.symm]
          exact gG
        · refine List.nodup_append.mpr ⟨h1, ?_, fun x hx y hy => ?_⟩
          · refine List.Pairwise.map _ ?_ (List.nodup_range (n := i))
            intro x y hxy e
            exact hxy (Prod.mk.inj e).1
          · obtain ⟨b, _, rfl⟩ := List.mem_map.mp hy
            intro z
            have := (h2 x hx).2
            rw [z] at this
            simp at this
        · intro p hp
          rcases List.mem_append.mp hp with hp | hp
          · have := h2 p hp
            exact ⟨this.1, by omega⟩
          · obtain ⟨b, hb, rfl⟩ := List.mem_map.mp hp
            have := List.mem_range.mp hb
            exact ⟨by show b < i; omega, Nat.lt_succ_self _⟩
        · rw [List.length_append, List.length_map, List.length_range]
          omega
        · exact g9.upd (fun z => by rw [z] at nLa; exact nLa rfl)
        · exact g10.upd_l nL0
    · obtain ⟨y5, pl, rfl, ⟨vs, e5, d5, t5⟩, eG5, h1, h2, h3, f5, k5⟩ := h
      rw [en'] at h2 h3
      have hlen : vs.length = pl.length := by rw [DpAll.len d5, List.length_map]
      repeat' (walk_at "jv")
      refine ⟨a, L, c + 1001, vs, rfl, f5, SqA.l (sq_lst e5), nLa, by omega, by omega, fun q8 zs8 HB pm n8 e8 f8 k8 => ?_⟩
      obtain ⟨es, pe, dy⟩ := DpAll.perm pm d5
      obtain ⟨pl0, pp, rfl⟩ := perm_map_inv pe rfl
      have n8a : q8 ≠ a := f5.ne n8
      have eGB : HB G = some (.lst (ns.map V.str)) := k8 G _ nGa eG5
      have eLB : HB L = some (.lst vs) := k8 L _ nLa e5
      have dyB : DpAll K HB zs8 (pl0.map (pd ns)) := DpAll.tk (TK.ch k8 f5) _ _ (pd_only ns pl0) dy
      have hz8 : zs8.length = pl0.length := by rw [DpAll.len dyB, List.length_map]
      repeat' (walk_at "jv")
      obtain ⟨most, emost, hm14⟩ : ∃ most : Nat, min (14 : Int) (vs.length : Int) = most ∧ most ≤ 14 := ⟨min 14 vs.length, by omega, by omega⟩
      refine ⟨a, (most : Int) + 1, c + 2001, by rw [emost]; rfl, f8.mono (by omega), by omega, by omega, by omega, fun x H8 x0 x1 f9 k9 => ?_⟩
      obtain ⟨cnt, rfl⟩ := Int.eq_ofNat_of_zero_le x0
      have e8' : H8 q8 = some (.lst zs8) := k9 q8 _ n8a e8
      have eG8 : H8 G = some (.lst (ns.map V.str)) := k9 G _ nGa eGB
      have dy8 : DpAll K H8 zs8 (pl0.map (pd ns)) := DpAll.tk (TK.ch k9 f8) _ _ (pd_only ns pl0) dyB
      have k80 : Ch a H H8 := (k5.trans k8).trans k9
      repeat' (walk_at "jv")
      intro q9 n9
      have n9a : q9 ≠ a := f9.ne n9
      rw [cut_take]
      have dy90 : DpAll K H8 (zs8.take cnt) ((pl0.take cnt).map (pd ns)) := by
        rw [List.map_take]
        exact DpAll.take cnt dy8
      have nd' : (pl0.take cnt).Nodup := (pp.nodup_iff.mpr h1).sublist (List.take_sublist _ _)
      have lt' : ∀ p ∈ pl0.take cnt, p.1 < p.2 ∧ p.2 < n := fun p hp => h2 p (pp.mem_iff.mp (List.mem_of_mem_take hp))
      have hl14 : (pl0.take cnt).length ≤ 14 := by rw [List.length_take]; omega
      generalize pl0.take cnt = pl' at dy90 nd' lt' hl14
      generalize zs8.take cnt = ys at dy90
      have e9 : (upd H8 q9 (.lst ys)) q9 = some (.lst ys) := upd_same
      have dy9 : DpAll K (upd H8 q9 (.lst ys)) ys (pl'.map (pd ns)) := DpAll.tk (TK.new n9) _ _ (pd_only ns pl') dy90
      have eG9 : (upd H8 q9 (.lst ys)) G = some (.lst (ns.map V.str)) := (upd_ne (ne_of_none eG8 n9)).trans eG8
      have k90 : Ch a H (upd H8 q9 (.lst ys)) := k80.upd_n n9
      have f9' : Fd (upd H8 q9 (.lst ys)) a (c + 2002) := (f9.upd n9a.symm).mono (by omega)
      have hys : ys.length = pl'.length := by rw [DpAll.len dy90, List.length_map]
      generalize upd H8 q9 (.lst ys) = H9 at *
      repeat' (walk_at "jv")
      refine c_list ys (fun D i H' => H D = none ∧ D ≠ a ∧ D ≠ q9 ∧ D ≠ G ∧ H' q9 = some (.lst ys) ∧ H' G = some (.lst (ns.map V.str)) ∧ DpAll K H' ys (pl'.map (pd ns)) ∧ (∃ rs : List (Str × Str), LsD K H' D (rs.map roadD) ∧ rs.length = i ∧ ∀ (k : Nat) p x, pl'[k]? = some p → rs[k]? = some x → RoadOf ns p x) ∧ Fd H' a (c + 2002 + i) ∧ Ch a H H')
        (fun D nD => ⟨k90.free (f9'.ne nD) nD, f9'.ne nD, (ne_of_none e9 nD).symm, (ne_of_none eG9 nD).symm, (upd_ne (ne_of_none e9 nD)).trans e9, (upd_ne (ne_of_none eG9 nD)).trans eG9, DpAll.tk (TK.new nD) _ _ (pd_only ns pl') dy9, ⟨[], LsD.nil upd_same, rfl, fun k p x _ z => by simp at z⟩, by simpa using f9'.upd (Ne.symm (f9'.ne nD)), k90.upd_n nD⟩)
        (fun D i H' _ h => sq_lst h.2.2.2.2.1) (fun D i x H' hx h => ?_) (fun D H' h => ?_)
      · obtain ⟨nD, nDa, nD9, nDG, g1, g2, g3, ⟨rs, ⟨ws, ew, dw, tw⟩, hrs, hro⟩, g5, g6⟩ := h
        have hws : ws.length = rs.length := by rw [DpAll.len dw, List.length_map]
        obtain ⟨d, hd, dx⟩ := DpAll.get g3 hx
        have hi : i < ys.length := (List.getElem?_eq_some_iff.mp hx).1
        have hip : i < pl'.length := by omega
        rw [List.getElem?_map, List.getElem?_eq_getElem hip] at hd
        have hd' : pd ns pl'[i] = d := Option.some.inj hd
        subst hd'
        obtain ⟨p1, p2⟩ := lt' pl'[i] (List.getElem_mem hip)
        have a1 : ns[pl'[i].1]? = some (nm ns pl'[i].1) := nm_at (by omega)
        have a2 : ns[pl'[i].2]? = some (nm ns pl'[i].2) := nm_at (by omega)
        generalize hz1 : nm ns pl'[i].1 = z1 at a1
        generalize hz2 : nm ns pl'[i].2 = z2 at a2
        unfold pd at dx
        rw [hz1, hz2] at dx
        cases dx with
        | tup hs ha =>
          rename_i b xs
          cases ha with
          | cons u1 u2 =>
            cases u1
            cases u2 with
            | cons u3 u4 =>
              cases u3
              cases u4
              have push : ∀ (H5 : Hp) (p : Addr) (x : Str × Str), RoadOf ns pl'[i] x → H5 p = none → Ch a H' H5 → Fd H5 a (c + 2002 + i + 1) → ws.length < sizeLine ∧ H5 D = some (.lst ws) ∧ D ≠ p ∧
                  (H D = none ∧ D ≠ a ∧ D ≠ q9 ∧ D ≠ G ∧ (upd (upd H5 p (.tup [.str x.1, .str x.2])) D (.lst (ws ++ [.ref p]))) q9 = some (.lst ys) ∧ (upd (upd H5 p (.tup [.str x.1, .str x.2])) D (.lst (ws ++ [.ref p]))) G = some (.lst (ns.map V.str)) ∧ DpAll K (upd (upd H5 p (.tup [.str x.1, .str x.2])) D (.lst (ws ++ [.ref p]))) ys (pl'.map (pd ns)) ∧
                    (∃ rs : List (Str × Str), LsD K (upd (upd H5 p (.tup [.str x.1, .str x.2])) D (.lst (ws ++ [.ref p]))) D (rs.map roadD) ∧ rs.length = i + 1 ∧ ∀ (k : Nat) p x, pl'[k]? = some p → rs[k]? = some x → RoadOf ns p x) ∧ Fd (upd (upd H5 p (.tup [.str x.1, .str x.2])) D (.lst (ws ++ [.ref p]))) a (c + 2002 + ((i + 1 : Nat) : Int)) ∧ Ch a H (upd (upd H5 p (.tup [.str x.1, .str x.2])) D (.lst (ws ++ [.ref p])))) := by
                intro H5 p x rx np k5 f5
                have e5D : H5 D = some (.lst ws) := k5 D _ nDa ew
                have e59 : H5 q9 = some (.lst ys) := k5 q9 _ n9a g1
                have e5G : H5 G = some (.lst (ns.map V.str)) := k5 G _ nGa g2
                have t5 : TK K H' H5 := TK.ch k5 g5
                have d5w := DpAll.tk t5 _ _ tw dw
                have npD : D ≠ p := ne_of_none e5D np
                have np9 : q9 ≠ p := ne_of_none e59 np
                have npG : G ≠ p := ne_of_none e5G np
                refine ⟨by rw [sizeLine_eq]; omega, e5D, npD, nD, nDa, nD9, nDG, ?_, ?_, ?_, ⟨rs ++ [x], by rw [List.map_append]; exact LsD.push2 e5D d5w tw np (.str x.1) (.str x.2) rfl rfl, by rw [List.length_append, hrs]; rfl, ?_⟩, ?_, ?_⟩
                · rw [upd_ne nD9.symm, upd_ne np9]
                  exact e59
                · rw [upd_ne nDG.symm, upd_ne npG]
                  exact e5G
                · exact DpAll.tk ((t5.trans (TK.new np)).trans (TK.lst (xs := ws) (by rw [upd_ne npD]; exact e5D))) _ _ (pd_only ns pl') g3
                · intro k p' x' hp' hx'
                  by_cases hk : k < rs.length
                  · rw [List.getElem?_append_left hk] at hx'
                    exact hro k p' x' hp' hx'
                  · rw [List.getElem?_append_right (by omega)] at hx'
                    have hk0 : k - rs.length = 0 := by
                      cases z : k - rs.length with
                      | zero => rfl
                      | succ m => rw [z] at hx'; simp at hx'
                    rw [hk0] at hx'
                    have hxx : x = x' := by simpa using hx'
                    subst hxx
                    have hki : k = i := by omega
                    subst hki
                    rw [List.getElem?_eq_getElem hip] at hp'
                    have := Option.some.inj hp'
                    subst this
                    exact rx
                · refine Fd.mono (c := c + 2002 + i + 1) ?_ (by omega)
                  exact (f5.upd (q := p) (o := .tup [.str x.1, .str x.2]) (Ne.symm (f5.ne np))).upd (q := D) (o := .lst (ws ++ [.ref p])) (Ne.symm nDa)
                · exact ((g6.trans k5).upd_n np).upd_l nD
              repeat' (walk_at "jv")
              refine ⟨a, 2, _, rfl, g5, by omega, by omega, by omega, fun rr H5 s0 s1 f5 k5 => ?_⟩
              repeat' (walk_at "jv")
              · intro p np
                obtain ⟨y1, y2, y3, y4⟩ := push H5 p (z1, z2) (.inl ⟨a1, a2⟩) np k5 f5
                exact i_lcE ((upd_ne y3).trans y2) y1 y4
              · intro p np
                obtain ⟨y1, y2, y3, y4⟩ := push H5 p (z2, z1) (.inr ⟨a1, a2⟩) np k5 f5
                exact i_lcE ((upd_ne y3).trans y2) y1 y4
      · obtain ⟨nD, nDa, nD9, nDG, g1, g2, g3, ⟨rs, g4, hrs, hro⟩, g5, g6⟩ := h
        repeat' (walk_at "jv")
        refine ⟨a, G, _, ns.map V.str, rfl, g5, SqA.l (sq_lst g2), nGa, by rw [List.length_map]; omega, by omega, fun W zs HA pz nW eW fA kA => ?_⟩
        obtain ⟨ws, ew, dw, tw⟩ := g4.ch kA g5 nDa
        have hwl : ws.length = rs.length := by rw [DpAll.len dw, List.length_map]
        have kA0 : Ch a H HA := g6.trans kA
        obtain ⟨es2, pe2, dz⟩ := DpAll.perm pz (DpAll.strs (K := K) (H := HA) ns)
        obtain ⟨ps, pps, rfl⟩ := perm_map_inv pe2 rfl
        have ez := DpAll.strs_inv dz
        subst ez
        repeat' (walk_at "jv")
        refine ⟨W, ps.map V.str, rfl, sq_lst eW, fun T1 ob nT1 okb => ?_⟩
        repeat' (walk_at "jv")
        intro T2 nT2
        refine i_nil ?_
        refine i_al (by show 2 ≤ sizeLine; decide) ?_
        intro T3 nT3
        have c1 : TK K HA (upd HA T1 (.frz ob (.tup (ps.map V.str)))) := TK.new nT1
        have c2 : TK K (upd HA T1 (.frz ob (.tup (ps.map V.str)))) (upd (upd HA T1 (.frz ob (.tup (ps.map V.str)))) T2 (.tup ws)) := TK.new nT2
        have c3 : TK K (upd (upd HA T1 (.frz ob (.tup (ps.map V.str)))) T2 (.tup ws)) (upd (upd (upd HA T1 (.frz ob (.tup (ps.map V.str)))) T2 (.tup ws)) T3 (.tup [.ref T1, .ref T2])) := TK.new nT3
        have fT1 : FT (upd HA T1 (.frz ob (.tup (ps.map V.str)))) T1 (ps.map V.str) := FT.new okb
        refine q _ ps rs _ (web_of hns pps (by omega) (by omega) nd' (fun p hp' => (lt' p hp').1) hl14 (by omega) hro) (by have := pps.length_eq; omega) ?_ ?_ ?_
        · refine ⟨T3, T1, T2, rfl, .inl (.inl upd_same), (fT1.same (Same.upd_new nT2)).same (Same.upd_new nT3), ?_⟩
          exact Dp.tk c3 _ _ (roads_only rs) (.tup (xs := ws) (.inl (.inl upd_same)) (DpAll.tk (c1.trans c2) _ _ tw dw))
        · have g1 := fA.upd (q := T1) (o := .frz ob (.tup (ps.map V.str))) (Ne.symm (fA.ne nT1))
          have g2 := g1.upd (q := T2) (o := .tup ws) (Ne.symm (g1.ne nT2))
          exact (g2.upd (Ne.symm (g2.ne nT3))).mono (by omega)
        · exact ((kA0.upd_n nT1).upd_n nT2).upd_n nT3
end
end
section
open L2 PySem PySem.Spec PyProof.Rows
abbrev s__law_arrows : Stmt := topS 63
theorem sc__law_arrows : FnScope ["_law_web_here", "_law_order_here", "_law_road"] ["_law_web_here", "_law_order_here"] (defScope s__law_arrows) := ⟨rfl, rfl, rfl, by decide +kernel, rfl, by decide +kernel, by decide +kernel⟩
abbrev s__law_swapped : Stmt := topS 67
theorem sc__law_swapped : FnScope ["_law_order_here", "_law_at"] ["_law_order_here", "_law_at"] (defScope s__law_swapped) := ⟨rfl, rfl, rfl, by decide +kernel, rfl, by decide +kernel, by decide +kernel⟩
def spSwapped : Sp := fun vs H Q _ => ∃ (o : Addr) (qs : List Str) (i : Nat), vs = [.ref o, .int i] ∧ FT H o (qs.map V.str) ∧ i + 1 < qs.length ∧ qs.length ≤ 8 ∧ ∀ (T : Addr) (H' : Hp), Same H H' → FT H' T ((sw qs i).map V.str) → Q (.ref T) H'
section
variable {base : Heap} {P : Program} {w : World} {K : PySem.W.Frag} {mg : Str → Option Value}
theorem ok_law_arrows (D : Dn K mg "_law_arrows" s__law_arrows ["_law_web_here", "_law_order_here"]) (B : Bn mg) : Cl P w K mg base 1 "_law_arrows" ["_law_web_here", "_law_order_here"] (spArrows K) := by
  refine D.cl sc__law_arrows (fun vs H Q E h => ?_) (fun f cdv A outer s H vs Q E hr h => ?_)
  · obtain ⟨v, o, qs, ps, rs, rfl, _⟩ := h
    rfl
  · obtain ⟨v, o, qs, ps, rs, rfl, hd, W, ho, pm, q⟩ := h
    obtain ⟨t, tp, tr, xs, rfl, s1, s2, s3, d3, dr, dpl⟩ := web_parts hd
    refine ⟨_, (pss_one (ps_ret (pe_callTy (k_tuple (K := K)) rfl B.tuple_ (by decide +kernel) (pa_cons (pe_lc (own := [("_law_road", 2)]) rfl sc__law_arrows.nd (kpi_tup (K := K) (pe_ix (k_ixT (K := K)) (pv 0) pe_int (fun _ _ => rfl))) (blkOk_by (N := ["_law_web_here", "_law_order_here", "_law_road"]) (sc := defScope s__law_arrows) (by decide +kernel)) (fun _ _ _ _ _ => (pg_name (i := 2) sc__law_arrows.nd rfl (by first | exact Or.inl rfl | exact Or.inr rfl))) (fun _ _ _ _ _ => pts_nil) (fun _ _ _ _ _ => (pe_ifExp (pt_cmpR op_lt (pe_bmF PySem.F.plainAttrs_tuple PySem.F.slot_tuple_index PySem.F.type_tuple_index (k_tindex (K := K)) (pv 1) (pa_cons (pe_ix (k_ixT (K := K)) (pv 2) pe_int (fun _ _ => rfl)) pa_nil)) (pe_bmF PySem.F.plainAttrs_tuple PySem.F.slot_tuple_index PySem.F.type_tuple_index (k_tindex (K := K)) (pv 1) (pa_cons (pe_ix (k_ixT (K := K)) (pv 2) pe_int (fun _ _ => rfl)) pa_nil)) (nomark _)) (pv 2) (pe_tup (pa_cons (pe_ix (k_ixT (K := K)) (pv 2) pe_int (fun _ _ => rfl)) (pa_cons (pe_ix (k_ixT (K := K)) (pv 2) pe_int (fun _ _ => rfl)) pa_nil)))))) pa_nil)))), ?_⟩
    have hl : xs.length = rs.length := by rw [DpAll.len d3, List.length_map]
    have h14 := W.le14
    repeat' (walk_at "jv")
    refine c_tup xs (fun D2 i H' => H D2 = none ∧ Same H H' ∧ LsD K H' D2 ((arr qs (rs.take i)).map roadD)) (fun D2 nD => ⟨nD, Same.upd_new nD, LsD.nil upd_same⟩) (fun D2 i H' _ h => TK.same h.2.1 _ _ s3) (fun D2 i y H' hy h => ?_) (fun D2 H' h => ?_)
    · obtain ⟨nD, k, ws, ew, dw, tw⟩ := h
      have hi : i < rs.length := by
        have := (List.getElem?_eq_some_iff.mp hy).1
        omega
      have hws : ws.length ≤ 14 := by
        rw [DpAll.len dw, List.length_map]
        unfold arr
        rw [List.length_map, List.length_take]
        omega
      obtain ⟨d, hd2, dy⟩ := DpAll.get d3 hy
      rw [List.getElem?_map, List.getElem?_eq_getElem hi] at hd2
      obtain rfl : roadD rs[i] = d := Option.some.inj hd2
      have dy' := Dp.same k _ _ dy
      obtain ⟨t2, rfl, st⟩ := road_parts dy'
      obtain ⟨w1, w2, w3⟩ := W.ends _ (List.getElem_mem hi)
      have et : arr qs (rs.take (i + 1)) = arr qs (rs.take i) ++ [arr1 qs rs[i]] := by
        unfold arr
        rw [List.take_add_one, List.getElem?_eq_getElem hi, List.map_append]
        rfl
      repeat' (walk_at "jv")
      refine i_bmF (i_var rfl (i_tyF (ho.same k) ?_))
      refine i_cons ?_
      repeat' (walk_at "jv")
      refine i_tix (ho.same k).sq (pm.mem_iff.mpr w1) ?_
      refine i_bmF (i_var rfl (i_tyF (ho.same k) ?_))
      refine i_cons ?_
      repeat' (walk_at "jv")
      refine i_tix (ho.same k).sq (pm.mem_iff.mpr w2) ?_
      repeat' (walk_at "jv")
      · rename_i lt
        have e : arr1 qs rs[i] = rs[i] := if_pos (by omega)
        refine ⟨nD, fun b u z => ?_, ?_⟩
        · rw [upd_ne (fun w => by rw [w, nD] at z; cases z)]
          exact k _ _ z
        · rw [et, e, List.map_append]
          exact LsD.push ew dw tw dy' rfl
      · rename_i lt
        have e : arr1 qs rs[i] = (rs[i].2, rs[i].1) := if_neg (by omega)
        intro T nT
        have eD : (upd H' T (.tup [.str rs[i].2, .str rs[i].1])) D2 = some (.lst ws) := (upd_ne (ne_of_none ew nT)).trans ew
        refine i_lcE eD (by rw [sizeLine_eq]; omega) ⟨nD, fun b u z => ?_, ?_⟩
        · rw [upd_ne (fun w => by rw [w, nD] at z; cases z)]
          exact Same.upd_new nT _ _ (k _ _ z)
        · rw [et, e, List.map_append]
          exact LsD.push2 ew dw tw nT (.str _) (.str _) rfl rfl
    · obtain ⟨nD, k, ws, ew, dw, tw⟩ := h
      rw [hl, List.take_length] at dw tw
      refine i_nil ?_
      refine i_tupL (sq_lst ew) fun T nT => ?_
      have sm := Same.upd_new (o := .tup ws) nT
      exact q T _ (k.trans sm) (.tup (xs := ws) (.inl (.inl upd_same)) (DpAll.same sm _ _ dw))
theorem ok_swapped (D : Dn K mg "_law_swapped" s__law_swapped ["_law_order_here", "_law_at"]) (B : Bn mg) : Cl P w K mg base 1 "_law_swapped" ["_law_order_here", "_law_at"] spSwapped := by
  refine D.cl sc__law_swapped (fun vs H Q E h => ?_) (fun f cdv A outer s H vs Q E hr h => ?_)
  · obtain ⟨o, qs, i, rfl, _⟩ := h
    rfl
  · obtain ⟨o, qs, i, rfl, ho, hi, h8, q⟩ := h
    refine ⟨_, (pss_one (ps_ret (pe_op (k_catF (K := K)) (pe_op (k_catF (K := K)) (pe_slice (ksl_tupF (K := K)) (pv 0) po_none (po_some (pv 1))) (pe_tupF (pa_cons (pe_ix (k_ixT (K := K)) (pv 0) (pe_op op_add (pv 1) pe_int) (fun _ _ => rfl)) (pa_cons (pe_ix (k_ixT (K := K)) (pv 0) (pv 1) (fun _ _ => rfl)) pa_nil)))) (pe_slice (ksl_tupF (K := K)) (pv 0) (po_some (pe_op op_add (pv 1) pe_int)) po_none)))), ?_⟩
    repeat' (walk_at "jv")
    obtain ⟨x, hx⟩ := at_nat (show i < qs.length by omega)
    obtain ⟨y, hy⟩ := at_nat hi
    have esw : sw qs i = qs.take i ++ y :: x :: qs.drop (i + 2) := by
      unfold sw
      rw [hx, hy]
    refine i_slF ho fun A1 HA kA fA => ?_
    rw [cut_take] at fA
    have hoA := ho.same kA
    have e1 : (i : Int) + 1 = ((i + 1 : Nat) : Int) := by omega
    have e2 : (i : Int) + 2 = ((i + 2 : Nat) : Int) := by omega
    refine i_tupF ?_
    repeat' (walk_at "jv")
    rw [e1]
    refine i_ixT hoA.sq (at_str hy) ?_
    repeat' (walk_at "jv")
    refine i_ixT hoA.sq (at_str hx) ?_
    repeat' (walk_at "jv")
    intro B1 ob nB ok
    have sB := Same.upd_new (o := .frz ob (.tup [.str y, .str x])) nB
    have fB : FT (upd HA B1 (.frz ob (.tup [.str y, .str x]))) B1 [.str y, .str x] := FT.new ok
    have hl1 : ((qs.map V.str).take i).length ≤ 8 := by rw [List.length_take, List.length_map]; omega
    refine i_catF (fA.same sB) fB (by rw [sizeLine_eq]; show _ + 2 ≤ _; omega) fun C1 HC kC fC => ?_
    have hoC := (hoA.same sB).same kC
    repeat' (walk_at "jv")
    rw [e2]
    refine i_slF hoC fun D1 HD kD fD => ?_
    rw [cut_from] at fD
    have hl2 : ((qs.map V.str).drop (i + 2)).length ≤ 8 := by rw [List.length_drop, List.length_map]; omega
    refine i_catF (fC.same kD) fD (by rw [List.length_append, sizeLine_eq]; show _ + 2 + _ ≤ _; omega) fun E1 HE kE fE => ?_
    refine q E1 HE ((kA.trans sB).trans (kC.trans (kD.trans kE))) ?_
    rw [esw, List.map_append, List.map_cons, List.map_cons, List.map_take, List.map_drop]
    rw [List.append_assoc] at fE
    exact fE
end
end
section
open L2 PySem PySem.Spec PyProof.Rows
abbrev s_need_two_orders : Stmt := topS 40
theorem sc_need_two_orders : FnScope ["web", "order", "other"] ["web", "order", "other"] (defScope s_need_two_orders) := ⟨rfl, rfl, rfl, by decide +kernel, rfl, by decide +kernel, by decide +kernel⟩
section
variable {base : Heap} {P : Program} {w : World} {K : PySem.W.Frag} {mg : Str → Option Value}
theorem ok_need_two (D : Dn K mg "need_two_orders" s_need_two_orders ["web", "order", "other"]) (B : Bn mg) (C_need_ordered : Cl P w K mg base 6 "need_ordered" ["web", "order"] (spNeedOrder K)) (C_need_order : Cl P w K mg base 3 "need_order" ["web", "order"] (spNeedOrder K)) : Cl P w K mg base 7 "need_two_orders" ["web", "order", "other"] (spNeedTwo K) := by
  refine D.cl sc_need_two_orders (fun vs H Q E h => ?_) (fun f cdv A outer s H vs Q E hr h => ?_)
  · obtain ⟨v, o, o2, qs, qs2, ps, rs, rfl, _⟩ := h
    rfl
  · obtain ⟨v, o, o2, qs, qs2, ps, rs, rfl, hd, W, ho, pm, ho2, pm2, q⟩ := h
    refine ⟨_, (pss_cons (ps_expr (pe_c C_need_ordered hr (pa_cons (pv 0) (pa_cons (pv 1) pa_nil))))
      (pss_one (ps_expr (pe_c C_need_order hr (pa_cons (pv 0) (pa_cons (pv 2) pa_nil)))))), ?_⟩
    repeat' (walk_at "jv")
    refine ⟨v, o, qs, ps, rs, rfl, hd, W, ho, pm, fun H2 k2 => ?_⟩
    repeat' (walk_at "jv")
    refine ⟨v, o2, qs2, ps, rs, rfl, Dp.same k2 _ _ hd, W, TK.same k2 _ _ ho2, pm2, fun H3 k3 => ?_⟩
    repeat' (walk_at "jv")
    exact q _ (k2.trans k3)
end
end
section
open L2 PySem PySem.Spec PyProof.Rows
abbrev s__law_apart : Stmt := topS 66
theorem sc__law_apart : FnScope ["_law_web_here", "_law_one_here", "_law_other"] ["_law_web_here", "_law_one_here", "_law_other"] (defScope s__law_apart) := ⟨rfl, rfl, rfl, by decide +kernel, rfl, by decide +kernel, by decide +kernel⟩
abbrev s__law_swaps : Stmt := topS 68
theorem sc__law_swaps : FnScope ["_law_web_here", "_law_order_here", "_law_at"] ["_law_web_here", "_law_order_here"] (defScope s__law_swaps) := ⟨rfl, rfl, rfl, by decide +kernel, rfl, by decide +kernel, by decide +kernel⟩
abbrev s__law_like : Stmt := topS 69
theorem sc__law_like : FnScope ["_law_feed_here", "_law_web_here", "_law_order_here", "_law_many", "_law_path", "_law_turn", "_law_free"] ["_law_feed_here", "_law_web_here", "_law_order_here", "_law_many"] (defScope s__law_like) := ⟨rfl, rfl, rfl, by decide +kernel, rfl, by decide +kernel, by decide +kernel⟩
abbrev s__law_second : Stmt := topS 70
theorem sc__law_second : FnScope ["_law_feed_here", "_law_web_here", "_law_order_here", "_law_way"] ["_law_feed_here", "_law_web_here", "_law_order_here"] (defScope s__law_second) := ⟨rfl, rfl, rfl, by decide +kernel, rfl, by decide +kernel, by decide +kernel⟩
section
variable {base : Heap} {P : Program} {w : World} {K : PySem.W.Frag} {mg : Str → Option Value}
theorem ok_apart (D : Dn K mg "_law_apart" s__law_apart ["_law_web_here", "_law_one_here", "_law_other"]) (B : Bn mg) : Cl P w K mg base 1 "_law_apart" ["_law_web_here", "_law_one_here", "_law_other"] (spApart K) := by
  refine D.cl sc__law_apart (fun vs H Q E h => ?_) (fun f cdv A outer s H vs Q E hr h => ?_)
  · obtain ⟨v, x, y, ps, rs, rfl, _⟩ := h
    rfl
  · obtain ⟨v, x, y, ps, rs, rfl, hd, W, hx, hy, q⟩ := h
    obtain ⟨t, tp, tr, xs, rfl, s1, s2, s3, d3, dr, dpl⟩ := web_parts hd
    refine ⟨_, (pss_one (ps_ret (pe_and (pe_cmpR (k_notInQ (K := K) hr.units) (pe_tup (pa_cons (pv 1) (pa_cons (pv 2) pa_nil))) (pe_ix (k_ixT (K := K)) (pv 0) pe_int (fun _ _ => rfl)) (by rfl)) (pe_one (pe_cmpR (k_notInQ (K := K) hr.units) (pe_tup (pa_cons (pv 2) (pa_cons (pv 1) pa_nil))) (pe_ix (k_ixT (K := K)) (pv 0) pe_int (fun _ _ => rfl)) (by rfl)))))), ?_⟩
    repeat' (walk_at "jv")
    intro p np
    have sp := Same.upd_new (o := .tup [.str x, .str y]) np
    have s1p := TK.same (K := K) sp _ _ s1
    repeat' (walk_at "jv")
    refine ⟨roadD (x, y), rs.map roadD, .tup (xs := [.str x, .str y]) (.inl (.inl upd_same)) (.cons (.str _) (.cons (.str _) .nil)), .inr (Dp.same sp _ _ dr), road_lay (W.names.2 _ hx) (W.names.2 _ hy), roads_lay W, by show 0 + 1 ≤ 60; decide, ?_⟩
    rw [if_pos rfl, roads_any]
    refine ⟨_, rfl, ?_⟩
    refine i_iteB (fun h1 => ?_) (fun h1 => ?_)
    · repeat' (walk_at "jv")
      intro p2 np2
      have sp2 := Same.upd_new (o := .tup [.str y, .str x]) np2
      have s1q := TK.same (K := K) sp2 _ _ s1p
      repeat' (walk_at "jv")
      refine ⟨roadD (y, x), rs.map roadD, .tup (xs := [.str y, .str x]) (.inl (.inl upd_same)) (.cons (.str _) (.cons (.str _) .nil)), .inr (Dp.same sp2 _ _ (Dp.same sp _ _ dr)), road_lay (W.names.2 _ hy) (W.names.2 _ hx), roads_lay W, by show 0 + 1 ≤ 60; decide, ?_⟩
      rw [if_pos rfl, roads_any]
      have h2 : decide ((x, y) ∈ rs) = false := by simpa using h1
      have e : (!isRoad rs x y) = !decide ((y, x) ∈ rs) := by
        unfold isRoad
        rw [h2, Bool.false_or]
      rw [← e]
      exact q _ (sp.trans sp2)
    · have h2 : decide ((x, y) ∈ rs) = true := by simpa using h1
      have e : (!isRoad rs x y) = false := by
        unfold isRoad
        rw [h2]
        rfl
      rw [← e]
      exact q _ sp
theorem ok_swaps (D : Dn K mg "_law_swaps" s__law_swaps ["_law_web_here", "_law_order_here"]) (B : Bn mg) (C__law_apart : Cl P w K mg base 1 "_law_apart" ["_law_web_here", "_law_one_here", "_law_other"] (spApart K)) : Cl P w K mg base 2 "_law_swaps" ["_law_web_here", "_law_order_here"] (spSwaps K) := by
  refine D.cl sc__law_swaps (fun vs H Q E h => ?_) (fun f cdv A outer s H vs Q E hr h => ?_)
  · obtain ⟨v, o, qs, ps, rs, rfl, _⟩ := h
    rfl
  · obtain ⟨v, o, qs, ps, rs, rfl, hd, W, ho, pm, q⟩ := h
    have hl := pm.length_eq
    have h8 := W.le8
    have h0 := W.pos
    have hlm : (qs.map V.str).length = qs.length := List.length_map ..
    refine ⟨_, (pss_one (ps_ret (pe_lc (own := [("_law_at", 2)]) rfl sc__law_swaps.nd (pi_range1 rfl B.range_ (pa_cons (pe_op op_sub (pe_callB (k_len (K := K)) rfl B.len_ (by decide +kernel) (pa_cons (pv 1) pa_nil)) pe_int) pa_nil)) (blkOk_by (N := ["_law_web_here", "_law_order_here", "_law_at"]) (sc := defScope s__law_swaps) (by decide +kernel)) (fun _ _ _ _ _ => (pg_name (i := 2) sc__law_swaps.nd rfl (by first | exact Or.inl rfl | exact Or.inr rfl))) (fun _ _ _ _ _ => pts_one (pt_val (pe_c C__law_apart hr (pa_cons (pv 0) (pa_cons (pe_ix (k_ixT (K := K)) (pv 1) (pv 2) (fun _ _ => rfl)) (pa_cons (pe_ix (k_ixT (K := K)) (pv 1) (pe_op op_add (pv 2) pe_int) (fun _ _ => rfl)) pa_nil)))))) (fun _ _ _ _ _ => (pv 2))))), ?_⟩
    repeat' (walk_at "jv")
    have en : ((((qs.map V.str).length : Nat) : Int) - 1).toNat = qs.length - 1 := by omega
    rw [en]
    refine c_range (fun D i H' => H D = none ∧ Same H H' ∧ H' D = some (.lst (natsV ((List.range i).filter (freeAt rs qs))))) (fun D nD => ⟨nD, Same.upd_new nD, upd_same⟩) (fun D i H' hi h => ?_) (fun D H' h => ?_)
    · obtain ⟨nD, kD, eD⟩ := h
      obtain ⟨x, hx⟩ := at_nat (show i < qs.length by omega)
      obtain ⟨y, hy⟩ := at_nat (show i + 1 < qs.length by omega)
      have ho2 := TK.same (K := K) kD _ _ ho
      have e0 : (0 : Int) + (i : Int) = (i : Int) := by omega
      have e1 : (i : Int) + 1 = ((i + 1 : Nat) : Int) := by omega
      rw [e0]
      repeat' (walk_at "jv")
      refine i_ixT ho2 (at_str hx) ?_
      repeat' (walk_at "jv")
      rw [e1]
      refine i_ixT ho2 (at_str hy) ?_
      repeat' (walk_at "jv")
      refine ⟨v, x, y, ps, rs, rfl, Dp.same kD _ _ hd, W, pm.mem_iff.mp (List.mem_of_getElem? hx), pm.mem_iff.mp (List.mem_of_getElem? hy), fun H2 k2 => ?_⟩
      have eD2 := k2 _ _ eD
      have hll : (natsV ((List.range i).filter (freeAt rs qs))).length ≤ 8 := by
        rw [nats_len]
        have := List.length_filter_le (freeAt rs qs) (List.range i)
        rw [List.length_range] at this
        omega
      have ef : freeAt rs qs i = !isRoad rs x y := by
        unfold freeAt
        rw [hx, hy]
      have et : (List.range (i + 1)).filter (freeAt rs qs) = (List.range i).filter (freeAt rs qs) ++ if (!isRoad rs x y) = true then [i] else [] := by
        rw [List.range_succ, List.filter_append, ← ef]
        by_cases c : freeAt rs qs i = true
        · rw [if_pos c]
          simp [c]
        · rw [if_neg c]
          simp [c]
      refine ⟨_, rfl, i_iteB (fun h1 => ?_) (fun h1 => ?_)⟩
      · rw [if_pos h1] at et
        repeat' (walk_at "jv")
        refine ⟨nD, fun b oo z => ?_, ?_⟩
        · rw [upd_ne (ne_of_none z nD)]
          exact (kD.trans k2) _ _ z
        · rw [upd_same, et]
          unfold natsV
          rw [List.map_append]
          rfl
      · rw [if_neg (by rw [h1]; decide), List.append_nil] at et
        exact ⟨nD, kD.trans k2, by rw [et]; exact eD2⟩
    · obtain ⟨nD, kD, eD⟩ := h
      exact q D _ nD kD eD
theorem ok_like (D : Dn K mg "_law_like" s__law_like ["_law_feed_here", "_law_web_here", "_law_order_here", "_law_many"]) (B : Bn mg) (C__law_draw : Cl P w K mg base 1 "_law_draw" ["_law_feed_here", "_law_many"] spDraw) (C__law_one : Cl P w K mg base 2 "_law_one" ["_law_feed_here", "_law_things"] (spOne K))
    (C__law_swaps : Cl P w K mg base 2 "_law_swaps" ["_law_web_here", "_law_order_here"] (spSwaps K)) (C__law_swapped : Cl P w K mg base 1 "_law_swapped" ["_law_order_here", "_law_at"] spSwapped) : Cl P w K mg base 3 "_law_like" ["_law_feed_here", "_law_web_here", "_law_order_here", "_law_many"] (spLike K) := by
  refine D.cl sc__law_like (fun vs H Q E h => ?_) (fun f cdv A outer s H vs Q E hr h => ?_)
  · obtain ⟨a, v, o, n, qs, ps, rs, c, rfl, _⟩ := h
    rfl
  · obtain ⟨a, v, o, n, qs, ps, rs, c, rfl, hf, hc, hn, hd, W, ho, pm, q⟩ := h
    refine ⟨_, (pss_cons (ps_set (i := 4) sc__law_like.nd rfl (by first | exact Or.inl rfl | exact Or.inr rfl) (pe_lst pa_nil))
      (pss_cons (ps_for PassesOwn.never rfl (pi_range1 rfl B.range_ (pa_cons (pe_c C__law_draw hr (pa_cons (pv 0) (pa_cons (pe_op op_add (pv 3) pe_int) pa_nil))) pa_nil)) (pg_name (i := 5) sc__law_like.nd rfl (by first | exact Or.inl rfl | exact Or.inr rfl)) (pss_cons (ps_set (i := 6) sc__law_like.nd rfl (by first | exact Or.inl rfl | exact Or.inr rfl) (pe_c C__law_swaps hr (pa_cons (pv 1) (pa_cons (pv 2) pa_nil))))
      (pss_one (ps_if (pt_cmpR (k_neD (K := K) hr.units) (pv 6) (pe_lst pa_nil) (nomark _)) (pss_cons (ps_expr (pe_bm PySem.F.plainAttrs_list PySem.F.slot_list_append PySem.F.type_list_append mt_append (pv 4) (pa_cons (pe_c C__law_one hr (pa_cons (pv 0) (pa_cons (pv 6) pa_nil))) pa_nil)))
      (pss_one (ps_set (i := 2) sc__law_like.nd rfl (by first | exact Or.inl rfl | exact Or.inr rfl) (pe_c C__law_swapped hr (pa_cons (pv 2) (pa_cons (pe_ix (k_ixL (K := K)) (pv 4) (pe_un un_neg pe_int) (fun _ _ => rfl)) pa_nil)))))) pss_nil))))
      (pss_one (ps_ret (pe_tup (pa_cons (pv 4) (pa_cons (pv 2) pa_nil))))))), ?_⟩
    repeat' (walk_at "jv")
    intro L nL
    have nLa := hf.ne nL
    have kL : Ch a H (upd H L (.lst [])) := Ch.upd_new nL
    have fL := hf.upd (q := L) (o := .lst []) (Ne.symm nLa)
    have eL : (upd H L (.lst [])) L = some (.lst []) := upd_same
    have hd1 := Dp.same (K := K) (Same.upd_new (o := .lst []) nL) _ _ hd
    have ho1 := ho.same (Same.upd_new (o := .lst []) nL)
    generalize upd H L (.lst []) = H1 at *
    repeat' (walk_at "jv")
    refine ⟨a, ((n + 1 : Nat) : Int), c, by simp, fL, by omega, by omega, by omega, fun m H2 m0 m1 f2 k2 => ?_⟩
    obtain ⟨cnt, rfl⟩ := Int.eq_ofNat_of_zero_le m0
    have eL2 := k2 _ _ nLa eL
    have k02 := kL.trans k2
    replace hd1 := Dp.tk (TK.ch k2 fL) _ _ (web_only _ _) hd1
    replace ho1 := FT.ch ho1 k2 fL
    clear k2 fL eL kL
    repeat' (walk_at "jv")
    have en : ((cnt : Nat) : Int).toNat = cnt := by omega
    rw [en]
    refine f_range (fun i σ H' => ∃ y5 y6 o' p, σ = [some (.ref a), some v, some (.ref o'), some (.int n), some (.ref L), y5, y6] ∧ H' L = some (.lst (natsV p)) ∧ okP rs qs p ∧ p.length ≤ i ∧ FT H' o' ((goP qs p).map V.str) ∧ Dp K H' v (webD ps rs) ∧ Fd H' a (c + 1 + i) ∧ Ch a H H') ⟨none, none, o, [], rfl, eL2, trivial, Nat.zero_le _, ho1, hd1, f2.mono (by omega), k02⟩ (fun i σ H3 hi h => ?_) (fun σ H3 h => ?_)
    · obtain ⟨y5, y6, o', p, rfl, eL3, okp, pl, ho3, hd3, f3, k3⟩ := h
      have pm3 := (goP_perm p qs okp).trans pm
      repeat' (walk_at "jv")
      refine ⟨v, o', goP qs p, ps, rs, rfl, hd3, W, ho3.sq, pm3, fun D H4 nD k4 eD => ?_⟩
      have nDL : D ≠ L := fun e => by rw [e, eL3] at nD; cases nD
      have nDa := f3.ne nD
      replace hd3 := Dp.same k4 _ _ hd3
      replace ho3 := FT.same ho3 k4
      replace f3 := Fd.same f3 k4
      replace k3 := Ch.trans k3 (Ch.of_same k4)
      replace eL3 := k4 _ _ eL3
      clear k4 nD H3
      repeat' (walk_at "jv")
      intro E nE
      have kE := Same.upd_new (o := .lst []) nE
      have eE : (upd H4 E (.lst [])) E = some (.lst (natsV [])) := upd_same
      generalize upd H4 E (.lst []) = H5 at *
      replace hd3 := Dp.same kE _ _ hd3
      replace ho3 := FT.same ho3 kE
      replace f3 := Fd.same f3 kE
      replace k3 := Ch.trans k3 (Ch.of_same kE)
      replace eL3 := kE _ _ eL3
      replace eD := kE _ _ eD
      clear kE nE H4
      have sm : ∀ k ∈ swapsL rs (goP qs p), k < 300 := fun k hk => by
        have := free_lt (mem_swaps.mp hk)
        have := pm3.length_eq
        have := W.le8
        omega
      refine ⟨_, _, nts_dp eD, nts_dp eE, li_shaped sm, li_shaped (l := []) (fun n hn => absurd hn List.not_mem_nil), ?_⟩
      rw [li_eqd sm (fun n hn => absurd hn List.not_mem_nil)]
      refine ⟨_, rfl, ?_⟩
      refine i_iteN (fun hne => ?_) (fun he => ?_)
      · repeat' (walk_at "jv")
        have hlp : 0 < (natsV (swapsL rs (goP qs p))).length := by
          rw [nats_len]
          exact List.length_pos_iff.mpr hne
        have hlp2 : (natsV (swapsL rs (goP qs p))).length ≤ 8 := by
          rw [nats_len]
          unfold swapsL
          have := List.length_filter_le (freeAt rs (goP qs p)) (List.range ((goP qs p).length - 1))
          rw [List.length_range] at this
          have := pm3.length_eq
          have := W.le8
          omega
        refine ⟨a, D, _, natsV (swapsL rs (goP qs p)), rfl, f3, SqA.l (sq_lst eD), nDa, hlp, by omega, by omega, fun x H6 hx f6 k6 => ?_⟩
        obtain ⟨k, hk, rfl⟩ := List.mem_map.mp hx
        have fk := mem_swaps.mp hk
        have eL6 := k6 _ _ nLa eL3
        replace hd3 := Dp.tk (TK.ch k6 f3) _ _ (web_only _ _) hd3
        replace ho3 := FT.ch ho3 k6 f3
        replace k3 := Ch.trans k3 k6
        clear k6 f3 hx
        have hpl : (natsV p).length ≤ 100 := by rw [nats_len]; omega
        refine i_nil ?_
        refine i_app eL6 (by rw [sizeLine_eq]; omega) ?_
        have kk : Ch L H6 (upd H6 L (.lst (natsV p ++ [.int ((k : Nat) : Int)]))) := Ch.upd_self
        have sf := sf_lst eL6
        have eL7 : (upd H6 L (.lst (natsV p ++ [.int ((k : Nat) : Int)]))) L = some (.lst (natsV p ++ [.int ((k : Nat) : Int)])) := upd_same
        have naL : a ≠ L := Ne.symm nLa
        have k37 := k3.upd_l (q := L) (o := .lst (natsV p ++ [.int ((k : Nat) : Int)])) nL
        replace hd3 := Dp.tk (tk_sf kk sf) _ _ (web_only _ _) hd3
        replace ho3 := ft_sf ho3 kk sf
        replace f6 := fd_sf f6 kk (by assumption)
        generalize upd H6 L (.lst (natsV p ++ [.int ((k : Nat) : Int)])) = H7 at *
        clear kk sf eL6 eL3 k3
        repeat' (walk_at "jv")
        refine i_ixL (sq_lst eL7) (at_last _ _) ?_
        repeat' (walk_at "jv")
        refine ⟨o', goP qs p, k, rfl, ho3, free_lt fk, by have := pm3.length_eq; have := W.le8; omega, fun T H8 k8 hT => ?_⟩
        replace hd3 := Dp.same k8 _ _ hd3
        replace f6 := Fd.same f6 k8
        replace k37 := Ch.trans k37 (Ch.of_same k8)
        replace eL7 := k8 _ _ eL7
        repeat' (walk_at "jv")
        refine ⟨_, _, T, p ++ [k], rfl, ?_, (okP_app p [k] qs).mpr ⟨okp, fk, trivial⟩, by rw [List.length_append]; show p.length + 1 ≤ _; omega, by rw [goP_app]; exact hT, hd3, f6.mono (by omega), k37⟩
        rw [eL7]
        unfold natsV
        rw [List.map_append]
        rfl
      · repeat' (walk_at "jv")
        exact ⟨_, _, o', p, rfl, eL3, okp, by omega, ho3, hd3, f3.mono (by omega), k3⟩
    · obtain ⟨y5, y6, o', p, rfl, eL3, okp, pl, ho3, hd3, f3, k3⟩ := h
      repeat' (walk_at "jv")
      intro T nT
      have kT := Same.upd_new (o := .tup [.ref L, .ref o']) nT
      exact q T L o' p _ nL (sq_tup upd_same) (kT _ _ eL3) okp (by omega) (ho3.same kT) ((f3.same kT).mono (by omega)) (k3.trans (Ch.of_same kT))
theorem ok_second (D : Dn K mg "_law_second" s__law_second ["_law_feed_here", "_law_web_here", "_law_order_here"]) (B : Bn mg) (C__law_draw : Cl P w K mg base 1 "_law_draw" ["_law_feed_here", "_law_many"] spDraw) (C__law_order : Cl P w K mg base 3 "_law_order" ["_law_feed_here", "_law_web_here"] (spOrderF K))
    (C__law_like : Cl P w K mg base 3 "_law_like" ["_law_feed_here", "_law_web_here", "_law_order_here", "_law_many"] (spLike K)) (C__law_swapped : Cl P w K mg base 1 "_law_swapped" ["_law_order_here", "_law_at"] spSwapped) : Cl P w K mg base 4 "_law_second" ["_law_feed_here", "_law_web_here", "_law_order_here"] (spSecond K) := by
  refine D.cl sc__law_second (fun vs H Q E h => ?_) (fun f cdv A outer s H vs Q E hr h => ?_)
  · obtain ⟨a, v, o, qs, ps, rs, c, rfl, _⟩ := h
    rfl
  · obtain ⟨a, v, o, qs, ps, rs, c, rfl, hf, hc, hd, W, ho, pm, q⟩ := h
    have hlm : (qs.map V.str).length = qs.length := List.length_map ..
    have hql := pm.length_eq
    have h8 := W.le8
    refine ⟨_, (pss_cons (ps_set (i := 3) sc__law_second.nd rfl (by first | exact Or.inl rfl | exact Or.inr rfl) (pe_c C__law_draw hr (pa_cons (pv 0) (pa_cons pe_int pa_nil))))
      (pss_cons (ps_if (pt_cmpR op_eq (pv 3) pe_int (nomark _)) (pss_one (ps_ret (pe_c C__law_order hr (pa_cons (pv 0) (pa_cons (pv 1) pa_nil))))) pss_nil)
      (pss_cons (ps_if (pt_cmpR op_lt (pv 3) pe_int (nomark _)) (pss_one (ps_ret (pe_ix (k_ixT (K := K)) (pe_c C__law_like hr (pa_cons (pv 0) (pa_cons (pv 1) (pa_cons (pv 2) (pa_cons pe_int pa_nil))))) pe_int (fun _ _ => rfl)))) pss_nil)
      (pss_cons (ps_if (PW.pt (pw_and (pt_cmpR op_eq (pv 3) pe_int (nomark _)) (pw_and1 (pt_cmpR op_gt (pe_callB (k_len (K := K)) rfl B.len_ (by decide +kernel) (pa_cons (pv 2) pa_nil)) pe_int (nomark _))))) (pss_one (ps_ret (pe_c C__law_swapped hr (pa_cons (pv 2) (pa_cons (pe_c C__law_draw hr (pa_cons (pv 0) (pa_cons (pe_op op_sub (pe_callB (k_len (K := K)) rfl B.len_ (by decide +kernel) (pa_cons (pv 2) pa_nil)) pe_int) pa_nil))) pa_nil))))) pss_nil)
      (pss_one (ps_ret (pe_ifExp (pt_cmpR op_eq (pv 3) pe_int (nomark _)) (pe_revT (K := K) (pv 2)) (pv 2)))))))), ?_⟩
    repeat' (walk_at "jv")
    refine ⟨a, 6, c, rfl, hf, by omega, by omega, by omega, fun r H1 r0 r1 f1 k1 => ?_⟩
    replace hd := Dp.tk (TK.ch k1 hf) _ _ (web_only _ _) hd
    replace ho := FT.ch ho k1 hf
    repeat' (walk_at "jv")
    · refine ⟨a, v, ps, rs, c + 1, rfl, f1, hd, h8, by omega, fun T q2 H2 pm2 hT f2 k2 => ?_⟩
      exact q T q2 _ pm2 hT (f2.mono (by omega)) (k1.trans k2)
    · refine ⟨a, v, o, 12, qs, ps, rs, c + 1, rfl, f1, by omega, by omega, hd, W, ho, pm, fun T L o' p H2 nL sT eL okp pl hT f2 k2 => ?_⟩
      repeat' (walk_at "jv")
      exact q o' _ _ ((goP_perm p qs okp).trans pm) hT (f2.mono (by omega)) (k1.trans k2)
    · have hs := ho.sq (K := K)
      refine i_lenT hs ?_
      repeat' (walk_at "jv")
      · rename_i lt
        repeat' (walk_at "jv")
        refine ⟨a, ((qs.map V.str).length : Nat) - 1, c + 1, rfl, f1, by omega, by omega, by omega, fun i H2 i0 i1 f2 k2 => ?_⟩
        obtain ⟨j, rfl⟩ := Int.eq_ofNat_of_zero_le i0
        have hj : j + 1 < qs.length := by omega
        replace ho := FT.ch ho k2 f1
        repeat' (walk_at "jv")
        refine ⟨o, qs, j, rfl, ho, hj, by omega, fun T H3 k3 hT => ?_⟩
        exact q T _ _ ((sw_perm hj).trans pm) hT ((f2.same k3).mono (by omega)) ((k1.trans k2).trans (Ch.of_same k3))
      all_goals first | (exfalso; omega) | exact q o qs _ pm ho (f1.mono (by omega)) k1
    · refine i_revT (i_var rfl ⟨o, _, rfl, ho.sq, fun R ob nR ok => ?_⟩)
      have kR := Same.upd_new (o := .frz ob (.tup (qs.map V.str).reverse)) nR
      have fR : FT (upd H1 R (.frz ob (.tup (qs.map V.str).reverse))) R (qs.reverse.map V.str) := by
        rw [List.map_reverse]
        exact FT.new ok
      exact q R qs.reverse _ ((List.reverse_perm qs).trans pm) fR ((f1.same kR).mono (by omega)) (k1.trans (Ch.of_same kR))
    · exact q o qs _ pm ho (f1.mono (by omega)) k1
end
end
section
open L2 PySem PySem.Spec PyProof.Rows
abbrev s_parting : Stmt := topS 49
theorem sc_parting : FnScope ["web", "order", "other", "unlike", "one", "two", "copies", "rules", "pair", "place"] ["web", "order", "other"] (defScope s_parting) := ⟨rfl, rfl, rfl, by decide +kernel, rfl, by decide +kernel, by decide +kernel⟩
def spParting (K : PySem.W.Frag) : Sp := fun vs H Q _ => ∃ (v : V) (o o2 : Addr) (qs os ps : List Str) (rs : List (Str × Str)), vs = [v, .ref o, .ref o2] ∧ Dp K H v (webD ps rs) ∧ IsWeb ps rs ∧ FT H o (qs.map V.str) ∧ qs.Perm ps ∧ FT H o2 (os.map V.str) ∧ os.Perm ps ∧
  (unlikeL qs os rs = [] → ∀ H', Same H H' → Q .non H') ∧ (∀ x y l, unlikeL qs os rs = (x, y) :: l → ∀ T R S H', Same H H' → SqT K H' T [.ref R, .ref S] → Dp K H' (.ref R) (.tuple (partRs ps x y)) → SqT K H' S (natsV (partS ps x)) → Q (.ref T) H')
theorem road_get {K : PySem.W.Frag} {H : Hp} {xs : List V} {l : List (Str × Str)} {i : Nat} {x : V} (d : DpAll K H xs (l.map roadD)) (hx : xs[i]? = some x) : ∃ r t, l[i]? = some r ∧ x = .ref t ∧ SqT K H t [.str r.1, .str r.2] := by
  obtain ⟨e, he, dx⟩ := DpAll.get d hx
  rw [List.getElem?_map] at he
  cases z : l[i]? with
  | none => rw [z] at he; cases he
  | some r =>
    rw [z] at he
    have := Option.some.inj he
    subst this
    obtain ⟨t, rfl, st⟩ := road_parts dx
    exact ⟨r, t, rfl, rfl, st⟩
theorem nats_snocP (l : List Nat) (m : Nat) : natsV (l ++ [m]) = natsV l ++ [.int (m : Nat)] := List.map_append ..
theorem i_pairs {tk tv : TE} {r : List (TE × TE)} {σ : L2.St} {H : Hp} {Q : List (V × V) → Hp → Prop} (h : tk σ H fun x H1 => tv σ H1 fun y H2 => tPairs r σ H2 fun ps H3 => Q ((x, y) :: ps) H3) : tPairs ((tk, tv) :: r) σ H Q := h
theorem ite_no {c : Prop} [Decidable c] {a b : Prop} (hc : ¬ c) (h : b) : (if c then a else b) := by
  rw [if_neg hc]
  exact h
theorem i_pairs0 {σ : L2.St} {H : Hp} {Q : List (V × V) → Hp → Prop} (h : Q [] H) : tPairs [] σ H Q := h
theorem i_disp {trs : List (TE × TE)} {σ : L2.St} {H : Hp} {Q : VK} (h : ∀ p, H p = none → tPairs trs σ (upd H p (.dK [])) fun ps H2 => H2 p = some (.dK []) ∧ ∃ kvs : List (L2.Key × V), ps = kvs.map (fun kv => (kV kv.1, kv.2)) ∧ kvs.length ≤ 15 ∧ Q (.ref p) (upd H2 p (.dK (mergeK [] kvs)))) : tDisp trs σ H Q := h
section
variable {base : Heap} {P : Program} {w : World} {K : PySem.W.Frag} {mg : Str → Option Value}
theorem ok_parting (D : Dn K mg "parting" s_parting ["web", "order", "other"]) (B : Bn mg) (C_need_two_orders : Cl P w K mg base 7 "need_two_orders" ["web", "order", "other"] (spNeedTwo K)) (C_arrows_of : Cl P w K mg base 2 "arrows_of" ["web", "order"] (spArrows K)) : Cl P w K mg base 8 "parting" ["web", "order", "other"] (spParting K) := by
  refine D.cl sc_parting (fun vs H Q E h => ?_) (fun f cdv A outer s H vs Q E hr h => ?_)
  · obtain ⟨v, o, o2, qs, os, ps, rs, rfl, _⟩ := h
    rfl
  · obtain ⟨v, o, o2, qs, os, ps, rs, rfl, hd, W, ho, pm, ho2, pm2, q1, q2⟩ := h
    refine ⟨_, (pss_cons (ps_expr (pe_c C_need_two_orders hr (pa_cons (pv 0) (pa_cons (pv 1) (pa_cons (pv 2) pa_nil)))))
      (pss_cons (ps_setLc (i := 3) (own := [("pair", 8)]) rfl sc_parting.nd rfl rfl (sw_true rfl rfl rfl (by decide +kernel)) (kpi_tup (K := K) (pe_c C_arrows_of hr (pa_cons (pv 0) (pa_cons (pv 1) pa_nil)))) (blkOk_by (N := ["web", "order", "other", "unlike", "one", "two", "copies", "rules", "pair", "place"]) (sc := defScope s_parting) (by decide +kernel)) (fun _ _ _ _ _ => (pg_name (i := 8) sc_parting.nd rfl (by first | exact Or.inl rfl | exact Or.inr rfl))) (fun _ _ _ _ _ => pts_one (pt_cmpR (k_notInQ (K := K) hr.units) (pv 8) (pe_c C_arrows_of hr (pa_cons (pv 0) (pa_cons (pv 2) pa_nil))) (by rfl))) (fun _ _ _ _ _ => (pv 8)))
      (pss_cons (ps_if (pt_not (k_truth (K := K) (pv 3) (fun _ => rfl))) (pss_one (ps_ret pe_non)) pss_nil)
      (pss_cons (ps_asg (pe_ix (k_ixL (K := K)) (pv 3) pe_int (fun _ _ => rfl)) (kpg_tup (K := K) (n := 2) rfl (pgs_cons (pg_name (i := 4) sc_parting.nd rfl (by first | exact Or.inl rfl | exact Or.inr rfl)) (pgs_cons (pg_name (i := 5) sc_parting.nd rfl (by first | exact Or.inl rfl | exact Or.inr rfl)) pgs_nil))))
      (pss_cons (ps_set (i := 6) sc_parting.nd rfl (by first | exact Or.inl rfl | exact Or.inr rfl) (pe_disp (pps_cons (pv 4) (pe_tup (pa_cons pe_str (pa_cons (pv 5) pa_nil))) (pps_cons (pv 5) (pe_tup (pa_cons pe_str (pa_cons (pv 4) pa_nil))) pps_nil)) rfl rfl (List.cons_ne_nil _ _) (by decide)))
      (pss_cons (ps_set (i := 7) sc_parting.nd rfl (by first | exact Or.inl rfl | exact Or.inr rfl) (pe_callTy (k_tuple (K := K)) rfl B.tuple_ (by decide +kernel) (pa_cons (pe_lc (own := [("place", 9)]) rfl sc_parting.nd (kpi_tup (K := K) (pe_ix (k_ixT (K := K)) (pv 0) pe_int (fun _ _ => rfl))) (blkOk_by (N := ["web", "order", "other", "unlike", "one", "two", "copies", "rules", "pair", "place"]) (sc := defScope s_parting) (by decide +kernel)) (fun _ _ _ _ _ => (pg_name (i := 9) sc_parting.nd rfl (by first | exact Or.inl rfl | exact Or.inr rfl))) (fun _ _ _ _ _ => pts_nil) (fun _ _ _ _ _ => (pe_dget2 (hu1 hr) (pv 6) (pv 9) (pe_tup (pa_cons pe_str pa_nil)) ⟨rfl, rfl, rfl, rfl⟩))) pa_nil)))
      (pss_one (ps_ret (pe_tup (pa_cons (pv 7) (pa_cons (pe_callTy (k_tuple (K := K)) rfl B.tuple_ (by decide +kernel) (pa_cons (pe_lc (own := [("place", 9)]) rfl sc_parting.nd (kpi_tup (K := K) (pe_ix (k_ixT (K := K)) (pv 0) pe_int (fun _ _ => rfl))) (blkOk_by (N := ["web", "order", "other", "unlike", "one", "two", "copies", "rules", "pair", "place"]) (sc := defScope s_parting) (by decide +kernel)) (fun _ _ _ _ _ => (pg_name (i := 9) sc_parting.nd rfl (by first | exact Or.inl rfl | exact Or.inr rfl))) (fun _ _ _ _ _ => pts_nil) (fun _ _ _ _ _ => (pe_ifExp (pt_cmpR op_eq (pv 9) (pv 4) (nomark _)) pe_int pe_int))) pa_nil)) pa_nil))))))))))), ?_⟩
    repeat' (walk_at "jv")
    refine ⟨v, o, o2, qs, os, ps, rs, rfl, hd, W, ho.sq, pm, ho2.sq, pm2, fun H1 k1 => ?_⟩
    replace hd := Dp.same k1 _ _ hd
    replace ho := ho.same k1
    replace ho2 := ho2.same k1
    repeat' (walk_at "jv")
    refine ⟨v, o, qs, ps, rs, rfl, hd, W, ho, pm, fun T H2 k2 d2 => ?_⟩
    replace hd := Dp.same k2 _ _ hd
    replace ho2 := ho2.same k2
    replace k1 := k1.trans k2
    clear k2 ho
    obtain ⟨T', us, eT, sT, dT⟩ := tup_parts d2
    injection eT with eT
    subst eT
    have hul : us.length ≤ 14 := by
      rw [DpAll.len dT, List.length_map]
      unfold arr
      rw [List.length_map]
      exact W.le14
    have hua : us.length = (arr qs rs).length := by rw [DpAll.len dT, List.length_map]
    repeat' (walk_at "jv")
    refine c_tup us (fun D i H' => H2 D = none ∧ Same H2 H' ∧ LsD K H' D ((((arr qs rs).take i).filter fun p => decide (p ∉ arr os rs)).map roadD)) (fun D nD => ⟨nD, Same.upd_new nD, LsD.nil upd_same⟩) (fun D i H' _ h => TK.same h.2.1 _ _ sT) (fun D i x H' hx h => ?_) (fun D H3 h => ?_)
    · obtain ⟨nD, kD, lD⟩ := h
      obtain ⟨r, t, hr2, rfl, st⟩ := road_get (DpAll.same kD _ _ dT) hx
      have hrm := List.mem_of_getElem? hr2
      have hd3 := Dp.same kD _ _ hd
      have ho3 := ho2.same kD
      have nr := arr_names W _ r hrm
      repeat' (walk_at "jv")
      refine ⟨v, o2, os, ps, rs, rfl, hd3, W, ho3, pm2, fun T3 H4 k4 d4 => ?_⟩
      have lD2 := lD.same k4
      have st4 := TK.same (K := K) k4 _ _ st
      have dx : Dp K H4 (.ref t) (roadD r) := .tup st4 (.cons (.str _) (.cons (.str _) .nil))
      repeat' (walk_at "jv")
      refine ⟨roadD r, (arr os rs).map roadD, dx, .inr d4, SeqAt.canLay_of_shaped (road_shaped nr), SeqAt.canLay_of_shaped (rs_shaped (arr_names W _)), by show 0 + 1 ≤ 60; decide, ?_⟩
      rw [if_pos rfl, roads_any]
      have ef : (((arr qs rs).take (i + 1)).filter fun p => decide (p ∉ arr os rs)) = (((arr qs rs).take i).filter fun p => decide (p ∉ arr os rs)) ++ [r].filter (fun p => decide (p ∉ arr os rs)) := by rw [take_push hr2, List.filter_append]
      rw [ef]
      obtain ⟨us2, e2, dd2, t2⟩ := id lD2
      have hu2 : us2.length ≤ 14 := by
        have e9 := DpAll.len dd2
        rw [List.length_map] at e9
        have := List.length_filter_le (fun p => decide (p ∉ arr os rs)) ((arr qs rs).take i)
        rw [List.length_take] at this
        omega
      by_cases c : r ∈ arr os rs
      · rw [List.filter_cons_of_neg (by simpa using c), List.filter_nil, List.append_nil, decide_eq_true c]
        repeat' (first | (exfalso; rename_i hne; exact hne rfl) | walk_at "jv")
        exact ⟨nD, fun b o z => k4 _ _ (kD _ _ z), lD2⟩
      · rw [List.filter_cons_of_pos (by simpa using c), List.filter_nil, decide_eq_false c]
        repeat' (first | (exfalso; rename_i hne; exact hne rfl) | walk_at "jv")
        refine ⟨nD, fun b o z => ?_, ?_⟩
        · rw [upd_ne (fun w => by rw [w, nD] at z; cases z)]
          exact k4 _ _ (kD _ _ z)
        · rw [List.map_append]
          exact LsD.push e2 dd2 t2 dx rfl
    obtain ⟨nD, kD, lD⟩ := h
    rw [hua, List.take_of_length_le (Nat.le_refl _)] at lD
    replace lD : LsD K H3 D ((unlikeL qs os rs).map roadD) := lD
    replace hd := Dp.same kD _ _ hd
    replace k1 := k1.trans kD
    clear kD nD dT sT d2 ho2 hua H2
    obtain ⟨us3, e3, d3, t3⟩ := lD
    repeat' (walk_at "jv")
    refine i_truth ?_
    repeat' (walk_at "jv")
    refine ⟨_, .inl ⟨_, sq_lst e3, rfl⟩, ?_⟩
    cases hu : unlikeL qs os rs with
    | nil =>
      rw [hu] at d3
      cases d3
      repeat' (first | (exfalso; rename_i hne; exact hne rfl) | walk_at "jv")
      exact q1 hu _ k1
    | cons r0 l0 =>
      obtain ⟨x, y⟩ := r0
      obtain ⟨hx, hy, hxy, hrd, _, _⟩ := unlike_get W pm pm2 (p := (x, y)) (by rw [hu]; exact List.mem_cons_self)
      rw [hu] at d3
      cases d3 with
      | @cons u _ us4 _ dr d4 =>
      obtain ⟨t0, us5, rfl, st0, d5⟩ := tup_parts (ds := [.str x, .str y]) dr
      cases d5 with
      | cons g1 g2 =>
      cases g2 with
      | cons g3 g4 =>
      cases g4
      cases g1
      cases g3
      replace q := q2 x y l0 hu
      clear q1 q2 hul t3 d4 dr
      obtain ⟨wt, tp, trr, xs, rfl, s1, s2, s3, dd3, drr, dpl⟩ := web_parts hd
      clear dd3 drr dpl s3 hd
      refine ite_no (fun h => nomatch h) ?_
      repeat' (first | (exfalso; rename_i hne; exact hne rfl) | walk_at "jv")
      refine i_disp fun G nG => ?_
      have s13 := s1
      have s23 := s2
      have k13 := k1
      have kG := Same.upd_new (o := .dK []) nG
      have eG : (upd H3 G (.dK [])) G = some (.dK []) := upd_same
      generalize upd H3 G (.dK []) = H4 at *
      have nG3 := nG
      replace s1 := TK.same kG _ _ s1
      replace s2 := TK.same kG _ _ s2
      replace k1 := Same.trans k1 kG
      refine i_pairs ?_
      repeat' (walk_at "jv")
      intro c1 nc1
      have kc := Same.upd_new (o := .tup [.str "copy", .str y]) nc1
      have ec1 : (upd H4 c1 (.tup [.str "copy", .str y])) c1 = some (.tup [.str "copy", .str y]) := upd_same
      have nGc1 := ne_of_none eG nc1
      generalize upd H4 c1 (.tup [.str "copy", .str y]) = H5 at *
      replace s1 := TK.same kc _ _ s1
      replace s2 := TK.same kc _ _ s2
      replace k1 := Same.trans k1 kc
      replace eG := kc _ _ eG
      have kG5 := kG.trans kc
      clear kc nc1 kG
      refine i_pairs ?_
      repeat' (walk_at "jv")
      intro c2 nc2
      have kc := Same.upd_new (o := .tup [.str "copy", .str x]) nc2
      have ec2 : (upd H5 c2 (.tup [.str "copy", .str x])) c2 = some (.tup [.str "copy", .str x]) := upd_same
      have nGc2 := ne_of_none eG nc2
      generalize upd H5 c2 (.tup [.str "copy", .str x]) = H6 at *
      replace s1 := TK.same kc _ _ s1
      replace s2 := TK.same kc _ _ s2
      replace k1 := Same.trans k1 kc
      replace eG := kc _ _ eG
      replace ec1 := kc _ _ ec1
      replace kG5 := kG5.trans kc
      clear kc nc2
      refine i_pairs0 ?_
      refine ⟨eG, [(Sum.inr x, .ref c1), (Sum.inr y, .ref c2)], rfl, by show 2 ≤ 15; decide, ?_⟩
      have kD : Same H3 (upd H6 G (.dK (mergeK [] [(Sum.inr x, V.ref c1), (Sum.inr y, V.ref c2)]))) := fun b o z => (upd_ne (ne_of_none z nG3)).trans (kG5 _ _ z)
      have eG7 : (upd H6 G (.dK (mergeK [] [(Sum.inr x, V.ref c1), (Sum.inr y, V.ref c2)]))) G = some (.dK (mergeK [] [(Sum.inr x, V.ref c1), (Sum.inr y, V.ref c2)])) := upd_same
      have d1 : Dp K (upd H6 G (.dK (mergeK [] [(Sum.inr x, V.ref c1), (Sum.inr y, V.ref c2)]))) (.ref c1) (copyD y) := .tup (sq_tup ((upd_ne (Ne.symm nGc1)).trans ec1)) (.cons (.str _) (.cons (.str _) .nil))
      have d2 : Dp K (upd H6 G (.dK (mergeK [] [(Sum.inr x, V.ref c1), (Sum.inr y, V.ref c2)]))) (.ref c2) (copyD x) := .tup (sq_tup ((upd_ne (Ne.symm nGc2)).trans ec2)) (.cons (.str _) (.cons (.str _) .nil))
      have hval : ∀ z : Str, valV (mergeK [] [((Sum.inr x : L2.Key), V.ref c1), (Sum.inr y, V.ref c2)]) (Sum.inr z) = if z = x then some (V.ref c1) else if z = y then some (V.ref c2) else none := fun z => by
        show valV (putK (putK [] (Sum.inr x) (V.ref c1)) (Sum.inr y) (V.ref c2)) (Sum.inr z) = _
        rw [valV_put, valV_put]
        by_cases a : z = x
        · rw [if_pos a, a, if_neg (fun e : (Sum.inr x : L2.Key) = Sum.inr y => hxy (by injection e)), if_pos rfl]
        · rw [if_neg a]
          by_cases b : z = y
          · rw [if_pos b, b, if_pos rfl]
          · rw [if_neg b, if_neg (fun e : (Sum.inr z : L2.Key) = Sum.inr y => b (by injection e)), if_neg (fun e : (Sum.inr z : L2.Key) = Sum.inr x => a (by injection e))]
            rfl
      generalize upd H6 G (.dK (mergeK [] [(Sum.inr x, V.ref c1), (Sum.inr y, V.ref c2)])) = H7 at *
      replace s1 := TK.same (K := K) kD _ _ s13
      replace s2 := TK.same (K := K) kD _ _ s23
      replace k1 := k13.trans kD
      clear s13 s23 k13 kD eG kG5 ec1 ec2 nGc1 nGc2 nG3 nG st0 e3
      generalize mergeK [] [((Sum.inr x : L2.Key), V.ref c1), (Sum.inr y, V.ref c2)] = kvs at *
      have h8 := W.le8
      repeat' (walk_at "jv")
      refine c_tup (ps.map V.str) (fun D i H' => H7 D = none ∧ Same H7 H' ∧ LsD K H' D ((ps.take i).map (partR x y))) (fun D nD => ⟨nD, Same.upd_new nD, LsD.nil upd_same⟩) (fun D i H' _ h => TK.same h.2.1 _ _ s2) (fun D i u H' hu2 h => ?_) (fun D H8 h => ?_)
      · obtain ⟨nD, kD, lD⟩ := h
        rw [List.getElem?_map] at hu2
        cases hg : ps[i]? with
        | none => rw [hg] at hu2; cases hu2
        | some z =>
        rw [hg] at hu2
        obtain rfl : V.str z = u := Option.some.inj hu2
        have eGd := kD _ _ eG7
        repeat' (walk_at "jv")
        refine i_dGet2 ?_
        repeat' (walk_at "jv")
        refine ⟨G, rfl, .inl ⟨_, .inl eGd⟩, ?_⟩
        repeat' (walk_at "jv")
        intro pk npk
        have kp := Same.upd_new (o := .tup [.str "keep"]) npk
        have dk : Dp K (upd H' pk (.tup [.str "keep"])) (.ref pk) (.tuple [.str "keep"]) := .tup (sq_tup upd_same) (.cons (.str _) .nil)
        generalize upd H' pk (.tup [.str "keep"]) = H9 at *
        have k7 := kD.trans kp
        refine ⟨_, DGet.k (k := Sum.inr z) (kp _ _ eGd), ?_⟩
        rw [hval z]
        obtain ⟨us6, e6, d6, t6⟩ := lD.same kp
        have hu6 : us6.length ≤ 8 := by
          have e9 := DpAll.len d6
          rw [List.length_map, List.length_take] at e9
          omega
        have dz : ∃ b, ((if z = x then some (V.ref c1) else if z = y then some (V.ref c2) else none).getD (V.ref pk)) = V.ref b ∧ Dp K H9 (V.ref b) (partR x y z) := by
          unfold partR
          by_cases a : z = x
          · rw [if_pos a, if_pos a]
            exact ⟨c1, rfl, Dp.same k7 _ _ d1⟩
          · rw [if_neg a, if_neg a]
            by_cases b : z = y
            · rw [if_pos b, if_pos b]
              exact ⟨c2, rfl, Dp.same k7 _ _ d2⟩
            · rw [if_neg b, if_neg b]
              exact ⟨pk, rfl, dk⟩
        obtain ⟨b, eb, db⟩ := dz
        rw [eb]
        have onz : tupOnly (partR x y z) = true := by
          unfold partR
          split
          · rfl
          · split <;> rfl
        repeat' (walk_at "jv")
        refine ⟨nD, fun b o z => ?_, ?_⟩
        · rw [upd_ne (fun w => by rw [w, nD] at z; cases z)]
          exact k7 _ _ z
        · rw [take_push hg, List.map_append]
          exact LsD.push e6 d6 t6 db onz
      obtain ⟨nD, kD, lD⟩ := h
      rw [List.length_map, List.take_of_length_le (Nat.le_refl _)] at lD
      obtain ⟨us6, e6, d6, t6⟩ := lD
      have hu6 : us6.length ≤ 8 := by
        have e9 := DpAll.len d6
        rw [List.length_map] at e9
        omega
      replace s1 := TK.same kD _ _ s1
      replace s2 := TK.same kD _ _ s2
      replace k1 := Same.trans k1 kD
      clear kD nD d1 d2 eG7 hval H7
      repeat' (walk_at "jv")
      intro R nR
      have kR := Same.upd_new (o := .tup us6) nR
      have dR : Dp K (upd H8 R (.tup us6)) (.ref R) (.tuple (partRs ps x y)) := .tup (sq_tup upd_same) (DpAll.same kR _ _ d6)
      generalize upd H8 R (.tup us6) = H9 at *
      replace s1 := TK.same kR _ _ s1
      replace s2 := TK.same kR _ _ s2
      replace k1 := Same.trans k1 kR
      clear kR nR e6 d6 t6 H8
      repeat' (walk_at "jv")
      refine c_tup (ps.map V.str) (fun D i H' => H9 D = none ∧ Same H9 H' ∧ H' D = some (.lst (natsV ((ps.take i).map fun z => if z = x then 1 else 0)))) (fun D nD => ⟨nD, Same.upd_new nD, upd_same⟩) (fun D i H' _ h => TK.same h.2.1 _ _ s2) (fun D i u H' hu2 h => ?_) (fun D HA h => ?_)
      · obtain ⟨nD, kD, eD⟩ := h
        rw [List.getElem?_map] at hu2
        cases hg : ps[i]? with
        | none => rw [hg] at hu2; cases hu2
        | some z =>
        rw [hg] at hu2
        obtain rfl : V.str z = u := Option.some.inj hu2
        have hln : (natsV ((ps.take i).map fun z => if z = x then 1 else 0)).length ≤ 8 := by
          rw [nats_len, List.length_map, List.length_take]
          omega
        repeat' (walk_at "jv")
        · rename_i hc
          have hz : z = x := by simpa using hc
          refine ⟨nD, fun b o z => ?_, ?_⟩
          · rw [upd_ne (fun w => by rw [w, nD] at z; cases z)]
            exact kD _ _ z
          · rw [upd_same, take_push hg, List.map_append, List.map_cons, List.map_nil, if_pos hz]
            exact congrArg (fun l => some (HO.lst l)) (nats_snocP _ _).symm
        · rename_i hc
          have hz : ¬ z = x := by simpa using hc
          refine ⟨nD, fun b o z => ?_, ?_⟩
          · rw [upd_ne (fun w => by rw [w, nD] at z; cases z)]
            exact kD _ _ z
          · rw [upd_same, take_push hg, List.map_append, List.map_cons, List.map_nil, if_neg hz]
            exact congrArg (fun l => some (HO.lst l)) (nats_snocP _ _).symm
      obtain ⟨nD, kD, eD⟩ := h
      rw [List.length_map, List.take_of_length_le (Nat.le_refl _)] at eD
      have dR2 := Dp.same kD _ _ dR
      replace k1 := Same.trans k1 kD
      clear dR kD nD s1 s2 H9
      repeat' (walk_at "jv")
      intro S nS
      have kS := Same.upd_new (o := .tup (natsV (ps.map fun z => if z = x then 1 else 0))) nS
      have sS : SqT K (upd HA S (.tup (natsV (ps.map fun z => if z = x then 1 else 0)))) S (natsV (partS ps x)) := sq_tup upd_same
      generalize upd HA S (.tup (natsV (ps.map fun z => if z = x then 1 else 0))) = HB at *
      replace dR2 := Dp.same kS _ _ dR2
      replace k1 := k1.trans kS
      clear kS nS eD HA
      repeat' (walk_at "jv")
      intro TT nT
      have kT := Same.upd_new (o := .tup [.ref R, .ref S]) nT
      exact q TT R S _ (k1.trans kT) (sq_tup upd_same) (Dp.same kT _ _ dR2) (TK.same (K := K) kT _ _ sS)
end
end
section
open L2 PySem PySem.Spec PyProof.Rows
abbrev s_is_state : Stmt := topS 37
theorem sc_is_state : FnScope ["hall", "thing"] ["hall", "thing"] (defScope s_is_state) := ⟨rfl, rfl, rfl, by decide +kernel, rfl, by decide +kernel, by decide +kernel⟩
abbrev s_parting_holds : Stmt := topS 50
theorem sc_parting_holds : FnScope ["web", "order", "other", "thing", "rules", "state", "hall", "rule"] ["web", "order", "other", "thing"] (defScope s_parting_holds) := ⟨rfl, rfl, rfl, by decide +kernel, rfl, by decide +kernel, by decide +kernel⟩
def natsOf : PyData → List Nat
  | .tuple ds => ds.map kOf
  | _ => []
def prtOf : PyData → List PyData
  | .tuple ds => ds
  | _ => []
def partL : List Str := ["keep", "copy"]
def sortB : PyData → Bool
  | .tuple (.str z :: _) => decide (z ∈ partL)
  | _ => false
def partB (ps : List Str) (rs : List (Str × Str)) (qs os : List Str) : PyData → Bool
  | .tuple [dr, dt] => (hallB (.tuple [.int 2, webD ps rs, dr]) && statesB 2 ps.length dt) && ((prtOf dr).all sortB && !decide (dayN 2 ps rs (prtOf dr) (natsOf dt) qs = dayN 2 ps rs (prtOf dr) (natsOf dt) os))
  | _ => false
def spIsStateO (K : PySem.W.Frag) : Sp := fun vs H Q _ => ∃ (a : Addr) (v x : V) (d : PyData) (k : Nat) (ps : List Str) (rs : List (Str × Str)) (ds : List PyData), vs = [v, x] ∧ Dp K H v (hallD k ps rs ds) ∧ IsHall k ps rs ds ∧ Ob K H a x d ∧ ∀ H', Same H H' → Q (.bl (statesB k ps.length d)) H'
def spPartHolds (K : PySem.W.Frag) : Sp := fun vs H Q _ => ∃ (a : Addr) (v : V) (o o2 : Addr) (x : V) (d : PyData) (qs os ps : List Str) (rs : List (Str × Str)), vs = [v, .ref o, .ref o2, x] ∧ WF K H v ps rs ∧ IsWeb ps rs ∧ SqT K H o (qs.map V.str) ∧ qs.Perm ps ∧ SqT K H o2 (os.map V.str) ∧ os.Perm ps ∧ Ob K H a x d ∧ okD d = true ∧ ∀ H', Same H H' → Q (.bl (partB ps rs qs os d)) H'
theorem part_not {ps : List Str} {rs : List (Str × Str)} {qs os : List Str} {ds : List PyData} (h : ds.length ≠ 2) : partB ps rs qs os (.tuple ds) = false := by
  match ds, h with
  | [], _ => rfl
  | [_], _ => rfl
  | [_, _], h => exact absurd rfl h
  | _ :: _ :: _ :: _, _ => rfl
theorem hall_two {ps : List Str} {rs : List (Str × Str)} {d : PyData} (h : hallB (.tuple [.int 2, webD ps rs, d]) = true) : ∃ es, d = .tuple es ∧ IsHall 2 ps rs es := by
  obtain ⟨k, ps', rs', es, e, hH⟩ := hall_is h
  have e1 : [PyData.int 2, webD ps rs, d] = [.int (k : Int), webD ps' rs', .tuple es] := PyData.tuple.inj e
  injection e1 with e2 e3
  injection e3 with e4 e5
  injection e5 with e6 _
  have hk : (2 : Int) = (k : Int) := PyData.int.inj e2
  obtain rfl : k = 2 := by omega
  have p1 : ps = ps' := by
    have := congrArg webPs e4
    rwa [show webPs (webD ps rs) = ps from txt_names ps, show webPs (webD ps' rs') = ps' from txt_names ps'] at this
  have p2 : rs = rs' := by
    have := congrArg webRs e4
    rwa [show webRs (webD ps rs) = rs from pair_roads rs, show webRs (webD ps' rs') = rs' from pair_roads rs'] at this
  subst p1
  subst p2
  exact ⟨es, e6, hH⟩
theorem rows_lay : ∀ {ts : List (List Nat)}, (∀ t ∈ ts, ∀ n ∈ t, n < 300) → PyData.canLayAll0 (ts.map intsD) = true
  | [], _ => rfl
  | t :: ts, h => by
    show (PyData.canLayAll0 (t.map iD) && PyData.canLayAll0 (ts.map intsD)) = true
    rw [(ints_data t (h t List.mem_cons_self)).1, rows_lay fun u hu => h u (List.mem_cons_of_mem _ hu)]
    rfl
theorem rule_lay {k : Nat} {near : List Str} {d : PyData} (h : RuleD k near d) (hk : k ≤ 3) (hn : ∀ z ∈ near, nmOk z = true) : d.canLay0 = true := by
  cases h with
  | table t hl hx =>
    show (PyData.canLay0 (.str "table") && (PyData.canLayAll0 (t.map iD) && true)) = true
    rw [(ints_data t fun n h => by have := hx n h; omega).1]
    decide +kernel
  | sum ts hl hx =>
    show (PyData.canLay0 (.str "sum") && (PyData.canLayAll0 (ts.map intsD) && true)) = true
    rw [rows_lay fun t ht n hn => by have := (hx t ht).2 n hn; omega]
    decide +kernel
  | most n hn =>
    show (PyData.canLay0 (.str "most") && ((iD n).canLay0 && true)) = true
    rw [(small_int (by omega)).1]
    decide +kernel
  | copy z hz =>
    have e : PyData.canLayAll0 ([z].map PyData.str) = true := strs_lay fun y hy => by
      rw [List.mem_singleton.mp hy]
      exact hn z hz
    show (PyData.canLay0 (.str "copy") && PyData.canLayAll0 ([z].map PyData.str)) = true
    rw [e]
    decide +kernel
  | _ => decide +kernel
theorem hall_rule {k : Nat} {ps : List Str} {rs : List (Str × Str)} {es : List PyData} (hH : IsHall k ps rs es) : ∀ d ∈ es, ∃ z ∈ ps, RuleD k (nearL ps rs z) d := fun d hd => by
  obtain ⟨i, hi, rfl⟩ := List.getElem_of_mem hd
  have h2 : i < ps.length := by rw [← hH.len]; exact hi
  exact ⟨ps[i], List.getElem_mem h2, hH.rules i _ _ (List.getElem?_eq_getElem h2) (List.getElem?_eq_getElem hi)⟩
theorem lay_all : ∀ {es : List PyData}, (∀ d ∈ es, d.canLay0 = true) → PyData.canLayAll0 es = true
  | [], _ => rfl
  | d :: es, h => by
    show (d.canLay0 && PyData.canLayAll0 es) = true
    rw [h d List.mem_cons_self, lay_all fun e he => h e (List.mem_cons_of_mem _ he)]
    rfl
theorem hall_lay {k : Nat} {ps : List Str} {rs : List (Str × Str)} {es : List PyData} (hH : IsHall k ps rs es) : PyData.canLayAll0 es = true := lay_all fun d hd => by
  obtain ⟨z, hz, r⟩ := hall_rule hH d hd
  exact rule_lay r (by rcases hH.two with e | e <;> omega) fun y hy => hH.web.names.2 y (List.mem_filter.mp hy).1
theorem hall_onlyE {k : Nat} {ps : List Str} {rs : List (Str × Str)} {es : List PyData} (hH : IsHall k ps rs es) : tupOnlyAll es = true := rules_only fun d hd => by
  obtain ⟨z, _, r⟩ := hall_rule hH d hd
  exact ⟨_, _, r⟩
theorem rule_sort {k : Nat} {near : List Str} {d : PyData} (h : RuleD k near d) : ∃ z r, d = .tuple (.str z :: r) := by
  cases h <;> exact ⟨_, _, rfl⟩
theorem nats_ints (t : List Nat) : natsOf (intsD t) = t := by
  show (t.map fun n => PyData.int ((n : Nat) : Int)).map kOf = t
  rw [List.map_map]
  exact List.map_id t
section
variable {base : Heap} {P : Program} {w : World} {K : PySem.W.Frag} {mg : Str → Option Value}
theorem ok_is_stateO (D : Dn K mg "is_state" s_is_state ["hall", "thing"]) (B : Bn mg) (C_are_states : Cl P w K mg base 2 "are_states" ["thing", "k", "many"] (spAreStatesO K)) : Cl P w K mg base 3 "is_state" ["hall", "thing"] (spIsStateO K) := by
  refine D.cl sc_is_state (fun vs H Q E h => ?_) (fun f cdv A outer s H vs Q E hr h => ?_)
  · obtain ⟨a, v, x, d, k, ps, rs, ds, rfl, _⟩ := h
    rfl
  · obtain ⟨a, v, x, d, k, ps, rs, ds, rfl, hd, hH, ox, q⟩ := h
    obtain ⟨ta, wv, tr, us, rfl, sh, hw, sr, dr⟩ := hall_parts hd
    obtain ⟨wt, tp, trr, xs, rfl, s1, s2, s3, d3, drr, dpl⟩ := web_parts hw
    have h8 := hH.web.le8
    refine ⟨_, (pss_one (ps_ret (pe_c C_are_states hr (pa_cons (pv 1) (pa_cons (pe_ix (k_ixT (K := K)) (pv 0) pe_int (fun _ _ => rfl)) (pa_cons (pe_callB (k_len (K := K)) rfl B.len_ (by decide +kernel) (pa_cons (pe_ix (k_ixT (K := K)) (pe_ix (k_ixT (K := K)) (pv 0) pe_int (fun _ _ => rfl)) pe_int (fun _ _ => rfl)) pa_nil)) pa_nil)))))), ?_⟩
    repeat' (walk_at "jv")
    exact ⟨a, x, d, k, ps.length, by rw [List.length_map]; rfl, ox, by omega, q⟩
theorem ok_parting_holds (D : Dn K mg "parting_holds" s_parting_holds ["web", "order", "other", "thing"]) (B : Bn mg) (hp : ∃ T, mg "PARTING_SORTS" = some (.ref T) ∧ ∀ H, SqT K H T (partL.map V.str)) (C_need_two_orders : Cl P w K mg base 7 "need_two_orders" ["web", "order", "other"] (spNeedTwo K)) (C_is_hall : Cl P w K mg base 7 "is_hall" ["thing"] (spIsHallO K))
    (C_is_state : Cl P w K mg base 3 "is_state" ["hall", "thing"] (spIsStateO K)) (C_passed : Cl P w K mg base 5 "passed" ["hall", "order", "state"] (spPassed K)) : Cl P w K mg base 8 "parting_holds" ["web", "order", "other", "thing"] (spPartHolds K) := by
  obtain ⟨T, c_PART, hT⟩ := hp
  refine D.cl sc_parting_holds (fun vs H Q E h => ?_) (fun f cdv A outer s H vs Q E hr h => ?_)
  · obtain ⟨a, v, o, o2, x, d, qs, os, ps, rs, rfl, _⟩ := h
    rfl
  · obtain ⟨a, v, o, o2, x, d, qs, os, ps, rs, rfl, hw, W, ho, pm, ho2, pm2, ox, ok, q⟩ := h
    refine ⟨_, (pss_cons (ps_expr (pe_c C_need_two_orders hr (pa_cons (pv 0) (pa_cons (pv 1) (pa_cons (pv 2) pa_nil)))))
      (pss_cons (ps_if (PW.pt (pw_or (pt_not (pt_val (pe_callB (k_isi (K := K)) rfl B.isinstance_ (by decide +kernel) (pa_cons (pv 3) (pa_cons (pe_ty (T := "tuple") B.tuple_ (by decide +kernel)) pa_nil))))) (pw_or1 (pt_cmpR op_ne (pe_callB (k_len (K := K)) rfl B.len_ (by decide +kernel) (pa_cons (pv 3) pa_nil)) pe_int (nomark _))))) (pss_one (ps_ret pe_bl)) pss_nil)
      (pss_cons (ps_asg (pv 3) (kpg_tup (K := K) (n := 2) rfl (pgs_cons (pg_name (i := 4) sc_parting_holds.nd rfl (by first | exact Or.inl rfl | exact Or.inr rfl)) (pgs_cons (pg_name (i := 5) sc_parting_holds.nd rfl (by first | exact Or.inl rfl | exact Or.inr rfl)) pgs_nil))))
      (pss_cons (ps_set (i := 6) sc_parting_holds.nd rfl (by first | exact Or.inl rfl | exact Or.inr rfl) (pe_tup (pa_cons pe_int (pa_cons (pv 0) (pa_cons (pv 4) pa_nil)))))
      (pss_cons (ps_if (PW.pt (pw_or (pt_not (pt_val (pe_c C_is_hall hr (pa_cons (pv 6) pa_nil)))) (pw_or1 (pt_not (pt_val (pe_c C_is_state hr (pa_cons (pv 6) (pa_cons (pv 5) pa_nil)))))))) (pss_one (ps_ret pe_bl)) pss_nil)
      (pss_cons (ps_if (pt_not (pt_val (pe_callB (k_all (K := K) rfl) rfl B.all_ (by decide +kernel) (pa_cons (pe_lc (own := [("rule", 7)]) rfl sc_parting_holds.nd (kpi_tup (K := K) (pv 4)) (blkOk_by (N := ["web", "order", "other", "thing", "rules", "state", "hall", "rule"]) (sc := defScope s_parting_holds) (by decide +kernel)) (fun _ _ _ _ _ => (pg_name (i := 7) sc_parting_holds.nd rfl (by first | exact Or.inl rfl | exact Or.inr rfl))) (fun _ _ _ _ _ => pts_nil) (fun _ _ _ _ _ => (pe_cmpR (k_inS (K := K)) (pe_ix (k_ixT (K := K)) (pv 7) pe_int (fun _ _ => rfl)) (gl_ref c_PART) (by rfl)))) pa_nil)))) (pss_one (ps_ret pe_bl)) pss_nil)
      (pss_one (ps_ret (pe_cmpR (k_neD (K := K) hr.units) (pe_c C_passed hr (pa_cons (pv 6) (pa_cons (pv 1) (pa_cons (pv 5) pa_nil)))) (pe_c C_passed hr (pa_cons (pv 6) (pa_cons (pv 2) (pa_cons (pv 5) pa_nil)))) (nomark _)))))))))), ?_⟩
    repeat' (walk_at "jv")
    refine ⟨v, o, o2, qs, os, ps, rs, rfl, hw.dp, W, ho, pm, ho2, pm2, fun H1 k1 => ?_⟩
    replace hw := hw.same k1
    replace ho := TK.same (K := K) k1 _ _ ho
    replace ho2 := TK.same (K := K) k1 _ _ ho2
    replace ox := ox.same k1
    repeat' (walk_at "jv")
    refine is_tupO ox ?_
    refine ⟨_, rfl, ?_⟩
    cases c : isT d with
    | false =>
      have e : partB ps rs qs os d = false := by cases d <;> first | rfl | cases c
      rw [e] at q
      repeat' (walk_at "jv")
      exact q _ k1
    | true =>
      obtain ⟨ds, rfl⟩ := isT_tup c
      cases ox with
      | @tup t xs ds sx al =>
      have hxl := ObAll.len al
      repeat' (walk_at "jv")
      · rw [part_not (by omega)] at q
        exact q _ k1
      · rename_i h2
        have h2' : ds.length = 2 := by omega
        cases al with
        | nil => exact absurd h2' (by decide)
        | @cons x1 _ d1 _ o1 al =>
        cases al with
        | nil => exact absurd h2' (by simp)
        | @cons x2 xs2 d2 ds2 o3 al =>
        obtain rfl : ds2 = [] := List.eq_nil_of_length_eq_zero (by rw [List.length_cons, List.length_cons] at h2'; omega)
        cases al
        have ok1 := ok_tup.mp ok d1 List.mem_cons_self
        replace q : ∀ H', Same H H' → Q (.bl ((hallB (.tuple [.int 2, webD ps rs, d1]) && statesB 2 ps.length d2) && ((prtOf d1).all sortB && !decide (dayN 2 ps rs (prtOf d1) (natsOf d2) qs = dayN 2 ps rs (prtOf d1) (natsOf d2) os)))) H' := q
        repeat' (walk_at "jv")
        intro p np
        have kp := Same.upd_new (o := .tup [V.int 2, v, x1]) np
        have sp0 : SqT K (upd H1 p (.tup [V.int 2, v, x1])) p [V.int 2, v, x1] := sq_tup upd_same
        replace hw := hw.same kp
        replace ho := TK.same (K := K) kp _ _ ho
        replace ho2 := TK.same (K := K) kp _ _ ho2
        replace o1 := o1.same kp
        replace o3 := o3.same kp
        replace k1 := k1.trans kp
        generalize upd H1 p (.tup [V.int 2, v, x1]) = H2 at *
        clear kp np sx hxl h2
        repeat' (walk_at "jv")
        refine ⟨a, .ref p, .tuple [.int 2, webD ps rs, d1], rfl, .tup sp0 (.cons (.int _) (.cons (Ob.of _ _ (web_only ps rs) hw.dp) (.cons o1 .nil))), ok_tup.mpr (fun d hd => ?_), fun H3 k3 => ?_⟩
        · rcases List.mem_cons.mp hd with rfl | hd
          · rfl
          · rcases List.mem_cons.mp hd with rfl | hd
            · exact okD_web W
            · rw [List.mem_singleton.mp hd]
              exact ok1
        replace sp0 := TK.same (K := K) k3 _ _ sp0
        replace hw := hw.same k3
        replace ho := TK.same (K := K) k3 _ _ ho
        replace ho2 := TK.same (K := K) k3 _ _ ho2
        replace o1 := o1.same k3
        replace o3 := o3.same k3
        replace k1 := k1.trans k3
        refine ⟨_, rfl, ?_⟩
        cases ch : hallB (.tuple [.int 2, webD ps rs, d1]) with
        | false =>
          rw [ch, Bool.false_and, Bool.false_and] at q
          repeat' (walk_at "jv")
          exact q _ k1
        | true =>
          obtain ⟨es, rfl, hH⟩ := hall_two ch
          rw [ch, Bool.true_and] at q
          repeat' (walk_at "jv")
          cases o1 with
          | @tup T1 us1 _ su au =>
          have dT : Dp K H3 (.ref T1) (.tuple es) := .tup su (ObAll.dp _ _ (hall_lay hH) au)
          have hf : HF K H3 (.ref p) 2 ps rs es := ⟨p, T1, v, rfl, sp0, hw, dT, hall_onlyE hH⟩
          have hul : us1.length ≤ 8 := by
            rw [ObAll.len au, hH.len]
            exact W.le8
          refine ⟨a, .ref p, x2, d2, 2, ps, rs, es, rfl, hf.dp, hH, o3, fun H4 k4 => ?_⟩
          replace hf := hf.same k4
          replace ho := TK.same (K := K) k4 _ _ ho
          replace ho2 := TK.same (K := K) k4 _ _ ho2
          replace su := TK.same (K := K) k4 _ _ su
          replace au := au.same k4
          replace o3 := o3.same k4
          replace k1 := k1.trans k4
          clear dT sp0 hw k4 k3
          cases cs : statesB 2 ps.length d2 with
          | false =>
            rw [cs, Bool.false_and] at q
            repeat' (walk_at "jv")
            exact q _ k1
          | true =>
          obtain ⟨t2, rfl, tl, tk⟩ := states_is cs
          rw [cs, Bool.true_and, nats_ints] at q
          replace q : ∀ H', Same H H' → Q (.bl (es.all sortB && !decide (dayN 2 ps rs es t2 qs = dayN 2 ps rs es t2 os))) H' := q
          repeat' (walk_at "jv")
          refine c_tup us1 (fun D i H' => H4 D = none ∧ Same H4 H' ∧ H' D = some (.lst (((es.take i).map sortB).map V.bl))) (fun D nD => ⟨nD, Same.upd_new nD, upd_same⟩) (fun D i H' _ h => TK.same h.2.1 _ _ su) (fun D i x H' hx h => ?_) (fun D H' h => ?_)
          · obtain ⟨nD, kD, eD⟩ := h
            have hi := (List.getElem?_eq_some_iff.mp hx).1
            obtain ⟨d, hd, od⟩ := ObAll.get (au.same kD) hx
            obtain ⟨z0, _, rr⟩ := hall_rule hH d (List.mem_of_getElem? hd)
            obtain ⟨z, r, rfl⟩ := rule_sort rr
            cases od with
            | @tup b xs3 _ sb3 ab3 =>
            cases ab3 with
            | @cons y0 ys _ _ oz ab4 =>
            cases oz
            have hb : SqA K H' T (partL.map V.str) := SqA.t (hT H')
            repeat' (walk_at "jv")
            refine ⟨nD, fun b' o' z' => ?_, ?_⟩
            · rw [upd_ne (fun w => by rw [w, nD] at z'; cases z')]
              exact kD _ _ z'
            · rw [upd_same, List.take_add_one, hd]
              simp only [List.map_append, Option.toList, List.map_cons, List.map_nil]
              rfl
          · obtain ⟨nD, kD, eD⟩ := h
            rw [ObAll.len au, List.take_length] at eD
            replace hf := hf.same kD
            replace ho := TK.same (K := K) kD _ _ ho
            replace ho2 := TK.same (K := K) kD _ _ ho2
            replace o3 := o3.same kD
            replace k1 := k1.trans kD
            repeat' (walk_at "jv")
            have ea : (List.map sortB es).all id = es.all sortB := by
              rw [List.all_map]
              rfl
            rw [ea]
            cases ca : es.all sortB with
            | false =>
              rw [ca, Bool.false_and] at q
              repeat' (walk_at "jv")
              exact q _ k1
            | true =>
              rw [ca, Bool.true_and] at q
              cases o3 with
              | @tup s1 us3 _ ss as =>
              have eN : us3 = natsV t2 := by
                have d3 : DpAll K H' us3 (t2.map fun n => PyData.int ((n : Nat) : Int)) := ObAll.dp _ _ (ints_data t2 fun n h => by have := tk n h; omega).1 as
                exact nats_of _ _ d3
              subst eN
              have mq : ∀ z ∈ qs, z ∈ ps := fun z hz => pm.mem_iff.mp hz
              have mo : ∀ z ∈ os, z ∈ ps := fun z hz => pm2.mem_iff.mp hz
              have t1' := day_lt (rs := rs) (ds := es) hH _ _ mq tk
              have t2' := day_lt (rs := rs) (ds := es) hH _ _ mo tk
              repeat' (walk_at "jv")
              refine ⟨.ref p, o, s1, qs, 2, ps, rs, es, t2, rfl, hf, hH, ho, pm, ss, tl, tk, fun p1 H8 k8 sp1 => ?_⟩
              replace hf := hf.same k8
              replace ho2 := TK.same (K := K) k8 _ _ ho2
              replace ss := TK.same (K := K) k8 _ _ ss
              replace k1 := k1.trans k8
              repeat' (walk_at "jv")
              refine ⟨.ref p, o2, s1, os, 2, ps, rs, es, t2, rfl, hf, hH, ho2, pm2, ss, tl, tk, fun p2 H9 k9 sp2 => ?_⟩
              replace sp1 := TK.same (K := K) k9 _ _ sp1
              replace k1 := k1.trans k9
              repeat' (walk_at "jv")
              refine i_neSt (fun n h => by have := t1' n h; omega) (fun n h => by have := t2' n h; omega) (st_dp sp1) (st_dp sp2) ?_
              exact q _ k1
end
end
section
open L2 PySem PySem.Spec PyProof.Rows
abbrev s__law_is_plain : Stmt := topS 71
theorem sc__law_is_plain : FnScope ["_law_web_here", "_law_place", "_law_thing"] ["_law_web_here", "_law_place", "_law_thing"] (defScope s__law_is_plain) := ⟨rfl, rfl, rfl, by decide +kernel, rfl, by decide +kernel, by decide +kernel⟩
def plainB (near : List Str) : PyData → Bool
  | .tuple [.str s] => decide (s = "keep")
  | .tuple [.str s, .str z] => decide (s = "copy") && decide (z ∈ near)
  | _ => false
def spPlainO (K : PySem.W.Frag) : Sp := fun vs H Q _ => ∃ (a : Addr) (v x : V) (d : PyData) (z : Str) (ps : List Str) (rs : List (Str × Str)), vs = [v, .str z, x] ∧ WF K H v ps rs ∧ IsWeb ps rs ∧ z ∈ ps ∧ Ob K H a x d ∧ SeqAt.shaped d = true ∧ ∀ H', Same H H' → Q (.bl (plainB (nearL ps rs z) d)) H'
theorem lay_mem : ∀ {ds : List PyData}, PyData.canLayAll0 ds = true → ∀ d ∈ ds, d.canLay0 = true
  | [], _, d, h => nomatch h
  | e :: es, h, d, hd => by
    have h' : (e.canLay0 && PyData.canLayAll0 es) = true := h
    rw [Bool.and_eq_true] at h'
    rcases List.mem_cons.mp hd with rfl | hd
    · exact h'.1
    · exact lay_mem h'.2 d hd
theorem depth_mem : ∀ {ds : List PyData} {n : Nat}, PyData.depthAll ds ≤ n → ∀ d ∈ ds, d.depth ≤ n
  | [], n, _, d, h => nomatch h
  | e :: es, n, h, d, hd => by
    have h' : max e.depth (PyData.depthAll es) ≤ n := h
    rcases List.mem_cons.mp hd with rfl | hd
    · omega
    · exact depth_mem (n := n) (by omega) d hd
theorem shaped_mem {ds : List PyData} (h : SeqAt.shaped (.tuple ds) = true) : ∀ d ∈ ds, SeqAt.shaped d = true := fun d hd => by
  have h1 : PyData.canLayAll0 ds = true := SeqAt.canLay_of_shaped h
  have h2 : PyData.depthAll ds + 1 ≤ 64 := SeqAt.depth_of_shaped h
  unfold SeqAt.shaped
  rw [lay_mem h1 d hd, decide_eq_true (depth_mem (n := 64) (by omega) d hd)]
  rfl
theorem eqv_one {d : PyData} {s : Str} (h : PyData.eqv d (.tuple [.str s]) = true) : d = .tuple [.str s] := by
  cases d with
  | tuple ds =>
    match ds, h with
    | [], h => cases h
    | [e], h =>
      have h' : (PyData.eqv e (.str s) && true) = true := h
      rw [Bool.and_true] at h'
      cases e with
      | str x =>
        have : (x == s) = true := h'
        rw [eq_of_beq this]
      | _ => cases h'
    | e :: f :: r, h =>
      have h' : (PyData.eqv e (.str s) && false) = true := h
      rw [Bool.and_false] at h'
      cases h'
  | _ => cases h
theorem eqv_txt {d : PyData} {s : Str} (h : PyData.eqv d (.str s) = true) : d = .str s := by
  cases d with
  | str x =>
    have : (x == s) = true := h
    rw [eq_of_beq this]
  | _ => cases h
theorem eqv_self (s : Str) : PyData.eqv (.str s) (.str s) = true := by
  show (s == s) = true
  exact beq_self_eq_true s
theorem plain_two {near : List Str} {ds : List PyData} (hk : PyData.eqv (.tuple ds) (.tuple [.str "keep"]) = false) (h : ds.length ≠ 2) : plainB near (.tuple ds) = false := by
  match ds, hk, h with
  | [], _, _ => rfl
  | [.str s], hk, _ =>
    refine decide_eq_false fun e => ?_
    subst e
    exact absurd hk (by decide +kernel)
  | [.none], _, _ => rfl
  | [.bool _], _, _ => rfl
  | [.int _], _, _ => rfl
  | [.list _], _, _ => rfl
  | [.tuple _], _, _ => rfl
  | [.dict _], _, _ => rfl
  | [_, _], _, h => exact absurd rfl h
  | _ :: _ :: _ :: _, _, _ =>
    unfold plainB
    split
    · rename_i e
      injection e with e
      injection e with _ e
      injection e
    · rename_i e
      injection e with e
      injection e with _ e
      injection e with _ e
      injection e
    · rfl
theorem plain_no {near : List Str} {d e : PyData} (h : PyData.eqv d (.str "copy") = false) : plainB near (.tuple [d, e]) = false := by
  cases d with
  | str s =>
    cases e with
    | str z =>
      show (decide (s = "copy") && decide (z ∈ near)) = false
      rw [decide_eq_false (fun c => by rw [c, eqv_self] at h; cases h), Bool.false_and]
    | _ => rfl
  | _ => rfl
theorem plain_copy {near : List Str} {e : PyData} : plainB near (.tuple [.str "copy", e]) = oneB near e := by
  cases e with
  | str z =>
    show (decide (("copy" : Str) = "copy") && decide (z ∈ near)) = decide (z ∈ near)
    rw [decide_eq_true rfl, Bool.true_and]
  | _ => rfl
section
variable {base : Heap} {P : Program} {w : World} {K : PySem.W.Frag} {mg : Str → Option Value}
theorem ok_lplain (D : Dn K mg "_law_is_plain" s__law_is_plain ["_law_web_here", "_law_place", "_law_thing"]) (B : Bn mg) (C__law_neighbours : Cl P w K mg base 1 "_law_neighbours" ["_law_web_here", "_law_place"] (spNear K)) : Cl P w K mg base 2 "_law_is_plain" ["_law_web_here", "_law_place", "_law_thing"] (spPlainO K) := by
  refine D.cl sc__law_is_plain (fun vs H Q E h => ?_) (fun f cdv A outer s H vs Q E hr h => ?_)
  · obtain ⟨a, v, x, d, z, ps, rs, rfl, _⟩ := h
    rfl
  · obtain ⟨a, v, x, d, z, ps, rs, rfl, hw, W, hz, ox, sd, q⟩ := h
    refine ⟨_, (pss_cons (ps_if (pt_cmpR (k_eqD (K := K) hr.units) (pv 2) (pe_tup (pa_cons pe_str pa_nil)) (nomark _)) (pss_one (ps_ret (pe_callB (k_isi (K := K)) rfl B.isinstance_ (by decide +kernel) (pa_cons (pv 2) (pa_cons (pe_ty (T := "tuple") B.tuple_ (by decide +kernel)) pa_nil))))) pss_nil)
      (pss_cons (ps_if (PW.pt (pw_or (pt_not (pt_val (pe_callB (k_isi (K := K)) rfl B.isinstance_ (by decide +kernel) (pa_cons (pv 2) (pa_cons (pe_ty (T := "tuple") B.tuple_ (by decide +kernel)) pa_nil))))) (pw_or (pt_cmpR op_ne (pe_callB (k_len (K := K)) rfl B.len_ (by decide +kernel) (pa_cons (pv 2) pa_nil)) pe_int (nomark _)) (pw_or1 (pt_cmpR (k_neD (K := K) hr.units) (pe_ix (k_ixT (K := K)) (pv 2) pe_int (fun _ _ => rfl)) pe_str (nomark _)))))) (pss_one (ps_ret pe_bl)) pss_nil)
      (pss_one (ps_ret (pe_and (pe_callB (k_isi (K := K)) rfl B.isinstance_ (by decide +kernel) (pa_cons (pe_ix (k_ixT (K := K)) (pv 2) pe_int (fun _ _ => rfl)) (pa_cons (pe_ty (T := "str") B.str_ (by decide +kernel)) pa_nil))) (pe_one (pe_cmpR (k_inS (K := K)) (pe_ix (k_ixT (K := K)) (pv 2) pe_int (fun _ _ => rfl)) (pe_c C__law_neighbours hr (pa_cons (pv 0) (pa_cons (pv 1) pa_nil))) (by rfl)))))))), ?_⟩
    repeat' (walk_at "jv")
    intro p np
    have kp := Same.upd_new (o := .tup [V.str "keep"]) np
    have sp : SqT K (upd H p (.tup [V.str "keep"])) p [V.str "keep"] := sq_tup upd_same
    replace hw := hw.same kp
    replace ox := ox.same kp
    generalize upd H p (.tup [V.str "keep"]) = H1 at *
    refine ⟨d, .tuple [.str "keep"], Ob.dp _ _ (SeqAt.canLay_of_shaped sd) ox, .tup sp (.cons (.str _) .nil), sd, by decide +kernel, ?_⟩
    refine ⟨_, rfl, ?_⟩
    cases ce : PyData.eqv d (.tuple [.str "keep"]) with
    | true =>
      obtain rfl := eqv_one ce
      repeat' (walk_at "jv")
      refine is_tupO ox ?_
      exact q _ kp
    | false =>
      repeat' (walk_at "jv")
      refine is_tupO ox ?_
      refine ⟨_, rfl, ?_⟩
      cases c : isT d with
      | false =>
        have e : plainB (nearL ps rs z) d = false := by cases d <;> first | rfl | cases c
        rw [e] at q
        repeat' (walk_at "jv")
        exact q _ kp
      | true =>
        obtain ⟨ds, rfl⟩ := isT_tup c
        cases ox with
        | @tup t xs ds sx al =>
        have hxl := ObAll.len al
        have smm := shaped_mem sd
        repeat' (walk_at "jv")
        · rw [plain_two ce (by omega)] at q
          exact q _ kp
        · rename_i h2
          have h2' : ds.length = 2 := by omega
          cases al with
          | nil => exact absurd h2' (by decide)
          | @cons x1 _ d1 _ o1 al =>
          cases al with
          | nil => exact absurd h2' (by simp)
          | @cons x2 xs2 d2 ds2 o3 al =>
          obtain rfl : ds2 = [] := List.eq_nil_of_length_eq_zero (by rw [List.length_cons, List.length_cons] at h2'; omega)
          cases al
          repeat' (walk_at "jv")
          have sd1 := smm d1 List.mem_cons_self
          refine ⟨d1, .str "copy", Ob.dp _ _ (SeqAt.canLay_of_shaped sd1) o1, .str _, sd1, by decide +kernel, ?_⟩
          refine ⟨_, rfl, ?_⟩
          cases cc : PyData.eqv d1 (.str "copy") with
          | false =>
            rw [plain_no cc] at q
            repeat' (walk_at "jv")
            exact q _ kp
          | true =>
            obtain rfl := eqv_txt cc
            rw [plain_copy] at q
            repeat' (walk_at "jv")
            refine is_strO o3 ?_
            refine ⟨_, rfl, ?_⟩
            cases c1 : isS d2 with
            | false =>
              have e : oneB (nearL ps rs z) d2 = false := by cases d2 <;> first | rfl | cases c1
              rw [e] at q
              repeat' (walk_at "jv")
              exact q _ kp
            | true =>
              obtain ⟨y, rfl⟩ : ∃ y, d2 = .str y := by
                cases d2 with
                | str y => exact ⟨y, rfl⟩
                | _ => cases c1
              cases o3
              repeat' (walk_at "jv")
              refine ⟨v, z, ps, rs, rfl, hw.dp, W, hz, fun p2 H2 _ k2 e2 => ?_⟩
              have hb : SqA K H2 p2 ((nearL ps rs z).map V.str) := SqA.l (sq_lst e2)
              repeat' (walk_at "jv")
              exact q _ (kp.trans k2)
end
end
section
open L2 PySem PySem.Spec PyProof.Rows
abbrev s__law_parts : Stmt := topS 72
theorem sc__law_parts : FnScope ["_law_web_here", "_law_order_here", "_law_other", "_law_thing", "_law_rules", "_law_state", "_law_place", "_law_rule", "_law_one_here"] ["_law_web_here", "_law_order_here", "_law_other", "_law_thing"] (defScope s__law_parts) := ⟨rfl, rfl, rfl, by decide +kernel, rfl, by decide +kernel, by decide +kernel⟩
def plainsB (ps : List Str) (rs : List (Str × Str)) (es : List PyData) : Bool := (List.range ps.length).all fun i => plainB (nearL ps rs (ps.getD i "")) (es.getD i .none)
theorem plain_rule {near : List Str} {d : PyData} (h : plainB near d = true) : RuleD 2 near d ∧ sortB d = true := by
  unfold plainB at h
  split at h
  · rename_i s
    have e : s = "keep" := of_decide_eq_true h
    subst e
    exact ⟨.keep, by decide +kernel⟩
  · rename_i s z
    rw [Bool.and_eq_true] at h
    have e : s = "copy" := of_decide_eq_true h.1
    subst e
    exact ⟨.copy z (of_decide_eq_true h.2), decide_eq_true (by decide +kernel : ("copy" : Str) ∈ partL)⟩
  · cases h
theorem sort_off {z : Str} {r : List PyData} (h : sortB (.tuple (.str z :: r)) = true) : z ∈ partL := of_decide_eq_true h
theorem rule_plain {near : List Str} {d : PyData} (h : RuleD 2 near d) (s : sortB d = true) : plainB near d = true := by
  cases h with
  | keep =>
    show decide (("keep" : Str) = "keep") = true
    exact decide_eq_true rfl
  | copy z hz =>
    show (decide (("copy" : Str) = "copy") && decide (z ∈ near)) = true
    rw [decide_eq_true rfl, decide_eq_true hz]
    rfl
  | table => exact absurd (sort_off s) (by decide +kernel)
  | sum => exact absurd (sort_off s) (by decide +kernel)
  | least => exact absurd (sort_off s) (by decide +kernel)
  | greatest => exact absurd (sort_off s) (by decide +kernel)
  | odd => exact absurd (sort_off s) (by decide +kernel)
  | most => exact absurd (sort_off s) (by decide +kernel)
theorem hall_lenE {ps : List Str} {rs : List (Str × Str)} {es : List PyData} (h : hallB (.tuple [.int 2, webD ps rs, .tuple es]) = true) : es.length = ps.length := by
  obtain ⟨es', e, hH⟩ := hall_two h
  injection e with e
  subst e
  exact hH.len
theorem parts_hall {ps : List Str} {rs : List (Str × Str)} {es : List PyData} (W : IsWeb ps rs) (hl : es.length = ps.length) : (hallB (.tuple [.int 2, webD ps rs, .tuple es]) && es.all sortB) = plainsB ps rs es := by
  cases hp : plainsB ps rs es with
  | true =>
    have pl : ∀ i (h1 : i < ps.length) (h2 : i < es.length), plainB (nearL ps rs ps[i]) es[i] = true := fun i h1 h2 => by
      have := List.all_eq_true.mp hp i (List.mem_range.mpr h1)
      rwa [List.getD_eq_getElem?_getD, List.getD_eq_getElem?_getD, List.getElem?_eq_getElem h1, List.getElem?_eq_getElem h2] at this
    have hH : IsHall 2 ps rs es := ⟨.inl rfl, W, Nat.le_trans (Nat.pow_le_pow_right (by decide) W.le8) (by decide), hl, fun i z d hz hd => by
      obtain ⟨h1, rfl⟩ := List.getElem?_eq_some_iff.mp hz
      obtain ⟨h2, rfl⟩ := List.getElem?_eq_some_iff.mp hd
      exact (plain_rule (pl i h1 h2)).1⟩
    rw [show hallB (.tuple [.int 2, webD ps rs, .tuple es]) = true from is_hallB hH, Bool.true_and, List.all_eq_true]
    intro d hd
    obtain ⟨i, h2, rfl⟩ := List.getElem_of_mem hd
    exact (plain_rule (pl i (by omega) h2)).2
  | false =>
    cases hb : (hallB (.tuple [.int 2, webD ps rs, .tuple es]) && es.all sortB) with
    | false => rfl
    | true =>
      rw [Bool.and_eq_true] at hb
      obtain ⟨es', e, hH⟩ := hall_two hb.1
      injection e with e
      subst e
      have : plainsB ps rs es = true := List.all_eq_true.mpr fun i hi => by
        have h1 := List.mem_range.mp hi
        have h2 : i < es.length := by omega
        rw [List.getD_eq_getElem?_getD, List.getD_eq_getElem?_getD, List.getElem?_eq_getElem h1, List.getElem?_eq_getElem h2]
        exact rule_plain (hH.rules i _ _ (List.getElem?_eq_getElem h1) (List.getElem?_eq_getElem h2)) (List.all_eq_true.mp hb.2 _ (List.getElem_mem h2))
      rw [this] at hp
      cases hp
theorem part_parts {ps : List Str} {rs : List (Str × Str)} {qs os : List Str} {es us : List PyData} (W : IsWeb ps rs) : partB ps rs qs os (.tuple [.tuple es, .tuple us]) = ((decide (es.length = ps.length) && plainsB ps rs es) && ((decide (us.length = ps.length) && us.all (stB 2)) && !decide (dayN 2 ps rs es (us.map kOf) qs = dayN 2 ps rs es (us.map kOf) os))) := by
  show ((hallB (.tuple [.int 2, webD ps rs, .tuple es]) && (decide (us.length = ps.length) && us.all (stB 2))) && (es.all sortB && !decide (dayN 2 ps rs es (us.map kOf) qs = dayN 2 ps rs es (us.map kOf) os))) = _
  generalize (!decide (dayN 2 ps rs es (us.map kOf) qs = dayN 2 ps rs es (us.map kOf) os)) = n
  generalize (decide (us.length = ps.length) && us.all (stB 2)) = m
  by_cases hl : es.length = ps.length
  · rw [← parts_hall W hl, decide_eq_true hl, Bool.true_and]
    generalize hallB (.tuple [.int 2, webD ps rs, .tuple es]) = x
    generalize es.all sortB = y
    cases x <;> cases y <;> cases m <;> cases n <;> rfl
  · have e : hallB (.tuple [.int 2, webD ps rs, .tuple es]) = false := by
      cases h : hallB (.tuple [.int 2, webD ps rs, .tuple es]) with
      | false => rfl
      | true => exact absurd (hall_lenE h) hl
    rw [e, decide_eq_false hl]
    rfl
theorem part_off1 {ps : List Str} {rs : List (Str × Str)} {qs os : List Str} {d e : PyData} (c : isT d = false) : partB ps rs qs os (.tuple [d, e]) = false := by
  have h : hallB (.tuple [.int 2, webD ps rs, d]) = false := by
    cases h : hallB (.tuple [.int 2, webD ps rs, d]) with
    | false => rfl
    | true =>
      obtain ⟨es, rfl, _⟩ := hall_two h
      cases c
  show ((hallB (.tuple [.int 2, webD ps rs, d]) && _) && _) = false
  rw [h]
  rfl
theorem part_off2 {ps : List Str} {rs : List (Str × Str)} {qs os : List Str} {d e : PyData} (c : isT e = false) : partB ps rs qs os (.tuple [d, e]) = false := by
  show ((hallB (.tuple [.int 2, webD ps rs, d]) && statesB 2 ps.length e) && _) = false
  rw [(isT_off c).1, Bool.and_false]
  rfl
def shpB : PyData → Bool
  | .tuple [.tuple es, _] => es.all SeqAt.shaped
  | _ => true
def spPartsO (K : PySem.W.Frag) : Sp := fun vs H Q _ => ∃ (a : Addr) (v : V) (o o2 : Addr) (x : V) (d : PyData) (qs os ps : List Str) (rs : List (Str × Str)), vs = [v, .ref o, .ref o2, x] ∧ WF K H v ps rs ∧ IsWeb ps rs ∧ SqT K H o (qs.map V.str) ∧ qs.Perm ps ∧ SqT K H o2 (os.map V.str) ∧ os.Perm ps ∧ Ob K H a x d ∧ shpB d = true ∧ ∀ H', Same H H' → Q (.bl (partB ps rs qs os d)) H'
theorem inV_all : ∀ bs : List Bool, inV (.bl false) (bs.map V.bl) = !bs.all id
  | [] => rfl
  | b :: r => by
    show (_ || inV (.bl false) (r.map V.bl)) = _
    rw [inV_all r]
    cases b <;> rfl
theorem flat_bl (bs : List Bool) : (bs.map V.bl).all flatV = true := by
  rw [List.all_eq_true]
  intro x hx
  obtain ⟨b, _, rfl⟩ := List.mem_map.mp hx
  rfl
theorem i_inF {K : PySem.W.Frag} {H : Hp} {Q : VK} {p : Addr} {bs : List Bool} (e : SqL K H p (bs.map V.bl)) (h : Q (.bl (!bs.all id)) H) : rIn K false (.bl false) (.ref p) H Q :=
  ⟨p, bs.map V.bl, rfl, .inl e, rfl, flat_bl bs, by
    rw [inV_all]
    exact h⟩
theorem inV_two (i : Int) : inV (.int i) [.int 0, .int 1] = stB 2 (.int i) := by
  show (((0 : Int) == i) || (((1 : Int) == i) || false)) = (decide (0 ≤ i) && decide (i < ((2 : Nat) : Int)))
  by_cases h0 : i = 0
  · subst h0
    rfl
  · by_cases h1 : i = 1
    · subst h1
      rfl
    · rw [beq_false_of_ne (fun e => h0 e.symm), beq_false_of_ne (fun e => h1 e.symm)]
      by_cases h2 : 0 ≤ i
      · rw [decide_eq_false (show ¬ i < ((2 : Nat) : Int) by omega), Bool.and_false]
        rfl
      · rw [decide_eq_false h2]
        rfl
theorem i_notTwo {K : PySem.W.Frag} {H : Hp} {Q : VK} {i : Int} {p : Addr} (e : SqT K H p [.int 0, .int 1]) (h : Q (.bl (!stB 2 (.int i))) H) : rIn K true (.int i) (.ref p) H Q :=
  ⟨p, [.int 0, .int 1], rfl, .inr e, rfl, rfl, by
    rw [inV_two]
    exact h⟩
theorem st_noI {d : PyData} (h : isIB d = false) : stB 2 d = false := by cases d <;> first | rfl | cases h
theorem st_bo {d : PyData} (h : isBo d = true) : stB 2 d = false := by cases d <;> first | rfl | cases h
section
variable {base : Heap} {P : Program} {w : World} {K : PySem.W.Frag} {mg : Str → Option Value}
theorem ok_lparts (D : Dn K mg "_law_parts" s__law_parts ["_law_web_here", "_law_order_here", "_law_other", "_law_thing"]) (B : Bn mg) (C__law_is_plain : Cl P w K mg base 2 "_law_is_plain" ["_law_web_here", "_law_place", "_law_thing"] (spPlainO K)) (C__law_day : Cl P w K mg base 4 "_law_day" ["_law_hall", "_law_order_here", "_law_state"] (spPassed K)) : Cl P w K mg base 5 "_law_parts" ["_law_web_here", "_law_order_here", "_law_other", "_law_thing"] (spPartsO K) := by
  refine D.cl sc__law_parts (fun vs H Q E h => ?_) (fun f cdv A outer s H vs Q E hr h => ?_)
  · obtain ⟨a, v, o, o2, x, d, qs, os, ps, rs, rfl, _⟩ := h
    rfl
  · obtain ⟨a, v, o, o2, x, d, qs, os, ps, rs, rfl, hw, W, ho, pm, ho2, pm2, ox, sd, q⟩ := h
    refine ⟨_, (pss_cons (ps_if (PW.pt (pw_or (pt_not (pt_val (pe_callB (k_isi (K := K)) rfl B.isinstance_ (by decide +kernel) (pa_cons (pv 3) (pa_cons (pe_ty (T := "tuple") B.tuple_ (by decide +kernel)) pa_nil))))) (pw_or (pt_cmpR op_ne (pe_callB (k_len (K := K)) rfl B.len_ (by decide +kernel) (pa_cons (pv 3) pa_nil)) pe_int (nomark _)) (pw_or (pt_not (pt_val (pe_callB (k_isi (K := K)) rfl B.isinstance_ (by decide +kernel) (pa_cons (pe_ix (k_ixT (K := K)) (pv 3) pe_int (fun _ _ => rfl)) (pa_cons (pe_ty (T := "tuple") B.tuple_ (by decide +kernel)) pa_nil))))) (pw_or1 (pt_not (pt_val (pe_callB (k_isi (K := K)) rfl B.isinstance_ (by decide +kernel) (pa_cons (pe_ix (k_ixT (K := K)) (pv 3) pe_int (fun _ _ => rfl)) (pa_cons (pe_ty (T := "tuple") B.tuple_ (by decide +kernel)) pa_nil)))))))))) (pss_one (ps_ret pe_bl)) pss_nil)
      (pss_cons (ps_asg (pv 3) (kpg_tup (K := K) (n := 2) rfl (pgs_cons (pg_name (i := 4) sc__law_parts.nd rfl (by first | exact Or.inl rfl | exact Or.inr rfl)) (pgs_cons (pg_name (i := 5) sc__law_parts.nd rfl (by first | exact Or.inl rfl | exact Or.inr rfl)) pgs_nil))))
      (pss_cons (ps_if (PW.pt (pw_or (pt_cmpR op_ne (pe_callB (k_len (K := K)) rfl B.len_ (by decide +kernel) (pa_cons (pv 4) pa_nil)) (pe_callB (k_len (K := K)) rfl B.len_ (by decide +kernel) (pa_cons (pe_ix (k_ixT (K := K)) (pv 0) pe_int (fun _ _ => rfl)) pa_nil)) (nomark _)) (pw_or1 (pt_cmpR (k_inS (K := K)) pe_bl (pe_lc (own := [("_law_place", 6), ("_law_rule", 7)]) rfl sc__law_parts.nd (kpi_zip (K := K) B.zip_ (pa_cons (pe_ix (k_ixT (K := K)) (pv 0) pe_int (fun _ _ => rfl)) (pa_cons (pv 4) pa_nil))) (blkOk_by (N := ["_law_web_here", "_law_order_here", "_law_other", "_law_thing", "_law_rules", "_law_state", "_law_place", "_law_rule", "_law_one_here"]) (sc := defScope s__law_parts) (by decide +kernel)) (fun _ _ _ _ _ => (kpg_tup (K := K) (n := 2) rfl (pgs_cons (pg_name (i := 6) sc__law_parts.nd rfl (by first | exact Or.inl rfl | exact Or.inr rfl)) (pgs_cons (pg_name (i := 7) sc__law_parts.nd rfl (by first | exact Or.inl rfl | exact Or.inr rfl)) pgs_nil)))) (fun _ _ _ _ _ => pts_nil) (fun _ _ _ _ _ => (pe_c C__law_is_plain hr (pa_cons (pv 0) (pa_cons (pv 6) (pa_cons (pv 7) pa_nil)))))) (by rfl))))) (pss_one (ps_ret pe_bl)) pss_nil)
      (pss_cons (ps_if (PW.pt (pw_or (pt_cmpR op_ne (pe_callB (k_len (K := K)) rfl B.len_ (by decide +kernel) (pa_cons (pv 5) pa_nil)) (pe_callB (k_len (K := K)) rfl B.len_ (by decide +kernel) (pa_cons (pe_ix (k_ixT (K := K)) (pv 0) pe_int (fun _ _ => rfl)) pa_nil)) (nomark _)) (pw_or1 (pt_cmpR (k_neE (K := K) hr.units) (pe_lc (own := [("_law_one_here", 8)]) rfl sc__law_parts.nd (kpi_tup (K := K) (pv 5)) (blkOk_by (N := ["_law_web_here", "_law_order_here", "_law_other", "_law_thing", "_law_rules", "_law_state", "_law_place", "_law_rule", "_law_one_here"]) (sc := defScope s__law_parts) (by decide +kernel)) (fun _ _ _ _ _ => (pg_name (i := 8) sc__law_parts.nd rfl (by first | exact Or.inl rfl | exact Or.inr rfl))) (fun _ _ _ _ _ => pts_one (PW.pt (pw_or (pt_not (pt_val (pe_callB (k_isi (K := K)) rfl B.isinstance_ (by decide +kernel) (pa_cons (pv 8) (pa_cons (pe_ty (T := "int") B.int_ (by decide +kernel)) pa_nil))))) (pw_or (pt_val (pe_callB (k_isi (K := K)) rfl B.isinstance_ (by decide +kernel) (pa_cons (pv 8) (pa_cons (pe_ty (T := "bool") B.bool_ (by decide +kernel)) pa_nil)))) (pw_or1 (pt_cmpR (k_notInS (K := K)) (pv 8) (pe_tup (pa_cons pe_int (pa_cons pe_int pa_nil))) (by rfl))))))) (fun _ _ _ _ _ => (pv 8))) (pe_lst pa_nil) (nomark _))))) (pss_one (ps_ret pe_bl)) pss_nil)
      (pss_one (ps_ret (pe_cmpR (k_neD (K := K) hr.units) (pe_c C__law_day hr (pa_cons (pe_tup (pa_cons pe_int (pa_cons (pv 0) (pa_cons (pv 4) pa_nil)))) (pa_cons (pv 1) (pa_cons (pv 5) pa_nil)))) (pe_c C__law_day hr (pa_cons (pe_tup (pa_cons pe_int (pa_cons (pv 0) (pa_cons (pv 4) pa_nil)))) (pa_cons (pv 2) (pa_cons (pv 5) pa_nil)))) (nomark _)))))))), ?_⟩
    repeat' (walk_at "jv")
    refine is_tupO ox ?_
    refine ⟨_, rfl, ?_⟩
    cases c : isT d with
    | false =>
      have e : partB ps rs qs os d = false := by cases d <;> first | rfl | cases c
      rw [e] at q
      repeat' (walk_at "jv")
      exact q _ (Same.refl _)
    | true =>
      obtain ⟨ds, rfl⟩ := isT_tup c
      cases ox with
      | @tup t xs ds sx al =>
      have hxl := ObAll.len al
      repeat' (walk_at "jv")
      · rw [part_not (by omega)] at q
        exact q _ (Same.refl _)
      · rename_i h2
        have h2' : ds.length = 2 := by omega
        cases al with
        | nil => exact absurd h2' (by decide)
        | @cons x1 _ d1 _ o1 al =>
        cases al with
        | nil => exact absurd h2' (by simp)
        | @cons x2 xs2 d2 ds2 o3 al =>
        obtain rfl : ds2 = [] := List.eq_nil_of_length_eq_zero (by rw [List.length_cons, List.length_cons] at h2'; omega)
        cases al
        repeat' (walk_at "jv")
        refine is_tupO o1 ?_
        refine ⟨_, rfl, ?_⟩
        cases c1 : isT d1 with
        | false =>
          rw [part_off1 c1] at q
          repeat' (walk_at "jv")
          exact q _ (Same.refl _)
        | true =>
        obtain ⟨es, rfl⟩ := isT_tup c1
        repeat' (walk_at "jv")
        refine is_tupO o3 ?_
        refine ⟨_, rfl, ?_⟩
        cases c2 : isT d2 with
        | false =>
          rw [part_off2 c2] at q
          repeat' (walk_at "jv")
          exact q _ (Same.refl _)
        | true =>
        obtain ⟨us, rfl⟩ := isT_tup c2
        rw [part_parts W] at q
        have sde : es.all SeqAt.shaped = true := sd
        obtain ⟨tw, tp, tr, rfl, w1, fp, dR⟩ := id hw
        have sP := fp.sq (K := K)
        cases o1 with
        | @tup T1 xs1 _ su1 al1 =>
        cases o3 with
        | @tup T2 xs2 _ su2 al2 =>
        have hl1 := ObAll.len al1
        have hl2 := ObAll.len al2
        have h8 := W.le8
        have hmp : (ps.map V.str).length = ps.length := List.length_map ..
        clear hxl
        repeat' (walk_at "jv")
        · rw [decide_eq_false (by omega), Bool.false_and, Bool.false_and] at q
          exact q H (Same.refl _)
        · rename_i hne
          have he : es.length = ps.length := by
            have := Decidable.not_not.mp hne
            omega
          rw [decide_eq_true he, Bool.true_and] at q
          refine i_zip ?_
          repeat' (walk_at "jv")
          refine i_zipT sP su1 ?_
          refine c_zip (ps.map V.str) xs1 (by omega) (fun D2 i H' => H D2 = none ∧ Same H H' ∧ H' D2 = some (.lst (((List.range i).map fun i => plainB (nearL ps rs (ps.getD i "")) (es.getD i .none)).map V.bl))) (fun D nD => ⟨nD, Same.upd_new nD, upd_same⟩) (fun D i H' h => ⟨TK.same h.2.1 _ _ sP, TK.same h.2.1 _ _ su1⟩) (fun D i x y H' T hx hy h nT => ?_) (fun D H' h => ?_)
          · obtain ⟨nD, sm, e⟩ := h
            have hi : i < ps.length := by
              have := (List.getElem?_eq_some_iff.mp hx).1
              rwa [List.length_map] at this
            rw [List.getElem?_map, List.getElem?_eq_getElem hi] at hx
            obtain rfl : V.str ps[i] = x := Option.some.inj hx
            have sT := Same.upd_new (o := .tup [V.str ps[i], y]) nT
            have smT := sm.trans sT
            obtain ⟨d, hdd, dx⟩ := ObAll.get (al1.same smT) hy
            repeat' (walk_at "jv")
            refine ⟨a, .ref tw, y, d, ps[i], ps, rs, rfl, hw.same smT, W, List.getElem_mem hi, dx, List.all_eq_true.mp sde d (List.mem_of_getElem? hdd), fun H3 sm3 => ?_⟩
            have sm4 := sT.trans sm3
            have e2 := sm4 _ _ e
            have eg : plainB (nearL ps rs (ps.getD i "")) (es.getD i .none) = plainB (nearL ps rs ps[i]) d := by
              rw [List.getD_eq_getElem?_getD, List.getD_eq_getElem?_getD, List.getElem?_eq_getElem hi, hdd]
              rfl
            refine i_lcE e2 (by rw [List.length_map, List.length_map, List.length_range, sizeLine_eq]; omega) ?_
            refine ⟨nD, fun b o z => ?_, by rw [upd_same, List.range_succ, List.map_append, List.map_append, ← eg]; rfl⟩
            rw [upd_ne (fun w => by rw [w, nD] at z; cases z)]
            exact sm4 _ _ (sm _ _ z)
          · obtain ⟨nD, sm, e⟩ := h
            rw [hmp] at e
            repeat' (walk_at "jv")
            refine i_inF (sq_lst e) ?_
            rw [show ((List.range ps.length).map fun i => plainB (nearL ps rs (ps.getD i "")) (es.getD i .none)).all id = plainsB ps rs es by rw [List.all_map]; rfl]
            refine ⟨_, rfl, ?_⟩
            cases cp : plainsB ps rs es with
            | false =>
              rw [cp, Bool.false_and] at q
              repeat' (walk_at "jv")
              exact q _ sm
            | true =>
            rw [cp, Bool.true_and] at q
            replace hw := hw.same sm
            replace sP := TK.same (K := K) sm _ _ sP
            replace w1 := TK.same (K := K) sm _ _ w1
            replace ho := TK.same (K := K) sm _ _ ho
            replace ho2 := TK.same (K := K) sm _ _ ho2
            replace su1 := TK.same (K := K) sm _ _ su1
            replace su2 := TK.same (K := K) sm _ _ su2
            replace al1 := al1.same sm
            replace al2 := al2.same sm
            clear sx fp dR e nD
            repeat' (walk_at "jv")
            · rw [decide_eq_false (by omega), Bool.false_and, Bool.false_and] at q
              exact q _ sm
            · rename_i hne2
              have he2 : us.length = ps.length := by
                have := Decidable.not_not.mp hne2
                omega
              rw [decide_eq_true he2, Bool.true_and] at q
              refine c_tup xs2 (fun D i H2 => H' D = none ∧ Same H' H2 ∧ ∃ ys, H2 D = some (.lst ys) ∧ ys.length ≤ i ∧ ys.isEmpty = (us.take i).all (stB 2)) (fun D nD => ⟨nD, Same.upd_new nD, [], upd_same, Nat.le_refl _, rfl⟩) (fun D i H2 _ h => TK.same h.2.1 _ _ su2) (fun D i y H2 hy h => ?_) (fun D H2 h => ?_)
              · obtain ⟨nD, kD, ys, eD, hyl, hye⟩ := h
                obtain ⟨d', hd', od'⟩ := ObAll.get al2 hy
                have hi : i < us.length := (List.getElem?_eq_some_iff.mp hd').1
                have et : (us.take (i + 1)).all (stB 2) = ((us.take i).all (stB 2) && stB 2 d') := by
                  rw [take_push hd', List.all_append]
                  simp
                replace od' := od'.same kD
                have put : ∀ H3, Same H2 H3 → stB 2 d' = false → H' D = none ∧ Same H' (upd H3 D (.lst (ys ++ [y]))) ∧ ∃ zs, (upd H3 D (.lst (ys ++ [y]))) D = some (.lst zs) ∧ zs.length ≤ i + 1 ∧ zs.isEmpty = (us.take (i + 1)).all (stB 2) := fun H3 k3 e1 => by
                  refine ⟨nD, fun c oc z => (upd_ne (ne_of_none z nD)).trans (k3 _ _ (kD _ _ z)), ys ++ [y], upd_same, by rw [List.length_append]; show _ + 1 ≤ _; omega, ?_⟩
                  rw [et, e1, Bool.and_false]
                  simp
                repeat' (walk_at "jv")
                refine is_intO od' ?_
                refine ⟨_, rfl, ?_⟩
                cases ci : isIB d' with
                | false =>
                  repeat' (walk_at "jv")
                  exact put _ (Same.refl _) (st_noI ci)
                | true =>
                  repeat' (walk_at "jv")
                  refine is_boolO od' ?_
                  refine ⟨_, rfl, ?_⟩
                  cases cb : isBo d' with
                  | true =>
                    repeat' (walk_at "jv")
                    exact put _ (Same.refl _) (st_bo cb)
                  | false =>
                    obtain ⟨i', rfl⟩ := isI_int (show isI d' = true by rw [isI_yes ci, cb]; rfl)
                    cases od'
                    repeat' (walk_at "jv")
                    intro p np
                    have kp := Same.upd_new (o := .tup [V.int 0, V.int 1]) np
                    have sp : SqT K (upd H2 p (.tup [V.int 0, V.int 1])) p [V.int 0, V.int 1] := sq_tup upd_same
                    have eD2 := kp _ _ eD
                    generalize upd H2 p (.tup [V.int 0, V.int 1]) = H3 at *
                    refine i_notTwo sp ?_
                    refine ⟨_, rfl, ?_⟩
                    cases cs : stB 2 (.int i') with
                    | false =>
                      repeat' (walk_at "jv")
                      exact put _ kp cs
                    | true =>
                      exact ⟨nD, kD.trans kp, ys, eD2, by omega, by rw [et, cs, Bool.and_true]; exact hye⟩
              · obtain ⟨nD, kD, ys, eD, hyl, hye⟩ := h
                rw [hl2, List.take_length] at hye
                repeat' (walk_at "jv")
                intro Z nZ
                have kZ := Same.upd_new (o := .lst []) nZ
                have eZ : (upd H2 Z (.lst [])) Z = some (.lst []) := upd_same
                have eD2 := kZ _ _ eD
                replace kD := kD.trans kZ
                generalize upd H2 Z (.lst []) = H4 at *
                clear kZ nZ eD
                refine i_neE (sq_lst eD2) (sq_lst eZ) ?_
                rw [hye]
                refine ⟨_, rfl, ?_⟩
                cases ca : us.all (stB 2) with
                | false =>
                  rw [ca, Bool.false_and] at q
                  repeat' (walk_at "jv")
                  exact q _ (sm.trans kD)
                | true =>
                  rw [ca, Bool.true_and] at q
                  have hh := parts_hall W he
                  rw [cp, Bool.and_eq_true] at hh
                  obtain ⟨es', ee, hH⟩ := hall_two hh.1
                  injection ee with ee
                  subst ee
                  obtain ⟨t2, rfl, tk⟩ := sts_is ca
                  have tl : t2.length = ps.length := by rw [← he2, List.length_map]
                  have eN : xs2 = natsV t2 := nats_of _ _ (ObAll.dp _ _ (ints_data t2 fun n h => by have := tk n h; omega).1 al2)
                  subst eN
                  rw [show (t2.map fun n => PyData.int ((n : Nat) : Int)).map kOf = t2 from nats_ints t2] at q
                  have mq : ∀ z ∈ qs, z ∈ ps := fun z hz => pm.mem_iff.mp hz
                  have mo : ∀ z ∈ os, z ∈ ps := fun z hz => pm2.mem_iff.mp hz
                  have t1' := day_lt (rs := rs) (ds := es) hH _ _ mq tk
                  have t2' := day_lt (rs := rs) (ds := es) hH _ _ mo tk
                  have dT : Dp K H' (.ref T1) (.tuple es) := .tup su1 (ObAll.dp _ _ (hall_lay hH) al1)
                  replace hw := hw.same kD
                  replace dT := Dp.same kD _ _ dT
                  replace ho := TK.same (K := K) kD _ _ ho
                  replace ho2 := TK.same (K := K) kD _ _ ho2
                  replace su2 := TK.same (K := K) kD _ _ su2
                  replace sm := sm.trans kD
                  clear kD eD2 eZ
                  repeat' (walk_at "jv")
                  intro P1 nP1
                  have kP := Same.upd_new (o := .tup [V.int 2, .ref tw, .ref T1]) nP1
                  have sp1 : SqT K (upd H4 P1 (.tup [V.int 2, .ref tw, .ref T1])) P1 [V.int 2, .ref tw, .ref T1] := sq_tup upd_same
                  replace hw := hw.same kP
                  replace dT := Dp.same kP _ _ dT
                  replace ho := TK.same (K := K) kP _ _ ho
                  replace ho2 := TK.same (K := K) kP _ _ ho2
                  replace su2 := TK.same (K := K) kP _ _ su2
                  replace sm := sm.trans kP
                  generalize upd H4 P1 (.tup [V.int 2, .ref tw, .ref T1]) = H5 at *
                  clear kP nP1
                  have hf : HF K H5 (.ref P1) 2 ps rs es := ⟨P1, T1, .ref tw, rfl, sp1, hw, dT, hall_onlyE hH⟩
                  repeat' (walk_at "jv")
                  refine ⟨.ref P1, o, T2, qs, 2, ps, rs, es, t2, rfl, hf, hH, ho, pm, su2, tl, tk, fun p1 H8 k8 s1 => ?_⟩
                  replace hw := hw.same k8
                  replace dT := Dp.same k8 _ _ dT
                  replace ho2 := TK.same (K := K) k8 _ _ ho2
                  replace su2 := TK.same (K := K) k8 _ _ su2
                  replace sm := sm.trans k8
                  clear hf sp1 k8
                  repeat' (walk_at "jv")
                  intro P2 nP2
                  have kP := Same.upd_new (o := .tup [V.int 2, .ref tw, .ref T1]) nP2
                  have sp2 : SqT K (upd H8 P2 (.tup [V.int 2, .ref tw, .ref T1])) P2 [V.int 2, .ref tw, .ref T1] := sq_tup upd_same
                  replace hw := hw.same kP
                  replace dT := Dp.same kP _ _ dT
                  replace ho2 := TK.same (K := K) kP _ _ ho2
                  replace su2 := TK.same (K := K) kP _ _ su2
                  replace s1 := TK.same (K := K) kP _ _ s1
                  replace sm := sm.trans kP
                  generalize upd H8 P2 (.tup [V.int 2, .ref tw, .ref T1]) = H9 at *
                  clear kP nP2
                  have hf : HF K H9 (.ref P2) 2 ps rs es := ⟨P2, T1, .ref tw, rfl, sp2, hw, dT, hall_onlyE hH⟩
                  repeat' (walk_at "jv")
                  refine ⟨.ref P2, o2, T2, os, 2, ps, rs, es, t2, rfl, hf, hH, ho2, pm2, su2, tl, tk, fun p2 H10 k10 s2 => ?_⟩
                  replace s1 := TK.same (K := K) k10 _ _ s1
                  repeat' (walk_at "jv")
                  refine i_neSt (fun n h => by have := t1' n h; omega) (fun n h => by have := t2' n h; omega) (st_dp s1) (st_dp s2) ?_
                  exact q _ (sm.trans k10)
end
end
section
open L2 PySem PySem.Spec PyProof.Rows
abbrev s__law_drawn : Stmt := topS 73
theorem sc__law_drawn : FnScope ["_law_feed_here", "_law_web_here", "_law_rules", "_law_place", "_law_others"] ["_law_feed_here", "_law_web_here"] (defScope s__law_drawn) := ⟨rfl, rfl, rfl, by decide +kernel, rfl, by decide +kernel, by decide +kernel⟩
def spDrawnP (K : PySem.W.Frag) : Sp := fun vs H Q _ => ∃ (a : Addr) (v : V) (c : Int) (ps : List Str) (rs : List (Str × Str)), vs = [.ref a, v] ∧ Fd H a c ∧ c < 10 ^ 14 ∧ WF K H v ps rs ∧ IsWeb ps rs ∧
  ∀ (T R S : Addr) (es : List PyData) (t : List Nat) (c' : Int) (H' : Hp), Fd H' a c' → c' ≤ c + 100 → Ch a H H' → SqT K H' T [.ref R, .ref S] → Dp K H' (.ref R) (.tuple es) → es.length = ps.length → plainsB ps rs es = true → SqT K H' S (natsV t) → t.length = ps.length → (∀ n ∈ t, n < 2) → Q (.ref T) H'
section
variable {base : Heap} {P : Program} {w : World} {K : PySem.W.Frag} {mg : Str → Option Value}
theorem ok_ldrawn (D : Dn K mg "_law_drawn" s__law_drawn ["_law_feed_here", "_law_web_here"]) (B : Bn mg) (C__law_draw : Cl P w K mg base 1 "_law_draw" ["_law_feed_here", "_law_many"] spDraw) (C__law_one : Cl P w K mg base 2 "_law_one" ["_law_feed_here", "_law_things"] (spOne K))
    (C__law_neighbours : Cl P w K mg base 1 "_law_neighbours" ["_law_web_here", "_law_place"] (spNear K)) : Cl P w K mg base 3 "_law_drawn" ["_law_feed_here", "_law_web_here"] (spDrawnP K) := by
  refine D.cl sc__law_drawn (fun vs H Q E h => ?_) (fun f cdv A outer s H vs Q E hr h => ?_)
  · obtain ⟨a, v, c, ps, rs, rfl, _⟩ := h
    rfl
  · obtain ⟨a, v, c, ps, rs, rfl, hf, hc, hw, W, q⟩ := h
    obtain ⟨tw, tp, tr, rfl, w1, fp, dR⟩ := id hw
    have sP := fp.sq (K := K)
    refine ⟨_, (pss_cons (ps_set (i := 2) sc__law_drawn.nd rfl (by first | exact Or.inl rfl | exact Or.inr rfl) (pe_lst pa_nil))
      (pss_cons (ps_for PassesOwn.never rfl (kpi_tup (K := K) (pe_ix (k_ixT (K := K)) (pv 1) pe_int (fun _ _ => rfl))) (pg_name (i := 3) sc__law_drawn.nd rfl (by first | exact Or.inl rfl | exact Or.inr rfl)) (pss_cons (ps_set (i := 4) sc__law_drawn.nd rfl (by first | exact Or.inl rfl | exact Or.inr rfl) (pe_c C__law_neighbours hr (pa_cons (pv 1) (pa_cons (pv 3) pa_nil))))
      (pss_one (ps_expr (pe_bm PySem.F.plainAttrs_list PySem.F.slot_list_append PySem.F.type_list_append mt_append (pv 2) (pa_cons (pe_ifExp (PW.pt (pw_and (pt_cmpR (k_neE (K := K) hr.units) (pv 4) (pe_lst pa_nil) (nomark _)) (pw_and1 (pt_cmpR op_gt (pe_c C__law_draw hr (pa_cons (pv 0) (pa_cons pe_int pa_nil))) pe_int (nomark _))))) (pe_tup (pa_cons pe_str (pa_cons (pe_c C__law_one hr (pa_cons (pv 0) (pa_cons (pv 4) pa_nil))) pa_nil))) (pe_tup (pa_cons pe_str pa_nil))) pa_nil))))))
      (pss_one (ps_ret (pe_tup (pa_cons (pe_callTy (k_tuple (K := K)) rfl B.tuple_ (by decide +kernel) (pa_cons (pv 2) pa_nil)) (pa_cons (pe_callTy (k_tuple (K := K)) rfl B.tuple_ (by decide +kernel) (pa_cons (pe_lc (own := [("_law_place", 3)]) rfl sc__law_drawn.nd (kpi_tup (K := K) (pe_ix (k_ixT (K := K)) (pv 1) pe_int (fun _ _ => rfl))) (blkOk_by (N := ["_law_feed_here", "_law_web_here", "_law_rules", "_law_place", "_law_others"]) (sc := defScope s__law_drawn) (by decide +kernel)) (fun _ _ _ _ _ => (pg_name (i := 3) sc__law_drawn.nd rfl (by first | exact Or.inl rfl | exact Or.inr rfl))) (fun _ _ _ _ _ => pts_nil) (fun _ _ _ _ _ => (pe_c C__law_draw hr (pa_cons (pv 0) (pa_cons pe_int pa_nil))))) pa_nil)) pa_nil))))))), ?_⟩
    repeat' (walk_at "jv")
    intro R nR
    have nRa : R ≠ a := hf.ne nR
    have cR := Ch.upd_new (a := a) (o := .lst []) nR
    have eR : (upd H R (.lst [])) R = some (.lst []) := upd_same
    have hf1 : Fd (upd H R (.lst [])) a c := hf.upd (Ne.symm nRa)
    have hmp : (ps.map V.str).length = ps.length := List.length_map ..
    have h8 := W.le8
    have sP1 := TK.same (K := K) (Same.upd_new (o := .lst []) nR) _ _ sP
    have w11 := TK.same (K := K) (Same.upd_new (o := .lst []) nR) _ _ w1
    generalize upd H R (.lst []) = H1 at *
    repeat' (walk_at "jv")
    refine f_tup (ps.map V.str) (fun i σ H' => ∃ (y1 y2 : Option V) (es : List PyData) (c' : Int), σ = [some (.ref a), some (.ref tw), some (.ref R), y1, y2] ∧ Fd H' a c' ∧ c' ≤ c + 2 * i ∧ Ch a H H' ∧ LsD K H' R es ∧ es.length = i ∧ ∀ j, j < i → plainB (nearL ps rs (ps.getD j "")) (es.getD j .none) = true) ⟨none, none, [], c, rfl, hf1, by omega, cR, LsD.nil eR, rfl, fun j h => absurd h (by omega)⟩ (fun i σ H' _ h => ?_) (fun i x σ H' hx h => ?_) (fun σ H' h => ?_)
    · obtain ⟨_, _, _, _, _, _, _, k, _⟩ := h
      exact (fp.ch k hf).sq
    · obtain ⟨y1, y2, es, c', rfl, f', cc, k, ls, el, pl⟩ := h
      have hi : i < ps.length := by
        have := (List.getElem?_eq_some_iff.mp hx).1
        rwa [List.length_map] at this
      rw [List.getElem?_map, List.getElem?_eq_getElem hi] at hx
      obtain rfl : V.str ps[i] = x := Option.some.inj hx
      have hw' := hw.ch k hf
      have fin : ∀ (H2 : Hp) (y : V) (d : PyData) (c2 : Int) (y1 y2 : Option V) (vs : List V), Ch a H' H2 → Fd H2 a c2 → c2 ≤ c' + 2 → H2 R = some (.lst vs) → DpAll K H2 vs es → tupOnlyAll es = true → Dp K H2 y d → plainB (nearL ps rs ps[i]) d = true →
          ∃ (y1' y2' : Option V) (es' : List PyData) (c3 : Int), [some (V.ref a), some (.ref tw), some (.ref R), y1, y2] = [some (.ref a), some (.ref tw), some (.ref R), y1', y2'] ∧ Fd (upd H2 R (.lst (vs ++ [y]))) a c3 ∧ c3 ≤ c + 2 * (i + 1 : Nat) ∧ Ch a H (upd H2 R (.lst (vs ++ [y]))) ∧ LsD K (upd H2 R (.lst (vs ++ [y]))) R es' ∧ es'.length = i + 1 ∧ ∀ j, j < i + 1 → plainB (nearL ps rs (ps.getD j "")) (es'.getD j .none) = true := fun H2 y d c2 y1 y2 vs k2 f2 c2l eV dV tV dy pd => by
        refine ⟨y1, y2, es ++ [d], c2, rfl, f2.upd (Ne.symm nRa), by omega, (k.trans k2).upd_l nR, LsD.push eV dV tV dy (rule_only (plain_rule pd).1), by rw [List.length_append, el]; rfl, fun j hj => ?_⟩
        by_cases hji : j = i
        · subst hji
          rw [List.getD_eq_getElem?_getD, List.getD_eq_getElem?_getD, List.getElem?_eq_getElem hi, List.getElem?_append_right (by omega), el, Nat.sub_self]
          exact pd
        · rw [show (es ++ [d]).getD j .none = es.getD j .none by rw [List.getD_eq_getElem?_getD, List.getD_eq_getElem?_getD, List.getElem?_append_left (by omega)]]
          exact pl j (by omega)
      repeat' (walk_at "jv")
      refine ⟨.ref tw, ps[i], ps, rs, rfl, hw'.dp, W, List.getElem_mem hi, fun L H2 nL k2 eL => ?_⟩
      have f2 : Fd H2 a c' := f'.same k2
      have nLa : L ≠ a := f'.ne nL
      replace ls := ls.same k2
      obtain ⟨vs, eV, dV, tV⟩ := id ls
      repeat' (walk_at "jv")
      intro Z nZ
      have kZ := Same.upd_new (o := .lst []) nZ
      have eZ : (upd H2 Z (.lst [])) Z = some (.lst []) := upd_same
      replace eL := kZ _ _ eL
      replace f2 := f2.same kZ
      replace ls := ls.same kZ
      replace eV := kZ _ _ eV
      replace dV := DpAll.same kZ _ _ dV
      replace k2 := k2.trans kZ
      generalize upd H2 Z (.lst []) = H3 at *
      clear kZ nZ
      refine i_neE (sq_lst eL) (sq_lst eZ) ?_
      refine ⟨_, rfl, ?_⟩
      cases hn : ((nearL ps rs ps[i]).map V.str).isEmpty with
      | true =>
        repeat' (walk_at "jv")
        intro p np
        have kp := Same.upd_new (o := .tup [V.str "keep"]) np
        have sp : SqT K (upd H3 p (.tup [V.str "keep"])) p [V.str "keep"] := sq_tup upd_same
        replace f2 := f2.same kp
        replace eV := kp _ _ eV
        replace dV := DpAll.same kp _ _ dV
        generalize upd H3 p (.tup [V.str "keep"]) = H4 at *
        repeat' (walk_at "jv")
        have vl : vs.length ≤ 8 := by rw [DpAll.len dV]; omega
        refine i_app eV (by rw [sizeLine_eq]; omega) ?_
        exact fin _ _ (.tuple [.str "keep"]) c' _ _ vs (Ch.of_same (k2.trans kp)) f2 (by omega) eV dV tV (.tup sp (.cons (.str _) .nil)) (decide_eq_true rfl : decide (("keep" : Str) = "keep") = true)
      | false =>
        repeat' (walk_at "jv")
        refine ⟨a, 4, c', rfl, f2, by omega, by omega, by omega, fun r H4 r0 r1 f4 k4 => ?_⟩
        replace eL := k4 _ _ nLa eL
        replace ls := ls.ch k4 f2 nRa
        obtain ⟨vs, eV, dV, tV⟩ := id ls
        have vl : vs.length ≤ 8 := by rw [DpAll.len dV]; omega
        have k24 : Ch a H' H4 := (Ch.of_same k2).trans k4
        clear k2 k4
        repeat' (walk_at "jv")
        · refine ⟨a, L, c' + 1, (nearL ps rs ps[i]).map V.str, rfl, f4, SqA.l (sq_lst eL), nLa, by
            cases hq : (nearL ps rs ps[i]).map V.str with
            | nil => rw [hq] at hn; cases hn
            | cons x r => exact Nat.succ_pos _, by rw [List.length_map]; have := near_len W (List.getElem_mem hi); omega, by omega, fun y H5 my f5 k5 => ?_⟩
          obtain ⟨z, hz, rfl⟩ := List.mem_map.mp my
          replace ls := ls.ch k5 f4 nRa
          obtain ⟨vs, eV, dV, tV⟩ := id ls
          have vl : vs.length ≤ 8 := by rw [DpAll.len dV]; omega
          replace k24 := k24.trans k5
          repeat' (walk_at "jv")
          intro p np
          have kp := Same.upd_new (o := .tup [V.str "copy", V.str z]) np
          have sp : SqT K (upd H5 p (.tup [V.str "copy", V.str z])) p [V.str "copy", V.str z] := sq_tup upd_same
          replace f5 := f5.same kp
          replace eV := kp _ _ eV
          replace dV := DpAll.same kp _ _ dV
          generalize upd H5 p (.tup [V.str "copy", V.str z]) = H6 at *
          repeat' (walk_at "jv")
          exact fin _ _ (.tuple [.str "copy", .str z]) (c' + 1 + 1) _ _ vs (k24.trans (Ch.of_same kp)) f5 (by omega) eV dV tV (.tup sp (.cons (.str _) (.cons (.str _) .nil))) (by
            show (decide (("copy" : Str) = "copy") && decide (z ∈ nearL ps rs ps[i])) = true
            rw [decide_eq_true rfl, decide_eq_true hz]
            rfl)
        · intro p np
          have kp := Same.upd_new (o := .tup [V.str "keep"]) np
          have sp : SqT K (upd H4 p (.tup [V.str "keep"])) p [V.str "keep"] := sq_tup upd_same
          replace f4 := f4.same kp
          replace eV := kp _ _ eV
          replace dV := DpAll.same kp _ _ dV
          generalize upd H4 p (.tup [V.str "keep"]) = H5 at *
          repeat' (walk_at "jv")
          exact fin _ _ (.tuple [.str "keep"]) (c' + 1) _ _ vs (k24.trans (Ch.of_same kp)) f4 (by omega) eV dV tV (.tup sp (.cons (.str _) .nil)) (decide_eq_true rfl : decide (("keep" : Str) = "keep") = true)
    · obtain ⟨y1, y2, es, c', rfl, f', cc, k, ls, el, pl⟩ := h
      rw [hmp] at cc el pl
      obtain ⟨vs, eV, dV, tV⟩ := id ls
      have sP' := (fp.ch k hf).sq (K := K)
      have w1' := TK.ch (K := K) k hf _ _ w1
      repeat' (walk_at "jv")
      intro T1 nT1
      have kT := Same.upd_new (o := .tup vs) nT1
      have dT1 : Dp K (upd H' T1 (.tup vs)) (.ref T1) (.tuple es) := .tup (sq_tup upd_same) (DpAll.same kT _ _ dV)
      replace f' := f'.same kT
      replace sP' := TK.same (K := K) kT _ _ sP'
      replace w1' := TK.same (K := K) kT _ _ w1'
      replace k := k.trans (Ch.of_same kT)
      generalize upd H' T1 (.tup vs) = H2 at *
      clear kT nT1 ls eV dV
      repeat' (walk_at "jv")
      refine c_tup (ps.map V.str) (fun D i H3 => ∃ (t : List Nat) (c2 : Int), H2 D = none ∧ Fd H3 a c2 ∧ c2 ≤ c' + i ∧ Ch a H2 H3 ∧ H3 D = some (.lst (natsV t)) ∧ t.length = i ∧ ∀ n ∈ t, n < 2) (fun D nD => ⟨[], c', nD, f'.same (Same.upd_new nD), by omega, Ch.upd_new nD, upd_same, rfl, fun n h => nomatch h⟩) (fun D i H3 _ h => ?_) (fun D i x H3 hx h => ?_) (fun D H3 h => ?_)
      · obtain ⟨_, _, _, _, _, k3, _⟩ := h
        exact TK.ch (K := K) k3 f' _ _ sP'
      · obtain ⟨t, c2, nD, f3, c2l, k3, eD, tl, tk⟩ := h
        have hi : i < ps.length := by
          have := (List.getElem?_eq_some_iff.mp hx).1
          rwa [List.length_map] at this
        have nDa : D ≠ a := f'.ne nD
        repeat' (walk_at "jv")
        refine ⟨a, 2, c2, rfl, f3, by omega, by omega, by omega, fun r H4 r0 r1 f4 k4 => ?_⟩
        have eD4 := k4 _ _ nDa eD
        obtain ⟨n, rfl⟩ := Int.eq_ofNat_of_zero_le r0
        repeat' (walk_at "jv")
        refine i_lcE eD4 (by rw [nats_len, tl, sizeLine_eq]; omega) ⟨t ++ [n], c2 + 1, nD, f4.upd (Ne.symm nDa), by omega, (k3.trans k4).upd_l nD, ?_, by rw [List.length_append, tl]; rfl, fun m hm => ?_⟩
        · rw [upd_same]
          unfold natsV
          rw [List.map_append]
          rfl
        · rcases List.mem_append.mp hm with hm | hm
          · exact tk m hm
          · rw [List.mem_singleton.mp hm]
            omega
      · obtain ⟨t, c2, nD, f3, c2l, k3, eD, tl, tk⟩ := h
        rw [hmp] at c2l tl
        replace dT1 := Dp.tk (TK.ch k3 f') _ _ (show tupOnly (.tuple es) = true from tV) dT1
        repeat' (walk_at "jv")
        intro T2 nT2
        have kT2 := Same.upd_new (o := .tup (natsV t)) nT2
        have s2 : SqT K (upd H3 T2 (.tup (natsV t))) T2 (natsV t) := sq_tup upd_same
        replace dT1 := Dp.same kT2 _ _ dT1
        replace f3 := f3.same kT2
        replace k3 := k3.trans (Ch.of_same kT2)
        generalize upd H3 T2 (.tup (natsV t)) = H4 at *
        clear kT2 nT2
        repeat' (walk_at "jv")
        intro T nT
        have kT := Same.upd_new (o := .tup [V.ref T1, .ref T2]) nT
        exact q T T1 T2 es t c2 _ (f3.same kT) (by omega) ((k.trans k3).trans (Ch.of_same kT)) (sq_tup upd_same) (Dp.same kT _ _ dT1) el (List.all_eq_true.mpr fun j hj => pl j (List.mem_range.mp hj)) (TK.same (K := K) kT _ _ s2) tl tk
end
end
section
open L2 PySem PySem.Spec PyProof.Rows
abbrev s__law_table : Stmt := topS 75
theorem sc__law_table : FnScope ["_law_web_here", "_law_place", "_law_rule", "_law_others", "_law_at", "_law_number"] ["_law_web_here", "_law_place", "_law_rule"] (defScope s__law_table) := ⟨rfl, rfl, rfl, by decide +kernel, rfl, by decide +kernel, by decide +kernel⟩
def spTableP (K : PySem.W.Frag) : Sp := fun vs H Q _ => ∃ (v x : V) (z : Str) (d : PyData) (ps : List Str) (rs : List (Str × Str)), vs = [v, .str z, x] ∧ WF K H v ps rs ∧ IsWeb ps rs ∧ z ∈ ps ∧ Dp K H x d ∧ plainB (nearL ps rs z) d = true ∧
  ∀ (T : Addr) (t : List Nat) (H' : Hp), Same H H' → SqT K H' T (natsV t) → t.length = 2 ^ ((nearL ps rs z).length + 1) → (∀ n ∈ t, n < 2) → Q (.ref T) H'
theorem bit_two (x : Nat) : Builtin.bitAnd (x : Int) 1 = ((x % 2 : Nat) : Int) := by
  rw [PyProof.Rows.bitAnd_pp (by omega) (by omega), Int.toNat_natCast]
  show ((x &&& 1 : Nat) : Int) = _
  rw [Nat.and_one_is_mod]
theorem div_two (i k : Nat) : ((0 : Int) + (i : Int)) / 2 ^ k = ((i / 2 ^ k : Nat) : Int) := by
  rw [Int.zero_add]
  simp
section
variable {base : Heap} {P : Program} {w : World} {K : PySem.W.Frag} {mg : Str → Option Value}
theorem ok_ltable (D : Dn K mg "_law_table" s__law_table ["_law_web_here", "_law_place", "_law_rule"]) (B : Bn mg) (C__law_neighbours : Cl P w K mg base 1 "_law_neighbours" ["_law_web_here", "_law_place"] (spNear K)) : Cl P w K mg base 2 "_law_table" ["_law_web_here", "_law_place", "_law_rule"] (spTableP K) := by
  refine D.cl sc__law_table (fun vs H Q E h => ?_) (fun f cdv A outer s H vs Q E hr h => ?_)
  · obtain ⟨v, x, z, d, ps, rs, rfl, _⟩ := h
    rfl
  · obtain ⟨v, x, z, d, ps, rs, rfl, hw, W, hz, hd, pd, q⟩ := h
    refine ⟨_, (pss_cons (ps_set (i := 3) sc__law_table.nd rfl (by first | exact Or.inl rfl | exact Or.inr rfl) (pe_c C__law_neighbours hr (pa_cons (pv 0) (pa_cons (pv 1) pa_nil))))
      (pss_cons (ps_set (i := 4) sc__law_table.nd rfl (by first | exact Or.inl rfl | exact Or.inr rfl) (pe_ifExp (pt_cmpR (k_eqD (K := K) hr.units) (pv 2) (pe_tup (pa_cons pe_str pa_nil)) (nomark _)) pe_int (pe_op op_add pe_int (k_bm (K := K) PySem.F.plainAttrs_list PySem.F.slot_list_index PySem.F.type_list_index (k_indexD (K := K) (hu65 hr)) (pv 3) (pa_cons (pe_ix (k_ixT (K := K)) (pv 2) pe_int (fun _ _ => rfl)) pa_nil)))))
      (pss_one (ps_ret (pe_callTy (k_tuple (K := K)) rfl B.tuple_ (by decide +kernel) (pa_cons (pe_lc (own := [("_law_number", 5)]) rfl sc__law_table.nd (pi_range1 rfl B.range_ (pa_cons (pe_op op_shl pe_int (pe_op op_add (pe_callB (k_len (K := K)) rfl B.len_ (by decide +kernel) (pa_cons (pv 3) pa_nil)) pe_int)) pa_nil)) (blkOk_by (N := ["_law_web_here", "_law_place", "_law_rule", "_law_others", "_law_at", "_law_number"]) (sc := defScope s__law_table) (by decide +kernel)) (fun _ _ _ _ _ => (pg_name (i := 5) sc__law_table.nd rfl (by first | exact Or.inl rfl | exact Or.inr rfl))) (fun _ _ _ _ _ => pts_nil) (fun _ _ _ _ _ => (pe_op op_and (pe_op op_shr (pv 5) (pv 4)) pe_int))) pa_nil)))))), ?_⟩
    repeat' (walk_at "jv")
    refine ⟨v, z, ps, rs, rfl, hw.dp, W, hz, fun L H1 _ k1 eL => ?_⟩
    replace hd := Dp.same k1 _ _ hd
    have hnl := near_len W hz
    repeat' (walk_at "jv")
    intro p np
    have kp := Same.upd_new (o := .tup [V.str "keep"]) np
    have sp : SqT K (upd H1 p (.tup [V.str "keep"])) p [V.str "keep"] := sq_tup upd_same
    replace hd := Dp.same kp _ _ hd
    replace eL := kp _ _ eL
    replace k1 := k1.trans kp
    generalize upd H1 p (.tup [V.str "keep"]) = H2 at *
    clear kp np
    have sd : SeqAt.shaped d = true := by
      have r := (plain_rule pd).1
      unfold plainB at pd
      split at pd
      · have e := of_decide_eq_true pd
        subst e
        decide +kernel
      · rename_i s y
        rw [Bool.and_eq_true] at pd
        have e := of_decide_eq_true pd.1
        subst e
        have l := rule_lay r (by decide) fun y hy => W.names.2 y (List.mem_filter.mp hy).1
        unfold SeqAt.shaped
        rw [l]
        rfl
      · cases pd
    refine ⟨d, .tuple [.str "keep"], hd, .tup sp (.cons (.str _) .nil), sd, by decide +kernel, ?_⟩
    refine ⟨_, rfl, ?_⟩
    cases ck : PyData.eqv d (.tuple [.str "keep"]) with
    | true =>
      repeat' (walk_at "jv")
      refine i_shl (k := ((nearL ps rs z).map V.str).length + 1) (by rw [List.length_map]; omega) ?_
      rw [List.length_map]
      have h2p : 2 ^ ((nearL ps rs z).length + 1) ≤ 256 := Nat.le_trans (Nat.pow_le_pow_right (by decide) (show (nearL ps rs z).length + 1 ≤ 8 by omega)) (by decide)
      generalize 2 ^ ((nearL ps rs z).length + 1) = m at *
      repeat' (walk_at "jv")
      refine c_range (fun D i H3 => ∃ t : List Nat, H2 D = none ∧ Same H2 H3 ∧ H3 D = some (.lst (natsV t)) ∧ t.length = i ∧ ∀ n ∈ t, n < 2) (fun D nD => ⟨[], nD, Same.upd_new nD, upd_same, rfl, fun n h => nomatch h⟩) (fun D i H3 hi h => ?_) (fun D H3 h => ?_)
      · obtain ⟨t, nD, k3, eD, tl, tk⟩ := h
        rw [Int.toNat_natCast] at hi
        repeat' (walk_at "jv")
        refine i_rI (by omega) ?_
        repeat' (walk_at "jv")
        rw [div_two, bit_two]
        have fin : ∀ n : Nat, n < 2 → ∃ t' : List Nat, H2 D = none ∧ Same H2 (upd H3 D (.lst (natsV t ++ [V.int (n : Nat)]))) ∧ (upd H3 D (.lst (natsV t ++ [V.int (n : Nat)]))) D = some (.lst (natsV t')) ∧ t'.length = i + 1 ∧ ∀ n ∈ t', n < 2 := fun n hn => by
          refine ⟨t ++ [n], nD, fun c oc z => (upd_ne (ne_of_none z nD)).trans (k3 _ _ z), ?_, by rw [List.length_append, tl]; rfl, fun m hm => ?_⟩
          · rw [upd_same]
            unfold natsV
            rw [List.map_append]
            rfl
          · rcases List.mem_append.mp hm with hm | hm
            · exact tk m hm
            · rw [List.mem_singleton.mp hm]
              exact hn
        exact i_lcE eD (by rw [nats_len, tl, sizeLine_eq]; omega) (fin _ (Nat.mod_lt _ (by decide)))
      · obtain ⟨t, nD, k3, eD, tl, tk⟩ := h
        rw [Int.toNat_natCast] at tl
        repeat' (walk_at "jv")
        intro T nT
        have kT := Same.upd_new (o := .tup (natsV t)) nT
        exact q T t _ ((k1.trans k3).trans kT) (sq_tup upd_same) tl tk
    | false =>
      obtain ⟨y, rfl, hy⟩ : ∃ y, d = .tuple [.str "copy", .str y] ∧ y ∈ nearL ps rs z := by
        unfold plainB at pd
        split at pd
        · have e := of_decide_eq_true pd
          subst e
          exact absurd ck (by decide +kernel)
        · rename_i s y
          rw [Bool.and_eq_true] at pd
          have e := of_decide_eq_true pd.1
          subst e
          exact ⟨y, rfl, of_decide_eq_true pd.2⟩
        · cases pd
      obtain ⟨T1, us, rfl, s1, d1⟩ := tup_parts hd
      obtain rfl : us = [V.str "copy", V.str y] := DpAll.strs_inv (ns := ["copy", y]) d1
      repeat' (walk_at "jv")
      have hix : (nearL ps rs z).idxOf y < (nearL ps rs z).length := List.idxOf_lt_length_of_mem hy
      refine i_indexT (sq_lst eL) (fun u hu => W.names.2 u (List.mem_filter.mp hu).1) hy ?_
      repeat' (walk_at "jv")
      refine i_shl (k := ((nearL ps rs z).map V.str).length + 1) (by rw [List.length_map]; omega) ?_
      rw [List.length_map]
      have h2p : 2 ^ ((nearL ps rs z).length + 1) ≤ 256 := Nat.le_trans (Nat.pow_le_pow_right (by decide) (show (nearL ps rs z).length + 1 ≤ 8 by omega)) (by decide)
      generalize 2 ^ ((nearL ps rs z).length + 1) = m at *
      repeat' (walk_at "jv")
      refine c_range (fun D i H3 => ∃ t : List Nat, H2 D = none ∧ Same H2 H3 ∧ H3 D = some (.lst (natsV t)) ∧ t.length = i ∧ ∀ n ∈ t, n < 2) (fun D nD => ⟨[], nD, Same.upd_new nD, upd_same, rfl, fun n h => nomatch h⟩) (fun D i H3 hi h => ?_) (fun D H3 h => ?_)
      · obtain ⟨t, nD, k3, eD, tl, tk⟩ := h
        rw [Int.toNat_natCast] at hi
        repeat' (walk_at "jv")
        refine i_rI (by omega) ?_
        repeat' (walk_at "jv")
        rw [div_two, bit_two]
        have fin : ∀ n : Nat, n < 2 → ∃ t' : List Nat, H2 D = none ∧ Same H2 (upd H3 D (.lst (natsV t ++ [V.int (n : Nat)]))) ∧ (upd H3 D (.lst (natsV t ++ [V.int (n : Nat)]))) D = some (.lst (natsV t')) ∧ t'.length = i + 1 ∧ ∀ n ∈ t', n < 2 := fun n hn => by
          refine ⟨t ++ [n], nD, fun c oc z => (upd_ne (ne_of_none z nD)).trans (k3 _ _ z), ?_, by rw [List.length_append, tl]; rfl, fun m hm => ?_⟩
          · rw [upd_same]
            unfold natsV
            rw [List.map_append]
            rfl
          · rcases List.mem_append.mp hm with hm | hm
            · exact tk m hm
            · rw [List.mem_singleton.mp hm]
              exact hn
        exact i_lcE eD (by rw [nats_len, tl, sizeLine_eq]; omega) (fin _ (Nat.mod_lt _ (by decide)))
      · obtain ⟨t, nD, k3, eD, tl, tk⟩ := h
        rw [Int.toNat_natCast] at tl
        repeat' (walk_at "jv")
        intro T nT
        have kT := Same.upd_new (o := .tup (natsV t)) nT
        exact q T t _ ((k1.trans k3).trans kT) (sq_tup upd_same) tl tk
end
end
section
open L2 PySem PySem.Spec PyProof.Rows
abbrev s__law_bent : Stmt := topS 74
theorem sc__law_bent : FnScope ["_law_feed_here", "_law_web_here", "_law_thing", "_law_rules", "_law_state", "_law_at", "_law_rule", "_law_one_here", "_law_some", "_law_table_here", "_law_place", "_law_here"] ["_law_feed_here", "_law_web_here", "_law_thing"] (defScope s__law_bent) := ⟨rfl, rfl, rfl, by decide +kernel, rfl, by decide +kernel, by decide +kernel⟩
def GQ (K : PySem.W.Frag) (H : Hp) (a b : Addr) (n : Nat) (x : V) : Prop := ∃ d, Ob2 K H a b x d ∧ okD d = true ∧ d.canLay0 = true ∧ d.depth ≤ n
def GQs (K : PySem.W.Frag) (H : Hp) (a b : Addr) (n : Nat) (xs : List V) : Prop := ∃ ds, ObAll2 K H a b xs ds ∧ okAll ds = true ∧ PyData.canLayAll0 ds = true ∧ PyData.depthAll ds ≤ n
section
variable {K : PySem.W.Frag} {H H' : Hp} {a b p : Addr} {n m : Nat} {x : V} {xs ys : List V}
theorem ok_alla : ∀ {ds es : List PyData}, okAll ds = true → okAll es = true → okAll (ds ++ es) = true
  | [], _, _, h => h
  | d :: ds, es, g, h => by
    have g' : (okD d && okAll ds) = true := g
    rw [Bool.and_eq_true] at g'
    show (okD d && okAll (ds ++ es)) = true
    rw [g'.1, ok_alla g'.2 h]
    rfl
theorem lay_alla : ∀ {ds es : List PyData}, PyData.canLayAll0 ds = true → PyData.canLayAll0 es = true → PyData.canLayAll0 (ds ++ es) = true
  | [], _, _, h => h
  | d :: ds, es, g, h => by
    have g' : (d.canLay0 && PyData.canLayAll0 ds) = true := g
    rw [Bool.and_eq_true] at g'
    show (d.canLay0 && PyData.canLayAll0 (ds ++ es)) = true
    rw [g'.1, lay_alla g'.2 h]
    rfl
theorem dep_alla : ∀ {ds es : List PyData}, PyData.depthAll ds ≤ n → PyData.depthAll es ≤ n → PyData.depthAll (ds ++ es) ≤ n
  | [], _, _, h => h
  | d :: ds, es, g, h => by
    have g' : max d.depth (PyData.depthAll ds) ≤ n := g
    have := dep_alla (ds := ds) (es := es) (by omega) h
    show max d.depth (PyData.depthAll (ds ++ es)) ≤ n
    omega
theorem GQ.same (h : GQ K H a b n x) (k : Same H H') : GQ K H' a b n x := let ⟨d, o, s⟩ := h; ⟨d, o.same k, s⟩
theorem GQ.ch {c : Int} (h : GQ K H a b n x) (k : Ch a H H') (f : Fd H a c) : GQ K H' a b n x := let ⟨d, o, s⟩ := h; ⟨d, o.ch k f, s⟩
theorem GQ.atb (h : GQ K H a b n x) (k : Ch b H H') (f : Sf H b) : GQ K H' a b n x := let ⟨d, o, s⟩ := h; ⟨d, Ob2.go (tk_sf k f) (fun p o _ n e => k p o n e) d x o, s⟩
theorem GQs.same (h : GQs K H a b n xs) (k : Same H H') : GQs K H' a b n xs := let ⟨d, o, s⟩ := h; ⟨d, o.same k, s⟩
theorem GQs.ch {c : Int} (h : GQs K H a b n xs) (k : Ch a H H') (f : Fd H a c) : GQs K H' a b n xs := let ⟨d, o, s⟩ := h; ⟨d, ObAll2.go (TK.ch k f) (fun p o n _ e => k p o n e) d xs o, s⟩
theorem GQ.mono (h : GQ K H a b n x) (l : n ≤ m := by decide) : GQ K H a b m x := let ⟨d, o, s1, s2, s3⟩ := h; ⟨d, o, s1, s2, by omega⟩
theorem GQs.mono (h : GQs K H a b n xs) (l : n ≤ m := by decide) : GQs K H a b m xs := let ⟨d, o, s1, s2, s3⟩ := h; ⟨d, o, s1, s2, by omega⟩
theorem GQs.nil : GQs K H a b n [] := ⟨[], .nil, rfl, rfl, Nat.zero_le _⟩
theorem GQs.cons (h : GQ K H a b n x) (g : GQs K H a b n xs) : GQs K H a b n (x :: xs) := by
  obtain ⟨d, o, s1, s2, s3⟩ := h
  obtain ⟨ds, os, t1, t2, t3⟩ := g
  refine ⟨d :: ds, .cons o os, ?_, ?_, ?_⟩
  · show (okD d && okAll ds) = true
    rw [s1, t1]
    rfl
  · show (d.canLay0 && PyData.canLayAll0 ds) = true
    rw [s2, t2]
    rfl
  · show max d.depth (PyData.depthAll ds) ≤ n
    omega
theorem GQs.app (h : GQs K H a b n xs) (g : GQs K H a b n ys) : GQs K H a b n (xs ++ ys) := by
  obtain ⟨d, o, s1, s2, s3⟩ := h
  obtain ⟨ds, os, t1, t2, t3⟩ := g
  exact ⟨d ++ ds, o.app os, ok_alla s1 t1, lay_alla s2 t2, dep_alla s3 t3⟩
theorem GQs.sub (h : GQs K H a b n xs) : ∀ {ys : List V}, (∀ y ∈ ys, y ∈ xs) → GQs K H a b n ys
  | [], _ => .nil
  | y :: ys, hy => by
    refine .cons ?_ (h.sub fun z hz => hy z (List.mem_cons_of_mem _ hz))
    obtain ⟨ds, os, t1, t2, t3⟩ := h
    obtain ⟨d, hd, od⟩ := ObAll2.mem os (hy y List.mem_cons_self)
    exact ⟨d, od, ok_all.mp t1 d hd, lay_mem t2 d hd, depth_mem t3 d hd⟩
theorem GQs.take (h : GQs K H a b n xs) (k : Nat) : GQs K H a b n (xs.take k) := h.sub fun _ => List.mem_of_mem_take
theorem GQs.drop (h : GQs K H a b n xs) (k : Nat) : GQs K H a b n (xs.drop k) := h.sub fun _ => List.mem_of_mem_drop
theorem GQs.tup (s : SqT K H p xs) (h : GQs K H a b n xs) : GQ K H a b (n + 1) (.ref p) := by
  obtain ⟨ds, os, t1, t2, t3⟩ := h
  exact ⟨_, .tup s os, t1, t2, by show PyData.depthAll ds + 1 ≤ n + 1; omega⟩
theorem GQs.lst (e : H p = some (.lst xs)) (n1 : p ≠ a) (n2 : p ≠ b) (h : GQs K H a b n xs) : GQ K H a b (n + 1) (.ref p) := by
  obtain ⟨ds, os, t1, t2, t3⟩ := h
  exact ⟨_, .lst e n1 n2 os, t1, t2, by show PyData.depthAll ds + 1 ≤ n + 1; omega⟩
theorem gq_int (i : Int) : GQ K H a b 0 (.int i) := ⟨_, .int i, rfl, rfl, Nat.le_refl _⟩
theorem gq_bool (e : Bool) : GQ K H a b 0 (.bl e) := ⟨_, .bl e, rfl, rfl, Nat.le_refl _⟩
theorem gq_none : GQ K H a b 0 .non := ⟨_, .non, rfl, rfl, Nat.le_refl _⟩
theorem gq_str {z : Str} (h : PyData.strOk z = true) (hl : z.cps.size ≤ 20) : GQ K H a b 0 (.str z) := ⟨_, .str z, ok_str.mpr ⟨by omega, h⟩, h, Nat.le_refl _⟩
theorem gq_name {z : Str} (h : nmOk z = true) : GQ K H a b 0 (.str z) := by
  obtain ⟨h1, h2⟩ := ok_str.mp (nz_name (b := true) h).ok
  exact ⟨_, .str z, (nz_name (b := true) h).ok, h2, Nat.le_refl _⟩
theorem gq_nats : ∀ t : List Nat, GQs K H a b 0 (natsV t)
  | [] => .nil
  | n :: t => .cons (gq_int _) (gq_nats t)
theorem gq_ints : ∀ t : List Int, GQs K H a b 0 (t.map V.int)
  | [] => .nil
  | n :: t => .cons (gq_int _) (gq_ints t)
mutual
theorem Ob2.of : ∀ (d : PyData) (v : V), tupOnly d = true → Dp K H v d → Ob2 K H a b v d
  | .none, _, _, h => by cases h; exact .non
  | .bool b, _, _, h => by cases h; exact .bl b
  | .int i, _, _, h => by cases h; exact .int i
  | .str x, _, _, h => by cases h; exact .str x
  | .list ds, _, t, h => by cases t
  | .tuple ds, _, t, h => by
    cases h with
    | tup s al => exact .tup s (ObAll2.of ds _ t al)
  | .dict _, _, t, h => by cases t
theorem ObAll2.of : ∀ (ds : List PyData) (vs : List V), tupOnlyAll ds = true → DpAll K H vs ds → ObAll2 K H a b vs ds
  | [], _, _, h => by cases h; exact .nil
  | d :: ds, _, t, h => by
    have t' : (tupOnly d && tupOnlyAll ds) = true := t
    rw [Bool.and_eq_true] at t'
    cases h with
    | cons h1 h2 => exact .cons (Ob2.of d _ t'.1 h1) (ObAll2.of ds _ t'.2 h2)
end
theorem GQ.shp (h : GQ K H a b n x) (hn : n ≤ 60) : ∃ d, Ob2 K H a b x d ∧ okD d = true ∧ shpB d = true := by
  obtain ⟨d, o, s1, s2, s3⟩ := h
  refine ⟨d, o, s1, ?_⟩
  unfold shpB
  split
  · rename_i es e
    have l2 : (PyData.canLayAll0 es && (e.canLay0 && true)) = true := s2
    rw [Bool.and_eq_true] at l2
    have l3 : max (PyData.depthAll es + 1) (max e.depth 0) + 1 ≤ n := s3
    rw [List.all_eq_true]
    intro d hd
    unfold SeqAt.shaped
    rw [lay_mem l2.1 d hd, decide_eq_true (depth_mem (n := 64) (by omega) d hd)]
    rfl
  · rfl
end
def ThP (K : PySem.W.Frag) (H : Hp) (ps : List Str) (rs : List (Str × Str)) (x : V) : Prop := ∃ (T R S : Addr) (es : List PyData) (t : List Nat), x = .ref T ∧ SqT K H T [.ref R, .ref S] ∧ Dp K H (.ref R) (.tuple es) ∧ es.length = ps.length ∧ plainsB ps rs es = true ∧ SqT K H S (natsV t) ∧ t.length = ps.length ∧ ∀ n ∈ t, n < 2
section
variable {K : PySem.W.Frag} {H H' : Hp} {a b : Addr} {ps : List Str} {rs : List (Str × Str)} {es : List PyData} {x : V}
theorem plains_get (h : plainsB ps rs es = true) (hl : es.length = ps.length) : ∀ d ∈ es, ∃ z ∈ ps, plainB (nearL ps rs z) d = true := fun d hd => by
  obtain ⟨i, hi, rfl⟩ := List.getElem_of_mem hd
  have hp : i < ps.length := by omega
  have := List.all_eq_true.mp h i (List.mem_range.mpr hp)
  rw [List.getD_eq_getElem?_getD, List.getD_eq_getElem?_getD, List.getElem?_eq_getElem hp, List.getElem?_eq_getElem hi] at this
  exact ⟨ps[i], List.getElem_mem hp, this⟩
theorem plain_parts {near : List Str} {d : PyData} (h : plainB near d = true) : d = .tuple [.str "keep"] ∨ ∃ y ∈ near, d = .tuple [.str "copy", .str y] := by
  unfold plainB at h
  split at h
  · rw [of_decide_eq_true h]
    exact .inl rfl
  · rename_i s y
    rw [Bool.and_eq_true] at h
    rw [of_decide_eq_true h.1]
    exact .inr ⟨y, of_decide_eq_true h.2, rfl⟩
  · cases h
theorem plain_good (W : IsWeb ps rs) {z : Str} {d : PyData} (h : plainB (nearL ps rs z) d = true) : tupOnly d = true ∧ okD d = true ∧ d.canLay0 = true ∧ d.depth ≤ 1 := by
  rcases plain_parts h with rfl | ⟨y, hy, rfl⟩
  · decide +kernel
  · have hn := W.names.2 y (List.mem_filter.mp hy).1
    have g1 : okD (.str y) = true := (nz_name (b := true) hn).ok
    have g2 : PyData.canLay0 (.str y) = true := (ok_str.mp g1).2
    refine ⟨rfl, ?_, ?_, Nat.le_of_eq rfl⟩
    · show (okD (.str "copy") && (okD (.str y) && true)) = true
      rw [g1]
      decide +kernel
    · show (PyData.canLay0 (.str "copy") && (PyData.canLay0 (.str y) && true)) = true
      rw [g2]
      decide +kernel
theorem plains_good (W : IsWeb ps rs) (h : plainsB ps rs es = true) (hl : es.length = ps.length) : tupOnlyAll es = true ∧ okAll es = true ∧ PyData.canLayAll0 es = true ∧ PyData.depthAll es ≤ 1 := by
  have key : ∀ d ∈ es, tupOnly d = true ∧ okD d = true ∧ d.canLay0 = true ∧ d.depth ≤ 1 := fun d hd => by
    obtain ⟨z, _, hz⟩ := plains_get h hl d hd
    exact plain_good W hz
  clear h hl
  induction es with
  | nil => exact ⟨rfl, rfl, rfl, Nat.zero_le _⟩
  | cons d es ih =>
    obtain ⟨a1, a2, a3, a4⟩ := key d List.mem_cons_self
    obtain ⟨b1, b2, b3, b4⟩ := ih fun e he => key e (List.mem_cons_of_mem _ he)
    refine ⟨?_, ?_, ?_, ?_⟩
    · show (tupOnly d && tupOnlyAll es) = true
      rw [a1, b1]
      rfl
    · show (okD d && okAll es) = true
      rw [a2, b2]
      rfl
    · show (d.canLay0 && PyData.canLayAll0 es) = true
      rw [a3, b3]
      rfl
    · show max d.depth (PyData.depthAll es) ≤ 1
      omega
theorem ThP.tk (h : ThP K H ps rs x) (W : IsWeb ps rs) (t : TK K H H') : ThP K H' ps rs x := by
  obtain ⟨T, R, S, es, u, rfl, s1, d1, el, pl, s2, tl, tk⟩ := h
  exact ⟨T, R, S, es, u, rfl, t _ _ s1, Dp.tk t _ _ (show tupOnly (.tuple es) = true from (plains_good W pl el).1) d1, el, pl, t _ _ s2, tl, tk⟩
theorem ThP.gq (h : ThP K H ps rs x) (W : IsWeb ps rs) : GQ K H a b 4 x := by
  obtain ⟨T, R, S, es, u, rfl, s1, d1, el, pl, s2, tl, tk⟩ := h
  obtain ⟨g1, g2, g3, g4⟩ := plains_good W pl el
  have gR : GQ K H a b 3 (.ref R) := ⟨_, Ob2.of _ _ (show tupOnly (.tuple es) = true from g1) d1, g2, g3, by show PyData.depthAll es + 1 ≤ 3; omega⟩
  exact GQs.tup s1 (.cons gR (.cons ((gq_nats u).tup s2).mono .nil))
end
def TbP (K : PySem.W.Frag) (H : Hp) (z : V) : Prop := ∃ (A T : Addr) (t : List Nat), z = .ref A ∧ SqT K H A [.str "table", .ref T] ∧ SqT K H T (natsV t)
theorem TbP.tk {K : PySem.W.Frag} {H H' : Hp} {z : V} (h : TbP K H z) (k : TK K H H') : TbP K H' z := let ⟨A, T, t, e, s1, s2⟩ := h; ⟨A, T, t, e, k _ _ s1, k _ _ s2⟩
theorem TbP.gq {K : PySem.W.Frag} {H : Hp} {a b : Addr} : ∀ {zs : List V}, (∀ z ∈ zs, TbP K H z) → GQs K H a b 5 zs
  | [], _ => .nil
  | z :: zs, h => by
    obtain ⟨A, T, t, rfl, s1, s2⟩ := h z List.mem_cons_self
    exact .cons (GQs.tup (n := 4) s1 (.cons (gq_str (by decide +kernel) (by decide +kernel)).mono (.cons ((gq_nats t).tup s2).mono .nil))) (TbP.gq fun y hy => h y (List.mem_cons_of_mem _ hy))
theorem fa_nilQ {K : PySem.W.Frag} {H : Hp} {a b : Addr} {n : Nat} : ∀ x ∈ ([] : List V), GQ K H a b n x := fun _ h => nomatch h
theorem fa_consQ {K : PySem.W.Frag} {H : Hp} {a b : Addr} {n : Nat} {x : V} {xs : List V} (h : GQ K H a b n x) (t : ∀ y ∈ xs, GQ K H a b n y) : ∀ y ∈ x :: xs, GQ K H a b n y := fun y hy => by
  rcases List.mem_cons.mp hy with e | hy
  · rw [e]; exact h
  · exact t y hy
def spBentP (K : PySem.W.Frag) : Sp := fun vs H Q _ => ∃ (a b : Addr) (v x : V) (ob : HO) (c : Int) (ps : List Str) (rs : List (Str × Str)), vs = [.ref a, v, x] ∧ Fd H a c ∧ c < 10 ^ 14 ∧ H b = some ob ∧ b ≠ a ∧ WF K H v ps rs ∧ IsWeb ps rs ∧ ThP K H ps rs x ∧
  ∀ (y : V) (H' : Hp), GQ K H' a b 10 y → Fd H' a (c + 4) → Ch a H H' → Q y H'
section
variable {base : Heap} {P : Program} {w : World} {K : PySem.W.Frag} {mg : Str → Option Value}
theorem ok_lbent (D : Dn K mg "_law_bent" s__law_bent ["_law_feed_here", "_law_web_here", "_law_thing"]) (B : Bn mg) (C__law_draw : Cl P w K mg base 1 "_law_draw" ["_law_feed_here", "_law_many"] spDraw) (C__law_one : Cl P w K mg base 2 "_law_one" ["_law_feed_here", "_law_things"] (spOne K)) (C__law_table : Cl P w K mg base 2 "_law_table" ["_law_web_here", "_law_place", "_law_rule"] (spTableP K)) : Cl P w K mg base 3 "_law_bent" ["_law_feed_here", "_law_web_here", "_law_thing"] (spBentP K) := by
  refine D.cl sc__law_bent (fun vs H Q E h => ?_) (fun f cdv A outer s H vs Q E hr h => ?_)
  · obtain ⟨a, b, v, x, ob, c, ps, rs, rfl, _⟩ := h
    rfl
  · obtain ⟨a, b, v, x, ob, c, ps, rs, rfl, f1, hc, eB, dB, hw, W, th, q⟩ := h
    obtain ⟨T, R, S, es, t, rfl, sT, dR, el, pl, sS, tl, tk⟩ := th
    obtain ⟨tw, tp, tr, rfl, w1, fp, dRo⟩ := id hw
    obtain ⟨R', xs, e0, sR, aR⟩ := tup_parts dR
    obtain rfl : R = R' := by injection e0
    clear e0
    have sP := fp.sq (K := K)
    have hmp : (ps.map V.str).length = ps.length := List.length_map ..
    have h8 := W.le8
    have h0 := W.pos
    have hxl : xs.length = es.length := DpAll.len aR
    have hnt : (natsV t).length = t.length := List.length_map ..
    obtain ⟨g1, g2, g3, g4⟩ := plains_good W pl el
    have gR : GQs K H a b 4 xs := ⟨es, ObAll2.of _ _ g1 aR, g2, g3, by omega⟩
    have ixat : ∀ {i : Nat} {hi : i < ps.length}, atI (ps.map V.str) ((i : Nat) : Int) = some (.str (ps[i]'hi)) := fun {i hi} => atI_nat (by rw [List.getElem?_map, List.getElem?_eq_getElem hi]; rfl)
    have gS : GQ K H a b 4 (.ref S) := ((gq_nats t).tup sS).mono
    have kk : Ch a H H := Ch.of_same (Same.refl _)
    refine ⟨_, (pss_cons (ps_asg (pv 2) (kpg_tup (K := K) (n := 2) rfl (pgs_cons (pg_name (i := 3) sc__law_bent.nd rfl (by first | exact Or.inl rfl | exact Or.inr rfl)) (pgs_cons (pg_name (i := 4) sc__law_bent.nd rfl (by first | exact Or.inl rfl | exact Or.inr rfl)) pgs_nil))))
      (pss_cons (ps_set (i := 5) sc__law_bent.nd rfl (by first | exact Or.inl rfl | exact Or.inr rfl) (pe_c C__law_draw hr (pa_cons (pv 0) (pa_cons (pe_callB (k_len (K := K)) rfl B.len_ (by decide +kernel) (pa_cons (pv 3) pa_nil)) pa_nil))))
      (pss_cons (ps_set (i := 6) sc__law_bent.nd rfl (by first | exact Or.inl rfl | exact Or.inr rfl) (pe_c C__law_one hr (pa_cons (pv 0) (pa_cons (pe_lst (pa_cons (pe_tup (pa_cons pe_str pa_nil)) (pa_cons (pe_tup (pa_cons pe_str pa_nil)) (pa_cons (pe_tup (pa_cons pe_str (pa_cons (pe_ix (k_ixT (K := K)) (pe_ix (k_ixT (K := K)) (pv 1) pe_int (fun _ _ => rfl)) (pv 5) (fun _ _ => rfl)) pa_nil))) (pa_cons (pe_tup (pa_cons pe_str (pa_cons pe_str pa_nil))) (pa_cons (pe_tup (pa_cons pe_str (pa_cons pe_str pa_nil))) (pa_cons (pe_tup (pa_cons pe_str pa_nil)) (pa_cons (pe_lst (pa_cons pe_str pa_nil)) (pa_cons pe_non (pa_cons pe_str (pa_cons (pe_tup (pa_cons pe_str (pa_cons pe_int pa_nil))) (pa_cons (pe_tup (pa_cons (pe_lst (pa_cons pe_str pa_nil)) pa_nil)) pa_nil)))))))))))) pa_nil))))
      (pss_cons (ps_set (i := 7) sc__law_bent.nd rfl (by first | exact Or.inl rfl | exact Or.inr rfl) (pe_c C__law_one hr (pa_cons (pv 0) (pa_cons (pe_lst (pa_cons pe_int (pa_cons (pe_un un_neg pe_int) (pa_cons pe_bl (pa_cons pe_non (pa_cons pe_str (pa_cons (pe_tup (pa_cons pe_int pa_nil)) (pa_cons (pe_lst (pa_cons pe_int pa_nil)) pa_nil)))))))) pa_nil))))
      (pss_cons (ps_set (i := 8) sc__law_bent.nd rfl (by first | exact Or.inl rfl | exact Or.inr rfl) (pe_lst (pa_cons (pe_tup (pa_cons (pe_op op_catA (pe_op op_catA (pe_slice sl_tupA (pv 3) po_none (po_some (pv 5))) (pe_tup (pa_cons (pv 6) pa_nil))) (pe_slice sl_tupA (pv 3) (po_some (pe_op op_add (pv 5) pe_int)) po_none)) (pa_cons (pv 4) pa_nil))) (pa_cons (pe_tup (pa_cons (pv 3) (pa_cons (pe_op op_catA (pe_op op_catA (pe_slice sl_tupA (pv 4) po_none (po_some (pv 5))) (pe_tup (pa_cons (pv 7) pa_nil))) (pe_slice sl_tupA (pv 4) (po_some (pe_op op_add (pv 5) pe_int)) po_none)) pa_nil))) (pa_cons (pe_tup (pa_cons (pe_slice sl_tupA (pv 3) (po_some pe_int) po_none) (pa_cons (pv 4) pa_nil))) (pa_cons (pe_tup (pa_cons (pv 3) (pa_cons (pe_slice sl_tupA (pv 4) (po_some pe_int) po_none) pa_nil))) pa_nil))))))
      (pss_cons (ps_set (i := 8) sc__law_bent.nd rfl (by first | exact Or.inl rfl | exact Or.inr rfl) (pe_op op_cat (pv 8) (pe_lst (pa_cons (pe_tup (pa_cons (pv 3) (pa_cons (pe_op op_catA (pv 4) (pe_tup (pa_cons pe_int pa_nil))) pa_nil))) (pa_cons (pe_tup (pa_cons (pe_op op_catA (pv 3) (pe_tup (pa_cons (pe_tup (pa_cons pe_str pa_nil)) pa_nil))) (pa_cons (pv 4) pa_nil))) (pa_cons (pe_lst (pa_cons (pv 3) (pa_cons (pv 4) pa_nil))) (pa_cons (pe_tup (pa_cons (pe_callTy (k_list (K := K)) rfl B.list_ (by decide +kernel) (pa_cons (pv 3) pa_nil)) (pa_cons (pv 4) pa_nil))) (pa_cons (pe_tup (pa_cons (pv 3) (pa_cons (pe_callTy (k_list (K := K)) rfl B.list_ (by decide +kernel) (pa_cons (pv 4) pa_nil)) pa_nil))) (pa_cons (pe_tup (pa_cons (pv 3) (pa_cons (pv 4) (pa_cons pe_int pa_nil)))) pa_nil)))))))))
      (pss_cons (ps_set (i := 9) sc__law_bent.nd rfl (by first | exact Or.inl rfl | exact Or.inr rfl) (pe_callTy (k_tuple (K := K)) rfl B.tuple_ (by decide +kernel) (pa_cons (pe_lc (own := [("_law_place", 10), ("_law_rule", 6)]) rfl sc__law_bent.nd (kpi_zip (K := K) B.zip_ (pa_cons (pe_ix (k_ixT (K := K)) (pv 1) pe_int (fun _ _ => rfl)) (pa_cons (pv 3) pa_nil))) (blkOk_by (N := ["_law_feed_here", "_law_web_here", "_law_thing", "_law_rules", "_law_state", "_law_at", "_law_rule", "_law_one_here", "_law_some", "_law_table_here", "_law_place", "_law_here"]) (sc := defScope s__law_bent) (by decide +kernel)) (fun _ _ _ _ _ => (kpg_tup (K := K) (n := 2) rfl (pgs_cons (pg_name (i := 10) sc__law_bent.nd rfl (by first | exact Or.inl rfl | exact Or.inr rfl)) (pgs_cons (pg_name (i := 6) sc__law_bent.nd rfl (by first | exact Or.inl rfl | exact Or.inr rfl)) pgs_nil)))) (fun _ _ _ _ _ => pts_nil) (fun _ _ _ _ _ => (pe_tup (pa_cons pe_str (pa_cons (pe_c C__law_table hr (pa_cons (pv 1) (pa_cons (pv 10) (pa_cons (pv 6) pa_nil)))) pa_nil))))) pa_nil)))
      (pss_one (ps_ret (pe_c C__law_one hr (pa_cons (pv 0) (pa_cons (pe_op op_cat (pe_op op_cat (pv 8) (pe_slice (k_slL (K := K)) (pv 8) po_none (po_some pe_int))) (pe_lst (pa_cons pe_non (pa_cons (pe_tup pa_nil) (pa_cons (pv 3) (pa_cons pe_int (pa_cons pe_str (pa_cons pe_bl (pa_cons (pe_tup (pa_cons (pv 4) (pa_cons (pv 3) pa_nil))) (pa_cons (pe_tup (pa_cons (pv 9) (pa_cons (pv 4) pa_nil))) (pa_cons (pe_tup (pa_cons (pv 3) (pa_cons (pe_callTy (k_tuple (K := K)) rfl B.tuple_ (by decide +kernel) (pa_cons (pe_lc (own := [("_law_here", 11)]) rfl sc__law_bent.nd (kpi_tup (K := K) (pv 4)) (blkOk_by (N := ["_law_feed_here", "_law_web_here", "_law_thing", "_law_rules", "_law_state", "_law_at", "_law_rule", "_law_one_here", "_law_some", "_law_table_here", "_law_place", "_law_here"]) (sc := defScope s__law_bent) (by decide +kernel)) (fun _ _ _ _ _ => (pg_name (i := 11) sc__law_bent.nd rfl (by first | exact Or.inl rfl | exact Or.inr rfl))) (fun _ _ _ _ _ => pts_nil) (fun _ _ _ _ _ => (pe_op op_sub pe_int (pv 11)))) pa_nil)) pa_nil))) pa_nil))))))))))) pa_nil)))))))))))), ?_⟩
    repeat' (walk_at "jv")
    refine ⟨a, _, c, rfl, f1, by omega, by omega, by omega, fun av Y1 av0 av1 f2 k2 => ?_⟩
    replace eB := k2 _ _ dB eB
    replace hw := WF.ch hw k2 f1
    replace sT := TK.ch (K := K) k2 f1 _ _ sT
    replace dR := Dp.tk (TK.ch k2 f1) _ _ (show tupOnly (.tuple es) = true from g1) dR
    replace sS := TK.ch (K := K) k2 f1 _ _ sS
    replace w1 := TK.ch (K := K) k2 f1 _ _ w1
    replace sP := TK.ch (K := K) k2 f1 _ _ sP
    replace sR := TK.ch (K := K) k2 f1 _ _ sR
    replace gR := GQs.ch gR k2 f1
    replace gS := GQ.ch gS k2 f1
    replace kk := Ch.trans kk k2
    clear f1 k2
    have f1 := f2
    clear f2
    obtain ⟨av, rfl⟩ := Int.eq_ofNat_of_zero_le av0
    have hav : av < ps.length := by omega
    clear av0 av1
    repeat' (walk_at "jv")
    intro A1 nA1
    have dA1 := f1.ne nA1
    have kA1 := Same.upd_new (o := .tup ([.str "odd"])) nA1
    have eA1 : SqT K (upd Y1 A1 (.tup ([.str "odd"]))) A1 ([.str "odd"]) := sq_tup upd_same
    generalize upd Y1 A1 (.tup ([.str "odd"])) = X1 at *
    replace eB := kA1 _ _ eB
    replace hw := WF.same hw kA1
    replace sT := TK.same (K := K) kA1 _ _ sT
    replace dR := Dp.same kA1 _ _ dR
    replace sS := TK.same (K := K) kA1 _ _ sS
    replace w1 := TK.same (K := K) kA1 _ _ w1
    replace sP := TK.same (K := K) kA1 _ _ sP
    replace sR := TK.same (K := K) kA1 _ _ sR
    replace gR := GQs.same gR kA1
    replace gS := GQ.same gS kA1
    replace kk := kk.trans (Ch.of_same kA1)
    replace f1 := Fd.same f1 kA1
    clear kA1 nA1
    have gA1 : GQ K X1 a b 5 (.ref A1) := (GQs.tup (n := 4) eA1 (.cons (gq_str (by decide +kernel) (by decide +kernel)).mono .nil))
    clear eA1 dA1
    repeat' (walk_at "jv")
    intro A2 nA2
    have dA2 := f1.ne nA2
    have kA2 := Same.upd_new (o := .tup ([.str "least"])) nA2
    have eA2 : SqT K (upd X1 A2 (.tup ([.str "least"]))) A2 ([.str "least"]) := sq_tup upd_same
    generalize upd X1 A2 (.tup ([.str "least"])) = X2 at *
    replace eB := kA2 _ _ eB
    replace hw := WF.same hw kA2
    replace sT := TK.same (K := K) kA2 _ _ sT
    replace dR := Dp.same kA2 _ _ dR
    replace sS := TK.same (K := K) kA2 _ _ sS
    replace w1 := TK.same (K := K) kA2 _ _ w1
    replace sP := TK.same (K := K) kA2 _ _ sP
    replace sR := TK.same (K := K) kA2 _ _ sR
    replace gR := GQs.same gR kA2
    replace gS := GQ.same gS kA2
    replace kk := kk.trans (Ch.of_same kA2)
    replace f1 := Fd.same f1 kA2
    replace gA1 := GQ.same gA1 kA2
    clear kA2 nA2
    have gA2 : GQ K X2 a b 5 (.ref A2) := (GQs.tup (n := 4) eA2 (.cons (gq_str (by decide +kernel) (by decide +kernel)).mono .nil))
    clear eA2 dA2
    repeat' (walk_at "jv")
    refine i_ixT sP (show atI (ps.map V.str) ((av : Nat) : Int) = some (.str (ps[av]'hav)) from ixat) ?_
    repeat' (walk_at "jv")
    intro A3 nA3
    have dA3 := f1.ne nA3
    have kA3 := Same.upd_new (o := .tup ([.str "copy", .str (ps[av]'hav)])) nA3
    have eA3 : SqT K (upd X2 A3 (.tup ([.str "copy", .str (ps[av]'hav)]))) A3 ([.str "copy", .str (ps[av]'hav)]) := sq_tup upd_same
    generalize upd X2 A3 (.tup ([.str "copy", .str (ps[av]'hav)])) = X3 at *
    replace eB := kA3 _ _ eB
    replace hw := WF.same hw kA3
    replace sT := TK.same (K := K) kA3 _ _ sT
    replace dR := Dp.same kA3 _ _ dR
    replace sS := TK.same (K := K) kA3 _ _ sS
    replace w1 := TK.same (K := K) kA3 _ _ w1
    replace sP := TK.same (K := K) kA3 _ _ sP
    replace sR := TK.same (K := K) kA3 _ _ sR
    replace gR := GQs.same gR kA3
    replace gS := GQ.same gS kA3
    replace kk := kk.trans (Ch.of_same kA3)
    replace f1 := Fd.same f1 kA3
    replace gA1 := GQ.same gA1 kA3
    replace gA2 := GQ.same gA2 kA3
    clear kA3 nA3
    have gA3 : GQ K X3 a b 5 (.ref A3) := (GQs.tup (n := 4) eA3 (.cons (gq_str (by decide +kernel) (by decide +kernel)).mono (.cons (gq_name (W.names.2 _ (List.getElem_mem hav))).mono .nil)))
    clear eA3 dA3
    repeat' (walk_at "jv")
    intro A4 nA4
    have dA4 := f1.ne nA4
    have kA4 := Same.upd_new (o := .tup ([.str "copy", .str "lone9"])) nA4
    have eA4 : SqT K (upd X3 A4 (.tup ([.str "copy", .str "lone9"]))) A4 ([.str "copy", .str "lone9"]) := sq_tup upd_same
    generalize upd X3 A4 (.tup ([.str "copy", .str "lone9"])) = X4 at *
    replace eB := kA4 _ _ eB
    replace hw := WF.same hw kA4
    replace sT := TK.same (K := K) kA4 _ _ sT
    replace dR := Dp.same kA4 _ _ dR
    replace sS := TK.same (K := K) kA4 _ _ sS
    replace w1 := TK.same (K := K) kA4 _ _ w1
    replace sP := TK.same (K := K) kA4 _ _ sP
    replace sR := TK.same (K := K) kA4 _ _ sR
    replace gR := GQs.same gR kA4
    replace gS := GQ.same gS kA4
    replace kk := kk.trans (Ch.of_same kA4)
    replace f1 := Fd.same f1 kA4
    replace gA1 := GQ.same gA1 kA4
    replace gA2 := GQ.same gA2 kA4
    replace gA3 := GQ.same gA3 kA4
    clear kA4 nA4
    have gA4 : GQ K X4 a b 5 (.ref A4) := (GQs.tup (n := 4) eA4 (.cons (gq_str (by decide +kernel) (by decide +kernel)).mono (.cons (gq_str (by decide +kernel) (by decide +kernel)).mono .nil)))
    clear eA4 dA4
    repeat' (walk_at "jv")
    intro A5 nA5
    have dA5 := f1.ne nA5
    have kA5 := Same.upd_new (o := .tup ([.str "keep", .str "keep"])) nA5
    have eA5 : SqT K (upd X4 A5 (.tup ([.str "keep", .str "keep"]))) A5 ([.str "keep", .str "keep"]) := sq_tup upd_same
    generalize upd X4 A5 (.tup ([.str "keep", .str "keep"])) = X5 at *
    replace eB := kA5 _ _ eB
    replace hw := WF.same hw kA5
    replace sT := TK.same (K := K) kA5 _ _ sT
    replace dR := Dp.same kA5 _ _ dR
    replace sS := TK.same (K := K) kA5 _ _ sS
    replace w1 := TK.same (K := K) kA5 _ _ w1
    replace sP := TK.same (K := K) kA5 _ _ sP
    replace sR := TK.same (K := K) kA5 _ _ sR
    replace gR := GQs.same gR kA5
    replace gS := GQ.same gS kA5
    replace kk := kk.trans (Ch.of_same kA5)
    replace f1 := Fd.same f1 kA5
    replace gA1 := GQ.same gA1 kA5
    replace gA2 := GQ.same gA2 kA5
    replace gA3 := GQ.same gA3 kA5
    replace gA4 := GQ.same gA4 kA5
    clear kA5 nA5
    have gA5 : GQ K X5 a b 5 (.ref A5) := (GQs.tup (n := 4) eA5 (.cons (gq_str (by decide +kernel) (by decide +kernel)).mono (.cons (gq_str (by decide +kernel) (by decide +kernel)).mono .nil)))
    clear eA5 dA5
    repeat' (walk_at "jv")
    intro A6 nA6
    have dA6 := f1.ne nA6
    have kA6 := Same.upd_new (o := .tup ([.str "copy"])) nA6
    have eA6 : SqT K (upd X5 A6 (.tup ([.str "copy"]))) A6 ([.str "copy"]) := sq_tup upd_same
    generalize upd X5 A6 (.tup ([.str "copy"])) = X6 at *
    replace eB := kA6 _ _ eB
    replace hw := WF.same hw kA6
    replace sT := TK.same (K := K) kA6 _ _ sT
    replace dR := Dp.same kA6 _ _ dR
    replace sS := TK.same (K := K) kA6 _ _ sS
    replace w1 := TK.same (K := K) kA6 _ _ w1
    replace sP := TK.same (K := K) kA6 _ _ sP
    replace sR := TK.same (K := K) kA6 _ _ sR
    replace gR := GQs.same gR kA6
    replace gS := GQ.same gS kA6
    replace kk := kk.trans (Ch.of_same kA6)
    replace f1 := Fd.same f1 kA6
    replace gA1 := GQ.same gA1 kA6
    replace gA2 := GQ.same gA2 kA6
    replace gA3 := GQ.same gA3 kA6
    replace gA4 := GQ.same gA4 kA6
    replace gA5 := GQ.same gA5 kA6
    clear kA6 nA6
    have gA6 : GQ K X6 a b 5 (.ref A6) := (GQs.tup (n := 4) eA6 (.cons (gq_str (by decide +kernel) (by decide +kernel)).mono .nil))
    clear eA6 dA6
    repeat' (walk_at "jv")
    intro A7 nA7
    have dA7 := f1.ne nA7
    have bA7 := Ne.symm (ne_of_none eB nA7)
    have kA7 := Same.upd_new (o := .lst ([.str "keep"])) nA7
    have eA7 : (upd X6 A7 (.lst ([.str "keep"]))) A7 = some (.lst ([.str "keep"])) := upd_same
    generalize upd X6 A7 (.lst ([.str "keep"])) = X7 at *
    replace eB := kA7 _ _ eB
    replace hw := WF.same hw kA7
    replace sT := TK.same (K := K) kA7 _ _ sT
    replace dR := Dp.same kA7 _ _ dR
    replace sS := TK.same (K := K) kA7 _ _ sS
    replace w1 := TK.same (K := K) kA7 _ _ w1
    replace sP := TK.same (K := K) kA7 _ _ sP
    replace sR := TK.same (K := K) kA7 _ _ sR
    replace gR := GQs.same gR kA7
    replace gS := GQ.same gS kA7
    replace kk := kk.trans (Ch.of_same kA7)
    replace f1 := Fd.same f1 kA7
    replace gA1 := GQ.same gA1 kA7
    replace gA2 := GQ.same gA2 kA7
    replace gA3 := GQ.same gA3 kA7
    replace gA4 := GQ.same gA4 kA7
    replace gA5 := GQ.same gA5 kA7
    replace gA6 := GQ.same gA6 kA7
    clear kA7 nA7
    have gA7 : GQ K X7 a b 4 (.ref A7) := (GQs.lst (n := 3) eA7 dA7 bA7 (.cons (gq_str (by decide +kernel) (by decide +kernel)).mono .nil))
    clear eA7 dA7 bA7
    repeat' (walk_at "jv")
    intro A8 nA8
    have dA8 := f1.ne nA8
    have kA8 := Same.upd_new (o := .tup ([.str "most", .int 1])) nA8
    have eA8 : SqT K (upd X7 A8 (.tup ([.str "most", .int 1]))) A8 ([.str "most", .int 1]) := sq_tup upd_same
    generalize upd X7 A8 (.tup ([.str "most", .int 1])) = X8 at *
    replace eB := kA8 _ _ eB
    replace hw := WF.same hw kA8
    replace sT := TK.same (K := K) kA8 _ _ sT
    replace dR := Dp.same kA8 _ _ dR
    replace sS := TK.same (K := K) kA8 _ _ sS
    replace w1 := TK.same (K := K) kA8 _ _ w1
    replace sP := TK.same (K := K) kA8 _ _ sP
    replace sR := TK.same (K := K) kA8 _ _ sR
    replace gR := GQs.same gR kA8
    replace gS := GQ.same gS kA8
    replace kk := kk.trans (Ch.of_same kA8)
    replace f1 := Fd.same f1 kA8
    replace gA1 := GQ.same gA1 kA8
    replace gA2 := GQ.same gA2 kA8
    replace gA3 := GQ.same gA3 kA8
    replace gA4 := GQ.same gA4 kA8
    replace gA5 := GQ.same gA5 kA8
    replace gA6 := GQ.same gA6 kA8
    replace gA7 := GQ.same gA7 kA8
    clear kA8 nA8
    have gA8 : GQ K X8 a b 5 (.ref A8) := (GQs.tup (n := 4) eA8 (.cons (gq_str (by decide +kernel) (by decide +kernel)).mono (.cons (gq_int _).mono .nil)))
    clear eA8 dA8
    repeat' (walk_at "jv")
    intro A9 nA9
    have dA9 := f1.ne nA9
    have bA9 := Ne.symm (ne_of_none eB nA9)
    have kA9 := Same.upd_new (o := .lst ([.str "keep"])) nA9
    have eA9 : (upd X8 A9 (.lst ([.str "keep"]))) A9 = some (.lst ([.str "keep"])) := upd_same
    generalize upd X8 A9 (.lst ([.str "keep"])) = X9 at *
    replace eB := kA9 _ _ eB
    replace hw := WF.same hw kA9
    replace sT := TK.same (K := K) kA9 _ _ sT
    replace dR := Dp.same kA9 _ _ dR
    replace sS := TK.same (K := K) kA9 _ _ sS
    replace w1 := TK.same (K := K) kA9 _ _ w1
    replace sP := TK.same (K := K) kA9 _ _ sP
    replace sR := TK.same (K := K) kA9 _ _ sR
    replace gR := GQs.same gR kA9
    replace gS := GQ.same gS kA9
    replace kk := kk.trans (Ch.of_same kA9)
    replace f1 := Fd.same f1 kA9
    replace gA1 := GQ.same gA1 kA9
    replace gA2 := GQ.same gA2 kA9
    replace gA3 := GQ.same gA3 kA9
    replace gA4 := GQ.same gA4 kA9
    replace gA5 := GQ.same gA5 kA9
    replace gA6 := GQ.same gA6 kA9
    replace gA7 := GQ.same gA7 kA9
    replace gA8 := GQ.same gA8 kA9
    clear kA9 nA9
    have gA9 : GQ K X9 a b 4 (.ref A9) := (GQs.lst (n := 3) eA9 dA9 bA9 (.cons (gq_str (by decide +kernel) (by decide +kernel)).mono .nil))
    clear eA9 dA9 bA9
    repeat' (walk_at "jv")
    intro AA nAA
    have dAA := f1.ne nAA
    have kAA := Same.upd_new (o := .tup ([.ref A9])) nAA
    have eAA : SqT K (upd X9 AA (.tup ([.ref A9]))) AA ([.ref A9]) := sq_tup upd_same
    generalize upd X9 AA (.tup ([.ref A9])) = X10 at *
    replace eB := kAA _ _ eB
    replace hw := WF.same hw kAA
    replace sT := TK.same (K := K) kAA _ _ sT
    replace dR := Dp.same kAA _ _ dR
    replace sS := TK.same (K := K) kAA _ _ sS
    replace w1 := TK.same (K := K) kAA _ _ w1
    replace sP := TK.same (K := K) kAA _ _ sP
    replace sR := TK.same (K := K) kAA _ _ sR
    replace gR := GQs.same gR kAA
    replace gS := GQ.same gS kAA
    replace kk := kk.trans (Ch.of_same kAA)
    replace f1 := Fd.same f1 kAA
    replace gA1 := GQ.same gA1 kAA
    replace gA2 := GQ.same gA2 kAA
    replace gA3 := GQ.same gA3 kAA
    replace gA4 := GQ.same gA4 kAA
    replace gA5 := GQ.same gA5 kAA
    replace gA6 := GQ.same gA6 kAA
    replace gA7 := GQ.same gA7 kAA
    replace gA8 := GQ.same gA8 kAA
    replace gA9 := GQ.same gA9 kAA
    clear kAA nAA
    have gAA : GQ K X10 a b 5 (.ref AA) := (GQs.tup (n := 4) eAA (.cons gA9 .nil))
    clear eAA dAA
    repeat' (walk_at "jv")
    intro LA nLA
    have dLA := f1.ne nLA
    have bLA := Ne.symm (ne_of_none eB nLA)
    have kLA := Same.upd_new (o := .lst ([.ref A1, .ref A2, .ref A3, .ref A4, .ref A5, .ref A6, .ref A7, .non, .str "keep", .ref A8, .ref AA])) nLA
    have eLA : (upd X10 LA (.lst ([.ref A1, .ref A2, .ref A3, .ref A4, .ref A5, .ref A6, .ref A7, .non, .str "keep", .ref A8, .ref AA]))) LA = some (.lst ([.ref A1, .ref A2, .ref A3, .ref A4, .ref A5, .ref A6, .ref A7, .non, .str "keep", .ref A8, .ref AA])) := upd_same
    generalize upd X10 LA (.lst ([.ref A1, .ref A2, .ref A3, .ref A4, .ref A5, .ref A6, .ref A7, .non, .str "keep", .ref A8, .ref AA])) = X11 at *
    replace eB := kLA _ _ eB
    replace hw := WF.same hw kLA
    replace sT := TK.same (K := K) kLA _ _ sT
    replace dR := Dp.same kLA _ _ dR
    replace sS := TK.same (K := K) kLA _ _ sS
    replace w1 := TK.same (K := K) kLA _ _ w1
    replace sP := TK.same (K := K) kLA _ _ sP
    replace sR := TK.same (K := K) kLA _ _ sR
    replace gR := GQs.same gR kLA
    replace gS := GQ.same gS kLA
    replace kk := kk.trans (Ch.of_same kLA)
    replace f1 := Fd.same f1 kLA
    replace gA1 := GQ.same gA1 kLA
    replace gA2 := GQ.same gA2 kLA
    replace gA3 := GQ.same gA3 kLA
    replace gA4 := GQ.same gA4 kLA
    replace gA5 := GQ.same gA5 kLA
    replace gA6 := GQ.same gA6 kLA
    replace gA7 := GQ.same gA7 kLA
    replace gA8 := GQ.same gA8 kLA
    replace gA9 := GQ.same gA9 kLA
    replace gAA := GQ.same gAA kLA
    clear kLA nLA
    repeat' (walk_at "jv")
    have hxLA : ∀ x ∈ ([.ref A1, .ref A2, .ref A3, .ref A4, .ref A5, .ref A6, .ref A7, .non, .str "keep", .ref A8, .ref AA] : List V), GQ K X11 a b 6 x := by
      refine fa_consQ (gA1.mono) ?_
      refine fa_consQ (gA2.mono) ?_
      refine fa_consQ (gA3.mono) ?_
      refine fa_consQ (gA4.mono) ?_
      refine fa_consQ (gA5.mono) ?_
      refine fa_consQ (gA6.mono) ?_
      refine fa_consQ (gA7.mono) ?_
      refine fa_consQ (gq_none.mono) ?_
      refine fa_consQ ((gq_str (by decide +kernel) (by decide +kernel)).mono) ?_
      refine fa_consQ (gA8.mono) ?_
      refine fa_consQ (gAA.mono) ?_
      exact fa_nilQ
    refine ⟨a, LA, c + 1, [.ref A1, .ref A2, .ref A3, .ref A4, .ref A5, .ref A6, .ref A7, .non, .str "keep", .ref A8, .ref AA], rfl, f1, SqA.l (sq_lst eLA), dLA, by show 0 < 11; decide, by show 11 < 1000000; decide, by omega, fun rv Y2 hy f2 k2 => ?_⟩
    have grv := hxLA rv hy
    clear hy hxLA eLA dLA bLA
    replace eB := k2 _ _ dB eB
    replace hw := WF.ch hw k2 f1
    replace sT := TK.ch (K := K) k2 f1 _ _ sT
    replace dR := Dp.tk (TK.ch k2 f1) _ _ (show tupOnly (.tuple es) = true from g1) dR
    replace sS := TK.ch (K := K) k2 f1 _ _ sS
    replace w1 := TK.ch (K := K) k2 f1 _ _ w1
    replace sP := TK.ch (K := K) k2 f1 _ _ sP
    replace sR := TK.ch (K := K) k2 f1 _ _ sR
    replace gR := GQs.ch gR k2 f1
    replace gS := GQ.ch gS k2 f1
    replace kk := Ch.trans kk k2
    replace gA1 := GQ.ch gA1 k2 f1
    replace gA2 := GQ.ch gA2 k2 f1
    replace gA3 := GQ.ch gA3 k2 f1
    replace gA4 := GQ.ch gA4 k2 f1
    replace gA5 := GQ.ch gA5 k2 f1
    replace gA6 := GQ.ch gA6 k2 f1
    replace gA7 := GQ.ch gA7 k2 f1
    replace gA8 := GQ.ch gA8 k2 f1
    replace gA9 := GQ.ch gA9 k2 f1
    replace gAA := GQ.ch gAA k2 f1
    replace grv := GQ.ch grv k2 f1
    clear f1 k2
    have f1 := f2
    clear f2
    clear gA1 gA2 gA3 gA4 gA5 gA6 gA7 gA8 gA9 gAA
    repeat' (walk_at "jv")
    intro B1 nB1
    have dB1 := f1.ne nB1
    have kB1 := Same.upd_new (o := .tup ([.int 0])) nB1
    have eB1 : SqT K (upd Y2 B1 (.tup ([.int 0]))) B1 ([.int 0]) := sq_tup upd_same
    generalize upd Y2 B1 (.tup ([.int 0])) = X12 at *
    replace eB := kB1 _ _ eB
    replace hw := WF.same hw kB1
    replace sT := TK.same (K := K) kB1 _ _ sT
    replace dR := Dp.same kB1 _ _ dR
    replace sS := TK.same (K := K) kB1 _ _ sS
    replace w1 := TK.same (K := K) kB1 _ _ w1
    replace sP := TK.same (K := K) kB1 _ _ sP
    replace sR := TK.same (K := K) kB1 _ _ sR
    replace gR := GQs.same gR kB1
    replace gS := GQ.same gS kB1
    replace kk := kk.trans (Ch.of_same kB1)
    replace f1 := Fd.same f1 kB1
    replace grv := GQ.same grv kB1
    clear kB1 nB1
    have gB1 : GQ K X12 a b 4 (.ref B1) := (GQs.tup (n := 3) eB1 (.cons (gq_int _).mono .nil))
    clear eB1 dB1
    repeat' (walk_at "jv")
    intro B2 nB2
    have dB2 := f1.ne nB2
    have bB2 := Ne.symm (ne_of_none eB nB2)
    have kB2 := Same.upd_new (o := .lst ([.int 1])) nB2
    have eB2 : (upd X12 B2 (.lst ([.int 1]))) B2 = some (.lst ([.int 1])) := upd_same
    generalize upd X12 B2 (.lst ([.int 1])) = X13 at *
    replace eB := kB2 _ _ eB
    replace hw := WF.same hw kB2
    replace sT := TK.same (K := K) kB2 _ _ sT
    replace dR := Dp.same kB2 _ _ dR
    replace sS := TK.same (K := K) kB2 _ _ sS
    replace w1 := TK.same (K := K) kB2 _ _ w1
    replace sP := TK.same (K := K) kB2 _ _ sP
    replace sR := TK.same (K := K) kB2 _ _ sR
    replace gR := GQs.same gR kB2
    replace gS := GQ.same gS kB2
    replace kk := kk.trans (Ch.of_same kB2)
    replace f1 := Fd.same f1 kB2
    replace grv := GQ.same grv kB2
    replace gB1 := GQ.same gB1 kB2
    clear kB2 nB2
    have gB2 : GQ K X13 a b 4 (.ref B2) := (GQs.lst (n := 3) eB2 dB2 bB2 (.cons (gq_int _).mono .nil))
    clear eB2 dB2 bB2
    repeat' (walk_at "jv")
    intro LB nLB
    have dLB := f1.ne nLB
    have bLB := Ne.symm (ne_of_none eB nLB)
    have kLB := Same.upd_new (o := .lst ([.int 2, .int (-1), .bl true, .non, .str "0", .ref B1, .ref B2])) nLB
    have eLB : (upd X13 LB (.lst ([.int 2, .int (-1), .bl true, .non, .str "0", .ref B1, .ref B2]))) LB = some (.lst ([.int 2, .int (-1), .bl true, .non, .str "0", .ref B1, .ref B2])) := upd_same
    generalize upd X13 LB (.lst ([.int 2, .int (-1), .bl true, .non, .str "0", .ref B1, .ref B2])) = X14 at *
    replace eB := kLB _ _ eB
    replace hw := WF.same hw kLB
    replace sT := TK.same (K := K) kLB _ _ sT
    replace dR := Dp.same kLB _ _ dR
    replace sS := TK.same (K := K) kLB _ _ sS
    replace w1 := TK.same (K := K) kLB _ _ w1
    replace sP := TK.same (K := K) kLB _ _ sP
    replace sR := TK.same (K := K) kLB _ _ sR
    replace gR := GQs.same gR kLB
    replace gS := GQ.same gS kLB
    replace kk := kk.trans (Ch.of_same kLB)
    replace f1 := Fd.same f1 kLB
    replace grv := GQ.same grv kLB
    replace gB1 := GQ.same gB1 kLB
    replace gB2 := GQ.same gB2 kLB
    clear kLB nLB
    repeat' (walk_at "jv")
    have hxLB : ∀ x ∈ ([.int 2, .int (-1), .bl true, .non, .str "0", .ref B1, .ref B2] : List V), GQ K X14 a b 6 x := by
      refine fa_consQ ((gq_int _).mono) ?_
      refine fa_consQ ((gq_int _).mono) ?_
      refine fa_consQ ((gq_bool _).mono) ?_
      refine fa_consQ (gq_none.mono) ?_
      refine fa_consQ ((gq_str (by decide +kernel) (by decide +kernel)).mono) ?_
      refine fa_consQ (gB1.mono) ?_
      refine fa_consQ (gB2.mono) ?_
      exact fa_nilQ
    refine ⟨a, LB, c + 1 + 1, [.int 2, .int (-1), .bl true, .non, .str "0", .ref B1, .ref B2], rfl, f1, SqA.l (sq_lst eLB), dLB, by show 0 < 7; decide, by show 7 < 1000000; decide, by omega, fun ov Y3 hy f2 k2 => ?_⟩
    have gov := hxLB ov hy
    clear hy hxLB eLB dLB bLB
    replace eB := k2 _ _ dB eB
    replace hw := WF.ch hw k2 f1
    replace sT := TK.ch (K := K) k2 f1 _ _ sT
    replace dR := Dp.tk (TK.ch k2 f1) _ _ (show tupOnly (.tuple es) = true from g1) dR
    replace sS := TK.ch (K := K) k2 f1 _ _ sS
    replace w1 := TK.ch (K := K) k2 f1 _ _ w1
    replace sP := TK.ch (K := K) k2 f1 _ _ sP
    replace sR := TK.ch (K := K) k2 f1 _ _ sR
    replace gR := GQs.ch gR k2 f1
    replace gS := GQ.ch gS k2 f1
    replace kk := Ch.trans kk k2
    replace grv := GQ.ch grv k2 f1
    replace gB1 := GQ.ch gB1 k2 f1
    replace gB2 := GQ.ch gB2 k2 f1
    replace gov := GQ.ch gov k2 f1
    clear f1 k2
    have f1 := f2
    clear f2
    clear gB1 gB2
    have gRr : GQ K Y3 a b 6 (.ref R) := (GQs.tup sR gR).mono
    have gRx : GQ K Y3 a b 6 (.ref S) := gS.mono
    have gX : GQs K Y3 a b 6 xs := gR.mono
    have gN : GQs K Y3 a b 6 (natsV t) := (gq_nats t).mono
    have hx8 : xs.length ≤ 8 := by omega
    have hn8 : (natsV t).length ≤ 8 := by omega
    clear gR gS
    repeat' (walk_at "jv")
    refine i_slG sR fun C1 X15 kC1 sC1 => ?_
    rw [cut_take] at sC1
    replace eB := kC1 _ _ eB
    replace hw := WF.same hw kC1
    replace sT := TK.same (K := K) kC1 _ _ sT
    replace dR := Dp.same kC1 _ _ dR
    replace sS := TK.same (K := K) kC1 _ _ sS
    replace w1 := TK.same (K := K) kC1 _ _ w1
    replace sP := TK.same (K := K) kC1 _ _ sP
    replace sR := TK.same (K := K) kC1 _ _ sR
    replace kk := kk.trans (Ch.of_same kC1)
    replace f1 := Fd.same f1 kC1
    replace grv := GQ.same grv kC1
    replace gov := GQ.same gov kC1
    replace gRr := GQ.same gRr kC1
    replace gRx := GQ.same gRx kC1
    replace gX := GQs.same gX kC1
    replace gN := GQs.same gN kC1
    clear kC1
    repeat' (walk_at "jv")
    intro C2 nC2
    have dC2 := f1.ne nC2
    have kC2 := Same.upd_new (o := .tup ([rv])) nC2
    have eC2 : SqT K (upd X15 C2 (.tup ([rv]))) C2 ([rv]) := sq_tup upd_same
    generalize upd X15 C2 (.tup ([rv])) = X16 at *
    replace eB := kC2 _ _ eB
    replace hw := WF.same hw kC2
    replace sT := TK.same (K := K) kC2 _ _ sT
    replace dR := Dp.same kC2 _ _ dR
    replace sS := TK.same (K := K) kC2 _ _ sS
    replace w1 := TK.same (K := K) kC2 _ _ w1
    replace sP := TK.same (K := K) kC2 _ _ sP
    replace sR := TK.same (K := K) kC2 _ _ sR
    replace kk := kk.trans (Ch.of_same kC2)
    replace f1 := Fd.same f1 kC2
    replace grv := GQ.same grv kC2
    replace gov := GQ.same gov kC2
    replace gRr := GQ.same gRr kC2
    replace gRx := GQ.same gRx kC2
    replace gX := GQs.same gX kC2
    replace gN := GQs.same gN kC2
    replace sC1 := TK.same (K := K) kC2 _ _ sC1
    clear kC2 nC2
    repeat' (walk_at "jv")
    refine i_catG sC1 eC2 (by rw [List.length_take, sizeLine_eq]; show _ + 1 ≤ _; omega) fun C3 X17 kC3 sC3 => ?_
    replace eB := kC3 _ _ eB
    replace hw := WF.same hw kC3
    replace sT := TK.same (K := K) kC3 _ _ sT
    replace dR := Dp.same kC3 _ _ dR
    replace sS := TK.same (K := K) kC3 _ _ sS
    replace w1 := TK.same (K := K) kC3 _ _ w1
    replace sP := TK.same (K := K) kC3 _ _ sP
    replace sR := TK.same (K := K) kC3 _ _ sR
    replace kk := kk.trans (Ch.of_same kC3)
    replace f1 := Fd.same f1 kC3
    replace grv := GQ.same grv kC3
    replace gov := GQ.same gov kC3
    replace gRr := GQ.same gRr kC3
    replace gRx := GQ.same gRx kC3
    replace gX := GQs.same gX kC3
    replace gN := GQs.same gN kC3
    replace sC1 := TK.same (K := K) kC3 _ _ sC1
    replace eC2 := TK.same (K := K) kC3 _ _ eC2
    clear kC3
    clear sC1 eC2
    repeat' (walk_at "jv")
    refine i_slG sR fun C4 X18 kC4 sC4 => ?_
    rw [show ((av : Nat) : Int) + 1 = ((av + 1 : Nat) : Int) from rfl, cut_from] at sC4
    replace eB := kC4 _ _ eB
    replace hw := WF.same hw kC4
    replace sT := TK.same (K := K) kC4 _ _ sT
    replace dR := Dp.same kC4 _ _ dR
    replace sS := TK.same (K := K) kC4 _ _ sS
    replace w1 := TK.same (K := K) kC4 _ _ w1
    replace sP := TK.same (K := K) kC4 _ _ sP
    replace sR := TK.same (K := K) kC4 _ _ sR
    replace kk := kk.trans (Ch.of_same kC4)
    replace f1 := Fd.same f1 kC4
    replace grv := GQ.same grv kC4
    replace gov := GQ.same gov kC4
    replace gRr := GQ.same gRr kC4
    replace gRx := GQ.same gRx kC4
    replace gX := GQs.same gX kC4
    replace gN := GQs.same gN kC4
    replace sC3 := TK.same (K := K) kC4 _ _ sC3
    clear kC4
    repeat' (walk_at "jv")
    refine i_catG sC3 sC4 (by rw [List.length_append, List.length_take, List.length_drop, sizeLine_eq]; show _ + 1 + _ ≤ _; omega) fun C5 X19 kC5 sC5 => ?_
    replace eB := kC5 _ _ eB
    replace hw := WF.same hw kC5
    replace sT := TK.same (K := K) kC5 _ _ sT
    replace dR := Dp.same kC5 _ _ dR
    replace sS := TK.same (K := K) kC5 _ _ sS
    replace w1 := TK.same (K := K) kC5 _ _ w1
    replace sP := TK.same (K := K) kC5 _ _ sP
    replace sR := TK.same (K := K) kC5 _ _ sR
    replace kk := kk.trans (Ch.of_same kC5)
    replace f1 := Fd.same f1 kC5
    replace grv := GQ.same grv kC5
    replace gov := GQ.same gov kC5
    replace gRr := GQ.same gRr kC5
    replace gRx := GQ.same gRx kC5
    replace gX := GQs.same gX kC5
    replace gN := GQs.same gN kC5
    replace sC3 := TK.same (K := K) kC5 _ _ sC3
    replace sC4 := TK.same (K := K) kC5 _ _ sC4
    clear kC5
    clear sC3 sC4
    have gC5 : GQ K X19 a b 7 (.ref C5) := GQs.tup sC5 (((gX.take av).app (.cons grv .nil)).app (gX.drop (av + 1)))
    clear sC5
    clear grv
    repeat' (walk_at "jv")
    intro D1 nD1
    have dD1 := f1.ne nD1
    have kD1 := Same.upd_new (o := .tup ([.ref C5, .ref S])) nD1
    have eD1 : SqT K (upd X19 D1 (.tup ([.ref C5, .ref S]))) D1 ([.ref C5, .ref S]) := sq_tup upd_same
    generalize upd X19 D1 (.tup ([.ref C5, .ref S])) = X20 at *
    replace eB := kD1 _ _ eB
    replace hw := WF.same hw kD1
    replace sT := TK.same (K := K) kD1 _ _ sT
    replace dR := Dp.same kD1 _ _ dR
    replace sS := TK.same (K := K) kD1 _ _ sS
    replace w1 := TK.same (K := K) kD1 _ _ w1
    replace sP := TK.same (K := K) kD1 _ _ sP
    replace sR := TK.same (K := K) kD1 _ _ sR
    replace kk := kk.trans (Ch.of_same kD1)
    replace f1 := Fd.same f1 kD1
    replace gov := GQ.same gov kD1
    replace gRr := GQ.same gRr kD1
    replace gRx := GQ.same gRx kD1
    replace gX := GQs.same gX kD1
    replace gN := GQs.same gN kD1
    replace gC5 := GQ.same gC5 kD1
    clear kD1 nD1
    have gD1 : GQ K X20 a b 8 (.ref D1) := (GQs.tup (n := 7) eD1 (.cons gC5 (.cons gRx.mono .nil)))
    clear eD1 dD1
    clear gC5
    repeat' (walk_at "jv")
    refine i_slG sS fun E1 X21 kE1 sE1 => ?_
    rw [cut_take] at sE1
    replace eB := kE1 _ _ eB
    replace hw := WF.same hw kE1
    replace sT := TK.same (K := K) kE1 _ _ sT
    replace dR := Dp.same kE1 _ _ dR
    replace sS := TK.same (K := K) kE1 _ _ sS
    replace w1 := TK.same (K := K) kE1 _ _ w1
    replace sP := TK.same (K := K) kE1 _ _ sP
    replace sR := TK.same (K := K) kE1 _ _ sR
    replace kk := kk.trans (Ch.of_same kE1)
    replace f1 := Fd.same f1 kE1
    replace gov := GQ.same gov kE1
    replace gRr := GQ.same gRr kE1
    replace gRx := GQ.same gRx kE1
    replace gX := GQs.same gX kE1
    replace gN := GQs.same gN kE1
    replace gD1 := GQ.same gD1 kE1
    clear kE1
    repeat' (walk_at "jv")
    intro E2 nE2
    have dE2 := f1.ne nE2
    have kE2 := Same.upd_new (o := .tup ([ov])) nE2
    have eE2 : SqT K (upd X21 E2 (.tup ([ov]))) E2 ([ov]) := sq_tup upd_same
    generalize upd X21 E2 (.tup ([ov])) = X22 at *
    replace eB := kE2 _ _ eB
    replace hw := WF.same hw kE2
    replace sT := TK.same (K := K) kE2 _ _ sT
    replace dR := Dp.same kE2 _ _ dR
    replace sS := TK.same (K := K) kE2 _ _ sS
    replace w1 := TK.same (K := K) kE2 _ _ w1
    replace sP := TK.same (K := K) kE2 _ _ sP
    replace sR := TK.same (K := K) kE2 _ _ sR
    replace kk := kk.trans (Ch.of_same kE2)
    replace f1 := Fd.same f1 kE2
    replace gov := GQ.same gov kE2
    replace gRr := GQ.same gRr kE2
    replace gRx := GQ.same gRx kE2
    replace gX := GQs.same gX kE2
    replace gN := GQs.same gN kE2
    replace gD1 := GQ.same gD1 kE2
    replace sE1 := TK.same (K := K) kE2 _ _ sE1
    clear kE2 nE2
    repeat' (walk_at "jv")
    refine i_catG sE1 eE2 (by rw [List.length_take, sizeLine_eq]; show _ + 1 ≤ _; omega) fun E3 X23 kE3 sE3 => ?_
    replace eB := kE3 _ _ eB
    replace hw := WF.same hw kE3
    replace sT := TK.same (K := K) kE3 _ _ sT
    replace dR := Dp.same kE3 _ _ dR
    replace sS := TK.same (K := K) kE3 _ _ sS
    replace w1 := TK.same (K := K) kE3 _ _ w1
    replace sP := TK.same (K := K) kE3 _ _ sP
    replace sR := TK.same (K := K) kE3 _ _ sR
    replace kk := kk.trans (Ch.of_same kE3)
    replace f1 := Fd.same f1 kE3
    replace gov := GQ.same gov kE3
    replace gRr := GQ.same gRr kE3
    replace gRx := GQ.same gRx kE3
    replace gX := GQs.same gX kE3
    replace gN := GQs.same gN kE3
    replace gD1 := GQ.same gD1 kE3
    replace sE1 := TK.same (K := K) kE3 _ _ sE1
    replace eE2 := TK.same (K := K) kE3 _ _ eE2
    clear kE3
    clear sE1 eE2
    repeat' (walk_at "jv")
    refine i_slG sS fun E4 X24 kE4 sE4 => ?_
    rw [show ((av : Nat) : Int) + 1 = ((av + 1 : Nat) : Int) from rfl, cut_from] at sE4
    replace eB := kE4 _ _ eB
    replace hw := WF.same hw kE4
    replace sT := TK.same (K := K) kE4 _ _ sT
    replace dR := Dp.same kE4 _ _ dR
    replace sS := TK.same (K := K) kE4 _ _ sS
    replace w1 := TK.same (K := K) kE4 _ _ w1
    replace sP := TK.same (K := K) kE4 _ _ sP
    replace sR := TK.same (K := K) kE4 _ _ sR
    replace kk := kk.trans (Ch.of_same kE4)
    replace f1 := Fd.same f1 kE4
    replace gov := GQ.same gov kE4
    replace gRr := GQ.same gRr kE4
    replace gRx := GQ.same gRx kE4
    replace gX := GQs.same gX kE4
    replace gN := GQs.same gN kE4
    replace gD1 := GQ.same gD1 kE4
    replace sE3 := TK.same (K := K) kE4 _ _ sE3
    clear kE4
    repeat' (walk_at "jv")
    refine i_catG sE3 sE4 (by rw [List.length_append, List.length_take, List.length_drop, sizeLine_eq]; show _ + 1 + _ ≤ _; omega) fun E5 X25 kE5 sE5 => ?_
    replace eB := kE5 _ _ eB
    replace hw := WF.same hw kE5
    replace sT := TK.same (K := K) kE5 _ _ sT
    replace dR := Dp.same kE5 _ _ dR
    replace sS := TK.same (K := K) kE5 _ _ sS
    replace w1 := TK.same (K := K) kE5 _ _ w1
    replace sP := TK.same (K := K) kE5 _ _ sP
    replace sR := TK.same (K := K) kE5 _ _ sR
    replace kk := kk.trans (Ch.of_same kE5)
    replace f1 := Fd.same f1 kE5
    replace gov := GQ.same gov kE5
    replace gRr := GQ.same gRr kE5
    replace gRx := GQ.same gRx kE5
    replace gX := GQs.same gX kE5
    replace gN := GQs.same gN kE5
    replace gD1 := GQ.same gD1 kE5
    replace sE3 := TK.same (K := K) kE5 _ _ sE3
    replace sE4 := TK.same (K := K) kE5 _ _ sE4
    clear kE5
    clear sE3 sE4
    have gE5 : GQ K X25 a b 7 (.ref E5) := GQs.tup sE5 (((gN.take av).app (.cons gov .nil)).app (gN.drop (av + 1)))
    clear sE5
    clear gov
    repeat' (walk_at "jv")
    intro D2 nD2
    have dD2 := f1.ne nD2
    have kD2 := Same.upd_new (o := .tup ([.ref R, .ref E5])) nD2
    have eD2 : SqT K (upd X25 D2 (.tup ([.ref R, .ref E5]))) D2 ([.ref R, .ref E5]) := sq_tup upd_same
    generalize upd X25 D2 (.tup ([.ref R, .ref E5])) = X26 at *
    replace eB := kD2 _ _ eB
    replace hw := WF.same hw kD2
    replace sT := TK.same (K := K) kD2 _ _ sT
    replace dR := Dp.same kD2 _ _ dR
    replace sS := TK.same (K := K) kD2 _ _ sS
    replace w1 := TK.same (K := K) kD2 _ _ w1
    replace sP := TK.same (K := K) kD2 _ _ sP
    replace sR := TK.same (K := K) kD2 _ _ sR
    replace kk := kk.trans (Ch.of_same kD2)
    replace f1 := Fd.same f1 kD2
    replace gRr := GQ.same gRr kD2
    replace gRx := GQ.same gRx kD2
    replace gX := GQs.same gX kD2
    replace gN := GQs.same gN kD2
    replace gD1 := GQ.same gD1 kD2
    replace gE5 := GQ.same gE5 kD2
    clear kD2 nD2
    have gD2 : GQ K X26 a b 8 (.ref D2) := (GQs.tup (n := 7) eD2 (.cons gRr.mono (.cons gE5 .nil)))
    clear eD2 dD2
    clear gE5
    repeat' (walk_at "jv")
    refine i_slG sR fun F1 X27 kF1 sF1 => ?_
    rw [show (1 : Int) = ((1 : Nat) : Int) from rfl, cut_from] at sF1
    replace eB := kF1 _ _ eB
    replace hw := WF.same hw kF1
    replace sT := TK.same (K := K) kF1 _ _ sT
    replace dR := Dp.same kF1 _ _ dR
    replace sS := TK.same (K := K) kF1 _ _ sS
    replace w1 := TK.same (K := K) kF1 _ _ w1
    replace sP := TK.same (K := K) kF1 _ _ sP
    replace sR := TK.same (K := K) kF1 _ _ sR
    replace kk := kk.trans (Ch.of_same kF1)
    replace f1 := Fd.same f1 kF1
    replace gRr := GQ.same gRr kF1
    replace gRx := GQ.same gRx kF1
    replace gX := GQs.same gX kF1
    replace gN := GQs.same gN kF1
    replace gD1 := GQ.same gD1 kF1
    replace gD2 := GQ.same gD2 kF1
    clear kF1
    have gF1 : GQ K X27 a b 7 (.ref F1) := GQs.tup sF1 (gX.drop 1)
    clear sF1
    repeat' (walk_at "jv")
    intro D3 nD3
    have dD3 := f1.ne nD3
    have kD3 := Same.upd_new (o := .tup ([.ref F1, .ref S])) nD3
    have eD3 : SqT K (upd X27 D3 (.tup ([.ref F1, .ref S]))) D3 ([.ref F1, .ref S]) := sq_tup upd_same
    generalize upd X27 D3 (.tup ([.ref F1, .ref S])) = X28 at *
    replace eB := kD3 _ _ eB
    replace hw := WF.same hw kD3
    replace sT := TK.same (K := K) kD3 _ _ sT
    replace dR := Dp.same kD3 _ _ dR
    replace sS := TK.same (K := K) kD3 _ _ sS
    replace w1 := TK.same (K := K) kD3 _ _ w1
    replace sP := TK.same (K := K) kD3 _ _ sP
    replace sR := TK.same (K := K) kD3 _ _ sR
    replace kk := kk.trans (Ch.of_same kD3)
    replace f1 := Fd.same f1 kD3
    replace gRr := GQ.same gRr kD3
    replace gRx := GQ.same gRx kD3
    replace gX := GQs.same gX kD3
    replace gN := GQs.same gN kD3
    replace gD1 := GQ.same gD1 kD3
    replace gD2 := GQ.same gD2 kD3
    replace gF1 := GQ.same gF1 kD3
    clear kD3 nD3
    have gD3 : GQ K X28 a b 8 (.ref D3) := (GQs.tup (n := 7) eD3 (.cons gF1 (.cons gRx.mono .nil)))
    clear eD3 dD3
    clear gF1
    repeat' (walk_at "jv")
    refine i_slG sS fun F2 X29 kF2 sF2 => ?_
    rw [show (1 : Int) = ((1 : Nat) : Int) from rfl, cut_from] at sF2
    replace eB := kF2 _ _ eB
    replace hw := WF.same hw kF2
    replace sT := TK.same (K := K) kF2 _ _ sT
    replace dR := Dp.same kF2 _ _ dR
    replace sS := TK.same (K := K) kF2 _ _ sS
    replace w1 := TK.same (K := K) kF2 _ _ w1
    replace sP := TK.same (K := K) kF2 _ _ sP
    replace sR := TK.same (K := K) kF2 _ _ sR
    replace kk := kk.trans (Ch.of_same kF2)
    replace f1 := Fd.same f1 kF2
    replace gRr := GQ.same gRr kF2
    replace gRx := GQ.same gRx kF2
    replace gX := GQs.same gX kF2
    replace gN := GQs.same gN kF2
    replace gD1 := GQ.same gD1 kF2
    replace gD2 := GQ.same gD2 kF2
    replace gD3 := GQ.same gD3 kF2
    clear kF2
    have gF2 : GQ K X29 a b 7 (.ref F2) := GQs.tup sF2 (gN.drop 1)
    clear sF2
    repeat' (walk_at "jv")
    intro D4 nD4
    have dD4 := f1.ne nD4
    have kD4 := Same.upd_new (o := .tup ([.ref R, .ref F2])) nD4
    have eD4 : SqT K (upd X29 D4 (.tup ([.ref R, .ref F2]))) D4 ([.ref R, .ref F2]) := sq_tup upd_same
    generalize upd X29 D4 (.tup ([.ref R, .ref F2])) = X30 at *
    replace eB := kD4 _ _ eB
    replace hw := WF.same hw kD4
    replace sT := TK.same (K := K) kD4 _ _ sT
    replace dR := Dp.same kD4 _ _ dR
    replace sS := TK.same (K := K) kD4 _ _ sS
    replace w1 := TK.same (K := K) kD4 _ _ w1
    replace sP := TK.same (K := K) kD4 _ _ sP
    replace sR := TK.same (K := K) kD4 _ _ sR
    replace kk := kk.trans (Ch.of_same kD4)
    replace f1 := Fd.same f1 kD4
    replace gRr := GQ.same gRr kD4
    replace gRx := GQ.same gRx kD4
    replace gX := GQs.same gX kD4
    replace gN := GQs.same gN kD4
    replace gD1 := GQ.same gD1 kD4
    replace gD2 := GQ.same gD2 kD4
    replace gD3 := GQ.same gD3 kD4
    replace gF2 := GQ.same gF2 kD4
    clear kD4 nD4
    have gD4 : GQ K X30 a b 8 (.ref D4) := (GQs.tup (n := 7) eD4 (.cons gRr.mono (.cons gF2 .nil)))
    clear eD4 dD4
    clear gF2
    repeat' (walk_at "jv")
    intro LS nLS
    have dLS := f1.ne nLS
    have bLS := Ne.symm (ne_of_none eB nLS)
    have kLS := Same.upd_new (o := .lst ([.ref D1, .ref D2, .ref D3, .ref D4])) nLS
    have eLS : (upd X30 LS (.lst ([.ref D1, .ref D2, .ref D3, .ref D4]))) LS = some (.lst ([.ref D1, .ref D2, .ref D3, .ref D4])) := upd_same
    generalize upd X30 LS (.lst ([.ref D1, .ref D2, .ref D3, .ref D4])) = X31 at *
    replace eB := kLS _ _ eB
    replace hw := WF.same hw kLS
    replace sT := TK.same (K := K) kLS _ _ sT
    replace dR := Dp.same kLS _ _ dR
    replace sS := TK.same (K := K) kLS _ _ sS
    replace w1 := TK.same (K := K) kLS _ _ w1
    replace sP := TK.same (K := K) kLS _ _ sP
    replace sR := TK.same (K := K) kLS _ _ sR
    replace kk := kk.trans (Ch.of_same kLS)
    replace f1 := Fd.same f1 kLS
    replace gRr := GQ.same gRr kLS
    replace gRx := GQ.same gRx kLS
    replace gX := GQs.same gX kLS
    replace gN := GQs.same gN kLS
    replace gD1 := GQ.same gD1 kLS
    replace gD2 := GQ.same gD2 kLS
    replace gD3 := GQ.same gD3 kLS
    replace gD4 := GQ.same gD4 kLS
    clear kLS nLS
    repeat' (walk_at "jv")
    intro G1 nG1
    have dG1 := f1.ne nG1
    have kG1 := Same.upd_new (o := .tup ([.int 0])) nG1
    have eG1 : SqT K (upd X31 G1 (.tup ([.int 0]))) G1 ([.int 0]) := sq_tup upd_same
    generalize upd X31 G1 (.tup ([.int 0])) = X32 at *
    replace eB := kG1 _ _ eB
    replace hw := WF.same hw kG1
    replace sT := TK.same (K := K) kG1 _ _ sT
    replace dR := Dp.same kG1 _ _ dR
    replace sS := TK.same (K := K) kG1 _ _ sS
    replace w1 := TK.same (K := K) kG1 _ _ w1
    replace sP := TK.same (K := K) kG1 _ _ sP
    replace sR := TK.same (K := K) kG1 _ _ sR
    replace kk := kk.trans (Ch.of_same kG1)
    replace f1 := Fd.same f1 kG1
    replace gRr := GQ.same gRr kG1
    replace gRx := GQ.same gRx kG1
    replace gX := GQs.same gX kG1
    replace gN := GQs.same gN kG1
    replace gD1 := GQ.same gD1 kG1
    replace gD2 := GQ.same gD2 kG1
    replace gD3 := GQ.same gD3 kG1
    replace gD4 := GQ.same gD4 kG1
    replace eLS := kG1 _ _ eLS
    clear kG1 nG1
    repeat' (walk_at "jv")
    refine i_catG sS eG1 (by rw [sizeLine_eq]; show _ + 1 ≤ _; omega) fun G2 X33 kG2 sG2 => ?_
    replace eB := kG2 _ _ eB
    replace hw := WF.same hw kG2
    replace sT := TK.same (K := K) kG2 _ _ sT
    replace dR := Dp.same kG2 _ _ dR
    replace sS := TK.same (K := K) kG2 _ _ sS
    replace w1 := TK.same (K := K) kG2 _ _ w1
    replace sP := TK.same (K := K) kG2 _ _ sP
    replace sR := TK.same (K := K) kG2 _ _ sR
    replace kk := kk.trans (Ch.of_same kG2)
    replace f1 := Fd.same f1 kG2
    replace gRr := GQ.same gRr kG2
    replace gRx := GQ.same gRx kG2
    replace gX := GQs.same gX kG2
    replace gN := GQs.same gN kG2
    replace gD1 := GQ.same gD1 kG2
    replace gD2 := GQ.same gD2 kG2
    replace gD3 := GQ.same gD3 kG2
    replace gD4 := GQ.same gD4 kG2
    replace eLS := kG2 _ _ eLS
    replace eG1 := TK.same (K := K) kG2 _ _ eG1
    clear kG2
    clear eG1
    have gG2 : GQ K X33 a b 7 (.ref G2) := GQs.tup sG2 (gN.app (.cons (gq_int _).mono .nil))
    clear sG2
    repeat' (walk_at "jv")
    intro D5 nD5
    have dD5 := f1.ne nD5
    have kD5 := Same.upd_new (o := .tup ([.ref R, .ref G2])) nD5
    have eD5 : SqT K (upd X33 D5 (.tup ([.ref R, .ref G2]))) D5 ([.ref R, .ref G2]) := sq_tup upd_same
    generalize upd X33 D5 (.tup ([.ref R, .ref G2])) = X34 at *
    replace eB := kD5 _ _ eB
    replace hw := WF.same hw kD5
    replace sT := TK.same (K := K) kD5 _ _ sT
    replace dR := Dp.same kD5 _ _ dR
    replace sS := TK.same (K := K) kD5 _ _ sS
    replace w1 := TK.same (K := K) kD5 _ _ w1
    replace sP := TK.same (K := K) kD5 _ _ sP
    replace sR := TK.same (K := K) kD5 _ _ sR
    replace kk := kk.trans (Ch.of_same kD5)
    replace f1 := Fd.same f1 kD5
    replace gRr := GQ.same gRr kD5
    replace gRx := GQ.same gRx kD5
    replace gX := GQs.same gX kD5
    replace gN := GQs.same gN kD5
    replace gD1 := GQ.same gD1 kD5
    replace gD2 := GQ.same gD2 kD5
    replace gD3 := GQ.same gD3 kD5
    replace gD4 := GQ.same gD4 kD5
    replace eLS := kD5 _ _ eLS
    replace gG2 := GQ.same gG2 kD5
    clear kD5 nD5
    have gD5 : GQ K X34 a b 8 (.ref D5) := (GQs.tup (n := 7) eD5 (.cons gRr.mono (.cons gG2 .nil)))
    clear eD5 dD5
    clear gG2
    repeat' (walk_at "jv")
    intro G3 nG3
    have dG3 := f1.ne nG3
    have kG3 := Same.upd_new (o := .tup ([.str "keep"])) nG3
    have eG3 : SqT K (upd X34 G3 (.tup ([.str "keep"]))) G3 ([.str "keep"]) := sq_tup upd_same
    generalize upd X34 G3 (.tup ([.str "keep"])) = X35 at *
    replace eB := kG3 _ _ eB
    replace hw := WF.same hw kG3
    replace sT := TK.same (K := K) kG3 _ _ sT
    replace dR := Dp.same kG3 _ _ dR
    replace sS := TK.same (K := K) kG3 _ _ sS
    replace w1 := TK.same (K := K) kG3 _ _ w1
    replace sP := TK.same (K := K) kG3 _ _ sP
    replace sR := TK.same (K := K) kG3 _ _ sR
    replace kk := kk.trans (Ch.of_same kG3)
    replace f1 := Fd.same f1 kG3
    replace gRr := GQ.same gRr kG3
    replace gRx := GQ.same gRx kG3
    replace gX := GQs.same gX kG3
    replace gN := GQs.same gN kG3
    replace gD1 := GQ.same gD1 kG3
    replace gD2 := GQ.same gD2 kG3
    replace gD3 := GQ.same gD3 kG3
    replace gD4 := GQ.same gD4 kG3
    replace eLS := kG3 _ _ eLS
    replace gD5 := GQ.same gD5 kG3
    clear kG3 nG3
    have gG3 : GQ K X35 a b 5 (.ref G3) := (GQs.tup (n := 4) eG3 (.cons (gq_str (by decide +kernel) (by decide +kernel)).mono .nil))
    clear eG3 dG3
    repeat' (walk_at "jv")
    intro G4 nG4
    have dG4 := f1.ne nG4
    have kG4 := Same.upd_new (o := .tup ([.ref G3])) nG4
    have eG4 : SqT K (upd X35 G4 (.tup ([.ref G3]))) G4 ([.ref G3]) := sq_tup upd_same
    generalize upd X35 G4 (.tup ([.ref G3])) = X36 at *
    replace eB := kG4 _ _ eB
    replace hw := WF.same hw kG4
    replace sT := TK.same (K := K) kG4 _ _ sT
    replace dR := Dp.same kG4 _ _ dR
    replace sS := TK.same (K := K) kG4 _ _ sS
    replace w1 := TK.same (K := K) kG4 _ _ w1
    replace sP := TK.same (K := K) kG4 _ _ sP
    replace sR := TK.same (K := K) kG4 _ _ sR
    replace kk := kk.trans (Ch.of_same kG4)
    replace f1 := Fd.same f1 kG4
    replace gRr := GQ.same gRr kG4
    replace gRx := GQ.same gRx kG4
    replace gX := GQs.same gX kG4
    replace gN := GQs.same gN kG4
    replace gD1 := GQ.same gD1 kG4
    replace gD2 := GQ.same gD2 kG4
    replace gD3 := GQ.same gD3 kG4
    replace gD4 := GQ.same gD4 kG4
    replace eLS := kG4 _ _ eLS
    replace gD5 := GQ.same gD5 kG4
    replace gG3 := GQ.same gG3 kG4
    clear kG4 nG4
    repeat' (walk_at "jv")
    refine i_catG sR eG4 (by rw [sizeLine_eq]; show _ + 1 ≤ _; omega) fun G5 X37 kG5 sG5 => ?_
    replace eB := kG5 _ _ eB
    replace hw := WF.same hw kG5
    replace sT := TK.same (K := K) kG5 _ _ sT
    replace dR := Dp.same kG5 _ _ dR
    replace sS := TK.same (K := K) kG5 _ _ sS
    replace w1 := TK.same (K := K) kG5 _ _ w1
    replace sP := TK.same (K := K) kG5 _ _ sP
    replace sR := TK.same (K := K) kG5 _ _ sR
    replace kk := kk.trans (Ch.of_same kG5)
    replace f1 := Fd.same f1 kG5
    replace gRr := GQ.same gRr kG5
    replace gRx := GQ.same gRx kG5
    replace gX := GQs.same gX kG5
    replace gN := GQs.same gN kG5
    replace gD1 := GQ.same gD1 kG5
    replace gD2 := GQ.same gD2 kG5
    replace gD3 := GQ.same gD3 kG5
    replace gD4 := GQ.same gD4 kG5
    replace eLS := kG5 _ _ eLS
    replace gD5 := GQ.same gD5 kG5
    replace gG3 := GQ.same gG3 kG5
    replace eG4 := TK.same (K := K) kG5 _ _ eG4
    clear kG5
    clear eG4
    have gG5 : GQ K X37 a b 7 (.ref G5) := GQs.tup sG5 (gX.app (.cons gG3.mono .nil))
    clear sG5 gG3
    repeat' (walk_at "jv")
    intro D6 nD6
    have dD6 := f1.ne nD6
    have kD6 := Same.upd_new (o := .tup ([.ref G5, .ref S])) nD6
    have eD6 : SqT K (upd X37 D6 (.tup ([.ref G5, .ref S]))) D6 ([.ref G5, .ref S]) := sq_tup upd_same
    generalize upd X37 D6 (.tup ([.ref G5, .ref S])) = X38 at *
    replace eB := kD6 _ _ eB
    replace hw := WF.same hw kD6
    replace sT := TK.same (K := K) kD6 _ _ sT
    replace dR := Dp.same kD6 _ _ dR
    replace sS := TK.same (K := K) kD6 _ _ sS
    replace w1 := TK.same (K := K) kD6 _ _ w1
    replace sP := TK.same (K := K) kD6 _ _ sP
    replace sR := TK.same (K := K) kD6 _ _ sR
    replace kk := kk.trans (Ch.of_same kD6)
    replace f1 := Fd.same f1 kD6
    replace gRr := GQ.same gRr kD6
    replace gRx := GQ.same gRx kD6
    replace gX := GQs.same gX kD6
    replace gN := GQs.same gN kD6
    replace gD1 := GQ.same gD1 kD6
    replace gD2 := GQ.same gD2 kD6
    replace gD3 := GQ.same gD3 kD6
    replace gD4 := GQ.same gD4 kD6
    replace eLS := kD6 _ _ eLS
    replace gD5 := GQ.same gD5 kD6
    replace gG5 := GQ.same gG5 kD6
    clear kD6 nD6
    have gD6 : GQ K X38 a b 8 (.ref D6) := (GQs.tup (n := 7) eD6 (.cons gG5 (.cons gRx.mono .nil)))
    clear eD6 dD6
    clear gG5
    repeat' (walk_at "jv")
    intro D7 nD7
    have dD7 := f1.ne nD7
    have bD7 := Ne.symm (ne_of_none eB nD7)
    have kD7 := Same.upd_new (o := .lst ([.ref R, .ref S])) nD7
    have eD7 : (upd X38 D7 (.lst ([.ref R, .ref S]))) D7 = some (.lst ([.ref R, .ref S])) := upd_same
    generalize upd X38 D7 (.lst ([.ref R, .ref S])) = X39 at *
    replace eB := kD7 _ _ eB
    replace hw := WF.same hw kD7
    replace sT := TK.same (K := K) kD7 _ _ sT
    replace dR := Dp.same kD7 _ _ dR
    replace sS := TK.same (K := K) kD7 _ _ sS
    replace w1 := TK.same (K := K) kD7 _ _ w1
    replace sP := TK.same (K := K) kD7 _ _ sP
    replace sR := TK.same (K := K) kD7 _ _ sR
    replace kk := kk.trans (Ch.of_same kD7)
    replace f1 := Fd.same f1 kD7
    replace gRr := GQ.same gRr kD7
    replace gRx := GQ.same gRx kD7
    replace gX := GQs.same gX kD7
    replace gN := GQs.same gN kD7
    replace gD1 := GQ.same gD1 kD7
    replace gD2 := GQ.same gD2 kD7
    replace gD3 := GQ.same gD3 kD7
    replace gD4 := GQ.same gD4 kD7
    replace eLS := kD7 _ _ eLS
    replace gD5 := GQ.same gD5 kD7
    replace gD6 := GQ.same gD6 kD7
    clear kD7 nD7
    have gD7 : GQ K X39 a b 8 (.ref D7) := (GQs.lst (n := 7) eD7 dD7 bD7 (.cons gRr.mono (.cons gRx.mono .nil)))
    clear eD7 dD7 bD7
    repeat' (walk_at "jv")
    intro G6 nG6
    have dG6 := f1.ne nG6
    have bG6 := Ne.symm (ne_of_none eB nG6)
    have kG6 := Same.upd_new (o := .lst (xs)) nG6
    have eG6 : (upd X39 G6 (.lst (xs))) G6 = some (.lst (xs)) := upd_same
    generalize upd X39 G6 (.lst (xs)) = X40 at *
    replace eB := kG6 _ _ eB
    replace hw := WF.same hw kG6
    replace sT := TK.same (K := K) kG6 _ _ sT
    replace dR := Dp.same kG6 _ _ dR
    replace sS := TK.same (K := K) kG6 _ _ sS
    replace w1 := TK.same (K := K) kG6 _ _ w1
    replace sP := TK.same (K := K) kG6 _ _ sP
    replace sR := TK.same (K := K) kG6 _ _ sR
    replace kk := kk.trans (Ch.of_same kG6)
    replace f1 := Fd.same f1 kG6
    replace gRr := GQ.same gRr kG6
    replace gRx := GQ.same gRx kG6
    replace gX := GQs.same gX kG6
    replace gN := GQs.same gN kG6
    replace gD1 := GQ.same gD1 kG6
    replace gD2 := GQ.same gD2 kG6
    replace gD3 := GQ.same gD3 kG6
    replace gD4 := GQ.same gD4 kG6
    replace eLS := kG6 _ _ eLS
    replace gD5 := GQ.same gD5 kG6
    replace gD6 := GQ.same gD6 kG6
    replace gD7 := GQ.same gD7 kG6
    clear kG6 nG6
    have gG6 : GQ K X40 a b 7 (.ref G6) := GQs.lst eG6 dG6 bG6 gX
    clear eG6 dG6 bG6
    repeat' (walk_at "jv")
    intro D8 nD8
    have dD8 := f1.ne nD8
    have kD8 := Same.upd_new (o := .tup ([.ref G6, .ref S])) nD8
    have eD8 : SqT K (upd X40 D8 (.tup ([.ref G6, .ref S]))) D8 ([.ref G6, .ref S]) := sq_tup upd_same
    generalize upd X40 D8 (.tup ([.ref G6, .ref S])) = X41 at *
    replace eB := kD8 _ _ eB
    replace hw := WF.same hw kD8
    replace sT := TK.same (K := K) kD8 _ _ sT
    replace dR := Dp.same kD8 _ _ dR
    replace sS := TK.same (K := K) kD8 _ _ sS
    replace w1 := TK.same (K := K) kD8 _ _ w1
    replace sP := TK.same (K := K) kD8 _ _ sP
    replace sR := TK.same (K := K) kD8 _ _ sR
    replace kk := kk.trans (Ch.of_same kD8)
    replace f1 := Fd.same f1 kD8
    replace gRr := GQ.same gRr kD8
    replace gRx := GQ.same gRx kD8
    replace gX := GQs.same gX kD8
    replace gN := GQs.same gN kD8
    replace gD1 := GQ.same gD1 kD8
    replace gD2 := GQ.same gD2 kD8
    replace gD3 := GQ.same gD3 kD8
    replace gD4 := GQ.same gD4 kD8
    replace eLS := kD8 _ _ eLS
    replace gD5 := GQ.same gD5 kD8
    replace gD6 := GQ.same gD6 kD8
    replace gD7 := GQ.same gD7 kD8
    replace gG6 := GQ.same gG6 kD8
    clear kD8 nD8
    have gD8 : GQ K X41 a b 8 (.ref D8) := (GQs.tup (n := 7) eD8 (.cons gG6 (.cons gRx.mono .nil)))
    clear eD8 dD8
    clear gG6
    repeat' (walk_at "jv")
    intro G7 nG7
    have dG7 := f1.ne nG7
    have bG7 := Ne.symm (ne_of_none eB nG7)
    have kG7 := Same.upd_new (o := .lst (natsV t)) nG7
    have eG7 : (upd X41 G7 (.lst (natsV t))) G7 = some (.lst (natsV t)) := upd_same
    generalize upd X41 G7 (.lst (natsV t)) = X42 at *
    replace eB := kG7 _ _ eB
    replace hw := WF.same hw kG7
    replace sT := TK.same (K := K) kG7 _ _ sT
    replace dR := Dp.same kG7 _ _ dR
    replace sS := TK.same (K := K) kG7 _ _ sS
    replace w1 := TK.same (K := K) kG7 _ _ w1
    replace sP := TK.same (K := K) kG7 _ _ sP
    replace sR := TK.same (K := K) kG7 _ _ sR
    replace kk := kk.trans (Ch.of_same kG7)
    replace f1 := Fd.same f1 kG7
    replace gRr := GQ.same gRr kG7
    replace gRx := GQ.same gRx kG7
    replace gX := GQs.same gX kG7
    replace gN := GQs.same gN kG7
    replace gD1 := GQ.same gD1 kG7
    replace gD2 := GQ.same gD2 kG7
    replace gD3 := GQ.same gD3 kG7
    replace gD4 := GQ.same gD4 kG7
    replace eLS := kG7 _ _ eLS
    replace gD5 := GQ.same gD5 kG7
    replace gD6 := GQ.same gD6 kG7
    replace gD7 := GQ.same gD7 kG7
    replace gD8 := GQ.same gD8 kG7
    clear kG7 nG7
    have gG7 : GQ K X42 a b 7 (.ref G7) := GQs.lst eG7 dG7 bG7 gN
    clear eG7 dG7 bG7
    repeat' (walk_at "jv")
    intro D9 nD9
    have dD9 := f1.ne nD9
    have kD9 := Same.upd_new (o := .tup ([.ref R, .ref G7])) nD9
    have eD9 : SqT K (upd X42 D9 (.tup ([.ref R, .ref G7]))) D9 ([.ref R, .ref G7]) := sq_tup upd_same
    generalize upd X42 D9 (.tup ([.ref R, .ref G7])) = X43 at *
    replace eB := kD9 _ _ eB
    replace hw := WF.same hw kD9
    replace sT := TK.same (K := K) kD9 _ _ sT
    replace dR := Dp.same kD9 _ _ dR
    replace sS := TK.same (K := K) kD9 _ _ sS
    replace w1 := TK.same (K := K) kD9 _ _ w1
    replace sP := TK.same (K := K) kD9 _ _ sP
    replace sR := TK.same (K := K) kD9 _ _ sR
    replace kk := kk.trans (Ch.of_same kD9)
    replace f1 := Fd.same f1 kD9
    replace gRr := GQ.same gRr kD9
    replace gRx := GQ.same gRx kD9
    replace gX := GQs.same gX kD9
    replace gN := GQs.same gN kD9
    replace gD1 := GQ.same gD1 kD9
    replace gD2 := GQ.same gD2 kD9
    replace gD3 := GQ.same gD3 kD9
    replace gD4 := GQ.same gD4 kD9
    replace eLS := kD9 _ _ eLS
    replace gD5 := GQ.same gD5 kD9
    replace gD6 := GQ.same gD6 kD9
    replace gD7 := GQ.same gD7 kD9
    replace gD8 := GQ.same gD8 kD9
    replace gG7 := GQ.same gG7 kD9
    clear kD9 nD9
    have gD9 : GQ K X43 a b 8 (.ref D9) := (GQs.tup (n := 7) eD9 (.cons gRr.mono (.cons gG7 .nil)))
    clear eD9 dD9
    clear gG7
    repeat' (walk_at "jv")
    intro DA nDA
    have dDA := f1.ne nDA
    have kDA := Same.upd_new (o := .tup ([.ref R, .ref S, .int 0])) nDA
    have eDA : SqT K (upd X43 DA (.tup ([.ref R, .ref S, .int 0]))) DA ([.ref R, .ref S, .int 0]) := sq_tup upd_same
    generalize upd X43 DA (.tup ([.ref R, .ref S, .int 0])) = X44 at *
    replace eB := kDA _ _ eB
    replace hw := WF.same hw kDA
    replace sT := TK.same (K := K) kDA _ _ sT
    replace dR := Dp.same kDA _ _ dR
    replace sS := TK.same (K := K) kDA _ _ sS
    replace w1 := TK.same (K := K) kDA _ _ w1
    replace sP := TK.same (K := K) kDA _ _ sP
    replace sR := TK.same (K := K) kDA _ _ sR
    replace kk := kk.trans (Ch.of_same kDA)
    replace f1 := Fd.same f1 kDA
    replace gRr := GQ.same gRr kDA
    replace gRx := GQ.same gRx kDA
    replace gX := GQs.same gX kDA
    replace gN := GQs.same gN kDA
    replace gD1 := GQ.same gD1 kDA
    replace gD2 := GQ.same gD2 kDA
    replace gD3 := GQ.same gD3 kDA
    replace gD4 := GQ.same gD4 kDA
    replace eLS := kDA _ _ eLS
    replace gD5 := GQ.same gD5 kDA
    replace gD6 := GQ.same gD6 kDA
    replace gD7 := GQ.same gD7 kDA
    replace gD8 := GQ.same gD8 kDA
    replace gD9 := GQ.same gD9 kDA
    clear kDA nDA
    have gDA : GQ K X44 a b 8 (.ref DA) := (GQs.tup (n := 7) eDA (.cons gRr.mono (.cons gRx.mono (.cons (gq_int _).mono .nil))))
    clear eDA dDA
    repeat' (walk_at "jv")
    intro LT nLT
    have dLT := f1.ne nLT
    have bLT := Ne.symm (ne_of_none eB nLT)
    have kLT := Same.upd_new (o := .lst ([.ref D5, .ref D6, .ref D7, .ref D8, .ref D9, .ref DA])) nLT
    have eLT : (upd X44 LT (.lst ([.ref D5, .ref D6, .ref D7, .ref D8, .ref D9, .ref DA]))) LT = some (.lst ([.ref D5, .ref D6, .ref D7, .ref D8, .ref D9, .ref DA])) := upd_same
    generalize upd X44 LT (.lst ([.ref D5, .ref D6, .ref D7, .ref D8, .ref D9, .ref DA])) = X45 at *
    replace eB := kLT _ _ eB
    replace hw := WF.same hw kLT
    replace sT := TK.same (K := K) kLT _ _ sT
    replace dR := Dp.same kLT _ _ dR
    replace sS := TK.same (K := K) kLT _ _ sS
    replace w1 := TK.same (K := K) kLT _ _ w1
    replace sP := TK.same (K := K) kLT _ _ sP
    replace sR := TK.same (K := K) kLT _ _ sR
    replace kk := kk.trans (Ch.of_same kLT)
    replace f1 := Fd.same f1 kLT
    replace gRr := GQ.same gRr kLT
    replace gRx := GQ.same gRx kLT
    replace gX := GQs.same gX kLT
    replace gN := GQs.same gN kLT
    replace gD1 := GQ.same gD1 kLT
    replace gD2 := GQ.same gD2 kLT
    replace gD3 := GQ.same gD3 kLT
    replace gD4 := GQ.same gD4 kLT
    replace eLS := kLT _ _ eLS
    replace gD5 := GQ.same gD5 kLT
    replace gD6 := GQ.same gD6 kLT
    replace gD7 := GQ.same gD7 kLT
    replace gD8 := GQ.same gD8 kLT
    replace gD9 := GQ.same gD9 kLT
    replace gDA := GQ.same gDA kLT
    clear kLT nLT
    repeat' (walk_at "jv")
    refine i_catL eLS eLT (by rw [sizeLine_eq]; show 4 + 6 ≤ _; omega) fun LU nLU => ?_
    have dLU := f1.ne nLU
    have bLU := Ne.symm (ne_of_none eB nLU)
    have kLU := Same.upd_new (o := .lst ([.ref D1, .ref D2, .ref D3, .ref D4] ++ [.ref D5, .ref D6, .ref D7, .ref D8, .ref D9, .ref DA])) nLU
    have eLU : (upd X45 LU (.lst ([.ref D1, .ref D2, .ref D3, .ref D4] ++ [.ref D5, .ref D6, .ref D7, .ref D8, .ref D9, .ref DA]))) LU = some (.lst ([.ref D1, .ref D2, .ref D3, .ref D4] ++ [.ref D5, .ref D6, .ref D7, .ref D8, .ref D9, .ref DA])) := upd_same
    generalize upd X45 LU (.lst ([.ref D1, .ref D2, .ref D3, .ref D4] ++ [.ref D5, .ref D6, .ref D7, .ref D8, .ref D9, .ref DA])) = X46 at *
    replace eB := kLU _ _ eB
    replace hw := WF.same hw kLU
    replace sT := TK.same (K := K) kLU _ _ sT
    replace dR := Dp.same kLU _ _ dR
    replace sS := TK.same (K := K) kLU _ _ sS
    replace w1 := TK.same (K := K) kLU _ _ w1
    replace sP := TK.same (K := K) kLU _ _ sP
    replace sR := TK.same (K := K) kLU _ _ sR
    replace kk := kk.trans (Ch.of_same kLU)
    replace f1 := Fd.same f1 kLU
    replace gRr := GQ.same gRr kLU
    replace gRx := GQ.same gRx kLU
    replace gX := GQs.same gX kLU
    replace gN := GQs.same gN kLU
    replace gD1 := GQ.same gD1 kLU
    replace gD2 := GQ.same gD2 kLU
    replace gD3 := GQ.same gD3 kLU
    replace gD4 := GQ.same gD4 kLU
    replace gD5 := GQ.same gD5 kLU
    replace gD6 := GQ.same gD6 kLU
    replace gD7 := GQ.same gD7 kLU
    replace gD8 := GQ.same gD8 kLU
    replace gD9 := GQ.same gD9 kLU
    replace gDA := GQ.same gDA kLU
    clear kLU nLU
    replace eLU : X46 LU = some (.lst ([.ref D1, .ref D2, .ref D3, .ref D4, .ref D5, .ref D6, .ref D7, .ref D8, .ref D9, .ref DA])) := eLU
    clear eLS eLT
    repeat' (walk_at "jv")
    obtain ⟨R2, xs2, e2, sR2, aR2⟩ := tup_parts dR
    obtain rfl : R = R2 := by injection e2
    clear e2
    have hxl2 : xs2.length = es.length := DpAll.len aR2
    repeat' (walk_at "jv")
    refine i_zip ?_
    repeat' (walk_at "jv")
    refine i_zipT sP sR2 ?_
    have aR3 := aR2
    refine c_zip (ps.map V.str) xs2 (by omega) (fun D2 i H' => X46 D2 = none ∧ Same X46 H' ∧ ∃ zs, H' D2 = some (.lst zs) ∧ zs.length = i ∧ ∀ z ∈ zs, TbP K H' z) (fun D nD => ⟨nD, Same.upd_new nD, [], upd_same, rfl, fun z h => nomatch h⟩) (fun D i H' h => ⟨TK.same h.2.1 _ _ sP, TK.same h.2.1 _ _ sR2⟩) (fun D i x y H' T9 hx hy h nT => ?_) (fun TL HT h => ?_)
    · obtain ⟨nD, sm, zs, eD, zl, gz⟩ := h
      have hi : i < ps.length := by
        have := (List.getElem?_eq_some_iff.mp hx).1
        rwa [List.length_map] at this
      rw [List.getElem?_map, List.getElem?_eq_getElem hi] at hx
      obtain rfl : V.str ps[i] = x := Option.some.inj hx
      have sT9 := Same.upd_new (o := .tup [V.str ps[i], y]) nT
      have smT := sm.trans sT9
      obtain ⟨d, hdd, dx⟩ := DpAll.get (DpAll.same smT _ _ aR2) hy
      have hie : i < es.length := by omega
      have epd : plainB (nearL ps rs ps[i]) d = true := by
        have := List.all_eq_true.mp pl i (List.mem_range.mpr hi)
        rw [List.getD_eq_getElem?_getD, List.getD_eq_getElem?_getD, List.getElem?_eq_getElem hi, hdd] at this
        exact this
      repeat' (walk_at "jv")
      refine ⟨.ref tw, y, ps[i], d, ps, rs, rfl, hw.same smT, W, List.getElem_mem hi, dx, epd, fun T2 t2 H3 k3 s3 tl2 tk2 => ?_⟩
      have k4 := sT9.trans k3
      have eD3 := k4 _ _ eD
      replace gz : ∀ z ∈ zs, TbP K H3 z := fun z hz => (gz z hz).tk (TK.same k4)
      replace sm := sm.trans k4
      repeat' (walk_at "jv")
      intro T4 nT4
      have kT4 := Same.upd_new (o := .tup [V.str "table", V.ref T2]) nT4
      have g4 : TbP K (upd H3 T4 (.tup [V.str "table", V.ref T2])) (.ref T4) := ⟨T4, T2, t2, rfl, sq_tup upd_same, TK.same (K := K) kT4 _ _ s3⟩
      replace eD3 := kT4 _ _ eD3
      replace gz : ∀ z ∈ zs, TbP K (upd H3 T4 (.tup [V.str "table", V.ref T2])) z := fun z hz => (gz z hz).tk (TK.same kT4)
      replace sm := sm.trans kT4
      generalize upd H3 T4 (.tup [V.str "table", V.ref T2]) = H5 at *
      refine i_lcE eD3 (by rw [zl, sizeLine_eq]; omega) ?_
      have sm5 : Same X46 (upd H5 D (.lst (zs ++ [V.ref T4]))) := fun c oc z => (upd_ne (ne_of_none z nD)).trans (sm _ _ z)
      refine ⟨nD, sm5, zs ++ [V.ref T4], upd_same, by rw [List.length_append, zl]; rfl, ?_⟩
      have tkD : TK K H5 (upd H5 D (.lst (zs ++ [V.ref T4]))) := TK.lst eD3
      exact fun z hz => (List.mem_append.mp hz).elim (fun h => (gz z h).tk tkD) fun h => by
        rw [List.mem_singleton.mp h]
        exact g4.tk tkD
    obtain ⟨nTL, sm, zs, eTL, zl, gz⟩ := h
    replace eB := sm _ _ eB
    replace hw := WF.same hw sm
    replace sT := TK.same (K := K) sm _ _ sT
    replace dR := Dp.same sm _ _ dR
    replace sS := TK.same (K := K) sm _ _ sS
    replace w1 := TK.same (K := K) sm _ _ w1
    replace sP := TK.same (K := K) sm _ _ sP
    replace sR := TK.same (K := K) sm _ _ sR
    replace kk := kk.trans (Ch.of_same sm)
    replace f1 := Fd.same f1 sm
    replace gRr := GQ.same gRr sm
    replace gRx := GQ.same gRx sm
    replace gX := GQs.same gX sm
    replace gN := GQs.same gN sm
    replace gD1 := GQ.same gD1 sm
    replace gD2 := GQ.same gD2 sm
    replace gD3 := GQ.same gD3 sm
    replace gD4 := GQ.same gD4 sm
    replace gD5 := GQ.same gD5 sm
    replace gD6 := GQ.same gD6 sm
    replace gD7 := GQ.same gD7 sm
    replace gD8 := GQ.same gD8 sm
    replace gD9 := GQ.same gD9 sm
    replace gDA := GQ.same gDA sm
    replace eLU := sm _ _ eLU
    clear sm nTL aR2 aR3 sR2
    rw [hmp] at zl
    have gz := TbP.gq (a := a) (b := b) gz
    repeat' (walk_at "jv")
    intro TB nTB
    have dTB := f1.ne nTB
    have kTB := Same.upd_new (o := .tup (zs)) nTB
    have eTB : SqT K (upd HT TB (.tup (zs))) TB (zs) := sq_tup upd_same
    generalize upd HT TB (.tup (zs)) = X47 at *
    replace eB := kTB _ _ eB
    replace hw := WF.same hw kTB
    replace sT := TK.same (K := K) kTB _ _ sT
    replace dR := Dp.same kTB _ _ dR
    replace sS := TK.same (K := K) kTB _ _ sS
    replace w1 := TK.same (K := K) kTB _ _ w1
    replace sP := TK.same (K := K) kTB _ _ sP
    replace sR := TK.same (K := K) kTB _ _ sR
    replace kk := kk.trans (Ch.of_same kTB)
    replace f1 := Fd.same f1 kTB
    replace gRr := GQ.same gRr kTB
    replace gRx := GQ.same gRx kTB
    replace gX := GQs.same gX kTB
    replace gN := GQs.same gN kTB
    replace gD1 := GQ.same gD1 kTB
    replace gD2 := GQ.same gD2 kTB
    replace gD3 := GQ.same gD3 kTB
    replace gD4 := GQ.same gD4 kTB
    replace gD5 := GQ.same gD5 kTB
    replace gD6 := GQ.same gD6 kTB
    replace gD7 := GQ.same gD7 kTB
    replace gD8 := GQ.same gD8 kTB
    replace gD9 := GQ.same gD9 kTB
    replace gDA := GQ.same gDA kTB
    replace eLU := kTB _ _ eLU
    replace eTL := kTB _ _ eTL
    replace gz := GQs.same gz kTB
    clear kTB nTB
    have gTB : GQ K X47 a b 7 (.ref TB) := (GQs.tup eTB gz).mono
    clear eTL gz
    clear eTB dTB zl
    repeat' (walk_at "jv")
    intro LV nLV
    have dLV := f1.ne nLV
    have bLV := Ne.symm (ne_of_none eB nLV)
    have kLV := Same.upd_new (o := .lst (cutV [V.ref D1, V.ref D2, V.ref D3, V.ref D4, V.ref D5, V.ref D6, V.ref D7, V.ref D8, V.ref D9, V.ref DA] none (some 2))) nLV
    have eLV : (upd X47 LV (.lst (cutV [V.ref D1, V.ref D2, V.ref D3, V.ref D4, V.ref D5, V.ref D6, V.ref D7, V.ref D8, V.ref D9, V.ref DA] none (some 2)))) LV = some (.lst (cutV [V.ref D1, V.ref D2, V.ref D3, V.ref D4, V.ref D5, V.ref D6, V.ref D7, V.ref D8, V.ref D9, V.ref DA] none (some 2))) := upd_same
    generalize upd X47 LV (.lst (cutV [V.ref D1, V.ref D2, V.ref D3, V.ref D4, V.ref D5, V.ref D6, V.ref D7, V.ref D8, V.ref D9, V.ref DA] none (some 2))) = X48 at *
    replace eB := kLV _ _ eB
    replace hw := WF.same hw kLV
    replace sT := TK.same (K := K) kLV _ _ sT
    replace dR := Dp.same kLV _ _ dR
    replace sS := TK.same (K := K) kLV _ _ sS
    replace w1 := TK.same (K := K) kLV _ _ w1
    replace sP := TK.same (K := K) kLV _ _ sP
    replace sR := TK.same (K := K) kLV _ _ sR
    replace kk := kk.trans (Ch.of_same kLV)
    replace f1 := Fd.same f1 kLV
    replace gRr := GQ.same gRr kLV
    replace gRx := GQ.same gRx kLV
    replace gX := GQs.same gX kLV
    replace gN := GQs.same gN kLV
    replace gD1 := GQ.same gD1 kLV
    replace gD2 := GQ.same gD2 kLV
    replace gD3 := GQ.same gD3 kLV
    replace gD4 := GQ.same gD4 kLV
    replace gD5 := GQ.same gD5 kLV
    replace gD6 := GQ.same gD6 kLV
    replace gD7 := GQ.same gD7 kLV
    replace gD8 := GQ.same gD8 kLV
    replace gD9 := GQ.same gD9 kLV
    replace gDA := GQ.same gDA kLV
    replace eLU := kLV _ _ eLU
    replace gTB := GQ.same gTB kLV
    clear kLV nLV
    replace eLV : X48 LV = some (.lst ([.ref D1, .ref D2])) := eLV
    refine i_catL eLU eLV (by rw [sizeLine_eq]; show 10 + 2 ≤ _; omega) fun LX nLX => ?_
    have dLX := f1.ne nLX
    have bLX := Ne.symm (ne_of_none eB nLX)
    have kLX := Same.upd_new (o := .lst ([.ref D1, .ref D2, .ref D3, .ref D4, .ref D5, .ref D6, .ref D7, .ref D8, .ref D9, .ref DA] ++ [.ref D1, .ref D2])) nLX
    have eLX : (upd X48 LX (.lst ([.ref D1, .ref D2, .ref D3, .ref D4, .ref D5, .ref D6, .ref D7, .ref D8, .ref D9, .ref DA] ++ [.ref D1, .ref D2]))) LX = some (.lst ([.ref D1, .ref D2, .ref D3, .ref D4, .ref D5, .ref D6, .ref D7, .ref D8, .ref D9, .ref DA] ++ [.ref D1, .ref D2])) := upd_same
    generalize upd X48 LX (.lst ([.ref D1, .ref D2, .ref D3, .ref D4, .ref D5, .ref D6, .ref D7, .ref D8, .ref D9, .ref DA] ++ [.ref D1, .ref D2])) = X49 at *
    replace eB := kLX _ _ eB
    replace hw := WF.same hw kLX
    replace sT := TK.same (K := K) kLX _ _ sT
    replace dR := Dp.same kLX _ _ dR
    replace sS := TK.same (K := K) kLX _ _ sS
    replace w1 := TK.same (K := K) kLX _ _ w1
    replace sP := TK.same (K := K) kLX _ _ sP
    replace sR := TK.same (K := K) kLX _ _ sR
    replace kk := kk.trans (Ch.of_same kLX)
    replace f1 := Fd.same f1 kLX
    replace gRr := GQ.same gRr kLX
    replace gRx := GQ.same gRx kLX
    replace gX := GQs.same gX kLX
    replace gN := GQs.same gN kLX
    replace gD1 := GQ.same gD1 kLX
    replace gD2 := GQ.same gD2 kLX
    replace gD3 := GQ.same gD3 kLX
    replace gD4 := GQ.same gD4 kLX
    replace gD5 := GQ.same gD5 kLX
    replace gD6 := GQ.same gD6 kLX
    replace gD7 := GQ.same gD7 kLX
    replace gD8 := GQ.same gD8 kLX
    replace gD9 := GQ.same gD9 kLX
    replace gDA := GQ.same gDA kLX
    replace gTB := GQ.same gTB kLX
    clear kLX nLX
    replace eLX : X49 LX = some (.lst ([.ref D1, .ref D2, .ref D3, .ref D4, .ref D5, .ref D6, .ref D7, .ref D8, .ref D9, .ref DA, .ref D1, .ref D2])) := eLX
    clear eLU eLV
    repeat' (walk_at "jv")
    intro G8 nG8
    have dG8 := f1.ne nG8
    have kG8 := Same.upd_new (o := .tup ([])) nG8
    have eG8 : SqT K (upd X49 G8 (.tup ([]))) G8 ([]) := sq_tup upd_same
    generalize upd X49 G8 (.tup ([])) = X50 at *
    replace eB := kG8 _ _ eB
    replace hw := WF.same hw kG8
    replace sT := TK.same (K := K) kG8 _ _ sT
    replace dR := Dp.same kG8 _ _ dR
    replace sS := TK.same (K := K) kG8 _ _ sS
    replace w1 := TK.same (K := K) kG8 _ _ w1
    replace sP := TK.same (K := K) kG8 _ _ sP
    replace sR := TK.same (K := K) kG8 _ _ sR
    replace kk := kk.trans (Ch.of_same kG8)
    replace f1 := Fd.same f1 kG8
    replace gRr := GQ.same gRr kG8
    replace gRx := GQ.same gRx kG8
    replace gX := GQs.same gX kG8
    replace gN := GQs.same gN kG8
    replace gD1 := GQ.same gD1 kG8
    replace gD2 := GQ.same gD2 kG8
    replace gD3 := GQ.same gD3 kG8
    replace gD4 := GQ.same gD4 kG8
    replace gD5 := GQ.same gD5 kG8
    replace gD6 := GQ.same gD6 kG8
    replace gD7 := GQ.same gD7 kG8
    replace gD8 := GQ.same gD8 kG8
    replace gD9 := GQ.same gD9 kG8
    replace gDA := GQ.same gDA kG8
    replace gTB := GQ.same gTB kG8
    replace eLX := kG8 _ _ eLX
    clear kG8 nG8
    have gG8 : GQ K X50 a b 7 (.ref G8) := (GQs.tup (n := 6) eG8 .nil)
    clear eG8 dG8
    repeat' (walk_at "jv")
    intro G9 nG9
    have dG9 := f1.ne nG9
    have kG9 := Same.upd_new (o := .tup ([.ref S, .ref R])) nG9
    have eG9 : SqT K (upd X50 G9 (.tup ([.ref S, .ref R]))) G9 ([.ref S, .ref R]) := sq_tup upd_same
    generalize upd X50 G9 (.tup ([.ref S, .ref R])) = X51 at *
    replace eB := kG9 _ _ eB
    replace hw := WF.same hw kG9
    replace sT := TK.same (K := K) kG9 _ _ sT
    replace dR := Dp.same kG9 _ _ dR
    replace sS := TK.same (K := K) kG9 _ _ sS
    replace w1 := TK.same (K := K) kG9 _ _ w1
    replace sP := TK.same (K := K) kG9 _ _ sP
    replace sR := TK.same (K := K) kG9 _ _ sR
    replace kk := kk.trans (Ch.of_same kG9)
    replace f1 := Fd.same f1 kG9
    replace gRr := GQ.same gRr kG9
    replace gRx := GQ.same gRx kG9
    replace gX := GQs.same gX kG9
    replace gN := GQs.same gN kG9
    replace gD1 := GQ.same gD1 kG9
    replace gD2 := GQ.same gD2 kG9
    replace gD3 := GQ.same gD3 kG9
    replace gD4 := GQ.same gD4 kG9
    replace gD5 := GQ.same gD5 kG9
    replace gD6 := GQ.same gD6 kG9
    replace gD7 := GQ.same gD7 kG9
    replace gD8 := GQ.same gD8 kG9
    replace gD9 := GQ.same gD9 kG9
    replace gDA := GQ.same gDA kG9
    replace gTB := GQ.same gTB kG9
    replace eLX := kG9 _ _ eLX
    replace gG8 := GQ.same gG8 kG9
    clear kG9 nG9
    have gG9 : GQ K X51 a b 8 (.ref G9) := (GQs.tup (n := 7) eG9 (.cons gRx.mono (.cons gRr.mono .nil)))
    clear eG9 dG9
    repeat' (walk_at "jv")
    intro GA nGA
    have dGA := f1.ne nGA
    have kGA := Same.upd_new (o := .tup ([.ref TB, .ref S])) nGA
    have eGA : SqT K (upd X51 GA (.tup ([.ref TB, .ref S]))) GA ([.ref TB, .ref S]) := sq_tup upd_same
    generalize upd X51 GA (.tup ([.ref TB, .ref S])) = X52 at *
    replace eB := kGA _ _ eB
    replace hw := WF.same hw kGA
    replace sT := TK.same (K := K) kGA _ _ sT
    replace dR := Dp.same kGA _ _ dR
    replace sS := TK.same (K := K) kGA _ _ sS
    replace w1 := TK.same (K := K) kGA _ _ w1
    replace sP := TK.same (K := K) kGA _ _ sP
    replace sR := TK.same (K := K) kGA _ _ sR
    replace kk := kk.trans (Ch.of_same kGA)
    replace f1 := Fd.same f1 kGA
    replace gRr := GQ.same gRr kGA
    replace gRx := GQ.same gRx kGA
    replace gX := GQs.same gX kGA
    replace gN := GQs.same gN kGA
    replace gD1 := GQ.same gD1 kGA
    replace gD2 := GQ.same gD2 kGA
    replace gD3 := GQ.same gD3 kGA
    replace gD4 := GQ.same gD4 kGA
    replace gD5 := GQ.same gD5 kGA
    replace gD6 := GQ.same gD6 kGA
    replace gD7 := GQ.same gD7 kGA
    replace gD8 := GQ.same gD8 kGA
    replace gD9 := GQ.same gD9 kGA
    replace gDA := GQ.same gDA kGA
    replace gTB := GQ.same gTB kGA
    replace eLX := kGA _ _ eLX
    replace gG8 := GQ.same gG8 kGA
    replace gG9 := GQ.same gG9 kGA
    clear kGA nGA
    have gGA : GQ K X52 a b 8 (.ref GA) := (GQs.tup (n := 7) eGA (.cons gTB (.cons gRx.mono .nil)))
    clear eGA dGA
    clear gTB
    repeat' (walk_at "jv")
    refine c_tup (natsV t) (fun D i H' => X52 D = none ∧ Same X52 H' ∧ ∃ us : List Int, H' D = some (.lst (us.map V.int)) ∧ us.length = i) (fun D nD => ⟨nD, Same.upd_new nD, [], upd_same, rfl⟩) (fun D i H' _ h => TK.same h.2.1 _ _ sS) (fun D i x H' hx h => ?_) (fun TC HC h => ?_)
    · obtain ⟨nD, sm, us, eD, ul⟩ := h
      have hit : i < (natsV t).length := (List.getElem?_eq_some_iff.mp hx).1
      obtain ⟨n, rfl⟩ : ∃ n : Nat, x = V.int ((n : Nat) : Int) := by
        have := List.mem_of_getElem? hx
        obtain ⟨n, _, rfl⟩ := List.mem_map.mp this
        exact ⟨n, rfl⟩
      repeat' (walk_at "jv")
      refine ⟨nD, fun c oc z => (upd_ne (ne_of_none z nD)).trans (sm _ _ z), us ++ [1 - (n : Int)], ?_, by rw [List.length_append, ul]; rfl⟩
      rw [upd_same, List.map_append]
      rfl
    obtain ⟨nTC, sm, us, eTC, ul⟩ := h
    replace eB := sm _ _ eB
    replace hw := WF.same hw sm
    replace sT := TK.same (K := K) sm _ _ sT
    replace dR := Dp.same sm _ _ dR
    replace sS := TK.same (K := K) sm _ _ sS
    replace w1 := TK.same (K := K) sm _ _ w1
    replace sP := TK.same (K := K) sm _ _ sP
    replace sR := TK.same (K := K) sm _ _ sR
    replace kk := kk.trans (Ch.of_same sm)
    replace f1 := Fd.same f1 sm
    replace gRr := GQ.same gRr sm
    replace gRx := GQ.same gRx sm
    replace gX := GQs.same gX sm
    replace gN := GQs.same gN sm
    replace gD1 := GQ.same gD1 sm
    replace gD2 := GQ.same gD2 sm
    replace gD3 := GQ.same gD3 sm
    replace gD4 := GQ.same gD4 sm
    replace gD5 := GQ.same gD5 sm
    replace gD6 := GQ.same gD6 sm
    replace gD7 := GQ.same gD7 sm
    replace gD8 := GQ.same gD8 sm
    replace gD9 := GQ.same gD9 sm
    replace gDA := GQ.same gDA sm
    replace eLX := sm _ _ eLX
    replace gG8 := GQ.same gG8 sm
    replace gG9 := GQ.same gG9 sm
    replace gGA := GQ.same gGA sm
    clear sm nTC ul
    repeat' (walk_at "jv")
    intro GB nGB
    have dGB := f1.ne nGB
    have kGB := Same.upd_new (o := .tup (us.map V.int)) nGB
    have eGB : SqT K (upd HC GB (.tup (us.map V.int))) GB (us.map V.int) := sq_tup upd_same
    generalize upd HC GB (.tup (us.map V.int)) = X53 at *
    replace eB := kGB _ _ eB
    replace hw := WF.same hw kGB
    replace sT := TK.same (K := K) kGB _ _ sT
    replace dR := Dp.same kGB _ _ dR
    replace sS := TK.same (K := K) kGB _ _ sS
    replace w1 := TK.same (K := K) kGB _ _ w1
    replace sP := TK.same (K := K) kGB _ _ sP
    replace sR := TK.same (K := K) kGB _ _ sR
    replace kk := kk.trans (Ch.of_same kGB)
    replace f1 := Fd.same f1 kGB
    replace gRr := GQ.same gRr kGB
    replace gRx := GQ.same gRx kGB
    replace gX := GQs.same gX kGB
    replace gN := GQs.same gN kGB
    replace gD1 := GQ.same gD1 kGB
    replace gD2 := GQ.same gD2 kGB
    replace gD3 := GQ.same gD3 kGB
    replace gD4 := GQ.same gD4 kGB
    replace gD5 := GQ.same gD5 kGB
    replace gD6 := GQ.same gD6 kGB
    replace gD7 := GQ.same gD7 kGB
    replace gD8 := GQ.same gD8 kGB
    replace gD9 := GQ.same gD9 kGB
    replace gDA := GQ.same gDA kGB
    replace eLX := kGB _ _ eLX
    replace gG8 := GQ.same gG8 kGB
    replace gG9 := GQ.same gG9 kGB
    replace gGA := GQ.same gGA kGB
    replace eTC := kGB _ _ eTC
    clear kGB nGB
    have gGB : GQ K X53 a b 7 (.ref GB) := ((gq_ints us).tup eGB).mono
    clear eTC
    clear eGB dGB
    repeat' (walk_at "jv")
    intro GC nGC
    have dGC := f1.ne nGC
    have kGC := Same.upd_new (o := .tup ([.ref R, .ref GB])) nGC
    have eGC : SqT K (upd X53 GC (.tup ([.ref R, .ref GB]))) GC ([.ref R, .ref GB]) := sq_tup upd_same
    generalize upd X53 GC (.tup ([.ref R, .ref GB])) = X54 at *
    replace eB := kGC _ _ eB
    replace hw := WF.same hw kGC
    replace sT := TK.same (K := K) kGC _ _ sT
    replace dR := Dp.same kGC _ _ dR
    replace sS := TK.same (K := K) kGC _ _ sS
    replace w1 := TK.same (K := K) kGC _ _ w1
    replace sP := TK.same (K := K) kGC _ _ sP
    replace sR := TK.same (K := K) kGC _ _ sR
    replace kk := kk.trans (Ch.of_same kGC)
    replace f1 := Fd.same f1 kGC
    replace gRr := GQ.same gRr kGC
    replace gRx := GQ.same gRx kGC
    replace gX := GQs.same gX kGC
    replace gN := GQs.same gN kGC
    replace gD1 := GQ.same gD1 kGC
    replace gD2 := GQ.same gD2 kGC
    replace gD3 := GQ.same gD3 kGC
    replace gD4 := GQ.same gD4 kGC
    replace gD5 := GQ.same gD5 kGC
    replace gD6 := GQ.same gD6 kGC
    replace gD7 := GQ.same gD7 kGC
    replace gD8 := GQ.same gD8 kGC
    replace gD9 := GQ.same gD9 kGC
    replace gDA := GQ.same gDA kGC
    replace eLX := kGC _ _ eLX
    replace gG8 := GQ.same gG8 kGC
    replace gG9 := GQ.same gG9 kGC
    replace gGA := GQ.same gGA kGC
    replace gGB := GQ.same gGB kGC
    clear kGC nGC
    have gGC : GQ K X54 a b 8 (.ref GC) := (GQs.tup (n := 7) eGC (.cons gRr.mono (.cons gGB .nil)))
    clear eGC dGC
    clear gGB
    repeat' (walk_at "jv")
    intro LW nLW
    have dLW := f1.ne nLW
    have bLW := Ne.symm (ne_of_none eB nLW)
    have kLW := Same.upd_new (o := .lst ([.non, .ref G8, .ref R, .int 5, .str "", .bl true, .ref G9, .ref GA, .ref GC])) nLW
    have eLW : (upd X54 LW (.lst ([.non, .ref G8, .ref R, .int 5, .str "", .bl true, .ref G9, .ref GA, .ref GC]))) LW = some (.lst ([.non, .ref G8, .ref R, .int 5, .str "", .bl true, .ref G9, .ref GA, .ref GC])) := upd_same
    generalize upd X54 LW (.lst ([.non, .ref G8, .ref R, .int 5, .str "", .bl true, .ref G9, .ref GA, .ref GC])) = X55 at *
    replace eB := kLW _ _ eB
    replace hw := WF.same hw kLW
    replace sT := TK.same (K := K) kLW _ _ sT
    replace dR := Dp.same kLW _ _ dR
    replace sS := TK.same (K := K) kLW _ _ sS
    replace w1 := TK.same (K := K) kLW _ _ w1
    replace sP := TK.same (K := K) kLW _ _ sP
    replace sR := TK.same (K := K) kLW _ _ sR
    replace kk := kk.trans (Ch.of_same kLW)
    replace f1 := Fd.same f1 kLW
    replace gRr := GQ.same gRr kLW
    replace gRx := GQ.same gRx kLW
    replace gX := GQs.same gX kLW
    replace gN := GQs.same gN kLW
    replace gD1 := GQ.same gD1 kLW
    replace gD2 := GQ.same gD2 kLW
    replace gD3 := GQ.same gD3 kLW
    replace gD4 := GQ.same gD4 kLW
    replace gD5 := GQ.same gD5 kLW
    replace gD6 := GQ.same gD6 kLW
    replace gD7 := GQ.same gD7 kLW
    replace gD8 := GQ.same gD8 kLW
    replace gD9 := GQ.same gD9 kLW
    replace gDA := GQ.same gDA kLW
    replace eLX := kLW _ _ eLX
    replace gG8 := GQ.same gG8 kLW
    replace gG9 := GQ.same gG9 kLW
    replace gGA := GQ.same gGA kLW
    replace gGC := GQ.same gGC kLW
    clear kLW nLW
    repeat' (walk_at "jv")
    refine i_catL eLX eLW (by rw [sizeLine_eq]; show 12 + 9 ≤ _; omega) fun LZ nLZ => ?_
    have dLZ := f1.ne nLZ
    have bLZ := Ne.symm (ne_of_none eB nLZ)
    have kLZ := Same.upd_new (o := .lst ([.ref D1, .ref D2, .ref D3, .ref D4, .ref D5, .ref D6, .ref D7, .ref D8, .ref D9, .ref DA, .ref D1, .ref D2] ++ [.non, .ref G8, .ref R, .int 5, .str "", .bl true, .ref G9, .ref GA, .ref GC])) nLZ
    have eLZ : (upd X55 LZ (.lst ([.ref D1, .ref D2, .ref D3, .ref D4, .ref D5, .ref D6, .ref D7, .ref D8, .ref D9, .ref DA, .ref D1, .ref D2] ++ [.non, .ref G8, .ref R, .int 5, .str "", .bl true, .ref G9, .ref GA, .ref GC]))) LZ = some (.lst ([.ref D1, .ref D2, .ref D3, .ref D4, .ref D5, .ref D6, .ref D7, .ref D8, .ref D9, .ref DA, .ref D1, .ref D2] ++ [.non, .ref G8, .ref R, .int 5, .str "", .bl true, .ref G9, .ref GA, .ref GC])) := upd_same
    generalize upd X55 LZ (.lst ([.ref D1, .ref D2, .ref D3, .ref D4, .ref D5, .ref D6, .ref D7, .ref D8, .ref D9, .ref DA, .ref D1, .ref D2] ++ [.non, .ref G8, .ref R, .int 5, .str "", .bl true, .ref G9, .ref GA, .ref GC])) = X56 at *
    replace eB := kLZ _ _ eB
    replace hw := WF.same hw kLZ
    replace sT := TK.same (K := K) kLZ _ _ sT
    replace dR := Dp.same kLZ _ _ dR
    replace sS := TK.same (K := K) kLZ _ _ sS
    replace w1 := TK.same (K := K) kLZ _ _ w1
    replace sP := TK.same (K := K) kLZ _ _ sP
    replace sR := TK.same (K := K) kLZ _ _ sR
    replace kk := kk.trans (Ch.of_same kLZ)
    replace f1 := Fd.same f1 kLZ
    replace gRr := GQ.same gRr kLZ
    replace gRx := GQ.same gRx kLZ
    replace gX := GQs.same gX kLZ
    replace gN := GQs.same gN kLZ
    replace gD1 := GQ.same gD1 kLZ
    replace gD2 := GQ.same gD2 kLZ
    replace gD3 := GQ.same gD3 kLZ
    replace gD4 := GQ.same gD4 kLZ
    replace gD5 := GQ.same gD5 kLZ
    replace gD6 := GQ.same gD6 kLZ
    replace gD7 := GQ.same gD7 kLZ
    replace gD8 := GQ.same gD8 kLZ
    replace gD9 := GQ.same gD9 kLZ
    replace gDA := GQ.same gDA kLZ
    replace gG8 := GQ.same gG8 kLZ
    replace gG9 := GQ.same gG9 kLZ
    replace gGA := GQ.same gGA kLZ
    replace gGC := GQ.same gGC kLZ
    clear kLZ nLZ
    replace eLZ : X56 LZ = some (.lst ([.ref D1, .ref D2, .ref D3, .ref D4, .ref D5, .ref D6, .ref D7, .ref D8, .ref D9, .ref DA, .ref D1, .ref D2, .non, .ref G8, .ref R, .int 5, .str "", .bl true, .ref G9, .ref GA, .ref GC])) := eLZ
    clear eLX eLW
    repeat' (walk_at "jv")
    have hxLZ : ∀ x ∈ ([.ref D1, .ref D2, .ref D3, .ref D4, .ref D5, .ref D6, .ref D7, .ref D8, .ref D9, .ref DA, .ref D1, .ref D2, .non, .ref G8, .ref R, .int 5, .str "", .bl true, .ref G9, .ref GA, .ref GC] : List V), GQ K X56 a b 10 x := by
      refine fa_consQ (gD1.mono) ?_
      refine fa_consQ (gD2.mono) ?_
      refine fa_consQ (gD3.mono) ?_
      refine fa_consQ (gD4.mono) ?_
      refine fa_consQ (gD5.mono) ?_
      refine fa_consQ (gD6.mono) ?_
      refine fa_consQ (gD7.mono) ?_
      refine fa_consQ (gD8.mono) ?_
      refine fa_consQ (gD9.mono) ?_
      refine fa_consQ (gDA.mono) ?_
      refine fa_consQ (gD1.mono) ?_
      refine fa_consQ (gD2.mono) ?_
      refine fa_consQ (gq_none.mono) ?_
      refine fa_consQ (gG8.mono) ?_
      refine fa_consQ (gRr.mono) ?_
      refine fa_consQ ((gq_int _).mono) ?_
      refine fa_consQ ((gq_str (by decide +kernel) (by decide +kernel)).mono) ?_
      refine fa_consQ ((gq_bool _).mono) ?_
      refine fa_consQ (gG9.mono) ?_
      refine fa_consQ (gGA.mono) ?_
      refine fa_consQ (gGC.mono) ?_
      exact fa_nilQ
    refine ⟨a, LZ, c + 1 + 1 + 1, [.ref D1, .ref D2, .ref D3, .ref D4, .ref D5, .ref D6, .ref D7, .ref D8, .ref D9, .ref DA, .ref D1, .ref D2, .non, .ref G8, .ref R, .int 5, .str "", .bl true, .ref G9, .ref GA, .ref GC], rfl, f1, SqA.l (sq_lst eLZ), dLZ, by show 0 < 21; decide, by show 21 < 1000000; decide, by omega, fun yv Y9 hy f2 k2 => ?_⟩
    have gyv := hxLZ yv hy
    clear hy hxLZ eLZ dLZ bLZ
    replace eB := k2 _ _ dB eB
    replace hw := WF.ch hw k2 f1
    replace sT := TK.ch (K := K) k2 f1 _ _ sT
    replace dR := Dp.tk (TK.ch k2 f1) _ _ (show tupOnly (.tuple es) = true from g1) dR
    replace sS := TK.ch (K := K) k2 f1 _ _ sS
    replace w1 := TK.ch (K := K) k2 f1 _ _ w1
    replace sP := TK.ch (K := K) k2 f1 _ _ sP
    replace sR := TK.ch (K := K) k2 f1 _ _ sR
    replace kk := Ch.trans kk k2
    replace gRr := GQ.ch gRr k2 f1
    replace gRx := GQ.ch gRx k2 f1
    replace gX := GQs.ch gX k2 f1
    replace gN := GQs.ch gN k2 f1
    replace gD1 := GQ.ch gD1 k2 f1
    replace gD2 := GQ.ch gD2 k2 f1
    replace gD3 := GQ.ch gD3 k2 f1
    replace gD4 := GQ.ch gD4 k2 f1
    replace gD5 := GQ.ch gD5 k2 f1
    replace gD6 := GQ.ch gD6 k2 f1
    replace gD7 := GQ.ch gD7 k2 f1
    replace gD8 := GQ.ch gD8 k2 f1
    replace gD9 := GQ.ch gD9 k2 f1
    replace gDA := GQ.ch gDA k2 f1
    replace gG8 := GQ.ch gG8 k2 f1
    replace gG9 := GQ.ch gG9 k2 f1
    replace gGA := GQ.ch gGA k2 f1
    replace gGC := GQ.ch gGC k2 f1
    replace gyv := GQ.ch gyv k2 f1
    clear f1 k2
    have f1 := f2
    clear f2
    exact q _ _ gyv (f1.mono (by omega)) kk
end
end
section
open L2 PySem PySem.Spec PyProof.Rows
section
variable {base : Heap} {P : Program} {w : World} {K : PySem.W.Frag} {mg : Str → Option Value}
theorem ok_partingK (D : Dk K mg "parting" s_parting ["web", "order", "other"] ["other", "order", "web"]) (B : Bn mg) (C_need_two_orders : Cl P w K mg base 7 "need_two_orders" ["web", "order", "other"] (spNeedTwo K)) (C_arrows_of : Cl P w K mg base 2 "arrows_of" ["web", "order"] (spArrows K)) : ClK P w K mg base 8 "parting" ["web", "order", "other"] ["other", "order", "web"] (spParting K) := by
  refine D.cl sc_parting (fun vs H Q E h => ?_) (fun f cdv A outer s H vs Q E hr h => ?_)
  · obtain ⟨v, o, o2, qs, os, ps, rs, rfl, _⟩ := h
    rfl
  · obtain ⟨v, o, o2, qs, os, ps, rs, rfl, hd, W, ho, pm, ho2, pm2, q1, q2⟩ := h
    refine ⟨_, (pss_cons (ps_expr (pe_c C_need_two_orders hr (pa_cons (pv 0) (pa_cons (pv 1) (pa_cons (pv 2) pa_nil)))))
      (pss_cons (ps_setLc (i := 3) (own := [("pair", 8)]) rfl sc_parting.nd rfl rfl (sw_true rfl rfl rfl (by decide +kernel)) (kpi_tup (K := K) (pe_c C_arrows_of hr (pa_cons (pv 0) (pa_cons (pv 1) pa_nil)))) (blkOk_by (N := ["web", "order", "other", "unlike", "one", "two", "copies", "rules", "pair", "place"]) (sc := defScope s_parting) (by decide +kernel)) (fun _ _ _ _ _ => (pg_name (i := 8) sc_parting.nd rfl (by first | exact Or.inl rfl | exact Or.inr rfl))) (fun _ _ _ _ _ => pts_one (pt_cmpR (k_notInQ (K := K) hr.units) (pv 8) (pe_c C_arrows_of hr (pa_cons (pv 0) (pa_cons (pv 2) pa_nil))) (by rfl))) (fun _ _ _ _ _ => (pv 8)))
      (pss_cons (ps_if (pt_not (k_truth (K := K) (pv 3) (fun _ => rfl))) (pss_one (ps_ret pe_non)) pss_nil)
      (pss_cons (ps_asg (pe_ix (k_ixL (K := K)) (pv 3) pe_int (fun _ _ => rfl)) (kpg_tup (K := K) (n := 2) rfl (pgs_cons (pg_name (i := 4) sc_parting.nd rfl (by first | exact Or.inl rfl | exact Or.inr rfl)) (pgs_cons (pg_name (i := 5) sc_parting.nd rfl (by first | exact Or.inl rfl | exact Or.inr rfl)) pgs_nil))))
      (pss_cons (ps_set (i := 6) sc_parting.nd rfl (by first | exact Or.inl rfl | exact Or.inr rfl) (pe_disp (pps_cons (pv 4) (pe_tup (pa_cons pe_str (pa_cons (pv 5) pa_nil))) (pps_cons (pv 5) (pe_tup (pa_cons pe_str (pa_cons (pv 4) pa_nil))) pps_nil)) rfl rfl (List.cons_ne_nil _ _) (by decide)))
      (pss_cons (ps_set (i := 7) sc_parting.nd rfl (by first | exact Or.inl rfl | exact Or.inr rfl) (pe_callTy (k_tuple (K := K)) rfl B.tuple_ (by decide +kernel) (pa_cons (pe_lc (own := [("place", 9)]) rfl sc_parting.nd (kpi_tup (K := K) (pe_ix (k_ixT (K := K)) (pv 0) pe_int (fun _ _ => rfl))) (blkOk_by (N := ["web", "order", "other", "unlike", "one", "two", "copies", "rules", "pair", "place"]) (sc := defScope s_parting) (by decide +kernel)) (fun _ _ _ _ _ => (pg_name (i := 9) sc_parting.nd rfl (by first | exact Or.inl rfl | exact Or.inr rfl))) (fun _ _ _ _ _ => pts_nil) (fun _ _ _ _ _ => (pe_dget2 (hu1 hr) (pv 6) (pv 9) (pe_tup (pa_cons pe_str pa_nil)) ⟨rfl, rfl, rfl, rfl⟩))) pa_nil)))
      (pss_one (ps_ret (pe_tup (pa_cons (pv 7) (pa_cons (pe_callTy (k_tuple (K := K)) rfl B.tuple_ (by decide +kernel) (pa_cons (pe_lc (own := [("place", 9)]) rfl sc_parting.nd (kpi_tup (K := K) (pe_ix (k_ixT (K := K)) (pv 0) pe_int (fun _ _ => rfl))) (blkOk_by (N := ["web", "order", "other", "unlike", "one", "two", "copies", "rules", "pair", "place"]) (sc := defScope s_parting) (by decide +kernel)) (fun _ _ _ _ _ => (pg_name (i := 9) sc_parting.nd rfl (by first | exact Or.inl rfl | exact Or.inr rfl))) (fun _ _ _ _ _ => pts_nil) (fun _ _ _ _ _ => (pe_ifExp (pt_cmpR op_eq (pv 9) (pv 4) (nomark _)) pe_int pe_int))) pa_nil)) pa_nil))))))))))), ?_⟩
    repeat' (walk_at "jv")
    refine ⟨v, o, o2, qs, os, ps, rs, rfl, hd, W, ho.sq, pm, ho2.sq, pm2, fun H1 k1 => ?_⟩
    replace hd := Dp.same k1 _ _ hd
    replace ho := ho.same k1
    replace ho2 := ho2.same k1
    repeat' (walk_at "jv")
    refine ⟨v, o, qs, ps, rs, rfl, hd, W, ho, pm, fun T H2 k2 d2 => ?_⟩
    replace hd := Dp.same k2 _ _ hd
    replace ho2 := ho2.same k2
    replace k1 := k1.trans k2
    clear k2 ho
    obtain ⟨T', us, eT, sT, dT⟩ := tup_parts d2
    injection eT with eT
    subst eT
    have hul : us.length ≤ 14 := by
      rw [DpAll.len dT, List.length_map]
      unfold arr
      rw [List.length_map]
      exact W.le14
    have hua : us.length = (arr qs rs).length := by rw [DpAll.len dT, List.length_map]
    repeat' (walk_at "jv")
    refine c_tup us (fun D i H' => H2 D = none ∧ Same H2 H' ∧ LsD K H' D ((((arr qs rs).take i).filter fun p => decide (p ∉ arr os rs)).map roadD)) (fun D nD => ⟨nD, Same.upd_new nD, LsD.nil upd_same⟩) (fun D i H' _ h => TK.same h.2.1 _ _ sT) (fun D i x H' hx h => ?_) (fun D H3 h => ?_)
    · obtain ⟨nD, kD, lD⟩ := h
      obtain ⟨r, t, hr2, rfl, st⟩ := road_get (DpAll.same kD _ _ dT) hx
      have hrm := List.mem_of_getElem? hr2
      have hd3 := Dp.same kD _ _ hd
      have ho3 := ho2.same kD
      have nr := arr_names W _ r hrm
      repeat' (walk_at "jv")
      refine ⟨v, o2, os, ps, rs, rfl, hd3, W, ho3, pm2, fun T3 H4 k4 d4 => ?_⟩
      have lD2 := lD.same k4
      have st4 := TK.same (K := K) k4 _ _ st
      have dx : Dp K H4 (.ref t) (roadD r) := .tup st4 (.cons (.str _) (.cons (.str _) .nil))
      repeat' (walk_at "jv")
      refine ⟨roadD r, (arr os rs).map roadD, dx, .inr d4, SeqAt.canLay_of_shaped (road_shaped nr), SeqAt.canLay_of_shaped (rs_shaped (arr_names W _)), by show 0 + 1 ≤ 60; decide, ?_⟩
      rw [if_pos rfl, roads_any]
      have ef : (((arr qs rs).take (i + 1)).filter fun p => decide (p ∉ arr os rs)) = (((arr qs rs).take i).filter fun p => decide (p ∉ arr os rs)) ++ [r].filter (fun p => decide (p ∉ arr os rs)) := by rw [take_push hr2, List.filter_append]
      rw [ef]
      obtain ⟨us2, e2, dd2, t2⟩ := id lD2
      have hu2 : us2.length ≤ 14 := by
        have e9 := DpAll.len dd2
        rw [List.length_map] at e9
        have := List.length_filter_le (fun p => decide (p ∉ arr os rs)) ((arr qs rs).take i)
        rw [List.length_take] at this
        omega
      by_cases c : r ∈ arr os rs
      · rw [List.filter_cons_of_neg (by simpa using c), List.filter_nil, List.append_nil, decide_eq_true c]
        repeat' (first | (exfalso; rename_i hne; exact hne rfl) | walk_at "jv")
        exact ⟨nD, fun b o z => k4 _ _ (kD _ _ z), lD2⟩
      · rw [List.filter_cons_of_pos (by simpa using c), List.filter_nil, decide_eq_false c]
        repeat' (first | (exfalso; rename_i hne; exact hne rfl) | walk_at "jv")
        refine ⟨nD, fun b o z => ?_, ?_⟩
        · rw [upd_ne (fun w => by rw [w, nD] at z; cases z)]
          exact k4 _ _ (kD _ _ z)
        · rw [List.map_append]
          exact LsD.push e2 dd2 t2 dx rfl
    obtain ⟨nD, kD, lD⟩ := h
    rw [hua, List.take_of_length_le (Nat.le_refl _)] at lD
    replace lD : LsD K H3 D ((unlikeL qs os rs).map roadD) := lD
    replace hd := Dp.same kD _ _ hd
    replace k1 := k1.trans kD
    clear kD nD dT sT d2 ho2 hua H2
    obtain ⟨us3, e3, d3, t3⟩ := lD
    repeat' (walk_at "jv")
    refine i_truth ?_
    repeat' (walk_at "jv")
    refine ⟨_, .inl ⟨_, sq_lst e3, rfl⟩, ?_⟩
    cases hu : unlikeL qs os rs with
    | nil =>
      rw [hu] at d3
      cases d3
      repeat' (first | (exfalso; rename_i hne; exact hne rfl) | walk_at "jv")
      exact q1 hu _ k1
    | cons r0 l0 =>
      obtain ⟨x, y⟩ := r0
      obtain ⟨hx, hy, hxy, hrd, _, _⟩ := unlike_get W pm pm2 (p := (x, y)) (by rw [hu]; exact List.mem_cons_self)
      rw [hu] at d3
      cases d3 with
      | @cons u _ us4 _ dr d4 =>
      obtain ⟨t0, us5, rfl, st0, d5⟩ := tup_parts (ds := [.str x, .str y]) dr
      cases d5 with
      | cons g1 g2 =>
      cases g2 with
      | cons g3 g4 =>
      cases g4
      cases g1
      cases g3
      replace q := q2 x y l0 hu
      clear q1 q2 hul t3 d4 dr
      obtain ⟨wt, tp, trr, xs, rfl, s1, s2, s3, dd3, drr, dpl⟩ := web_parts hd
      clear dd3 drr dpl s3 hd
      refine ite_no (fun h => nomatch h) ?_
      repeat' (first | (exfalso; rename_i hne; exact hne rfl) | walk_at "jv")
      refine i_disp fun G nG => ?_
      have s13 := s1
      have s23 := s2
      have k13 := k1
      have kG := Same.upd_new (o := .dK []) nG
      have eG : (upd H3 G (.dK [])) G = some (.dK []) := upd_same
      generalize upd H3 G (.dK []) = H4 at *
      have nG3 := nG
      replace s1 := TK.same kG _ _ s1
      replace s2 := TK.same kG _ _ s2
      replace k1 := Same.trans k1 kG
      refine i_pairs ?_
      repeat' (walk_at "jv")
      intro c1 nc1
      have kc := Same.upd_new (o := .tup [.str "copy", .str y]) nc1
      have ec1 : (upd H4 c1 (.tup [.str "copy", .str y])) c1 = some (.tup [.str "copy", .str y]) := upd_same
      have nGc1 := ne_of_none eG nc1
      generalize upd H4 c1 (.tup [.str "copy", .str y]) = H5 at *
      replace s1 := TK.same kc _ _ s1
      replace s2 := TK.same kc _ _ s2
      replace k1 := Same.trans k1 kc
      replace eG := kc _ _ eG
      have kG5 := kG.trans kc
      clear kc nc1 kG
      refine i_pairs ?_
      repeat' (walk_at "jv")
      intro c2 nc2
      have kc := Same.upd_new (o := .tup [.str "copy", .str x]) nc2
      have ec2 : (upd H5 c2 (.tup [.str "copy", .str x])) c2 = some (.tup [.str "copy", .str x]) := upd_same
      have nGc2 := ne_of_none eG nc2
      generalize upd H5 c2 (.tup [.str "copy", .str x]) = H6 at *
      replace s1 := TK.same kc _ _ s1
      replace s2 := TK.same kc _ _ s2
      replace k1 := Same.trans k1 kc
      replace eG := kc _ _ eG
      replace ec1 := kc _ _ ec1
      replace kG5 := kG5.trans kc
      clear kc nc2
      refine i_pairs0 ?_
      refine ⟨eG, [(Sum.inr x, .ref c1), (Sum.inr y, .ref c2)], rfl, by show 2 ≤ 15; decide, ?_⟩
      have kD : Same H3 (upd H6 G (.dK (mergeK [] [(Sum.inr x, V.ref c1), (Sum.inr y, V.ref c2)]))) := fun b o z => (upd_ne (ne_of_none z nG3)).trans (kG5 _ _ z)
      have eG7 : (upd H6 G (.dK (mergeK [] [(Sum.inr x, V.ref c1), (Sum.inr y, V.ref c2)]))) G = some (.dK (mergeK [] [(Sum.inr x, V.ref c1), (Sum.inr y, V.ref c2)])) := upd_same
      have d1 : Dp K (upd H6 G (.dK (mergeK [] [(Sum.inr x, V.ref c1), (Sum.inr y, V.ref c2)]))) (.ref c1) (copyD y) := .tup (sq_tup ((upd_ne (Ne.symm nGc1)).trans ec1)) (.cons (.str _) (.cons (.str _) .nil))
      have d2 : Dp K (upd H6 G (.dK (mergeK [] [(Sum.inr x, V.ref c1), (Sum.inr y, V.ref c2)]))) (.ref c2) (copyD x) := .tup (sq_tup ((upd_ne (Ne.symm nGc2)).trans ec2)) (.cons (.str _) (.cons (.str _) .nil))
      have hval : ∀ z : Str, valV (mergeK [] [((Sum.inr x : L2.Key), V.ref c1), (Sum.inr y, V.ref c2)]) (Sum.inr z) = if z = x then some (V.ref c1) else if z = y then some (V.ref c2) else none := fun z => by
        show valV (putK (putK [] (Sum.inr x) (V.ref c1)) (Sum.inr y) (V.ref c2)) (Sum.inr z) = _
        rw [valV_put, valV_put]
        by_cases a : z = x
        · rw [if_pos a, a, if_neg (fun e : (Sum.inr x : L2.Key) = Sum.inr y => hxy (by injection e)), if_pos rfl]
        · rw [if_neg a]
          by_cases b : z = y
          · rw [if_pos b, b, if_pos rfl]
          · rw [if_neg b, if_neg (fun e : (Sum.inr z : L2.Key) = Sum.inr y => b (by injection e)), if_neg (fun e : (Sum.inr z : L2.Key) = Sum.inr x => a (by injection e))]
            rfl
      generalize upd H6 G (.dK (mergeK [] [(Sum.inr x, V.ref c1), (Sum.inr y, V.ref c2)])) = H7 at *
      replace s1 := TK.same (K := K) kD _ _ s13
      replace s2 := TK.same (K := K) kD _ _ s23
      replace k1 := k13.trans kD
      clear s13 s23 k13 kD eG kG5 ec1 ec2 nGc1 nGc2 nG3 nG st0 e3
      generalize mergeK [] [((Sum.inr x : L2.Key), V.ref c1), (Sum.inr y, V.ref c2)] = kvs at *
      have h8 := W.le8
      repeat' (walk_at "jv")
      refine c_tup (ps.map V.str) (fun D i H' => H7 D = none ∧ Same H7 H' ∧ LsD K H' D ((ps.take i).map (partR x y))) (fun D nD => ⟨nD, Same.upd_new nD, LsD.nil upd_same⟩) (fun D i H' _ h => TK.same h.2.1 _ _ s2) (fun D i u H' hu2 h => ?_) (fun D H8 h => ?_)
      · obtain ⟨nD, kD, lD⟩ := h
        rw [List.getElem?_map] at hu2
        cases hg : ps[i]? with
        | none => rw [hg] at hu2; cases hu2
        | some z =>
        rw [hg] at hu2
        obtain rfl : V.str z = u := Option.some.inj hu2
        have eGd := kD _ _ eG7
        repeat' (walk_at "jv")
        refine i_dGet2 ?_
        repeat' (walk_at "jv")
        refine ⟨G, rfl, .inl ⟨_, .inl eGd⟩, ?_⟩
        repeat' (walk_at "jv")
        intro pk npk
        have kp := Same.upd_new (o := .tup [.str "keep"]) npk
        have dk : Dp K (upd H' pk (.tup [.str "keep"])) (.ref pk) (.tuple [.str "keep"]) := .tup (sq_tup upd_same) (.cons (.str _) .nil)
        generalize upd H' pk (.tup [.str "keep"]) = H9 at *
        have k7 := kD.trans kp
        refine ⟨_, DGet.k (k := Sum.inr z) (kp _ _ eGd), ?_⟩
        rw [hval z]
        obtain ⟨us6, e6, d6, t6⟩ := lD.same kp
        have hu6 : us6.length ≤ 8 := by
          have e9 := DpAll.len d6
          rw [List.length_map, List.length_take] at e9
          omega
        have dz : ∃ b, ((if z = x then some (V.ref c1) else if z = y then some (V.ref c2) else none).getD (V.ref pk)) = V.ref b ∧ Dp K H9 (V.ref b) (partR x y z) := by
          unfold partR
          by_cases a : z = x
          · rw [if_pos a, if_pos a]
            exact ⟨c1, rfl, Dp.same k7 _ _ d1⟩
          · rw [if_neg a, if_neg a]
            by_cases b : z = y
            · rw [if_pos b, if_pos b]
              exact ⟨c2, rfl, Dp.same k7 _ _ d2⟩
            · rw [if_neg b, if_neg b]
              exact ⟨pk, rfl, dk⟩
        obtain ⟨b, eb, db⟩ := dz
        rw [eb]
        have onz : tupOnly (partR x y z) = true := by
          unfold partR
          split
          · rfl
          · split <;> rfl
        repeat' (walk_at "jv")
        refine ⟨nD, fun b o z => ?_, ?_⟩
        · rw [upd_ne (fun w => by rw [w, nD] at z; cases z)]
          exact k7 _ _ z
        · rw [take_push hg, List.map_append]
          exact LsD.push e6 d6 t6 db onz
      obtain ⟨nD, kD, lD⟩ := h
      rw [List.length_map, List.take_of_length_le (Nat.le_refl _)] at lD
      obtain ⟨us6, e6, d6, t6⟩ := lD
      have hu6 : us6.length ≤ 8 := by
        have e9 := DpAll.len d6
        rw [List.length_map] at e9
        omega
      replace s1 := TK.same kD _ _ s1
      replace s2 := TK.same kD _ _ s2
      replace k1 := Same.trans k1 kD
      clear kD nD d1 d2 eG7 hval H7
      repeat' (walk_at "jv")
      intro R nR
      have kR := Same.upd_new (o := .tup us6) nR
      have dR : Dp K (upd H8 R (.tup us6)) (.ref R) (.tuple (partRs ps x y)) := .tup (sq_tup upd_same) (DpAll.same kR _ _ d6)
      generalize upd H8 R (.tup us6) = H9 at *
      replace s1 := TK.same kR _ _ s1
      replace s2 := TK.same kR _ _ s2
      replace k1 := Same.trans k1 kR
      clear kR nR e6 d6 t6 H8
      repeat' (walk_at "jv")
      refine c_tup (ps.map V.str) (fun D i H' => H9 D = none ∧ Same H9 H' ∧ H' D = some (.lst (natsV ((ps.take i).map fun z => if z = x then 1 else 0)))) (fun D nD => ⟨nD, Same.upd_new nD, upd_same⟩) (fun D i H' _ h => TK.same h.2.1 _ _ s2) (fun D i u H' hu2 h => ?_) (fun D HA h => ?_)
      · obtain ⟨nD, kD, eD⟩ := h
        rw [List.getElem?_map] at hu2
        cases hg : ps[i]? with
        | none => rw [hg] at hu2; cases hu2
        | some z =>
        rw [hg] at hu2
        obtain rfl : V.str z = u := Option.some.inj hu2
        have hln : (natsV ((ps.take i).map fun z => if z = x then 1 else 0)).length ≤ 8 := by
          rw [nats_len, List.length_map, List.length_take]
          omega
        repeat' (walk_at "jv")
        · rename_i hc
          have hz : z = x := by simpa using hc
          refine ⟨nD, fun b o z => ?_, ?_⟩
          · rw [upd_ne (fun w => by rw [w, nD] at z; cases z)]
            exact kD _ _ z
          · rw [upd_same, take_push hg, List.map_append, List.map_cons, List.map_nil, if_pos hz]
            exact congrArg (fun l => some (HO.lst l)) (nats_snocP _ _).symm
        · rename_i hc
          have hz : ¬ z = x := by simpa using hc
          refine ⟨nD, fun b o z => ?_, ?_⟩
          · rw [upd_ne (fun w => by rw [w, nD] at z; cases z)]
            exact kD _ _ z
          · rw [upd_same, take_push hg, List.map_append, List.map_cons, List.map_nil, if_neg hz]
            exact congrArg (fun l => some (HO.lst l)) (nats_snocP _ _).symm
      obtain ⟨nD, kD, eD⟩ := h
      rw [List.length_map, List.take_of_length_le (Nat.le_refl _)] at eD
      have dR2 := Dp.same kD _ _ dR
      replace k1 := Same.trans k1 kD
      clear dR kD nD s1 s2 H9
      repeat' (walk_at "jv")
      intro S nS
      have kS := Same.upd_new (o := .tup (natsV (ps.map fun z => if z = x then 1 else 0))) nS
      have sS : SqT K (upd HA S (.tup (natsV (ps.map fun z => if z = x then 1 else 0)))) S (natsV (partS ps x)) := sq_tup upd_same
      generalize upd HA S (.tup (natsV (ps.map fun z => if z = x then 1 else 0))) = HB at *
      replace dR2 := Dp.same kS _ _ dR2
      replace k1 := k1.trans kS
      clear kS nS eD HA
      repeat' (walk_at "jv")
      intro TT nT
      have kT := Same.upd_new (o := .tup [.ref R, .ref S]) nT
      exact q TT R S _ (k1.trans kT) (sq_tup upd_same) (Dp.same kT _ _ dR2) (TK.same (K := K) kT _ _ sS)
theorem ok_parting_holdsK (D : Dk K mg "parting_holds" s_parting_holds ["web", "order", "other", "thing"] ["thing", "other", "order", "web"]) (B : Bn mg) (hp : ∃ T, mg "PARTING_SORTS" = some (.ref T) ∧ ∀ H, SqT K H T (partL.map V.str)) (C_need_two_orders : Cl P w K mg base 7 "need_two_orders" ["web", "order", "other"] (spNeedTwo K)) (C_is_hall : Cl P w K mg base 7 "is_hall" ["thing"] (spIsHallO K))
    (C_is_state : Cl P w K mg base 3 "is_state" ["hall", "thing"] (spIsStateO K)) (C_passed : Cl P w K mg base 5 "passed" ["hall", "order", "state"] (spPassed K)) : ClK P w K mg base 8 "parting_holds" ["web", "order", "other", "thing"] ["thing", "other", "order", "web"] (spPartHolds K) := by
  obtain ⟨T, c_PART, hT⟩ := hp
  refine D.cl sc_parting_holds (fun vs H Q E h => ?_) (fun f cdv A outer s H vs Q E hr h => ?_)
  · obtain ⟨a, v, o, o2, x, d, qs, os, ps, rs, rfl, _⟩ := h
    rfl
  · obtain ⟨a, v, o, o2, x, d, qs, os, ps, rs, rfl, hw, W, ho, pm, ho2, pm2, ox, ok, q⟩ := h
    refine ⟨_, (pss_cons (ps_expr (pe_c C_need_two_orders hr (pa_cons (pv 0) (pa_cons (pv 1) (pa_cons (pv 2) pa_nil)))))
      (pss_cons (ps_if (PW.pt (pw_or (pt_not (pt_val (pe_callB (k_isi (K := K)) rfl B.isinstance_ (by decide +kernel) (pa_cons (pv 3) (pa_cons (pe_ty (T := "tuple") B.tuple_ (by decide +kernel)) pa_nil))))) (pw_or1 (pt_cmpR op_ne (pe_callB (k_len (K := K)) rfl B.len_ (by decide +kernel) (pa_cons (pv 3) pa_nil)) pe_int (nomark _))))) (pss_one (ps_ret pe_bl)) pss_nil)
      (pss_cons (ps_asg (pv 3) (kpg_tup (K := K) (n := 2) rfl (pgs_cons (pg_name (i := 4) sc_parting_holds.nd rfl (by first | exact Or.inl rfl | exact Or.inr rfl)) (pgs_cons (pg_name (i := 5) sc_parting_holds.nd rfl (by first | exact Or.inl rfl | exact Or.inr rfl)) pgs_nil))))
      (pss_cons (ps_set (i := 6) sc_parting_holds.nd rfl (by first | exact Or.inl rfl | exact Or.inr rfl) (pe_tup (pa_cons pe_int (pa_cons (pv 0) (pa_cons (pv 4) pa_nil)))))
      (pss_cons (ps_if (PW.pt (pw_or (pt_not (pt_val (pe_c C_is_hall hr (pa_cons (pv 6) pa_nil)))) (pw_or1 (pt_not (pt_val (pe_c C_is_state hr (pa_cons (pv 6) (pa_cons (pv 5) pa_nil)))))))) (pss_one (ps_ret pe_bl)) pss_nil)
      (pss_cons (ps_if (pt_not (pt_val (pe_callB (k_all (K := K) rfl) rfl B.all_ (by decide +kernel) (pa_cons (pe_lc (own := [("rule", 7)]) rfl sc_parting_holds.nd (kpi_tup (K := K) (pv 4)) (blkOk_by (N := ["web", "order", "other", "thing", "rules", "state", "hall", "rule"]) (sc := defScope s_parting_holds) (by decide +kernel)) (fun _ _ _ _ _ => (pg_name (i := 7) sc_parting_holds.nd rfl (by first | exact Or.inl rfl | exact Or.inr rfl))) (fun _ _ _ _ _ => pts_nil) (fun _ _ _ _ _ => (pe_cmpR (k_inS (K := K)) (pe_ix (k_ixT (K := K)) (pv 7) pe_int (fun _ _ => rfl)) (gl_ref c_PART) (by rfl)))) pa_nil)))) (pss_one (ps_ret pe_bl)) pss_nil)
      (pss_one (ps_ret (pe_cmpR (k_neD (K := K) hr.units) (pe_c C_passed hr (pa_cons (pv 6) (pa_cons (pv 1) (pa_cons (pv 5) pa_nil)))) (pe_c C_passed hr (pa_cons (pv 6) (pa_cons (pv 2) (pa_cons (pv 5) pa_nil)))) (nomark _)))))))))), ?_⟩
    repeat' (walk_at "jv")
    refine ⟨v, o, o2, qs, os, ps, rs, rfl, hw.dp, W, ho, pm, ho2, pm2, fun H1 k1 => ?_⟩
    replace hw := hw.same k1
    replace ho := TK.same (K := K) k1 _ _ ho
    replace ho2 := TK.same (K := K) k1 _ _ ho2
    replace ox := ox.same k1
    repeat' (walk_at "jv")
    refine is_tupO ox ?_
    refine ⟨_, rfl, ?_⟩
    cases c : isT d with
    | false =>
      have e : partB ps rs qs os d = false := by cases d <;> first | rfl | cases c
      rw [e] at q
      repeat' (walk_at "jv")
      exact q _ k1
    | true =>
      obtain ⟨ds, rfl⟩ := isT_tup c
      cases ox with
      | @tup t xs ds sx al =>
      have hxl := ObAll.len al
      repeat' (walk_at "jv")
      · rw [part_not (by omega)] at q
        exact q _ k1
      · rename_i h2
        have h2' : ds.length = 2 := by omega
        cases al with
        | nil => exact absurd h2' (by decide)
        | @cons x1 _ d1 _ o1 al =>
        cases al with
        | nil => exact absurd h2' (by simp)
        | @cons x2 xs2 d2 ds2 o3 al =>
        obtain rfl : ds2 = [] := List.eq_nil_of_length_eq_zero (by rw [List.length_cons, List.length_cons] at h2'; omega)
        cases al
        have ok1 := ok_tup.mp ok d1 List.mem_cons_self
        replace q : ∀ H', Same H H' → Q (.bl ((hallB (.tuple [.int 2, webD ps rs, d1]) && statesB 2 ps.length d2) && ((prtOf d1).all sortB && !decide (dayN 2 ps rs (prtOf d1) (natsOf d2) qs = dayN 2 ps rs (prtOf d1) (natsOf d2) os)))) H' := q
        repeat' (walk_at "jv")
        intro p np
        have kp := Same.upd_new (o := .tup [V.int 2, v, x1]) np
        have sp0 : SqT K (upd H1 p (.tup [V.int 2, v, x1])) p [V.int 2, v, x1] := sq_tup upd_same
        replace hw := hw.same kp
        replace ho := TK.same (K := K) kp _ _ ho
        replace ho2 := TK.same (K := K) kp _ _ ho2
        replace o1 := o1.same kp
        replace o3 := o3.same kp
        replace k1 := k1.trans kp
        generalize upd H1 p (.tup [V.int 2, v, x1]) = H2 at *
        clear kp np sx hxl h2
        repeat' (walk_at "jv")
        refine ⟨a, .ref p, .tuple [.int 2, webD ps rs, d1], rfl, .tup sp0 (.cons (.int _) (.cons (Ob.of _ _ (web_only ps rs) hw.dp) (.cons o1 .nil))), ok_tup.mpr (fun d hd => ?_), fun H3 k3 => ?_⟩
        · rcases List.mem_cons.mp hd with rfl | hd
          · rfl
          · rcases List.mem_cons.mp hd with rfl | hd
            · exact okD_web W
            · rw [List.mem_singleton.mp hd]
              exact ok1
        replace sp0 := TK.same (K := K) k3 _ _ sp0
        replace hw := hw.same k3
        replace ho := TK.same (K := K) k3 _ _ ho
        replace ho2 := TK.same (K := K) k3 _ _ ho2
        replace o1 := o1.same k3
        replace o3 := o3.same k3
        replace k1 := k1.trans k3
        refine ⟨_, rfl, ?_⟩
        cases ch : hallB (.tuple [.int 2, webD ps rs, d1]) with
        | false =>
          rw [ch, Bool.false_and, Bool.false_and] at q
          repeat' (walk_at "jv")
          exact q _ k1
        | true =>
          obtain ⟨es, rfl, hH⟩ := hall_two ch
          rw [ch, Bool.true_and] at q
          repeat' (walk_at "jv")
          cases o1 with
          | @tup T1 us1 _ su au =>
          have dT : Dp K H3 (.ref T1) (.tuple es) := .tup su (ObAll.dp _ _ (hall_lay hH) au)
          have hf : HF K H3 (.ref p) 2 ps rs es := ⟨p, T1, v, rfl, sp0, hw, dT, hall_onlyE hH⟩
          have hul : us1.length ≤ 8 := by
            rw [ObAll.len au, hH.len]
            exact W.le8
          refine ⟨a, .ref p, x2, d2, 2, ps, rs, es, rfl, hf.dp, hH, o3, fun H4 k4 => ?_⟩
          replace hf := hf.same k4
          replace ho := TK.same (K := K) k4 _ _ ho
          replace ho2 := TK.same (K := K) k4 _ _ ho2
          replace su := TK.same (K := K) k4 _ _ su
          replace au := au.same k4
          replace o3 := o3.same k4
          replace k1 := k1.trans k4
          clear dT sp0 hw k4 k3
          cases cs : statesB 2 ps.length d2 with
          | false =>
            rw [cs, Bool.false_and] at q
            repeat' (walk_at "jv")
            exact q _ k1
          | true =>
          obtain ⟨t2, rfl, tl, tk⟩ := states_is cs
          rw [cs, Bool.true_and, nats_ints] at q
          replace q : ∀ H', Same H H' → Q (.bl (es.all sortB && !decide (dayN 2 ps rs es t2 qs = dayN 2 ps rs es t2 os))) H' := q
          repeat' (walk_at "jv")
          refine c_tup us1 (fun D i H' => H4 D = none ∧ Same H4 H' ∧ H' D = some (.lst (((es.take i).map sortB).map V.bl))) (fun D nD => ⟨nD, Same.upd_new nD, upd_same⟩) (fun D i H' _ h => TK.same h.2.1 _ _ su) (fun D i x H' hx h => ?_) (fun D H' h => ?_)
          · obtain ⟨nD, kD, eD⟩ := h
            have hi := (List.getElem?_eq_some_iff.mp hx).1
            obtain ⟨d, hd, od⟩ := ObAll.get (au.same kD) hx
            obtain ⟨z0, _, rr⟩ := hall_rule hH d (List.mem_of_getElem? hd)
            obtain ⟨z, r, rfl⟩ := rule_sort rr
            cases od with
            | @tup b xs3 _ sb3 ab3 =>
            cases ab3 with
            | @cons y0 ys _ _ oz ab4 =>
            cases oz
            have hb : SqA K H' T (partL.map V.str) := SqA.t (hT H')
            repeat' (walk_at "jv")
            refine ⟨nD, fun b' o' z' => ?_, ?_⟩
            · rw [upd_ne (fun w => by rw [w, nD] at z'; cases z')]
              exact kD _ _ z'
            · rw [upd_same, List.take_add_one, hd]
              simp only [List.map_append, Option.toList, List.map_cons, List.map_nil]
              rfl
          · obtain ⟨nD, kD, eD⟩ := h
            rw [ObAll.len au, List.take_length] at eD
            replace hf := hf.same kD
            replace ho := TK.same (K := K) kD _ _ ho
            replace ho2 := TK.same (K := K) kD _ _ ho2
            replace o3 := o3.same kD
            replace k1 := k1.trans kD
            repeat' (walk_at "jv")
            have ea : (List.map sortB es).all id = es.all sortB := by
              rw [List.all_map]
              rfl
            rw [ea]
            cases ca : es.all sortB with
            | false =>
              rw [ca, Bool.false_and] at q
              repeat' (walk_at "jv")
              exact q _ k1
            | true =>
              rw [ca, Bool.true_and] at q
              cases o3 with
              | @tup s1 us3 _ ss as =>
              have eN : us3 = natsV t2 := by
                have d3 : DpAll K H' us3 (t2.map fun n => PyData.int ((n : Nat) : Int)) := ObAll.dp _ _ (ints_data t2 fun n h => by have := tk n h; omega).1 as
                exact nats_of _ _ d3
              subst eN
              have mq : ∀ z ∈ qs, z ∈ ps := fun z hz => pm.mem_iff.mp hz
              have mo : ∀ z ∈ os, z ∈ ps := fun z hz => pm2.mem_iff.mp hz
              have t1' := day_lt (rs := rs) (ds := es) hH _ _ mq tk
              have t2' := day_lt (rs := rs) (ds := es) hH _ _ mo tk
              repeat' (walk_at "jv")
              refine ⟨.ref p, o, s1, qs, 2, ps, rs, es, t2, rfl, hf, hH, ho, pm, ss, tl, tk, fun p1 H8 k8 sp1 => ?_⟩
              replace hf := hf.same k8
              replace ho2 := TK.same (K := K) k8 _ _ ho2
              replace ss := TK.same (K := K) k8 _ _ ss
              replace k1 := k1.trans k8
              repeat' (walk_at "jv")
              refine ⟨.ref p, o2, s1, os, 2, ps, rs, es, t2, rfl, hf, hH, ho2, pm2, ss, tl, tk, fun p2 H9 k9 sp2 => ?_⟩
              replace sp1 := TK.same (K := K) k9 _ _ sp1
              replace k1 := k1.trans k9
              repeat' (walk_at "jv")
              refine i_neSt (fun n h => by have := t1' n h; omega) (fun n h => by have := t2' n h; omega) (st_dp sp1) (st_dp sp2) ?_
              exact q _ k1
end
end
section
open L2 PySem PySem.Spec PyProof.Rows
def toldD (ps : List Str) (rs : List (Str × Str)) (qs os : List Str) : PyData := match unlikeL qs os rs with
  | [] => .none
  | (x, y) :: _ => .tuple [.tuple (partRs ps x y), intsD (partS ps x)]
def spParting2 (K : PySem.W.Frag) : Sp := fun vs H Q _ => ∃ (v : V) (o o2 : Addr) (qs os ps : List Str) (rs : List (Str × Str)), vs = [v, .ref o, .ref o2] ∧ Dp K H v (webD ps rs) ∧ IsWeb ps rs ∧ FT H o (qs.map V.str) ∧ qs.Perm ps ∧ FT H o2 (os.map V.str) ∧ os.Perm ps ∧
  ∀ (u : V) (H' : Hp), Same H H' → Dp K H' u (toldD ps rs qs os) → Q u H'
theorem part_weak {K : PySem.W.Frag} : ∀ vs H Q E, spParting2 K vs H Q E → spParting K vs H Q E := fun vs H Q E h => by
  obtain ⟨v, o, o2, qs, os, ps, rs, rfl, hd, W, fo, pm, fo2, pm2, q⟩ := h
  refine ⟨v, o, o2, qs, os, ps, rs, rfl, hd, W, fo, pm, fo2, pm2, fun e H' k => q .non H' k ?_, fun x y l e T R S H' k sT dR sS => q (.ref T) H' k ?_⟩
  · unfold toldD
    rw [e]
    exact .non
  · unfold toldD
    rw [e]
    exact .tup sT (.cons dR (.cons (st_dp sS) .nil))
theorem ClK.imp {P : Program} {w : World} {K : PySem.W.Frag} {mg : Str → Option Value} {base : Heap} {k : Nat} {x : Str} {ps ks : List Str} {sp sp' : Sp} (C : ClK P w K mg base k x ps ks sp) (h : ∀ vs H Q E, sp' vs H Q E → sp vs H Q E) : ClK P w K mg base k x ps ks sp' := by
  obtain ⟨f, fd, F, hm, kp, b⟩ := C.ex
  exact ⟨f, fd, F.imp h, hm, kp, b⟩
section
variable {ps qs os : List Str} {rs : List (Str × Str)} {x y : Str}
theorem isRoad_back (h : isRoad rs x y = true) : isRoad rs y x = true := by
  unfold isRoad at h ⊢
  simp only [Bool.or_eq_true, decide_eq_true_eq] at h ⊢
  exact h.symm
theorem part_plain (W : IsWeb ps rs) (hx : x ∈ ps) (hy : y ∈ ps) (hr : isRoad rs x y = true) : plainsB ps rs (partRs ps x y) = true := by
  refine List.all_eq_true.mpr fun i hi => ?_
  have hip : i < ps.length := List.mem_range.mp hi
  have e : (partRs ps x y).getD i .none = partR x y (ps.getD i "") := by
    rw [List.getD_eq_getElem?_getD, List.getD_eq_getElem?_getD]
    show (((ps.map (partR x y))[i]?).getD _) = _
    rw [List.getElem?_map, List.getElem?_eq_getElem hip]
    rfl
  rw [e]
  generalize ps.getD i "" = z
  unfold partR
  split
  · rename_i h
    subst h
    show (decide (("copy" : Str) = "copy") && decide (y ∈ nearL ps rs z)) = true
    rw [decide_eq_true rfl, decide_eq_true (near_iff.mpr ⟨hy, hr⟩)]
    rfl
  · split
    · rename_i h
      subst h
      show (decide (("copy" : Str) = "copy") && decide (x ∈ nearL ps rs z)) = true
      rw [decide_eq_true rfl, decide_eq_true (near_iff.mpr ⟨hx, isRoad_back hr⟩)]
      rfl
    · exact (decide_eq_true rfl : decide (("keep" : Str) = "keep") = true)
theorem told_none (e : arr qs rs = arr os rs) : toldD ps rs qs os = .none := by
  unfold toldD
  rw [unlike_eq e]
theorem told_some (W : IsWeb ps rs) (pm : qs.Perm ps) (pm2 : os.Perm ps) (ne : arr qs rs ≠ arr os rs) : ∃ es t, toldD ps rs qs os = .tuple [.tuple es, intsD t] ∧ es.length = ps.length ∧ plainsB ps rs es = true ∧ t.length = ps.length ∧ (∀ n ∈ t, n < 2) ∧ partB ps rs qs os (toldD ps rs qs os) = true := by
  cases hu : unlikeL qs os rs with
  | nil => exact absurd (unlike_nil W hu) ne
  | cons p l =>
  obtain ⟨hx, hy, hxy, hrd, h1, h2⟩ := unlike_get W pm pm2 (p := p) (by rw [hu]; exact List.mem_cons_self)
  have pn := part_ne W pm pm2 hx hy hxy hrd h1 h2
  obtain ⟨x, y⟩ := p
  have e : toldD ps rs qs os = .tuple [.tuple (partRs ps x y), intsD (partS ps x)] := by
    unfold toldD
    rw [hu]
  have hp := part_plain W hx hy hrd
  have hl : (partRs ps x y).length = ps.length := List.length_map ..
  refine ⟨partRs ps x y, partS ps x, e, hl, hp, partS_len, partS_lt, ?_⟩
  rw [e]
  show partB ps rs qs os (.tuple [.tuple (partRs ps x y), .tuple ((partS ps x).map iD)]) = true
  rw [part_parts W, hp, decide_eq_true hl, List.length_map, partS_len, decide_eq_true rfl]
  have e2 : ((partS ps x).map iD).all (stB 2) = true := List.all_eq_true.mpr fun d hd => by
    obtain ⟨n, hn, rfl⟩ := List.mem_map.mp hd
    exact is_st (partS_lt n hn)
  have e3 : ((partS ps x).map iD).map kOf = partS ps x := nats_ints _
  rw [e2, e3, decide_eq_false pn]
  rfl
theorem plain_nz {b : Bool} (W : IsWeb ps rs) {z : Str} (hz : z ∈ ps) {d : PyData} (h : plainB (nearL ps rs z) d = true) : Nz b 3 800 d :=
  nz_rule (plain_rule h).1 (by decide) (near_len W hz) (Nat.le_trans (Nat.pow_le_pow_right (by decide) (show (nearL ps rs z).length + 1 ≤ 8 by have := near_len W hz; omega)) (by decide)) fun y hy => W.names.2 y (List.mem_filter.mp hy).1
theorem told_sh (W : IsWeb ps rs) (pm : qs.Perm ps) (pm2 : os.Perm ps) : ShY (toldD ps rs qs os) := by
  by_cases e : arr qs rs = arr os rs
  · rw [told_none e]
    exact .inl sh_none
  · obtain ⟨es, t, e1, hl, hp, tl, tk, _⟩ := told_some W pm pm2 e
    rw [e1]
    have h8 := W.le8
    have g1 : Nz true 4 6408 (.tuple es) := (nzs_of (b := true) (m := 3) (n := 800) fun d hd => by
      obtain ⟨z, hz, h⟩ := plains_get hp hl d hd
      exact plain_nz W hz h).tup.mono (by decide) (by rw [hl]; omega)
    have g2 : Nz true 4 24 (intsD t) := (nz_ints (b := true) (t := t) fun n hn => by have := tk n hn; omega).tup.mono (by decide) (by omega)
    exact ((Nzs.cons g1 (Nzs.cons g2 .nil)).tup.all (by decide) (by decide) 0).top
theorem told_th {K : PySem.W.Frag} {H : Hp} {u : V} (W : IsWeb ps rs) (pm : qs.Perm ps) (pm2 : os.Perm ps) (d : Dp K H u (toldD ps rs qs os)) : (arr qs rs = arr os rs ∧ u = .non) ∨ (arr qs rs ≠ arr os rs ∧ (∃ p, u = .ref p) ∧ ThP K H ps rs u) := by
  by_cases e : arr qs rs = arr os rs
  · rw [told_none e] at d
    cases d
    exact .inl ⟨e, rfl⟩
  · obtain ⟨es, t, e1, hl, hp, tl, tk, _⟩ := told_some W pm pm2 e
    rw [e1] at d
    obtain ⟨T, us, rfl, sT, dd⟩ := tup_parts d
    cases dd with
    | cons d1 dd =>
    cases dd with
    | cons d2 dd =>
    cases dd
    obtain ⟨R, xs, rfl, _, _⟩ := tup_parts d1
    obtain ⟨S, ys, rfl, sS, dS⟩ := tup_parts d2
    obtain rfl : ys = natsV t := nats_of _ _ dS
    exact .inr ⟨e, ⟨T, rfl⟩, T, R, S, es, t, rfl, sT, d1, hl, hp, sS, tl, tk⟩
theorem told_gq {K : PySem.W.Frag} {H : Hp} {a b : Addr} {u : V} (W : IsWeb ps rs) (pm : qs.Perm ps) (pm2 : os.Perm ps) (d : Dp K H u (toldD ps rs qs os)) : GQ K H a b 10 u := by
  rcases told_th W pm pm2 d with ⟨_, rfl⟩ | ⟨_, _, h⟩
  · exact gq_none.mono
  · exact (h.gq W).mono
theorem told_only (W : IsWeb ps rs) (pm : qs.Perm ps) (pm2 : os.Perm ps) : tupOnly (toldD ps rs qs os) = true := by
  by_cases e : arr qs rs = arr os rs
  · rw [told_none e]
    rfl
  · obtain ⟨es, t, e1, hl, hp, tl, tk, _⟩ := told_some W pm pm2 e
    rw [e1]
    have h1 := (plains_good W hp hl).1
    have h2 : ∀ l : List Nat, tupOnlyAll (l.map fun n => PyData.int ((n : Nat) : Int)) = true := fun l => by
      induction l with
      | nil => rfl
      | cons n l ih => exact ih
    show (tupOnlyAll es && (tupOnlyAll (t.map fun n => PyData.int ((n : Nat) : Int)) && true)) = true
    rw [h1, h2]
    rfl
end
end
section
open L2 PySem PySem.Spec PyProof.Rows
abbrev s_law : Stmt := topS 76
theorem sc_law : FnScope ["_law_script", "_law_k", "_law_feed_here", "_law_web_here", "_law_order_here", "_law_turn", "_law_other", "_law_told", "_law_is_like", "_law_again", "_law_things", "_law_thing", "_law_due"] ["_law_script"] (defScope s_law) := ⟨rfl, rfl, rfl, by decide +kernel, rfl, by decide +kernel, by decide +kernel⟩
def spLaw (K : PySem.W.Frag) : Sp := fun vs H Q _ => ∃ (a : Addr) (ns : List Int), vs = [.ref a] ∧ SqL K H a (ns.map V.int) ∧ ns.length ≤ 63 ∧ ∀ H', Q (.bl true) H'
theorem join_e {A : TE} {σ : L2.St} {H : Hp} {Q : VK} (Pv : V → Hp → Prop) (h1 : ∀ Q' : VK, (∀ x H', Pv x H' → Q' x H') → A σ H Q') (h2 : ∀ x H', Pv x H' → Q x H') : A σ H Q := h1 Q h2
theorem told_shp {ps qs os : List Str} {rs : List (Str × Str)} (W : IsWeb ps rs) (pm : qs.Perm ps) (pm2 : os.Perm ps) : shpB (toldD ps rs qs os) = true := by
  by_cases e : arr qs rs = arr os rs
  · rw [told_none e]
    rfl
  · obtain ⟨es, t, e1, hl, hp, tl, tk, _⟩ := told_some W pm pm2 e
    rw [e1]
    obtain ⟨_, _, l2, l3⟩ := plains_good W hp hl
    show es.all SeqAt.shaped = true
    rw [List.all_eq_true]
    intro d hd
    unfold SeqAt.shaped
    rw [lay_mem l2 d hd, decide_eq_true (depth_mem (n := 64) (by omega) d hd)]
    rfl
theorem join_t {A : TT} {σ : L2.St} {H : Hp} {Q : Bool → Hp → Prop} (Pv : Bool → Hp → Prop) (h1 : ∀ Q' : Bool → Hp → Prop, (∀ x H', Pv x H' → Q' x H') → A σ H Q') (h2 : ∀ x H', Pv x H' → Q x H') : A σ H Q := h1 Q h2
section
variable {base : Heap} {P : Program} {w : World} {K : PySem.W.Frag} {mg : Str → Option Value}
theorem ok_law {fL : Addr} {fdL : FuncData} (F : Fun K "law" "law" s_law fL fdL) (B : Bn mg) (C__law_feed : Cl P w K mg base 1 "_law_feed" ["_law_script", "_law_k"] (spFeed K)) (C__law_any_web : Cl P w K mg base 5 "_law_any_web" ["_law_feed_here", "_law_most"] (spAnyWebF K)) (C__law_order : Cl P w K mg base 3 "_law_order" ["_law_feed_here", "_law_web_here"] (spOrderF K)) (C__law_one : Cl P w K mg base 2 "_law_one" ["_law_feed_here", "_law_things"] (spOne K))
    (C__law_second : Cl P w K mg base 4 "_law_second" ["_law_feed_here", "_law_web_here", "_law_order_here"] (spSecond K)) (C_parting : Cl P w K mg base 8 "parting" ["web", "order", "other"] (spParting K)) (K_parting : ClK P w K mg base 8 "parting" ["web", "order", "other"] ["other", "order", "web"] (spParting K)) (C__law_arrows : Cl P w K mg base 1 "_law_arrows" ["_law_web_here", "_law_order_here"] (spArrows K))
    (C__law_parts : Cl P w K mg base 5 "_law_parts" ["_law_web_here", "_law_order_here", "_law_other", "_law_thing"] (spPartsO K)) (C__law_drawn : Cl P w K mg base 3 "_law_drawn" ["_law_feed_here", "_law_web_here"] (spDrawnP K)) (C__law_bent : Cl P w K mg base 3 "_law_bent" ["_law_feed_here", "_law_web_here", "_law_thing"] (spBentP K))
    (C_parting_holds : Cl P w K mg base 8 "parting_holds" ["web", "order", "other", "thing"] (spPartHolds K)) (K_parting_holds : ClK P w K mg base 8 "parting_holds" ["web", "order", "other", "thing"] ["thing", "other", "order", "web"] (spPartHolds K)) : FnG P w K mg base 9 fL fdL ["_law_script"] (spLaw K) := by
  replace C_parting : Cl P w K mg base 8 "parting" ["web", "order", "other"] (spParting2 K) := C_parting.imp part_weak
  replace K_parting : ClK P w K mg base 8 "parting" ["web", "order", "other"] ["other", "order", "web"] (spParting2 K) := K_parting.imp part_weak
  refine okG F sc_law (fun vs H Q E h => ?_) (fun cdv A outer s H vs Q E hgd hr h => ?_)
  · obtain ⟨a, ns, rfl, _⟩ := h
    rfl
  · obtain ⟨a, ns, rfl, ha, hl, q⟩ := h
    refine ⟨_, (pss_cons (ps_for PassesOwn.never rfl (pi_range1 rfl B.range_ (pa_cons (pe_callB (j_max rfl) rfl B.max_ (by decide +kernel) (pa_cons pe_int (pa_cons (pe_callB (j_min rfl) rfl B.min_ (by decide +kernel) (pa_cons (pe_callB (k_len (K := K)) rfl B.len_ (by decide +kernel) (pa_cons (pv 0) pa_nil)) (pa_cons pe_int pa_nil))) pa_nil))) pa_nil)) (pg_name (i := 1) sc_law.nd rfl (by first | exact Or.inl rfl | exact Or.inr rfl)) (pss_cons (ps_set (i := 2) sc_law.nd rfl (by first | exact Or.inl rfl | exact Or.inr rfl) (pe_c C__law_feed hr (pa_cons (pv 0) (pa_cons (pv 1) pa_nil))))
      (pss_cons (ps_set (i := 3) sc_law.nd rfl (by first | exact Or.inl rfl | exact Or.inr rfl) (pe_c C__law_any_web hr (pa_cons (pv 2) (pa_cons pe_int pa_nil))))
      (pss_cons (ps_set (i := 4) sc_law.nd rfl (by first | exact Or.inl rfl | exact Or.inr rfl) (pe_c C__law_order hr (pa_cons (pv 2) (pa_cons (pv 3) pa_nil))))
      (pss_one (ps_for PassesOwn.never rfl (pi_range1 rfl B.range_ (pa_cons pe_int pa_nil)) (pg_name (i := 5) sc_law.nd rfl (by first | exact Or.inl rfl | exact Or.inr rfl)) (pss_cons (ps_set (i := 6) sc_law.nd rfl (by first | exact Or.inl rfl | exact Or.inr rfl) (pe_c C__law_second hr (pa_cons (pv 2) (pa_cons (pv 3) (pa_cons (pv 4) pa_nil)))))
      (pss_cons (ps_par (i := 7) (j := 8) rfl sc_law.nd rfl rfl (by decide) rfl rfl (pa_cons (pe_c C_parting hr (pa_cons (pv 3) (pa_cons (pv 4) (pa_cons (pv 6) pa_nil)))) (pa_cons (pe_cmpR (k_eqD (K := K) hr.units) (pe_c C__law_arrows hr (pa_cons (pv 3) (pa_cons (pv 4) pa_nil))) (pe_c C__law_arrows hr (pa_cons (pv 3) (pa_cons (pv 6) pa_nil))) (nomark _)) pa_nil)) (by rfl))
      (pss_cons (ps_if (PW.pt (pw_or (pt_cmpR op_ne (pe_cmpR op_isN (pv 7) pe_non (nomark _)) (pv 8) (nomark _)) (pw_or1 (PW.pt (pw_and (pt_cmpR op_notN (pv 7) pe_non (nomark _)) (pw_and1 (pt_not (pt_val (pe_c C__law_parts hr (pa_cons (pv 3) (pa_cons (pv 4) (pa_cons (pv 6) (pa_cons (pv 7) pa_nil))))))))))))) (pss_one (ps_ret pe_bl)) pss_nil)
      (pss_cons (ps_if (pt_cmpR op_ne (pe_callB (k_showY (K := K) hgd hr.units) rfl B.repr_ (by decide +kernel) (pa_cons (pe_ck K_parting hr (pk_cons (pv 6) (pk_cons (pv 4) (pk_cons (pv 3) pk_nil)))) pa_nil)) (pe_callB (k_showY (K := K) hgd hr.units) rfl B.repr_ (by decide +kernel) (pa_cons (pv 7) pa_nil)) (nomark _)) (pss_one (ps_ret pe_bl)) pss_nil)
      (pss_cons (ps_set (i := 10) sc_law.nd rfl (by first | exact Or.inl rfl | exact Or.inr rfl) (pe_op op_cat (pe_lc (own := [("_law_again", 9)]) rfl sc_law.nd (pi_range1 rfl B.range_ (pa_cons pe_int pa_nil)) (blkOk_by (N := ["_law_script", "_law_k", "_law_feed_here", "_law_web_here", "_law_order_here", "_law_turn", "_law_other", "_law_told", "_law_is_like", "_law_again", "_law_things", "_law_thing", "_law_due"]) (sc := defScope s_law) (by decide +kernel)) (fun _ _ _ _ _ => (pg_name (i := 9) sc_law.nd rfl (by first | exact Or.inl rfl | exact Or.inr rfl))) (fun _ _ _ _ _ => pts_nil) (fun _ _ _ _ _ => (pe_c C__law_drawn hr (pa_cons (pv 2) (pa_cons (pv 3) pa_nil))))) (pe_lst (pa_cons (pv 7) pa_nil))))
      (pss_cons (ps_for PassesOwn.never rfl (pi_range1 rfl B.range_ (pa_cons pe_int pa_nil)) (pg_name (i := 9) sc_law.nd rfl (by first | exact Or.inl rfl | exact Or.inr rfl)) (pss_one (ps_expr (pe_bm PySem.F.plainAttrs_list PySem.F.slot_list_append PySem.F.type_list_append mt_append (pv 10) (pa_cons (pe_c C__law_bent hr (pa_cons (pv 2) (pa_cons (pv 3) (pa_cons (pe_ifExp (PW.pt (pw_and (pt_cmpR op_notN (pv 7) pe_non (nomark _)) (pw_and1 (pt_cmpR op_lt (pv 9) pe_int (nomark _))))) (pv 7) (pe_c C__law_one hr (pa_cons (pv 2) (pa_cons (pe_slice (k_slL (K := K)) (pv 10) po_none (po_some pe_int)) pa_nil)))) pa_nil)))) pa_nil)))))
      (pss_one (ps_for PassesOwn.never rfl (kpi_list (K := K) (pv 10)) (pg_name (i := 11) sc_law.nd rfl (by first | exact Or.inl rfl | exact Or.inr rfl)) (pss_cons (ps_set (i := 12) sc_law.nd rfl (by first | exact Or.inl rfl | exact Or.inr rfl) (pe_callB (k_reprB) rfl B.repr_ (by decide +kernel) (pa_cons (pe_c C__law_parts hr (pa_cons (pv 3) (pa_cons (pv 4) (pa_cons (pv 6) (pa_cons (pv 11) pa_nil))))) pa_nil)))
      (pss_one (ps_if (PW.pt (pw_or (pt_cmpR op_ne (pe_callB (k_reprB) rfl B.repr_ (by decide +kernel) (pa_cons (pe_c C_parting_holds hr (pa_cons (pv 3) (pa_cons (pv 4) (pa_cons (pv 6) (pa_cons (pv 11) pa_nil))))) pa_nil)) (pv 12) (nomark _)) (pw_or1 (pt_cmpR op_ne (pe_callB (k_reprB) rfl B.repr_ (by decide +kernel) (pa_cons (pe_ck K_parting_holds hr (pk_cons (pv 11) (pk_cons (pv 6) (pk_cons (pv 4) (pk_cons (pv 3) pk_nil))))) pa_nil)) (pv 12) (nomark _))))) (pss_one (ps_ret pe_bl)) pss_nil)))))))))))))))))
      (pss_one (ps_ret pe_bl))), ?_⟩
    repeat' (walk_at "jv")
    have hm : (max (1 : Int) (min (((ns.map V.int).length : Nat) : Int) 3)).toNat ≤ 3 := by omega
    generalize (max (1 : Int) (min (((ns.map V.int).length : Nat) : Int) 3)).toNat = mm at hm ⊢
    refine f_range (fun i σ H' => ∃ y1 y2 y3 y4 y5 y6 y7 y8 y9 y10 y11 y12, σ = [some (.ref a), y1, y2, y3, y4, y5, y6, y7, y8, y9, y10, y11, y12] ∧ SqL K H' a (ns.map V.int)) ⟨none, none, none, none, none, none, none, none, none, none, none, none, rfl, ha⟩ (fun i σ H0 hi h => ?_) (fun σ H0 h => ?_)
    · obtain ⟨y1, y2, y3, y4, y5, y6, y7, y8, y9, y10, y11, y12, rfl, ha0⟩ := h
      have e0 : (0 : Int) + (i : Int) = (i : Int) := by omega
      rw [e0]
      clear q ha
      repeat' (walk_at "jv")
      refine ⟨a, ns, (i : Int), rfl, ha0, hl, by omega, by omega, fun q1 H1 nq f1 s1 => ?_⟩
      have k1 : Ch q1 H0 H1 := Ch.of_same s1
      clear s1
      repeat' (walk_at "jv")
      refine ⟨q1, 8, _, rfl, f1, by decide, by decide, by omega, fun v ps rs H2 W hb hw f2 k2 => ?_⟩
      replace k1 := k1.trans k2
      clear f1 k2 H1
      have h8 := W.le8
      repeat' (walk_at "jv")
      refine ⟨q1, v, ps, rs, _, rfl, f2, hw.dp, h8, by omega, fun o qs H3 pm fo f3 k3 => ?_⟩
      replace hw := hw.ch k3 f2
      replace k1 := k1.trans k3
      clear f2 k3 H2
      repeat' (walk_at "jv")
      refine f_range (fun j σ H' => ∃ y5 y6 y7 y8 y9 y10 y11 y12, σ = [some (.ref a), some (.int i), some (.ref q1), some v, some (.ref o), y5, y6, y7, y8, y9, y10, y11, y12] ∧ WF K H' v ps rs ∧ FT H' o (qs.map V.str) ∧ Ch q1 H0 H' ∧ Fd H' q1 (100000 + 100000 * (j : Int))) ⟨_, _, _, _, _, _, _, _, rfl, hw, fo, k1, f3.mono (by omega)⟩ (fun j σ H4 hj h => ?_) (fun σ H4 h => ?_)
      · clear hw fo k1 f3
        obtain ⟨y5, y6, y7, y8, y9, y10, y11, y12, rfl, hw, fo, k1, f4⟩ := h
        repeat' (walk_at "jv")
        refine ⟨q1, v, o, qs, ps, rs, _, rfl, f4, by omega, hw.dp, W, fo, pm, fun A r H5 pr fA f5 k5 => ?_⟩
        replace hw := hw.ch k5 f4
        replace fo := fo.ch k5 f4
        replace k1 := k1.trans k5
        clear f4 k5 H4
        repeat' (walk_at "jv")
        refine ⟨v, o, A, qs, r, ps, rs, rfl, hw.dp, W, fo, pm, fA, pr, fun u H6 k6 du => ?_⟩
        replace hw := WF.same hw k6
        replace fo := FT.same fo k6
        replace fA := FT.same fA k6
        replace f5 := Fd.same f5 k6
        replace k1 := Ch.trans k1 (Ch.of_same k6)
        clear k6 H5
        repeat' (walk_at "jv")
        refine ⟨v, o, qs, ps, rs, rfl, hw.dp, W, fo, pm, fun T7 H7 k7 d7 => ?_⟩
        replace hw := WF.same hw k7
        replace fo := FT.same fo k7
        replace fA := FT.same fA k7
        replace f5 := Fd.same f5 k7
        replace k1 := Ch.trans k1 (Ch.of_same k7)
        replace du := Dp.same k7 _ _ du
        clear k7 H6
        repeat' (walk_at "jv")
        refine ⟨v, A, r, ps, rs, rfl, hw.dp, W, fA, pr, fun T8 H8 k8 d8 => ?_⟩
        replace hw := WF.same hw k8
        replace fo := FT.same fo k8
        replace fA := FT.same fA k8
        replace f5 := Fd.same f5 k8
        replace k1 := Ch.trans k1 (Ch.of_same k8)
        replace du := Dp.same k8 _ _ du
        replace d7 := Dp.same k8 _ _ d7
        clear k8 H7
        repeat' (walk_at "jv")
        refine ⟨_, _, d7, d8, rs_shaped (arr_names W _), rs_shaped (arr_names W _), ?_⟩
        rw [rs_eqd (arr_names W _) (arr_names W _)]
        clear d7 d8
        iterate 6 (walk_at "jv")
        refine join_e (fun x H' => x = .bl false ∧ Same H8 H') (fun Q' hq => ?_) (fun x H9 hx => ?_)
        · rcases told_th W pm pr du with ⟨e, rfl⟩ | ⟨ne, ⟨p, rfl⟩, th⟩
          · rw [decide_eq_true e]
            repeat' (walk_at "jv")
            refine ⟨rfl, ?_⟩
            refine i_var rfl ?_
            refine i_neB ?_
            exact hq _ _ ⟨by simp, Same.refl _⟩
          · rw [decide_eq_false ne]
            repeat' (walk_at "jv")
            refine ⟨rfl, ?_⟩
            refine i_var rfl ?_
            refine i_neB ?_
            exact hq _ _ ⟨by simp, Same.refl _⟩
        obtain ⟨rfl, k9⟩ := hx
        replace hw := WF.same hw k9
        replace fo := FT.same fo k9
        replace fA := FT.same fA k9
        replace f5 := Fd.same f5 k9
        replace k1 := Ch.trans k1 (Ch.of_same k9)
        replace du := Dp.same k9 _ _ du
        clear k9 H8
        refine ⟨_, rfl, ?_⟩
        iterate 1 (walk_at "jv")
        refine join_t (fun x H' => x = false ∧ Same H9 H') (fun Q' hq => ?_) (fun x H10 hx => ?_)
        · rcases told_th W pm pr du with ⟨e, rfl⟩ | ⟨ne, ⟨p, rfl⟩, th⟩
          · repeat' (walk_at "jv")
            refine ⟨rfl, ?_⟩
            refine ⟨false, by simp, ?_⟩
            exact hq _ _ ⟨rfl, Same.refl _⟩
          · obtain ⟨_, _, _, _, _, _, _, pb⟩ := told_some W pm pr ne
            repeat' (walk_at "jv")
            refine ⟨rfl, ?_⟩
            refine ⟨true, by simp, ?_⟩
            refine i_iteT ?_
            repeat' (walk_at "jv")
            refine ⟨q1, v, o, A, .ref p, _, qs, r, ps, rs, rfl, hw, W, fo.sq, pm, fA.sq, pr, Ob.of _ _ (told_only W pm pr) du, told_shp W pm pr, fun H' k => ?_⟩
            rw [pb]
            repeat' (walk_at "jv")
            exact hq _ _ ⟨rfl, k⟩
        obtain ⟨rfl, k10⟩ := hx
        replace hw := WF.same hw k10
        replace fo := FT.same fo k10
        replace fA := FT.same fA k10
        replace f5 := Fd.same f5 k10
        replace k1 := Ch.trans k1 (Ch.of_same k10)
        replace du := Dp.same k10 _ _ du
        clear k10 H9
        repeat' (walk_at "jv")
        refine i_ck ?_
        repeat' (walk_at "jv")
        refine ⟨v, o, A, qs, r, ps, rs, rfl, hw.dp, W, fo, pm, fA, pr, fun u2 H11 k11 du2 => ?_⟩
        replace hw := WF.same hw k11
        replace fo := FT.same fo k11
        replace fA := FT.same fA k11
        replace f5 := Fd.same f5 k11
        replace k1 := Ch.trans k1 (Ch.of_same k11)
        replace du := Dp.same k11 _ _ du
        clear k11 H10
        have wT := told_only W pm pr
        have shT := told_sh W pm pr
        repeat' (walk_at "jv")
        refine ⟨u2, _, q1, rfl, Ob.of _ _ wT du2, shT, ?_⟩
        repeat' (walk_at "jv")
        refine ⟨u, _, q1, rfl, Ob.of _ _ wT du, shT, ?_⟩
        repeat' (walk_at "jv")
        · rename_i hne
          exact absurd rfl hne
        clear du2 shT
        refine c_range (fun D m H' => ∃ (xs : List V) (c' : Int), H' D = some (.lst xs) ∧ D ≠ q1 ∧ H11 D = none ∧ xs.length = m ∧ (∀ x ∈ xs, ThP K H' ps rs x) ∧ Fd H' q1 c' ∧ c' ≤ 105000 + 100000 * (j : Int) + 100 * (m : Int) ∧ Ch q1 H11 H') (fun D nD => ⟨[], _, upd_same, f5.ne nD, nD, rfl, (fun x h => nomatch h), f5.upd (q := D) (o := .lst []) (Ne.symm (f5.ne nD)), by omega, Ch.upd_new nD⟩) (fun D m H' hm h => ?_) (fun D HD h => ?_)
        · obtain ⟨xs, c', eD, dD, nD, xl, gx, fX, hc', cX⟩ := h
          repeat' (walk_at "jv")
          refine ⟨q1, v, c', ps, rs, rfl, fX, by omega, hw.ch cX f5, W, fun T R S es t c2 HN fN cN kN sT dR el pl sS tl tk => ?_⟩
          have eD2 := kN _ _ dD eD
          have tkD : TK K HN (upd HN D (.lst (xs ++ [V.ref T]))) := TK.lst eD2
          have gT : ThP K HN ps rs (.ref T) := ⟨T, R, S, es, t, rfl, sT, dR, el, pl, sS, tl, tk⟩
          refine i_lcE eD2 (by rw [xl, sizeLine_eq]; omega) ?_
          refine ⟨xs ++ [V.ref T], c2, upd_same, dD, nD, by rw [List.length_append, xl]; rfl, fun x hx => ?_, fN.upd (Ne.symm dD), by omega, (cX.trans kN).upd_l nD⟩
          rcases List.mem_append.mp hx with hx | hx
          · exact ((gx x hx).tk W (TK.ch kN fX)).tk W tkD
          · rw [List.mem_singleton.mp hx]
            exact gT.tk W tkD
        · obtain ⟨xs, c', eD, dD, nD, xl, gx, fX, hc', cX⟩ := h
          replace xl : xs.length = 5 := xl
          replace hw := hw.ch cX f5
          replace fo := fo.ch cX f5
          replace fA := fA.ch cX f5
          replace du := Dp.tk (TK.ch cX f5) _ _ wT du
          replace k1 := k1.trans cX
          clear f5 cX nD H11
          repeat' (walk_at "jv")
          intro LT nLT
          have dLT := fX.ne nLT
          have kLT := Same.upd_new (o := .lst [u]) nLT
          have eLT : (upd HD LT (.lst [u])) LT = some (.lst [u]) := upd_same
          generalize upd HD LT (.lst [u]) = H12 at *
          replace gx : ∀ x ∈ xs, ThP K H12 ps rs x := fun x hx => (gx x hx).tk W (TK.same kLT)
          replace hw := WF.same hw kLT
          replace fo := FT.same fo kLT
          replace fA := FT.same fA kLT
          replace du := Dp.same kLT _ _ du
          replace k1 := Ch.trans k1 (Ch.of_same kLT)
          replace fX := Fd.same fX kLT
          replace eD := kLT _ _ eD
          clear kLT nLT HD
          refine i_catL eD eLT (by rw [xl, sizeLine_eq]; show 5 + 1 ≤ _; omega) fun L nL => ?_
          have dL := fX.ne nL
          have nL0 := Ch.free k1 dL nL
          have kL := Same.upd_new (o := .lst (xs ++ [u])) nL
          have eL : (upd H12 L (.lst (xs ++ [u]))) L = some (.lst (xs ++ [u])) := upd_same
          generalize upd H12 L (.lst (xs ++ [u])) = H13 at *
          replace gx : ∀ x ∈ xs, ThP K H13 ps rs x := fun x hx => (gx x hx).tk W (TK.same kL)
          replace hw := WF.same hw kL
          replace fo := FT.same fo kL
          replace fA := FT.same fA kL
          replace du := Dp.same kL _ _ du
          replace k1 := Ch.trans k1 (Ch.of_same kL)
          replace fX := Fd.same fX kL
          clear kL nL eD eLT dD dLT H12
          repeat' (walk_at "jv")
          refine f_range (fun m σ H' => ∃ y9 y11 y12 ys, σ = [some (.ref a), some (.int i), some (.ref q1), some v, some (.ref o), some (.int (0 + (j : Int))), some (.ref A), some u, some (.bl (decide (arr qs rs = arr r rs))), y9, some (.ref L), y11, y12] ∧ H' L = some (.lst (xs ++ [u] ++ ys)) ∧ ys.length = m ∧ (∀ y ∈ ys, GQ K H' q1 L 10 y) ∧ (∀ x ∈ xs, ThP K H' ps rs x) ∧ Dp K H' u (toldD ps rs qs r) ∧ WF K H' v ps rs ∧ FT H' o (qs.map V.str) ∧ FT H' A (r.map V.str) ∧ Ch q1 H0 H' ∧ Fd H' q1 (106000 + 100000 * (j : Int) + 10 * (m : Int))) ⟨_, _, _, [], rfl, by rw [List.append_nil]; exact eL, rfl, (fun y h => nomatch h), gx, du, hw, fo, fA, k1, fX.mono (by omega)⟩ (fun m σ H14 hm h => ?_) (fun σ H14 h => ?_)
          · clear eL gx du hw fo fA k1 fX H13
            obtain ⟨y9, y11, y12, ys, rfl, eL, yl, gy, gx, du, hw, fo, fA, k1, f6⟩ := h
            have ecut : cutV (xs ++ [u] ++ ys) none (some 5) = xs := by
              rw [show (5 : Int) = ((5 : Nat) : Int) from rfl, cut_take, List.append_assoc, List.take_left' xl]
            iterate 12 (walk_at "jv")
            refine join_e (fun x H' => ThP K H' ps rs x ∧ Fd H' q1 (106000 + 100000 * (j : Int) + 10 * (m : Int) + 1) ∧ Ch q1 H14 H') (fun Q' hq => ?_) (fun x H15 hx => ?_)
            · rcases told_th W pm pr du with ⟨e, rfl⟩ | ⟨ne, ⟨p, rfl⟩, th⟩
              · repeat' (walk_at "jv")
                refine ⟨rfl, ?_⟩
                refine ⟨false, by simp, ?_⟩
                repeat' (walk_at "jv")
                intro LS nLS
                rw [ecut]
                have dLS := f6.ne nLS
                have kLS := Same.upd_new (o := .lst xs) nLS
                have eLS : (upd H14 LS (.lst xs)) LS = some (.lst xs) := upd_same
                have f6' := f6.same kLS
                have gx' : ∀ x ∈ xs, ThP K (upd H14 LS (.lst xs)) ps rs x := fun x hx => (gx x hx).tk W (TK.same kLS)
                generalize upd H14 LS (.lst xs) = H15 at *
                repeat' (walk_at "jv")
                refine ⟨q1, LS, _, xs, rfl, f6', SqA.l (sq_lst eLS), dLS, by omega, by omega, by omega, fun x H16 hx f7 k7 => ?_⟩
                exact hq _ _ ⟨(gx' x hx).tk W (TK.ch k7 f6'), f7.mono (by omega), (Ch.of_same kLS).trans k7⟩
              · repeat' (walk_at "jv")
                refine ⟨rfl, ?_⟩
                refine ⟨true, by simp, ?_⟩
                refine i_iteT ?_
                repeat' (first | exact hq _ _ ⟨th, f6.mono (by omega), Ch.of_same (Same.refl _)⟩ | walk_at "jv")
                intro LS nLS
                rw [ecut]
                have dLS := f6.ne nLS
                have kLS := Same.upd_new (o := .lst xs) nLS
                have eLS : (upd H14 LS (.lst xs)) LS = some (.lst xs) := upd_same
                have f6' := f6.same kLS
                have gx' : ∀ x ∈ xs, ThP K (upd H14 LS (.lst xs)) ps rs x := fun x hx => (gx x hx).tk W (TK.same kLS)
                generalize upd H14 LS (.lst xs) = H15 at *
                repeat' (walk_at "jv")
                refine ⟨q1, LS, _, xs, rfl, f6', SqA.l (sq_lst eLS), dLS, by omega, by omega, by omega, fun x H16 hx f7 k7 => ?_⟩
                exact hq _ _ ⟨(gx' x hx).tk W (TK.ch k7 f6'), f7.mono (by omega), (Ch.of_same kLS).trans k7⟩
            · obtain ⟨th, f7, k7⟩ := hx
              have eL7 := k7 _ _ dL eL
              have gy7 : ∀ y ∈ ys, GQ K H15 q1 L 10 y := fun y hy => (gy y hy).ch k7 f6
              have gx7 : ∀ x ∈ xs, ThP K H15 ps rs x := fun x hx => (gx x hx).tk W (TK.ch k7 f6)
              replace du := Dp.tk (TK.ch k7 f6) _ _ wT du
              replace hw := hw.ch k7 f6
              replace fo := fo.ch k7 f6
              replace fA := fA.ch k7 f6
              replace k1 := k1.trans k7
              clear eL gy gx f6 k7 H14
              repeat' (walk_at "jv")
              refine ⟨q1, L, v, x, _, _, ps, rs, rfl, f7, by omega, eL7, dL, hw, W, th, fun y H16 gy8 f8 k8 => ?_⟩
              have eL8 := k8 _ _ dL eL7
              replace gy7 : ∀ y ∈ ys, GQ K H16 q1 L 10 y := fun y hy => (gy7 y hy).ch k8 f7
              replace gx7 : ∀ x ∈ xs, ThP K H16 ps rs x := fun x hx => (gx7 x hx).tk W (TK.ch k8 f7)
              replace du := Dp.tk (TK.ch k8 f7) _ _ wT du
              replace hw := hw.ch k8 f7
              replace fo := fo.ch k8 f7
              replace fA := fA.ch k8 f7
              replace k1 := k1.trans k8
              clear eL7 f7 k8 th H15
              repeat' (walk_at "jv")
              have cL : Ch L H16 (upd H16 L (.lst (xs ++ [u] ++ ys ++ [y]))) := Ch.upd_self
              have sL := sf_lst eL8
              have tkL : TK K H16 (upd H16 L (.lst (xs ++ [u] ++ ys ++ [y]))) := TK.lst eL8
              refine ⟨_, _, _, ys ++ [y], rfl, by rw [upd_same, List.append_assoc], by rw [List.length_append, yl]; rfl, fun z hz => ?_, fun x hx => (gx7 x hx).tk W tkL, Dp.tk tkL _ _ wT du, wf_sf hw cL sL, ft_sf fo cL sL, ft_sf fA cL sL, k1.upd_l nL0, (f8.upd (Ne.symm dL)).mono (by omega)⟩
              rcases List.mem_append.mp hz with hz | hz
              · exact (gy7 z hz).atb cL sL
              · rw [List.mem_singleton.mp hz]
                exact gy8.atb cL sL
          · clear eL gx du hw fo fA k1 fX H13
            obtain ⟨y9, y11, y12, ys, rfl, eL, yl, gy, gx, du, hw, fo, fA, k1, f6⟩ := h
            repeat' (walk_at "jv")
            have gA : ∀ z ∈ xs ++ [u] ++ ys, GQ K H14 q1 L 10 z := fun z hz => by
              rcases List.mem_append.mp hz with hz | hz
              · rcases List.mem_append.mp hz with hz | hz
                · exact ((gx z hz).gq W).mono
                · rw [List.mem_singleton.mp hz]
                  exact told_gq W pm pr du
              · exact gy z hz
            generalize xs ++ [u] ++ ys = zs at *
            clear gx gy yl xl du
            refine f_list zs (fun m σ H' => ∃ y11 y12, σ = [some (.ref a), some (.int i), some (.ref q1), some v, some (.ref o), some (.int (0 + (j : Int))), some (.ref A), some u, some (.bl (decide (arr qs rs = arr r rs))), y9, some (.ref L), y11, y12] ∧ Same H14 H') ⟨_, _, rfl, Same.refl _⟩ (fun m σ H' _ h => ?_) (fun m z σ H15 hz h => ?_) (fun σ H15 h => ?_)
            · obtain ⟨_, _, _, k⟩ := h
              exact sq_lst (k _ _ eL)
            · obtain ⟨y11, y12, rfl, k⟩ := h
              obtain ⟨d, o2, okd, sd⟩ := ((gA z (List.mem_of_getElem? hz)).same k).shp (by decide)
              replace o2 := Ob2.one _ _ o2
              replace hw := hw.same k
              replace fo := fo.same k
              replace fA := fA.same k
              repeat' (walk_at "jv")
              refine ⟨q1, v, o, A, z, d, qs, r, ps, rs, rfl, hw, W, fo.sq, pm, fA.sq, pr, o2, sd, fun H16 k16 => ?_⟩
              replace hw := WF.same hw k16
              replace fo := FT.same fo k16
              replace fA := FT.same fA k16
              replace o2 := Ob.same o2 k16
              replace k := Same.trans k k16
              clear k16 H15
              repeat' (walk_at "jv")
              refine ⟨_, rfl, ?_⟩
              repeat' (walk_at "jv")
              refine ⟨q1, v, o, A, z, d, qs, r, ps, rs, rfl, hw, W, fo.sq, pm, fA.sq, pr, o2, okd, fun H17 k17 => ?_⟩
              replace hw := WF.same hw k17
              replace fo := FT.same fo k17
              replace fA := FT.same fA k17
              replace o2 := Ob.same o2 k17
              replace k := Same.trans k k17
              clear k17 H16
              repeat' (walk_at "jv")
              refine ⟨_, rfl, ?_⟩
              repeat' (walk_at "jv")
              · rename_i hne
                exact absurd rfl hne
              refine i_ck ?_
              repeat' (walk_at "jv")
              refine ⟨q1, v, o, A, z, d, qs, r, ps, rs, rfl, hw, W, fo.sq, pm, fA.sq, pr, o2, okd, fun H18 k18 => ?_⟩
              replace k := Same.trans k k18
              clear k18 hw fo fA o2 H17
              repeat' (walk_at "jv")
              refine ⟨_, rfl, ?_⟩
              repeat' (walk_at "jv")
              · rename_i hne
                exact absurd rfl hne
              exact ⟨_, _, rfl, k⟩
            · obtain ⟨y11, y12, rfl, k⟩ := h
              repeat' (walk_at "jv")
              exact ⟨_, _, _, _, _, _, _, _, rfl, hw.same k, fo.same k, k1.trans (Ch.of_same k), (f6.same k).mono (by omega)⟩
      · obtain ⟨y5, y6, y7, y8, y9, y10, y11, y12, rfl, hw, fo, k1, f4⟩ := h
        repeat' (walk_at "jv")
        exact ⟨_, _, _, _, _, _, _, _, _, _, _, _, rfl, sqL_ch ha0 nq k1⟩
    · obtain ⟨y1, y2, y3, y4, y5, y6, y7, y8, y9, y10, y11, y12, rfl, ha0⟩ := h
      repeat' (walk_at "jv")
      exact q _
end
end
section
open L2 PySem PySem.Spec PyProof.Rows
section
variable {base : Heap} {P : Program} {w : World} {K : PySem.W.Frag} {mg : Str → Option Value}
theorem ok_feed (D : Dn K mg "_law_feed" s__law_feed ["_law_script", "_law_k"]) (B : Bn mg) : Cl P w K mg base 1 "_law_feed" ["_law_script", "_law_k"] (spFeed K) := by
  refine D.cl sc__law_feed (fun vs H Q E h => ?_) (fun f cdv A outer s H vs Q E hr h => ?_)
  · obtain ⟨a, ns, k, rfl, _⟩ := h
    rfl
  · obtain ⟨a, ns, k, rfl, hs, hl, hk0, hk1, q⟩ := h
    refine ⟨_, (pss_cons (ps_set (i := 2) sc__law_feed.nd rfl (by first | exact Or.inl rfl | exact Or.inr rfl) (pe_op op_add (pe_op op_mul pe_int (pv 1)) (pe_callB (cr_sum rfl) rfl B.sum_ (by decide +kernel) (pa_cons (pe_slice (k_slL (K := K)) (pv 0) po_none (po_some pe_int)) pa_nil))))
      (pss_cons (ps_if (pt_cmpR op_lt (pv 1) (pe_callB (k_len (K := K)) rfl B.len_ (by decide +kernel) (pa_cons (pv 0) pa_nil)) (nomark _)) (pss_one (ps_set (i := 2) sc__law_feed.nd rfl (by first | exact Or.inl rfl | exact Or.inr rfl) (pe_ix (k_ixL (K := K)) (pv 0) (pv 1) (fun _ _ => rfl)))) pss_nil)
      (pss_one (ps_ret (pe_lst (pa_cons (pe_callB (j_max rfl) rfl B.max_ (by decide +kernel) (pa_cons pe_int (pa_cons (pe_op op_sub (pv 2) (pe_op op_pow pe_int pe_int)) pa_nil))) (pa_cons (pe_op op_mod (pe_callTy (j_int) rfl B.int_ (by decide +kernel) (pa_cons (pe_op op_add (pe_op op_mul (pv 2) pe_int) (pe_op op_mul pe_int (pv 1))) pa_nil)) (pe_op op_add (pe_op op_pow pe_int pe_int) pe_int)) (pa_cons pe_int pa_nil)))))))), ?_⟩
    repeat' (walk_at "jv")
    intro L nL
    have sL := Same.upd_new (o := .lst (cutV (ns.map V.int) none (some 1))) nL
    have e1 : cutV (ns.map V.int) none (some ((1 : Nat) : Int)) = (ns.take 1).map V.int := by
      unfold cutV
      rw [HT.sIx_none, HT.sIx_nat, List.drop_zero, Nat.sub_zero, List.length_map, List.map_take]
      cases ns <;> simp
    refine i_nil ?_
    refine i_sum (ns := ns.take 1) (sq_lst (by rw [← e1]; exact upd_same)) ?_
    have hs1 := sL.seq hs
    have fin : ∀ x : Int, ∀ p : Addr, upd H L (.lst (cutV (ns.map V.int) none (some 1))) p = none →
        Q (.ref p) (upd (upd H L (.lst (cutV (ns.map V.int) none (some 1)))) p (.lst [.int (max 0 (x - 10 ^ Int.toNat 18)), .int ((x * 19 + 7 * k) % (10 ^ Int.toNat 39 + 23)), .int 0])) := fun x p np => by
      refine q p _ ?_ ⟨_, _, _, upd_same, by omega, Int.emod_nonneg _ (by decide), Int.emod_lt_of_pos _ (by decide), by omega, by omega⟩ (sL.trans (Same.upd_new np))
      cases z : H p with
      | none => rfl
      | some o =>
        have := sL p o z
        rw [np] at this
        cases this
    repeat' (walk_at "jv")
    · rename_i lt
      obtain ⟨j, rfl⟩ := Int.eq_ofNat_of_zero_le hk0
      have hj : j < ns.length := by rw [List.length_map] at lt; omega
      refine i_ixL hs1 (atI_nat (by rw [List.getElem?_map, List.getElem?_eq_getElem hj]; rfl)) ?_
      repeat' (walk_at "jv")
      exact fin _
    · exact fin _
end
end
section
open L2 PySem PySem.Spec PyProof.Rows
def frees : List Str := ["int", "str", "tuple", "list", "bool", "len", "isinstance", "all", "any", "max", "min", "sum", "sorted", "repr", "range", "enumerate", "zip", "set", "dict"]
def freeB (K : PySem.W.Frag) : Bool := frees.all fun x => decide (PySem.W.nsIn K mainGlobals x = some none)
theorem bn_of {K : PySem.W.Frag} {mg : Str → Option Value} {h : Heap} (X : K.In h) (G : h.Ns mainGlobals mg) (b : freeB K = true) : Bn mg := by
  have z : ∀ x ∈ frees, mg x = none := fun x hx => PySem.W.mg_none_of X G (of_decide_eq_true (List.all_eq_true.mp b x hx))
  exact ⟨z _ (by simp [frees]), z _ (by simp [frees]), z _ (by simp [frees]), z _ (by simp [frees]), z _ (by simp [frees]), z _ (by simp [frees]), z _ (by simp [frees]), z _ (by simp [frees]), z _ (by simp [frees]), z _ (by simp [frees]), z _ (by simp [frees]), z _ (by simp [frees]), z _ (by simp [frees]), z _ (by simp [frees]), z _ (by simp [frees]), z _ (by simp [frees]), z _ (by simp [frees]), z _ (by simp [frees])⟩
theorem bd_of {K : PySem.W.Frag} {mg : Str → Option Value} {h : Heap} (X : K.In h) (G : h.Ns mainGlobals mg) (b : freeB K = true) : mg "dict" = none :=
  PySem.W.mg_none_of X G (of_decide_eq_true (List.all_eq_true.mp b "dict" (by simp [frees])))
theorem bare_sq {K : PySem.W.Frag} {T : Addr} {oc : Value} {od : Option Addr} {nB : Nat} {sl : Array (Option Value)} {t0 t1 t2 t3 : Tok} (h : K.lookup T = some ⟨.type "tuple", od, .seq #[.str "keep" t0, .str "least" t1, .str "greatest" t2, .str "odd" t3] nB, sl⟩) (H : Hp) :
    SqT K H T ((["keep", "least", "greatest", "odd"] : List Str).map V.str) :=
  .inr ⟨_, _, _, h, rfl, rfl, by rw [sizeLine_eq]; show 4 ≤ _; omega, .cons ⟨_, rfl⟩ (.cons ⟨_, rfl⟩ (.cons ⟨_, rfl⟩ (.cons ⟨_, rfl⟩ .nil)))⟩
theorem part_sq {K : PySem.W.Frag} {T : Addr} {oc : Value} {od : Option Addr} {nB : Nat} {sl : Array (Option Value)} {t0 t1 : Tok} (h : K.lookup T = some ⟨.type "tuple", od, .seq #[.str "keep" t0, .str "copy" t1] nB, sl⟩) (H : Hp) :
    SqT K H T ((["keep", "copy"] : List Str).map V.str) :=
  .inr ⟨_, _, _, h, rfl, rfl, by rw [sizeLine_eq]; show 2 ≤ _; omega, .cons ⟨_, rfl⟩ (.cons ⟨_, rfl⟩ .nil)⟩
theorem all_mk {P : Program} {w : World} {K : PySem.W.Frag} {h : Heap} {mg : Str → Option Value} {fa : Addr} (X : K.In h) (G : h.Ns mainGlobals mg) (hfa : mg "law" = some (.ref fa)) (b : freeB K = true)
    {f0 f1 f2 f3 f4 f5 f6 f7 f8 f9 f10 f11 f12 f13 f14 f15 f16 f17 f18 f19 f20 f21 f22 f23 f24 f25 f26 f27 f28 f29 f30 f31 f32 f33 f34 f35 f36 f37 f38 f39 f40 f41 f42 f43 f44 f45 f46 f47 f48 f49 f50 f51 f52 f53 f54 f55 f56 f57 fB fP : Addr} {od0 an0 od1 an1 od2 an2 od3 an3 od4 an4 od5 an5 od6 an6 od7 an7 od8 an8 od9 an9 od10 an10 od11 an11 od12 an12 od13 an13 od14 an14 od15 an15 od16 an16 od17 an17 od18 an18 od19 an19 od20 an20 od21 an21 od22 an22 od23 an23 od24 an24 od25 an25 od26 an26 od27 an27 od28 an28 od29 an29 od30 an30 od31 an31 od32 an32 od33 an33 od34 an34 od35 an35 od36 an36 od37 an37 od38 an38 od39 an39 od40 an40 od41 an41 od42 an42 od43 an43 od44 an44 od45 an45 od46 an46 od47 an47 od48 an48 od49 an49 od50 an50 od51 an51 od52 an52 od53 an53 od54 an54 od55 an55 od56 an56 od57 an57 odB odP : Option Addr} {sl0 sl1 sl2 sl3 sl4 sl5 sl6 sl7 sl8 sl9 sl10 sl11 sl12 sl13 sl14 sl15 sl16 sl17 sl18 sl19 sl20 sl21 sl22 sl23 sl24 sl25 sl26 sl27 sl28 sl29 sl30 sl31 sl32 sl33 sl34 sl35 sl36 sl37 sl38 sl39 sl40 sl41 sl42 sl43 sl44 sl45 sl46 sl47 sl48 sl49 sl50 sl51 sl52 sl53 sl54 sl55 sl56 sl57 slB slP : Array (Option Value)} {oc0 kV0 dc0 pm0 cd0 ct0 oc1 kV1 dc1 pm1 cd1 ct1 oc2 kV2 dc2 pm2 cd2 ct2 oc3 kV3 dc3 pm3 cd3 ct3 oc4 kV4 dc4 pm4 cd4 ct4 oc5 kV5 dc5 pm5 cd5 ct5 oc6 kV6 dc6 pm6 cd6 ct6 oc7 kV7 dc7 pm7 cd7 ct7 oc8 kV8 dc8 pm8 cd8 ct8 oc9 kV9 dc9 pm9 cd9 ct9 oc10 kV10 dc10 pm10 cd10 ct10 oc11 kV11 dc11 pm11 cd11 ct11 oc12 kV12 dc12 pm12 cd12 ct12 oc13 kV13 dc13 pm13 cd13 ct13 oc14 kV14 dc14 pm14 cd14 ct14 oc15 kV15 dc15 pm15 cd15 ct15 oc16 kV16 dc16 pm16 cd16 ct16 oc17 kV17 dc17 pm17 cd17 ct17 oc18 kV18 dc18 pm18 cd18 ct18 oc19 kV19 dc19 pm19 cd19 ct19 oc20 kV20 dc20 pm20 cd20 ct20 oc21 kV21 dc21 pm21 cd21 ct21 oc22 kV22 dc22 pm22 cd22 ct22 oc23 kV23 dc23 pm23 cd23 ct23 oc24 kV24 dc24 pm24 cd24 ct24 oc25 kV25 dc25 pm25 cd25 ct25 oc26 kV26 dc26 pm26 cd26 ct26 oc27 kV27 dc27 pm27 cd27 ct27 oc28 kV28 dc28 pm28 cd28 ct28 oc29 kV29 dc29 pm29 cd29 ct29 oc30 kV30 dc30 pm30 cd30 ct30 oc31 kV31 dc31 pm31 cd31 ct31 oc32 kV32 dc32 pm32 cd32 ct32 oc33 kV33 dc33 pm33 cd33 ct33 oc34 kV34 dc34 pm34 cd34 ct34 oc35 kV35 dc35 pm35 cd35 ct35 oc36 kV36 dc36 pm36 cd36 ct36 oc37 kV37 dc37 pm37 cd37 ct37 oc38 kV38 dc38 pm38 cd38 ct38 oc39 kV39 dc39 pm39 cd39 ct39 oc40 kV40 dc40 pm40 cd40 ct40 oc41 kV41 dc41 pm41 cd41 ct41 oc42 kV42 dc42 pm42 cd42 ct42 oc43 kV43 dc43 pm43 cd43 ct43 oc44 kV44 dc44 pm44 cd44 ct44 oc45 kV45 dc45 pm45 cd45 ct45 oc46 kV46 dc46 pm46 cd46 ct46 oc47 kV47 dc47 pm47 cd47 ct47 oc48 kV48 dc48 pm48 cd48 ct48 oc49 kV49 dc49 pm49 cd49 ct49 oc50 kV50 dc50 pm50 cd50 ct50 oc51 kV51 dc51 pm51 cd51 ct51 oc52 kV52 dc52 pm52 cd52 ct52 oc53 kV53 dc53 pm53 cd53 ct53 oc54 kV54 dc54 pm54 cd54 ct54 oc55 kV55 dc55 pm55 cd55 ct55 oc56 kV56 dc56 pm56 cd56 ct56 oc57 kV57 dc57 pm57 cd57 ct57 : Value} {t0 t1 t2 t3 t4 t5 t6 tB0 tB1 tB2 tB3 tP0 tP1 : Tok} {nB : Nat} {nP : Nat}
    (g0 : PySem.W.nsIn K mainGlobals "LONGEST_NAME" = some (some (.int 8 t0)))
    (g1 : PySem.W.nsIn K mainGlobals "MOST_PLACES" = some (some (.int 8 t1)))
    (g2 : PySem.W.nsIn K mainGlobals "MOST_ROADS" = some (some (.int 14 t2)))
    (g3 : PySem.W.nsIn K mainGlobals "LETTERS" = some (some (.str "abcdefghijklmnopqrstuvwxyz" t3)))
    (g4 : PySem.W.nsIn K mainGlobals "NAME_SIGNS" = some (some (.str "abcdefghijklmnopqrstuvwxyz0123456789" t4)))
    (g5 : PySem.W.nsIn K mainGlobals "MOST_STATES" = some (some (.int 256 t5)))
    (g6 : PySem.W.nsIn K mainGlobals "GREATEST_MOST" = some (some (.int 9 t6)))
    (aB : PySem.W.nsIn K mainGlobals "BARE_SORTS" = some (some (.ref fB))) (lB : K.lookup fB = some ⟨.type "tuple", odB, .seq #[.str "keep" tB0, .str "least" tB1, .str "greatest" tB2, .str "odd" tB3] nB, slB⟩)
    (aP : PySem.W.nsIn K mainGlobals "PARTING_SORTS" = some (some (.ref fP))) (lP : K.lookup fP = some ⟨.type "tuple", odP, .seq #[.str "keep" tP0, .str "copy" tP1] nP, slP⟩)
    (a0 : PySem.W.nsIn K mainGlobals "is_integer" = some (some (.ref f0))) (l0 : K.lookup f0 = some ⟨oc0, od0, .func (PySem.W.fnOf "is_integer" "is_integer" (defArgs s_is_integer) (defBody s_is_integer) (defScope s_is_integer) .none kV0 dc0 pm0 an0 cd0 ct0), sl0⟩) (c0 : PySem.W.codeIn K cd0 "is_integer" = true) (k0 : PySem.W.keepIn K (.ref f0) = true)
    (a1 : PySem.W.nsIn K mainGlobals "power" = some (some (.ref f1))) (l1 : K.lookup f1 = some ⟨oc1, od1, .func (PySem.W.fnOf "power" "power" (defArgs s_power) (defBody s_power) (defScope s_power) .none kV1 dc1 pm1 an1 cd1 ct1), sl1⟩) (c1 : PySem.W.codeIn K cd1 "power" = true) (k1 : PySem.W.keepIn K (.ref f1) = true)
    (a2 : PySem.W.nsIn K mainGlobals "are_states" = some (some (.ref f2))) (l2 : K.lookup f2 = some ⟨oc2, od2, .func (PySem.W.fnOf "are_states" "are_states" (defArgs s_are_states) (defBody s_are_states) (defScope s_are_states) .none kV2 dc2 pm2 an2 cd2 ct2), sl2⟩) (c2 : PySem.W.codeIn K cd2 "are_states" = true) (k2 : PySem.W.keepIn K (.ref f2) = true)
    (a3 : PySem.W.nsIn K mainGlobals "table_length" = some (some (.ref f3))) (l3 : K.lookup f3 = some ⟨oc3, od3, .func (PySem.W.fnOf "table_length" "table_length" (defArgs s_table_length) (defBody s_table_length) (defScope s_table_length) .none kV3 dc3 pm3 an3 cd3 ct3), sl3⟩) (c3 : PySem.W.codeIn K cd3 "table_length" = true) (k3 : PySem.W.keepIn K (.ref f3) = true)
    (a4 : PySem.W.nsIn K mainGlobals "sum_length" = some (some (.ref f4))) (l4 : K.lookup f4 = some ⟨oc4, od4, .func (PySem.W.fnOf "sum_length" "sum_length" (defArgs s_sum_length) (defBody s_sum_length) (defScope s_sum_length) .none kV4 dc4 pm4 an4 cd4 ct4), sl4⟩) (c4 : PySem.W.codeIn K cd4 "sum_length" = true) (k4 : PySem.W.keepIn K (.ref f4) = true)
    (a5 : PySem.W.nsIn K mainGlobals "is_rule" = some (some (.ref f5))) (l5 : K.lookup f5 = some ⟨oc5, od5, .func (PySem.W.fnOf "is_rule" "is_rule" (defArgs s_is_rule) (defBody s_is_rule) (defScope s_is_rule) .none kV5 dc5 pm5 an5 cd5 ct5), sl5⟩) (c5 : PySem.W.codeIn K cd5 "is_rule" = true) (k5 : PySem.W.keepIn K (.ref f5) = true)
    (a6 : PySem.W.nsIn K mainGlobals "_is_worth" = some (some (.ref f6))) (l6 : K.lookup f6 = some ⟨oc6, od6, .func (PySem.W.fnOf "_is_worth" "_is_worth" (defArgs s__is_worth) (defBody s__is_worth) (defScope s__is_worth) .none kV6 dc6 pm6 an6 cd6 ct6), sl6⟩) (c6 : PySem.W.codeIn K cd6 "_is_worth" = true) (k6 : PySem.W.keepIn K (.ref f6) = true)
    (a7 : PySem.W.nsIn K mainGlobals "_are_sums" = some (some (.ref f7))) (l7 : K.lookup f7 = some ⟨oc7, od7, .func (PySem.W.fnOf "_are_sums" "_are_sums" (defArgs s__are_sums) (defBody s__are_sums) (defScope s__are_sums) .none kV7 dc7 pm7 an7 cd7 ct7), sl7⟩) (c7 : PySem.W.codeIn K cd7 "_are_sums" = true) (k7 : PySem.W.keepIn K (.ref f7) = true)
    (a8 : PySem.W.nsIn K mainGlobals "next_state" = some (some (.ref f8))) (l8 : K.lookup f8 = some ⟨oc8, od8, .func (PySem.W.fnOf "next_state" "next_state" (defArgs s_next_state) (defBody s_next_state) (defScope s_next_state) .none kV8 dc8 pm8 an8 cd8 ct8), sl8⟩) (c8 : PySem.W.codeIn K cd8 "next_state" = true) (k8 : PySem.W.keepIn K (.ref f8) = true)
    (a9 : PySem.W.nsIn K mainGlobals "_table_index" = some (some (.ref f9))) (l9 : K.lookup f9 = some ⟨oc9, od9, .func (PySem.W.fnOf "_table_index" "_table_index" (defArgs s__table_index) (defBody s__table_index) (defScope s__table_index) .none kV9 dc9 pm9 an9 cd9 ct9), sl9⟩) (c9 : PySem.W.codeIn K cd9 "_table_index" = true) (k9 : PySem.W.keepIn K (.ref f9) = true)
    (a10 : PySem.W.nsIn K mainGlobals "is_name" = some (some (.ref f10))) (l10 : K.lookup f10 = some ⟨oc10, od10, .func (PySem.W.fnOf "is_name" "is_name" (defArgs s_is_name) (defBody s_is_name) (defScope s_is_name) .none kV10 dc10 pm10 an10 cd10 ct10), sl10⟩) (c10 : PySem.W.codeIn K cd10 "is_name" = true) (k10 : PySem.W.keepIn K (.ref f10) = true)
    (a11 : PySem.W.nsIn K mainGlobals "is_web" = some (some (.ref f11))) (l11 : K.lookup f11 = some ⟨oc11, od11, .func (PySem.W.fnOf "is_web" "is_web" (defArgs s_is_web) (defBody s_is_web) (defScope s_is_web) .none kV11 dc11 pm11 an11 cd11 ct11), sl11⟩) (c11 : PySem.W.codeIn K cd11 "is_web" = true) (k11 : PySem.W.keepIn K (.ref f11) = true)
    (a12 : PySem.W.nsIn K mainGlobals "_are_places" = some (some (.ref f12))) (l12 : K.lookup f12 = some ⟨oc12, od12, .func (PySem.W.fnOf "_are_places" "_are_places" (defArgs s__are_places) (defBody s__are_places) (defScope s__are_places) .none kV12 dc12 pm12 an12 cd12 ct12), sl12⟩) (c12 : PySem.W.codeIn K cd12 "_are_places" = true) (k12 : PySem.W.keepIn K (.ref f12) = true)
    (a13 : PySem.W.nsIn K mainGlobals "_are_roads" = some (some (.ref f13))) (l13 : K.lookup f13 = some ⟨oc13, od13, .func (PySem.W.fnOf "_are_roads" "_are_roads" (defArgs s__are_roads) (defBody s__are_roads) (defScope s__are_roads) .none kV13 dc13 pm13 an13 cd13 ct13), sl13⟩) (c13 : PySem.W.codeIn K cd13 "_are_roads" = true) (k13 : PySem.W.keepIn K (.ref f13) = true)
    (a14 : PySem.W.nsIn K mainGlobals "_is_road" = some (some (.ref f14))) (l14 : K.lookup f14 = some ⟨oc14, od14, .func (PySem.W.fnOf "_is_road" "_is_road" (defArgs s__is_road) (defBody s__is_road) (defScope s__is_road) .none kV14 dc14 pm14 an14 cd14 ct14), sl14⟩) (c14 : PySem.W.codeIn K cd14 "_is_road" = true) (k14 : PySem.W.keepIn K (.ref f14) = true)
    (a15 : PySem.W.nsIn K mainGlobals "is_one_of" = some (some (.ref f15))) (l15 : K.lookup f15 = some ⟨oc15, od15, .func (PySem.W.fnOf "is_one_of" "is_one_of" (defArgs s_is_one_of) (defBody s_is_one_of) (defScope s_is_one_of) .none kV15 dc15 pm15 an15 cd15 ct15), sl15⟩) (c15 : PySem.W.codeIn K cd15 "is_one_of" = true) (k15 : PySem.W.keepIn K (.ref f15) = true)
    (a16 : PySem.W.nsIn K mainGlobals "need_web" = some (some (.ref f16))) (l16 : K.lookup f16 = some ⟨oc16, od16, .func (PySem.W.fnOf "need_web" "need_web" (defArgs s_need_web) (defBody s_need_web) (defScope s_need_web) .none kV16 dc16 pm16 an16 cd16 ct16), sl16⟩) (c16 : PySem.W.codeIn K cd16 "need_web" = true) (k16 : PySem.W.keepIn K (.ref f16) = true)
    (a17 : PySem.W.nsIn K mainGlobals "need_order" = some (some (.ref f17))) (l17 : K.lookup f17 = some ⟨oc17, od17, .func (PySem.W.fnOf "need_order" "need_order" (defArgs s_need_order) (defBody s_need_order) (defScope s_need_order) .none kV17 dc17 pm17 an17 cd17 ct17), sl17⟩) (c17 : PySem.W.codeIn K cd17 "need_order" = true) (k17 : PySem.W.keepIn K (.ref f17) = true)
    (a18 : PySem.W.nsIn K mainGlobals "is_order" = some (some (.ref f18))) (l18 : K.lookup f18 = some ⟨oc18, od18, .func (PySem.W.fnOf "is_order" "is_order" (defArgs s_is_order) (defBody s_is_order) (defScope s_is_order) .none kV18 dc18 pm18 an18 cd18 ct18), sl18⟩) (c18 : PySem.W.codeIn K cd18 "is_order" = true) (k18 : PySem.W.keepIn K (.ref f18) = true)
    (a19 : PySem.W.nsIn K mainGlobals "are_joined" = some (some (.ref f19))) (l19 : K.lookup f19 = some ⟨oc19, od19, .func (PySem.W.fnOf "are_joined" "are_joined" (defArgs s_are_joined) (defBody s_are_joined) (defScope s_are_joined) .none kV19 dc19 pm19 an19 cd19 ct19), sl19⟩) (c19 : PySem.W.codeIn K cd19 "are_joined" = true) (k19 : PySem.W.keepIn K (.ref f19) = true)
    (a20 : PySem.W.nsIn K mainGlobals "near_of" = some (some (.ref f20))) (l20 : K.lookup f20 = some ⟨oc20, od20, .func (PySem.W.fnOf "near_of" "near_of" (defArgs s_near_of) (defBody s_near_of) (defScope s_near_of) .none kV20 dc20 pm20 an20 cd20 ct20), sl20⟩) (c20 : PySem.W.codeIn K cd20 "near_of" = true) (k20 : PySem.W.keepIn K (.ref f20) = true)
    (a21 : PySem.W.nsIn K mainGlobals "is_hall" = some (some (.ref f21))) (l21 : K.lookup f21 = some ⟨oc21, od21, .func (PySem.W.fnOf "is_hall" "is_hall" (defArgs s_is_hall) (defBody s_is_hall) (defScope s_is_hall) .none kV21 dc21 pm21 an21 cd21 ct21), sl21⟩) (c21 : PySem.W.codeIn K cd21 "is_hall" = true) (k21 : PySem.W.keepIn K (.ref f21) = true)
    (a22 : PySem.W.nsIn K mainGlobals "_are_rules" = some (some (.ref f22))) (l22 : K.lookup f22 = some ⟨oc22, od22, .func (PySem.W.fnOf "_are_rules" "_are_rules" (defArgs s__are_rules) (defBody s__are_rules) (defScope s__are_rules) .none kV22 dc22 pm22 an22 cd22 ct22), sl22⟩) (c22 : PySem.W.codeIn K cd22 "_are_rules" = true) (k22 : PySem.W.keepIn K (.ref f22) = true)
    (a23 : PySem.W.nsIn K mainGlobals "is_state" = some (some (.ref f23))) (l23 : K.lookup f23 = some ⟨oc23, od23, .func (PySem.W.fnOf "is_state" "is_state" (defArgs s_is_state) (defBody s_is_state) (defScope s_is_state) .none kV23 dc23 pm23 an23 cd23 ct23), sl23⟩) (c23 : PySem.W.codeIn K cd23 "is_state" = true) (k23 : PySem.W.keepIn K (.ref f23) = true)
    (a24 : PySem.W.nsIn K mainGlobals "need_ordered" = some (some (.ref f24))) (l24 : K.lookup f24 = some ⟨oc24, od24, .func (PySem.W.fnOf "need_ordered" "need_ordered" (defArgs s_need_ordered) (defBody s_need_ordered) (defScope s_need_ordered) .none kV24 dc24 pm24 an24 cd24 ct24), sl24⟩) (c24 : PySem.W.codeIn K cd24 "need_ordered" = true) (k24 : PySem.W.keepIn K (.ref f24) = true)
    (a25 : PySem.W.nsIn K mainGlobals "need_two_orders" = some (some (.ref f25))) (l25 : K.lookup f25 = some ⟨oc25, od25, .func (PySem.W.fnOf "need_two_orders" "need_two_orders" (defArgs s_need_two_orders) (defBody s_need_two_orders) (defScope s_need_two_orders) .none kV25 dc25 pm25 an25 cd25 ct25), sl25⟩) (c25 : PySem.W.codeIn K cd25 "need_two_orders" = true) (k25 : PySem.W.keepIn K (.ref f25) = true)
    (a26 : PySem.W.nsIn K mainGlobals "arrows_of" = some (some (.ref f26))) (l26 : K.lookup f26 = some ⟨oc26, od26, .func (PySem.W.fnOf "arrows_of" "arrows_of" (defArgs s_arrows_of) (defBody s_arrows_of) (defScope s_arrows_of) .none kV26 dc26 pm26 an26 cd26 ct26), sl26⟩) (c26 : PySem.W.codeIn K cd26 "arrows_of" = true) (k26 : PySem.W.keepIn K (.ref f26) = true)
    (a27 : PySem.W.nsIn K mainGlobals "_pointed" = some (some (.ref f27))) (l27 : K.lookup f27 = some ⟨oc27, od27, .func (PySem.W.fnOf "_pointed" "_pointed" (defArgs s__pointed) (defBody s__pointed) (defScope s__pointed) .none kV27 dc27 pm27 an27 cd27 ct27), sl27⟩) (c27 : PySem.W.codeIn K cd27 "_pointed" = true) (k27 : PySem.W.keepIn K (.ref f27) = true)
    (a28 : PySem.W.nsIn K mainGlobals "_looks_at" = some (some (.ref f28))) (l28 : K.lookup f28 = some ⟨oc28, od28, .func (PySem.W.fnOf "_looks_at" "_looks_at" (defArgs s__looks_at) (defBody s__looks_at) (defScope s__looks_at) .none kV28 dc28 pm28 an28 cd28 ct28), sl28⟩) (c28 : PySem.W.codeIn K cd28 "_looks_at" = true) (k28 : PySem.W.keepIn K (.ref f28) = true)
    (a29 : PySem.W.nsIn K mainGlobals "stepped" = some (some (.ref f29))) (l29 : K.lookup f29 = some ⟨oc29, od29, .func (PySem.W.fnOf "stepped" "stepped" (defArgs s_stepped) (defBody s_stepped) (defScope s_stepped) .none kV29 dc29 pm29 an29 cd29 ct29), sl29⟩) (c29 : PySem.W.codeIn K cd29 "stepped" = true) (k29 : PySem.W.keepIn K (.ref f29) = true)
    (a30 : PySem.W.nsIn K mainGlobals "passed" = some (some (.ref f30))) (l30 : K.lookup f30 = some ⟨oc30, od30, .func (PySem.W.fnOf "passed" "passed" (defArgs s_passed) (defBody s_passed) (defScope s_passed) .none kV30 dc30 pm30 an30 cd30 ct30), sl30⟩) (c30 : PySem.W.codeIn K cd30 "passed" = true) (k30 : PySem.W.keepIn K (.ref f30) = true)
    (a31 : PySem.W.nsIn K mainGlobals "parting" = some (some (.ref f31))) (l31 : K.lookup f31 = some ⟨oc31, od31, .func (PySem.W.fnOf "parting" "parting" (defArgs s_parting) (defBody s_parting) (defScope s_parting) .none kV31 dc31 pm31 an31 cd31 ct31), sl31⟩) (c31 : PySem.W.codeIn K cd31 "parting" = true) (k31 : PySem.W.keepIn K (.ref f31) = true)
    (a32 : PySem.W.nsIn K mainGlobals "parting_holds" = some (some (.ref f32))) (l32 : K.lookup f32 = some ⟨oc32, od32, .func (PySem.W.fnOf "parting_holds" "parting_holds" (defArgs s_parting_holds) (defBody s_parting_holds) (defScope s_parting_holds) .none kV32 dc32 pm32 an32 cd32 ct32), sl32⟩) (c32 : PySem.W.codeIn K cd32 "parting_holds" = true) (k32 : PySem.W.keepIn K (.ref f32) = true)
    (a33 : PySem.W.nsIn K mainGlobals "_law_feed" = some (some (.ref f33))) (l33 : K.lookup f33 = some ⟨oc33, od33, .func (PySem.W.fnOf "_law_feed" "_law_feed" (defArgs s__law_feed) (defBody s__law_feed) (defScope s__law_feed) .none kV33 dc33 pm33 an33 cd33 ct33), sl33⟩) (c33 : PySem.W.codeIn K cd33 "_law_feed" = true) (k33 : PySem.W.keepIn K (.ref f33) = true)
    (a34 : PySem.W.nsIn K mainGlobals "_law_draw" = some (some (.ref f34))) (l34 : K.lookup f34 = some ⟨oc34, od34, .func (PySem.W.fnOf "_law_draw" "_law_draw" (defArgs s__law_draw) (defBody s__law_draw) (defScope s__law_draw) .none kV34 dc34 pm34 an34 cd34 ct34), sl34⟩) (c34 : PySem.W.codeIn K cd34 "_law_draw" = true) (k34 : PySem.W.keepIn K (.ref f34) = true)
    (a35 : PySem.W.nsIn K mainGlobals "_law_one" = some (some (.ref f35))) (l35 : K.lookup f35 = some ⟨oc35, od35, .func (PySem.W.fnOf "_law_one" "_law_one" (defArgs s__law_one) (defBody s__law_one) (defScope s__law_one) .none kV35 dc35 pm35 an35 cd35 ct35), sl35⟩) (c35 : PySem.W.codeIn K cd35 "_law_one" = true) (k35 : PySem.W.keepIn K (.ref f35) = true)
    (a36 : PySem.W.nsIn K mainGlobals "_law_mixed" = some (some (.ref f36))) (l36 : K.lookup f36 = some ⟨oc36, od36, .func (PySem.W.fnOf "_law_mixed" "_law_mixed" (defArgs s__law_mixed) (defBody s__law_mixed) (defScope s__law_mixed) .none kV36 dc36 pm36 an36 cd36 ct36), sl36⟩) (c36 : PySem.W.codeIn K cd36 "_law_mixed" = true) (k36 : PySem.W.keepIn K (.ref f36) = true)
    (a37 : PySem.W.nsIn K mainGlobals "_law_names" = some (some (.ref f37))) (l37 : K.lookup f37 = some ⟨oc37, od37, .func (PySem.W.fnOf "_law_names" "_law_names" (defArgs s__law_names) (defBody s__law_names) (defScope s__law_names) .none kV37 dc37 pm37 an37 cd37 ct37), sl37⟩) (c37 : PySem.W.codeIn K cd37 "_law_names" = true) (k37 : PySem.W.keepIn K (.ref f37) = true)
    (a38 : PySem.W.nsIn K mainGlobals "_law_web" = some (some (.ref f38))) (l38 : K.lookup f38 = some ⟨oc38, od38, .func (PySem.W.fnOf "_law_web" "_law_web" (defArgs s__law_web) (defBody s__law_web) (defScope s__law_web) .none kV38 dc38 pm38 an38 cd38 ct38), sl38⟩) (c38 : PySem.W.codeIn K cd38 "_law_web" = true) (k38 : PySem.W.keepIn K (.ref f38) = true)
    (a39 : PySem.W.nsIn K mainGlobals "_law_neighbours" = some (some (.ref f39))) (l39 : K.lookup f39 = some ⟨oc39, od39, .func (PySem.W.fnOf "_law_neighbours" "_law_neighbours" (defArgs s__law_neighbours) (defBody s__law_neighbours) (defScope s__law_neighbours) .none kV39 dc39 pm39 an39 cd39 ct39), sl39⟩) (c39 : PySem.W.codeIn K cd39 "_law_neighbours" = true) (k39 : PySem.W.keepIn K (.ref f39) = true)
    (a40 : PySem.W.nsIn K mainGlobals "_law_order" = some (some (.ref f40))) (l40 : K.lookup f40 = some ⟨oc40, od40, .func (PySem.W.fnOf "_law_order" "_law_order" (defArgs s__law_order) (defBody s__law_order) (defScope s__law_order) .none kV40 dc40 pm40 an40 cd40 ct40), sl40⟩) (c40 : PySem.W.codeIn K cd40 "_law_order" = true) (k40 : PySem.W.keepIn K (.ref f40) = true)
    (a41 : PySem.W.nsIn K mainGlobals "_law_next" = some (some (.ref f41))) (l41 : K.lookup f41 = some ⟨oc41, od41, .func (PySem.W.fnOf "_law_next" "_law_next" (defArgs s__law_next) (defBody s__law_next) (defScope s__law_next) .none kV41 dc41 pm41 an41 cd41 ct41), sl41⟩) (c41 : PySem.W.codeIn K cd41 "_law_next" = true) (k41 : PySem.W.keepIn K (.ref f41) = true)
    (a42 : PySem.W.nsIn K mainGlobals "_law_step" = some (some (.ref f42))) (l42 : K.lookup f42 = some ⟨oc42, od42, .func (PySem.W.fnOf "_law_step" "_law_step" (defArgs s__law_step) (defBody s__law_step) (defScope s__law_step) .none kV42 dc42 pm42 an42 cd42 ct42), sl42⟩) (c42 : PySem.W.codeIn K cd42 "_law_step" = true) (k42 : PySem.W.keepIn K (.ref f42) = true)
    (a43 : PySem.W.nsIn K mainGlobals "_law_day" = some (some (.ref f43))) (l43 : K.lookup f43 = some ⟨oc43, od43, .func (PySem.W.fnOf "_law_day" "_law_day" (defArgs s__law_day) (defBody s__law_day) (defScope s__law_day) .none kV43 dc43 pm43 an43 cd43 ct43), sl43⟩) (c43 : PySem.W.codeIn K cd43 "_law_day" = true) (k43 : PySem.W.keepIn K (.ref f43) = true)
    (a44 : PySem.W.nsIn K mainGlobals "_law_arrows" = some (some (.ref f44))) (l44 : K.lookup f44 = some ⟨oc44, od44, .func (PySem.W.fnOf "_law_arrows" "_law_arrows" (defArgs s__law_arrows) (defBody s__law_arrows) (defScope s__law_arrows) .none kV44 dc44 pm44 an44 cd44 ct44), sl44⟩) (c44 : PySem.W.codeIn K cd44 "_law_arrows" = true) (k44 : PySem.W.keepIn K (.ref f44) = true)
    (a45 : PySem.W.nsIn K mainGlobals "_law_wide_web" = some (some (.ref f45))) (l45 : K.lookup f45 = some ⟨oc45, od45, .func (PySem.W.fnOf "_law_wide_web" "_law_wide_web" (defArgs s__law_wide_web) (defBody s__law_wide_web) (defScope s__law_wide_web) .none kV45 dc45 pm45 an45 cd45 ct45), sl45⟩) (c45 : PySem.W.codeIn K cd45 "_law_wide_web" = true) (k45 : PySem.W.keepIn K (.ref f45) = true)
    (a46 : PySem.W.nsIn K mainGlobals "_law_any_web" = some (some (.ref f46))) (l46 : K.lookup f46 = some ⟨oc46, od46, .func (PySem.W.fnOf "_law_any_web" "_law_any_web" (defArgs s__law_any_web) (defBody s__law_any_web) (defScope s__law_any_web) .none kV46 dc46 pm46 an46 cd46 ct46), sl46⟩) (c46 : PySem.W.codeIn K cd46 "_law_any_web" = true) (k46 : PySem.W.keepIn K (.ref f46) = true)
    (a47 : PySem.W.nsIn K mainGlobals "_law_apart" = some (some (.ref f47))) (l47 : K.lookup f47 = some ⟨oc47, od47, .func (PySem.W.fnOf "_law_apart" "_law_apart" (defArgs s__law_apart) (defBody s__law_apart) (defScope s__law_apart) .none kV47 dc47 pm47 an47 cd47 ct47), sl47⟩) (c47 : PySem.W.codeIn K cd47 "_law_apart" = true) (k47 : PySem.W.keepIn K (.ref f47) = true)
    (a48 : PySem.W.nsIn K mainGlobals "_law_swapped" = some (some (.ref f48))) (l48 : K.lookup f48 = some ⟨oc48, od48, .func (PySem.W.fnOf "_law_swapped" "_law_swapped" (defArgs s__law_swapped) (defBody s__law_swapped) (defScope s__law_swapped) .none kV48 dc48 pm48 an48 cd48 ct48), sl48⟩) (c48 : PySem.W.codeIn K cd48 "_law_swapped" = true) (k48 : PySem.W.keepIn K (.ref f48) = true)
    (a49 : PySem.W.nsIn K mainGlobals "_law_swaps" = some (some (.ref f49))) (l49 : K.lookup f49 = some ⟨oc49, od49, .func (PySem.W.fnOf "_law_swaps" "_law_swaps" (defArgs s__law_swaps) (defBody s__law_swaps) (defScope s__law_swaps) .none kV49 dc49 pm49 an49 cd49 ct49), sl49⟩) (c49 : PySem.W.codeIn K cd49 "_law_swaps" = true) (k49 : PySem.W.keepIn K (.ref f49) = true)
    (a50 : PySem.W.nsIn K mainGlobals "_law_like" = some (some (.ref f50))) (l50 : K.lookup f50 = some ⟨oc50, od50, .func (PySem.W.fnOf "_law_like" "_law_like" (defArgs s__law_like) (defBody s__law_like) (defScope s__law_like) .none kV50 dc50 pm50 an50 cd50 ct50), sl50⟩) (c50 : PySem.W.codeIn K cd50 "_law_like" = true) (k50 : PySem.W.keepIn K (.ref f50) = true)
    (a51 : PySem.W.nsIn K mainGlobals "_law_second" = some (some (.ref f51))) (l51 : K.lookup f51 = some ⟨oc51, od51, .func (PySem.W.fnOf "_law_second" "_law_second" (defArgs s__law_second) (defBody s__law_second) (defScope s__law_second) .none kV51 dc51 pm51 an51 cd51 ct51), sl51⟩) (c51 : PySem.W.codeIn K cd51 "_law_second" = true) (k51 : PySem.W.keepIn K (.ref f51) = true)
    (a52 : PySem.W.nsIn K mainGlobals "_law_is_plain" = some (some (.ref f52))) (l52 : K.lookup f52 = some ⟨oc52, od52, .func (PySem.W.fnOf "_law_is_plain" "_law_is_plain" (defArgs s__law_is_plain) (defBody s__law_is_plain) (defScope s__law_is_plain) .none kV52 dc52 pm52 an52 cd52 ct52), sl52⟩) (c52 : PySem.W.codeIn K cd52 "_law_is_plain" = true) (k52 : PySem.W.keepIn K (.ref f52) = true)
    (a53 : PySem.W.nsIn K mainGlobals "_law_parts" = some (some (.ref f53))) (l53 : K.lookup f53 = some ⟨oc53, od53, .func (PySem.W.fnOf "_law_parts" "_law_parts" (defArgs s__law_parts) (defBody s__law_parts) (defScope s__law_parts) .none kV53 dc53 pm53 an53 cd53 ct53), sl53⟩) (c53 : PySem.W.codeIn K cd53 "_law_parts" = true) (k53 : PySem.W.keepIn K (.ref f53) = true)
    (a54 : PySem.W.nsIn K mainGlobals "_law_drawn" = some (some (.ref f54))) (l54 : K.lookup f54 = some ⟨oc54, od54, .func (PySem.W.fnOf "_law_drawn" "_law_drawn" (defArgs s__law_drawn) (defBody s__law_drawn) (defScope s__law_drawn) .none kV54 dc54 pm54 an54 cd54 ct54), sl54⟩) (c54 : PySem.W.codeIn K cd54 "_law_drawn" = true) (k54 : PySem.W.keepIn K (.ref f54) = true)
    (a55 : PySem.W.nsIn K mainGlobals "_law_bent" = some (some (.ref f55))) (l55 : K.lookup f55 = some ⟨oc55, od55, .func (PySem.W.fnOf "_law_bent" "_law_bent" (defArgs s__law_bent) (defBody s__law_bent) (defScope s__law_bent) .none kV55 dc55 pm55 an55 cd55 ct55), sl55⟩) (c55 : PySem.W.codeIn K cd55 "_law_bent" = true) (k55 : PySem.W.keepIn K (.ref f55) = true)
    (a56 : PySem.W.nsIn K mainGlobals "_law_table" = some (some (.ref f56))) (l56 : K.lookup f56 = some ⟨oc56, od56, .func (PySem.W.fnOf "_law_table" "_law_table" (defArgs s__law_table) (defBody s__law_table) (defScope s__law_table) .none kV56 dc56 pm56 an56 cd56 ct56), sl56⟩) (c56 : PySem.W.codeIn K cd56 "_law_table" = true) (k56 : PySem.W.keepIn K (.ref f56) = true)
    (a57 : PySem.W.nsIn K mainGlobals "law" = some (some (.ref f57))) (l57 : K.lookup f57 = some ⟨oc57, od57, .func (PySem.W.fnOf "law" "law" (defArgs s_law) (defBody s_law) (defScope s_law) .none kV57 dc57 pm57 an57 cd57 ct57), sl57⟩) (c57 : PySem.W.codeIn K cd57 "law" = true) (k57 : PySem.W.keepIn K (.ref f57) = true)
    : ∃ fd : FuncData, (∀ (s : Shared) (u : Value), BindsTo s fd ⟨[u], []⟩ [("_law_script", u)]) ∧ ∀ bs : Heap, K.In bs → bs.Ns mainGlobals mg → FnG P w K mg bs 9 fa fd ["_law_script"] (spLaw K) := by
  have B := bn_of X G b
  have Bd := bd_of X G b
  have Gg : Gn mg := ⟨⟨_, PySem.W.mg_of X G g0⟩, ⟨_, PySem.W.mg_of X G g1⟩, ⟨_, PySem.W.mg_of X G g2⟩, ⟨_, PySem.W.mg_of X G g3⟩, ⟨_, PySem.W.mg_of X G g4⟩⟩
  have hm : ∃ t, mg "MOST_STATES" = some (.int 256 t) := ⟨_, PySem.W.mg_of X G g5⟩
  have Gr0 : Gr K mg := ⟨⟨_, PySem.W.mg_of X G aB, bare_sq lB (oc := .none)⟩, ⟨_, PySem.W.mg_of X G g6⟩⟩
  have hp : ∃ T, mg "PARTING_SORTS" = some (.ref T) ∧ ∀ H, SqT K H T (partL.map V.str) := ⟨_, PySem.W.mg_of X G aP, part_sq lP (oc := .none)⟩
  have F0 := fun_mk (st := s_is_integer) l0 c0 k0
  have h0 := PySem.W.mg_of X G a0
  have D0 : Dn K mg "is_integer" s_is_integer ["thing"] := ⟨_, _, F0, h0, F0.binds fun _ _ _ _ _ _ us hl => match us, hl with | [_], _ => rfl⟩
  have F1 := fun_mk (st := s_power) l1 c1 k1
  have h1 := PySem.W.mg_of X G a1
  have D1 : Dn K mg "power" s_power ["base", "exponent"] := ⟨_, _, F1, h1, F1.binds fun _ _ _ _ _ _ us hl => match us, hl with | [_, _], _ => rfl⟩
  have F2 := fun_mk (st := s_are_states) l2 c2 k2
  have h2 := PySem.W.mg_of X G a2
  have D2 : Dn K mg "are_states" s_are_states ["thing", "k", "many"] := ⟨_, _, F2, h2, F2.binds fun _ _ _ _ _ _ us hl => match us, hl with | [_, _, _], _ => rfl⟩
  have F3 := fun_mk (st := s_table_length) l3 c3 k3
  have h3 := PySem.W.mg_of X G a3
  have D3 : Dn K mg "table_length" s_table_length ["k", "near"] := ⟨_, _, F3, h3, F3.binds fun _ _ _ _ _ _ us hl => match us, hl with | [_, _], _ => rfl⟩
  have F4 := fun_mk (st := s_sum_length) l4 c4 k4
  have h4 := PySem.W.mg_of X G a4
  have D4 : Dn K mg "sum_length" s_sum_length ["k", "near"] := ⟨_, _, F4, h4, F4.binds fun _ _ _ _ _ _ us hl => match us, hl with | [_, _], _ => rfl⟩
  have F5 := fun_mk (st := s_is_rule) l5 c5 k5
  have h5 := PySem.W.mg_of X G a5
  have D5 : Dn K mg "is_rule" s_is_rule ["thing", "k", "near"] := ⟨_, _, F5, h5, F5.binds fun _ _ _ _ _ _ us hl => match us, hl with | [_, _, _], _ => rfl⟩
  have F6 := fun_mk (st := s__is_worth) l6 c6 k6
  have h6 := PySem.W.mg_of X G a6
  have D6 : Dn K mg "_is_worth" s__is_worth ["sort", "worth", "k", "near"] := ⟨_, _, F6, h6, F6.binds fun _ _ _ _ _ _ us hl => match us, hl with | [_, _, _, _], _ => rfl⟩
  have F7 := fun_mk (st := s__are_sums) l7 c7 k7
  have h7 := PySem.W.mg_of X G a7
  have D7 : Dn K mg "_are_sums" s__are_sums ["worth", "k", "near"] := ⟨_, _, F7, h7, F7.binds fun _ _ _ _ _ _ us hl => match us, hl with | [_, _, _], _ => rfl⟩
  have F8 := fun_mk (st := s_next_state) l8 c8 k8
  have h8 := PySem.W.mg_of X G a8
  have D8 : Dn K mg "next_state" s_next_state ["rule", "k", "near", "states"] := ⟨_, _, F8, h8, F8.binds fun _ _ _ _ _ _ us hl => match us, hl with | [_, _, _, _], _ => rfl⟩
  have F9 := fun_mk (st := s__table_index) l9 c9 k9
  have h9 := PySem.W.mg_of X G a9
  have D9 : Dn K mg "_table_index" s__table_index ["k", "states"] := ⟨_, _, F9, h9, F9.binds fun _ _ _ _ _ _ us hl => match us, hl with | [_, _], _ => rfl⟩
  have F10 := fun_mk (st := s_is_name) l10 c10 k10
  have h10 := PySem.W.mg_of X G a10
  have D10 : Dn K mg "is_name" s_is_name ["thing"] := ⟨_, _, F10, h10, F10.binds fun _ _ _ _ _ _ us hl => match us, hl with | [_], _ => rfl⟩
  have F11 := fun_mk (st := s_is_web) l11 c11 k11
  have h11 := PySem.W.mg_of X G a11
  have D11 : Dn K mg "is_web" s_is_web ["thing"] := ⟨_, _, F11, h11, F11.binds fun _ _ _ _ _ _ us hl => match us, hl with | [_], _ => rfl⟩
  have F12 := fun_mk (st := s__are_places) l12 c12 k12
  have h12 := PySem.W.mg_of X G a12
  have D12 : Dn K mg "_are_places" s__are_places ["thing"] := ⟨_, _, F12, h12, F12.binds fun _ _ _ _ _ _ us hl => match us, hl with | [_], _ => rfl⟩
  have F13 := fun_mk (st := s__are_roads) l13 c13 k13
  have h13 := PySem.W.mg_of X G a13
  have D13 : Dn K mg "_are_roads" s__are_roads ["thing", "places"] := ⟨_, _, F13, h13, F13.binds fun _ _ _ _ _ _ us hl => match us, hl with | [_, _], _ => rfl⟩
  have F14 := fun_mk (st := s__is_road) l14 c14 k14
  have h14 := PySem.W.mg_of X G a14
  have D14 : Dn K mg "_is_road" s__is_road ["thing", "places"] := ⟨_, _, F14, h14, F14.binds fun _ _ _ _ _ _ us hl => match us, hl with | [_, _], _ => rfl⟩
  have F15 := fun_mk (st := s_is_one_of) l15 c15 k15
  have h15 := PySem.W.mg_of X G a15
  have D15 : Dn K mg "is_one_of" s_is_one_of ["thing", "places"] := ⟨_, _, F15, h15, F15.binds fun _ _ _ _ _ _ us hl => match us, hl with | [_, _], _ => rfl⟩
  have F16 := fun_mk (st := s_need_web) l16 c16 k16
  have h16 := PySem.W.mg_of X G a16
  have D16 : Dn K mg "need_web" s_need_web ["web"] := ⟨_, _, F16, h16, F16.binds fun _ _ _ _ _ _ us hl => match us, hl with | [_], _ => rfl⟩
  have F17 := fun_mk (st := s_need_order) l17 c17 k17
  have h17 := PySem.W.mg_of X G a17
  have D17 : Dn K mg "need_order" s_need_order ["web", "order"] := ⟨_, _, F17, h17, F17.binds fun _ _ _ _ _ _ us hl => match us, hl with | [_, _], _ => rfl⟩
  have F18 := fun_mk (st := s_is_order) l18 c18 k18
  have h18 := PySem.W.mg_of X G a18
  have D18 : Dn K mg "is_order" s_is_order ["web", "thing"] := ⟨_, _, F18, h18, F18.binds fun _ _ _ _ _ _ us hl => match us, hl with | [_, _], _ => rfl⟩
  have F19 := fun_mk (st := s_are_joined) l19 c19 k19
  have h19 := PySem.W.mg_of X G a19
  have D19 : Dn K mg "are_joined" s_are_joined ["web", "one", "other"] := ⟨_, _, F19, h19, F19.binds fun _ _ _ _ _ _ us hl => match us, hl with | [_, _, _], _ => rfl⟩
  have F20 := fun_mk (st := s_near_of) l20 c20 k20
  have h20 := PySem.W.mg_of X G a20
  have D20 : Dn K mg "near_of" s_near_of ["web", "place"] := ⟨_, _, F20, h20, F20.binds fun _ _ _ _ _ _ us hl => match us, hl with | [_, _], _ => rfl⟩
  have F21 := fun_mk (st := s_is_hall) l21 c21 k21
  have h21 := PySem.W.mg_of X G a21
  have D21 : Dn K mg "is_hall" s_is_hall ["thing"] := ⟨_, _, F21, h21, F21.binds fun _ _ _ _ _ _ us hl => match us, hl with | [_], _ => rfl⟩
  have F22 := fun_mk (st := s__are_rules) l22 c22 k22
  have h22 := PySem.W.mg_of X G a22
  have D22 : Dn K mg "_are_rules" s__are_rules ["thing", "k", "web"] := ⟨_, _, F22, h22, F22.binds fun _ _ _ _ _ _ us hl => match us, hl with | [_, _, _], _ => rfl⟩
  have F23 := fun_mk (st := s_is_state) l23 c23 k23
  have h23 := PySem.W.mg_of X G a23
  have D23 : Dn K mg "is_state" s_is_state ["hall", "thing"] := ⟨_, _, F23, h23, F23.binds fun _ _ _ _ _ _ us hl => match us, hl with | [_, _], _ => rfl⟩
  have F24 := fun_mk (st := s_need_ordered) l24 c24 k24
  have h24 := PySem.W.mg_of X G a24
  have D24 : Dn K mg "need_ordered" s_need_ordered ["web", "order"] := ⟨_, _, F24, h24, F24.binds fun _ _ _ _ _ _ us hl => match us, hl with | [_, _], _ => rfl⟩
  have F25 := fun_mk (st := s_need_two_orders) l25 c25 k25
  have h25 := PySem.W.mg_of X G a25
  have D25 : Dn K mg "need_two_orders" s_need_two_orders ["web", "order", "other"] := ⟨_, _, F25, h25, F25.binds fun _ _ _ _ _ _ us hl => match us, hl with | [_, _, _], _ => rfl⟩
  have F26 := fun_mk (st := s_arrows_of) l26 c26 k26
  have h26 := PySem.W.mg_of X G a26
  have D26 : Dn K mg "arrows_of" s_arrows_of ["web", "order"] := ⟨_, _, F26, h26, F26.binds fun _ _ _ _ _ _ us hl => match us, hl with | [_, _], _ => rfl⟩
  have F27 := fun_mk (st := s__pointed) l27 c27 k27
  have h27 := PySem.W.mg_of X G a27
  have D27 : Dn K mg "_pointed" s__pointed ["order", "one", "other"] := ⟨_, _, F27, h27, F27.binds fun _ _ _ _ _ _ us hl => match us, hl with | [_, _, _], _ => rfl⟩
  have F28 := fun_mk (st := s__looks_at) l28 c28 k28
  have h28 := PySem.W.mg_of X G a28
  have D28 : Dn K mg "_looks_at" s__looks_at ["web", "number"] := ⟨_, _, F28, h28, F28.binds fun _ _ _ _ _ _ us hl => match us, hl with | [_, _], _ => rfl⟩
  have F29 := fun_mk (st := s_stepped) l29 c29 k29
  have h29 := PySem.W.mg_of X G a29
  have D29 : Dn K mg "stepped" s_stepped ["hall", "state", "place"] := ⟨_, _, F29, h29, F29.binds fun _ _ _ _ _ _ us hl => match us, hl with | [_, _, _], _ => rfl⟩
  have F30 := fun_mk (st := s_passed) l30 c30 k30
  have h30 := PySem.W.mg_of X G a30
  have D30 : Dn K mg "passed" s_passed ["hall", "order", "state"] := ⟨_, _, F30, h30, F30.binds fun _ _ _ _ _ _ us hl => match us, hl with | [_, _, _], _ => rfl⟩
  have F31 := fun_mk (st := s_parting) l31 c31 k31
  have h31 := PySem.W.mg_of X G a31
  have D31 : Dn K mg "parting" s_parting ["web", "order", "other"] := ⟨_, _, F31, h31, F31.binds fun _ _ _ _ _ _ us hl => match us, hl with | [_, _, _], _ => rfl⟩
  have F32 := fun_mk (st := s_parting_holds) l32 c32 k32
  have h32 := PySem.W.mg_of X G a32
  have D32 : Dn K mg "parting_holds" s_parting_holds ["web", "order", "other", "thing"] := ⟨_, _, F32, h32, F32.binds fun _ _ _ _ _ _ us hl => match us, hl with | [_, _, _, _], _ => rfl⟩
  have F33 := fun_mk (st := s__law_feed) l33 c33 k33
  have h33 := PySem.W.mg_of X G a33
  have D33 : Dn K mg "_law_feed" s__law_feed ["_law_script", "_law_k"] := ⟨_, _, F33, h33, F33.binds fun _ _ _ _ _ _ us hl => match us, hl with | [_, _], _ => rfl⟩
  have F34 := fun_mk (st := s__law_draw) l34 c34 k34
  have h34 := PySem.W.mg_of X G a34
  have D34 : Dn K mg "_law_draw" s__law_draw ["_law_feed_here", "_law_many"] := ⟨_, _, F34, h34, F34.binds fun _ _ _ _ _ _ us hl => match us, hl with | [_, _], _ => rfl⟩
  have F35 := fun_mk (st := s__law_one) l35 c35 k35
  have h35 := PySem.W.mg_of X G a35
  have D35 : Dn K mg "_law_one" s__law_one ["_law_feed_here", "_law_things"] := ⟨_, _, F35, h35, F35.binds fun _ _ _ _ _ _ us hl => match us, hl with | [_, _], _ => rfl⟩
  have F36 := fun_mk (st := s__law_mixed) l36 c36 k36
  have h36 := PySem.W.mg_of X G a36
  have D36 : Dn K mg "_law_mixed" s__law_mixed ["_law_feed_here", "_law_things"] := ⟨_, _, F36, h36, F36.binds fun _ _ _ _ _ _ us hl => match us, hl with | [_, _], _ => rfl⟩
  have F37 := fun_mk (st := s__law_names) l37 c37 k37
  have h37 := PySem.W.mg_of X G a37
  have D37 : Dn K mg "_law_names" s__law_names ["_law_feed_here", "_law_many"] := ⟨_, _, F37, h37, F37.binds fun _ _ _ _ _ _ us hl => match us, hl with | [_, _], _ => rfl⟩
  have F38 := fun_mk (st := s__law_web) l38 c38 k38
  have h38 := PySem.W.mg_of X G a38
  have D38 : Dn K mg "_law_web" s__law_web ["_law_feed_here", "_law_way", "_law_most"] := ⟨_, _, F38, h38, F38.binds fun _ _ _ _ _ _ us hl => match us, hl with | [_, _, _], _ => rfl⟩
  have F39 := fun_mk (st := s__law_neighbours) l39 c39 k39
  have h39 := PySem.W.mg_of X G a39
  have D39 : Dn K mg "_law_neighbours" s__law_neighbours ["_law_web_here", "_law_place"] := ⟨_, _, F39, h39, F39.binds fun _ _ _ _ _ _ us hl => match us, hl with | [_, _], _ => rfl⟩
  have F40 := fun_mk (st := s__law_order) l40 c40 k40
  have h40 := PySem.W.mg_of X G a40
  have D40 : Dn K mg "_law_order" s__law_order ["_law_feed_here", "_law_web_here"] := ⟨_, _, F40, h40, F40.binds fun _ _ _ _ _ _ us hl => match us, hl with | [_, _], _ => rfl⟩
  have F41 := fun_mk (st := s__law_next) l41 c41 k41
  have h41 := PySem.W.mg_of X G a41
  have D41 : Dn K mg "_law_next" s__law_next ["_law_hall", "_law_state", "_law_place"] := ⟨_, _, F41, h41, F41.binds fun _ _ _ _ _ _ us hl => match us, hl with | [_, _, _], _ => rfl⟩
  have F42 := fun_mk (st := s__law_step) l42 c42 k42
  have h42 := PySem.W.mg_of X G a42
  have D42 : Dn K mg "_law_step" s__law_step ["_law_hall", "_law_state", "_law_place"] := ⟨_, _, F42, h42, F42.binds fun _ _ _ _ _ _ us hl => match us, hl with | [_, _, _], _ => rfl⟩
  have F43 := fun_mk (st := s__law_day) l43 c43 k43
  have h43 := PySem.W.mg_of X G a43
  have D43 : Dn K mg "_law_day" s__law_day ["_law_hall", "_law_order_here", "_law_state"] := ⟨_, _, F43, h43, F43.binds fun _ _ _ _ _ _ us hl => match us, hl with | [_, _, _], _ => rfl⟩
  have F44 := fun_mk (st := s__law_arrows) l44 c44 k44
  have h44 := PySem.W.mg_of X G a44
  have D44 : Dn K mg "_law_arrows" s__law_arrows ["_law_web_here", "_law_order_here"] := ⟨_, _, F44, h44, F44.binds fun _ _ _ _ _ _ us hl => match us, hl with | [_, _], _ => rfl⟩
  have F45 := fun_mk (st := s__law_wide_web) l45 c45 k45
  have h45 := PySem.W.mg_of X G a45
  have D45 : Dn K mg "_law_wide_web" s__law_wide_web ["_law_feed_here", "_law_most"] := ⟨_, _, F45, h45, F45.binds fun _ _ _ _ _ _ us hl => match us, hl with | [_, _], _ => rfl⟩
  have F46 := fun_mk (st := s__law_any_web) l46 c46 k46
  have h46 := PySem.W.mg_of X G a46
  have D46 : Dn K mg "_law_any_web" s__law_any_web ["_law_feed_here", "_law_most"] := ⟨_, _, F46, h46, F46.binds fun _ _ _ _ _ _ us hl => match us, hl with | [_, _], _ => rfl⟩
  have F47 := fun_mk (st := s__law_apart) l47 c47 k47
  have h47 := PySem.W.mg_of X G a47
  have D47 : Dn K mg "_law_apart" s__law_apart ["_law_web_here", "_law_one_here", "_law_other"] := ⟨_, _, F47, h47, F47.binds fun _ _ _ _ _ _ us hl => match us, hl with | [_, _, _], _ => rfl⟩
  have F48 := fun_mk (st := s__law_swapped) l48 c48 k48
  have h48 := PySem.W.mg_of X G a48
  have D48 : Dn K mg "_law_swapped" s__law_swapped ["_law_order_here", "_law_at"] := ⟨_, _, F48, h48, F48.binds fun _ _ _ _ _ _ us hl => match us, hl with | [_, _], _ => rfl⟩
  have F49 := fun_mk (st := s__law_swaps) l49 c49 k49
  have h49 := PySem.W.mg_of X G a49
  have D49 : Dn K mg "_law_swaps" s__law_swaps ["_law_web_here", "_law_order_here"] := ⟨_, _, F49, h49, F49.binds fun _ _ _ _ _ _ us hl => match us, hl with | [_, _], _ => rfl⟩
  have F50 := fun_mk (st := s__law_like) l50 c50 k50
  have h50 := PySem.W.mg_of X G a50
  have D50 : Dn K mg "_law_like" s__law_like ["_law_feed_here", "_law_web_here", "_law_order_here", "_law_many"] := ⟨_, _, F50, h50, F50.binds fun _ _ _ _ _ _ us hl => match us, hl with | [_, _, _, _], _ => rfl⟩
  have F51 := fun_mk (st := s__law_second) l51 c51 k51
  have h51 := PySem.W.mg_of X G a51
  have D51 : Dn K mg "_law_second" s__law_second ["_law_feed_here", "_law_web_here", "_law_order_here"] := ⟨_, _, F51, h51, F51.binds fun _ _ _ _ _ _ us hl => match us, hl with | [_, _, _], _ => rfl⟩
  have F52 := fun_mk (st := s__law_is_plain) l52 c52 k52
  have h52 := PySem.W.mg_of X G a52
  have D52 : Dn K mg "_law_is_plain" s__law_is_plain ["_law_web_here", "_law_place", "_law_thing"] := ⟨_, _, F52, h52, F52.binds fun _ _ _ _ _ _ us hl => match us, hl with | [_, _, _], _ => rfl⟩
  have F53 := fun_mk (st := s__law_parts) l53 c53 k53
  have h53 := PySem.W.mg_of X G a53
  have D53 : Dn K mg "_law_parts" s__law_parts ["_law_web_here", "_law_order_here", "_law_other", "_law_thing"] := ⟨_, _, F53, h53, F53.binds fun _ _ _ _ _ _ us hl => match us, hl with | [_, _, _, _], _ => rfl⟩
  have F54 := fun_mk (st := s__law_drawn) l54 c54 k54
  have h54 := PySem.W.mg_of X G a54
  have D54 : Dn K mg "_law_drawn" s__law_drawn ["_law_feed_here", "_law_web_here"] := ⟨_, _, F54, h54, F54.binds fun _ _ _ _ _ _ us hl => match us, hl with | [_, _], _ => rfl⟩
  have F55 := fun_mk (st := s__law_bent) l55 c55 k55
  have h55 := PySem.W.mg_of X G a55
  have D55 : Dn K mg "_law_bent" s__law_bent ["_law_feed_here", "_law_web_here", "_law_thing"] := ⟨_, _, F55, h55, F55.binds fun _ _ _ _ _ _ us hl => match us, hl with | [_, _, _], _ => rfl⟩
  have F56 := fun_mk (st := s__law_table) l56 c56 k56
  have h56 := PySem.W.mg_of X G a56
  have D56 : Dn K mg "_law_table" s__law_table ["_law_web_here", "_law_place", "_law_rule"] := ⟨_, _, F56, h56, F56.binds fun _ _ _ _ _ _ us hl => match us, hl with | [_, _, _], _ => rfl⟩
  have F57 := fun_mk (st := s_law) l57 c57 k57
  have h57 := PySem.W.mg_of X G a57
  have e := hfa.symm.trans h57
  cases e
  have DK_is_web : Dk K mg "is_web" s_is_web ["thing"] ["thing"] := ⟨_, _, F11, h11, kb1 rfl fun _ => rfl⟩
  have DK_is_hall : Dk K mg "is_hall" s_is_hall ["thing"] ["thing"] := ⟨_, _, F21, h21, kb1 rfl fun _ => rfl⟩
  have DK_parting : Dk K mg "parting" s_parting ["web", "order", "other"] ["other", "order", "web"] := ⟨_, _, F31, h31, kb3 rfl fun _ _ _ => rfl⟩
  have DK_parting_holds : Dk K mg "parting_holds" s_parting_holds ["web", "order", "other", "thing"] ["thing", "other", "order", "web"] := ⟨_, _, F32, h32, kb4 rfl fun _ _ _ _ => rfl⟩
  refine ⟨PySem.W.fnOf "law" "law" (defArgs s_law) (defBody s_law) (defScope s_law) .none kV57 dc57 pm57 an57 cd57 ct57, fun s u => .of_eq rfl, fun bs _ _ => ?_⟩
  have r_C__law_draw := ok_draw (P := P) (w := w) (base := bs)  D34 B
  have r_C__law_one := ok_one (P := P) (w := w) (base := bs)  D35 B r_C__law_draw
  have r_C__law_mixed := ok_mixed (P := P) (w := w) (base := bs)  D36 B r_C__law_draw
  have r_C__law_names := ok_names (P := P) (w := w) (base := bs)  D37 B r_C__law_mixed
  have r_C__law_web := ok_web (P := P) (w := w) (base := bs)  D38 B r_C__law_draw r_C__law_mixed r_C__law_names
  have r_C__law_neighbours := ok_near (P := P) (w := w) (base := bs)  D39 B
  have r_C_is_integer := ok_is_intO (P := P) (w := w) (base := bs)  D0 B
  have r_C_power := ok_power (P := P) (w := w) (base := bs)  D1 B
  have r_C_table_length := ok_table_length (P := P) (w := w) (base := bs)  D3 B r_C_power
  have r_C_sum_length := ok_sum_length (P := P) (w := w) (base := bs)  D4 B
  have r_C_are_states := ok_are_statesO (P := P) (w := w) (base := bs)  D2 B r_C_is_integer
  have r_C__are_sums := ok_are_sumsO (P := P) (w := w) (base := bs)  D7 B r_C_sum_length r_C_are_states
  have r_C_is_name := ok_is_nameO (P := P) (w := w) (base := bs)  D10 B Gg
  have r_C_is_one_of := ok_is_oneO (P := P) (w := w) (base := bs)  D15 B
  have r_C__is_road := ok_is_roadO (P := P) (w := w) (base := bs)  D14 B r_C_is_one_of
  have r_C__are_places := ok_are_placesO (P := P) (w := w) (base := bs)  D12 B Gg r_C_is_name
  have r_C__are_roads := ok_are_roadsO (P := P) (w := w) (base := bs)  D13 B Gg r_C__is_road
  have r_C_is_web := ok_is_webO (P := P) (w := w) (base := bs)  D11 B r_C__are_places r_C__are_roads
  have r_K_is_web := ok_is_webOK (P := P) (w := w) (base := bs)  DK_is_web B r_C__are_places r_C__are_roads
  have r_C_are_joined := ok_are_joined (P := P) (w := w) (base := bs)  D19 B
  have r_C_near_of := ok_near_of (P := P) (w := w) (base := bs)  D20 B r_C_are_joined
  have r_C__is_worth := ok_is_worthO (P := P) (w := w) (base := bs)  D6 B Gr0 r_C_table_length r_C_are_states r_C__are_sums r_C_is_integer
  have r_C_is_rule := ok_is_ruleO (P := P) (w := w) (base := bs)  D5 B Gr0 r_C__is_worth
  have r_C__are_rules := ok_are_rulesO (P := P) (w := w) (base := bs)  D22 B r_C_is_rule r_C_near_of
  have r_C_is_hall := ok_is_hallO (P := P) (w := w) (base := bs)  D21 B hm r_C_is_integer r_C_is_web r_C_power r_C__are_rules
  have r_K_is_hall := ok_is_hallOK (P := P) (w := w) (base := bs)  DK_is_hall B hm r_C_is_integer r_C_is_web r_C_power r_C__are_rules
  have r_C__table_index := ok_table_index (P := P) (w := w) (base := bs)  D9 B
  have r_C_next_state := ok_next_state (P := P) (w := w) (base := bs)  D8 B r_C__table_index
  have r_C__looks_at := ok_looks_at (P := P) (w := w) (base := bs)  D28 B r_C_near_of
  have r_C_stepped := ok_stepped (P := P) (w := w) (base := bs)  D29 B r_C__looks_at r_C_next_state
  have r_C_passed := ok_passed (P := P) (w := w) (base := bs)  D30 B r_C_stepped
  have r_C_is_one_of_spIsOneOf := ok_is_oneW (P := P) (w := w) (base := bs)  D15 B r_C_is_one_of
  have r_C_is_web_spIsWeb := ok_is_webW (P := P) (w := w) (base := bs)  D11 B r_C_is_web
  have r_C_need_web := ok_need_web (P := P) (w := w) (base := bs)  D16 B r_C_is_web_spIsWeb
  have r_C_is_order := ok_is_order (P := P) (w := w) (base := bs)  D18 B r_C_is_one_of_spIsOneOf
  have r_C_need_order := ok_need_order (P := P) (w := w) (base := bs)  D17 B r_C_is_order
  have r_C_need_ordered := ok_need_ordered (P := P) (w := w) (base := bs)  D24 B r_C_need_web r_C_need_order
  have r_C__pointed := ok_pointed (P := P) (w := w) (base := bs)  D27 B
  have r_C_arrows_of := ok_arrows_of (P := P) (w := w) (base := bs)  D26 B r_C__pointed
  have r_C__law_next := ok_lnext (P := P) (w := w) (base := bs)  D41 B r_C__law_neighbours
  have r_C__law_step := ok_lstep (P := P) (w := w) (base := bs)  D42 B r_C__law_next
  have r_C__law_day := ok_lday (P := P) (w := w) (base := bs)  D43 B r_C__law_step
  have r_C__law_mixed_spMixedT := ok_mixedT (P := P) (w := w) (base := bs)  D36 B r_C__law_draw
  have r_C__law_order := ok_orderF (P := P) (w := w) (base := bs)  D40 B r_C__law_mixed_spMixedT
  have r_C__law_wide_web := ok_wide_web (P := P) (w := w) (base := bs)  D45 B r_C__law_draw r_C__law_mixed r_C__law_names
  have r_C__law_arrows := ok_law_arrows (P := P) (w := w) (base := bs)  D44 B
  have r_C__law_swapped := ok_swapped (P := P) (w := w) (base := bs)  D48 B
  have r_C_need_two_orders := ok_need_two (P := P) (w := w) (base := bs)  D25 B r_C_need_ordered r_C_need_order
  have r_C__law_apart := ok_apart (P := P) (w := w) (base := bs)  D47 B
  have r_C__law_swaps := ok_swaps (P := P) (w := w) (base := bs)  D49 B r_C__law_apart
  have r_C__law_like := ok_like (P := P) (w := w) (base := bs)  D50 B r_C__law_draw r_C__law_one r_C__law_swaps r_C__law_swapped
  have r_C__law_second := ok_second (P := P) (w := w) (base := bs)  D51 B r_C__law_draw r_C__law_order r_C__law_like r_C__law_swapped
  have r_C_parting := ok_parting (P := P) (w := w) (base := bs)  D31 B r_C_need_two_orders r_C_arrows_of
  have r_C_is_state := ok_is_stateO (P := P) (w := w) (base := bs)  D23 B r_C_are_states
  have r_C_parting_holds := ok_parting_holds (P := P) (w := w) (base := bs)  D32 B hp r_C_need_two_orders r_C_is_hall r_C_is_state r_C_passed
  have r_C__law_is_plain := ok_lplain (P := P) (w := w) (base := bs)  D52 B r_C__law_neighbours
  have r_C__law_parts := ok_lparts (P := P) (w := w) (base := bs)  D53 B r_C__law_is_plain r_C__law_day
  have r_C__law_drawn := ok_ldrawn (P := P) (w := w) (base := bs)  D54 B r_C__law_draw r_C__law_one r_C__law_neighbours
  have r_C__law_table := ok_ltable (P := P) (w := w) (base := bs)  D56 B r_C__law_neighbours
  have r_C__law_bent := ok_lbent (P := P) (w := w) (base := bs)  D55 B r_C__law_draw r_C__law_one r_C__law_table
  have r_K_parting := ok_partingK (P := P) (w := w) (base := bs)  DK_parting B r_C_need_two_orders r_C_arrows_of
  have r_K_parting_holds := ok_parting_holdsK (P := P) (w := w) (base := bs)  DK_parting_holds B hp r_C_need_two_orders r_C_is_hall r_C_is_state r_C_passed
  have r_C__law_feed := ok_feed (P := P) (w := w) (base := bs)  D33 B
  have r_C__law_any_web := ok_any_web (P := P) (w := w) (base := bs)  D46 B r_C__law_draw r_C__law_one r_C__law_web r_C__law_wide_web
  exact ok_law (P := P) (w := w) (base := bs)  F57 B r_C__law_feed r_C__law_any_web r_C__law_order r_C__law_one r_C__law_second r_C_parting r_K_parting r_C__law_arrows r_C__law_parts r_C__law_drawn r_C__law_bent r_C_parting_holds r_K_parting_holds
end
end J
open PySem PySem.W PyProof.Rows in
set_option maxRecDepth 100000 in
set_option maxHeartbeats 0 in
theorem PySem.Challenge.cw_eachinturn_k34_rules_that_part_orders_holds : PySem.Challenge.rw_eachinturn_k34_rules_that_part_orders.Holds := by
  refine k34_top ?_
  k_fill
  refine J.walk_ofG (l := PySem.Challenge.rw_eachinturn_k34_rules_that_part_orders) (n := 63) (k := 9) (x := "_law_script") (sp := fun K => J.spLaw K) rfl (by decide) rfl ⟨rfl, by decide, by decide⟩ (fun w h Y => PySem.W.kIn_of Y) ?F (fun K H a ns hl _ hS => ⟨a, ns, rfl, hS, hl, fun _ => rfl⟩)
  case F =>
    intro w mg fa h KX G hmg
    refine' J.all_mk KX G hmg ?u_bs ?u_g0 ?u_g1 ?u_g2 ?u_g3 ?u_g4 ?u_g5 ?u_g6 ?u_aB ?u_lB ?u_aP ?u_lP ?u_a0 ?u_l0 ?u_c0 ?u_k0 ?u_a1 ?u_l1 ?u_c1 ?u_k1 ?u_a2 ?u_l2 ?u_c2 ?u_k2 ?u_a3 ?u_l3 ?u_c3 ?u_k3 ?u_a4 ?u_l4 ?u_c4 ?u_k4 ?u_a5 ?u_l5 ?u_c5 ?u_k5 ?u_a6 ?u_l6 ?u_c6 ?u_k6 ?u_a7 ?u_l7 ?u_c7 ?u_k7 ?u_a8 ?u_l8 ?u_c8 ?u_k8 ?u_a9 ?u_l9 ?u_c9 ?u_k9 ?u_a10 ?u_l10 ?u_c10 ?u_k10 ?u_a11 ?u_l11 ?u_c11 ?u_k11 ?u_a12 ?u_l12 ?u_c12 ?u_k12 ?u_a13 ?u_l13 ?u_c13 ?u_k13 ?u_a14 ?u_l14 ?u_c14 ?u_k14 ?u_a15 ?u_l15 ?u_c15 ?u_k15 ?u_a16 ?u_l16 ?u_c16 ?u_k16 ?u_a17 ?u_l17 ?u_c17 ?u_k17 ?u_a18 ?u_l18 ?u_c18 ?u_k18 ?u_a19 ?u_l19 ?u_c19 ?u_k19 ?u_a20 ?u_l20 ?u_c20 ?u_k20 ?u_a21 ?u_l21 ?u_c21 ?u_k21 ?u_a22 ?u_l22 ?u_c22 ?u_k22 ?u_a23 ?u_l23 ?u_c23 ?u_k23 ?u_a24 ?u_l24 ?u_c24 ?u_k24 ?u_a25 ?u_l25 ?u_c25 ?u_k25 ?u_a26 ?u_l26 ?u_c26 ?u_k26 ?u_a27 ?u_l27 ?u_c27 ?u_k27 ?u_a28 ?u_l28 ?u_c28 ?u_k28 ?u_a29 ?u_l29 ?u_c29 ?u_k29 ?u_a30 ?u_l30 ?u_c30 ?u_k30 ?u_a31 ?u_l31 ?u_c31 ?u_k31 ?u_a32 ?u_l32 ?u_c32 ?u_k32 ?u_a33 ?u_l33 ?u_c33 ?u_k33 ?u_a34 ?u_l34 ?u_c34 ?u_k34 ?u_a35 ?u_l35 ?u_c35 ?u_k35 ?u_a36 ?u_l36 ?u_c36 ?u_k36 ?u_a37 ?u_l37 ?u_c37 ?u_k37 ?u_a38 ?u_l38 ?u_c38 ?u_k38 ?u_a39 ?u_l39 ?u_c39 ?u_k39 ?u_a40 ?u_l40 ?u_c40 ?u_k40 ?u_a41 ?u_l41 ?u_c41 ?u_k41 ?u_a42 ?u_l42 ?u_c42 ?u_k42 ?u_a43 ?u_l43 ?u_c43 ?u_k43 ?u_a44 ?u_l44 ?u_c44 ?u_k44 ?u_a45 ?u_l45 ?u_c45 ?u_k45 ?u_a46 ?u_l46 ?u_c46 ?u_k46 ?u_a47 ?u_l47 ?u_c47 ?u_k47 ?u_a48 ?u_l48 ?u_c48 ?u_k48 ?u_a49 ?u_l49 ?u_c49 ?u_k49 ?u_a50 ?u_l50 ?u_c50 ?u_k50 ?u_a51 ?u_l51 ?u_c51 ?u_k51 ?u_a52 ?u_l52 ?u_c52 ?u_k52 ?u_a53 ?u_l53 ?u_c53 ?u_k53 ?u_a54 ?u_l54 ?u_c54 ?u_k54 ?u_a55 ?u_l55 ?u_c55 ?u_k55 ?u_a56 ?u_l56 ?u_c56 ?u_k56 ?u_a57 ?u_l57 ?u_c57 ?u_k57
    (case u_g0 => k_is)
    (case u_g1 => k_is)
    (case u_g2 => k_is)
    (case u_g3 => k_is)
    (case u_g4 => k_is)
    (case u_g5 => k_is)
    (case u_g6 => k_is)
    (case u_aB => k_is)
    (case u_lB => k_is)
    (case u_aP => k_is)
    (case u_lP => k_is)
    (case u_a0 => k_is)
    (case u_l0 => k_is)
    (case u_c0 => k_is)
    (case u_k0 => k_is)
    (case u_a1 => k_is)
    (case u_l1 => k_is)
    (case u_c1 => k_is)
    (case u_k1 => k_is)
    (case u_a2 => k_is)
    (case u_l2 => k_is)
    (case u_c2 => k_is)
    (case u_k2 => k_is)
    (case u_a3 => k_is)
    (case u_l3 => k_is)
    (case u_c3 => k_is)
    (case u_k3 => k_is)
    (case u_a4 => k_is)
    (case u_l4 => k_is)
    (case u_c4 => k_is)
    (case u_k4 => k_is)
    (case u_a5 => k_is)
    (case u_l5 => k_is)
    (case u_c5 => k_is)
    (case u_k5 => k_is)
    (case u_a6 => k_is)
    (case u_l6 => k_is)
    (case u_c6 => k_is)
    (case u_k6 => k_is)
    (case u_a7 => k_is)
    (case u_l7 => k_is)
    (case u_c7 => k_is)
    (case u_k7 => k_is)
    (case u_a8 => k_is)
    (case u_l8 => k_is)
    (case u_c8 => k_is)
    (case u_k8 => k_is)
    (case u_a9 => k_is)
    (case u_l9 => k_is)
    (case u_c9 => k_is)
    (case u_k9 => k_is)
    (case u_a10 => k_is)
    (case u_l10 => k_is)
    (case u_c10 => k_is)
    (case u_k10 => k_is)
    (case u_a11 => k_is)
    (case u_l11 => k_is)
    (case u_c11 => k_is)
    (case u_k11 => k_is)
    (case u_a12 => k_is)
    (case u_l12 => k_is)
    (case u_c12 => k_is)
    (case u_k12 => k_is)
    (case u_a13 => k_is)
    (case u_l13 => k_is)
    (case u_c13 => k_is)
    (case u_k13 => k_is)
    (case u_a14 => k_is)
    (case u_l14 => k_is)
    (case u_c14 => k_is)
    (case u_k14 => k_is)
    (case u_a15 => k_is)
    (case u_l15 => k_is)
    (case u_c15 => k_is)
    (case u_k15 => k_is)
    (case u_a16 => k_is)
    (case u_l16 => k_is)
    (case u_c16 => k_is)
    (case u_k16 => k_is)
    (case u_a17 => k_is)
    (case u_l17 => k_is)
    (case u_c17 => k_is)
    (case u_k17 => k_is)
    (case u_a18 => k_is)
    (case u_l18 => k_is)
    (case u_c18 => k_is)
    (case u_k18 => k_is)
    (case u_a19 => k_is)
    (case u_l19 => k_is)
    (case u_c19 => k_is)
    (case u_k19 => k_is)
    (case u_a20 => k_is)
    (case u_l20 => k_is)
    (case u_c20 => k_is)
    (case u_k20 => k_is)
    (case u_a21 => k_is)
    (case u_l21 => k_is)
    (case u_c21 => k_is)
    (case u_k21 => k_is)
    (case u_a22 => k_is)
    (case u_l22 => k_is)
    (case u_c22 => k_is)
    (case u_k22 => k_is)
    (case u_a23 => k_is)
    (case u_l23 => k_is)
    (case u_c23 => k_is)
    (case u_k23 => k_is)
    (case u_a24 => k_is)
    (case u_l24 => k_is)
    (case u_c24 => k_is)
    (case u_k24 => k_is)
    (case u_a25 => k_is)
    (case u_l25 => k_is)
    (case u_c25 => k_is)
    (case u_k25 => k_is)
    (case u_a26 => k_is)
    (case u_l26 => k_is)
    (case u_c26 => k_is)
    (case u_k26 => k_is)
    (case u_a27 => k_is)
    (case u_l27 => k_is)
    (case u_c27 => k_is)
    (case u_k27 => k_is)
    (case u_a28 => k_is)
    (case u_l28 => k_is)
    (case u_c28 => k_is)
    (case u_k28 => k_is)
    (case u_a29 => k_is)
    (case u_l29 => k_is)
    (case u_c29 => k_is)
    (case u_k29 => k_is)
    (case u_a30 => k_is)
    (case u_l30 => k_is)
    (case u_c30 => k_is)
    (case u_k30 => k_is)
    (case u_a31 => k_is)
    (case u_l31 => k_is)
    (case u_c31 => k_is)
    (case u_k31 => k_is)
    (case u_a32 => k_is)
    (case u_l32 => k_is)
    (case u_c32 => k_is)
    (case u_k32 => k_is)
    (case u_a33 => k_is)
    (case u_l33 => k_is)
    (case u_c33 => k_is)
    (case u_k33 => k_is)
    (case u_a34 => k_is)
    (case u_l34 => k_is)
    (case u_c34 => k_is)
    (case u_k34 => k_is)
    (case u_a35 => k_is)
    (case u_l35 => k_is)
    (case u_c35 => k_is)
    (case u_k35 => k_is)
    (case u_a36 => k_is)
    (case u_l36 => k_is)
    (case u_c36 => k_is)
    (case u_k36 => k_is)
    (case u_a37 => k_is)
    (case u_l37 => k_is)
    (case u_c37 => k_is)
    (case u_k37 => k_is)
    (case u_a38 => k_is)
    (case u_l38 => k_is)
    (case u_c38 => k_is)
    (case u_k38 => k_is)
    (case u_a39 => k_is)
    (case u_l39 => k_is)
    (case u_c39 => k_is)
    (case u_k39 => k_is)
    (case u_a40 => k_is)
    (case u_l40 => k_is)
    (case u_c40 => k_is)
    (case u_k40 => k_is)
    (case u_a41 => k_is)
    (case u_l41 => k_is)
    (case u_c41 => k_is)
    (case u_k41 => k_is)
    (case u_a42 => k_is)
    (case u_l42 => k_is)
    (case u_c42 => k_is)
    (case u_k42 => k_is)
    (case u_a43 => k_is)
    (case u_l43 => k_is)
    (case u_c43 => k_is)
    (case u_k43 => k_is)
    (case u_a44 => k_is)
    (case u_l44 => k_is)
    (case u_c44 => k_is)
    (case u_k44 => k_is)
    (case u_a45 => k_is)
    (case u_l45 => k_is)
    (case u_c45 => k_is)
    (case u_k45 => k_is)
    (case u_a46 => k_is)
    (case u_l46 => k_is)
    (case u_c46 => k_is)
    (case u_k46 => k_is)
    (case u_a47 => k_is)
    (case u_l47 => k_is)
    (case u_c47 => k_is)
    (case u_k47 => k_is)
    (case u_a48 => k_is)
    (case u_l48 => k_is)
    (case u_c48 => k_is)
    (case u_k48 => k_is)
    (case u_a49 => k_is)
    (case u_l49 => k_is)
    (case u_c49 => k_is)
    (case u_k49 => k_is)
    (case u_a50 => k_is)
    (case u_l50 => k_is)
    (case u_c50 => k_is)
    (case u_k50 => k_is)
    (case u_a51 => k_is)
    (case u_l51 => k_is)
    (case u_c51 => k_is)
    (case u_k51 => k_is)
    (case u_a52 => k_is)
    (case u_l52 => k_is)
    (case u_c52 => k_is)
    (case u_k52 => k_is)
    (case u_a53 => k_is)
    (case u_l53 => k_is)
    (case u_c53 => k_is)
    (case u_k53 => k_is)
    (case u_a54 => k_is)
    (case u_l54 => k_is)
    (case u_c54 => k_is)
    (case u_k54 => k_is)
    (case u_a55 => k_is)
    (case u_l55 => k_is)
    (case u_c55 => k_is)
    (case u_k55 => k_is)
    (case u_a56 => k_is)
    (case u_l56 => k_is)
    (case u_c56 => k_is)
    (case u_k56 => k_is)
    (case u_a57 => k_is)
    (case u_l57 => k_is)
    (case u_c57 => k_is)
    (case u_k57 => k_is)
    (case u_bs => kernel_rfl)
