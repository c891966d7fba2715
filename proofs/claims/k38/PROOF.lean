import PyProof.Rows.All
import Wide.All
import OpenK.AllK
import Wide.FinOn
import PyProof.EqAt
import PyProof.EqKinds
import PyProof.TupleCall
import PyProof.ReprRoads
import HandS.ForMost
import HandS.IsInst
import HandS.Wide
import HandS.WideBits
import HandS.TupAny
import HandS.TupLe
import HandS.Walk
import HandS.Codes
import HandS.Evl
import HandS.SetFor
import HandS.Strs
import HandS.Zip
import HandS.Style
import HandS.Conv
import KE.KRevSl
import PyProof.WalksMore
import HandS.ExcInit
import HandS.ExcOwn
import HandS.ExcField
import HandS.TryMany
import HandS.ExcCtx
import KE.KExcInit
import HandS.SortKw
import HandS.TupSets
import HandS.Small
import HandS.Iter
import PyProof.Rows.SumGenD
import KE.KExcIs
import HandS.ExcIs
import HandS.ExcValue
import HandS.HotCalls
import HandS.Star
import HandS.Property
import KE.GoesEnum
import HandS.TupMul
import HandS.NoneIn
import KE.KDictPairs
import HandS.Defaults
import HandS.ListItems
import HandS.SortInts
import HandS.DictComp
import HandS.More
import HandS.OwnEq
import PyProof.DictUpdate
import PyProof.NeKinds
import KE.KEqDict
import KE.KDictZip
import PyProof.ListNew
import HandS.DictTup
import HandS.TryOnly
import PySem.Challenge.RW_chainpacks_k38_profiles_told
set_option Elab.async false
set_option linter.all false
set_option maxRecDepth 100000
set_option maxHeartbeats 4000000
/-! the common words: built-ins, calls by a bundle, repr of data, the dice -/
namespace Ck
open PySem PySem.Spec PyProof.Rows L2
theorem bt_abs : bootBuiltins "abs" = some (.builtin "abs") := by decide +kernel
theorem bt_all : bootBuiltins "all" = some (.builtin "all") := by decide +kernel
theorem bt_any : bootBuiltins "any" = some (.builtin "any") := by decide +kernel
theorem bt_bool : bootBuiltins "bool" = some (.type "bool") := by decide +kernel
theorem bt_int : bootBuiltins "int" = some (.type "int") := by decide +kernel
theorem bt_str : bootBuiltins "str" = some (.type "str") := by decide +kernel
theorem bt_list : bootBuiltins "list" = some (.type "list") := by decide +kernel
theorem bt_tuple : bootBuiltins "tuple" = some (.type "tuple") := by decide +kernel
theorem bt_set : bootBuiltins "set" = some (.type "set") := by decide +kernel
theorem bt_range : bootBuiltins "range" = some (.type "range") := by decide +kernel
theorem bt_isinstance : bootBuiltins "isinstance" = some (.builtin "isinstance") := by decide +kernel
theorem bt_len : bootBuiltins "len" = some (.builtin "len") := by decide +kernel
theorem bt_max : bootBuiltins "max" = some (.builtin "max") := by decide +kernel
theorem bt_min : bootBuiltins "min" = some (.builtin "min") := by decide +kernel
theorem bt_sum : bootBuiltins "sum" = some (.builtin "sum") := by decide +kernel
theorem bt_sorted : bootBuiltins "sorted" = some (.builtin "sorted") := by decide +kernel
theorem bt_repr : bootBuiltins "repr" = some (.builtin "repr") := by decide +kernel

/-- a def of the text, where it stands behind the top -/
def Df (K : PySem.W.Frag) (mg : Str → Option Value) (x : Str) (st : Stmt) (ps : List Str) : Prop :=
  ∃ f fd, Fun K x x st f fd ∧ mg x = some (.ref f) ∧ Binds K fd ps []
/-- a def that keeps its promise, as a global name -/
def Cl (P : Program) (w : World) (K : PySem.W.Frag) (mg : Str → Option Value) (base : Heap) (k : Nat) (x : Str) (sp : Sp) : Prop :=
  ∃ f fd ps, FnOk P w K mg base CX0 k f fd ps sp ∧ mg x = some (.ref f) ∧ PySem.W.keepIn K (.ref f) = true ∧ Binds K fd ps []
section
variable {P : Program} {w : World} {K : PySem.W.Frag} {mg : Str → Option Value} {base : Heap}
theorem cl_of {x : Str} {st : Stmt} {N ps : List Str} {k : Nat} {sp : Sp} (D : Df K mg x st ps) (S : FnScope N ps (defScope st)) (len : ∀ vs H Q E, sp vs H Q E → vs.length = ps.length)
    (hbody : ∀ (f : Addr) (cdv : Value) (A : Around) (outer : List Env) (s : Shared) (H : Hp) (vs : List V) (Q : VK) (E : XK), Room k (A.deeper (envOfC x (defScope st) s.heap.objs.size f cdv)) → sp vs H Q E →
      ∃ t, PSs (cxOf CX0 P w K mg base N x (defScope st) f cdv A outer s H E).nox (defBody st) t ∧ t { nx := fun _ H' => Q .non H', rt := Q } (start N vs) H) : Cl P w K mg base (k + 1) x sp := by
  obtain ⟨f, fd, F, g, b⟩ := D
  exact ⟨f, fd, ps, F.ok S len (hbody f), g, F.kp, b⟩
theorem Cl.imp {k : Nat} {x : Str} {sp sp' : Sp} (c : Cl P w K mg base k x sp) (h : ∀ vs H Q E, sp' vs H Q E → sp vs H Q E) : Cl P w K mg base k x sp' := by
  obtain ⟨f, fd, ps, F, g, kp, b⟩ := c
  exact ⟨f, fd, ps, F.imp h, g, kp, b⟩
end
section
variable {X : Cx} {k j : Nat} {x : Str} {sp : Sp} {p pos : Pos} {e : Expr} {es : List Expr} {t : TA}
theorem pcal (c : Cl X.prog X.w X.K X.mg X.base k x sp) (hr : Room j X.A) (ha : PA X (e :: es) t) (hk : k ≤ j := by decide) (hg : Gl X x := by rfl)
    (hdb : (x == ("__debug__" : Str)) = false := by decide) (he : starEach (e :: es) X.env = (false, eval e X.env) :: starEach es X.env := by rfl) (hpl : (backTo pos (starEach es X.env)).any (·.1) = false := by rfl) :
    PE X (.Call (.Name x p) (e :: es) [] pos) (tCall sp [] E0 t) := by
  obtain ⟨f, fd, ps, F, hm, kp, b⟩ := c
  exact pe_call F (hr.mono hk) hg hm kp b .nil pass0 ha hdb he hpl
theorem pcal0 (c : Cl X.prog X.w X.K X.mg X.base k x sp) (hr : Room j X.A) (hk : k ≤ j := by decide) (hg : Gl X x := by rfl)
    (hdb : (x == ("__debug__" : Str)) = false := by decide) :
    PE X (.Call (.Name x p) [] [] pos) (tCall sp [] E0 tNil) := by
  obtain ⟨f, fd, ps, F, hm, kp, b⟩ := c
  exact pe_call0 F (hr.mono hk) hg hm kp b .nil pass0 hdb
/-- a constant of the module -/
theorem pe_gc2 {v : V} (hg : Gl X x) (h : ∃ u, X.mg x = some u ∧ RelV v u) (hd : (x == ("__debug__" : Str)) = false := by decide) : PE X (.Name x pos) (tC v) := by
  obtain ⟨u, h1, h2⟩ := h
  exact pe_glob hg h1 h2 hd
end

/-! repr of data -/
/-- a text of data that stands -/
def rReprD (K : PySem.W.Frag) : List V → Hp → VK → Prop := fun xs H Q => ∃ x d, xs = [x] ∧ Dp K H x d ∧ PyData.showable d = true ∧ PyData.hasDict d = false ∧ PyData.depth d ≤ 20 ∧ (PyData.shown d).length ≤ sizeLine ∧ Q (.str (PyData.shown d)) H
end Ck

/-! defs whose callers know that no text of a container is being written (repr needs it) -/
namespace Ck
open PySem PySem.Spec PyProof.Rows L2
/-- what a def promises where nothing is being shown -/
structure FnG (P : Program) (w : World) (K : PySem.W.Frag) (mg : Str → Option Value) (base : Heap) (C : CXT) (k : Nat)
    (f : Addr) (fd : FuncData) (ps : List Str) (sp : Sp) : Prop where
  len : ∀ vs H Q E, sp vs H Q E → vs.length = ps.length
  run : ∀ (A : Around) (fr : List Env) (s : Shared) (H : Hp) (args : Args) (us : List Value) (vs : List V) (Q : VK) (E : XK),
    Room k A → A.guards = some [] → Env0 P w K mg base A fr s H → BindsTo s fd args (ps.zip us) → Vals vs us →
    sp vs H Q E → codeAny (model P w) A (.call (.ref f) args) (CR C fr P w H s Q E) s
section
variable {P : Program} {w : World} {K : PySem.W.Frag} {mg : Str → Option Value} {base : Heap} {C : CXT} {k : Nat}
  {f : Addr} {fd : FuncData} {ps : List Str} {sp : Sp}
theorem FnG.of (F : FnOk P w K mg base C k f fd ps sp) : FnG P w K mg base C k f fd ps sp :=
  ⟨F.len, fun A fr s H args us vs Q E r _ e b v h => F.run A fr s H args us vs Q E r e b v h⟩
theorem FnG.mono {j : Nat} (F : FnG P w K mg base C j f fd ps sp) (h : j ≤ k) : FnG P w K mg base C k f fd ps sp :=
  ⟨F.len, fun A fr s H args us vs Q E r g e b v q => F.run A fr s H args us vs Q E (r.mono h) g e b v q⟩

theorem Fun.okG {x qual : Str} {st : Stmt} {N : List Str} (F : Fun K x qual st f fd) (S : FnScope N ps (defScope st))
    (len : ∀ vs H Q E, sp vs H Q E → vs.length = ps.length)
    (hbody : ∀ (cdv : Value) (A : Around) (fr : List Env) (s : Shared) (H : Hp) (vs : List V) (Q : VK) (E : XK),
      Room k (A.deeper (envOfC qual (defScope st) s.heap.objs.size f cdv)) → A.guards = some [] → sp vs H Q E →
      ∃ t, PSs (cxOf C P w K mg base N qual (defScope st) f cdv A fr s H E) (defBody st) t ∧
        t { nx := fun _ H' => Q .non H', rt := Q } (start N vs) H) : FnG P w K mg base C (k + 1) f fd ps sp := by
  obtain ⟨oc, od, kV, doc, pm, an, cdv, ct, osl, rfl, lk, hcd⟩ := F.ex
  constructor
  case len => exact len
  case run =>
    intro A fr s H args us vs Q E r g e b rv h
    have KX : K.In s.heap := e.mod.kin.keeps (fun c o q => (e.bs c o q).1)
    have lim : s.heap.NoLimit := e.mod.nolimit.keeps (fun c o q => (e.bs c o q).1)
    have hl := len vs H Q E h
    have knd : ∀ y ∈ ps.zip us, (defScope st).names.lookup y.1 = some .local ∨
        ((defScope st).names.lookup y.1 = some .cell ∧ ((cellsFrom (s.heap.objs.size + 1) (defScope st).names []).lookup y.1).isSome = true) := by
      intro y hy
      have hp := (List.of_mem_zip (a := y.1) (b := y.2) hy).1
      cases S.par y.1 hp with
      | inl q => exact Or.inl q
      | inr q => exact Or.inr ⟨q, PySem.W.cellsFrom_some _ _ _ (Or.inl q)⟩
    refine codeAny_call_function r.depth (KX f _ lk) rfl S.co S.gen rfl
      (PySem.W.codeRec_of KX hcd) (b _ _ _ _ (wpAny_newFunctionEnv_cells S.kind knd (fun env he s1 x => ?_)))
    cases he
    refine ⟨lim.keeps x.toInCall.keep, codeAny_func ?_⟩
    obtain ⟨t, ht, hq⟩ := hbody cdv A fr s H vs Q E (r.deeper _) g h
    have I := inv_start (CX := C) (E := E) S r.hd e hl rv x
    refine wpAny_mono (ht.run [] s1 (start N vs) H _ I hq) ?_ (fun _ _ z => z)
    intro fl s' hs
    cases fl with
    | brk => obtain ⟨_, _, _, z⟩ := hs; exact z.elim
    | cont => obtain ⟨_, _, _, z⟩ := hs; exact z.elim
    | ret u =>
      obtain ⟨v, σ', H', J, rr, z⟩ := hs
      exact ⟨v, H', J.os, J.bare, J.base, J.hok, rr, z⟩
    | next =>
      obtain ⟨σ', H', J, z⟩ := hs
      exact ⟨V.non, H', J.os, J.bare, J.base, J.hok, rfl, z⟩
end

/-- a def that keeps its promise, as a global name -/
def Cg (P : Program) (w : World) (K : PySem.W.Frag) (mg : Str → Option Value) (base : Heap) (C : CXT) (k : Nat) (x : Str) (sp : Sp) : Prop :=
  ∃ f fd ps, FnG P w K mg base C k f fd ps sp ∧ mg x = some (.ref f) ∧ PySem.W.keepIn K (.ref f) = true ∧ Binds K fd ps []
section
variable {P : Program} {w : World} {K : PySem.W.Frag} {mg : Str → Option Value} {base : Heap}
theorem cg_of {x : Str} {st : Stmt} {N ps : List Str} {k : Nat} {sp : Sp} (D : Df K mg x st ps) (S : FnScope N ps (defScope st))
    (len : ∀ vs H Q E, sp vs H Q E → vs.length = ps.length)
    (hbody : ∀ (f : Addr) (cdv : Value) (A : Around) (fr : List Env) (s : Shared) (H : Hp) (vs : List V) (Q : VK) (E : XK),
      Room k (A.deeper (envOfC x (defScope st) s.heap.objs.size f cdv)) → A.guards = some [] → sp vs H Q E →
      ∃ t, PSs (cxOf CX0 P w K mg base N x (defScope st) f cdv A fr s H E).nox (defBody st) t ∧
        t { nx := fun _ H' => Q .non H', rt := Q } (start N vs) H) : Cg P w K mg base CX0 (k + 1) x sp := by
  obtain ⟨f, fd, F, g, b⟩ := D
  refine ⟨f, fd, ps, Fun.okG F S len fun cdv A fr s H vs Q E r gd h => ?_, g, F.kp, b⟩
  obtain ⟨t, h1, h2⟩ := hbody f cdv A fr s H vs Q E r gd h
  exact ⟨t, h1.nox, h2⟩
end
section
variable {X : Cx} {C : CXT} {k j : Nat} {x : Str} {f : Addr} {fd : FuncData} {ps : List Str} {sp : Sp} {E : XK} {p pos : Pos} {e : Expr} {es : List Expr} {t : TA}
theorem run_fng {pins : List (Addr × Obj)} {σ : L2.St} {H : Hp} {s : Shared} {Q : VK} {us : List Value} {vs : List V}
    (F : FnG X.prog X.w X.K X.mg X.base C k f fd ps sp) (hr : Room k X.A) (hg : X.A.guards = some []) (hb : Binds X.K fd ps []) (hx : Passes C X E)
    (I : Inv X pins σ H s) (r : Vals vs us) (h : sp vs H Q E) :
    wpAny (model X.prog X.w) X.A (call (.ref f) us) (EP X pins σ Q) X.xe s := by
  have hl : us.length = ps.length := r.length.symm.trans (F.len vs H Q E h)
  have bd : BindsTo s fd ⟨us, []⟩ (ps.zip us) := by
    have z := hb s us I.kIn (by rw [List.append_nil]; exact hl)
    rw [List.append_nil] at z
    exact z
  refine wpAny_call (codeAny_mono (F.run X.A X.stack s H ⟨us, []⟩ us vs Q E hr hg I.env0 bd r h) ?_)
  intro res s' hq
  match res, hq with
  | .ok (.ret u), hq => exact I.after hq
  | .ok .next, hq => exact hq.elim
  | .ok .brk, hq => exact hq.elim
  | .ok .cont, hq => exact hq.elim
  | .error e, hq => exact hx pins σ H s e s' I hq
theorem pcg (c : Cg X.prog X.w X.K X.mg X.base CX0 k x sp) (hr : Room j X.A) (hgd : X.A.guards = some []) (ha : PA X (e :: es) t) (hk : k ≤ j := by decide) (hg : Gl X x := by rfl)
    (hdb : (x == ("__debug__" : Str)) = false := by decide) (he : starEach (e :: es) X.env = (false, eval e X.env) :: starEach es X.env := by rfl) (hpl : (backTo pos (starEach es X.env)).any (·.1) = false := by rfl) :
    PE X (.Call (.Name x p) (e :: es) [] pos) (tCall sp [] E0 t) := by
  obtain ⟨f, fd, ps, F, hm, kp, b⟩ := c
  constructor
  intro pins s σ H Q I h
  refine wpAny_Call_Name_kw (ld_glob I hg hm ?_ hdb)
  refine PySem.W.callWith_K (h₀ := X.base) I.ok.mod.kin kp (thn (ha.run pos pins s σ H _ I h) ?_) he hpl
  rintro us s1 ⟨vs, H1, I1, r, q⟩
  refine ⟨I1.kIn, run_fng F (hr.mono hk) hgd b pass0 I1 r ?_⟩
  have z : sp (vs ++ []) H1 Q E0 := q
  rw [List.append_nil] at z
  exact z
theorem pcg0 (c : Cg X.prog X.w X.K X.mg X.base CX0 k x sp) (hr : Room j X.A) (hgd : X.A.guards = some []) (hk : k ≤ j := by decide) (hg : Gl X x := by rfl)
    (hdb : (x == ("__debug__" : Str)) = false := by decide) :
    PE X (.Call (.Name x p) [] [] pos) (tCall sp [] E0 tNil) := by
  obtain ⟨f, fd, ps, F, hm, kp, b⟩ := c
  constructor
  intro pins s σ H Q I h
  refine wpAny_Call_Name_kw (ld_glob I hg hm ?_ hdb)
  exact PySem.W.callWith_K0 I.kIn kp (run_fng (us := []) F (hr.mono hk) hgd b pass0 I .nil h)
/-- repr(e), e data, where nothing is being shown -/
theorem call_reprD (hr : Room j X.A) (hg : X.A.guards = some []) : CallR X (.builtin "repr") (rReprD X.K) := by
  intro pins s σ H xs us Q I r h
  obtain ⟨x, d, rfl, hd, hs, hn, hp, hz, q⟩ := h
  obtain ⟨u, rfl, ru⟩ := vals1 r
  obtain ⟨as, rd⟩ := Dp.reads I d x u hd ru
  have un := hr.un
  cases u with
  | ref a =>
    refine repr_of_reads' rd hs (PyData.noDict_hsm hn) hg (by omega) (fun _ _ e => e) (fun h' u tk hk => ?_) hz
    exact ⟨.str _, H, I.kept (t' := tk) hk, ⟨_, rfl⟩, q⟩
  | none =>
    cases rd
    exact PySem.P.repr_of_none ⟨.str _, H, I.tok _, ⟨_, rfl⟩, q⟩
  | bool b =>
    cases rd
    exact PySem.P.repr_of_bool ⟨.str _, H, I.tok _, ⟨_, rfl⟩, q⟩
  | int i t =>
    cases rd
    exact PySem.P.repr_of_int (of_decide_eq_true (by simpa only [PyData.showable] using hs)) ⟨.str _, H, I.tok _, ⟨_, rfl⟩, q⟩
  | str x t =>
    cases rd
    exact PySem.P.repr_of_str ⟨.str _, H, I.tok _, ⟨_, rfl⟩, q⟩ hz
  | _ => cases rd
end
end Ck

/-! the law's end, for a promise made where nothing is being shown -/
namespace Ck
open PySem PySem.Spec PyProof.Rows L2
/-- what the machine has behind the law's call -/
abbrev Fine (s₁ : Shared) (r : Result) (s' : Shared) : Prop := r = .ok (.ret (.bool true)) ∧ OldK s₁.heap s'.heap ∧ s'.os = s₁.os ∧ AllBare s'.gens
section
variable {P : Program} {w : World} {K : PySem.W.Frag} {mg mb : Str → Option Value} {k : Nat} {fa a : Addr} {fd : FuncData} {x : Str} {sp : Sp} {s₁ : Shared} {vs : List Value} {ns : List Int}
theorem law_run (KX : K.In s₁.heap) (hns : s₁.heap.Ns mainGlobals mg) (hb : s₁.heap.Ns builtinsNs mb) (hbb : ∀ x : Str, x ≠ "__name__" → mb x = bootBuiltins x)
    (hlim : s₁.heap.NoLimit) (hg : s₁.gens = #[]) (ha : s₁.heap.get? a = some { cls := .type "list", data := .seq vs.toArray }) (hr : Room k callerA)
    (F : ∀ base : Heap, K.In base → base.Ns mainGlobals mg → FnG P w K mg base CX0 k fa fd [x] sp) (hbind : ∀ (s : Shared) (u : Value), BindsTo s fd ⟨[u], []⟩ [(x, u)])
    (hsp : ∀ H : Hp, Only H → SqL K H a (ns.map V.int) → sp [.ref a] H (fun v _ => v = .bl true) fun _ _ _ => False)
    (H : Hp) (hO : Only H) (hS : SqL K H a (ns.map V.int)) (hok : HOk P w H s₁.heap) (only : ∀ b u, H b = some u → b = a) (off : ∀ u, H a = some u → K.lookup a = none) :
    codeAny (model P w) callerA (.call (.ref fa) ⟨[.ref a], []⟩) (Fine s₁) s₁ := by
  -- a dict is not the script: it stays in the base
  have dictOff : ∀ (b : Addr) (o : Obj) (es : Array DictEntry) (ep : Nat), s₁.heap.get? b = some o → o.data = .dict es ep → H b = none := by
    intro b o es ep e d
    match q : H b with
    | none => rfl
    | some u =>
      rw [only b u q, ha] at e
      obtain rfl := Option.some.inj e
      cases d
  have nsOff : ∀ (b : Addr) (m : Str → Option Value), s₁.heap.Ns b m → (hidT s₁.heap H).Ns b m := by
    rintro b m ⟨o, es, ep, e, d, r⟩
    exact ⟨o, es, ep, hidT_get e (dictOff b o es ep e d), d, r⟩
  have inB : K.In (hidT s₁.heap H) := by
    intro b o e
    refine hidT_get (KX b o e) ?_
    match q : H b with
    | none => rfl
    | some u =>
      have z := only b u q
      rw [z] at q e
      rw [off u q] at e
      cases e
  have M : Mod K mg (hidT s₁.heap H) := by
    obtain ⟨mc, h1, h2⟩ := hlim
    exact ⟨inB, nsOff _ _ hns, ⟨mb, nsOff _ _ hb, hbb⟩, ⟨mc, nsOff _ _ h1, h2⟩⟩
  have no : ∀ (b : Addr), b ∉ frs [] := fun b z => by cases z
  have E0' : Env0 P w K mg (hidT s₁.heap H) callerA [] s₁ H :=
    ⟨rfl, M, fun b o e => of_hidT e, Nat.le_of_eq (hidT_size s₁.heap H), trivial, fun b z => (no b z).elim, hok, .of_eq hg⟩
  have run := (F (hidT s₁.heap H) inB (nsOff _ _ hns)).run callerA [] s₁ H ⟨[.ref a], []⟩ [.ref a] [.ref a] (fun v _ => v = .bl true) (fun _ _ _ => False) hr rfl E0' (hbind s₁ (.ref a)) (.cons rfl .nil) (hsp H hO hS)
  refine codeAny_mono run ?_
  intro r s' h
  match r, h with
  | .error _, h => exact h.elim
  | .ok .next, h => exact h.elim
  | .ok .brk, h => exact h.elim
  | .ok .cont, h => exact h.elim
  | .ok (.ret u), h =>
    obtain ⟨v, H', os, bare, un, hok', rv, q⟩ := h
    cases q
    cases rv
    refine ⟨rfl, OldK.of_keep ?_, os, bare⟩
    intro b o e
    match q : H b with
    | none => exact un.keep b o e q (no b) (List.not_mem_nil)
    | some u =>
      cases hO b with
      | inl z => rw [q] at z; cases z
      | inr z =>
        obtain ⟨ob, xs, z⟩ := z
        have e1 := (hok b _ z).1
        rw [e] at e1
        obtain rfl := Option.some.inj e1
        exact (hok' b _ (un.frzs b _ _ z)).1
theorem law_done (KX : K.In s₁.heap) (hns : s₁.heap.Ns mainGlobals mg) (hb : s₁.heap.Ns builtinsNs mb) (hbb : ∀ x : Str, x ≠ "__name__" → mb x = bootBuiltins x)
    (hlim : s₁.heap.NoLimit) (hg : s₁.gens = #[]) (ha : s₁.heap.get? a = some { cls := .type "list", data := .seq vs.toArray }) (hi : IntsAre vs ns) (hl : ns.length ≤ sizeLine) (hr : Room k callerA)
    (F : ∀ base : Heap, K.In base → base.Ns mainGlobals mg → FnG P w K mg base CX0 k fa fd [x] sp) (hbind : ∀ (s : Shared) (u : Value), BindsTo s fd ⟨[u], []⟩ [(x, u)])
    (hsp : ∀ H : Hp, Only H → SqL K H a (ns.map V.int) → sp [.ref a] H (fun v _ => v = .bl true) fun _ _ _ => False) :
    codeAny (model P w) callerA (.call (.ref fa) ⟨[.ref a], []⟩) (Fine s₁) s₁ := by
  have rv : Vals (ns.map V.int) vs := vals_ints hi
  have sz : vs.length ≤ sizeLine := by rw [← rv.length, List.length_map]; exact hl
  match hk : K.lookup a with
  | some o =>
    have e := KX a o hk
    rw [ha] at e
    obtain rfl := Option.some.inj e
    exact law_run KX hns hb hbb hlim hg ha hr F hbind hsp (fun _ => none) (fun _ => .inl rfl) (.inr ⟨_, vs.toArray, _, hk, rfl, rfl, rfl, by simpa using sz, by simpa using rv⟩)
      (fun b u z => nomatch z) (fun b u z => nomatch z) (fun u z => nomatch z)
  | none =>
    let o : Obj := { cls := .type "list", data := .seq vs.toArray }
    let H : Hp := fun b => if b = a then some (.frz o (.lst (ns.map V.int))) else none
    have hA : H a = some (.frz o (.lst (ns.map V.int))) := if_pos rfl
    have hN : ∀ b, b ≠ a → H b = none := fun b z => if_neg z
    refine law_run KX hns hb hbb hlim hg ha hr F hbind hsp H (fun b => ?_) (.inl (.inr ⟨o, hA⟩)) (fun b u z => ?_) (fun b u z => ?_) (fun _ _ => hk)
    · by_cases q : b = a
      · rw [q]; exact .inr ⟨_, _, hA⟩
      · exact .inl (hN b q)
    · by_cases q : b = a
      · rw [q] at z ⊢
        rw [hA] at z
        obtain rfl := Option.some.inj z
        exact ⟨ha, by rw [List.length_map]; exact hl, vs, _, rv, ha⟩
      · rw [hN b q] at z; cases z
    · by_cases q : b = a
      · exact q
      · rw [hN b q] at z; cases z
end
/-- the goal that k_head leaves, from the law's promise -/
theorem walk_g {l : PySem.W.OpenLaw} {n k : Nat} {q : Program} {loose : List Str} {XP : (Str → Option Value) → Heap → Prop} {YP : World → Heap → Prop} {d : DefRec} {K : Params → PySem.W.Frag} {sp : World → Sp} {x : Str}
    (hn : l.most = some n) (hn2 : n ≤ sizeLine) (hdf : d.params.defaults = []) (hr : Room k callerA)
    (hY : ∀ (w : World) (h : Heap), YP w h → (K w.params).In h)
    (F : ∀ (w : World) (mg : Str → Option Value) (fa : Addr) (h : Heap), (K w.params).In h → h.Ns mainGlobals mg → mg d.name = some (.ref fa) →
      ∃ fd : FuncData, (∀ (s : Shared) (u : Value), BindsTo s fd ⟨[u], []⟩ [(x, u)]) ∧
        ∀ base : Heap, (K w.params).In base → base.Ns mainGlobals mg → FnG l.prog w (K w.params) mg base CX0 k fa fd [x] (sp w))
    (hsp : ∀ (w : World) (H : Hp) (a : Addr) (ns : List Int), ns.length ≤ n → Only H → SqL (K w.params) H a (ns.map V.int) → sp w [.ref a] H (fun v _ => v = .bl true) fun _ _ _ => False) :
    PySem.W.WalkO q loose XP YP l.row.toRowW d [] (fun f vs => PySem.call f vs) := by
  refine Att.attach_call hn hdf ?_
  intro w s₀ s₁ mg mb fa o pm cd doc a vs ns G Y ho hd hcd hmg hobj hints hlen hg
  have KX := hY w s₁.heap Y
  obtain ⟨fd, hb, hF⟩ := F w mg fa s₁.heap KX G.T.g hmg
  exact law_done KX G.T.g G.T.b G.T.builtins G.T.nolimit hg hobj hints (Nat.le_trans hlen hn2) hr hF hb (fun H hO hS => hsp w H a ns hlen hO hS)
end Ck

/-! the laws' dice: three ints in a list; what is rolled lies in its bounds -/
namespace Ck
open PySem PySem.Spec PyProof.Rows L2
def Dice (H : Hp) (d : Addr) : Prop := ∃ a b c : Int, H d = some (.lst [.int a, .int b, .int c])
/-- only the object at d may be another one -/
def But (d : Addr) (H H' : Hp) : Prop := ∀ b, b ≠ d → H' b = H b
/-- all that stood stands, but for d; there may be more -/
def Kp (d : Addr) (H H' : Hp) : Prop := ∀ b o, b ≠ d → H b = some o → H' b = some o
theorem But.kp {d : Addr} {H H' : Hp} (h : But d H H') : Kp d H H' := fun b o n e => (h b n).trans e
theorem Kp.refl (d : Addr) (H : Hp) : Kp d H H := fun _ _ _ e => e
theorem Kp.trans {d : Addr} {H H1 H2 : Hp} (a : Kp d H H1) (b : Kp d H1 H2) : Kp d H H2 := fun c o n e => b c o n (a c o n e)
theorem Kp.new {d p : Addr} {H : Hp} {o : HO} (h : H p = none) : Kp d H (upd H p o) := fun b u _ e => by
  rw [upd_ne (ne_of_none e h)]; exact e
theorem Kp.put {d : Addr} {H : Hp} {o : HO} : Kp d H (upd H d o) := fun b u n e => by
  rw [upd_ne n]; exact e
/-- a change of what H does not know -/
theorem Kp.mut {d p : Addr} {H H' : Hp} {o : HO} (k : Kp d H H') (h : H p = none) : Kp d H (upd H' p o) := fun b u n e => by
  rw [upd_ne (ne_of_none e h)]; exact k b u n e
theorem Dice.ne {d p : Addr} {H : Hp} (h : Dice H d) (n : H p = none) : p ≠ d := by
  obtain ⟨a, b, c, e⟩ := h
  exact fun z => by rw [z, e] at n; cases n
theorem Dice.new {d p : Addr} {H : Hp} {o : HO} (h : Dice H d) (n : H p = none) : Dice (upd H p o) d := by
  have z := h.ne n
  obtain ⟨a, b, c, e⟩ := h
  exact ⟨a, b, c, by rw [upd_ne z.symm]; exact e⟩
theorem Dice.put {d p : Addr} {H : Hp} {o : HO} (h : Dice H d) (n : p ≠ d) : Dice (upd H p o) d := by
  obtain ⟨a, b, c, e⟩ := h
  exact ⟨a, b, c, by rw [upd_ne n.symm]; exact e⟩
theorem Dice.at {d : Addr} {H : Hp} {a b c : Int} : Dice (upd H d (.lst [.int a, .int b, .int c])) d := ⟨a, b, c, upd_same⟩
theorem But.put {d : Addr} {H : Hp} {o : HO} : But d H (upd H d o) := fun b n => upd_ne n
theorem But.put2 {d : Addr} {H : Hp} {o u : HO} : But d H (upd (upd H d o) d u) := fun b n => by rw [upd_ne n, upd_ne n]
theorem But.sqL {K : PySem.W.Frag} {d a : Addr} {H H' : Hp} {xs : List V} (k : But d H H') (n : a ≠ d) (h : SqL K H a xs) : SqL K H' a xs := by
  rcases h with (h | ⟨o, h⟩) | h
  · exact .inl (.inl ((k a n).trans h))
  · exact .inl (.inr ⟨o, (k a n).trans h⟩)
  · exact .inr h
theorem Kp.sqL {K : PySem.W.Frag} {d a : Addr} {H H' : Hp} {xs : List V} (k : Kp d H H') (n : a ≠ d) (h : SqL K H a xs) : SqL K H' a xs := by
  rcases h with (h | ⟨o, h⟩) | h
  · exact .inl (.inl (k a _ n h))
  · exact .inl (.inr ⟨o, k a _ n h⟩)
  · exact .inr h
theorem Kp.sqT {K : PySem.W.Frag} {d a : Addr} {H H' : Hp} {xs : List V} (k : Kp d H H') (n : a ≠ d) (h : SqT K H a xs) : SqT K H' a xs := by
  rcases h with (h | ⟨o, h⟩) | h
  · exact .inl (.inl (k a _ n h))
  · exact .inl (.inr ⟨o, k a _ n h⟩)
  · exact .inr h
def spRoll : Sp := fun vs H Q _ => ∃ d t, vs = [.ref d, .int t] ∧ 0 < t ∧ t < 1073741824 ∧ Dice H d ∧
  ∀ r H', 0 ≤ r → r < t → Dice H' d → But d H H' → Q (.int r) H'
def spPick (K : PySem.W.Frag) : Sp := fun vs H Q _ => ∃ d p xs, vs = [.ref d, .ref p] ∧ Dice H d ∧ SqL K H p xs ∧ p ≠ d ∧ xs ≠ [] ∧ xs.length < 1073741824 ∧
  ∀ x ∈ xs, ∀ H', Dice H' d → But d H H' → Q x H'
def spDice (K : PySem.W.Frag) : Sp := fun vs H Q _ => ∃ (a : Addr) (k : Nat) (ns : List Int), vs = [.ref a, .int (k : Int)] ∧ SqL K H a (ns.map V.int) ∧
  ∀ d, H d = none → ∀ H', Dice H' d → But d H H' → Q (.ref d) H'
theorem at_int {ns : List Int} {k : Nat} (h : ((k : Nat) : Int) < ((ns.map V.int).length : Int)) : ∃ i, atI (ns.map V.int) (k : Int) = some (.int i) := by
  have h1 : k < ns.length := by rw [List.length_map] at h; omega
  exact ⟨ns[k], atI_nat (by rw [List.getElem?_map, List.getElem?_eq_getElem h1]; rfl)⟩
theorem ten60 : CMulW ((10 : Int) ^ (60 : Int).toNat) ((10 : Int) ^ (60 : Int).toNat) := by unfold CMulW; decide +kernel
theorem pow_ok {i j : Int} (h : (decide (0 ≤ j) && decide (j ≤ 1000000) && decide (i.natAbs < 2 ^ 64)) = true) : CPow i j := by
  simp only [Bool.and_eq_true, decide_eq_true_eq] at h
  exact ⟨h.1.1, h.1.2, h.2⟩
/-- % by a positive number: what lies in its bounds -/
theorem r_mod {Q : VK} {H : Hp} {i j : Int} (hj : 0 < j) (h : ∀ r, 0 ≤ r → r < j → Q (.int r) H) : rI (fun _ j => 0 < j) (fun i j => .int (i % j)) (.int i) (.int j) H Q :=
  ⟨i, j, rfl, rfl, hj, h _ (Int.emod_nonneg _ (by omega)) (Int.emod_lt_of_pos _ hj)⟩
theorem r_modC {Q : VK} {σ : L2.St} {H : Hp} {i j : Int} (hj : 0 < j) (h : ∀ r, 0 ≤ r → r < j → Q (.int r) H) :
    tC (.int j) σ H (fun y H2 => rI (fun _ j => 0 < j) (fun i j => .int (i % j)) (.int i) y H2 Q) := r_mod hj h
/-- a if c else b, told once what comes of it -/
theorem join {c : Prop} [Decidable c] {ta tb : TE} {σ : L2.St} {H : Hp} {Q : VK} (p : V → Prop) (hq : ∀ v, p v → Q v H) (h1 : c → ∀ Q' : VK, (∀ v, p v → Q' v H) → ta σ H Q')
    (h2 : ¬ c → ∀ Q' : VK, (∀ v, p v → Q' v H) → tb σ H Q') : if decide c = true then ta σ H Q else tb σ H Q := by
  by_cases h : c
  · rw [decide_eq_true h]; exact iteT (h1 h Q hq)
  · rw [decide_eq_false h]; exact iteF (h2 h Q hq)
abbrev IsI (v : V) : Prop := ∃ i : Int, v = .int i
theorem at_in {α : Type} {xs : List α} {r : Int} (h0 : 0 ≤ r) (h : r < (xs.length : Int)) : ∃ x, x ∈ xs ∧ atI xs r = some x := by
  have hr : r.toNat < xs.length := by omega
  refine ⟨xs[r.toNat], List.getElem_mem hr, ?_⟩
  have z := atI_nat (xs := xs) (j := r.toNat) (List.getElem?_eq_getElem hr)
  rwa [show ((r.toNat : Nat) : Int) = r by omega] at z
/-- a test whose outcome is open -/
theorem ifd {c : Prop} [Decidable c] {A B : Prop} (h1 : c → A) (h2 : ¬ c → B) : if decide c = true then A else B := by
  by_cases h : c
  · rw [decide_eq_true h]; exact iteT (h1 h)
  · rw [decide_eq_false h]; exact iteF (h2 h)
theorem ifn {c : Prop} [Decidable c] {A B : Prop} (h1 : ¬ c → A) (h2 : c → B) : if (!decide c) = true then A else B := by
  by_cases h : c
  · rw [decide_eq_true h]; exact iteF (h2 h)
  · rw [decide_eq_false h]; exact iteT (h1 h)
end Ck

/-! expressions that leave the heap as it is -/
namespace Ck
open PySem PySem.Spec PyProof.Rows L2
def Pu (te : TE) (σ : L2.St) (H : Hp) (v : V) : Prop := ∀ Q : VK, Q v H → te σ H Q
def PuT (tt : TT) (σ : L2.St) (H : Hp) (b : Bool) : Prop := ∀ Q : Bool → Hp → Prop, Q b H → tt σ H Q
def PuA (ta : TA) (σ : L2.St) (H : Hp) (vs : List V) : Prop := ∀ Q : List V → Hp → Prop, Q vs H → ta σ H Q
section
variable {σ : L2.St} {H : Hp} {ta tb tc : TE} {t u : TT} {x y v : V} {K : PySem.W.Frag} {a b c : Int} {p q : Bool}
theorem pu_var {i : Nat} (h : σ[i]? = some (some v)) : Pu (tVar i) σ H v := fun _ q => ⟨v, h, q⟩
theorem pu_c : Pu (tC v) σ H v := fun _ q => q
theorem pu_is {w : V} (h : Pu ta σ H v) (e : v = w) : Pu ta σ H w := e ▸ h
theorem put_is {r : Bool} (h : PuT t σ H p) (e : p = r) : PuT t σ H r := e ▸ h
theorem pu_i0 {g : Int → Int → V} (ha : Pu ta σ H (.int a)) (hb : Pu tb σ H (.int b)) : Pu (tOp (rI0 g) ta tb) σ H (g a b) :=
  fun _ q => ha _ (hb _ ⟨a, b, rfl, rfl, q⟩)
theorem pu_i {C : Int → Int → Prop} {g : Int → Int → V} (ha : Pu ta σ H (.int a)) (hb : Pu tb σ H (.int b)) (hc : C a b) : Pu (tOp (rI C g) ta tb) σ H (g a b) :=
  fun _ q => ha _ (hb _ ⟨a, b, rfl, rfl, hc, q⟩)
theorem pu_neg (ha : Pu ta σ H (.int a)) : Pu (tUn (rU fun i => .int (-i)) ta) σ H (.int (-a)) := fun _ q => ha _ ⟨a, rfl, q⟩
theorem pu_eq (ha : Pu ta σ H x) (hb : Pu tb σ H y) (hs : scal x y = true) : Pu (tOp rEq ta tb) σ H (.bl (decide (x = y))) := fun _ q => ha _ (hb _ ⟨hs, q⟩)
theorem pu_ne (ha : Pu ta σ H x) (hb : Pu tb σ H y) (hs : scal x y = true) : Pu (tOp rNe ta tb) σ H (.bl (!decide (x = y))) := fun _ q => ha _ (hb _ ⟨hs, q⟩)
theorem pu_chain {f g : Int → Int → Bool} (ha : Pu ta σ H (.int a)) (hb : Pu tb σ H (.int b)) (hc : Pu tc σ H (.int c)) :
    Pu (tChain (rI0 fun i j => .bl (f i j)) (rI0 fun i j => .bl (g i j)) ta tb tc) σ H (.bl (f a b && g b c)) := fun Q q => ha _ (hb _ ⟨a, b, rfl, rfl, f a b, rfl, by
  revert q
  cases f a b with
  | true => exact fun q => iteT (hc _ ⟨b, c, rfl, rfl, q⟩)
  | false => exact fun q => iteF q⟩)
theorem pu_chainR {r r' : R2} {z : V} (ha : Pu ta σ H x) (hb : Pu tb σ H y) (hc : Pu tc σ H z) (h1 : ∀ Q : VK, Q (.bl p) H → r x y H Q) (h2 : ∀ Q : VK, Q (.bl q) H → r' y z H Q) :
    Pu (tChain r r' ta tb tc) σ H (.bl (p && q)) := fun Q k => ha _ (hb _ (h1 _ ⟨p, rfl, by
  cases p with
  | true => exact iteT (hc _ (h2 _ k))
  | false => exact iteF k⟩))
theorem pu_ixL {l : Addr} {xs : List V} {i : Int} (ha : Pu ta σ H (.ref l)) (hb : Pu tb σ H (.int i)) (hl : SqL K H l xs) (hi : atI xs i = some v) : Pu (tOp (rIxL K) ta tb) σ H v :=
  fun _ q => ha _ (hb _ ⟨l, xs, i, v, rfl, rfl, hl, hi, q⟩)
theorem pu_ixT {l : Addr} {xs : List V} {i : Int} (ha : Pu ta σ H (.ref l)) (hb : Pu tb σ H (.int i)) (hl : SqT K H l xs) (hi : atI xs i = some v) : Pu (tOp (rIxT K) ta tb) σ H v :=
  fun _ q => ha _ (hb _ ⟨l, xs, i, v, rfl, rfl, hl, hi, q⟩)
theorem pu_lenL {l : Addr} {xs : List V} (ha : Pu ta σ H (.ref l)) (hl : SqL K H l xs) :
    Pu (tCB (fun xs H Q => ∃ p ys, xs = [.ref p] ∧ (SqL K H p ys ∨ SqT K H p ys) ∧ Q (.int ys.length) H) (tCons ta tNil)) σ H (.int (xs.length : Int)) := fun _ q => ha _ ⟨l, xs, rfl, .inl hl, q⟩
theorem pu_lenT {l : Addr} {xs : List V} (ha : Pu ta σ H (.ref l)) (hl : SqT K H l xs) :
    Pu (tCB (fun xs H Q => ∃ p ys, xs = [.ref p] ∧ (SqL K H p ys ∨ SqT K H p ys) ∧ Q (.int ys.length) H) (tCons ta tNil)) σ H (.int (xs.length : Int)) := fun _ q => ha _ ⟨l, xs, rfl, .inr hl, q⟩
theorem pu_lenS {z : Str} (ha : Pu ta σ H (.str z)) (hz : z.length ≤ sizeLine) :
    Pu (tCB (fun xs H Q => ∃ z, xs = [.str z] ∧ z.length ≤ sizeLine ∧ Q (.int z.length) H) (tCons ta tNil)) σ H (.int (z.length : Int)) := fun _ q => ha _ ⟨z, rfl, hz, q⟩
theorem pu_abs (ha : Pu ta σ H (.int a)) : Pu (tCB (fun xs H Q => ∃ i, xs = [.int i] ∧ Q (.int (if i < 0 then -i else i)) H) (tCons ta tNil)) σ H (.int (if a < 0 then -a else a)) := fun _ q => ha _ ⟨a, rfl, q⟩
theorem pu_max (ha : Pu ta σ H (.int a)) (hb : Pu tb σ H (.int b)) : Pu (tCB (fun xs H Q => ∃ i j, xs = [.int i, .int j] ∧ Q (.int (if j > i then j else i)) H) (tCons ta (tCons tb tNil))) σ H (.int (if b > a then b else a)) := fun _ q => ha _ (hb _ ⟨a, b, rfl, q⟩)
theorem pu_min (ha : Pu ta σ H (.int a)) (hb : Pu tb σ H (.int b)) : Pu (tCB (fun xs H Q => ∃ i j, xs = [.int i, .int j] ∧ Q (.int (if j < i then j else i)) H) (tCons ta (tCons tb tNil))) σ H (.int (if b < a then b else a)) := fun _ q => ha _ (hb _ ⟨a, b, rfl, q⟩)
theorem pu_strI (ha : Pu ta σ H (.int a)) (hz : a.natAbs.log2 < 1920) : Pu (tCB (fun xs H Q => ∃ i, xs = [.int i] ∧ i.natAbs.log2 < 1920 ∧ Q (.str (toString i)) H) (tCons ta tNil)) σ H (.str (toString a)) := fun _ q => ha _ ⟨a, rfl, hz, q⟩
theorem pu_isi {k : V} {tt uu : Value} {r : Bool} (ha : Pu ta σ H x) (hb : Pu tb σ H k) (h1 : ClsV k uu) (h2 : TyX K H x tt) (h3 : PySem.W.kitOne K tt uu = some r) :
    Pu (tCB (rIsi K) (tCons ta (tCons tb tNil))) σ H (.bl r) := fun _ q => ha _ (hb _ ⟨x, k, tt, uu, r, rfl, h1, h2, h3, q⟩)
theorem pu_bits (ha : Pu ta σ H (.int a)) : Pu (tBits ta) σ H (.int (Builtin.Int.intBits a : Nat)) := fun _ q => ha _ ⟨a, rfl, q⟩
theorem pu_isN (ha : Pu ta σ H x) : Pu (tOp (fun x y H Q => y = .non ∧ Q (.bl (decide (x = .non))) H) ta (tC .non)) σ H (.bl (decide (x = .non))) := fun _ q => ha _ ⟨rfl, q⟩
theorem pu_notN (ha : Pu ta σ H x) : Pu (tOp (fun x y H Q => y = .non ∧ Q (.bl (!decide (x = .non))) H) ta (tC .non)) σ H (.bl (!decide (x = .non))) := fun _ q => ha _ ⟨rfl, q⟩
theorem pu_andV (ha : Pu ta σ H (.bl p)) (hb : p = true → Pu tb σ H (.bl q)) : Pu (tAndV ta tb) σ H (.bl (p && q)) := fun Q k => ha _ ⟨p, rfl, by
  cases p with
  | true => exact iteT (hb rfl _ k)
  | false => exact iteF k⟩
theorem pu_orV (ha : Pu ta σ H (.bl p)) (hb : p = false → Pu tb σ H (.bl q)) : Pu (tOrV ta tb) σ H (.bl (p || q)) := fun Q k => ha _ ⟨p, rfl, by
  cases p with
  | true => exact iteT k
  | false => exact iteF (hb rfl _ k)⟩
theorem pu_notV (ha : Pu ta σ H (.bl p)) : Pu (tNotV ta) σ H (.bl (!p)) := fun _ k => ha _ ⟨p, rfl, k⟩
theorem put_test (h : Pu ta σ H (.bl p)) : PuT (tTest ta) σ H p := fun _ k => h _ ⟨p, rfl, k⟩
theorem put_B (h : Pu ta σ H (.bl p)) : PuT (tB ta) σ H p := fun _ k => h _ ⟨p, rfl, k⟩
theorem put_and (h1 : PuT t σ H p) (h2 : p = true → PuT u σ H q) : PuT (tAnd t u) σ H (p && q) := fun Q k => h1 _ (by
  cases p with
  | true => exact iteT (h2 rfl _ k)
  | false => exact iteF k)
theorem put_or (h1 : PuT t σ H p) (h2 : p = false → PuT u σ H q) : PuT (tOr t u) σ H (p || q) := fun Q k => h1 _ (by
  cases p with
  | true => exact iteT k
  | false => exact iteF (h2 rfl _ k))
theorem put_not (h : PuT t σ H p) : PuT (tNot t) σ H (!p) := fun _ k => h _ k
theorem pu_if (hc : PuT t σ H p) (h1 : p = true → Pu ta σ H v) (h2 : p = false → Pu tb σ H v) : Pu (tIf t ta tb) σ H v := fun Q k => hc _ (by
  cases p with
  | true => exact iteT (h1 rfl _ k)
  | false => exact iteF (h2 rfl _ k))
theorem pua_nil : PuA tNil σ H [] := fun _ q => q
theorem pua_cons {tr : TA} {vs : List V} (h : Pu ta σ H x) (hr : PuA tr σ H vs) : PuA (tCons ta tr) σ H (x :: vs) := fun _ q => h _ (hr _ q)
variable {D : Ends} {s r z : TS}
theorem st_if (h : PuT t σ H p) (k : if p = true then s D σ H else r D σ H) : tIfS t s r D σ H := h _ k
theorem sq_if (h : PuT t σ H p) (k1 : p = true → s { D with nx := z D } σ H) (k2 : p = false → r { D with nx := z D } σ H) : tSeq (tIfS t s r) z D σ H := h _ (by
  cases p with
  | true => exact iteT (k1 rfl)
  | false => exact iteF (k2 rfl))
/-- an if without else whose body returns -/
theorem sq_when (h : PuT t σ H p) (k1 : p = true → s { D with nx := z D } σ H) (k2 : p = false → z D σ H) : tSeq (tIfS t s tNext) z D σ H := h _ (by
  cases p with
  | true => exact iteT (k1 rfl)
  | false => exact iteF (k2 rfl))
/-- a test that does not hold -/
theorem sq_skip (h : PuT t σ H false) (k2 : z D σ H) : tSeq (tIfS t s tNext) z D σ H := h _ (iteF k2)
theorem sq_asg {i : Nat} (h : Pu ta σ H v) (k : z D (σ.set i (some v)) H) : tSeq (tAsg ta (gName i)) z D σ H := h _ k
theorem st_ret (h : Pu ta σ H v) (k : D.rt v H) : tRet ta D σ H := h _ k
theorem st_asg {i : Nat} (h : Pu ta σ H v) (k : D.nx (σ.set i (some v)) H) : tAsg ta (gName i) D σ H := h _ k
theorem nt {b : Bool} (h : (!b) = true) : b = false := by cases b with | true => cases h | false => rfl
theorem nf {b : Bool} (h : (!b) = false) : b = true := by cases b with | true => rfl | false => cases h
theorem yes_go {Q : Bool → Hp → Prop} (h : Q true H) : tYes σ H Q := h
/-- any test of a bool -/
theorem if_b {A B : Prop} (p : Bool) (h1 : p = true → A) (h2 : p = false → B) : if p = true then A else B := by
  cases p with
  | true => exact iteT (h1 rfl)
  | false => exact iteF (h2 rfl)
end
end Ck

/-! what comes of an expression as data; the laws' outer loops -/
namespace Ck
open PySem PySem.Spec PyProof.Rows L2 Evl
section
variable {K : PySem.W.Frag} {H H' : Hp}
mutual
theorem dpM (e : Ex H H') : ∀ {v : V} {d : PyData}, Dp K H v d → Dp K H' v d
  | _, _, .non => .non
  | _, _, .bl b => .bl b
  | _, _, .int i => .int i
  | _, _, .str x => .str x
  | _, _, .lst h a => .lst (ex_l e h) (dpaM e a)
  | _, _, .tup h a => .tup (ex_t e h) (dpaM e a)
theorem dpaM (e : Ex H H') : ∀ {vs : List V} {ds : List PyData}, DpAll K H vs ds → DpAll K H' vs ds
  | _, _, .nil => .nil
  | _, _, .cons h t => .cons (dpM e h) (dpaM e t)
end
end
def Ed (K : PySem.W.Frag) (te : TE) (σ : L2.St) (H : Hp) (d : PyData) : Prop := ∀ H1, Ex H H1 → ∀ Q : VK, (∀ v H2, Ex H1 H2 → Dp K H2 v d → Q v H2) → te σ H1 Q
def EdA (K : PySem.W.Frag) (ta : TA) (σ : L2.St) (H : Hp) (ds : List PyData) : Prop := ∀ H1, Ex H H1 → ∀ Q : List V → Hp → Prop, (∀ vs H2, Ex H1 H2 → DpAll K H2 vs ds → Q vs H2) → ta σ H1 Q
/-- what may be shown -/
structure Sh (d : PyData) : Prop where
  sh : PyData.showable d = true
  nd : PyData.hasDict d = false
  dp : PyData.depth d ≤ 20
  ln : (PyData.shown d).length ≤ sizeLine
section
variable {K : PySem.W.Frag} {σ : L2.St} {H H' : Hp} {ta tb te tc : TE} {tr : TA} {t u : TT} {x y z v : V} {d e : PyData} {ds : List PyData} {a b c : Int} {p q : Bool}
theorem Ed.mono (e1 : Ex H H') (h : Ed K te σ H d) : Ed K te σ H' d := fun H1 e Q q => h H1 (e1.trans e) Q q
theorem ed_of (h : Ev te σ H v) (hd : Dp K H v d) : Ed K te σ H d := fun H1 e Q q => h H1 e Q fun H2 e2 => q v H2 e2 (dpM (e.trans e2) hd)
theorem ed_bl (h : Ev te σ H (.bl p)) : Ed K te σ H (.bool p) := ed_of h (.bl p)
theorem ed_int (h : Ev te σ H (.int a)) : Ed K te σ H (.int a) := ed_of h (.int a)
theorem ed_non (h : Ev te σ H .non) : Ed K te σ H .none := ed_of h .non
theorem ed_str {s : Str} (h : Ev te σ H (.str s)) : Ed K te σ H (.str s) := ed_of h (.str s)
theorem ed_nil : EdA K tNil σ H [] := fun H1 _ _ q => q [] H1 (Ex.refl H1) .nil
theorem ed_cons (h : Ed K te σ H d) (hr : EdA K tr σ H ds) : EdA K (tCons te tr) σ H (d :: ds) := fun H1 e Q q =>
  h H1 e _ fun v H2 e2 hd => hr H2 (e.trans e2) _ fun vs H3 e3 ha => q (v :: vs) H3 (e2.trans e3) (.cons (dpM e3 hd) ha)
theorem dpa_len : ∀ {vs : List V} {ds : List PyData}, DpAll K H vs ds → vs.length = ds.length
  | _, _, .nil => rfl
  | _, _, .cons _ t => congrArg (· + 1) (dpa_len t)
theorem ed_lst (h : EdA K tr σ H ds) (hl : ds.length ≤ 100000 := by exact Nat.le_of_ble_eq_true rfl) : Ed K (tLst tr) σ H (.list ds) := fun H1 e Q q =>
  h H1 e _ fun vs H2 e2 ha => ⟨sz_of (by rw [dpa_len ha]; exact hl), fun p hp => q (.ref p) _ (e2.trans (Ex.new hp)) (.lst (sq_of upd_same) (dpaM (Ex.new hp) ha))⟩
theorem ed_tup (h : EdA K tr σ H ds) (hl : ds.length ≤ 100000 := by exact Nat.le_of_ble_eq_true rfl) : Ed K (tTup tr) σ H (.tuple ds) := fun H1 e Q q =>
  h H1 e _ fun vs H2 e2 ha => ⟨sz_of (by rw [dpa_len ha]; exact hl), fun p hp => q (.ref p) _ (e2.trans (Ex.new hp)) (.tup (st_of upd_same) (dpaM (Ex.new hp) ha))⟩
theorem ev_repr (h : Ed K te σ H d) (s : Sh d) : Ev (tCB (rReprD K) (tCons te tNil)) σ H (.str (PyData.shown d)) := fun H1 e Q q =>
  h H1 e _ fun v H2 e2 hd => ⟨v, d, rfl, hd, s.sh, s.nd, s.dp, s.ln, q H2 e2⟩
theorem ev_eqD (h : Ed K ta σ H d) (h' : Ed K tb σ H e) (s : SeqAt.shaped d = true) (s' : SeqAt.shaped e = true) : Ev (tOp (rEqD K) ta tb) σ H (.bl (PyData.eqv d e)) := fun H1 e1 Q q =>
  h H1 e1 _ fun v H2 e2 hd => h' H2 (e1.trans e2) _ fun u H3 e3 hd' => ⟨_, _, dpM e3 hd, hd', s, s', q H3 (e2.trans e3)⟩
theorem ev_neD (h : Ed K ta σ H d) (h' : Ed K tb σ H e) (s : SeqAt.shaped d = true) (s' : SeqAt.shaped e = true) : Ev (tOp (rNeD K) ta tb) σ H (.bl (!PyData.eqv d e)) := fun H1 e1 Q q =>
  h H1 e1 _ fun v H2 e2 hd => h' H2 (e1.trans e2) _ fun u H3 e3 hd' => ⟨_, _, dpM e3 hd, hd', s, s', q H3 (e2.trans e3)⟩
/-- what leaves the heap as it is, at every greater heap -/
theorem ev_pu (h : ∀ H1, Ex H H1 → Pu te σ H1 v) : Ev te σ H v := fun H1 e Q q => h H1 e Q (q H1 (Ex.refl H1))
theorem ev_i0 {g : Int → Int → V} (ha : Ev ta σ H (.int a)) (hb : Ev tb σ H (.int b)) : Ev (tOp (rI0 g) ta tb) σ H (g a b) := ev_op ha hb rv_I0
theorem ev_i {C : Int → Int → Prop} {g : Int → Int → V} (ha : Ev ta σ H (.int a)) (hb : Ev tb σ H (.int b)) (hc : C a b) : Ev (tOp (rI C g) ta tb) σ H (g a b) := ev_op ha hb (rv_I hc)
theorem ev_eq (ha : Ev ta σ H x) (hb : Ev tb σ H y) (hs : scal x y = true) : Ev (tOp rEq ta tb) σ H (.bl (decide (x = y))) := ev_op ha hb (rv_eq hs)
theorem ev_ne (ha : Ev ta σ H x) (hb : Ev tb σ H y) (hs : scal x y = true) : Ev (tOp rNe ta tb) σ H (.bl (!decide (x = y))) := ev_op ha hb (rv_ne hs)
theorem ev_addS {s r : Str} (ha : Ev ta σ H (.str s)) (hb : Ev tb σ H (.str r)) (hl : s.length + r.length ≤ sizeLine) :
    Ev (tOp (fun x y H Q => ∃ i j, x = .str i ∧ y = .str j ∧ i.length + j.length ≤ sizeLine ∧ Q (.str (i ++ j)) H) ta tb) σ H (.str (s ++ r)) := ev_op ha hb fun H1 _ _ q => ⟨s, r, rfl, rfl, hl, q H1 (Ex.refl H1)⟩
theorem ev_chain {f g : Int → Int → Bool} (ha : Ev ta σ H (.int a)) (hb : Ev tb σ H (.int b)) (hc : Ev tc σ H (.int c)) :
    Ev (tChain (rI0 fun i j => .bl (f i j)) (rI0 fun i j => .bl (g i j)) ta tb tc) σ H (.bl (f a b && g b c)) := fun H1 e Q q =>
  ha H1 e _ fun H2 e2 => hb H2 (e.trans e2) _ fun H3 e3 => ⟨a, b, rfl, rfl, f a b, rfl, by
    cases h : f a b with
    | true =>
      rw [h] at q
      exact iteT (hc H3 ((e.trans e2).trans e3) _ fun H4 e4 => ⟨b, c, rfl, rfl, q H4 ((e2.trans e3).trans e4)⟩)
    | false =>
      rw [h] at q
      exact iteF (q H3 (e2.trans e3))⟩
theorem ev_isB {p q : Bool} (ha : Ev ta σ H (.bl p)) (hb : Ev tb σ H (.bl q)) : Ev (tOp (fun x y H Q => ∃ a b, x = .bl a ∧ y = .bl b ∧ Q (.bl (decide (a = b))) H) ta tb) σ H (.bl (decide (p = q))) :=
  ev_op ha hb fun H1 _ _ k => ⟨p, q, rfl, rfl, k H1 (Ex.refl H1)⟩
theorem ev_notB {p q : Bool} (ha : Ev ta σ H (.bl p)) (hb : Ev tb σ H (.bl q)) : Ev (tOp (fun x y H Q => ∃ a b, x = .bl a ∧ y = .bl b ∧ Q (.bl (!decide (a = b))) H) ta tb) σ H (.bl (!decide (p = q))) :=
  ev_op ha hb fun H1 _ _ k => ⟨p, q, rfl, rfl, k H1 (Ex.refl H1)⟩
theorem ev_isi {k : V} {tt uu : Value} {r : Bool} (ha : Ev ta σ H x) (hb : Ev tb σ H k) (h1 : ClsV k uu) (h2 : ∀ H1, Ex H H1 → TyX K H1 x tt) (h3 : PySem.W.kitOne K tt uu = some r) :
    Ev (tCB (rIsi K) (tCons ta (tCons tb tNil))) σ H (.bl r) := fun H1 e Q q => ha H1 e _ fun H2 e2 => hb H2 (e.trans e2) _ fun H3 e3 => ⟨x, k, tt, uu, r, rfl, h1, h2 H3 ((e.trans e2).trans e3), h3, q H3 (e2.trans e3)⟩
theorem ev_lenS {s : Str} (ha : Ev ta σ H (.str s)) (hz : s.length ≤ sizeLine) :
    Ev (tCB (fun xs H Q => ∃ z, xs = [.str z] ∧ z.length ≤ sizeLine ∧ Q (.int z.length) H) (tCons ta tNil)) σ H (.int (s.length : Int)) := fun H1 e Q q => ha H1 e _ fun H2 e2 => ⟨s, rfl, hz, q H2 e2⟩
theorem ev_lenL {l : Addr} {xs : List V} (ha : Ev ta σ H (.ref l)) (hl : SqL K H l xs) :
    Ev (tCB (fun xs H Q => ∃ p ys, xs = [.ref p] ∧ (SqL K H p ys ∨ SqT K H p ys) ∧ Q (.int ys.length) H) (tCons ta tNil)) σ H (.int (xs.length : Int)) := fun H1 e Q q => ha H1 e _ fun H2 e2 => ⟨l, xs, rfl, .inl (ex_l (e.trans e2) hl), q H2 e2⟩
theorem ev_lenT {l : Addr} {xs : List V} (ha : Ev ta σ H (.ref l)) (hl : SqT K H l xs) :
    Ev (tCB (fun xs H Q => ∃ p ys, xs = [.ref p] ∧ (SqL K H p ys ∨ SqT K H p ys) ∧ Q (.int ys.length) H) (tCons ta tNil)) σ H (.int (xs.length : Int)) := fun H1 e Q q => ha H1 e _ fun H2 e2 => ⟨l, xs, rfl, .inr (ex_t (e.trans e2) hl), q H2 e2⟩
theorem ev_abs (ha : Ev ta σ H (.int a)) : Ev (tCB (fun xs H Q => ∃ i, xs = [.int i] ∧ Q (.int (if i < 0 then -i else i)) H) (tCons ta tNil)) σ H (.int (if a < 0 then -a else a)) := fun H1 e Q q => ha H1 e _ fun H2 e2 => ⟨a, rfl, q H2 e2⟩
theorem ev_min (ha : Ev ta σ H (.int a)) (hb : Ev tb σ H (.int b)) : Ev (tCB (fun xs H Q => ∃ i j, xs = [.int i, .int j] ∧ Q (.int (if j < i then j else i)) H) (tCons ta (tCons tb tNil))) σ H (.int (if b < a then b else a)) := fun H1 e Q q => ha H1 e _ fun H2 e2 => hb H2 (e.trans e2) _ fun H3 e3 => ⟨a, b, rfl, q H3 (e2.trans e3)⟩
theorem ev_strI (ha : Ev ta σ H (.int a)) (hz : a.natAbs.log2 < 1920) : Ev (tCB (fun xs H Q => ∃ i, xs = [.int i] ∧ i.natAbs.log2 < 1920 ∧ Q (.str (toString i)) H) (tCons ta tNil)) σ H (.str (toString a)) := fun H1 e Q q => ha H1 e _ fun H2 e2 => ⟨a, rfl, hz, q H2 e2⟩
theorem ev_bits (ha : Ev ta σ H (.int a)) : Ev (tBits ta) σ H (.int (Builtin.Int.intBits a : Nat)) := fun H1 e Q q => ha H1 e _ fun H2 e2 => ⟨a, rfl, q H2 e2⟩
theorem ev_isN (ha : Ev ta σ H x) : Ev (tOp (fun x y H Q => y = .non ∧ Q (.bl (decide (x = .non))) H) ta (tC .non)) σ H (.bl (decide (x = .non))) := fun H1 e Q q => ha H1 e _ fun H2 e2 => ⟨rfl, q H2 e2⟩
theorem ev_notN (ha : Ev ta σ H x) : Ev (tOp (fun x y H Q => y = .non ∧ Q (.bl (!decide (x = .non))) H) ta (tC .non)) σ H (.bl (!decide (x = .non))) := fun H1 e Q q => ha H1 e _ fun H2 e2 => ⟨rfl, q H2 e2⟩
theorem ev_ixL {l : Addr} {xs : List V} {i : Int} (ha : Ev ta σ H (.ref l)) (hb : Ev tb σ H (.int i)) (hl : SqL K H l xs) (hi : atI xs i = some v) : Ev (tOp (rIxL K) ta tb) σ H v := ev_op ha hb (rv_ixL hl hi)
theorem ev_ixT {l : Addr} {xs : List V} {i : Int} (ha : Ev ta σ H (.ref l)) (hb : Ev tb σ H (.int i)) (hl : SqT K H l xs) (hi : atI xs i = some v) : Ev (tOp (rIxT K) ta tb) σ H v := ev_op ha hb (rv_ixT hl hi)
/-- a truth of a bool -/
theorem et_tru (h : Ev te σ H (.bl p)) : EvT (fun σ H Q => te σ H fun x H' => ∃ k, TruV K x H' k ∧ Q k H') σ H p := fun H1 e _ q => h H1 e _ fun H2 e2 => ⟨p, rfl, q H2 e2⟩
/-- a call of an own def of one argument, a value -/
theorem ev_call1 {sp : Sp} {E : XK} (h : Ev te σ H x) (hs : SpV sp [x] H z) : Ev (tCall sp [] E (tCons te tNil)) σ H z := ev_call (vs := [x]) (ea_cons h ea_nil) hs
end

/-! comprehensions over a text; lists as data -/
section
variable {K : PySem.W.Frag} {σ : L2.St} {H : Hp} {te tl : TE} {t : TT} {xs : List V} {ds : List PyData}
theorem el_lcS {z : Str} {j : Nat} {vs : List Nat} (f : Nat → Bool) (v : Nat → V) (h : Ev tl σ H (.str z)) (hz : z.cps.size ≤ 40000) (hw : ∀ x, wipe ((wipe σ vs).set j (some x)) vs = wipe σ vs)
    (ht : ∀ (i c : Nat) H1, Ex H H1 → z.cps[i]? = some c → EvT t ((wipe σ vs).set j (some (.str ⟨#[c]⟩))) H1 (f i)) (he : ∀ (i c : Nat) H1, Ex H H1 → z.cps[i]? = some c → f i = true → Ev te ((wipe σ vs).set j (some (.str ⟨#[c]⟩))) H1 (v i)) :
    EvL (tLc (iStr tl) (gName j) t te vs) σ H (given z.cps.size f v) := fun H0 e Q q => h H0 e _ fun H1 e1 => ⟨z, rfl, fun Dl hD => by
  refine lc_it walk_str (Cw H1 f v Dl) ⟨hD, Ex.new hD, upd_same⟩ (fun _ _ _ _ => trivial) ?_ (fun H' p => q Dl H' (fresh_back e1 p.1) (e1.trans p.2.1) p.2.2)
  rintro i _ H' _ hi p ⟨rfl, c, hc, rfl⟩
  exact ⟨hw _, cw_turn p (by omega) (ht i c H1 (e.trans e1) hc) (fun hf => he i c H1 (e.trans e1) hc hf)⟩⟩
theorem ed_ofL (h : EvL te σ H xs) (hd : ∀ H1, Ex H H1 → DpAll K H1 xs ds) : Ed K te σ H (.list ds) := fun H1 e Q q =>
  h H1 e _ fun p H2 _ e2 hp => q (.ref p) H2 e2 (.lst (sq_of hp) (hd H2 (e.trans e2)))
theorem dpa_map {α : Type} {f : α → V} {g : α → PyData} (h : ∀ x, Dp K H (f x) (g x)) : ∀ l : List α, DpAll K H (l.map f) (l.map g)
  | [] => .nil
  | x :: r => .cons (h x) (dpa_map h r)
end
theorem shaped_flat {ds : List PyData} (h : ∀ d ∈ ds, PyData.canLay0 d = true ∧ PyData.depth d = 0) : SeqAt.shaped (.list ds) = true := by
  have e : PyData.canLayAll0 ds = true ∧ PyData.depthAll ds = 0 := by
    induction ds with
    | nil => exact ⟨rfl, rfl⟩
    | cons x r ih =>
      obtain ⟨h1, h2⟩ := h x List.mem_cons_self
      obtain ⟨g1, g2⟩ := ih fun d hd => h d (List.mem_cons_of_mem _ hd)
      exact ⟨by simp only [PyData.canLayAll0, h1, g1]; rfl, by simp only [PyData.depthAll, h2, g2]; rfl⟩
  unfold SeqAt.shaped
  simp only [PyData.canLay0, PyData.depth, e.1, e.2]
  rfl
/-! the laws' loops -/
section
variable {K : PySem.W.Frag} {σ : L2.St} {H : Hp} {D : Ends} {body rest : TS} {a : Addr} {ns : List Int}
/-- at a turn of the outer loop: the script stands in slot 0, all that stood stands -/
def Out (a : Addr) (m : Nat) (H0 : Hp) (σ : L2.St) (H : Hp) : Prop := (∃ r, σ = some (.ref a) :: r ∧ r.length = m) ∧ Same H0 H
/-- for spot in range(max(1, min(k, len(script)))) -/
theorem spots {m : Nat} {k : Int} (hk : 0 ≤ k ∧ k ≤ 100) (hv : σ = some (.ref a) :: List.replicate m none) (hm : 0 < m) (hS : SqL K H a (ns.map V.int))
    (step : ∀ (s : Nat) (r : L2.St) (H1 : Hp), r.length + 1 = m → Same H H1 → body { D with nx := Out a m H, ct := Out a m H, bk := rest D } (some (.ref a) :: some (.int (s : Int)) :: r) H1)
    (done : ∀ (r : L2.St) (H1 : Hp), r.length = m → Same H H1 → rest D (some (.ref a) :: r) H1) :
    tSeq (tFor (iRng1 (tCons (tCB (fun xs H Q => ∃ i j, xs = [.int i, .int j] ∧ Q (.int (if j > i then j else i)) H) (tCons (tC (.int 1)) (tCons (tCB (fun xs H Q => ∃ i j, xs = [.int i, .int j] ∧ Q (.int (if j < i then j else i)) H) (tCons (tC (.int k))
      (tCons (tCB (fun xs H Q => ∃ p ys, xs = [.ref p] ∧ (SqL K H p ys ∨ SqT K H p ys) ∧ Q (.int ys.length) H) (tCons (tVar 0) tNil)) tNil))) tNil))) tNil)) (gName 1) body) rest D σ H := by
  subst hv
  have e0 : (some (V.ref a) :: List.replicate m none : L2.St)[0]? = some (some (.ref a)) := rfl
  refine ⟨.ref a, e0, a, _, rfl, .inl hS, k, _, rfl, 1, _, rfl, _, rfl, ?_, ?_, ?_⟩
  · split <;> split <;> omega
  · split <;> split <;> omega
  refine for_range (fun _ => Out a m H) ⟨⟨_, rfl, List.length_replicate⟩, Same.refl H⟩ ?_ ?_
  · rintro i σ' H' hi ⟨⟨r, rfl, hr⟩, hs⟩
    match r, hr with
    | x :: r, hr =>
      have z := step i r H' hr hs
      show body _ (some (.ref a) :: some (.int (0 + (i : Int))) :: r) H'
      rw [Int.zero_add]
      exact z
    | [], hr => exact absurd hr (by show ¬ 0 = m; omega)
  · rintro σ' H' ⟨⟨r, rfl, hr⟩, hs⟩
    exact done r H' hr hs
/-- at a turn of the inner loop: dice in slot 2 -/
def Inn (a d : Addr) (m : Nat) (H0 : Hp) (σ : L2.St) (H : Hp) : Prop := (∃ s r, σ = some (.ref a) :: s :: some (.ref d) :: r ∧ r.length = m) ∧ Same H0 H ∧ Dice H d
theorem turns {m : Nat} {n : Int} {d : Addr} {H0 : Hp} (hn : 0 ≤ n ∧ n ≤ 100) (hi : Inn a d (m + 1) H0 σ H)
    (step : ∀ (t s : Option V) (r : L2.St) (H1 : Hp), r.length = m → Same H0 H1 → Dice H1 d → body { D with nx := Inn a d (m + 1) H0, ct := Inn a d (m + 1) H0, bk := rest D } (some (.ref a) :: s :: some (.ref d) :: t :: r) H1)
    (done : ∀ (s : Option V) (r : L2.St) (H1 : Hp), r.length = m + 1 → Same H0 H1 → Dice H1 d → rest D (some (.ref a) :: s :: some (.ref d) :: r) H1) :
    tSeq (tFor (iRng1 (tCons (tC (.int n)) tNil)) (gName 3) body) rest D σ H := by
  refine ⟨n, rfl, by omega, by omega, ?_⟩
  refine for_range (fun _ => Inn a d (m + 1) H0) hi ?_ ?_
  · rintro i σ' H' _ ⟨⟨s, r, rfl, hr⟩, hs, hd⟩
    match r, hr with
    | x :: r, hr => exact step _ s r H' (Nat.succ.inj hr) hs hd
  · rintro σ' H' ⟨⟨s, r, rfl, hr⟩, hs, hd⟩
    exact done s r H' hr hs hd
end

/-! what comes of an expression, by a word that lasts -/
def Es (Pr : V → Hp → Prop) (te : TE) (σ : L2.St) (H : Hp) : Prop := ∀ H1, Ex H H1 → ∀ Q : VK, (∀ v H2, Ex H1 H2 → Pr v H2 → Q v H2) → te σ H1 Q
def EsA (Pr : V → Hp → Prop) (ta : TA) (σ : L2.St) (H : Hp) (n : Nat) : Prop := ∀ H1, Ex H H1 → ∀ Q : List V → Hp → Prop, (∀ vs H2, Ex H1 H2 → vs.length = n → (∀ v ∈ vs, Pr v H2) → Q vs H2) → ta σ H1 Q
/-- it lasts while the heap grows -/
def Lasts (Pr : V → Hp → Prop) : Prop := ∀ v H H', Ex H H' → Pr v H → Pr v H'
section
variable {K : PySem.W.Frag} {σ : L2.St} {H H' : Hp} {te ta : TE} {tr : TA} {Pr Pr' : V → Hp → Prop} {n : Nat} {v : V}
theorem es_ev (h : Ev te σ H v) (hp : ∀ H1, Ex H H1 → Pr v H1) : Es Pr te σ H := fun H1 e Q q => h H1 e Q fun H2 e2 => q v H2 e2 (hp H2 (e.trans e2))
theorem es_imp (h : Es Pr' te σ H) (hp : ∀ v H1, Pr' v H1 → Pr v H1) : Es Pr te σ H := fun H1 e Q q => h H1 e Q fun v H2 e2 p => q v H2 e2 (hp v H2 p)
theorem es_nil : EsA Pr tNil σ H 0 := fun H1 _ _ q => q [] H1 (Ex.refl H1) rfl fun _ z => nomatch z
theorem es_cons (L : Lasts Pr) (h : Es Pr te σ H) (hr : EsA Pr tr σ H n) : EsA Pr (tCons te tr) σ H (n + 1) := fun H1 e Q q =>
  h H1 e _ fun v H2 e2 hv => hr H2 (e.trans e2) _ fun vs H3 e3 hl ha => q (v :: vs) H3 (e2.trans e3) (congrArg (· + 1) hl) fun x hx => by
    rcases List.mem_cons.mp hx with rfl | hx
    · exact L _ _ _ e3 hv
    · exact ha x hx
/-- a new list of such -/
theorem es_lst (L : Lasts Pr) (h : EsA Pr tr σ H n) (hn : n ≤ 100000) : ∀ H1, Ex H H1 → ∀ Q : VK, (∀ p xs H2, H1 p = none → Ex H1 H2 → H2 p = some (.lst xs) → xs.length = n → (∀ x ∈ xs, Pr x H2) → Q (.ref p) H2) → tLst tr σ H1 Q := fun H1 e Q q =>
  h H1 e _ fun vs H2 e2 hl ha => ⟨sz_of (by omega), fun p hp => q p vs _ (fresh_back e2 hp) (e2.trans (Ex.new hp)) upd_same hl fun x hx => L _ _ _ (Ex.new hp) (ha x hx)⟩
/-- name = [..] -/
theorem sq_lst {D : Ends} {z : TS} {i : Nat} (L : Lasts Pr) (h : EsA Pr tr σ H n) (hn : n ≤ 100000) (k : ∀ p xs H2, H p = none → Ex H H2 → H2 p = some (.lst xs) → xs.length = n → (∀ x ∈ xs, Pr x H2) → z D (σ.set i (some (.ref p))) H2) :
    tSeq (tAsg (tLst tr) (gName i)) z D σ H := es_lst L h hn H (Ex.refl H) (fun x H1 => gName i x σ H1 (z D)) fun p xs H2 h1 h2 h3 h4 h5 => k p xs H2 h1 h2 h3 h4 h5
theorem es_newL {xs : List V} (h : EvL te σ H xs) (hp : ∀ p H1, H1 p = some (.lst xs) → Pr (.ref p) H1) : Es Pr te σ H := fun H1 e Q q => h H1 e Q fun p H2 _ e2 k => q (.ref p) H2 e2 (hp p H2 k)
theorem es_newU {xs : List V} (h : EvU te σ H xs) (hp : ∀ p H1, H1 p = some (.tup xs) → Pr (.ref p) H1) : Es Pr te σ H := fun H1 e Q q => h H1 e Q fun p H2 _ e2 k => q (.ref p) H2 e2 (hp p H2 k)
/-- a written dict of one pair of constants -/
theorem es_dict1 {k : Key} {v : V} (hp : ∀ p kvs H1, H1 p = some (.dK kvs) → Pr (.ref p) H1) : Es Pr (tDisp [(tC (kV k), tC v)]) σ H := fun H1 e Q q p hp0 => by
  refine ⟨upd_same, [(k, v)], rfl, (show 1 ≤ 15 by decide), ?_⟩
  refine q (.ref p) _ (fun b o z => ?_) (hp p _ _ upd_same)
  have n := ne_of_none z hp0
  rw [upd_ne n, upd_ne n]
  exact z
theorem tyM (e : Ex H H') {x : V} {t : Value} (h : TyX K H x t) : TyX K H' x t := by
  cases h with
  | base b =>
    refine .base ?_
    cases b with
    | non => exact .non
    | bl y => exact .bl y
    | int i => exact .int i
    | str y => exact .str y
    | flt y => exact .flt y
    | lst ea => exact .lst (e _ _ ea)
    | frz ea => exact .frz (e _ _ ea)
    | tup ea => exact .tup (e _ _ ea)
    | dK ea => exact .dK (e _ _ ea)
    | dT ea => exact .dT (e _ _ ea)
    | ins ea cl ha hn htk hm => exact .ins (e _ _ ea) cl ha hn htk hm
  | byt b => exact .byt b
  | set ea => exact .set (e _ _ ea)
  | kList a c => exact .kList a c
  | kTuple a c => exact .kTuple a c
  | kDict a c => exact .kDict a c
  | fTuple ea => exact .fTuple (e _ _ ea)
  | fDict ea => exact .fDict (e _ _ ea)
/-- only the dice have changed: each value has its type -/
theorem tyD {d : Addr} (h1 : Dice H d) (h2 : Dice H' d) (k : But d H H') {x : V} {t : Value} (h : TyX K H x t) : TyX K H' x t := by
  obtain ⟨a1, a2, a3, e1⟩ := h1
  obtain ⟨b1, b2, b3, e2⟩ := h2
  have go : ∀ (a : Addr) (o : HO), H a = some o → (∀ xs, o ≠ .lst xs) → H' a = some o := fun a o e n => by
    by_cases z : a = d
    · rw [z, e1] at e
      exact absurd (Option.some.inj e).symm (n _)
    · exact (k a z).trans e
  cases h with
  | base b =>
    refine .base ?_
    cases b with
    | non => exact .non
    | bl y => exact .bl y
    | int i => exact .int i
    | str y => exact .str y
    | flt y => exact .flt y
    | @lst a xs ea =>
      by_cases z : a = d
      · rw [z]; exact .lst e2
      · exact .lst ((k a z).trans ea)
    | frz ea => exact .frz (go _ _ ea fun _ z => nomatch z)
    | tup ea => exact .tup (go _ _ ea fun _ z => nomatch z)
    | dK ea => exact .dK (go _ _ ea fun _ z => nomatch z)
    | dT ea => exact .dT (go _ _ ea fun _ z => nomatch z)
    | ins ea cl ha hn htk hm => exact .ins (go _ _ ea fun _ z => nomatch z) cl ha hn htk hm
  | byt b => exact .byt b
  | set ea => exact .set (go _ _ ea fun _ z => nomatch z)
  | kList a c => exact .kList a c
  | kTuple a c => exact .kTuple a c
  | kDict a c => exact .kDict a c
  | fTuple ea => exact .fTuple (go _ _ ea fun _ z => nomatch z)
  | fDict ea => exact .fDict (go _ _ ea fun _ z => nomatch z)
end
end Ck

/-! integers of at most 200 figures -/
namespace Ck
open PySem PySem.Spec PyProof.Rows L2 Evl
def CPowW (i j : Int) : Prop := 0 ≤ j ∧ (Builtin.Int.intBits i : Int) * j ≤ 2 ^ 27
theorem op_powW {X : Cx} : OpR X (binaryOp .Pow) (rI CPowW fun i j => .int (i ^ j.toNat)) := opI fun _ _ _ _ _ _ _ hc q => pow_int hc.1 hc.2 q
theorem powW_ok {i j : Int} (h : (decide (0 ≤ j) && decide ((Builtin.Int.intBits i : Int) * j ≤ 2 ^ 27)) = true) : CPowW i j := by
  simp only [Bool.and_eq_true, decide_eq_true_eq] at h
  exact h
theorem mulW_ok {i j : Int} (h : decide (i.natAbs.log2 + j.natAbs.log2 < 1000000) = true) : CMulW i j := by unfold CMulW; exact of_decide_eq_true h
/-- an integer of at most 200 figures -/
def intB (i : Int) : Bool := decide (i.natAbs < 10 ^ 200)
theorem num_len (n k : Nat) (hk : 0 < k) : (Str.ofString (toString ((n : Nat) : Int))).length ≤ k ↔ n < 10 ^ k := by
  have h := congrArg List.length (TL.tl_num n)
  unfold TL.numL at h
  rw [List.length_map] at h
  rw [← Nat.length_toDigits_le_iff (b := 10) (n := n) (k := k) (by decide) hk, ← h]
  show (Str.ofString (toString (n : Int))).cps.size ≤ k ↔ (Str.ofString (toString (n : Int))).cps.toList.length ≤ k
  rw [Array.length_toList]
theorem abs_if (i : Int) : (if i < 0 then -i else i) = (i.natAbs : Int) := by
  split <;> omega
theorem short_eq (i : Int) : decide (((Str.ofString (toString (if i < 0 then -i else i))).length : Int) ≤ 200) = intB i := by
  rw [abs_if]
  unfold intB
  refine decide_eq_decide.mpr ?_
  rw [← num_len i.natAbs 200 (by decide)]
  omega
theorem bits_big {i : Int} (h : (800 : Int) < ((Builtin.Int.intBits i : Nat) : Int)) : intB i = false := by
  refine decide_eq_false fun z => ?_
  have z2 : i.natAbs < 2 ^ 800 := Nat.lt_trans z (by decide +kernel)
  unfold Builtin.Int.intBits at h
  split at h
  · omega
  · have := PySem.Flt.log2_lt_of (by decide : 0 < 800) z2
    omega
theorem bits_small {i : Int} (h : ¬ (800 : Int) < ((Builtin.Int.intBits i : Nat) : Int)) : i.natAbs.log2 < 1920 := by
  unfold Builtin.Int.intBits at h
  split at h
  · rename_i z
    have : i = 0 := by simpa using z
    rw [this]
    decide
  · omega
/-- a value that is no integer -/
inductive OddI (K : PySem.W.Frag) (H : Hp) (x : V) : Prop where
  | no (n : String) (h : TyX K H x (.type n)) (k : kitB n "int" = some false) (kb : kitB n "bool" = some false := by decide +kernel)
  | bl (b : Bool) (h : x = .bl b)
theorem OddI.lasts {K : PySem.W.Frag} : Lasts fun x H => OddI K H x := fun v H H' e h => by
  cases h with
  | no n h k kb => exact .no n (tyM e h) k kb
  | bl b h => exact .bl b h
theorem OddI.dice {K : PySem.W.Frag} {H H' : Hp} {d : Addr} (h1 : Dice H d) (h2 : Dice H' d) (k : But d H H') {x : V} (h : OddI K H x) : OddI K H' x := by
  cases h with
  | no n h z zb => exact .no n (tyD h1 h2 k h) z zb
  | bl b h => exact .bl b h
/-- x is an integer of which p holds, just if b -/
def NumV (K : PySem.W.Frag) (p : Int → Bool) (H : Hp) (x : V) (b : Bool) : Prop := (∃ i, x = .int i ∧ b = p i) ∨ (OddI K H x ∧ b = false)
def spNum (K : PySem.W.Frag) (p : Int → Bool) : Sp := fun vs H Q _ => ∃ x b, vs = [x] ∧ NumV K p H x b ∧ ∀ H', Ex H H' → Q (.bl b) H'
def cntB (i : Int) : Bool := intB i && decide (0 ≤ i)
def sizB (i : Int) : Bool := intB i && decide (1 ≤ i)
theorem num_i {K : PySem.W.Frag} {p : Int → Bool} {H : Hp} {i : Int} : SpV (spNum K p) [.int i] H (.bl (p i)) := fun H1 _ Q q E => ⟨.int i, _, rfl, .inl ⟨i, rfl, rfl⟩, q⟩
theorem num_o {K : PySem.W.Frag} {p : Int → Bool} {H : Hp} {x : V} (h : OddI K H x) : SpV (spNum K p) [x] H (.bl false) := fun H1 e Q q E => ⟨x, _, rfl, .inr ⟨OddI.lasts _ _ _ e h, rfl⟩, q⟩
end Ck

/-! set(l) of a list of ints, its order still open; sorted of it -/
namespace Ck
open PySem PySem.Spec PyProof.Rows L2
section
variable {P : Program} {w : World} {A : Around} {E : Value → Shared → Prop} {s : Shared}
/-- a set with nothing in it, as set() lays it -/
abbrev emptyS (w : World) : Obj :=
  { cls := .type "set", dict := none
    data := .set #[] 0 (.fresh 0 0 (!w.params.followText "set-order")) }
/-- the state once it is laid -/
abbrev laidS (w : World) (s : Shared) : Shared := { s with heap := s.heap.push (emptyS w) }
/-- what its filling leaves -/
abbrev Full (w : World) (ns : List Int) (s : Shared) (h' : Heap) (c : Nat) : Prop :=
  SetR w h' s.heap.objs.size (fun j => decide (j ∈ ns)) c ∧ c ≤ ns.length ∧ ∀ b o, s.heap.get? b = some o → h'.get? b = some o
/-- set.__init__ of the new set and a list -/
theorem fill_list {l : Addr} {items : Array Value} (ns : List Int) (hh : A.handled = none) (hl : s.heap.IsList l items) (hit : IntsAre items.toList ns) (hb : ns.length + 1 < scanBound) :
    codeAny (model P w) A (.call (.builtin "set.__init__") ⟨[.ref s.heap.objs.size, .ref l], []⟩)
      (wants (fun r s₂ => r = .none ∧ ∃ h' tk c, s₂ = { s with heap := h', toks := tk } ∧ Full w ns s h' c) E) (laidS w s) := by
  have sz : items.size = ns.length := (Array.length_toList (xs := items)).symm.trans (IntsAre.length hit)
  have at0 : (laidS w s).heap.get? s.heap.objs.size = some (emptyS w) := Heap.get?_push_size _ rfl
  have ty : (laidS w s).TypeIs (.ref s.heap.objs.size) "set" := ⟨emptyS w, at0, rfl⟩
  refine codeAny_call_builtin F.called_set.init.plain F.entry_set_init (check_set_init_1 ty ?_)
  obtain ⟨⟨k1, k2, k3, k4⟩, ho, e1, nl, e3⟩ := hl
  cases e1
  cases e3
  have ho' : (laidS w s).heap.get? l = some ⟨.type "list", k2, .seq items nl, k4⟩ := Heap.get?_push_of_some _ ho
  have isl : (laidS w s).heap.IsList l items := ⟨_, ho', rfl, nl, rfl⟩
  have q1 := PySem.F.sub_list_set
  have q2 := PySem.F.sub_list_frozenset
  have q3 : (Value.type "list" == Value.type "dict") = false := by decide
  unfold Builtin.«set.__init__» noKeywords Builtin.Frozenset.updateFrom
  generalize hp : pyIter = PI
  wp_walk
  subst hp
  refine wpAny_pyIter_list isl (wpAny_bind (wpAny_runValue ?_))
  have l0 : l < s.heap.objs.size := Heap.lt_size ho
  have n1 : (laidS w s).heap.objs.size = s.heap.objs.size + 1 := Heap.size_push ..
  have n2 : l ≠ (laidS w s).heap.objs.size := by rw [n1]; exact Nat.ne_of_lt (Nat.lt_succ_of_lt l0)
  have n3 : s.heap.objs.size ∉ [(laidS w s).heap.objs.size, l] := fun z => by
    rw [n1] at z
    rcases List.mem_cons.mp z with z | z
    · exact absurd z (Nat.ne_of_lt (Nat.lt_succ_self _))
    · exact absurd (List.mem_singleton.mp z) (Nat.ne_of_gt l0)
  have val : ∀ (i : Nat) (v : Value), items[i]? = some v → ∃ k t, ns[i]? = some k ∧ v = .int k t := by
    intro i v hv
    have hi : i < ns.length := sz ▸ (Array.getElem?_eq_some_iff.mp hv).1
    obtain ⟨t, e⟩ := IntsAre.int_at hit i v ((Array.getElem?_toList (xs := items)).trans hv)
    exact ⟨ns[i], t, List.getElem?_eq_getElem hi, by rw [e, List.getD_eq_getElem?_getD, List.getElem?_eq_getElem hi] <;> rfl⟩
  have W := (Walks.list (prog := P) (w := w) (show A.in1.in1.handled = none from hh) _ l n2 items).toS
  have start : (∃ c, c ≤ 0 ∧ SetR w ((laidS w s).heap.push { cls := .type "list_iterator", data := .fields #[.ref l, .int 0 0] }) s.heap.objs.size (fun j => decide (j ∈ ns.take 0)) c) :=
    ⟨0, Nat.le_refl 0, setR_new_at (Heap.get?_push_of_some _ at0)⟩
  refine set_update_ints W s.heap.objs.size n3 ns sz hb val _ 0 _ rfl (Nat.zero_le _) ?_ ?_ ?_
  · exact ⟨⟨_, Heap.get?_push_size _ rfl, rfl, rfl⟩, isl.push _⟩
  · exact start
  rintro ⟨h', g2, d2, tk, os2⟩ c mv hc hS
  obtain rfl : g2 = s.gens := mv.gens
  obtain rfl : d2 = s.drawn := mv.drawn
  obtain rfl : os2 = s.os := mv.os
  show wpAny _ _ _ _ _ _
  refine wpAny_pure ?_
  show wpAny _ _ (ret Value.none) _ _ _
  refine wpAny_pure ⟨rfl, h', tk, c, rfl, hS, sz ▸ hc, ?_⟩
  intro b o e
  have b0 : b < s.heap.objs.size := Heap.lt_size e
  refine mv.heap b o (fun z => ?_) (Heap.get?_push_of_some _ (Heap.get?_push_of_some _ e))
  rcases List.mem_cons.mp z with z | z
  · exact absurd z (Nat.ne_of_lt b0)
  · have z' := List.mem_singleton.mp z
    rw [n1] at z'
    exact absurd z' (Nat.ne_of_lt (Nat.lt_succ_of_lt b0))
theorem set_of_list {l : Addr} {items : Array Value} (ns : List Int) {Q : Value → Shared → Prop} (hh : A.handled = none) (hl : s.heap.IsList l items) (hit : IntsAre items.toList ns) (hb : ns.length + 1 < scanBound)
    (h : ∀ (h' : Heap) (tk c : Nat), Full w ns s h' c → Q (.ref s.heap.objs.size) { s with heap := h', toks := tk }) :
    wpAny (model P w) A (call (.type "set") [.ref l]) Q E s := by
  obtain ⟨c0, t0, mro⟩ := F.called_set.mro
  have g1 := F.called_set.made
  have g2 := F.called_set.sub
  have g3 := F.called_set.notType
  have g4 := F.called_set.canCreate
  have g5 := F.typeCall_set_1 (.ref l)
  refine wpAny_call (codeAny_of_tree ?_)
  show wpAny _ _ (callAny (.type "set") _) _ _ _
  refine wpAny_pure ⟨Code.quiet_builtin _ (by decide +kernel), codeAny_builtin F.entry_type_call ?_⟩
  rw [Around.under_plain (weight_type_call_type "set" [.ref l] []) rfl]
  repeat (any_goals (first | assumption | wp_step))
  refine codeAny_mono (code_set_led1 (.ref l) (E := E) (Q₁ := fun obj s₁ => obj = .ref s.heap.objs.size ∧ s₁ = laidS w s) ⟨rfl, rfl⟩) ?_
  intro r s₁ hr
  match r, hr with
  | .error e, hr => exact hr
  | .ok .next, hr => exact hr.elim
  | .ok .brk, hr => exact hr.elim
  | .ok .cont, hr => exact hr.elim
  | .ok (.ret obj), hr =>
    obtain ⟨rfl, rfl⟩ := hr
    have ty : (laidS w s).TypeIs (.ref s.heap.objs.size) "set" := ⟨emptyS w, Heap.get?_push_size _ rfl, rfl⟩
    have g6 := F.called_set.init.lookup
    have g7 := F.called_set.init.bind (.ref s.heap.objs.size)
    repeat (any_goals (first | assumption | wp_step))
    refine codeAny_mono (fill_list (E := E) ns (show A.in1.handled = none from hh) hl hit hb) ?_
    intro r₂ s₂ hr₂
    match r₂, hr₂ with
    | .error e, hr₂ => exact hr₂
    | .ok .next, hr₂ => exact hr₂.elim
    | .ok .brk, hr₂ => exact hr₂.elim
    | .ok .cont, hr₂ => exact hr₂.elim
    | .ok (.ret r), hr₂ =>
      obtain ⟨rfl, h', tk, c, rfl, full⟩ := hr₂
      repeat (any_goals (first | assumption | wp_step))
      exact h h' tk c full
end
section
variable {X : Cx}
def rSetL (K : PySem.W.Frag) (w : World) : List V → Hp → VK → Prop := fun xs H Q => ∃ (a : Addr) (ns : List Int), xs = [V.ref a] ∧ SqL K H a (ns.map V.int) ∧ ns.length < 60 ∧
  ∀ p c, H p = none → c ≤ ns.length → Q (.ref p) (upd H p (SetO w p (fun j => decide (j ∈ ns)) c))
theorem cr_setL (hc : X.calm = true) : CallR X (.type "set") (rSetL X.K X.w) := by
  intro pins s σ H xs us Q I r h
  obtain ⟨a, ns, rfl, hS, hl, q⟩ := h
  obtain ⟨u, rfl, ru⟩ := vals1 r
  cases (show u = Value.ref a from ru)
  obtain ⟨its, rv, pl, hz⟩ := I.list hS
  refine set_of_list ns (I.ok.hd hc) pl.isList (by simpa using rv.ints) (by unfold scanBound; omega) ?_
  rintro h' tk c ⟨hR, hcl, hk⟩
  exact ⟨.ref s.heap.objs.size, _, I.laid (t' := tk) hk (Nat.le_refl _) (setO_new hR), rfl, q _ c (I.hok.fresh (Nat.le_refl _)) hcl⟩
end
end Ck

/-! sizes, chains, gaps: the mathematics, and what comes of neighbours in a tuple -/
namespace Ck
open PySem PySem.Spec PyProof.Rows L2 Evl RZ
/-- f of neighbours -/
def adj {α : Type} (f : Int → Int → α) : List Int → List α
  | x :: y :: r => f x y :: adj f (y :: r)
  | _ => []
theorem adj_range {α : Type} (f : Int → Int → α) : ∀ ns : List Int, adj f ns = (List.range (ns.length - 1)).map fun i => f (ns.getD i 0) (ns.getD (i + 1) 0)
  | [] => rfl
  | [_] => rfl
  | x :: y :: r => by
    have ih := adj_range f (y :: r)
    have e : (x :: y :: r).length - 1 = ((y :: r).length - 1) + 1 := by simp only [List.length_cons]; omega
    rw [e, List.range_succ_eq_map, List.map_cons, List.map_map]
    show f x y :: adj f (y :: r) = _
    rw [ih]
    rfl
theorem adj_map {α β : Type} (f : Int → Int → α) (g : α → β) : ∀ ns : List Int, (adj f ns).map g = adj (fun x y => g (f x y)) ns
  | [] => rfl
  | [_] => rfl
  | x :: y :: r => congrArg (g (f x y) :: ·) (adj_map f g (y :: r))
def asc (ns : List Int) : Bool := (adj (fun x y => decide (x < y)) ns).all id
def quots (ns : List Int) : List Int := adj (fun x y => y / x) ns
def gap (ns : List Int) : Option (Int × Int) := (adj (fun x y => (x, y)) ns).find? fun p => !decide (p.2 % p.1 = 0)
def gapD : Option (Int × Int) → PyData
  | some p => .tuple [.int p.1, .int p.2]
  | none => .none
def vInt? : V → Option Int
  | .int i => some i
  | _ => none
def intsOf (xs : List V) : List Int := xs.filterMap vInt?
def sizV : V → Bool
  | .int i => sizB i
  | _ => false
theorem intsOf_map : ∀ ns : List Int, intsOf (ns.map V.int) = ns
  | [] => rfl
  | n :: r => congrArg (n :: ·) (intsOf_map r)
theorem ints_of_siz : ∀ {xs : List V}, xs.all sizV = true → xs = (intsOf xs).map V.int
  | [], _ => rfl
  | x :: r, h => by
    rw [List.all_cons, Bool.and_eq_true] at h
    cases x with
    | int i => exact congrArg (V.int i :: ·) (ints_of_siz h.2)
    | _ => exact absurd h.1 Bool.false_ne_true
theorem siz_pos {ns : List Int} (h : (ns.map V.int).all sizV = true) : ∀ n ∈ ns, 0 < n ∧ n.natAbs < 10 ^ 200 := by
  intro n hn
  have z := List.all_eq_true.mp h (.int n) (List.mem_map.mpr ⟨n, hn, rfl⟩)
  have z' : (intB n && decide (1 ≤ n)) = true := z
  rw [Bool.and_eq_true] at z'
  have a := of_decide_eq_true z'.1
  have b := of_decide_eq_true z'.2
  exact ⟨by omega, a⟩
def sizesB (xs : List V) : Bool := (decide (1 ≤ xs.length) && decide (xs.length ≤ 12)) && (xs.all sizV && asc (intsOf xs))
def chainB (xs : List V) : Bool := sizesB xs && (gap (intsOf xs)).isNone
/-- what stands in a tuple that is judged -/
def Elts (K : PySem.W.Frag) (H : Hp) (xs : List V) : Prop := ∀ v ∈ xs, (∃ i, v = .int i) ∨ OddI K H v
theorem elts_ints {K : PySem.W.Frag} {H : Hp} (ns : List Int) : Elts K H (ns.map V.int) := fun v hv => by
  obtain ⟨n, _, rfl⟩ := List.mem_map.mp hv
  exact .inl ⟨n, rfl⟩
theorem Elts.mono {K : PySem.W.Frag} {H H' : Hp} {xs : List V} (e : Ex H H') (h : Elts K H xs) : Elts K H' xs := fun v hv => by
  rcases h v hv with z | z
  · exact .inl z
  · exact .inr (OddI.lasts _ _ _ e z)
/-- x is a tuple of which f holds, just if b -/
def ArgV (K : PySem.W.Frag) (f : List V → Bool) (H : Hp) (x : V) (b : Bool) : Prop :=
  (∃ p xs, x = .ref p ∧ SqT K H p xs ∧ xs.length ≤ 1000 ∧ Elts K H xs ∧ b = f xs) ∨ ((∃ n, TyX K H x (.type n) ∧ kitB n "tuple" = some false) ∧ b = false)
theorem ArgV.mono {K : PySem.W.Frag} {f : List V → Bool} {H H' : Hp} {x : V} {b : Bool} (e : Ex H H') (h : ArgV K f H x b) : ArgV K f H' x b := by
  rcases h with ⟨p, xs, rfl, h1, h2, h3, h4⟩ | ⟨⟨n, h1, h2⟩, h3⟩
  · exact .inl ⟨p, xs, rfl, ex_t e h1, h2, h3.mono e, h4⟩
  · exact .inr ⟨⟨n, tyM e h1, h2⟩, h3⟩
def spArg (K : PySem.W.Frag) (f : List V → Bool) : Sp := fun vs H Q _ => ∃ x b, vs = [x] ∧ ArgV K f H x b ∧ ∀ H', Ex H H' → Q (.bl b) H'
theorem arg_v {K : PySem.W.Frag} {f : List V → Bool} {H : Hp} {x : V} {b : Bool} (h : ArgV K f H x b) : SpV (spArg K f) [x] H (.bl b) := fun H1 e Q q E => ⟨x, b, rfl, h.mono e, q⟩
/-- a def whose value is data -/
def SpD (K : PySem.W.Frag) (sp : Sp) (vs : List V) (H : Hp) (d : PyData) : Prop := ∀ H1, Ex H H1 → ∀ Q : VK, (∀ v H2, Ex H1 H2 → Dp K H2 v d → Q v H2) → ∀ E : XK, sp vs H1 Q E
/-- the first gap of a tuple of ints above 0 -/
def spGap (K : PySem.W.Frag) : Sp := fun vs H Q _ => ∃ (p : Addr) (ns : List Int), vs = [.ref p] ∧ SqT K H p (ns.map V.int) ∧ ns ≠ [] ∧ (∀ n ∈ ns, 0 < n) ∧ ∀ v H', Ex H H' → Dp K H' v (gapD (gap ns)) → Q v H'
/-- a tuple of sizes: nothing comes; a chain likewise -/
def spChk (K : PySem.W.Frag) (f : List V → Bool) : Sp := fun vs H Q _ => ∃ (p : Addr) (ns : List Int), vs = [.ref p] ∧ SqT K H p (ns.map V.int) ∧ f (ns.map V.int) = true ∧ ∀ H', Ex H H' → Q .non H'
/-- a tuple of sizes (a chain), its data -/
def spDat (K : PySem.W.Frag) (f : List V → Bool) (g : List Int → PyData) : Sp := fun vs H Q _ => ∃ (p : Addr) (ns : List Int), vs = [.ref p] ∧ SqT K H p (ns.map V.int) ∧ f (ns.map V.int) = true ∧ ∀ v H', Ex H H' → Dp K H' v (g ns) → Q v H'
def qD (ns : List Int) : PyData := .tuple ((quots ns).map PyData.int)
theorem sizes_ints {ns : List Int} (h : sizesB (ns.map V.int) = true) : ns ≠ [] ∧ ns.length ≤ 12 ∧ (∀ n ∈ ns, 0 < n ∧ n.natAbs < 10 ^ 200) ∧ asc ns = true := by
  unfold sizesB at h
  rw [Bool.and_eq_true, Bool.and_eq_true, Bool.and_eq_true, intsOf_map] at h
  obtain ⟨⟨h1, h2⟩, h3, h4⟩ := h
  have h1 := of_decide_eq_true h1
  have h2 := of_decide_eq_true h2
  rw [List.length_map] at h1 h2
  refine ⟨fun z => ?_, h2, siz_pos h3, h4⟩
  rw [z] at h1
  exact absurd h1 (by decide)
theorem chain_ints {ns : List Int} (h : chainB (ns.map V.int) = true) : sizesB (ns.map V.int) = true ∧ gap ns = none := by
  unfold chainB at h
  rw [Bool.and_eq_true, intsOf_map] at h
  exact ⟨h.1, Option.isNone_iff_eq_none.mp h.2⟩
section
variable {K : PySem.W.Frag} {σ : L2.St} {H H' : Hp} {ta tb te tl : TE} {tr : TA} {t : TT} {vs : List V} {d : PyData} {v : V} {p a b : Addr} {xs ys : List V}
theorem ed_call {sp : Sp} {E : XK} (h : EvA tr σ H vs) (hs : SpD K sp vs H d) : Ed K (tCall sp [] E tr) σ H d := fun H1 e Q q =>
  h H1 e _ fun H2 e2 => by
    have z := hs H2 (e.trans e2) Q (fun v H3 e3 hd => q v H3 (e2.trans e3) hd) E
    show sp (vs ++ []) H2 Q E
    rw [List.append_nil]
    exact z
theorem ed_call1 {sp : Sp} {E : XK} (h : Ev te σ H v) (hs : SpD K sp [v] H d) : Ed K (tCall sp [] E (tCons te tNil)) σ H d := ed_call (ea_cons h ea_nil) hs
theorem dp_non {v : V} (h : Dp K H v .none) : v = .non := by cases h; rfl
theorem dp_tup {v : V} {ds : List PyData} (h : Dp K H v (.tuple ds)) : v ≠ .non := by cases h; exact fun z => nomatch z
theorem gap_non {v : V} {g : Option (Int × Int)} (h : Dp K H v (gapD g)) : decide (v = .non) = g.isNone := by
  cases g with
  | none => rw [dp_non h]; rfl
  | some q => exact decide_eq_false (dp_tup h)
theorem ev_gapN {g : Option (Int × Int)} (h : Ed K ta σ H (gapD g)) : Ev (tOp (fun x y H Q => y = .non ∧ Q (.bl (decide (x = .non))) H) ta (tC .non)) σ H (.bl g.isNone) := fun H1 e Q q =>
  h H1 e _ fun v H2 e2 hd => ⟨rfl, by rw [gap_non hd]; exact q H2 e2⟩
theorem walk_zipT {n : Nat} (hn : n = min xs.length ys.length) : Walk (ItzT K a b) n (fun H => SqT K H a xs ∧ SqT K H b ys) (YPair (fun i => xs[i]?) (fun i => ys[i]?)) where
  goes := by
    intro i H hi q
    have h1 : i < xs.length := by omega
    have h2 : i < ys.length := by omega
    exact ⟨xs, ys, xs[i], ys[i], q.1, q.2, List.getElem?_eq_getElem h1, List.getElem?_eq_getElem h2⟩
  stops := by
    intro H q
    exact ⟨xs, ys, q.1, q.2, by omega⟩
  yields := by
    rintro i H v H' _ q ⟨T, x, y, r1, r2, r3, r4, r5⟩
    exact ⟨T, x, y, r1, r2, r3, r4 xs q.1, r5 ys q.2⟩
theorem ev_all {bs : List Bool} (h : EvL te σ H (bs.map V.bl)) : Ev (tCB (rAll K) (tCons te tNil)) σ H (.bl (bs.all id)) := fun H1 e Q q =>
  h H1 e _ fun l H2 _ e2 hl => ⟨l, bs, rfl, sq_of hl, q H2 e2⟩
theorem given_all (n : Nat) (f : Nat → V) : given n (fun _ => true) f = (List.range n).map f := by
  unfold given
  rw [List.filter_eq_self.mpr fun _ _ => rfl]
/-- a comprehension over a tuple -/
theorem el_lcT {j : Nat} {ws : List Nat} (f : V → V) (h : Ev tl σ H (.ref a)) (hx : SqT K H a xs) (hz : xs.length ≤ 40000) (hw : ∀ x, wipe ((wipe σ ws).set j (some x)) ws = wipe σ ws)
    (he : ∀ (x : V) H1, Ex H H1 → x ∈ xs → Ev te ((wipe σ ws).set j (some x)) H1 (f x)) : EvL (tLc (iTup K tl) (gName j) tYes te ws) σ H (xs.map f) := fun H0 e Q q => h H0 e _ fun H1 e1 => ⟨a, rfl, ⟨xs, ex_t (e.trans e1) hx⟩, fun Dl hD => by
  refine lc_it walk_tup (fun i H' => H1 Dl = none ∧ Ex H1 H' ∧ H' Dl = some (.lst ((xs.take i).map f))) ⟨hD, Ex.new hD, upd_same⟩ (fun i H2 _ (pw : H1 Dl = none ∧ Ex H1 H2 ∧ _) => ex_t ((e.trans e1).trans pw.2.1) hx) ?_ ?_
  · rintro i x H' Hb hi ⟨p1, p2, p3⟩ ⟨e3, hxi⟩
    rw [e3]
    refine ⟨hw _, yes_go (iteT ?_)⟩
    refine he x H1 (e.trans e1) (List.mem_of_getElem? hxi) H' p2 _ fun H4 e4 => ⟨_, e4 _ _ p3, ?_, p1, Ex.mut (p2.trans e4) p1, ?_⟩
    · rw [List.length_map, List.length_take]
      exact Nat.lt_of_le_of_lt (Nat.min_le_right _ _) (sz_lt (by omega))
    · rw [upd_same, List.take_add_one, hxi, List.map_append]
      rfl
  · rintro H' ⟨p1, p2, p3⟩
    rw [List.take_of_length_le (Nat.le_refl _)] at p3
    exact q Dl H' (fresh_back e1 p1) (e1.trans p2) p3⟩
theorem cutT1 (xs : List V) : cutV xs (some 1) none = xs.drop 1 := by
  have e : HT.sIx xs.length 0 (some 1) = min 1 xs.length := HT.sIx_nat xs.length 0 1
  show (xs.drop (HT.sIx xs.length 0 (some 1))).take (xs.length - HT.sIx xs.length 0 (some 1)) = _
  rw [e]
  cases xs with
  | nil => rfl
  | cons x r =>
    have e1 : min 1 (x :: r).length = 1 := by rw [List.length_cons]; omega
    rw [e1]
    show r.take (r.length + 1 - 1) = r
    exact List.take_of_length_le (by omega)
/-- zip(t, t[1:]), t a tuple of ints in slot 0 -/
def tZip (K : PySem.W.Frag) : TI := iZipA K (tCons (tVar 0) (tCons (tSl (rSlA K) (tVar 0) (tPart (tC (.int 1))) tNoPart) tNil))
theorem zip_go {ns : List Int} (hv : σ[0]? = some (some (.ref p))) (hp : SqT K H p (ns.map V.int)) (hne : ns ≠ []) {R : It → Hp → Prop}
    (k : ∀ c, H c = none → R (ItzT K p c) (upd H c (.tup ((ns.drop 1).map V.int)))) : tZip K σ H R := by
  refine ⟨.ref p, hv, .ref p, hv, 1, rfl, p, _, rfl, hp, fun z => ?_, fun _ c hc => ?_⟩
  · have e : HT.sIx (ns.map V.int).length 0 (some 1) = min 1 (ns.map V.int).length := HT.sIx_nat _ 0 1
    rw [e, List.length_map] at z
    have l : 0 < ns.length := List.length_pos_iff.mpr hne
    omega
  · refine ⟨p, c, ns.map V.int, (ns.drop 1).map V.int, rfl, .inr ⟨?_, ?_, ?_⟩⟩
    · exact ex_t (Ex.new hc) hp
    · rw [cutT1, ← List.map_drop]
      exact SqT.of upd_same
    · rw [cutT1, ← List.map_drop]
      exact k c hc
theorem min_zip (ns : List Int) : ns.length - 1 = min (ns.map V.int).length ((ns.drop 1).map V.int).length := by
  rw [List.length_map, List.length_map, List.length_drop]; omega
theorem at_zip {ns : List Int} {i : Nat} {x y : V} (hx : (ns.map V.int)[i]? = some x) (hy : ((ns.drop 1).map V.int)[i]? = some y) : x = .int (ns.getD i 0) ∧ y = .int (ns.getD (i + 1) 0) ∧ i + 1 < ns.length := by
  rw [List.getElem?_map] at hx hy
  rw [List.getElem?_drop, Nat.add_comm 1 i] at hy
  rw [List.getD_eq_getElem?_getD, List.getD_eq_getElem?_getD]
  cases h1 : ns[i]? with
  | none => rw [h1] at hx; cases hx
  | some m =>
    cases h2 : ns[i + 1]? with
    | none => rw [h2] at hy; cases hy
    | some n =>
      rw [h1] at hx
      rw [h2] at hy
      cases hx
      cases hy
      exact ⟨rfl, rfl, (List.getElem?_eq_some_iff.mp h2).1⟩
/-- a comprehension over neighbours -/
theorem el_zip {ns : List Int} {j1 j2 : Nat} {ws : List Nat} (f : Int → Int → V) (hv : σ[0]? = some (some (.ref p))) (hp : SqT K H p (ns.map V.int)) (hne : ns ≠ []) (hl : ns.length ≤ 40000)
    (hw : ∀ x y, wipe (((wipe σ ws).set j1 (some x)).set j2 (some y)) ws = wipe σ ws)
    (he : ∀ (i : Nat) H1, Ex H H1 → i + 1 < ns.length → Ev te (((wipe σ ws).set j1 (some (.int (ns.getD i 0)))).set j2 (some (.int (ns.getD (i + 1) 0)))) H1 (f (ns.getD i 0) (ns.getD (i + 1) 0))) :
    EvL (tLc (tZip K) (gTup K 2 (gCons (gName j1) (gCons (gName j2) gNil))) tYes te ws) σ H (adj f ns) := fun H0 e Q q => by
  refine zip_go hv (ex_t e hp) hne fun c hc Dl hD => ?_
  have nDc : c ≠ Dl := fun z => by rw [z, upd_same] at hD; cases hD
  have hp1 : SqT K (upd H0 c (.tup ((ns.drop 1).map V.int))) p (ns.map V.int) := ex_t (e.trans (Ex.new hc)) hp
  have hc1 : SqT K (upd H0 c (.tup ((ns.drop 1).map V.int))) c ((ns.drop 1).map V.int) := SqT.of upd_same
  have e0 : Ex H (upd H0 c (.tup ((ns.drop 1).map V.int))) := e.trans (Ex.new hc)
  generalize hH1 : upd H0 c (.tup ((ns.drop 1).map V.int)) = H1 at hp1 hc1 e0 hD ⊢
  have e1 : Ex H0 H1 := hH1 ▸ Ex.new hc
  refine lc_it (walk_zipT (min_zip ns)) (Cw H1 (fun _ => true) (fun i => f (ns.getD i 0) (ns.getD (i + 1) 0)) Dl) ⟨hD, Ex.new hD, upd_same⟩ (fun i H' _ p => ⟨ex_t p.2.1 hp1, ex_t p.2.1 hc1⟩) ?_ ?_
  · rintro i _ H' _ hi pw ⟨T, x, y, rfl, hT, rfl, hx, hy⟩
    obtain ⟨rfl, rfl, hi2⟩ := at_zip hx hy
    have pw' : Cw H1 (fun _ => true) (fun i => f (ns.getD i 0) (ns.getD (i + 1) 0)) Dl i (upd H' T (.tup [.int (ns.getD i 0), .int (ns.getD (i + 1) 0)])) := ⟨pw.1, pw.2.1.trans (Ex.new hT), by
      rw [upd_ne (ne_of_none pw.2.2 hT)]
      exact pw.2.2⟩
    refine ⟨T, _, rfl, SqT.of upd_same, rfl, _, _, rfl, _, _, rfl, rfl, hw _ _, ?_⟩
    exact cw_turn pw' (by omega) (fun H2 _ Q q => q H2 (Ex.refl H2)) (fun _ => he i H1 e0 hi2)
  · intro H' pw
    have g := pw.2.2
    rw [given_all, ← adj_range] at g
    exact q Dl H' (fresh_back e1 pw.1) (e1.trans pw.2.1) g
end
theorem ty_tup {K : PySem.W.Frag} {H : Hp} {p : Addr} {xs : List V} (h : SqT K H p xs) : TyX K H (.ref p) (.type "tuple") := by
  rcases h with (h | ⟨o, h⟩) | ⟨o, its, n, h1, h2, _⟩
  · exact .base (.tup h)
  · exact .fTuple h
  · exact .kTuple h1 h2
theorem decI (a b : Int) : V.bl (!decide ((V.int a) = V.int b)) = V.bl (!decide (a = b)) := by
  by_cases h : a = b
  · rw [h, decide_eq_true rfl, decide_eq_true rfl]
  · rw [decide_eq_false h, decide_eq_false fun z => h (V.int.inj z)]
theorem find_first {α : Type} {p : α → Bool} : ∀ {l : List α} {i : Nat} {x : α}, l[i]? = some x → p x = true → (∀ j y, j < i → l[j]? = some y → p y = false) → l.find? p = some x
  | [], _, _, h, _, _ => by cases h
  | a :: r, 0, x, h, hx, _ => by
    cases h
    rw [List.find?_cons, hx]
  | a :: r, i + 1, x, h, hx, hj => by
    rw [List.find?_cons, hj 0 a (Nat.succ_pos i) rfl]
    exact find_first (i := i) h hx fun j y hji hy => hj (j + 1) y (by omega) hy
theorem adj_at {α : Type} (f : Int → Int → α) {ns : List Int} {i : Nat} (h : i + 1 < ns.length) : (adj f ns)[i]? = some (f (ns.getD i 0) (ns.getD (i + 1) 0)) := by
  rw [adj_range, List.getElem?_map, List.getElem?_range (by omega)]
  rfl
theorem adj_len {α : Type} (f : Int → Int → α) (ns : List Int) : (adj f ns).length = ns.length - 1 := by
  rw [adj_range, List.length_map, List.length_range]
theorem gap_some {ns : List Int} {i : Nat} (hi : i + 1 < ns.length) (hj : ∀ j, j < i → ns.getD (j + 1) 0 % ns.getD j 0 = 0) (h : ¬ ns.getD (i + 1) 0 % ns.getD i 0 = 0) : gap ns = some (ns.getD i 0, ns.getD (i + 1) 0) := by
  unfold gap
  refine find_first (adj_at _ hi) (by show (!decide _) = true; rw [decide_eq_false h]; rfl) ?_
  intro j y hji hy
  rw [adj_at _ (show j + 1 < ns.length by omega)] at hy
  cases hy
  show (!decide _) = false
  rw [decide_eq_true (hj j hji)]
  rfl
theorem gap_none {ns : List Int} (hj : ∀ j, j < ns.length - 1 → ns.getD (j + 1) 0 % ns.getD j 0 = 0) : gap ns = none := by
  unfold gap
  rw [List.find?_eq_none]
  intro y hy
  obtain ⟨j, hj1, rfl⟩ := List.mem_iff_getElem.mp hy
  have l : j < ns.length - 1 := by rwa [adj_len] at hj1
  have e : (adj (fun x y => (x, y)) ns)[j] = (ns.getD j 0, ns.getD (j + 1) 0) := by
    have z := adj_at (fun x y => (x, y)) (ns := ns) (i := j) (by omega)
    rw [List.getElem?_eq_getElem hj1] at z
    exact Option.some.inj z
  rw [e]
  show ¬ (!decide _) = true
  rw [decide_eq_true (hj j l)]
  decide
theorem divW {a b : Int} (h : 0 < b) (hb : b.natAbs < 10 ^ 200) : CDivW a b := wide_div (b := 800) h (Nat.lt_trans hb (by decide +kernel)) (by decide) (by decide)
theorem siz_int {a : Int} (h : sizB a = true) : 0 < a ∧ a.natAbs < 10 ^ 200 := by
  unfold sizB intB at h
  rw [Bool.and_eq_true] at h
  exact ⟨by have := of_decide_eq_true h.2; omega, of_decide_eq_true h.1⟩
theorem cnt_int {a : Int} (h : cntB a = true) : a.natAbs < 10 ^ 200 := by
  unfold cntB intB at h
  rw [Bool.and_eq_true] at h
  exact of_decide_eq_true h.1
theorem mulW {a b : Int} (ha : 0 < a) (h : a.natAbs < 10 ^ 200) (hb : b.natAbs < 10 ^ 200) : CMulW (b / a) a := by
  have e : (b / a).natAbs ≤ b.natAbs := by
    have := Int.natAbs_ediv_le_natAbs b a
    exact this
  exact wide_mul (a := 800) (b := 800) (Nat.lt_of_le_of_lt e (Nat.lt_trans hb (by decide +kernel))) (Nat.lt_trans h (by decide +kernel)) (by decide) (by decide) (by decide)
end Ck

/-! t[::-1] of a tuple -/
namespace Ck
open PySem PySem.Spec PyProof.Rows L2 HT
section
variable {P : Program} {w : World} {A : Around} {E : Value → Shared → Prop} {s : Shared}
theorem back_lo (n : Nat) : Builtin.Slice.sliceAdjust none none (-1) (n : Int) = ((n : Int) - 1, -1) := rfl
theorem back_n (n : Nat) : Builtin.Slice.slicePlaces ((n : Int) - 1) (-1) (-1) = n := by
  unfold Builtin.Slice.slicePlaces
  have a : ¬ ((-1 : Int) > 0) := by decide
  rw [if_neg a]
  by_cases h : (n : Int) - 1 > -1
  · rw [if_pos h, show (- -1 : Int) = 1 from rfl, Int.ediv_one]; omega
  · rw [if_neg h]; omega
theorem back_pick (xs : Array Value) : ((List.range xs.size).filterMap fun (m : Nat) => xs[(((xs.size : Int) - 1) + (m : Int) * (-1)).toNat]?).toArray = xs.toList.reverse.toArray := by
  have e : (List.range xs.size).filterMap (fun (m : Nat) => xs[(((xs.size : Int) - 1) + (m : Int) * (-1)).toNat]?) = ((List.range xs.size).map fun k => xs.size - 1 - k).filterMap (xs[·]?) := by
    rw [List.filterMap_map]
    congr 1
    funext m
    show xs[_]? = xs[xs.size - 1 - m]?
    congr 1
    omega
  rw [e, PySem.W.krv_range, List.filterMap_reverse, PySem.W.krv_all]
theorem applied_back {sl : Addr} {n : Nat} {v : Value} {Q : Int × Int × Nat → Shared → Prop} (hs : s.heap.IsSliceOf sl .none .none v) (pv : IsPart v (some (-1))) (h : Q ((n : Int) - 1, -1, n) s) :
    wpAny (model P w) A (Builtin.Slice.sliceApplied (.ref sl) (pure (n : Int))) Q E s := by
  obtain ⟨os, hos, _, hds⟩ := id hs
  unfold Builtin.Slice.sliceApplied Builtin.Slice.sliceFields
  refine wpAny_bind (wpAny_bind (wpAny_field hos hds (x := .none) rfl (wpAny_bind (wpAny_field hos hds (x := .none) rfl (wpAny_bind (wpAny_field hos hds (x := v) rfl (wpAny_pure ?_)))))))
  refine wpAny_bind (slicePart_ pv ?_)
  show wpAny _ _ (if ((-1 : Int) == 0) = true then _ else _) _ _ s
  rw [if_neg (by decide)]
  refine wpAny_bind (slicePart_none (wpAny_bind (slicePart_none (wpAny_bind (wpAny_pure ?_)))))
  show wpAny _ _ (pure (((n : Int) - 1), (-1 : Int), Builtin.Slice.slicePlaces ((n : Int) - 1) (-1) (-1))) _ _ s
  rw [back_n]
  exact wpAny_pure h
theorem get_back {t sl : Addr} {its : Array Value} {v : Value} {Q : Value → Shared → Prop} (ht : IsTup s.heap t its) (hs : s.heap.IsSliceOf sl .none .none v) (pv : IsPart v (some (-1)))
    (h : Q (.ref s.heap.objs.size) { s with heap := s.heap.push { cls := .type "tuple", data := .seq its.toList.reverse.toArray } }) (hz : its.size ≤ sizeLine) : wpAny (model P w) A (getItem (.ref t) (.ref sl)) Q E s := by
  have ok : sizeOk (.seq its.toList.reverse.toArray) := by
    show its.toList.reverse.toArray.size ≤ sizeLine
    rw [List.size_toArray, List.length_reverse, Array.length_toList]
    exact hz
  obtain ⟨ob, hob, hcb, hdb⟩ := id hs
  have tS : s.TypeIs (.ref sl) "slice" := ⟨ob, hob, hcb⟩
  have tT := ht.typeIs
  unfold getItem
  try with_reducible refine wpAny_holding ?_
  first | refine wpAny_bind (wpAny_pure ?_) | skip
  refine wpAny_bind (wpAny_sequenceKey tT (by decide) ?_)
  refine wpAny_bind (wpAny_callSpecial?_slot (name := Str.ofString "__getitem__") tT PyProof.Rows.slot_tuple_getitem (wpAny_call_entry PyProof.Rows.slot_tuple_getitem tT entry_tuple_getitem ?_ (args_tuple_getitem _ _)))
  show wpAny _ _ (Builtin.Tuple.tupleItemsOf (.ref t) >>= _) _ _ s
  refine wpAny_bind (tupleItemsOf_ ht ?_)
  refine wpAny_bind (wpAny_typeOf tS ?_)
  rw [if_pos (by decide)]
  refine wpAny_bind (applied_back hs pv ?_)
  have no : ¬ ((((its.size : Int) - 1) == 0 && (-1 : Int) == 1 && its.size == its.size) = true) := by
    intro q
    rw [Bool.and_eq_true, Bool.and_eq_true] at q
    exact absurd q.1.2 (by decide)
  show wpAny _ _ (if (((its.size : Int) - 1) == 0 && (-1 : Int) == 1 && its.size == its.size) = true then _ else _) _ _ s
  rw [if_neg no, back_pick]
  first
    | exact wpAny_bind (m := Builtin.Tuple.tupleExact _) (wpAny_newObj_type (wpAny_pure ⟨_, rfl, wpAny_pure h⟩) ok)
    | exact wpAny_bind (m := Builtin.Tuple.tupleExact _) (wpAny_newObj_type (wpAny_bind (wpAny_pure (wpAny_pure ⟨_, rfl, wpAny_pure h⟩))) ok)
    | exact wpAny_bind (wpAny_bind (m := Builtin.Tuple.tupleExact _) (wpAny_newObj_type (wpAny_pure (wpAny_pure ⟨_, rfl, wpAny_pure h⟩)) ok))
    | exact wpAny_bind (wpAny_bind (m := Builtin.Tuple.tupleExact _) (wpAny_newObj_type (wpAny_pure ⟨_, rfl, wpAny_pure h⟩) ok))
end
section
variable {X : Cx}
def tRevT (K : PySem.W.Frag) (te : TE) : TE := fun σ H Q => te σ H fun x H1 => ∃ a xs, x = .ref a ∧ SqT K H1 a xs ∧ ∀ p, H1 p = none → Q (.ref p) (upd H1 p (.tup xs.reverse))
theorem pe_revT {e : Expr} {te : TE} {k : Nat} {p1 p2 p3 pos : Pos} (he : PE X e te) : PE X (.Subscript e (.Slice none none (some (.UnaryOp .USub (.Constant (.int 1) k p1) p2)) p3) pos) (tRevT X.K te) := by
  refine ⟨fun pins s σ H Q I h => Subscript_ (thn (he.run pins s σ H _ I h) fun v s1 ⟨x, H1, I1, r1, a, xs, ex, hx, q⟩ => ?_)⟩
  subst ex
  cases r1
  have part : PO X (some (.UnaryOp .USub (.Constant (.int 1) k p1) p2)) (tPart (tUn (rU fun i => .int (-i)) (tC (.int 1)))) := po_some (pe_un un_neg pe_int)
  refine wpAny_Slice (thn (po_none.run pins s1 σ H1 (fun o H2 => o = none ∧ H2 = H1) I1 ⟨rfl, rfl⟩) fun vl s2 ⟨l, H2, I2, pl, el, e2⟩ => ?_)
  subst el e2
  refine thn (po_none.run pins s2 σ H2 (fun o H3 => o = none ∧ H3 = H2) I2 ⟨rfl, rfl⟩) fun vu s3 ⟨u, H3, I3, pu, eu, e3⟩ => ?_
  subst eu e3
  refine thn (part.run pins s3 σ H3 (fun o H4 => o = some (-1) ∧ H4 = H3) I3 ⟨1, rfl, -1, rfl, rfl, rfl⟩) fun vs s4 ⟨o, H4, I4, pv, eo, e4⟩ => ?_
  subst eo e4
  cases pl
  cases pu
  have I5 : Inv X pins σ H4 { s4 with heap := s4.heap.push { cls := .type "slice", data := .fields #[.none, .none, vs] } } := I4.kept (t' := s4.toks) fun b ob q => Heap.get?_push_of_some _ q
  obtain ⟨its, r, ht, hz⟩ := I5.tuple hx
  have hlen := r.length
  refine tail_any (ops := [.ref a, .ref s4.heap.objs.size]) ht.typeIs (PyProof.Rows.slot_tuple_getitem.lookup) ?_ (by with_unfolding_all rfl)
  refine get_back ht (Heap.IsSliceOf.new _ .none .none vs) pv ?_ (by rw [List.size_toArray]; omega)
  refine ⟨.ref _, _, I5.laid (t' := s4.toks) (o := .tup xs.reverse) (fun b ob q => Heap.get?_push_of_some _ q) (Nat.le_refl _) ?_, rfl, q _ (I5.hok.fresh (Nat.le_refl _))⟩
  exact ⟨by rw [List.length_reverse]; exact hz, _, r.reverse, IsTup.new _ _⟩
end
end Ck

/-! what comes while dice are rolled: all but the dice lasts; tuples that are put together -/
namespace Ck
open PySem PySem.Spec PyProof.Rows L2 Evl
/-- all that stood but the dice stands, and the dice are dice -/
def Kd (d : Addr) (H H' : Hp) : Prop := Kp d H H' ∧ Dice H' d
theorem Kd.refl {d : Addr} {H : Hp} (h : Dice H d) : Kd d H H := ⟨Kp.refl d H, h⟩
theorem Kd.trans {d : Addr} {H H1 H2 : Hp} (a : Kd d H H1) (b : Kd d H1 H2) : Kd d H H2 := ⟨a.1.trans b.1, b.2⟩
theorem Dice.ex {d : Addr} {H H' : Hp} (h : Dice H d) (e : Ex H H') : Dice H' d := by
  obtain ⟨a, b, c, x⟩ := h
  exact ⟨a, b, c, e _ _ x⟩
theorem Kd.ex {d : Addr} {H H' : Hp} (h : Dice H d) (e : Ex H H') : Kd d H H' := ⟨fun b o _ x => e b o x, h.ex e⟩
theorem Kd.but {d : Addr} {H H' : Hp} (h : Dice H' d) (k : But d H H') : Kd d H H' := ⟨k.kp, h⟩
theorem Kd.to {d : Addr} {H H1 H2 : Hp} (a : Kd d H H1) (e : Ex H1 H2) : Kd d H H2 := a.trans (Kd.ex a.2 e)
section
variable {K : PySem.W.Frag} {H H' : Hp} {d : Addr}
theorem tyK (h1 : Dice H d) (h : Kd d H H') {x : V} {t : Value} (z : TyX K H x t) : TyX K H' x t := by
  obtain ⟨k, b1, b2, b3, e2⟩ := h
  obtain ⟨a1, a2, a3, e1⟩ := h1
  have go : ∀ (a : Addr) (o : HO), H a = some o → (∀ xs, o ≠ .lst xs) → H' a = some o := fun a o e n => k a o (fun z => by
    rw [z, e1] at e
    exact absurd (Option.some.inj e).symm (n _)) e
  cases z with
  | base b =>
    refine .base ?_
    cases b with
    | non => exact .non
    | bl y => exact .bl y
    | int i => exact .int i
    | str y => exact .str y
    | flt y => exact .flt y
    | @lst a xs ea =>
      by_cases z : a = d
      · rw [z]; exact .lst e2
      · exact .lst (k a _ z ea)
    | frz ea => exact .frz (go _ _ ea fun _ z => nomatch z)
    | tup ea => exact .tup (go _ _ ea fun _ z => nomatch z)
    | dK ea => exact .dK (go _ _ ea fun _ z => nomatch z)
    | dT ea => exact .dT (go _ _ ea fun _ z => nomatch z)
    | ins ea cl ha hn htk hm => exact .ins (go _ _ ea fun _ z => nomatch z) cl ha hn htk hm
  | byt b => exact .byt b
  | set ea => exact .set (go _ _ ea fun _ z => nomatch z)
  | kList a c => exact .kList a c
  | kTuple a c => exact .kTuple a c
  | kDict a c => exact .kDict a c
  | fTuple ea => exact .fTuple (go _ _ ea fun _ z => nomatch z)
  | fDict ea => exact .fDict (go _ _ ea fun _ z => nomatch z)
theorem OddI.kd (h1 : Dice H d) (h : Kd d H H') {x : V} (z : OddI K H x) : OddI K H' x := by
  cases z with
  | no n a k kb => exact .no n (tyK h1 h a) k kb
  | bl b a => exact .bl b a
theorem Elts.kd (h1 : Dice H d) (h : Kd d H H') {xs : List V} (z : Elts K H xs) : Elts K H' xs := fun v hv => by
  rcases z v hv with i | o
  · exact .inl i
  · exact .inr (o.kd h1 h)
/-- what is judged: a tuple of ints and others, or no tuple -/
def Cand (K : PySem.W.Frag) (x : V) (H : Hp) : Prop := (∃ p xs, x = .ref p ∧ SqT K H p xs ∧ xs.length ≤ 1000 ∧ Elts K H xs) ∨ ∃ n, TyX K H x (.type n) ∧ kitB n "tuple" = some false
theorem Cand.lasts : Lasts (Cand K) := fun v H H' e h => by
  rcases h with ⟨p, xs, rfl, h1, h2, h3⟩ | ⟨n, h1, h2⟩
  · exact .inl ⟨p, xs, rfl, ex_t e h1, h2, h3.mono e⟩
  · exact .inr ⟨n, tyM e h1, h2⟩
/-- an element: an int or another kind -/
def Elt (K : PySem.W.Frag) (x : V) (H : Hp) : Prop := (∃ i, x = .int i) ∨ OddI K H x
theorem Elt.lasts : Lasts (Elt K) := fun v H H' e h => by
  rcases h with i | o
  · exact .inl i
  · exact .inr (OddI.lasts _ _ _ e o)
end
/-- a tuple comes, not the dice -/
def Kt (K : PySem.W.Frag) (d : Addr) (te : TE) (σ : L2.St) (H : Hp) (n : Nat) : Prop := ∀ H1, Kd d H H1 → ∀ Q : VK, (∀ p xs H2, Kd d H1 H2 → p ≠ d → SqT K H2 p xs → xs.length ≤ n → Elts K H2 xs → Q (.ref p) H2) → te σ H1 Q
section
variable {K : PySem.W.Frag} {d p : Addr} {σ : L2.St} {H : Hp} {ta tb te : TE} {tl th : TO} {n m : Nat} {xs ys : List V} {lo hi : Option Int}
theorem kt_var {i : Nat} (h : σ[i]? = some (some (.ref p))) (hd : Dice H d) (ne : p ≠ d) (hp : SqT K H p xs) (he : Elts K H xs) (hn : xs.length ≤ n) : Kt K d (tVar i) σ H n := fun H1 k Q q =>
  ⟨.ref p, h, q p xs H1 (Kd.refl k.2) ne (k.1.sqT ne hp) hn (he.kd hd k)⟩
theorem cutV_all (xs : List V) {lo hi : Option Int} (h : HT.sIx xs.length 0 lo = 0 ∧ HT.sIx xs.length xs.length hi = xs.length) : cutV xs lo hi = xs := by
  unfold cutV
  rw [h.1, h.2]
  exact List.take_of_length_le (Nat.le_refl _)
theorem cut_mem {xs : List V} {v : V} (h : v ∈ cutV xs lo hi) : v ∈ xs := List.mem_of_mem_drop (List.mem_of_mem_take h)
theorem cut_len : (cutV xs lo hi).length ≤ xs.length := by
  unfold cutV
  rw [List.length_take, List.length_drop]
  omega
theorem kt_sl (h : Kt K d te σ H n) (h1 : ∀ H1, EvO tl σ H1 lo) (h2 : ∀ H1, EvO th σ H1 hi) : Kt K d (tSl (rSlA K) te tl th) σ H n := fun H1 k Q q => h H1 k _ fun p xs H2 k2 ne hp hn he =>
  h1 H2 H2 (Ex.refl H2) _ fun H3 e3 => h2 H3 H3 (Ex.refl H3) _ fun H4 e4 => by
    have e := e3.trans e4
    refine ⟨p, xs, rfl, ex_t e hp, fun _ => q p xs H4 (k2.to e) ne (ex_t e hp) hn (he.mono e), fun _ b hb => ?_⟩
    have k4 := k2.to e
    have e5 := e.trans (Ex.new (o := .tup (cutV xs lo hi)) hb)
    exact q b _ _ (k2.to e5) (k4.2.ne hb) (SqT.of upd_same) (Nat.le_trans cut_len hn) fun v hv => he.mono e5 v (cut_mem hv)
theorem kt_cat (ha : Kt K d ta σ H n) (hb : Kt K d tb σ H m) (hz : n + m ≤ 100000) (hd : Dice H d) : Kt K d (tOp (rCatA K) ta tb) σ H (n + m) := fun H1 k Q q => ha H1 k _ fun a xs H2 k2 na hx lx ex => hb H2 (k.trans k2) _ fun b ys H3 k3 nb hy ly ey => by
  have hx3 := k3.1.sqT na hx
  have ex3 := ex.kd k2.2 k3
  refine ⟨a, b, xs, ys, rfl, rfl, hx3, hy, sz_of (by omega), fun _ => q b ys H3 (k2.trans k3) nb hy (by omega) ey, fun _ _ => q a xs H3 (k2.trans k3) na hx3 (by omega) ex3, fun _ _ c hc => ?_⟩
  have e5 : Ex H3 (upd H3 c (.tup (xs ++ ys))) := Ex.new hc
  refine q c _ _ ((k2.trans k3).to e5) (k3.2.ne hc) (SqT.of upd_same) (by rw [List.length_append]; omega) fun v hv => ?_
  rcases List.mem_append.mp hv with hv | hv
  · exact ex3.mono e5 v hv
  · exact ey.mono e5 v hv
theorem kt_one (h : ∀ H1, Kd d H H1 → ∀ Q : VK, (∀ x H2, Kd d H1 H2 → Elt K x H2 → Q x H2) → te σ H1 Q) : Kt K d (tTup (tCons te tNil)) σ H 1 := fun H1 k Q q => h H1 k _ fun x H2 k2 hx => ⟨(show 1 ≤ sizeLine by decide), fun p hp => by
  have e5 : Ex H2 (upd H2 p (.tup [x])) := Ex.new hp
  refine q p [x] _ (k2.to e5) (k2.2.ne hp) (SqT.of upd_same) (Nat.le_refl _) fun v hv => ?_
  cases List.mem_singleton.mp hv
  exact Elt.lasts _ _ _ e5 hx⟩
end
section
variable {K : PySem.W.Frag} {σ : L2.St} {H : Hp} {D : Ends} {z : TS} {te tl : TE} {d : PyData} {ds : List PyData} {xs : List V}
theorem sq_asgD {i : Nat} (h : Ed K te σ H d) (k : ∀ v H1, Ex H H1 → Dp K H1 v d → z D (σ.set i (some v)) H1) : tSeq (tAsg te (gName i)) z D σ H := h H (Ex.refl H) (fun x H1 => gName i x σ H1 (z D)) k
theorem st_retD (h : Ed K te σ H d) (k : ∀ v H1, Ex H H1 → Dp K H1 v d → D.rt v H1) : tRet te D σ H := h H (Ex.refl H) (fun x H1 => D.rt x H1) k
abbrev rTupS (K : PySem.W.Frag) : List V → Hp → VK → Prop := fun xs H Q => ∃ p ys, xs = [.ref p] ∧ ((SqL K H p ys ∧ ∀ l, H l = none → Q (.ref l) (upd H l (.tup ys))) ∨ (SqT K H p ys ∧ Q (.ref p) H))
theorem ed_tupleL (h : EvL tl σ H xs) (hd : ∀ H1, DpAll K H1 xs ds) : Ed K (tCB (rTupS K) (tCons tl tNil)) σ H (.tuple ds) := fun H1 e Q q =>
  h H1 e _ fun p H2 _ e2 hp => ⟨p, xs, rfl, .inl ⟨SqL.of hp, fun l hl => q (.ref l) _ (e2.trans (Ex.new hl)) (.tup (SqT.of upd_same) (hd _))⟩⟩
theorem eu_tupleL (h : EvL tl σ H xs) : EvU (tCB (rTupS K) (tCons tl tNil)) σ H xs := fun H1 e Q q =>
  h H1 e _ fun p H2 _ e2 hp => ⟨p, xs, rfl, .inl ⟨SqL.of hp, fun l hl => q l _ (fresh_back e2 hl) (e2.trans (Ex.new hl)) upd_same⟩⟩
theorem dpa_ints {H : Hp} : ∀ ns : List Int, DpAll K H (ns.map V.int) (ns.map PyData.int) := dpa_map fun i => .int i
end
end Ck

/-! what may be shown: tuples and lists of numbers that are not too long -/
namespace Ck
open PySem PySem.Spec PyProof.Rows L2
structure ShB (B e : Nat) (d : PyData) : Prop where
  sh : PyData.showable d = true
  nd : PyData.hasDict d = false
  dp : PyData.depth d ≤ e
  ln : (PyData.shown d).length ≤ B
theorem ShB.ok {B e : Nat} {d : PyData} (h : ShB B e d) (he : e ≤ 20) (hB : B ≤ 1000000) : Sh d := ⟨h.sh, h.nd, Nat.le_trans h.dp he, Nat.le_trans h.ln (by rw [sizeLine_eq]; omega)⟩
theorem ShB.up {B B' e e' : Nat} {d : PyData} (h : ShB B e d) (he : e ≤ e') (hB : B ≤ B') : ShB B' e' d := ⟨h.sh, h.nd, Nat.le_trans h.dp he, Nat.le_trans h.ln hB⟩
theorem shB_bool (b : Bool) : ShB 5 0 (.bool b) := by cases b <;> exact ⟨by decide +kernel, by decide +kernel, by decide +kernel, by decide +kernel⟩
theorem shB_none : ShB 5 0 .none := ⟨by decide +kernel, by decide +kernel, by decide +kernel, by decide +kernel⟩
theorem shB_int {i : Int} (h0 : 0 ≤ i) (h : i.natAbs < 10 ^ 200) : ShB 200 0 (.int i) := by
  obtain ⟨n, rfl⟩ := Int.eq_ofNat_of_zero_le h0
  have hn : n < 10 ^ 200 := h
  refine ⟨?_, rfl, Nat.le_refl _, (num_len n 200 (by decide)).mpr hn⟩
  have z : n.log2 < 700 := PySem.Flt.log2_lt_of (show 0 < 700 by decide) (Nat.lt_trans hn (show 10 ^ 200 < 2 ^ 700 by decide +kernel))
  exact decide_eq_true (show (Int.natAbs (n : Int)).log2 < 1920 by rw [Int.natAbs_natCast]; omega)
theorem piled_le {B : Nat} : ∀ {ts : List Str}, (∀ t ∈ ts, t.length ≤ B) → piled ts ≤ ts.length * (B + 2)
  | [], _ => Nat.zero_le _
  | t :: r, h => by
    have a := piled_le fun x hx => h x (List.mem_cons_of_mem t hx)
    have b := h t List.mem_cons_self
    have e : piled (t :: r) = t.length + 2 + piled r := by simp [piled]
    rw [e, List.length_cons, Nat.succ_mul]
    omega
theorem from_le : ∀ (ts : List Str) (k : Nat) (acc : Str), (textFrom k acc ts).length ≤ acc.length + piled ts
  | [], k, acc => Nat.le_add_right _ _
  | t :: r, k, acc => by
    have a := from_le r (k + 1) (acc ++ (if k > 0 then ", " else "" : String) ++ t)
    have e : (acc ++ (if k > 0 then ", " else "" : String) ++ t).length ≤ acc.length + 2 + t.length := by
      rw [strLen_append, strLen_append]
      split
      · exact Nat.le_refl _
      · show acc.length + 0 + t.length ≤ _; omega
    have e2 : piled (t :: r) = t.length + 2 + piled r := by simp [piled]
    show (textFrom (k + 1) (acc ++ (if k > 0 then ", " else "" : String) ++ t) r).length ≤ _
    rw [e2]
    omega
theorem all_of {B e : Nat} : ∀ {ds : List PyData}, (∀ d ∈ ds, ShB B e d) → PyData.showableAll ds = true ∧ PyData.hasDictAll ds = false ∧ PyData.depthAll ds ≤ e ∧ (∀ t ∈ PyData.shownAll ds, t.length ≤ B) ∧ (PyData.shownAll ds).length = ds.length
  | [], _ => by
    have e : PyData.shownAll [] = [] := by simp only [PyData.shownAll]
    rw [e]
    exact ⟨by simp only [PyData.showableAll], by simp only [PyData.hasDictAll], by simp only [PyData.depthAll]; exact Nat.zero_le _, fun _ z => absurd z List.not_mem_nil, rfl⟩
  | d :: r, h => by
    obtain ⟨a, b, c, f, g⟩ := all_of fun x hx => h x (List.mem_cons_of_mem d hx)
    have z := h d List.mem_cons_self
    refine ⟨by simp only [PyData.showableAll, z.sh, a]; rfl, by simp only [PyData.hasDictAll, z.nd, b]; rfl, ?_, ?_, ?_⟩
    · simp only [PyData.depthAll]
      have := z.dp
      omega
    · simp only [PyData.shownAll]
      intro t ht
      rcases List.mem_cons.mp ht with rfl | ht
      · exact z.ln
      · exact f t ht
    · simp only [PyData.shownAll, List.length_cons, g]
theorem shB_list {B e : Nat} {ds : List PyData} (h : ∀ d ∈ ds, ShB B e d) : ShB (ds.length * (B + 2) + 3) (e + 1) (.list ds) := by
  obtain ⟨a, b, c, f, g⟩ := all_of h
  refine ⟨by simp only [PyData.showable, a], by simp only [PyData.hasDict, b], by simp only [PyData.depth]; omega, ?_⟩
  simp only [PyData.shown, listText]
  rw [strLen_append]
  have z := from_le (PyData.shownAll ds) 0 "["
  have y := piled_le f
  rw [g] at y
  have e1 : (("[" : String) : Str).length = 1 := rfl
  have e2 : (("]" : String) : Str).length = 1 := rfl
  omega
theorem shB_tuple {B e : Nat} {ds : List PyData} (h : ∀ d ∈ ds, ShB B e d) : ShB (ds.length * (B + 2) + 3) (e + 1) (.tuple ds) := by
  obtain ⟨a, b, c, f, g⟩ := all_of h
  refine ⟨by simp only [PyData.showable, a], by simp only [PyData.hasDict, b], by simp only [PyData.depth]; omega, ?_⟩
  simp only [PyData.shown, tupleText]
  rw [strLen_append, strLen_append]
  have y := piled_le f
  rw [g] at y
  have j : (Str.join ", " (PyData.shownAll ds)).length ≤ piled (PyData.shownAll ds) := by
    by_cases z : PyData.shownAll ds = []
    · rw [z]; exact Nat.le_refl _
    · have := join_length_add _ z; omega
  have e1 : (("(" : String) : Str).length = 1 := rfl
  have e2 : ∀ b : Bool, ((if b then ",)" else ")" : String) : Str).length ≤ 2 := fun b => by cases b <;> decide +kernel
  have e3 := e2 ((PyData.shownAll ds).length == 1)
  omega
theorem eu_tup_of {K : PySem.W.Frag} {te : TE} {σ : L2.St} {H : Hp} {p : Addr} {xs : List V} (h : Evl.Ev te σ H (.ref p)) (hp : SqL K H p xs) : Evl.EvU (tCB (rTupS K) (tCons te tNil)) σ H xs := fun H1 e Q q =>
  h H1 e _ fun H2 e2 => ⟨p, xs, rfl, .inl ⟨Evl.ex_l (e.trans e2) hp, fun l hl => q l _ (Evl.fresh_back e2 hl) (e2.trans (Evl.Ex.new hl)) upd_same⟩⟩
/-- a value of which Pr holds, dice may be rolled -/
def Ek (d : Addr) (Pr : V → Prop) (te : TE) (σ : L2.St) (H : Hp) : Prop := ∀ H1, Kd d H H1 → ∀ Q : VK, (∀ v H2, Kd d H1 H2 → Pr v → Q v H2) → te σ H1 Q
theorem sq_asgK {d : Addr} {Pr : V → Prop} {te : TE} {σ : L2.St} {H : Hp} {D : Ends} {z : TS} {i : Nat} (hd : Dice H d) (h : Ek d Pr te σ H) (k : ∀ v H1, Kd d H H1 → Pr v → z D (σ.set i (some v)) H1) : tSeq (tAsg te (gName i)) z D σ H := h H (Kd.refl hd) (fun x H1 => gName i x σ H1 (z D)) k
theorem st_retK {d : Addr} {Pr : V → Prop} {te : TE} {σ : L2.St} {H : Hp} {D : Ends} (hd : Dice H d) (h : Ek d Pr te σ H) (k : ∀ v H1, Kd d H H1 → Pr v → D.rt v H1) : tRet te D σ H := h H (Kd.refl hd) (fun x H1 => D.rt x H1) k
end Ck

/-! a op1 b op2 c op3 d -/
namespace Ck
open PySem PySem.Spec PyProof.Rows L2
def tChain3 (r r' r2 : R2) (ta tb tc td : TE) : TE := fun σ H Q => ta σ H fun x H1 => tb σ H1 fun y H2 => r x y H2 fun z H3 => ∃ k, z = .bl k ∧
  (if k = true then tc σ H3 fun w' H4 => r' y w' H4 fun z2 H5 => ∃ k2, z2 = .bl k2 ∧ (if k2 = true then td σ H5 fun w2 H6 => r2 w' w2 H6 Q else Q (.bl false) H5) else Q (.bl false) H3)
section
variable {X : Cx} {a b c d : Expr} {ta tb tc td : TE} {pos : Pos}
theorem pe_chain3 {op op' op2 : CmpOp} {r r' r2 : R2} (ho : OpR X (compareOp op) r) (ho' : OpR X (compareOp op') r') (ho2 : OpR X (compareOp op2) r2) (ha : PE X a ta) (hb : PE X b tb) (hc : PE X c tc) (hd : PE X d td)
    (hm : lastMarks [op, op', op2] [b, c, d] = false := by with_unfolding_all rfl) : PE X (.Compare a [op, op', op2] [b, c, d] pos) (tChain3 r r' r2 ta tb tc td) := by
  refine ⟨fun pins s σ H Q I h => Compare_chain (thn (ha.run pins s σ H _ I h) fun v s1 ⟨x, H1, I1, r1, q1⟩ => chain_link (thn (hb.run pins s1 σ H1 _ I1 q1) fun u s2 ⟨y, H2, I2, r2', q2⟩ =>
    thn (ho pins s2 σ H2 x y v u _ I2 r1 r2' q2) fun o s3 ⟨z, H3, I3, r3, k, e, q3⟩ => ?_)) hm⟩
  subst e
  cases r3
  refine wpAny_truthy_bool ?_
  cases k with
  | false => exact ite_ff ⟨.bl false, H3, I3, rfl, q3⟩
  | true =>
    refine ite_tt (chain_link (thn (hc.run pins s3 σ H3 _ I3 q3) fun w' s4 ⟨z', H4, I4, r4, q4⟩ => thn (ho' pins s4 σ H4 y z' u w' _ I4 r2' r4 q4) fun o2 s5 ⟨z2, H5, I5, r5, k2, e2, q5⟩ => ?_))
    subst e2
    cases r5
    refine wpAny_truthy_bool ?_
    cases k2 with
    | false => exact ite_ff ⟨.bl false, H5, I5, rfl, q5⟩
    | true => exact ite_tt (chain_last (thn (hd.run pins s5 σ H5 _ I5 q5) fun w2 s6 ⟨z3, H6, I6, r6, q6⟩ => ho2 pins s6 σ H6 z' z3 w' w2 Q I6 r4 r6 q6))
end
section
variable {σ : L2.St} {H : Hp} {ta tb tc td : TE} {a b c d : Int}
theorem ev_chain3 {f g h : Int → Int → Bool} (ha : Evl.Ev ta σ H (.int a)) (hb : Evl.Ev tb σ H (.int b)) (hc : Evl.Ev tc σ H (.int c)) (hd : Evl.Ev td σ H (.int d)) :
    Evl.Ev (tChain3 (rI0 fun i j => .bl (f i j)) (rI0 fun i j => .bl (g i j)) (rI0 fun i j => .bl (h i j)) ta tb tc td) σ H (.bl (f a b && (g b c && h c d))) := fun H1 e Q q =>
  ha H1 e _ fun H2 e2 => hb H2 (e.trans e2) _ fun H3 e3 => ⟨a, b, rfl, rfl, f a b, rfl, by
    cases z : f a b with
    | true =>
      rw [z] at q
      refine iteT (hc H3 ((e.trans e2).trans e3) _ fun H4 e4 => ⟨b, c, rfl, rfl, g b c, rfl, ?_⟩)
      cases y : g b c with
      | true =>
        rw [y] at q
        exact iteT (hd H4 (((e.trans e2).trans e3).trans e4) _ fun H5 e5 => ⟨c, d, rfl, rfl, q H5 (((e2.trans e3).trans e4).trans e5)⟩)
      | false =>
        rw [y] at q
        exact iteF (q H4 ((e2.trans e3).trans e4))
    | false =>
      rw [z] at q
      exact iteF (q H3 (e2.trans e3))⟩
end
section
variable {σ : L2.St} {H : Hp} {D : Ends} {body : TS} {a : Addr}
/-- the inner loop, where nothing follows it -/
theorem turnsE {m : Nat} {n : Int} {d : Addr} {H0 : Hp} (hn : 0 ≤ n ∧ n ≤ 100) (hi : Inn a d (m + 1) H0 σ H)
    (step : ∀ (t s : Option V) (r : L2.St) (H1 : Hp), r.length = m → Same H0 H1 → Dice H1 d → body { D with nx := Inn a d (m + 1) H0, ct := Inn a d (m + 1) H0, bk := D.nx } (some (.ref a) :: s :: some (.ref d) :: t :: r) H1)
    (done : ∀ (s : Option V) (r : L2.St) (H1 : Hp), r.length = m + 1 → Same H0 H1 → Dice H1 d → D.nx (some (.ref a) :: s :: some (.ref d) :: r) H1) :
    tFor (iRng1 (tCons (tC (.int n)) tNil)) (gName 3) body D σ H := by
  refine ⟨n, rfl, by omega, by omega, ?_⟩
  refine for_range (fun _ => Inn a d (m + 1) H0) hi ?_ ?_
  · rintro i σ' H' _ ⟨⟨s, r, rfl, hr⟩, hs, hd⟩
    match r, hr with
    | x :: r, hr => exact step _ s r H' (Nat.succ.inj hr) hs hd
  · rintro σ' H' ⟨⟨s, r, rfl, hr⟩, hs, hd⟩
    exact done s r H' hr hs hd
end
section
variable {K : PySem.W.Frag} {σ : L2.St} {H : Hp} {te : TE} {xs : List V} {d : PyData} {z : V}
/-- a call with a new tuple -/
theorem ed_callU {sp : Sp} {E : XK} (h : Evl.EvU te σ H xs) (hs : ∀ p H1, SqT K H1 p xs → SpD K sp [.ref p] H1 d) : Ed K (tCall sp [] E (tCons te tNil)) σ H d := fun H1 e Q q =>
  h H1 e _ fun p H2 _ e2 hp => hs p H2 (SqT.of hp) H2 (Evl.Ex.refl H2) _ (fun v H3 e3 hd => q v H3 (e2.trans e3) hd) E
theorem ev_callU {sp : Sp} {E : XK} (h : Evl.EvU te σ H xs) (hs : ∀ p H1, SqT K H1 p xs → Evl.SpV sp [.ref p] H1 z) : Evl.Ev (tCall sp [] E (tCons te tNil)) σ H z := fun H1 e Q q =>
  h H1 e _ fun p H2 _ e2 hp => hs p H2 (SqT.of hp) H2 (Evl.Ex.refl H2) _ (fun H3 e3 => q H3 (e2.trans e3)) E
theorem eu_rg {a b : Int} (ok : RgOk a b) : Evl.EvU (tTupRg (tRg2 (tC (.int a)) (tC (.int b)))) σ H (rgV a b) := fun H1 e Q q => ⟨a, b, rfl, rfl, ok, fun p hp => q p _ hp (Evl.Ex.new hp) upd_same⟩
end
end Ck

/-! figures: the mathematics -/
namespace Ck
open PySem PySem.Spec PyProof.Rows L2
def digs : List Int → Int → List Int
  | [], l => [l]
  | q :: qs, l => (l % q) :: digs qs (l / q)
def hor : List Int → List Int → Int
  | [], f :: _ => f
  | q :: qs, f :: fs => f + q * hor qs fs
  | _, [] => 0
def scan : Int → List Int → List Int
  | x, [] => [x]
  | x, q :: qs => x :: scan (x * q) qs
def prd : List Int → Int
  | [] => 1
  | q :: qs => q * prd qs
def Vd : List Int → List Int → Prop
  | [], [f] => 0 ≤ f
  | q :: qs, f :: fs => 0 ≤ f ∧ f < q ∧ Vd qs fs
  | _, _ => False
def addLast (t : Int) : List Int → List Int
  | [] => []
  | [x] => [x + t]
  | x :: y :: r => x :: addLast t (y :: r)
def dot (F c : List Int) : Int := (List.zipWith (· * ·) F c).sum
def AllPos (qs : List Int) : Prop := ∀ q ∈ qs, 0 < q
theorem AllPos.tl {q : Int} {qs : List Int} (h : AllPos (q :: qs)) : 0 < q ∧ AllPos qs := ⟨h q List.mem_cons_self, fun x hx => h x (List.mem_cons_of_mem q hx)⟩
theorem digs_len : ∀ (qs : List Int) (l : Int), (digs qs l).length = qs.length + 1
  | [], _ => rfl
  | q :: qs, l => congrArg (· + 1) (digs_len qs (l / q))
theorem vd_digs : ∀ {qs : List Int} {l : Int}, AllPos qs → 0 ≤ l → Vd qs (digs qs l)
  | [], _, _, h => h
  | q :: qs, l, p, h => ⟨Int.emod_nonneg l (by have := p.tl.1; omega), Int.emod_lt_of_pos l p.tl.1, vd_digs p.tl.2 (Int.ediv_nonneg h (by have := p.tl.1; omega))⟩
theorem hor_digs : ∀ (qs : List Int) (l : Int), hor qs (digs qs l) = l
  | [], _ => rfl
  | q :: qs, l => by
    show l % q + q * hor qs (digs qs (l / q)) = l
    rw [hor_digs]
    exact Int.emod_add_mul_ediv l q
theorem vd_len : ∀ {qs F : List Int}, Vd qs F → F.length = qs.length + 1
  | [], [_], _ => rfl
  | [], [], h => h.elim
  | [], _ :: _ :: _, h => h.elim
  | _ :: _, [], h => h.elim
  | _ :: _, _ :: _, h => congrArg (· + 1) (vd_len h.2.2)
theorem digs_hor : ∀ {qs F : List Int}, AllPos qs → Vd qs F → digs qs (hor qs F) = F
  | [], [_], _, _ => rfl
  | [], [], _, h => h.elim
  | [], _ :: _ :: _, _, h => h.elim
  | _ :: _, [], _, h => h.elim
  | q :: qs, f :: fs, p, ⟨h0, h1, h2⟩ => by
    have a : (f + q * hor qs fs) % q = f := by rw [Int.add_mul_emod_self_left, Int.emod_eq_of_lt h0 h1]
    have b : (f + q * hor qs fs) / q = hor qs fs := by
      rw [Int.add_mul_ediv_left _ _ (by have := p.tl.1; omega), Int.ediv_eq_zero_of_lt h0 h1, Int.zero_add]
    show (f + q * hor qs fs) % q :: digs qs ((f + q * hor qs fs) / q) = f :: fs
    rw [a, b, digs_hor p.tl.2 h2]
theorem dot_cons (f x : Int) (F c : List Int) : dot (f :: F) (x :: c) = f * x + dot F c := by
  unfold dot
  rw [List.zipWith_cons_cons, List.sum_cons]
theorem dot_scan : ∀ {qs F : List Int} {x : Int}, F.length = qs.length + 1 → dot F (scan x qs) = x * hor qs F
  | [], [f], x, _ => by
    show dot [f] [x] = x * f
    rw [dot_cons]
    show f * x + 0 = x * f
    rw [Int.add_zero, Int.mul_comm]
  | [], [], _, h => by cases h
  | [], _ :: _ :: _, _, h => by simp at h
  | q :: qs, [], _, h => by cases h
  | q :: qs, f :: fs, x, h => by
    show dot (f :: fs) (x :: scan (x * q) qs) = x * (f + q * hor qs fs)
    rw [dot_cons, dot_scan (Nat.succ.inj h), Int.mul_add, Int.mul_comm f x, Int.mul_assoc]
theorem prd_pos : ∀ {qs : List Int}, AllPos qs → 0 < prd qs
  | [], _ => by decide
  | q :: qs, h => Int.mul_pos h.tl.1 (prd_pos h.tl.2)
theorem hor_bound : ∀ {qs F : List Int} {L : Int}, AllPos qs → Vd qs F → (∀ f, F.getLast? = some f → f < L) → 0 ≤ hor qs F ∧ hor qs F < prd qs * L
  | [], [f], L, _, h, hl => ⟨h, by show f < 1 * L; rw [Int.one_mul]; exact hl f rfl⟩
  | [], [], _, _, h, _ => h.elim
  | [], _ :: _ :: _, _, _, h, _ => h.elim
  | _ :: _, [], _, _, h, _ => h.elim
  | q :: qs, f :: fs, L, p, ⟨h0, h1, h2⟩, hl => by
    have e : fs ≠ [] := fun z => by rw [z] at h2; cases qs <;> exact h2.elim
    obtain ⟨a, b⟩ := hor_bound p.tl.2 h2 (L := L) fun y hy => hl y (by
      cases fs with
      | nil => exact absurd rfl e
      | cons z r => rw [List.getLast?_cons_cons]; exact hy)
    have q0 := p.tl.1
    refine ⟨by show 0 ≤ f + q * hor qs fs; have := Int.mul_nonneg (Int.le_of_lt q0) a; omega, ?_⟩
    show f + q * hor qs fs < q * prd qs * L
    have c : q * (hor qs fs + 1) ≤ q * (prd qs * L) := Int.mul_le_mul_of_nonneg_left (by omega) (Int.le_of_lt q0)
    rw [Int.mul_add, Int.mul_one] at c
    rw [Int.mul_assoc]
    omega
theorem addLast_cons {t x : Int} {r : List Int} (h : r ≠ []) : addLast t (x :: r) = x :: addLast t r := by
  cases r with
  | nil => exact absurd rfl h
  | cons y r => rfl
theorem digs_ne (qs : List Int) (l : Int) : digs qs l ≠ [] := fun z => by
  have := digs_len qs l
  rw [z] at this
  cases this
theorem digs_add : ∀ {qs : List Int} {l t : Int}, AllPos qs → digs qs (l + t * prd qs) = addLast t (digs qs l)
  | [], l, t, _ => by
    show [l + t * 1] = [l + t]
    rw [Int.mul_one]
  | q :: qs, l, t, p => by
    have q0 := p.tl.1
    have e : l + t * (q * prd qs) = l + q * (t * prd qs) := by rw [← Int.mul_assoc, Int.mul_comm t q, Int.mul_assoc]
    show (l + t * (q * prd qs)) % q :: digs qs ((l + t * (q * prd qs)) / q) = addLast t ((l % q) :: digs qs (l / q))
    rw [e, Int.add_mul_emod_self_left, Int.add_mul_ediv_left _ _ (by omega), digs_add p.tl.2, addLast_cons (digs_ne _ _)]
theorem addLast_eq (t : Int) : ∀ {r : List Int} (h : r ≠ []), addLast t r = r.dropLast ++ [r.getLast h + t]
  | [], h => absurd rfl h
  | [x], _ => rfl
  | x :: y :: r, h => by
    rw [addLast_cons (List.cons_ne_nil y r), addLast_eq t (List.cons_ne_nil y r)]
    rfl
/-- less, from the first pair that differs on -/
def lexLt : List Int → List Int → Bool
  | x :: xs, y :: ys => if x = y then lexLt xs ys else decide (x < y)
  | _, _ => false
theorem lexLt_self : ∀ xs : List Int, lexLt xs xs = false
  | [] => rfl
  | x :: xs => by
    show (if x = x then lexLt xs xs else decide (x < x)) = false
    rw [if_pos rfl, lexLt_self]
theorem lexLt_snoc {x y : Int} : ∀ {xs ys : List Int}, xs.length = ys.length → lexLt (xs ++ [x]) (ys ++ [y]) = if xs = ys then decide (x < y) else lexLt xs ys
  | [], [], _ => by
    show (if x = y then false else decide (x < y)) = if [] = [] then decide (x < y) else false
    rw [if_pos rfl]
    by_cases h : x = y
    · rw [if_pos h, decide_eq_false (by omega)]
    · rw [if_neg h]
  | [], _ :: _, h => by cases h
  | _ :: _, [], h => by cases h
  | a :: xs, b :: ys, h => by
    have ih := lexLt_snoc (x := x) (y := y) (Nat.succ.inj h)
    show (if a = b then lexLt (xs ++ [x]) (ys ++ [y]) else decide (a < b)) = if a :: xs = b :: ys then decide (x < y) else if a = b then lexLt xs ys else decide (a < b)
    by_cases e : a = b
    · subst e
      rw [if_pos rfl, if_pos rfl, ih]
      by_cases e2 : xs = ys
      · rw [if_pos e2, if_pos (by rw [e2])]
      · rw [if_neg e2, if_neg (fun z => e2 (List.cons.inj z).2)]
    · rw [if_neg e, if_neg (fun z => e (List.cons.inj z).1), if_neg e]
theorem lex_digs : ∀ {qs : List Int} {a b : Int}, AllPos qs → lexLt (digs qs a).reverse (digs qs b).reverse = decide (a < b)
  | [], a, b, _ => by
    show (if a = b then false else decide (a < b)) = decide (a < b)
    by_cases h : a = b
    · rw [if_pos h, decide_eq_false (by omega)]
    · rw [if_neg h]
  | q :: qs, a, b, p => by
    have q0 := p.tl.1
    show lexLt ((a % q) :: digs qs (a / q)).reverse ((b % q) :: digs qs (b / q)).reverse = decide (a < b)
    rw [List.reverse_cons, List.reverse_cons, lexLt_snoc (by rw [List.length_reverse, List.length_reverse, digs_len, digs_len])]
    have e1 := Int.emod_add_mul_ediv a q
    have e2 := Int.emod_add_mul_ediv b q
    by_cases e : a / q = b / q
    · rw [if_pos (by rw [e])]
      rw [e] at e1
      exact decide_eq_decide.mpr ⟨fun z => by omega, fun z => by omega⟩
    · rw [if_neg (fun z => e (by
        have z' := List.reverse_inj.mp z
        rw [← hor_digs qs (a / q), z', hor_digs])), lex_digs p.tl.2]
      refine decide_eq_decide.mpr ⟨fun z => ?_, fun z => ?_⟩
      · have c : q * (a / q + 1) ≤ q * (b / q) := Int.mul_le_mul_of_nonneg_left (by omega) (Int.le_of_lt q0)
        rw [Int.mul_add, Int.mul_one] at c
        have := Int.emod_lt_of_pos a q0
        have := Int.emod_nonneg b (show q ≠ 0 by omega)
        omega
      · by_cases c : a / q < b / q
        · exact c
        · have c' : q * (b / q + 1) ≤ q * (a / q) := Int.mul_le_mul_of_nonneg_left (by omega) (Int.le_of_lt q0)
          rw [Int.mul_add, Int.mul_one] at c'
          have := Int.emod_lt_of_pos b q0
          have := Int.emod_nonneg a (show q ≠ 0 by omega)
          omega
theorem last_scan : ∀ (x : Int) (qs : List Int), (scan x qs).getLast? = some (x * prd qs)
  | x, [] => by show some x = some (x * 1); rw [Int.mul_one]
  | x, q :: qs => by
    show (x :: scan (x * q) qs).getLast? = some (x * (q * prd qs))
    have z := last_scan (x * q) qs
    cases h : scan (x * q) qs with
    | nil => rw [h] at z; cases z
    | cons y r =>
      rw [List.getLast?_cons_cons, ← h, z, Int.mul_assoc]
/-- a chain, by its first size and its quotients -/
theorem scan_of : ∀ {ns : List Int} (h : ns ≠ []), (∀ n ∈ ns, 0 < n) → gap ns = none → ns = scan (ns.head h) (quots ns)
  | [], h, _, _ => absurd rfl h
  | [x], _, _, _ => rfl
  | x :: y :: r, _, hp, hg => by
    have g : (if (!decide (y % x = 0)) = true then some (x, y) else gap (y :: r)) = none := by
      have z : gap (x :: y :: r) = none := hg
      unfold gap at z
      rw [show adj (fun x y => (x, y)) (x :: y :: r) = (x, y) :: adj (fun x y => (x, y)) (y :: r) from rfl, List.find?_cons] at z
      split at z
      · cases z
      · rename_i w
        have w' : (!decide (y % x = 0)) = false := w
        rw [w', if_neg Bool.false_ne_true]
        exact z
    by_cases e : y % x = 0
    · rw [decide_eq_true e, if_neg (by decide)] at g
      have ih := scan_of (List.cons_ne_nil y r) (fun n hn => hp n (List.mem_cons_of_mem x hn)) g
      show x :: y :: r = x :: scan (x * (y / x)) (quots (y :: r))
      have d : x * (y / x) = y := Int.mul_ediv_cancel' (Int.dvd_of_emod_eq_zero e)
      rw [d]
      exact congrArg (x :: ·) ih
    · rw [decide_eq_false e] at g
      cases g
end Ck

/-! figures: what comes of the program's expressions -/
namespace Ck
open PySem PySem.Spec PyProof.Rows L2 Evl RZ
section
variable {K : PySem.W.Frag} {H H' : Hp}
theorem dp_ints : ∀ {xs : List V} {ns : List Int}, DpAll K H xs (ns.map PyData.int) → xs = ns.map V.int
  | _, [], h => by cases h; rfl
  | _, n :: ns, h => by
    cases h with
    | cons a t =>
      cases a
      exact congrArg (V.int n :: ·) (dp_ints t)
theorem dp_tupI {v : V} {ns : List Int} (h : Dp K H v (.tuple (ns.map PyData.int))) : ∃ p, v = .ref p ∧ SqT K H p (ns.map V.int) := by
  cases h with
  | tup h a => rw [dp_ints a] at h; exact ⟨_, rfl, h⟩
/-- a tuple comes -/
def Etu (K : PySem.W.Frag) (te : TE) (σ : L2.St) (H : Hp) (xs : List V) : Prop := ∀ H1, Ex H H1 → ∀ Q : VK, (∀ p H2, Ex H1 H2 → SqT K H2 p xs → Q (.ref p) H2) → te σ H1 Q
theorem etu_ev {te : TE} {σ : L2.St} {p : Addr} {xs : List V} (h : Ev te σ H (.ref p)) (hp : SqT K H p xs) : Etu K te σ H xs := fun H1 e Q q => h H1 e _ fun H2 e2 => q p H2 e2 (ex_t (e.trans e2) hp)
theorem etu_ed {te : TE} {σ : L2.St} {ns : List Int} (h : Ed K te σ H (.tuple (ns.map PyData.int))) : Etu K te σ H (ns.map V.int) := fun H1 e Q q => h H1 e _ fun v H2 e2 hd => by
  obtain ⟨p, rfl, hp⟩ := dp_tupI hd
  exact q p H2 e2 hp
theorem zip_range (f : Int → Int → V) (ms ns : List Int) : (List.range (min ms.length ns.length)).map (fun i => f (ms.getD i 0) (ns.getD i 0)) = List.zipWith f ms ns := by
  apply List.ext_getElem
  · simp
  · intro i h1 h2
    simp only [List.length_map, List.length_range] at h1
    have a : i < ms.length := by omega
    have b : i < ns.length := by omega
    simp [List.getD_eq_getElem?_getD, a, b]
theorem el_zip2 {σ : L2.St} {ta tb te : TE} {ms ns : List Int} {j1 j2 : Nat} {ws : List Nat} (f : Int → Int → V) (h1 : Etu K ta σ H (ms.map V.int)) (h2 : Etu K tb σ H (ns.map V.int)) (hl : ms.length ≤ 40000)
    (hw : ∀ x y, wipe (((wipe σ ws).set j1 (some x)).set j2 (some y)) ws = wipe σ ws)
    (he : ∀ (i : Nat) H1, Ex H H1 → i < ms.length → i < ns.length → Ev te (((wipe σ ws).set j1 (some (.int (ms.getD i 0)))).set j2 (some (.int (ns.getD i 0)))) H1 (f (ms.getD i 0) (ns.getD i 0))) :
    EvL (tLc (iZipA K (tCons ta (tCons tb tNil))) (gTup K 2 (gCons (gName j1) (gCons (gName j2) gNil))) tYes te ws) σ H (List.zipWith f ms ns) := fun H0 e Q q =>
  h1 H0 e _ fun p H2 e2 hp => h2 H2 (e.trans e2) _ fun c H3 e3 hc => ⟨p, c, ms.map V.int, ns.map V.int, rfl, .inr ⟨ex_t e3 hp, hc, fun Dl hD => by
    have hp3 := ex_t e3 hp
    have e0 := (e.trans e2).trans e3
    refine lc_it (walk_zipT (n := min ms.length ns.length) (by rw [List.length_map, List.length_map])) (Cw H3 (fun _ => true) (fun i => f (ms.getD i 0) (ns.getD i 0)) Dl) ⟨hD, Ex.new hD, upd_same⟩ (fun i H' _ p => ⟨ex_t p.2.1 hp3, ex_t p.2.1 hc⟩) ?_ ?_
    · rintro i _ H' _ hi pw ⟨T, x, y, rfl, hT, rfl, hx, hy⟩
      have a : i < ms.length := by omega
      have b : i < ns.length := by omega
      have ex : x = .int (ms.getD i 0) := by
        have hx : (ms.map V.int)[i]? = some x := hx
        rw [List.getElem?_map, List.getElem?_eq_getElem a] at hx
        rw [List.getD_eq_getElem?_getD, List.getElem?_eq_getElem a]
        exact (Option.some.inj hx).symm
      have ey : y = .int (ns.getD i 0) := by
        have hy : (ns.map V.int)[i]? = some y := hy
        rw [List.getElem?_map, List.getElem?_eq_getElem b] at hy
        rw [List.getD_eq_getElem?_getD, List.getElem?_eq_getElem b]
        exact (Option.some.inj hy).symm
      subst ex ey
      have pw' : Cw H3 (fun _ => true) (fun i => f (ms.getD i 0) (ns.getD i 0)) Dl i (upd H' T (.tup [.int (ms.getD i 0), .int (ns.getD i 0)])) := ⟨pw.1, pw.2.1.trans (Ex.new hT), by
        rw [upd_ne (ne_of_none pw.2.2 hT)]
        exact pw.2.2⟩
      refine ⟨T, _, rfl, SqT.of upd_same, rfl, _, _, rfl, _, _, rfl, rfl, hw _ _, ?_⟩
      exact cw_turn pw' (by omega) (fun H2 _ Q q => q H2 (Ex.refl H2)) (fun _ => he i H3 e0 a b)
    · intro H' pw
      have g := pw.2.2
      rw [given_all, zip_range] at g
      exact q Dl H' (fresh_back (e2.trans e3) pw.1) ((e2.trans e3).trans pw.2.1) g⟩⟩
end
/-- t < u of tuples of ints, equally long -/
def rLtT (K : PySem.W.Frag) : R2 := fun x y H Q => ∃ (a b : Addr) (ns ms : List Int), x = .ref a ∧ y = .ref b ∧ SqT K H a (ns.map V.int) ∧ SqT K H b (ms.map V.int) ∧ ns.length = ms.length ∧ Q (.bl (lexLt ns ms)) H
theorem lex_at : ∀ {ns ms : List Int} (k i : Nat), ns.length = ms.length → k + i = ns.length → Ob.lexAt (fun j => decide (ns.getD j 0 = ms.getD j 0)) (fun j => decide (ns.getD j 0 < ms.getD j 0)) false i k = lexLt (ns.drop i) (ms.drop i)
  | ns, ms, 0, i, hl, hi => by
    rw [List.drop_of_length_le (by omega), List.drop_of_length_le (by omega)]
    rfl
  | ns, ms, k + 1, i, hl, hi => by
    have a : i < ns.length := by omega
    have b : i < ms.length := by omega
    rw [List.drop_eq_getElem_cons a, List.drop_eq_getElem_cons b, Ob.lexAt_succ, lex_at k (i + 1) hl (by omega)]
    have e1 : ns.getD i 0 = ns[i] := by rw [List.getD_eq_getElem?_getD, List.getElem?_eq_getElem a]; rfl
    have e2 : ms.getD i 0 = ms[i] := by rw [List.getD_eq_getElem?_getD, List.getElem?_eq_getElem b]; rfl
    rw [e1, e2]
    show _ = if ns[i] = ms[i] then lexLt (ns.drop (i + 1)) (ms.drop (i + 1)) else decide (ns[i] < ms[i])
    by_cases h : ns[i] = ms[i]
    · rw [decide_eq_true h, if_pos rfl, if_pos h]
    · rw [decide_eq_false h, if_neg Bool.false_ne_true, if_neg h]
theorem op_ltTI {X : Cx} (hu : X.A.units < cLine) : OpR X (compareOp .Lt) (rLtT X.K) := by
  intro pins s σ H x y v u Q I rx ry h
  obtain ⟨a, b, ns, ms, rfl, rfl, h1, h2, hl, q⟩ := h
  cases rx
  cases ry
  obtain ⟨vts, r1, p1, _⟩ := I.tuple h1
  obtain ⟨jts, r2, p2, _⟩ := I.tuple h2
  have i1 : IntsAre vts ns := Vals.ints r1
  have i2 : IntsAre jts ms := Vals.ints r2
  have e1 : vts.toArray.size = ns.length := by rw [List.size_toArray]; exact i1.length
  have e2 : jts.toArray.size = ms.length := by rw [List.size_toArray]; exact i2.length
  have at1 : ∀ j (h1 : j < vts.toArray.size), ∃ t, vts.toArray[j] = .int (ns.getD j 0) t := fun j h1 => IntsAre.int_at i1 _ _ (by simp at h1; simp [h1])
  have at2 : ∀ j (h1 : j < jts.toArray.size), ∃ t, jts.toArray[j] = .int (ms.getD j 0) t := fun j h1 => IntsAre.int_at i2 _ _ (by simp at h1; simp [h1])
  have R := Ob.RcOp.tuples_lt (A := X.A) (s := s) (e := fun j => decide (ns.getD j 0 = ms.getD j 0)) (r := fun j => decide (ns.getD j 0 < ms.getD j 0)) p1 p2 hu
    (fun j g1 g2 => by
      obtain ⟨t, et⟩ := at1 j g1
      obtain ⟨v, ev⟩ := at2 j g2
      rw [et, ev, show decide (ns.getD j 0 = ms.getD j 0) = (ns.getD j 0 == ms.getD j 0) from by
        by_cases q9 : ns.getD j 0 = ms.getD j 0
        · rw [decide_eq_true q9]; exact (beq_iff_eq.mpr q9).symm
        · rw [decide_eq_false q9]; exact (beq_eq_false_iff_ne.mpr q9).symm]
      exact SeqAt.EqAt.int_int _ _ _ _)
    (fun j g1 g2 _ => by
      obtain ⟨t, et⟩ := at1 j g1
      obtain ⟨v, ev⟩ := at2 j g2
      rw [et, ev]
      exact Ob.RcOp.lt_int _ _ _ _)
  rw [e1, e2, decide_eq_false (show ¬ ns.length < ms.length by omega), show min ns.length ms.length = ns.length by omega, lex_at ns.length 0 hl rfl] at R
  exact R X.prog X.w X.xe (EP X pins σ Q) ⟨.bl (lexLt ns ms), H, I, rfl, q⟩
theorem asc_ix {ns : List Int} (h : asc ns = true) {i : Nat} (hi : i < ns.length - 1) : ns.getD i 0 < ns.getD (i + 1) 0 := by
  unfold asc at h
  rw [adj_range, List.all_eq_true] at h
  exact of_decide_eq_true (h _ (List.mem_map.mpr ⟨i, List.mem_range.mpr hi, rfl⟩))
theorem get_mem {ns : List Int} {i : Nat} (h : i < ns.length) : ns.getD i 0 ∈ ns := by
  rw [List.getD_eq_getElem?_getD, List.getElem?_eq_getElem h]
  exact List.getElem_mem _
structure ChF (x : Int) (r : List Int) : Prop where
  sc : x :: r = scan x (quots (x :: r))
  qp : AllPos (quots (x :: r))
  x0 : 0 < x
  ln : (x :: r).length ≤ 12
  sz : ∀ n ∈ x :: r, 0 < n ∧ n.natAbs < 10 ^ 200
  qb : ∀ q ∈ quots (x :: r), q.natAbs < 10 ^ 200
  ql : (quots (x :: r)).length = r.length
theorem ch_facts {x : Int} {r : List Int} (h : chainB ((x :: r).map V.int) = true) : ChF x r := by
  obtain ⟨hz, hg⟩ := chain_ints h
  obtain ⟨hne, hl, hpos, ha⟩ := sizes_ints hz
  have q : ∀ q ∈ quots (x :: r), 0 < q ∧ q.natAbs < 10 ^ 200 := fun q hq => by
    unfold quots at hq
    rw [adj_range] at hq
    obtain ⟨i, hi, rfl⟩ := List.mem_map.mp hq
    have hi := List.mem_range.mp hi
    have a := hpos _ (get_mem (i := i) (by omega))
    have b := hpos _ (get_mem (i := i + 1) (by omega))
    have c := asc_ix ha hi
    exact ⟨Int.lt_of_lt_of_le (by decide) (Int.le_ediv_of_mul_le (a := 1) a.1 (by omega)), Nat.lt_of_le_of_lt (Int.natAbs_ediv_le_natAbs _ _) b.2⟩
  exact ⟨scan_of hne (fun n hn => (hpos n hn).1) hg, fun z hz => (q z hz).1, (hpos x List.mem_cons_self).1, hl, hpos, fun z hz => (q z hz).2, by unfold quots; rw [adj_len]; rfl⟩
theorem kp_ex {l : Addr} {H H' : Hp} (k : Kp l H H') (h : H l = none) : Evl.Ex H H' := fun b o e => k b o (ne_of_none e h) e
section
variable {K : PySem.W.Frag} {H H' : Hp} {l : Addr}
theorem kpL_sqT {a : Addr} {xs ys : List V} (k : Kp l H H') (h : H l = some (.lst ys)) (hx : SqT K H a xs) : SqT K H' a xs := by
  by_cases z : a = l
  · subst z
    rcases hx with (hx | ⟨o, hx⟩) | hx
    · rw [hx] at h; cases h
    · rw [hx] at h; cases h
    · exact .inr hx
  · exact k.sqT z hx
theorem sq_forTD {g : TG} {tb z : TS} {D : Ends} {σ : L2.St} {te : TE} {ns : List Int} (h : Ed K te σ H (.tuple (ns.map PyData.int))) (Pv : Addr → Nat → L2.St → Hp → Prop) (h0 : ∀ a H1, Evl.Ex H H1 → SqT K H1 a (ns.map V.int) → Pv a 0 σ H1)
    (hl : ∀ a i σ' H', Pv a i σ' H' → SqT K H' a (ns.map V.int)) (hs : ∀ a i n σ' H', ns[i]? = some n → Pv a i σ' H' → g (.int n) σ' H' fun σ2 H2 => tb { D with nx := Pv a (i + 1), ct := Pv a (i + 1), bk := z D } σ2 H2)
    (hd : ∀ a σ' H', Pv a ns.length σ' H' → z D σ' H') : tSeq (tFor (iTup K te) g tb) z D σ H := h H (Evl.Ex.refl H) _ fun v H1 e hv => by
  obtain ⟨p, rfl, hp⟩ := dp_tupI hv
  refine ⟨p, rfl, ⟨_, hp⟩, for_tup (D := { D with nx := z D }) (Pv p) (h0 p H1 e hp) (fun i σ' H' _ => hl p i σ' H') (fun i x σ' H' hx pv => ?_) (fun σ' H' pv => hd p σ' H' (by rw [List.length_map] at pv; exact pv))⟩
  rw [List.getElem?_map] at hx
  cases e2 : ns[i]? with
  | none => rw [e2] at hx; cases hx
  | some n =>
    rw [e2] at hx
    cases hx
    exact hs p i n σ' H' e2 pv
theorem ev_sum {tl : TE} {σ : L2.St} {ns : List Int} (h : Evl.EvL tl σ H (ns.map V.int)) : Evl.Ev (tCB (rSum K) (tCons tl tNil)) σ H (.int ns.sum) := fun H1 e Q q => h H1 e _ fun p H2 _ e2 hp => ⟨p, ns, rfl, SqL.of hp, q H2 e2⟩
end
theorem st_retP {K : PySem.W.Frag} {D : Ends} {σ : L2.St} {H : Hp} {ta tb : TE} {v : V} {xs : List V} (h1 : Evl.Ev ta σ H v) (h2 : Evl.EvU tb σ H xs) (k : ∀ p p2 H', Evl.Ex H H' → H p = none → H p2 = none → SqT K H' p [v, .ref p2] → SqT K H' p2 xs → D.rt (.ref p) H') : tRet (tTup (tCons ta (tCons tb tNil))) D σ H :=
  h1 H (Evl.Ex.refl H) _ fun H8 e8 => h2 H8 e8 _ fun p2 H9 f2 e9 h9 => ⟨(show 2 ≤ sizeLine by decide), fun p f1 =>
    k p p2 _ (e8.trans (e9.trans (Evl.Ex.new f1))) (Evl.fresh_back (e8.trans e9) f1) (Evl.fresh_back e8 f2) (SqT.of upd_same) (SqT.of ((Evl.Ex.new (o := .tup [v, .ref p2]) f1) _ _ h9))⟩
theorem mul200 {a b : Int} (ha : a.natAbs < 10 ^ 200) (hb : b.natAbs < 10 ^ 200) : CMulW a b := wide_mul (a := 800) (b := 800) (Nat.lt_trans ha (by decide +kernel)) (Nat.lt_trans hb (by decide +kernel)) (by decide) (by decide) (by decide)
theorem vd_zip : ∀ {qs F : List Int}, Vd qs F → (List.zipWith (fun f q => decide (f < q)) F qs).all id = true
  | [], _, _ => by rw [List.zipWith_nil_right]; rfl
  | _ :: _, [], h => h.elim
  | q :: qs, f :: fs, ⟨_, h1, h2⟩ => by
    rw [List.zipWith_cons_cons, List.all_cons, vd_zip h2, decide_eq_true h1]
    rfl
def cntV : V → Bool
  | .int i => cntB i
  | _ => false
/-- ascending, each divides the next, with a last one -/
def Chg (ns : List Int) (L : Int) : Prop := (∃ r, ns = r ++ [L]) ∧ asc ns = true ∧ gap ns = none ∧ ∀ n ∈ ns, 0 < n ∧ n ≤ L
theorem asc_add {L x : Int} (hx : L < x) : ∀ {r : List Int}, asc (r ++ [L]) = true → asc (r ++ [L] ++ [x]) = true
  | [], _ => by
    show ((decide (L < x)) && true) = true
    rw [decide_eq_true hx]; rfl
  | [a], h => by
    have h' : (decide (a < L) && true) = true := h
    show (decide (a < L) && (decide (L < x) && true)) = true
    rw [decide_eq_true hx]
    exact h'
  | a :: b :: r, h => by
    have h' : (decide (a < b) && asc (b :: r ++ [L])) = true := h
    rw [Bool.and_eq_true] at h'
    show (decide (a < b) && asc (b :: r ++ [L] ++ [x])) = true
    rw [h'.1, asc_add hx h'.2]
    rfl
theorem gap_two (a b : Int) (r : List Int) : gap (a :: b :: r) = if b % a = 0 then gap (b :: r) else some (a, b) := by
  unfold gap
  rw [show adj (fun x y => (x, y)) (a :: b :: r) = (a, b) :: adj (fun x y => (x, y)) (b :: r) from rfl, List.find?_cons]
  by_cases h : b % a = 0
  · rw [if_pos h]
    show (match !decide (b % a = 0) with | true => some (a, b) | false => _) = _
    rw [decide_eq_true h]
    rfl
  · rw [if_neg h]
    show (match !decide (b % a = 0) with | true => some (a, b) | false => _) = _
    rw [decide_eq_false h]
    rfl
theorem gap_add {L x : Int} (hx : x % L = 0) : ∀ {r : List Int}, gap (r ++ [L]) = none → gap (r ++ [L] ++ [x]) = none
  | [], _ => by
    show gap (L :: x :: []) = none
    rw [gap_two, if_pos hx]
    rfl
  | [a], h => by
    have h' : gap (a :: L :: []) = none := h
    rw [gap_two] at h'
    show gap (a :: L :: x :: []) = none
    rw [gap_two, gap_two, if_pos hx]
    split at h'
    · rename_i w; rw [if_pos w]; rfl
    · cases h'
  | a :: b :: r, h => by
    have h' : gap (a :: b :: (r ++ [L])) = none := h
    rw [gap_two] at h'
    show gap (a :: b :: (r ++ [L] ++ [x])) = none
    rw [gap_two]
    split at h'
    · rename_i w
      rw [if_pos w]
      exact gap_add (r := b :: r) hx h'
    · cases h'
theorem Chg.snoc {ns : List Int} {L s : Int} (h : Chg ns L) (hs : 2 ≤ s) : Chg (ns ++ [L * s]) (L * s) := by
  obtain ⟨⟨r, rfl⟩, h2, h4, h3⟩ := h
  have l0 := (h3 L (List.mem_append_right r List.mem_cons_self)).1
  have lt : L < L * s := by
    have : L * 2 ≤ L * s := Int.mul_le_mul_of_nonneg_left hs (by omega)
    omega
  refine ⟨⟨_, rfl⟩, asc_add lt h2, gap_add (Int.mul_emod_right L s) h4, fun n hn => ?_⟩
  rcases List.mem_append.mp hn with hn | hn
  · have := h3 n hn; omega
  · have := List.mem_singleton.mp hn; omega
theorem Chg.at {ns : List Int} {L : Int} (h : Chg ns L) : atI (ns.map V.int) (-1) = some (.int L) := by
  obtain ⟨⟨r, rfl⟩, _⟩ := h
  rw [List.map_append]
  exact atI_last _ _
theorem Chg.pos {ns : List Int} {L : Int} (h : Chg ns L) : 0 < L := by
  obtain ⟨⟨r, rfl⟩, _, _, h3⟩ := h
  exact (h3 L (List.mem_append_right r List.mem_cons_self)).1
theorem Chg.chain {ns : List Int} {L : Int} (h : Chg ns L) (hl : ns.length ≤ 12) (hL : L < 10 ^ 27) : ∃ x r, ns = x :: r ∧ chainB ((x :: r).map V.int) = true ∧ ∀ n ∈ x :: r, n < 10 ^ 27 := by
  obtain ⟨⟨r, rfl⟩, h2, h4, h3⟩ := h
  have big : (10 : Int) ^ 27 < 10 ^ 200 := by decide +kernel
  have c : chainB ((r ++ [L]).map V.int) = true := by
    unfold chainB sizesB
    rw [intsOf_map, List.length_map, h2, h4, decide_eq_true hl, decide_eq_true (show 1 ≤ (r ++ [L]).length by rw [List.length_append]; exact Nat.le_add_left _ _)]
    have : ((r ++ [L]).map V.int).all sizV = true := by
      rw [List.all_eq_true]
      intro v hv
      obtain ⟨n, hn, rfl⟩ := List.mem_map.mp hv
      have := h3 n hn
      show (intB n && decide (1 ≤ n)) = true
      rw [decide_eq_true (show 1 ≤ n by omega), Bool.and_true]
      exact decide_eq_true (show n.natAbs < 10 ^ 200 by omega)
    rw [this]
    rfl
  have b : ∀ n ∈ r ++ [L], n < 10 ^ 27 := fun n hn => Int.lt_of_le_of_lt (h3 n hn).2 hL
  cases r with
  | nil => exact ⟨L, [], rfl, c, b⟩
  | cons y t => exact ⟨y, t ++ [L], rfl, c, b⟩
theorem vd_ix : ∀ {qs F : List Int} {i : Nat}, Vd qs F → i < qs.length → 0 ≤ F.getD i 0 ∧ F.getD i 0 < qs.getD i 0
  | [], _, _, _, h => absurd h (Nat.not_lt_zero _)
  | _ :: _, [], _, h, _ => h.elim
  | q :: qs, f :: fs, 0, ⟨h0, h1, _⟩, _ => ⟨h0, h1⟩
  | q :: qs, f :: fs, i + 1, ⟨_, _, h2⟩, h => vd_ix (i := i) h2 (Nat.lt_of_succ_lt_succ h)
theorem vd_last : ∀ {qs F : List Int} (h : F ≠ []), Vd qs F → 0 ≤ F.getLast h
  | [], [f], _, h => h
  | [], [], h, _ => absurd rfl h
  | [], _ :: _ :: _, _, h => h.elim
  | _ :: _, [], _, h => h.elim
  | q :: qs, [f], _, ⟨_, _, h⟩ => by cases qs <;> exact h.elim
  | q :: qs, f :: g :: fs, _, ⟨_, _, h⟩ => by
    rw [List.getLast_cons (List.cons_ne_nil g fs)]
    exact vd_last _ h
theorem digs_le : ∀ {qs : List Int} {l : Int}, AllPos qs → 0 ≤ l → ∀ f ∈ digs qs l, 0 ≤ f ∧ f ≤ l
  | [], l, _, h, f, hf => by cases List.mem_singleton.mp hf; exact ⟨h, Int.le_refl _⟩
  | q :: qs, l, p, h, f, hf => by
    have q0 := p.tl.1
    have e := Int.emod_add_mul_ediv l q
    have a := Int.emod_nonneg l (show q ≠ 0 by omega)
    have b := Int.ediv_nonneg h (Int.le_of_lt q0)
    have c : l / q ≤ q * (l / q) := by
      have : 1 * (l / q) ≤ q * (l / q) := Int.mul_le_mul_of_nonneg_right (by omega) b
      rwa [Int.one_mul] at this
    rcases List.mem_cons.mp hf with rfl | hf
    · exact ⟨a, by omega⟩
    · have z := digs_le p.tl.2 b f hf
      exact ⟨z.1, by omega⟩
theorem quots_ix {ns : List Int} {i : Nat} (h : i < ns.length - 1) : (quots ns).getD i 0 = ns.getD (i + 1) 0 / ns.getD i 0 := by
  unfold quots
  rw [List.getD_eq_getElem?_getD, adj_at _ (by omega)]
  rfl
theorem dot_range {F c : List Int} (h : F.length = c.length) : (List.range c.length).map (fun i => F.getD i 0 * c.getD i 0) = List.zipWith (· * ·) F c := by
  apply List.ext_getElem
  · simp [h]
  · intro i h1 h2
    simp only [List.length_map, List.length_range] at h1
    have a : i < F.length := by omega
    simp [List.getD_eq_getElem?_getD, a, h1]
theorem tail_at {ns : List Int} (h : ns ≠ []) : atI (ns.map V.int) (-1) = some (.int (ns.getLast h)) := by
  have e := congrArg (List.map V.int) (List.dropLast_concat_getLast h)
  rw [List.map_append] at e
  have z := atI_last (ns.dropLast.map V.int) (.int (ns.getLast h))
  rwa [show ns.dropLast.map V.int ++ [V.int (ns.getLast h)] = ns.map V.int from e] at z
theorem at_ix {ns : List Int} {i : Nat} (h : i < ns.length) : atI (ns.map V.int) (i : Int) = some (.int (ns.getD i 0)) :=
  atI_nat (by rw [List.getElem?_map, List.getD_eq_getElem?_getD, List.getElem?_eq_getElem h]; rfl)
theorem at_suc {ns : List Int} {i : Nat} (h : i + 1 < ns.length) : atI (ns.map V.int) ((i : Int) + 1) = some (.int (ns.getD (i + 1) 0)) := at_ix (i := i + 1) h
end Ck

/-! tuples that come of tuples; pairs of a number and figures as data -/
namespace Ck
open PySem PySem.Spec PyProof.Rows L2 Evl RZ
section
variable {K : PySem.W.Frag} {σ : L2.St} {H : Hp} {ta tb te : TE} {tl th : TO} {xs ys : List V} {lo hi : Option Int} {v : V}
theorem etu_rev (h : Etu K te σ H xs) : Etu K (tRevT K te) σ H xs.reverse := fun H1 e Q q => h H1 e _ fun p H2 e2 hp => ⟨p, xs, rfl, hp, fun b hb => q b _ (e2.trans (Ex.new hb)) (SqT.of upd_same)⟩
theorem etu_sl (h : Etu K te σ H xs) (h1 : EvO tl σ H lo) (h2 : EvO th σ H hi) : Etu K (tSl (rSlA K) te tl th) σ H (cutV xs lo hi) := fun H1 e Q q => h H1 e _ fun p H2 e2 hp =>
  h1 H2 (e.trans e2) _ fun H3 e3 => h2 H3 ((e.trans e2).trans e3) _ fun H4 e4 => by
    have hp4 := ex_t (e3.trans e4) hp
    refine ⟨p, xs, rfl, hp4, fun w => ?_, fun _ b hb => q b _ ((e2.trans (e3.trans e4)).trans (Ex.new hb)) (SqT.of upd_same)⟩
    have z := q p H4 (e2.trans (e3.trans e4))
    rw [cutV_all xs w] at z
    exact z hp4
theorem etu_cat (ha : Etu K ta σ H xs) (hb : Etu K tb σ H ys) (hz : xs.length + ys.length ≤ 100000) : Etu K (tOp (rCatA K) ta tb) σ H (xs ++ ys) := fun H1 e Q q => ha H1 e _ fun a H2 e2 hx => hb H2 (e.trans e2) _ fun b H3 e3 hy => by
  have hx3 := ex_t e3 hx
  refine ⟨a, b, xs, ys, rfl, rfl, hx3, hy, sz_of hz, fun z => ?_, fun _ z => ?_, fun _ _ c hc => q c _ ((e2.trans e3).trans (Ex.new hc)) (SqT.of upd_same)⟩
  · subst z; exact q b H3 (e2.trans e3) hy
  · subst z; exact q a H3 (e2.trans e3) (by rw [List.append_nil]; exact hx3)
theorem etu_one (h : Ev te σ H v) : Etu K (tTup (tCons te tNil)) σ H [v] := fun H1 e Q q => h H1 e _ fun H2 e2 => ⟨(show 1 ≤ sizeLine by decide), fun p hp => q p _ (e2.trans (Ex.new hp)) (SqT.of upd_same)⟩
theorem etu_is (h : Etu K te σ H xs) (e : xs = ys) : Etu K te σ H ys := e ▸ h
theorem ed_etu {ns : List Int} (h : Etu K te σ H (ns.map V.int)) : Ed K te σ H (.tuple (ns.map PyData.int)) := fun H1 e Q q => h H1 e _ fun p H2 e2 hp => q (.ref p) H2 e2 (.tup hp (dpa_ints ns))
theorem ev_ltT {ns ms : List Int} (ha : Etu K ta σ H (ns.map V.int)) (hb : Etu K tb σ H (ms.map V.int)) (hl : ns.length = ms.length) : Ev (tOp (rLtT K) ta tb) σ H (.bl (lexLt ns ms)) := fun H1 e Q q => ha H1 e _ fun a H2 e2 hx => hb H2 (e.trans e2) _ fun b H3 e3 hy =>
  ⟨a, b, ns, ms, rfl, rfl, ex_t e3 hx, hy, hl, q H3 (e2.trans e3)⟩
theorem call_ev {sp : Sp} {E : XK} {tr : TA} {vs : List V} {Q : VK} (h : EvA tr σ H vs) (k : ∀ H1, Ex H H1 → sp vs H1 Q E) : tCall sp [] E tr σ H Q := h H (Ex.refl H) _ fun H1 e => by
  have z := k H1 e
  show sp (vs ++ []) H1 _ E
  rw [List.append_nil]
  exact z
/-- a call that is told by its own word, its arguments by theirs -/
theorem sq_asgC {sp : Sp} {E : XK} {tr : TA} {vs : List V} {z : TS} {D : Ends} {i : Nat} (h : EvA tr σ H vs) (k : ∀ H1, Ex H H1 → sp vs H1 (fun v H2 => z D (σ.set i (some v)) H2) E) : tSeq (tAsg (tCall sp [] E tr) (gName i)) z D σ H := h H (Ex.refl H) _ fun H1 e => by
  have z := k H1 e
  show sp (vs ++ []) H1 _ E
  rw [List.append_nil]
  exact z
end
/-- a rest and figures -/
def pairD (a : Int) (F : List Int) : PyData := .tuple [.int a, .tuple (F.map PyData.int)]
theorem flat_ok : ∀ F : List Int, PyData.canLayAll0 (F.map PyData.int) = true ∧ PyData.depthAll (F.map PyData.int) = 0
  | [] => ⟨by simp only [List.map_nil, PyData.canLayAll0], by simp only [List.map_nil, PyData.depthAll]⟩
  | x :: r => by
    obtain ⟨a, b⟩ := flat_ok r
    exact ⟨by simp only [List.map_cons, PyData.canLayAll0, a, PyData.canLay0]; rfl, by simp only [List.map_cons, PyData.depthAll, b, PyData.depth]; rfl⟩
theorem pair_shaped (a : Int) (F : List Int) : SeqAt.shaped (pairD a F) = true := by
  obtain ⟨h1, h2⟩ := flat_ok F
  unfold SeqAt.shaped pairD
  simp only [PyData.canLay0, PyData.canLayAll0, PyData.depth, PyData.depthAll, h1, h2]
  rfl
theorem eqv_ints : ∀ F : List Int, PyData.eqvAll (F.map PyData.int) (F.map PyData.int) = true
  | [] => by simp only [List.map_nil, PyData.eqvAll]
  | x :: r => by simp only [List.map_cons, PyData.eqvAll, PyData.eqv, eqv_ints r, beq_self_eq_true, Bool.and_self]
theorem pair_eqv (a : Int) (F : List Int) : PyData.eqv (pairD a F) (pairD a F) = true := by
  unfold pairD
  simp only [PyData.eqv, PyData.eqvAll, eqv_ints, beq_self_eq_true, Bool.and_self]
theorem dp_pair {K : PySem.W.Frag} {H : Hp} {p p2 : Addr} {a : Int} {F : List Int} (h : SqT K H p [.int a, .ref p2]) (h2 : SqT K H p2 (F.map V.int)) : Dp K H (.ref p) (pairD a F) := .tup h (.cons (.int a) (.cons (.tup h2 (dpa_ints F)) .nil))
theorem cut_last {F : List Int} : cutV (F.map V.int) none (some (-1)) = F.dropLast.map V.int := by
  unfold cutV
  have e1 : HT.sIx (F.map V.int).length 0 none = 0 := rfl
  have e2 : HT.sIx (F.map V.int).length (F.map V.int).length (some (-1)) = F.length - 1 := by
    show (if (-1 : Int) < 0 then ((-1 : Int) + ((F.map V.int).length : Int)).toNat else min (-1 : Int).toNat (F.map V.int).length) = F.length - 1
    rw [if_pos (by decide), List.length_map]
    omega
  rw [e1, e2, List.drop_zero, Nat.sub_zero, List.dropLast_eq_take, List.map_take]
theorem cut_one (a b : V) : cutV [a, b] none (some 1) = [a] := rfl
theorem vd_of : ∀ {qs ms : List Int} {g : Int}, ms.length = qs.length → (∀ i, i < qs.length → 0 ≤ ms.getD i 0 ∧ ms.getD i 0 < qs.getD i 0) → 0 ≤ g → Vd qs (ms ++ [g])
  | [], [], _, _, _, h => h
  | [], _ :: _, _, h, _, _ => by cases h
  | _ :: _, [], _, h, _, _ => by cases h
  | q :: qs, m :: ms, g, h, hi, hg => ⟨(hi 0 (Nat.succ_pos _)).1, (hi 0 (Nat.succ_pos _)).2, vd_of (Nat.succ.inj h) (fun i hl => hi (i + 1) (Nat.succ_lt_succ hl)) hg⟩
theorem int_max (q : Int) (h : 0 < q) : 0 < (if q < 1000000 then q else 1000000) ∧ (if q < 1000000 then q else 1000000) < 1073741824 ∧ (if q < 1000000 then q else 1000000) ≤ q := by
  split <;> omega
end Ck

/-! set(t) of a tuple of ints -/
namespace Ck
open PySem PySem.Spec PyProof.Rows L2
section
variable {P : Program} {w : World} {A : Around} {E : Value → Shared → Prop} {s : Shared}
/-- set.__init__ of the new set and a tuple -/
theorem fill_tup {l : Addr} {items : Array Value} (ns : List Int) (hh : A.handled = none) (hl : s.heap.IsTuple l items) (hit : IntsAre items.toList ns) (hb : ns.length + 1 < scanBound) :
    codeAny (model P w) A (.call (.builtin "set.__init__") ⟨[.ref s.heap.objs.size, .ref l], []⟩)
      (wants (fun r s₂ => r = .none ∧ ∃ h' tk c, s₂ = { s with heap := h', toks := tk } ∧ Full w ns s h' c) E) (laidS w s) := by
  have sz : items.size = ns.length := (Array.length_toList (xs := items)).symm.trans (IntsAre.length hit)
  have at0 : (laidS w s).heap.get? s.heap.objs.size = some (emptyS w) := Heap.get?_push_size _ rfl
  have ty : (laidS w s).TypeIs (.ref s.heap.objs.size) "set" := ⟨emptyS w, at0, rfl⟩
  refine codeAny_call_builtin F.called_set.init.plain F.entry_set_init (check_set_init_1 ty ?_)
  obtain ⟨⟨k1, k2, k3, k4⟩, ho, e1, nl, e3⟩ := hl
  cases e1
  cases e3
  have ho' : (laidS w s).heap.get? l = some ⟨.type "tuple", k2, .seq items nl, k4⟩ := Heap.get?_push_of_some _ ho
  have isl : (laidS w s).heap.IsTuple l items := ⟨_, ho', rfl, nl, rfl⟩
  have q1 := PySem.F.sub_tuple_set
  have q2 := PySem.F.sub_tuple_frozenset
  have q3 : (Value.type "tuple" == Value.type "dict") = false := by decide
  unfold Builtin.«set.__init__» noKeywords Builtin.Frozenset.updateFrom
  generalize hp : pyIter = PI
  wp_walk
  subst hp
  refine wpAny_pyIter_tuple isl (wpAny_bind (wpAny_runValue ?_))
  have l0 : l < s.heap.objs.size := Heap.lt_size ho
  have n1 : (laidS w s).heap.objs.size = s.heap.objs.size + 1 := Heap.size_push ..
  have n2 : l ≠ (laidS w s).heap.objs.size := by rw [n1]; exact Nat.ne_of_lt (Nat.lt_succ_of_lt l0)
  have n3 : s.heap.objs.size ∉ [(laidS w s).heap.objs.size, l] := fun z => by
    rw [n1] at z
    rcases List.mem_cons.mp z with z | z
    · exact absurd z (Nat.ne_of_lt (Nat.lt_succ_self _))
    · exact absurd (List.mem_singleton.mp z) (Nat.ne_of_gt l0)
  have val : ∀ (i : Nat) (v : Value), items[i]? = some v → ∃ k t, ns[i]? = some k ∧ v = .int k t := by
    intro i v hv
    have hi : i < ns.length := sz ▸ (Array.getElem?_eq_some_iff.mp hv).1
    obtain ⟨t, e⟩ := IntsAre.int_at hit i v ((Array.getElem?_toList (xs := items)).trans hv)
    exact ⟨ns[i], t, List.getElem?_eq_getElem hi, by rw [e, List.getD_eq_getElem?_getD, List.getElem?_eq_getElem hi] <;> rfl⟩
  have W := (Walks.tuple (prog := P) (w := w) (show A.in1.in1.handled = none from hh) _ l n2 items).toS
  have start : (∃ c, c ≤ 0 ∧ SetR w ((laidS w s).heap.push { cls := .type "tuple_iterator", data := .fields #[.ref l, .int 0 0] }) s.heap.objs.size (fun j => decide (j ∈ ns.take 0)) c) :=
    ⟨0, Nat.le_refl 0, setR_new_at (Heap.get?_push_of_some _ at0)⟩
  refine set_update_ints W s.heap.objs.size n3 ns sz hb val _ 0 _ rfl (Nat.zero_le _) ?_ ?_ ?_
  · exact ⟨⟨_, Heap.get?_push_size _ rfl, rfl, rfl⟩, isl.push _⟩
  · exact start
  rintro ⟨h', g2, d2, tk, os2⟩ c mv hc hS
  obtain rfl : g2 = s.gens := mv.gens
  obtain rfl : d2 = s.drawn := mv.drawn
  obtain rfl : os2 = s.os := mv.os
  show wpAny _ _ _ _ _ _
  refine wpAny_pure ?_
  show wpAny _ _ (ret Value.none) _ _ _
  refine wpAny_pure ⟨rfl, h', tk, c, rfl, hS, sz ▸ hc, ?_⟩
  intro b o e
  have b0 : b < s.heap.objs.size := Heap.lt_size e
  refine mv.heap b o (fun z => ?_) (Heap.get?_push_of_some _ (Heap.get?_push_of_some _ e))
  rcases List.mem_cons.mp z with z | z
  · exact absurd z (Nat.ne_of_lt b0)
  · have z' := List.mem_singleton.mp z
    rw [n1] at z'
    exact absurd z' (Nat.ne_of_lt (Nat.lt_succ_of_lt b0))
theorem set_of_tup {l : Addr} {items : Array Value} (ns : List Int) {Q : Value → Shared → Prop} (hh : A.handled = none) (hl : s.heap.IsTuple l items) (hit : IntsAre items.toList ns) (hb : ns.length + 1 < scanBound)
    (h : ∀ (h' : Heap) (tk c : Nat), Full w ns s h' c → Q (.ref s.heap.objs.size) { s with heap := h', toks := tk }) :
    wpAny (model P w) A (call (.type "set") [.ref l]) Q E s := by
  obtain ⟨c0, t0, mro⟩ := F.called_set.mro
  have g1 := F.called_set.made
  have g2 := F.called_set.sub
  have g3 := F.called_set.notType
  have g4 := F.called_set.canCreate
  have g5 := F.typeCall_set_1 (.ref l)
  refine wpAny_call (codeAny_of_tree ?_)
  show wpAny _ _ (callAny (.type "set") _) _ _ _
  refine wpAny_pure ⟨Code.quiet_builtin _ (by decide +kernel), codeAny_builtin F.entry_type_call ?_⟩
  rw [Around.under_plain (weight_type_call_type "set" [.ref l] []) rfl]
  repeat (any_goals (first | assumption | wp_step))
  refine codeAny_mono (code_set_led1 (.ref l) (E := E) (Q₁ := fun obj s₁ => obj = .ref s.heap.objs.size ∧ s₁ = laidS w s) ⟨rfl, rfl⟩) ?_
  intro r s₁ hr
  match r, hr with
  | .error e, hr => exact hr
  | .ok .next, hr => exact hr.elim
  | .ok .brk, hr => exact hr.elim
  | .ok .cont, hr => exact hr.elim
  | .ok (.ret obj), hr =>
    obtain ⟨rfl, rfl⟩ := hr
    have ty : (laidS w s).TypeIs (.ref s.heap.objs.size) "set" := ⟨emptyS w, Heap.get?_push_size _ rfl, rfl⟩
    have g6 := F.called_set.init.lookup
    have g7 := F.called_set.init.bind (.ref s.heap.objs.size)
    repeat (any_goals (first | assumption | wp_step))
    refine codeAny_mono (fill_tup (E := E) ns (show A.in1.handled = none from hh) hl hit hb) ?_
    intro r₂ s₂ hr₂
    match r₂, hr₂ with
    | .error e, hr₂ => exact hr₂
    | .ok .next, hr₂ => exact hr₂.elim
    | .ok .brk, hr₂ => exact hr₂.elim
    | .ok .cont, hr₂ => exact hr₂.elim
    | .ok (.ret r), hr₂ =>
      obtain ⟨rfl, h', tk, c, rfl, full⟩ := hr₂
      repeat (any_goals (first | assumption | wp_step))
      exact h h' tk c full
end
section
variable {X : Cx}
def rSetT (K : PySem.W.Frag) (w : World) : List V → Hp → VK → Prop := fun xs H Q => ∃ (a : Addr) (ns : List Int), xs = [V.ref a] ∧ SqT K H a (ns.map V.int) ∧ ns.length < 60 ∧
  ∀ p c, H p = none → c ≤ ns.length → Q (.ref p) (upd H p (SetO w p (fun j => decide (j ∈ ns)) c))
theorem cr_setT (hc : X.calm = true) : CallR X (.type "set") (rSetT X.K X.w) := by
  intro pins s σ H xs us Q I r h
  obtain ⟨a, ns, rfl, hS, hl, q⟩ := h
  obtain ⟨u, rfl, ru⟩ := vals1 r
  cases (show u = Value.ref a from ru)
  obtain ⟨its, rv, pl, hz⟩ := I.tuple hS
  refine set_of_tup ns (I.ok.hd hc) pl (by simpa using rv.ints) (by unfold scanBound; omega) ?_
  rintro h' tk c ⟨hR, hcl, hk⟩
  exact ⟨.ref s.heap.objs.size, _, I.laid (t' := tk) hk (Nat.le_refl _) (setO_new hR), rfl, q _ c (I.hok.fresh (Nat.le_refl _)) hcl⟩
end
end Ck

/-! own exceptions with a field, over any built-in base -/
namespace PySem
namespace CkX
open Builtin Builtin.ObjectAttr HandSPX
section
variable {prog : Program} {w : World} {A : Around} {E : Value → Shared → Prop} {R : Result → Shared → Prop} {hp : Heap} {g : Array GenState} {d : Drawn} {t : Nat} {os : OsState}
/-- the first field of an exception that has none, its class over a base of which T is the chain -/
theorem osaT {K : W.Frag} {B sa ow : String} {T : List Value} (SB : StoreFacts B T sa ow) (hT : T.contains (.type "object") = true) {nm : Str} {tk : Tok} {v : Value} {x C : Addr} {fv : Array Value} {cd : ClassData}
    (X : K.In hp) (at0 : hp.get? x = some { cls := .ref C, data := .fields fv }) (hcd : W.clsIn K C = some cd) (hm : W.excTail T cd.mro = true) (hh : cd.hasDict = true) (ha : W.findIn K (.ref C) nm = some none)
    (out : ∀ h' k' y, (∀ b o, b ≠ x → hp.get? b = some o → h'.get? b = some o) → hp.objs.size ≤ y → y ≠ x → h'.get? x = some { cls := .ref C, dict := some y, data := .fields fv } → h'.Ns1 y (fun z => if z = nm then some v else none) →
      R (.ok (.ret .none)) ⟨h', g, d, k', os⟩) :
    codeAny (model prog w) A (.call (.builtin "object.__setattr__") ⟨[.ref x, .str nm tk, v], []⟩) R ⟨hp, g, d, t, os⟩ := by
  have J : W.InstAt hp x { cls := .ref C, data := .fields fv } C none := ⟨at0, rfl, rfl, trivial⟩
  have SF := F.store_object
  have obj : cd.mro.contains (.type "object") = true := (W.excTail_contains "object" _ hm).trans hT
  have full : cd.mro.isEmpty = false := by
    cases z : cd.mro with
    | nil => rw [z] at obj; cases obj
    | cons _ _ => rfl
  have off : x ≠ hp.objs.size := Nat.ne_of_lt (Heap.lt_size at0)
  have isO : W.Looks (model prog w) hp (isInstance (.ref x) (.type "object")) true := J.type.andThen (W.looks_mroIn X (by unfold W.mroIn; rw [hcd, Option.bind_some, if_neg (by rw [full]; decide), obj]))
  refine codeAny_call_builtin SF.slot.plain SF.entry (@W.check_slot (model prog w) _ _ ⟨hp, g, d, t, os⟩ "object.__setattr__" "object" "__setattr__" (.ref x) [.str nm tk, v] [] _ SF.kind SF.split isO (SF.args (.ref x) (.str nm tk) v) ?_)
  have mr : W.Looks (model prog w) hp (mroOf (.ref C)) cd.mro := (W.looks_clsIn X hcd).andThen .now
  have tak : W.Looks (model prog w) hp (storeTaker? none) none := .now
  have dat : W.Looks (model prog w) hp (classData C) cd := W.looks_clsIn X hcd
  rw [W.osa_eq, refuse_eq]
  refine wpAny_bind (wpAny_bind (J.type.at (wpAny_bind (mr.at ?_))))
  rw [W.excTail_pass _ (SB.passes _) _ hm]
  refine wpAny_pure (wpAny_bind (J.type.at (wpAny_bind ((W.looks_findIn X ha).at (wpAny_bind (tak.at ?_))))))
  show wpAny _ _ (storeInOwnDict (.ref x) (.ref C) (.str nm tk) nm v false) _ _ _
  obtain ⟨n1, n2, n3, n4, n5, hd, n6, n7, n8, n9, n10⟩ := cd
  dsimp only at hh
  subst hh
  unfold storeInOwnDict ownDictForStores
  repeat (first | with_reducible refine store_in_new ?_ ?_ | with_reducible refine wpAny_loadPart_at at0 ?_ | with_reducible refine dat.at ?_ | wp_step)
  · exact ⟨_, #[], _, (Heap.get?_update_ne _ _ _ _ off.symm).trans (Heap.get?_push_at rfl rfl), rfl, fun e he => absurd he (by simp), fun _ => rfl⟩
  · intro h' k' ns same
    have at1 : (hp.push { cls := .type "dict", data := .dict #[] }).get? x = some { cls := .ref C, data := .fields fv } := Heap.get?_push_of_some _ at0
    refine out h' k' hp.objs.size (fun b o nb ho => ?_) (Nat.le_refl _) off.symm ?_ ns
    · exact (same.2 b (Nat.ne_of_lt (Heap.lt_size ho))).trans ((Heap.get?_update_ne _ _ _ _ nb).trans (Heap.get?_push_of_some _ ho))
    · exact (same.2 x off).trans (Heap.get?_update_self _ at1 rfl)
end
end CkX
end PySem
namespace Ck
open PySem PySem.Spec PyProof.Rows L2
/-- what the written part says of such a class -/
structure OexB (K : PySem.W.Frag) (newId : String) (T : List Value) (C : Addr) : Prop where
  cls : ∃ nm q N bs bm sn sub ab col dd k0 k1 k2 k3 k5, K.lookup C = some (excClassObj nm q C N bs bm true sn sub ab col dd k0 k1 k2 k3 k5 newId) ∧ PySem.W.excTail T bm = true
  sa : PySem.W.findIn K (.ref C) "__setattr__" = some (some (.builtin "object.__setattr__"))
  exC : PySem.W.subIn K (.ref C) (.type "BaseException") = some true
  tyC : PySem.W.typeIn K (.ref C) = some (.type "type")
  kC : PySem.W.keepIn K (.ref C) = true
section
variable {X : Cx} {pins : List (Addr × Obj)} {σ : L2.St} {H : Hp} {s : Shared} {a C : Addr} {f : Str} {y : V} {u : Value} {Q : Unit → Shared → Prop} {E : Value → Shared → Prop} {A : Around} {B newId sa ow : String} {T : List Value}
/-- self.f = y on a new exception -/
theorem ost_T (SB : StoreFacts B T sa ow) (hT : T.contains (.type "object") = true) (O : OexB X.K newId T C) (I : Inv X pins σ H s) (e : H a = some (exo a C none)) (hno : PySem.W.findIn X.K (.ref C) f = some none) (ry : RelV y u)
    (h : ∀ dx s', H dx = none → dx ≠ a → Inv X pins σ (upd (upd H dx (exd dx [(f, y)])) a (exo a C (some dx))) s' → Q () s') : wpAny (model X.prog X.w) A (setAttr (.ref a) f u) Q E s := by
  obtain ⟨nm, q, N, bs, bm, sn, sub, ab, col, dd, k0, k1, k2, k3, k5, hC, hbm⟩ := O.cls
  have cl : PySem.W.clsIn X.K C = some { name := nm, bases := bs, mro := .ref C :: bm, ns := N, qualname := q, hasDict := true, slotNames := sn, subclasses := sub, abstract := ab, collection := col, hasDel := false } := by
    unfold PySem.W.clsIn
    rw [hC] <;> rfl
  obtain ⟨t1, ho⟩ := exo_at I.hok e
  obtain ⟨hp, g, d, t, os⟩ := s
  refine PySem.W.set_plain I.kIn (ox := { cls := .ref C, dict := none, data := .fields #[.ref t1, .none, .none, .none, .bool false, .none] }) (od := none) ⟨ho, rfl, rfl, trivial⟩ O.sa ?_
  refine PySem.CkX.osaT SB hT I.kIn ho cl (show PySem.W.excTail T (.ref C :: bm) = true from hbm) rfl hno (fun h' tk' z k dn dne hx hn => ?_)
  have fz : H z = none := I.hok.fresh dn
  have apart : ∀ {b : Addr} {o : Obj}, hp.get? b = some o → b ≠ z := fun {b o} q => Nat.ne_of_lt (Nat.lt_of_lt_of_le (Heap.lt_size q) dn)
  have na : ∀ {b : Addr}, H b = none → b ≠ a := fun {b} n w => by
    rw [w, e] at n
    cases n
  have U : Un X.fs [] H (upd (upd H z (exd z [(f, y)])) a (exo a C (some z))) hp h' := {
    keep := fun b o q n _ _ => k b o (na n) q
    slot := fun b o q n _ _ => ⟨o.slots, k b o (na n) q⟩
    free := fun b o q n _ => by rw [upd_ne (na n), upd_ne (apart q)]; exact n
    there := fun b o q _ => by
      by_cases nb : b = a
      · exact ⟨_, by rw [nb]; exact hx⟩
      · exact ⟨o, k b o nb q⟩
    tups := fun b xs q => by rw [upd_ne (at_ne e q exo_tup), upd_ne (ne_of_none q fz)]; exact q
    frzs := fun b o v q => by rw [upd_ne (at_ne e q exo_frz), upd_ne (ne_of_none q fz)]; exact q
    tbls := fun b ps q => ⟨#[], by rw [upd_ne (at_ne e q exo_tbl), upd_ne (ne_of_none q fz), q]; simp⟩ }
  refine h z _ fz dne (I.un (t' := tk') U fun b o q => ?_)
  by_cases nb : b = a
  · subst nb
    rw [upd_same] at q
    cases q
    exact exo_ok hx
  · rw [upd_ne nb] at q
    by_cases nz : b = z
    · subst nz
      rw [upd_same] at q
      cases q
      exact exd_ok hn (relO_put (fs := []) ry fun g => True.intro)
    · rw [upd_ne nz] at q
      exact (I.hok b o q).stay (fun c v hc w => k c v (by
          rcases hc with hc | hc
          · rw [hc]; exact nb
          · exact at_ne e hc exo_own) w)
        (fun c hc => by rw [upd_ne (at_ne e hc exo_own), upd_ne (ne_of_none hc fz)]; exact hc) (fun c xs hc => by rw [upd_ne (at_ne e hc exo_tup), upd_ne (ne_of_none hc fz)]; exact hc)
end
/-- self.f = e, self a new exception -/
def tOstT (K : PySem.W.Frag) (newId : String) (T : List Value) (f : Str) (to te : TE) : TS := fun D σ H => te σ H fun y H1 => to σ H1 fun x H2 => ∃ a C : Addr, x = .ref a ∧ OexB K newId T C ∧ PySem.W.findIn K (.ref C) f = some none ∧
  H2 a = some (exo a C none) ∧ ∀ z, H2 z = none → z ≠ a → D.nx σ (upd (upd H2 z (exd z [(f, y)])) a (exo a C (some z)))
section
variable {X : Cx} {o e : Expr} {to te : TE} {f : Str} {p' pos : Pos} {B newId sa ow : String} {T : List Value}
theorem ps_ostT (SB : StoreFacts B T sa ow) (hT : T.contains (.type "object") = true) (ho : PE X o to) (he : PE X e te) (hs : swapsWith e (some (.Attribute o f p')) pos.line X.env = pure false := by rfl) : PS X (.Assign [.Attribute o f p'] e pos) (tOstT X.K newId T f to te) := by
  refine ⟨fun pins s σ H D I h => plainObj_wpAny_Assign_Attribute (thn (he.run pins s σ H _ I h) fun v s1 ⟨y, H1, I1, r1, q1⟩ => thn (ho.run pins s1 σ H1 _ I1 q1) fun u s2 ⟨x, H2, I2, r2, a, C, ex, O, hno, ea, q⟩ => ?_) hs⟩
  subst ex
  obtain rfl : u = Value.ref a := r2
  exact ost_T SB hT O I2 ea hno r1 fun z s' n ne J => ⟨σ, _, J, q z n ne⟩
end
/-- C(e, ..), C's own __init__ keeping sp -/
def tMkT (C : Addr) (sp : Sp) (ta : TA) : L2.St → Hp → XK → Prop := fun σ H Q => ta σ H fun vs H1 => vs.length ≤ 1000 ∧ ∀ a, H1 a = none → sp (.ref a :: vs) (upd H1 a (exo a C none))
  (fun v H2 => v = .non ∧ ∃ (d : Addr) (fs : List (Str × V)), H2 a = some (exo a C (some d)) ∧ H2 d = some (exd d fs) ∧ H1 d = none ∧ Q (.ref C) (some d) (upd (del H2 a) d (.xd fs))) (fun _ _ _ => False)
section
variable {X : Cx} {e : Expr} {es : List Expr} {ta : TA} {p pos : Pos} {B newId initId : String} {T : List Value}
theorem pmk_T {CX : CXT} {x : Str} {C fI : Addr} {k : Nat} {fd : FuncData} {ps : List Str} {sp : Sp} (FB : ExcBaseFacts B newId initId T) (O : OexB X.K newId T C) (iC : PySem.W.findIn X.K (.ref C) "__init__" = some (some (.ref fI))) (tI : PySem.W.typeIn X.K (.ref fI) = some (.type "function"))
    (F1 : FnOk X.prog X.w X.K X.mg X.base CX k fI fd ps sp) (hr : Room (k + 1) X.A) (hb : Binds X.K fd ps []) (hx : Passes CX X (fun _ _ _ => False)) (hg : Gl X x) (hm : X.mg x = some (.ref C)) (ha : PA X (e :: es) ta)
    (hdb : (x == ("__debug__" : Str)) = false := by decide) (he : starEach (e :: es) X.env = (false, eval e X.env) :: starEach es X.env := by rfl) (hpl : (backTo pos (starEach es X.env)).any (·.1) = false := by rfl) :
    PMk X (.Call (.Name x p) (e :: es) [] pos) (tMkT C sp ta) := by
  intro pins s σ H Q I h
  obtain ⟨nm, q, N, bs, bm, sn, sub, ab, col, dd, k0, k1, k2, k3, k5, hC, hbm⟩ := O.cls
  refine wpAny_Call_Name_kw (ld_glob I hg hm ?_ hdb)
  refine PySem.W.callWith_K (h₀ := X.base) I.ok.mod.kin O.kC (thn (ha.run pos pins s σ H _ I h) fun us s1 ⟨vs, H1, I1, r1, hz, q1⟩ => ⟨I1.kIn, ?_⟩) he hpl
  show wpAny _ _ (call (.ref C) us) _ _ _
  obtain ⟨hp, g, dr, tk, os⟩ := s1
  have up : hp.objs.size ≤ hp.objs.size + 1 := Nat.le_succ _
  have hq := q1 (hp.objs.size + 1) (I1.hok.fresh up)
  have keep2 : ∀ b o, hp.get? b = some o → ((hp.push (PySem.W.kdv_tup us)).push (PySem.HandSPX.excO C hp.objs.size)).get? b = some o := fun b o e => Heap.get?_push_of_some _ (Heap.get?_push_of_some _ e)
  have there : ((hp.push (PySem.W.kdv_tup us)).push (PySem.HandSPX.excO C hp.objs.size)).get? (hp.objs.size + 1) = some (PySem.HandSPX.excO C hp.objs.size) := by heap_get
  have I2 : Inv X pins σ (upd H1 (hp.objs.size + 1) (exo (hp.objs.size + 1) C none)) ⟨(hp.push (PySem.W.kdv_tup us)).push (PySem.HandSPX.excO C hp.objs.size), g, dr, tk, os⟩ :=
    I1.laid (t' := tk) (a := hp.objs.size + 1) (o := exo (hp.objs.size + 1) C none) (h' := (hp.push (PySem.W.kdv_tup us)).push (PySem.HandSPX.excO C hp.objs.size)) keep2 up (exo_ok there)
  have r2 : Vals (V.ref (hp.objs.size + 1) :: vs) (Value.ref (hp.objs.size + 1) :: us) := .cons rfl r1
  have len : (Value.ref (hp.objs.size + 1) :: us).length = ps.length := by
    have e := r2.length
    rw [F1.len _ _ _ _ hq] at e
    exact e.symm
  have bd : BindsTo ⟨(hp.push (PySem.W.kdv_tup us)).push (PySem.HandSPX.excO C hp.objs.size), g, dr, tk, os⟩ fd ⟨Value.ref (hp.objs.size + 1) :: us, []⟩ (ps.zip (Value.ref (hp.objs.size + 1) :: us)) := by
    have z := hb ⟨(hp.push (PySem.W.kdv_tup us)).push (PySem.HandSPX.excO C hp.objs.size), g, dr, tk, os⟩ (Value.ref (hp.objs.size + 1) :: us) I2.kIn (by rw [List.append_nil]; exact len)
    rw [List.append_nil] at z
    exact z
  have small : us.length ≤ sizeLine := by
    rw [← Paired.length r1, sizeLine_eq]
    omega
  refine wpAny_call (PySem.HandSPX.call_own FB (fun Y => PySem.W.excTail_contains Y bm hbm) (I1.kIn _ _ hC) (PySem.W.looks_findIn I1.kIn iC) (fun self => PySem.W.bind_fn I1.kIn self tI) small
    (codeAny_mono (F1.run _ X.stack _ _ ⟨Value.ref (hp.objs.size + 1) :: us, []⟩ (Value.ref (hp.objs.size + 1) :: us) _ _ (fun _ _ _ => False) (hr.make C us []) (I2.env0.make C us []) bd r2 hq) fun r s' back => ?_))
  cases r with
  | error er => exact hx pins σ _ _ er s' I2 back
  | ok fl =>
    cases fl with
    | ret u =>
      obtain ⟨v, H2, os2, bare2, un2, hok2, rv, ev, d, fs, ea, ed, hd1, q2⟩ := back
      subst ev
      obtain ⟨h2, g2, d2, t2, os'⟩ := s'
      exact ⟨rv, mk_end (raises_own O.exC O.tyC) I1 up keep2 un2 hok2 os2 bare2 ea ed hd1 q2⟩
    | next => exact False.elim back
    | brk => exact False.elim back
    | cont => exact False.elim back
end
/-! defs that may let an exception out -/
section
variable {P : Program} {w : World} {K : PySem.W.Frag} {mg : Str → Option Value} {base : Heap}
/-- a def, in the frame that lets exceptions out -/
theorem cg_ofE {x : Str} {st : Stmt} {N ps : List Str} {k : Nat} {sp : Sp} (D : Df K mg x st ps) (S : FnScope N ps (defScope st)) (len : ∀ vs H Q E, sp vs H Q E → vs.length = ps.length)
    (hbody : ∀ (f : Addr) (cdv : Value) (A : Around) (fr : List Env) (s : Shared) (H : Hp) (vs : List V) (Q : VK) (E : XK), Room k (A.deeper (envOfC x (defScope st) s.heap.objs.size f cdv)) → A.guards = some [] → sp vs H Q E →
      Takes (cxOf (L2.CX P w) P w K mg base N x (defScope st) f cdv A fr s H E) (fun cls d _ H' => E cls d H') →
      ∃ t, PSs (cxOf (L2.CX P w) P w K mg base N x (defScope st) f cdv A fr s H E) (defBody st) t ∧ t { nx := fun _ H' => Q .non H', rt := Q } (start N vs) H) : Cg P w K mg base (L2.CX P w) (k + 1) x sp := by
  obtain ⟨f, fd, F, g, b⟩ := D
  exact ⟨f, fd, ps, Fun.okG F S len fun cdv A fr s H vs Q E r gd h => hbody f cdv A fr s H vs Q E r gd h (L2.takes_of rfl rfl rfl rfl), g, F.kp, b⟩
end
section
variable {X : Cx} {C : CXT} {k j : Nat} {x : Str} {f : Addr} {fd : FuncData} {ps : List Str} {sp : Sp} {E : L2.St → XK} {p pos : Pos} {e : Expr} {es : List Expr} {t : TA} {W : WX}
theorem run_fngS {pins : List (Addr × Obj)} {σ : L2.St} {H : Hp} {s : Shared} {Q : VK} {us : List Value} {vs : List V} (F : FnG X.prog X.w X.K X.mg X.base C k f fd ps sp) (hr : Room k X.A) (hg : X.A.guards = some []) (hb : Binds X.K fd ps [])
    (hx : PassesAt C X σ (E σ)) (I : Inv X pins σ H s) (r : Vals vs us) (h : sp vs H Q (E σ)) : wpAny (model X.prog X.w) X.A (call (.ref f) us) (EP X pins σ Q) X.xe s := by
  have len : us.length = ps.length := r.length.symm.trans (F.len vs H Q (E σ) h)
  have bd : BindsTo s fd ⟨us, []⟩ (ps.zip us) := by
    have z := hb s us I.kIn (by rw [List.append_nil]; exact len)
    rw [List.append_nil] at z
    exact z
  refine wpAny_call (codeAny_mono (F.run X.A X.stack s H ⟨us, []⟩ us vs Q (E σ) hr hg I.env0 bd r h) fun out s' back => ?_)
  match out, back with
  | .ok (.ret u), back => exact I.after back
  | .ok .next, back => exact back.elim
  | .ok .brk, back => exact back.elim
  | .ok .cont, back => exact back.elim
  | .error er, back => exact hx pins H s er s' I back
/-- a call of a def that may raise: what it lets out is ours -/
theorem pcgE (c : Cg X.prog X.w X.K X.mg X.base (L2.CX X.prog X.w) k x sp) (hr : Room j X.A) (hgd : X.A.guards = some []) (tk : Takes X W) (ha : PA X (e :: es) t) (hk : k ≤ j := by decide) (hg : Gl X x := by rfl)
    (hdb : (x == ("__debug__" : Str)) = false := by decide) (he : starEach (e :: es) X.env = (false, eval e X.env) :: starEach es X.env := by rfl) (hpl : (backTo pos (starEach es X.env)).any (·.1) = false := by rfl) :
    PE X (.Call (.Name x p) (e :: es) [] pos) (tCallS sp (WE W) t) := by
  obtain ⟨f, fd, ps, F, hm, kp, b⟩ := c
  refine ⟨fun pins s σ H Q I h => wpAny_Call_Name_kw (ld_glob I hg hm ?_ hdb)⟩
  exact PySem.W.callWith_K (h₀ := X.base) I.ok.mod.kin kp (thn (ha.run pos pins s σ H _ I h) fun us s1 ⟨vs, H1, I1, r, q⟩ => ⟨I1.kIn, run_fngS F (hr.mono hk) hgd b (passAt tk σ) I1 r q⟩) he hpl
end
end Ck

/-! try with several clauses, some of them with a name -/
namespace Ck
open PySem PySem.Spec PyProof.Rows L2
abbrev Cl3 := Value × Option Nat × (Addr → Value → Option Addr → TS)
/-- what the clauses wish, one behind the other; a named one has its slot -/
def wMix (K : PySem.W.Frag) (Wo : WX) (D : Ends) : List Cl3 → WX
  | [] => Wo
  | (c, none, ts) :: r => fun cls d σ H => ∃ b, PySem.W.exmOne K cls c = some b ∧ (b = true → ∀ a, H a = none → ts a cls d D σ H) ∧ (b = false → wMix K Wo D r cls d σ H)
  | (c, some i, ts) :: r => fun cls d σ H => ∃ b, PySem.W.exmOne K cls c = some b ∧
      (b = true → ∀ a, H a = none → ts a cls d { nx := fun z G => D.nx (z.set i none) G, rt := D.rt, bk := fun z G => D.bk (z.set i none) G, ct := fun z G => D.ct (z.set i none) G } (σ.set i (some (.ref a))) H) ∧ (b = false → wMix K Wo D r cls d σ H)
inductive HMix (X : Cx) : List ExceptHandler → List Cl3 → Prop
  | nil : HMix X [] []
  | plain {x : Str} {c : Value} {ts : Addr → Value → Option Addr → TS} {b₀ : Stmt} {su : List Stmt} {np pos' : Pos} {hs : List ExceptHandler} {l : List Cl3} (hc : Names X x c)
      (body : ∀ (a : Addr) (oe : Obj) (cls : Value) (d : Option Addr) (pn : List (Addr × Obj)), Zc cls d oe → (∃ vs, oe.data = .fields vs) → PSs (X.suite a ((a, oe) :: pn)) (b₀ :: su) (ts a cls d)) (r : HMix X hs l) :
      HMix X (.ExceptHandler (some (.Name x np)) none (b₀ :: su) pos' :: hs) ((c, none, ts) :: l)
  | named {x n : Str} {i : Nat} {c : Value} {ts : Addr → Value → Option Addr → TS} {b₀ : Stmt} {su : List Stmt} {np pos' : Pos} {hs : List ExceptHandler} {l : List Cl3} (hc : Names X x c) (hi : X.N[i]? = some n) (hn : X.env.kindOf n = some .local)
      (body : ∀ (a : Addr) (oe : Obj) (cls : Value) (d : Option Addr) (pn : List (Addr × Obj)), Zc cls d oe → (∃ vs, oe.data = .fields vs) → PSs (X.suite a ((a, oe) :: pn)) (b₀ :: su) (ts a cls d)) (r : HMix X hs l) :
      HMix X (.ExceptHandler (some (.Name x np)) (some n) (b₀ :: su) pos' :: hs) ((c, some i, ts) :: l)
section
variable {X : Cx} {body : List Stmt} {h₀ : ExceptHandler} {hds : List ExceptHandler} {l : List Cl3} {pos : Pos} {tb : WX → TS} {Wo : WX}
theorem ps_try_mix (st : X.stack = X.env :: X.outer) (hf : X.env.frame = some X.env.locals) (hN : X.N.Nodup) (tk : Takes X Wo)
    (hb : ∀ (W : WX) (pn : List (Addr × Obj)) (xe : Value → Shared → Prop), Takes (X.tr pn xe) W → PassesOwn (model X.prog X.w) X.A X.env xe → PSs (X.tr pn xe) body (tb W)) (hh : HMix X (h₀ :: hds) l) :
    PS X (.Try body (h₀ :: hds) [] [] pos) (fun D σ H => tb (wMix X.K Wo D l) D σ H) := by
  refine ⟨fun pins s σ H D I h => ?_⟩
  have fine := I.ok
  have frs0 : X.A.frames = some (X.env :: X.outer) := by rw [fine.frames, st]
  refine wpAny_Try_except ?_
  refine wpAny_mono ((hb (wMix X.K Wo D l) (X.pn ++ pins) (fun e s₁ => wpAny (model X.prog X.w) X.A (noteFrame e X.env) (fun _ s₂ => wpAny (model X.prog X.w) X.A (setFlight e none) (fun _ s₃ =>
    wpAny (model X.prog X.w) X.A (handleBy e X.env (h₀ :: hds)) (SP X pins D) X.xe s₃) X.xe s₂) X.xe s₁) (fun u s' air => ?_) PassesOwn.looking).run [] s σ H D (I.toTry _) h) (fun f s1 back => ?_) (fun e s1 he => he)
  · obtain ⟨a, B, sI, pins', τ, G, cls, d, rfl, K', nb, up, sky, na, os, ag, w⟩ := air
    have K0 : Inv X pins τ G sI := K'.ofTry fine
    have sky0 : Sky B (X.env :: X.outer) a (Zc cls d) X.env.locals s'.heap := by rw [← st]; exact sky
    show wpAny (model X.prog X.w) X.A (noteFrame (.ref a) X.env) _ _ _
    refine Sky.land Zc.steady frs0 hf sky0 fun g3 fly up3 => ?_
    have K3 : Inv X pins τ G { s' with heap := g3 } := K0.landed nb fly.1 (up.trans up3) os ag
    obtain ⟨o3, fv3, at3, z3, d3⟩ := fly.there
    have noFr : ∀ {h : Heap} {o : Obj} {fv : Array Value}, h.FunFrames B (X.env :: X.outer) → h.get? a = some o → o.data = .fields fv → a ∉ frs (X.env :: X.outer) := fun {h o fv} ff e dd hm => by
      obtain ⟨_, o9, e9, out⟩ := ff.mem hm
      rw [e] at e9
      cases e9
      exact out _ dd
    have off := noFr fly.2.2.1 at3 d3
    have nL : a ≠ X.env.locals := fun z => off (List.mem_filterMap.mpr ⟨X.env, List.mem_cons_self, by rw [hf, z]⟩)
    have nF : a ∉ X.fs := fun hm => by
      obtain ⟨e, he, q⟩ := List.mem_filterMap.mp hm
      exact off (List.mem_filterMap.mpr ⟨e, List.mem_cons_of_mem _ he, q⟩)
    have S3 := K3.suite at3 d3 na nL nF
    have ty : PySem.W.Looks (model X.prog X.w) g3 (typeOf (.ref a)) cls := fun A Q E s k q => wpAny_typeOf_ref (k _ _ at3) (by rw [z3.1]; exact q)
    have test : ∀ {x : Str} {c : Value} {np : Pos} {Q : Value → Shared → Prop} {E : Value → Shared → Prop}, Names X x c → Q c { s' with heap := g3 } → wpAny (model X.prog X.w) (X.A.mark (some (.ref a))) (eval (.Name x np) X.env) Q E { s' with heap := g3 } := fun {x c np Q E} hc q => by
      obtain ⟨hg, nd, hm | ⟨hm, hv, hnn⟩⟩ := hc
      · exact ld_glob (X := X.suite a ((a, o3) :: (X.pn ++ pins))) S3 hg hm q nd
      · exact ld_blt (X := X.suite a ((a, o3) :: (X.pn ++ pins))) S3 hg hm hv q hnn nd
    have go : ∀ {hs' : List ExceptHandler} {l' : List Cl3}, HMix X hs' l' → wMix X.K Wo D l' cls d τ G → wpAny (model X.prog X.w) X.A (handleBy (.ref a) X.env hs') (SP X pins D) X.xe { s' with heap := g3 } := by
      intro hs' l' hk
      induction hk with
      | nil =>
        intro w
        refine wpAny_handleBy_nil ?_
        obtain ⟨k1, k2, k3, oe, fv, T, oT, ts', he, hz, hd, f1, hr⟩ := id fly
        unfold PySem.passOn
        refine wpAny_bind (wpAny_field he hd f1 ?_)
        rw [if_neg (show ¬ ((Value.ref T == Value.none) = true) from by simp)]
        have on : wpAny (model X.prog X.w) X.A (setFlight (.ref a) X.env.frame) (fun _ s4 => wpAny (model X.prog X.w) X.A (throw (.ref a) : Sem Flow) (SP X pins D) X.xe s4) X.xe { s' with heap := g3 } := by
          rw [hf]
          refine HandSPX.setFlight_upZ fly fun g4 held up4 => wpAny_throw (tk _ _ ?_)
          exact ⟨a, B, sI, pins, τ, G, cls, d, rfl, K0, nb, (up.trans up3).trans up4, .inr (.inr (by rw [st]; exact held)), na, os, ag, w⟩
        first
          | exact wpAny_bind (wpAny_pure (wpAny_bind on))
          | exact wpAny_bind on
      | @plain x c ts b₀ su np pos' hs2 l2 hc suite r ih =>
        intro w
        obtain ⟨b, m1, yes, no⟩ := w
        refine wpAny_handleBy_cons (codeAny_handlers_test ?_) (by intro q; cases q)
        refine test hc ((PySem.W.exm_one (M := model X.prog X.w) (K3.kIn) ty m1).here ?_)
        cases b with
        | true =>
          refine codeAny_handlers_suite (HandSPX.lands_againZ fly fun g4 fly4 up4 => ?_)
          have K4 : Inv X pins τ G { s' with heap := g4 } := K0.landed nb fly4.1 ((up.trans up3).trans up4) os ag
          obtain ⟨o4, fv4, at4, z4, d4⟩ := fly4.there
          refine wpAny_mono ((suite a o4 cls d (X.pn ++ pins) z4 ⟨_, d4⟩).run [] _ _ G _ (K4.suite at4 d4 na nL nF) (yes rfl a na)) (fun f s6 end6 => ?_) (fun _ _ z => False.elim z)
          cases f with
          | ret u =>
            obtain ⟨v6, τ6, G6, S6, r6, q6⟩ := end6
            exact ⟨_, _, _, S6.unsuite fine, r6, q6⟩
          | _ =>
            obtain ⟨τ6, G6, S6, q6⟩ := end6
            exact ⟨_, _, S6.unsuite fine, q6⟩
        | false => exact ih (no rfl)
      | @named x n i c ts b₀ su np pos' hs2 l2 hc hi hn suite r ih =>
        intro w
        obtain ⟨b, m1, yes, no⟩ := w
        refine wpAny_handleBy_cons (codeAny_handlers_test ?_) (by intro q; cases q)
        refine test hc ((PySem.W.exm_one (M := model X.prog X.w) (K3.kIn) ty m1).here ?_)
        cases b with
        | true =>
          refine codeAny_handlers_suite_as (HandSPX.lands_againZ fly fun g4 fly4 up4 => ?_)
          have K4 : Inv X pins τ G { s' with heap := g4 } := K0.landed nb fly4.1 ((up.trans up3).trans up4) os ag
          obtain ⟨o4, fv4, at4, z4, d4⟩ := fly4.there
          refine store_ok (X := X.suite a ((a, o4) :: (X.pn ++ pins))) (v := .ref a) (K4.suite at4 d4 na nL nF) hN hi (.inl hn) rfl (fun s5 S5 => ?_) (.inr hn)
          refine wpAny_mono ((suite a o4 cls d (X.pn ++ pins) z4 ⟨_, d4⟩).run [] s5 _ G _ S5 (yes rfl a na)) (fun f s6 end6 => ?_) (fun _ _ z => False.elim z)
          have gone : ∀ {τ6 : L2.St} {G6 : Hp} {Q : Shared → Prop}, Inv (X.suite a ((a, o4) :: (X.pn ++ pins))) [] τ6 G6 s6 → (∀ s7, Inv X pins (τ6.set i none) G6 s7 → Q s7) →
              wpAny (model X.prog X.w) X.A (do bindName X.env n .none; unbindBehindTheSuite X.env n pos') (fun _ s7 => Q s7) X.xe s6 := fun {τ6 G6 Q} S6 hq => gone_ok (S6.unsuite fine) hN hi hn hq
          cases f with
          | ret u =>
            obtain ⟨v6, τ6, G6, S6, r6, q6⟩ := end6
            exact gone S6 fun s7 J7 => ⟨_, _, _, J7, r6, q6⟩
          | _ =>
            obtain ⟨τ6, G6, S6, q6⟩ := end6
            exact gone S6 fun s7 J7 => ⟨_, _, J7, q6⟩
        | false => exact ih (no rfl)
    exact go hh w
  · cases f with
    | next =>
      obtain ⟨τ, G, K9, q⟩ := back
      exact wpAny_execs_nil ⟨τ, G, K9.ofTry fine, q⟩
    | ret u =>
      obtain ⟨v, τ, G, K9, r, q⟩ := back
      exact ⟨v, τ, G, K9.ofTry fine, r, q⟩
    | _ =>
      obtain ⟨τ, G, K9, q⟩ := back
      exact ⟨τ, G, K9.ofTry fine, q⟩
end
end Ck

/-! the program's errors with a field: what is told of their class, and what comes of making one -/
namespace Ck
open PySem PySem.Spec PyProof.Rows L2
def spIni (K : PySem.W.Frag) (newId : String) (T : List Value) (fld : Str) : Sp := fun vs H Q _ => ∃ (a C : Addr) (v : V), vs = [.ref a, v] ∧ OexB K newId T C ∧ PySem.W.findIn K (.ref C) fld = some none ∧ H a = some (exo a C none) ∧
  ∀ z, H z = none → z ≠ a → Q .non (upd (upd H z (exd z [(fld, v)])) a (exo a C (some z)))
structure ErF (P : Program) (w : World) (K : PySem.W.Frag) (mg : Str → Option Value) (base : Heap) (x fld : Str) (B newId initId : String) (T : List Value) (C : Addr) : Prop where
  fb : ExcBaseFacts B newId initId T
  o : OexB K newId T C
  xf : XfC K C
  no : PySem.W.findIn K (.ref C) fld = some none
  g : mg x = some (.ref C)
  ini : ∃ fI fd, PySem.W.findIn K (.ref C) "__init__" = some (some (.ref fI)) ∧ PySem.W.typeIn K (.ref fI) = some (.type "function") ∧ FnOk P w K mg base CX0 1 fI fd ["self", fld] (spIni K newId T fld) ∧ Binds K fd ["self", fld] []
section
variable {X : Cx} {x fld : Str} {B newId initId : String} {T : List Value} {C : Addr} {j : Nat} {e : Expr} {ta : TA} {p pos : Pos}
theorem ErF.made (Z : ErF X.prog X.w X.K X.mg X.base x fld B newId initId T C) (hr : Room j X.A) (ha : PA X [e] ta) (hj : 2 ≤ j := by decide) (hg : Gl X x := by rfl) (hdb : (x == ("__debug__" : Str)) = false := by decide)
    (he : starEach [e] X.env = (false, eval e X.env) :: starEach [] X.env := by rfl) (hpl : (backTo pos (starEach [] X.env)).any (·.1) = false := by rfl) : PMk X (.Call (.Name x p) [e] [] pos) (tMkT C (spIni X.K newId T fld) ta) := by
  obtain ⟨fI, fd, ic, ti, fn, b⟩ := Z.ini
  exact pmk_T Z.fb Z.o ic ti fn (hr.mono hj) b pass0 hg Z.g ha hdb he hpl
end
/-- what is asked of a making: for every new dict, what comes out -/
theorem ini_go {K : PySem.W.Frag} {newId : String} {T : List Value} {fld : Str} {C : Addr} {v : V} {H1 : Hp} {Q : XK} (O : OexB K newId T C) (no : PySem.W.findIn K (.ref C) fld = some none) (q : ∀ d, H1 d = none → Q (.ref C) (some d) (upd H1 d (.xd [(fld, v)]))) :
    [v].length ≤ 1000 ∧ ∀ a, H1 a = none → spIni K newId T fld (.ref a :: [v]) (upd H1 a (exo a C none))
      (fun u H2 => u = .non ∧ ∃ (d : Addr) (fs : List (Str × V)), H2 a = some (exo a C (some d)) ∧ H2 d = some (exd d fs) ∧ H1 d = none ∧ Q (.ref C) (some d) (upd (del H2 a) d (.xd fs))) (fun _ _ _ => False) := by
  refine ⟨(show 1 ≤ 1000 by decide), fun a ha => ⟨a, C, v, rfl, O, no, upd_same, fun z hz nz => ⟨rfl, z, [(fld, v)], upd_same, ?_, ?_, ?_⟩⟩⟩
  · rw [upd_ne nz, upd_same]
  · rwa [upd_ne nz] at hz
  · have hz1 : H1 z = none := by rwa [upd_ne nz] at hz
    have e : upd (del (upd (upd (upd H1 a (exo a C none)) z (exd z [(fld, v)])) a (exo a C (some z))) a) z (.xd [(fld, v)]) = upd H1 z (.xd [(fld, v)]) := by
      funext b
      by_cases bz : b = z
      · subst bz; rw [upd_same, upd_same]
      · rw [upd_ne bz, upd_ne bz]
        by_cases ba : b = a
        · subst ba; rw [del_same, ha]
        · rw [del_ne ba, upd_ne ba, upd_ne bz, upd_ne ba]
    rw [e]
    exact q z hz1
section
variable {P : Program} {w : World} {K : PySem.W.Frag} {mg : Str → Option Value} {base : Heap}
/-- self.FIELD = FIELD keeps it -/
theorem ini_ok {x fld : Str} {B newId sa ow : String} {T : List Value} {st : Stmt} {f : Addr} {fd : FuncData} (SB : StoreFacts B T sa ow) (hT : T.contains (.type "object") = true) (F : Fun K "__init__" x st f fd)
    (S : FnScope ["self", fld] ["self", fld] (defScope st))
    (hb : ∀ (cdv : Value) (A : Around) (fr : List Env) (s : Shared) (H : Hp) (E : XK), PSs (cxOf CX0 P w K mg base ["self", fld] x (defScope st) f cdv A fr s H E).nox (defBody st) (tOstT K newId T fld (tVar 0) (tVar 1))) :
    FnOk P w K mg base CX0 1 f fd ["self", fld] (spIni K newId T fld) := by
  refine F.ok S (fun vs H Q E h => ?_) (fun cdv A fr s H vs Q E hr h => ?_)
  · obtain ⟨a, C, v, rfl, _⟩ := h
    rfl
  · obtain ⟨a, C, v, rfl, O, no, ha, q⟩ := h
    exact ⟨_, hb cdv A fr s H E, v, rfl, .ref a, rfl, a, C, rfl, O, no, ha, q⟩
end
end Ck

/-! tuple(sorted(set(t))) -/
namespace Ck
open PySem PySem.Spec PyProof.Rows L2
theorem sorted_one : ∀ {as bs : List Int}, as.Pairwise (· < ·) → bs.Pairwise (· < ·) → (∀ k, k ∈ as ↔ k ∈ bs) → as = bs
  | [], [], _, _, _ => rfl
  | [], b :: bs, _, _, h => nomatch (h b).mpr List.mem_cons_self
  | a :: as, [], _, _, h => nomatch (h a).mp List.mem_cons_self
  | a :: as, b :: bs, ha, hb, h => by
    obtain ⟨a1, a2⟩ := List.pairwise_cons.mp ha
    obtain ⟨b1, b2⟩ := List.pairwise_cons.mp hb
    have e : a = b := by
      rcases List.mem_cons.mp ((h a).mp List.mem_cons_self) with e | m1
      · exact e
      rcases List.mem_cons.mp ((h b).mpr List.mem_cons_self) with e | m2
      · exact e.symm
      have := b1 a m1
      have := a1 b m2
      omega
    subst e
    refine congrArg (a :: ·) (sorted_one a2 b2 fun k => ⟨fun hk => ?_, fun hk => ?_⟩)
    · rcases List.mem_cons.mp ((h k).mp (List.mem_cons_of_mem a hk)) with e | m
      · have := a1 k hk; omega
      · exact m
    · rcases List.mem_cons.mp ((h k).mpr (List.mem_cons_of_mem a hk)) with e | m
      · have := b1 k hk; omega
      · exact m
section
variable {K : PySem.W.Frag} {w : World} {σ : L2.St} {H : Hp} {te : TE} {ns us : List Int} {D : Ends} {z : TS} {i : Nat}
theorem eu_tss (h : Etu K te σ H (ns.map V.int)) (hl : ns.length < 60) (h1 : us.Pairwise (· < ·)) (h2 : ∀ k, k ∈ us ↔ k ∈ ns) :
    Evl.EvU (tCB (rTupS K) (tCons (tCB (rSortedSet w) (tCons (tCB (rSetT K w) (tCons te tNil)) tNil)) tNil)) σ H (us.map V.int) := fun H0 e0 Q q => h H0 e0 _ fun p H1 e1 hp => ⟨p, ns, rfl, hp, hl, fun b c hb hc =>
  ⟨b, _, c, rfl, upd_same, Nat.lt_of_le_of_lt hc (Nat.lt_trans hl (by decide)), fun vs p2 hpw hmem hlen hp2 => ⟨p2, _, rfl, .inl ⟨SqL.of upd_same, fun t ht => by
    have e : vs = us := sorted_one hpw h1 fun k => ⟨fun hk => (h2 k).mpr (of_decide_eq_true ((hmem k).mp hk)), fun hk => (hmem k).mpr (decide_eq_true ((h2 k).mp hk))⟩
    subst e
    have e2 := (Evl.Ex.new (o := SetO w b (fun j => decide (j ∈ ns)) c) hb).trans (Evl.Ex.new (o := .lst (vs.map V.int)) hp2)
    exact q t _ (Evl.fresh_back (e1.trans e2) ht) (e1.trans (e2.trans (Evl.Ex.new ht))) upd_same⟩⟩⟩⟩
end
section
variable {K : PySem.W.Frag} {σ : L2.St} {H : Hp} {ta tb : TE} {t : TT} {d : PyData}
theorem ed_if {b : Bool} (h : Evl.EvT t σ H b) (h1 : b = true → Ed K ta σ H d) (h2 : b = false → Ed K tb σ H d) : Ed K (tIf t ta tb) σ H d := fun H1 e Q q => h H1 e _ fun H2 e2 => by
  cases b with
  | true => exact iteT (h1 rfl H2 (e.trans e2) Q fun v H3 e3 hd => q v H3 (e2.trans e3) hd)
  | false => exact iteF (h2 rfl H2 (e.trans e2) Q fun v H3 e3 hd => q v H3 (e2.trans e3) hd)
end
/-- what joining tells: the sizes, or their gap -/
def dueD (us : List Int) : PyData := if (gap us).isNone = true then .tuple (us.map PyData.int) else .list [.str "gap", gapD (gap us)]
end Ck

/-! all of some numbers, rising; parts of a chain -/
namespace Ck
open PySem PySem.Spec PyProof.Rows L2 Evl
def insI (k : Int) : List Int → List Int
  | [] => [k]
  | a :: r => if k < a then k :: a :: r else if k = a then a :: r else a :: insI k r
def uni (ns : List Int) : List Int := ns.foldr insI []
theorem insI_mem {k j : Int} : ∀ {ns : List Int}, j ∈ insI k ns ↔ j = k ∨ j ∈ ns
  | [] => by unfold insI; simp
  | a :: r => by
    unfold insI
    split
    · exact List.mem_cons
    · split
      · next h => subst h; simp
      · rw [List.mem_cons, insI_mem, List.mem_cons]
        constructor <;> (intro h; rcases h with h | h | h <;> simp [h])
theorem insI_pw {k : Int} : ∀ {ns : List Int}, ns.Pairwise (· < ·) → (insI k ns).Pairwise (· < ·)
  | [], _ => by unfold insI; simp
  | a :: r, h => by
    obtain ⟨h1, h2⟩ := List.pairwise_cons.mp h
    unfold insI
    split
    · next l => exact List.pairwise_cons.mpr ⟨fun b hb => by
        rcases List.mem_cons.mp hb with rfl | hb
        · exact l
        · exact Int.lt_trans l (h1 b hb), h⟩
    · split
      · exact h
      · refine List.pairwise_cons.mpr ⟨fun b hb => ?_, insI_pw h2⟩
        rcases insI_mem.mp hb with rfl | hb
        · omega
        · exact h1 b hb
theorem insI_len {k : Int} : ∀ {ns : List Int}, (insI k ns).length ≤ ns.length + 1
  | [] => Nat.le_refl _
  | a :: r => by
    unfold insI
    split
    · exact Nat.le_refl _
    · split
      · exact Nat.le_succ _
      · exact Nat.succ_le_succ insI_len
theorem uni_mem {k : Int} : ∀ {ns : List Int}, k ∈ uni ns ↔ k ∈ ns
  | [] => Iff.rfl
  | a :: r => by
    show k ∈ insI a (uni r) ↔ _
    rw [insI_mem, uni_mem, List.mem_cons]
theorem uni_pw : ∀ {ns : List Int}, (uni ns).Pairwise (· < ·)
  | [] => .nil
  | _ :: _ => insI_pw uni_pw
theorem uni_len : ∀ {ns : List Int}, (uni ns).length ≤ ns.length
  | [] => Nat.le_refl _
  | _ :: _ => Nat.le_trans insI_len (Nat.succ_le_succ uni_len)
theorem uni_one {us ns : List Int} (h1 : us.Pairwise (· < ·)) (h2 : ∀ k, k ∈ us ↔ k ∈ ns) : uni ns = us := sorted_one uni_pw h1 fun k => uni_mem.trans (h2 k).symm
theorem uni_eq {ns ms : List Int} (h : ∀ k, k ∈ ns ↔ k ∈ ms) : uni ns = uni ms := uni_one uni_pw fun k => uni_mem.trans (h k).symm
theorem uni_sub {ns L : List Int} (hL : L.Pairwise (· < ·)) (h : ∀ k, k ∈ ns → k ∈ L) : (uni ns).Sublist L := by
  have e : uni ns = L.filter fun k => decide (k ∈ ns) := uni_one (hL.sublist List.filter_sublist) fun k => by
    rw [List.mem_filter]
    exact ⟨fun h => of_decide_eq_true h.2, fun z => ⟨h k z, decide_eq_true z⟩⟩
  rw [e]
  exact List.filter_sublist
/-- less and a divisor -/
def Dv (a b : Int) : Prop := a < b ∧ b % a = 0
theorem asc_step {x y : Int} {r : List Int} (h : asc (x :: y :: r) = true) : x < y ∧ asc (y :: r) = true := by
  have h' : (decide (x < y) && asc (y :: r)) = true := h
  rw [Bool.and_eq_true] at h'
  exact ⟨of_decide_eq_true h'.1, h'.2⟩
theorem gap_step {x y : Int} {r : List Int} (h : gap (x :: y :: r) = none) : y % x = 0 ∧ gap (y :: r) = none := by
  have h' : ((x, y) :: adj (fun x y => (x, y)) (y :: r)).find? (fun p => !decide (p.2 % p.1 = 0)) = none := h
  rw [List.find?_cons] at h'
  cases z : decide (y % x = 0) with
  | true =>
    rw [z] at h'
    exact ⟨of_decide_eq_true z, h'⟩
  | false =>
    rw [z] at h'
    cases h'
theorem chain_pw : ∀ {ns : List Int}, asc ns = true → gap ns = none → (∀ n ∈ ns, 0 < n) → ns.Pairwise Dv
  | [], _, _, _ => .nil
  | [_], _, _, _ => List.pairwise_singleton _ _
  | x :: y :: r, h1, h2, h3 => by
    obtain ⟨a1, a2⟩ := asc_step h1
    obtain ⟨g1, g2⟩ := gap_step h2
    have ih := chain_pw a2 g2 fun n hn => h3 n (List.mem_cons_of_mem x hn)
    refine List.pairwise_cons.mpr ⟨fun b hb => ?_, ih⟩
    rcases List.mem_cons.mp hb with rfl | hb
    · exact ⟨a1, g1⟩
    · obtain ⟨l, d⟩ := (List.pairwise_cons.mp ih).1 b hb
      refine ⟨Int.lt_trans a1 l, Int.emod_eq_zero_of_dvd (Int.dvd_trans (Int.dvd_of_emod_eq_zero g1) (Int.dvd_of_emod_eq_zero d))⟩
theorem pw_gap : ∀ {ns : List Int}, ns.Pairwise Dv → gap ns = none
  | [], _ => rfl
  | [_], _ => rfl
  | x :: y :: r, h => by
    obtain ⟨h1, h2⟩ := List.pairwise_cons.mp h
    have d := (h1 y List.mem_cons_self).2
    show ((x, y) :: adj (fun x y => (x, y)) (y :: r)).find? (fun p => !decide (p.2 % p.1 = 0)) = none
    rw [List.find?_cons, decide_eq_true d]
    exact pw_gap h2
theorem pw_asc : ∀ {ns : List Int}, ns.Pairwise (· < ·) → asc ns = true
  | [], _ => rfl
  | [_], _ => rfl
  | x :: y :: r, h => by
    obtain ⟨h1, h2⟩ := List.pairwise_cons.mp h
    show (decide (x < y) && asc (y :: r)) = true
    rw [decide_eq_true (h1 y List.mem_cons_self), pw_asc h2]
    rfl
theorem asc_pw : ∀ {ns : List Int}, asc ns = true → ns.Pairwise (· < ·)
  | [], _ => .nil
  | [_], _ => List.pairwise_singleton _ _
  | x :: y :: r, h => by
    obtain ⟨a1, a2⟩ := asc_step h
    have ih := asc_pw a2
    refine List.pairwise_cons.mpr ⟨fun b hb => ?_, ih⟩
    rcases List.mem_cons.mp hb with rfl | hb
    · exact a1
    · exact Int.lt_trans a1 ((List.pairwise_cons.mp ih).1 b hb)
/-- sizes up to a bound -/
theorem sizes_of {ns : List Int} (h0 : ns ≠ []) (h1 : ns.length ≤ 12) (h2 : ∀ n ∈ ns, 0 < n ∧ n.natAbs < 10 ^ 200) (h3 : ns.Pairwise (· < ·)) : sizesB (ns.map V.int) = true := by
  unfold sizesB
  rw [intsOf_map, List.length_map, pw_asc h3, decide_eq_true h1, decide_eq_true (show 1 ≤ ns.length from List.length_pos_iff.mpr h0)]
  have : (ns.map V.int).all sizV = true := by
    rw [List.all_eq_true]
    intro v hv
    obtain ⟨n, hn, rfl⟩ := List.mem_map.mp hv
    have := h2 n hn
    show (intB n && decide (1 ≤ n)) = true
    rw [decide_eq_true (show 1 ≤ n by omega), Bool.and_true]
    exact decide_eq_true this.2
  rw [this]
  rfl
/-- a chain, as a list -/
structure IsC (ns : List Int) : Prop where
  ne : ns ≠ []
  le : ns.length ≤ 12
  sz : ∀ n ∈ ns, 0 < n ∧ n.natAbs < 10 ^ 200
  pw : ns.Pairwise Dv
theorem IsC.lt {ns : List Int} (h : IsC ns) : ns.Pairwise (· < ·) := h.pw.imp fun h => h.1
theorem IsC.b {ns : List Int} (h : IsC ns) : chainB (ns.map V.int) = true := by
  unfold chainB
  rw [sizes_of h.ne h.le h.sz h.lt, intsOf_map, pw_gap h.pw]
  rfl
theorem IsC.of {ns : List Int} (h : chainB (ns.map V.int) = true) : IsC ns := by
  obtain ⟨s, g⟩ := chain_ints h
  obtain ⟨a, b, c, d⟩ := sizes_ints s
  exact ⟨a, b, c, chain_pw d g fun n hn => (c n hn).1⟩
theorem IsC.sub {ns L : List Int} (h : IsC L) (s : ns.Sublist L) (ne : ns ≠ []) : IsC ns := ⟨ne, Nat.le_trans s.length_le h.le, fun n hn => h.sz n (s.subset hn), h.pw.sublist s⟩
theorem uni_ne {ns : List Int} (h : ns ≠ []) : uni ns ≠ [] := fun z => by
  cases ns with
  | nil => exact h rfl
  | cons a r => have := uni_mem.mpr (List.mem_cons_self (a := a) (l := r)); rw [z] at this; cases this
theorem IsC.uni {ns L : List Int} (h : IsC L) (s : ∀ k, k ∈ ns → k ∈ L) (ne : ns ≠ []) : IsC (uni ns) := h.sub (uni_sub h.lt s) (uni_ne ne)
theorem gap_mem : ∀ {ns : List Int} {g : Int × Int}, gap ns = some g → g.1 ∈ ns ∧ g.2 ∈ ns
  | [], g, h => by cases h
  | [_], g, h => by cases h
  | x :: y :: r, g, h => by
    have h' : ((x, y) :: adj (fun x y => (x, y)) (y :: r)).find? (fun p => !decide (p.2 % p.1 = 0)) = some g := h
    rw [List.find?_cons] at h'
    cases z : decide (y % x = 0) with
    | true =>
      rw [z] at h'
      have ih := gap_mem (ns := y :: r) (show gap (y :: r) = some g from h')
      exact ⟨List.mem_cons_of_mem x ih.1, List.mem_cons_of_mem x ih.2⟩
    | false =>
      rw [z] at h'
      obtain rfl := Option.some.inj h'
      exact ⟨List.mem_cons_self, List.mem_cons_of_mem x List.mem_cons_self⟩
/-- what joining tells, too many sizes too -/
def dueM (us : List Int) : PyData := if 12 < us.length then .list [.str "many", .int 12] else dueD us
theorem shB_str {s : Str} {n : Nat} (h : PyData.showable (.str s) = true) (hn : (PyData.shown (.str s)).length ≤ n) : ShB n 0 (.str s) := ⟨h, rfl, Nat.le_refl _, hn⟩
theorem due_cases (us : List Int) : dueM us = .list [.str "many", .int 12] ∨ (us.length ≤ 12 ∧ dueM us = .tuple (us.map PyData.int)) ∨ ∃ a b, a ∈ us ∧ b ∈ us ∧ dueM us = .list [.str "gap", .tuple [.int a, .int b]] := by
  unfold dueM
  by_cases h : 12 < us.length
  · rw [if_pos h]; exact .inl rfl
  · rw [if_neg h]
    unfold dueD
    cases g : gap us with
    | none => rw [if_pos (show (none : Option (Int × Int)).isNone = true from rfl)]; exact .inr (.inl ⟨by omega, rfl⟩)
    | some p =>
      obtain ⟨a, b⟩ := gap_mem g
      rw [if_neg (show ¬ (some p).isNone = true from Bool.false_ne_true)]
      exact .inr (.inr ⟨p.1, p.2, a, b, rfl⟩)
theorem due_sh {us : List Int} (h : ∀ n ∈ us, 0 < n ∧ n.natAbs < 10 ^ 200) : Sh (dueM us) := by
  have si : ∀ n ∈ us, ShB 200 0 (.int n) := fun n hn => shB_int (by have := h n hn; omega) (h n hn).2
  rcases due_cases us with e | ⟨hl, e⟩ | ⟨a, b, ha, hb, e⟩ <;> rw [e]
  · exact ⟨by decide +kernel, by decide +kernel, by decide +kernel, by rw [sizeLine_eq]; decide +kernel⟩
  · refine (shB_tuple (B := 200) (e := 0) fun d hd => ?_).ok (by decide) (by rw [List.length_map]; omega)
    obtain ⟨n, hn, rfl⟩ := List.mem_map.mp hd
    exact si n hn
  · refine (shB_list (B := 500) (e := 1) fun d hd => ?_).ok (by decide) (show 2 * (500 + 2) + 3 ≤ 1000000 by decide)
    rcases List.mem_cons.mp hd with rfl | hd
    · exact (shB_str (n := 500) (by decide +kernel) (by decide +kernel)).up (by decide) (by decide)
    · obtain rfl := List.mem_singleton.mp hd
      refine (shB_tuple (B := 200) (e := 0) fun d hd => ?_).up (by decide) (show 2 * (200 + 2) + 3 ≤ 500 by decide)
      rcases List.mem_cons.mp hd with rfl | hd
      · exact si a ha
      · obtain rfl := List.mem_singleton.mp hd
        exact si b hb
theorem due_shaped (us : List Int) : SeqAt.shaped (dueM us) = true := by
  rcases due_cases us with e | ⟨hl, e⟩ | ⟨a, b, ha, hb, e⟩ <;> rw [e]
  · decide +kernel
  · obtain ⟨h1, h2⟩ := flat_ok us
    unfold SeqAt.shaped
    simp only [PyData.canLay0, PyData.depth, h1, h2]
    rfl
  · have g : PyData.strOk (Str.ofString "gap") = true := by decide +kernel
    unfold SeqAt.shaped
    simp only [PyData.canLay0, PyData.canLayAll0, PyData.depth, PyData.depthAll, g]
    rfl
theorem due_eqv (us : List Int) : PyData.eqv (dueM us) (dueM us) = true := by
  rcases due_cases us with e | ⟨hl, e⟩ | ⟨a, b, ha, hb, e⟩ <;> rw [e]
  · decide +kernel
  · simp only [PyData.eqv, eqv_ints]
  · simp only [PyData.eqv, PyData.eqvAll, beq_self_eq_true, Bool.and_self]
section
variable {K : PySem.W.Frag} {w : World} {σ : L2.St} {H : Hp} {ta tb te tl : TE} {tr : TA} {t : TT} {D : Ends} {body z : TS} {ns us : List Int} {xs : List V} {Pr : V → Hp → Prop} {S : L2.St → Prop} {n j : Nat}
/-- a walk over a written list, all that stood stands -/
theorem s_forEs (L : Lasts Pr) (h : EsA Pr tr σ H n) (hn : n ≤ 40000) (hσ : S σ)
    (step : ∀ x σ' H1 H', Evl.Ex H H1 → Evl.Ex H1 H' → S σ' → Pr x H' → body { D with nx := fun σ2 H2 => Evl.Ex H1 H2 ∧ S σ2, ct := fun σ2 H2 => Evl.Ex H1 H2 ∧ S σ2, bk := D.nx } (σ'.set j (some x)) H')
    (done : ∀ σ' H', Evl.Ex H H' → S σ' → D.nx σ' H') : tFor (iList K (tLst tr)) (gName j) body D σ H := by
  refine h H (Evl.Ex.refl H) _ fun xs H1 e0 hl ha => ⟨sz_of (by omega), fun p hp => ⟨p, rfl, ⟨xs, SqL.of upd_same⟩, ?_⟩⟩
  have hx : upd H1 p (.lst xs) p = some (.lst xs) := upd_same
  have e1 : Evl.Ex H (upd H1 p (.lst xs)) := e0.trans (Evl.Ex.new hp)
  have ha2 : ∀ x ∈ xs, Pr x (upd H1 p (.lst xs)) := fun x hm => L _ _ _ (Evl.Ex.new hp) (ha x hm)
  generalize upd H1 p (.lst xs) = H2 at hx e1 ha2 ⊢
  refine for_it walk_list (fun i σ' H' => Evl.Ex H2 H' ∧ S σ') ⟨Evl.Ex.refl H2, hσ⟩ (fun i σ' H' _ q => Evl.ex_l q.1 (SqL.of hx)) ?_ ?_
  · rintro i x σ' H3 H' hi ⟨e2, s2⟩ ⟨e3, hxi⟩
    rw [e3]
    exact step x σ' H2 H3 e1 e2 s2 (L _ _ _ e2 (ha2 x (List.mem_of_getElem? hxi)))
  · rintro σ' H' ⟨e2, s2⟩
    exact done σ' H' (e1.trans e2) s2
theorem q_forEs (L : Lasts Pr) (h : EsA Pr tr σ H n) (hn : n ≤ 40000) (hσ : S σ)
    (step : ∀ x σ' H1 H', Evl.Ex H H1 → Evl.Ex H1 H' → S σ' → Pr x H' → body { D with nx := fun σ2 H2 => Evl.Ex H1 H2 ∧ S σ2, ct := fun σ2 H2 => Evl.Ex H1 H2 ∧ S σ2, bk := z D } (σ'.set j (some x)) H')
    (done : ∀ σ' H', Evl.Ex H H' → S σ' → z D σ' H') : tSeq (tFor (iList K (tLst tr)) (gName j) body) z D σ H := s_forEs (D := { D with nx := z D }) L h hn hσ step done
/-- tuple(sorted(set([..]))) -/
theorem eu_tsl (h : Evl.EvL tl σ H (ns.map V.int)) (hl : ns.length < 60) (h1 : us.Pairwise (· < ·)) (h2 : ∀ k, k ∈ us ↔ k ∈ ns) :
    Evl.EvU (tCB (rTupS K) (tCons (tCB (rSortedSet w) (tCons (tCB (rSetL K w) (tCons tl tNil)) tNil)) tNil)) σ H (us.map V.int) := fun H0 e0 Q q => h H0 e0 _ fun p H1 _ e1 hp => ⟨p, ns, rfl, SqL.of hp, hl, fun b c hb hc =>
  ⟨b, _, c, rfl, upd_same, Nat.lt_of_le_of_lt hc (Nat.lt_trans hl (by decide)), fun vs p2 hpw hmem hlen hp2 => ⟨p2, _, rfl, .inl ⟨SqL.of upd_same, fun t ht => by
    have e : vs = us := sorted_one hpw h1 fun k => ⟨fun hk => (h2 k).mpr (of_decide_eq_true ((hmem k).mp hk)), fun hk => (hmem k).mpr (decide_eq_true ((h2 k).mp hk))⟩
    subst e
    have e2 := (Evl.Ex.new (o := SetO w b (fun j => decide (j ∈ ns)) c) hb).trans (Evl.Ex.new (o := .lst (vs.map V.int)) hp2)
    exact q t _ (Evl.fresh_back (e1.trans e2) ht) (e1.trans (e2.trans (Evl.Ex.new ht))) upd_same⟩⟩⟩⟩
theorem sq_lstD {i : Nat} {ds : List PyData} (h : EdA K tr σ H ds) (hl : ds.length ≤ 100000) (k : ∀ vs l H3, Evl.Ex H H3 → H3 l = none → DpAll K H3 vs ds → z D (σ.set i (some (.ref l))) (upd H3 l (.lst vs))) : tSeq (tAsg (tLst tr) (gName i)) z D σ H := h H (Evl.Ex.refl H) _ fun vs H3 e3 hd =>
  ⟨sz_of (by rw [dpa_len hd]; exact hl), fun l hl => k vs l H3 e3 hl hd⟩
theorem q_appD {l : Addr} {d : PyData} (hl : H l = some (.lst xs)) (ha : Evl.Ev ta σ H (.ref l)) (h : Ed K te σ H d) (hz : xs.length < 100000) (k : ∀ v H1, Evl.Ex H H1 → Dp K H1 v d → z D σ (upd H1 l (.lst (xs ++ [v])))) :
    tSeq (tDrop (tBM K "list" rAppend ta (tCons te tNil))) z D σ H := ha H (Evl.Ex.refl H) _ fun H1 e1 =>
  ⟨Or.inl ⟨rfl, xs, sq_of (e1 l _ hl)⟩, h H1 e1 _ fun v H2 e2 hd => ⟨l, xs, v, rfl, rfl, e2 l _ (e1 l _ hl), sz_lt hz, k v H2 (e1.trans e2) hd⟩⟩
theorem etu_of (h : Evl.EvU te σ H xs) : Etu K te σ H xs := fun H1 e Q q => h H1 e _ fun p H2 _ e2 hp => q p H2 e2 (SqT.of hp)
theorem ev_test {b : Bool} {Q : VK} (h : Evl.EvT t σ H b) (k1 : b = true → ∀ H1, Evl.Ex H H1 → ta σ H1 Q) (k2 : b = false → ∀ H1, Evl.Ex H H1 → tb σ H1 Q) : tIf t ta tb σ H Q := h H (Evl.Ex.refl H) _ fun H1 e => by
  cases b with
  | true => exact iteT (k1 rfl H1 e)
  | false => exact iteF (k2 rfl H1 e)
end
/-- one class of exceptions against another -/
theorem exm_of {K : PySem.W.Frag} {R S : Addr} {b : Bool} (h1 : PySem.W.subIn K (.ref S) (.type "BaseException") = some true) (h2 : PySem.W.isClsIn K S = true) (h3 : PySem.W.typeIn K (.ref S) = some (.type "type")) (h4 : PySem.W.subIn K (.ref R) (.ref S) = some b) : PySem.W.exmOne K (.ref R) (.ref S) = some b := by
  have c : (PySem.W.clsIn K S).isSome = true := h2
  have z : ((PySem.W.clsIn K S).isSome && PySem.W.typeIn K (.ref S) == some (.type "type")) = true := by
    rw [c, h3] <;> rfl
  unfold PySem.W.exmOne
  rw [h1]
  show (if ((PySem.W.clsIn K S).isSome && PySem.W.typeIn K (.ref S) == some (.type "type")) = true then PySem.W.subIn K (.ref R) (.ref S) else none) = some b
  rw [if_pos z, h4]
end Ck

/-! min and max with default=, of a list of ints -/
namespace PySem
namespace CkM
open PySem PyProof.Rows
abbrev lsO (xs : Array Value) (c : Nat) : Obj := { cls := .type "list", dict := none, data := .seq xs c, slots := #[] }
/-- all that stood stands, but what is written -/
def KeepX (wr : List Addr) (S : Addr) (h h' : Heap) : Prop := ∀ b o, b ∉ wr → b ≠ S → h.get? b = some o → h'.get? b = some o
section
variable {prog : Program} {w : World} {A : Around} {R : Result → Shared → Prop} {I : Addr} {fp wr : List Addr} {n : Nat} {P : Nat → Value → Prop} {St : Nat → Heap → Prop} -- own
theorem min_again {d : Value} (W : Walks prog w A.in1 I fp wr n P St) (bt : Nat → Nat → Bool) (hcmp : CmpOf prog w A.in1 .Lt P bt) (S : Addr) (hSf : S ∉ fp) : -- own
    ∀ (k j : Nat) (s : Shared) (vb : Value) (c : Nat), k + (j + 1) = n → St (j + 1) s.heap → P (argBest bt j) vb → s.heap.get? S = some (lsO #[vb, vb] c) → -- own
    (∀ v h' tk, P (argBest bt (n - 1)) v → KeepX wr S s.heap h' → R (.ok (.ret v)) ⟨h', s.gens, s.drawn, tk, s.os⟩) → codeAny (model prog w) A (.builtin "min.loop" ⟨[.ref I, .none, .ref S], [(Str.ofString "default", d)]⟩) R s := by -- own
  have hSw : S ∉ wr := fun h => hSf (W.sub _ h) -- own
  have nm : (toString "min" ++ toString ".loop" : String) = "min.loop" := by decide -- own
  intro k -- own
  induction k with
  | zero =>
    intro j s vb c hk hst hPb hS hR -- own
    have hin : j + 1 = n := by omega -- own
    refine codeAny_builtin PySem.F.entry_min_loop ?_ -- own
    rw [Around.under_plainId PySem.F.plain_min_loop _] -- own
    show wpAny _ A.in1 (seqItems? (.ref S) >>= _) _ _ s -- own
    refine wpAny_bind (wpAny_seqItems hS rfl ?_) -- own
    show wpAny _ A.in1 (tryCatch (pyNext (.ref I)) _ >>= _) _ _ s -- own
    refine wpAny_bind (wpAny_tryCatch (W.done s _ _ (hin ▸ hst) fun h' tk kp => ?_)) -- own
    have hS' := kp S _ hSw hS -- own
    show wpAny _ A.in1 (updateSeq S (fun _ => #[]) >>= _) _ _ _ -- own
    refine wpAny_bind (wpAny_updateSeq hS' rfl (wpAny_bind (wpAny_letGo (wpAny_pure ?_)))) -- own
    exact hR vb _ tk (by rw [← hin]; exact hPb) fun b o b1 b2 e => (Heap.get?_update_other _ _ (Ne.symm b2)).trans (kp b o b1 e) -- own
  | succ k ih =>
    intro j s vb c hk hst hPb hS hR -- own
    have hlt : j + 1 < n := by omega -- own
    refine codeAny_builtin PySem.F.entry_min_loop ?_ -- own
    rw [Around.under_plainId PySem.F.plain_min_loop _] -- own
    show wpAny _ A.in1 (seqItems? (.ref S) >>= _) _ _ s -- own
    refine wpAny_bind (wpAny_seqItems hS rfl ?_) -- own
    show wpAny _ A.in1 (tryCatch (pyNext (.ref I)) _ >>= _) _ _ s -- own
    refine wpAny_bind (wpAny_tryCatch (W.item (j + 1) s _ _ hlt hst fun v h' tk hP hst' kp => ?_)) -- own
    have hS' := kp S _ hSw hS -- own
    show wpAny _ A.in1 (tryCatch (holding [v, v] (richCompare .Lt v vb >>= _)) _ >>= _) _ _ _ -- own
    refine wpAny_bind (wpAny_tryCatch (wpAny_holding (wpAny_bind (hcmp (j + 1) (argBest bt j) v vb _ _ _ hP hPb (wpAny_bind (wpAny_holding (wpAny_truthy_bool (wpAny_bind (wpAny_letGo (wpAny_pure ?_)))))))))) -- own
    cases hb : bt (j + 1) (argBest bt j) with
    | true =>
      simp only [if_true] -- own
      refine wpAny_bind (wpAny_updateSeq hS' rfl (wpAny_bind (wpAny_letGo ?_))) -- own
      rw [nm] -- own
      refine wpAny_pure ⟨plainId_quiet PySem.F.plain_min_loop _, ih (j + 1) _ v _ (by omega) (W.frame _ _ _ hst' fun b hbf o e => (Heap.get?_update_other _ _ (fun h : S = b => hSf (by rw [h]; exact hbf))).trans e) (by simp only [argBest, hb, if_true]; exact hP) (Heap.get?_update_self _ hS' rfl) fun v' h2 t2 hP2 kp2 => ?_⟩ -- own
      exact hR v' h2 t2 hP2 fun b o b1 b2 e => kp2 b o b1 b2 ((Heap.get?_update_other _ _ (Ne.symm b2)).trans (kp b o b1 e)) -- own
    | false =>
      simp only [Bool.false_eq_true, if_false] -- own
      refine wpAny_bind (wpAny_letGo ?_) -- own
      rw [nm] -- own
      refine wpAny_pure ⟨plainId_quiet PySem.F.plain_min_loop _, ih (j + 1) _ vb c (by omega) hst' (by simp only [argBest, hb, Bool.false_eq_true, if_false]; exact hPb) hS' fun v' h2 t2 hP2 kp2 => ?_⟩ -- own
      exact hR v' h2 t2 hP2 fun b o b1 b2 e => kp2 b o b1 b2 (kp b o b1 e) -- own
theorem min_begin {d : Value} (W : Walks prog w A.in1 I fp wr n P St) (bt : Nat → Nat → Bool) (hcmp : CmpOf prog w A.in1 .Lt P bt) (S : Addr) (hSf : S ∉ fp) {s : Shared} {c : Nat} (hst : St 0 s.heap) (hS : s.heap.get? S = some (lsO #[] c)) -- own
    (h0 : n = 0 → ∀ h' tk, KeepX wr S s.heap h' → R (.ok (.ret d)) ⟨h', s.gens, s.drawn, tk, s.os⟩) -- own
    (hR : 0 < n → ∀ v h' tk, P (argBest bt (n - 1)) v → KeepX wr S s.heap h' → R (.ok (.ret v)) ⟨h', s.gens, s.drawn, tk, s.os⟩) : codeAny (model prog w) A (.builtin "min.loop" ⟨[.ref I, .none, .ref S], [(Str.ofString "default", d)]⟩) R s := by -- own
  have hSw : S ∉ wr := fun h => hSf (W.sub _ h) -- own
  have nm : (toString "min" ++ toString ".loop" : String) = "min.loop" := by decide -- own
  refine codeAny_builtin PySem.F.entry_min_loop ?_ -- own
  rw [Around.under_plainId PySem.F.plain_min_loop _] -- own
  show wpAny _ A.in1 (seqItems? (.ref S) >>= _) _ _ s -- own
  refine wpAny_bind (wpAny_seqItems hS rfl ?_) -- own
  show wpAny _ A.in1 (tryCatch (pyNext (.ref I)) _ >>= _) _ _ s -- own
  by_cases hn : 0 < n
  · refine wpAny_bind (wpAny_tryCatch (W.item 0 s _ _ hn hst fun v h' tk hP hst' kp => ?_)) -- own
    have hS' := kp S _ hSw hS -- own
    show wpAny _ A.in1 (updateSeq S (fun _ => #[v, v]) >>= _) _ _ _ -- own
    refine wpAny_bind (wpAny_updateSeq hS' rfl ?_) -- own
    rw [nm] -- own
    refine wpAny_pure ⟨plainId_quiet PySem.F.plain_min_loop _, min_again W bt hcmp S hSf (n - 1) 0 _ v _ (by omega) (W.frame _ _ _ hst' fun b hbf o e => (Heap.get?_update_other _ _ (fun h : S = b => hSf (by rw [h]; exact hbf))).trans e) hP (Heap.get?_update_self _ hS' rfl) fun v' h2 t2 hP2 kp2 => ?_⟩ -- own
    exact hR hn v' h2 t2 hP2 fun b o b1 b2 e => kp2 b o b1 b2 ((Heap.get?_update_other _ _ (Ne.symm b2)).trans (kp b o b1 e)) -- own
  · have z : n = 0 := by omega -- own
    refine wpAny_bind (wpAny_tryCatch (W.done s _ _ (z ▸ hst) fun h' tk kp => ?_)) -- own
    show wpAny _ A.in1 (rule _ >>= _) _ _ _ -- own
    exact wpAny_bind (wpAny_rule (wpAny_pure (h0 z h' tk fun b o b1 _ e => kp b o b1 e))) -- own
theorem max_again {d : Value} (W : Walks prog w A.in1 I fp wr n P St) (bt : Nat → Nat → Bool) (hcmp : CmpOf prog w A.in1 .Gt P bt) (S : Addr) (hSf : S ∉ fp) : -- own
    ∀ (k j : Nat) (s : Shared) (vb : Value) (c : Nat), k + (j + 1) = n → St (j + 1) s.heap → P (argBest bt j) vb → s.heap.get? S = some (lsO #[vb, vb] c) → -- own
    (∀ v h' tk, P (argBest bt (n - 1)) v → KeepX wr S s.heap h' → R (.ok (.ret v)) ⟨h', s.gens, s.drawn, tk, s.os⟩) → codeAny (model prog w) A (.builtin "max.loop" ⟨[.ref I, .none, .ref S], [(Str.ofString "default", d)]⟩) R s := by -- own
  have hSw : S ∉ wr := fun h => hSf (W.sub _ h) -- own
  have nm : (toString "max" ++ toString ".loop" : String) = "max.loop" := by decide -- own
  intro k -- own
  induction k with
  | zero =>
    intro j s vb c hk hst hPb hS hR -- own
    have hin : j + 1 = n := by omega -- own
    refine codeAny_builtin PySem.F.entry_max_loop ?_ -- own
    rw [Around.under_plainId PySem.F.plain_max_loop _] -- own
    show wpAny _ A.in1 (seqItems? (.ref S) >>= _) _ _ s -- own
    refine wpAny_bind (wpAny_seqItems hS rfl ?_) -- own
    show wpAny _ A.in1 (tryCatch (pyNext (.ref I)) _ >>= _) _ _ s -- own
    refine wpAny_bind (wpAny_tryCatch (W.done s _ _ (hin ▸ hst) fun h' tk kp => ?_)) -- own
    have hS' := kp S _ hSw hS -- own
    show wpAny _ A.in1 (updateSeq S (fun _ => #[]) >>= _) _ _ _ -- own
    refine wpAny_bind (wpAny_updateSeq hS' rfl (wpAny_bind (wpAny_letGo (wpAny_pure ?_)))) -- own
    exact hR vb _ tk (by rw [← hin]; exact hPb) fun b o b1 b2 e => (Heap.get?_update_other _ _ (Ne.symm b2)).trans (kp b o b1 e) -- own
  | succ k ih =>
    intro j s vb c hk hst hPb hS hR -- own
    have hlt : j + 1 < n := by omega -- own
    refine codeAny_builtin PySem.F.entry_max_loop ?_ -- own
    rw [Around.under_plainId PySem.F.plain_max_loop _] -- own
    show wpAny _ A.in1 (seqItems? (.ref S) >>= _) _ _ s -- own
    refine wpAny_bind (wpAny_seqItems hS rfl ?_) -- own
    show wpAny _ A.in1 (tryCatch (pyNext (.ref I)) _ >>= _) _ _ s -- own
    refine wpAny_bind (wpAny_tryCatch (W.item (j + 1) s _ _ hlt hst fun v h' tk hP hst' kp => ?_)) -- own
    have hS' := kp S _ hSw hS -- own
    show wpAny _ A.in1 (tryCatch (holding [v, v] (richCompare .Gt v vb >>= _)) _ >>= _) _ _ _ -- own
    refine wpAny_bind (wpAny_tryCatch (wpAny_holding (wpAny_bind (hcmp (j + 1) (argBest bt j) v vb _ _ _ hP hPb (wpAny_bind (wpAny_holding (wpAny_truthy_bool (wpAny_bind (wpAny_letGo (wpAny_pure ?_)))))))))) -- own
    cases hb : bt (j + 1) (argBest bt j) with
    | true =>
      simp only [if_true] -- own
      refine wpAny_bind (wpAny_updateSeq hS' rfl (wpAny_bind (wpAny_letGo ?_))) -- own
      rw [nm] -- own
      refine wpAny_pure ⟨plainId_quiet PySem.F.plain_max_loop _, ih (j + 1) _ v _ (by omega) (W.frame _ _ _ hst' fun b hbf o e => (Heap.get?_update_other _ _ (fun h : S = b => hSf (by rw [h]; exact hbf))).trans e) (by simp only [argBest, hb, if_true]; exact hP) (Heap.get?_update_self _ hS' rfl) fun v' h2 t2 hP2 kp2 => ?_⟩ -- own
      exact hR v' h2 t2 hP2 fun b o b1 b2 e => kp2 b o b1 b2 ((Heap.get?_update_other _ _ (Ne.symm b2)).trans (kp b o b1 e)) -- own
    | false =>
      simp only [Bool.false_eq_true, if_false] -- own
      refine wpAny_bind (wpAny_letGo ?_) -- own
      rw [nm] -- own
      refine wpAny_pure ⟨plainId_quiet PySem.F.plain_max_loop _, ih (j + 1) _ vb c (by omega) hst' (by simp only [argBest, hb, Bool.false_eq_true, if_false]; exact hPb) hS' fun v' h2 t2 hP2 kp2 => ?_⟩ -- own
      exact hR v' h2 t2 hP2 fun b o b1 b2 e => kp2 b o b1 b2 (kp b o b1 e) -- own
theorem max_begin {d : Value} (W : Walks prog w A.in1 I fp wr n P St) (bt : Nat → Nat → Bool) (hcmp : CmpOf prog w A.in1 .Gt P bt) (S : Addr) (hSf : S ∉ fp) {s : Shared} {c : Nat} (hst : St 0 s.heap) (hS : s.heap.get? S = some (lsO #[] c)) -- own
    (h0 : n = 0 → ∀ h' tk, KeepX wr S s.heap h' → R (.ok (.ret d)) ⟨h', s.gens, s.drawn, tk, s.os⟩) -- own
    (hR : 0 < n → ∀ v h' tk, P (argBest bt (n - 1)) v → KeepX wr S s.heap h' → R (.ok (.ret v)) ⟨h', s.gens, s.drawn, tk, s.os⟩) : codeAny (model prog w) A (.builtin "max.loop" ⟨[.ref I, .none, .ref S], [(Str.ofString "default", d)]⟩) R s := by -- own
  have hSw : S ∉ wr := fun h => hSf (W.sub _ h) -- own
  have nm : (toString "max" ++ toString ".loop" : String) = "max.loop" := by decide -- own
  refine codeAny_builtin PySem.F.entry_max_loop ?_ -- own
  rw [Around.under_plainId PySem.F.plain_max_loop _] -- own
  show wpAny _ A.in1 (seqItems? (.ref S) >>= _) _ _ s -- own
  refine wpAny_bind (wpAny_seqItems hS rfl ?_) -- own
  show wpAny _ A.in1 (tryCatch (pyNext (.ref I)) _ >>= _) _ _ s -- own
  by_cases hn : 0 < n
  · refine wpAny_bind (wpAny_tryCatch (W.item 0 s _ _ hn hst fun v h' tk hP hst' kp => ?_)) -- own
    have hS' := kp S _ hSw hS -- own
    show wpAny _ A.in1 (updateSeq S (fun _ => #[v, v]) >>= _) _ _ _ -- own
    refine wpAny_bind (wpAny_updateSeq hS' rfl ?_) -- own
    rw [nm] -- own
    refine wpAny_pure ⟨plainId_quiet PySem.F.plain_max_loop _, max_again W bt hcmp S hSf (n - 1) 0 _ v _ (by omega) (W.frame _ _ _ hst' fun b hbf o e => (Heap.get?_update_other _ _ (fun h : S = b => hSf (by rw [h]; exact hbf))).trans e) hP (Heap.get?_update_self _ hS' rfl) fun v' h2 t2 hP2 kp2 => ?_⟩ -- own
    exact hR hn v' h2 t2 hP2 fun b o b1 b2 e => kp2 b o b1 b2 ((Heap.get?_update_other _ _ (Ne.symm b2)).trans (kp b o b1 e)) -- own
  · have z : n = 0 := by omega -- own
    refine wpAny_bind (wpAny_tryCatch (W.done s _ _ (z ▸ hst) fun h' tk kp => ?_)) -- own
    show wpAny _ A.in1 (rule _ >>= _) _ _ _ -- own
    exact wpAny_bind (wpAny_rule (wpAny_pure (h0 z h' tk fun b o b1 _ e => kp b o b1 e))) -- own
end
section
variable {prog : Program} {w : World} {A : Around} {E : Value → Shared → Prop} {s : Shared} -- own
theorem call_treeK {id : String} {b : Builtin} {args : List Value} {kw : List (Str × Value)} {Q : Value → Shared → Prop} (hk : builtinKind id = none) (hp : plainId id = true) (hb : entryFor table id = some b) (ha : argsOk id ⟨args, kw⟩) -- own
    (hc : wpAny (model prog w) A.in1 (b ⟨args, kw⟩) (fun fin s' => match fin with
      | .done f => (match (Except.ok f : Result) with | .ok (.ret v) => Q v s' | .ok _ => False | .error e => E e s') -- own
      | .again c' => c'.quiet = true ∧ codeAny (model prog w) A c' (fun r s' => match r with | .ok (.ret v) => Q v s' | .ok _ => False | .error e => E e s') s') E s) : wpAny (model prog w) A (call (.builtin id) args kw) Q E s := by -- own
  refine wpAny_call (codeAny_call_builtin hp hb ?_) -- own
  simp only [checkBuiltinCall, hk] -- own
  cases hsig : Manifest.signature? id with
  | none => exact wpAny_pure hc -- own
  | some sig =>
    have ha' : Bind.checkArgs id sig ⟨args, kw⟩ = pure () := by simpa only [argsOk, hsig] using ha -- own
    simp only [ha'] -- own
    exact wpAny_pure hc -- own
theorem args_minK (a d : Value) : argsOk "min" ⟨[a], [(Str.ofString "default", d)]⟩ := by unfold argsOk; kernel_rfl -- own
theorem min_call {x d : Value} {Q : Value → Shared → Prop} -- own
    (h : wpAny (model prog w) A.in1 (pyIter x) (fun it s₂ => ∃ I fp wr n P St bt, it = .ref I ∧ Walks prog w A.in1 I fp wr n P St ∧ St 0 s₂.heap ∧ (∀ b ∈ fp, b < s₂.heap.objs.size) ∧ CmpOf prog w A.in1 .Lt P bt ∧ -- own
      (n = 0 → ∀ h' tk, (∀ b o, b ∉ wr → s₂.heap.get? b = some o → h'.get? b = some o) → Q d ⟨h', s₂.gens, s₂.drawn, tk, s₂.os⟩) ∧ -- own
      (0 < n → ∀ v h' tk, P (argBest bt (n - 1)) v → (∀ b o, b ∉ wr → s₂.heap.get? b = some o → h'.get? b = some o) → Q v ⟨h', s₂.gens, s₂.drawn, tk, s₂.os⟩)) E s) : -- own
    wpAny (model prog w) A (call (.builtin "min") [x] [(Str.ofString "default", d)]) Q E s := by -- own
  have nm : (toString "min" ++ toString ".loop" : String) = "min.loop" := by decide -- own
  refine call_treeK PySem.F.kind_min PySem.F.plain_min PySem.F.entry_min (args_minK _ _) ?_ -- own
  show wpAny _ A.in1 (Builtin.Builtins.bindParams "min" ["key", "default"] 0 ⟨[], [(Str.ofString "default", d)]⟩ >>= _) _ _ s -- own
  refine wpAny_bind (wpAny_of_eq (show Builtin.Builtins.bindParams "min" ["key", "default"] 0 ⟨[], [(Str.ofString "default", d)]⟩ = pure [none, some d] from rfl) ?_) -- own
  refine wpAny_bind (wpAny_pure (wpAny_bind (wpAny_mono h (fun it s₂ h₂ => ?_) fun _ _ e => e))) -- own
  obtain ⟨I, fp, wr, n, P, St, bt, rfl, W, hst, hfp, hcmp, q0, q1⟩ := h₂ -- own
  refine wpAny_bind (wpAny_newObj_type ?_) -- own
  have hSf : s₂.heap.objs.size ∉ fp := fun hm => Nat.lt_irrefl _ (hfp _ hm) -- own
  rw [nm] -- own
  refine wpAny_pure ⟨plainId_quiet PySem.F.plain_min_loop _, min_begin W bt hcmp s₂.heap.objs.size hSf (W.frame _ _ _ hst fun b _ o e => Heap.get?_push_of_some _ e) (Heap.get?_push_size _ rfl) (fun z h' tk kp => ?_) (fun z v h' tk hP kp => ?_)⟩ -- own
  · exact q0 z h' tk fun b o b1 e => kp b o b1 (Nat.ne_of_lt (Heap.lt_size e)) (Heap.get?_push_of_some _ e) -- own
  · exact q1 z v h' tk hP fun b o b1 e => kp b o b1 (Nat.ne_of_lt (Heap.lt_size e)) (Heap.get?_push_of_some _ e) -- own
theorem min_ints {l : Addr} {xs : Array (Int × Tok)} {d : Value} {Q : Value → Shared → Prop} (hh : A.handled = none) (hl : s.heap.IsList l (intItems xs)) -- own
    (h0 : xs.size = 0 → ∀ h' tk, (∀ b o, s.heap.get? b = some o → h'.get? b = some o) → Q d ⟨h', s.gens, s.drawn, tk, s.os⟩) -- own
    (h : 0 < xs.size → ∀ v h' tk, (intItems xs)[argBest (fun i j => decide (numAt xs i < numAt xs j)) (xs.size - 1)]? = some v → (∀ b o, s.heap.get? b = some o → h'.get? b = some o) → Q v ⟨h', s.gens, s.drawn, tk, s.os⟩) : -- own
    wpAny (model prog w) A (call (.builtin "min") [.ref l] [(Str.ofString "default", d)]) Q E s := by -- own
  refine min_call (iter_intList hl fun s₂ e st hfp hlI => ?_) -- own
  subst e
  have ez : (intItems xs).size = xs.size := by simp [intItems] -- own
  refine ⟨_, _, _, _, _, _, _, rfl, Walks.list (A := A.in1) hh _ l hlI (intItems xs), st, hfp, CmpOf.ints_lt (numAt xs) (fun _ _ => intItems_at), fun z h' tk kp => ?_, fun z v h' tk hP kp => ?_⟩ -- own
  · exact h0 (by rw [← ez]; exact z) h' tk (old_kept kp) -- own
  · exact h (by rw [← ez]; exact z) v h' tk (by rw [← ez]; exact hP) (old_kept kp) -- own
theorem args_maxK (a d : Value) : argsOk "max" ⟨[a], [(Str.ofString "default", d)]⟩ := by unfold argsOk; kernel_rfl -- own
theorem max_call {x d : Value} {Q : Value → Shared → Prop} -- own
    (h : wpAny (model prog w) A.in1 (pyIter x) (fun it s₂ => ∃ I fp wr n P St bt, it = .ref I ∧ Walks prog w A.in1 I fp wr n P St ∧ St 0 s₂.heap ∧ (∀ b ∈ fp, b < s₂.heap.objs.size) ∧ CmpOf prog w A.in1 .Gt P bt ∧ -- own
      (n = 0 → ∀ h' tk, (∀ b o, b ∉ wr → s₂.heap.get? b = some o → h'.get? b = some o) → Q d ⟨h', s₂.gens, s₂.drawn, tk, s₂.os⟩) ∧ -- own
      (0 < n → ∀ v h' tk, P (argBest bt (n - 1)) v → (∀ b o, b ∉ wr → s₂.heap.get? b = some o → h'.get? b = some o) → Q v ⟨h', s₂.gens, s₂.drawn, tk, s₂.os⟩)) E s) : -- own
    wpAny (model prog w) A (call (.builtin "max") [x] [(Str.ofString "default", d)]) Q E s := by -- own
  have nm : (toString "max" ++ toString ".loop" : String) = "max.loop" := by decide -- own
  refine call_treeK PySem.F.kind_max PySem.F.plain_max PySem.F.entry_max (args_maxK _ _) ?_ -- own
  show wpAny _ A.in1 (Builtin.Builtins.bindParams "max" ["key", "default"] 0 ⟨[], [(Str.ofString "default", d)]⟩ >>= _) _ _ s -- own
  refine wpAny_bind (wpAny_of_eq (show Builtin.Builtins.bindParams "max" ["key", "default"] 0 ⟨[], [(Str.ofString "default", d)]⟩ = pure [none, some d] from rfl) ?_) -- own
  refine wpAny_bind (wpAny_pure (wpAny_bind (wpAny_mono h (fun it s₂ h₂ => ?_) fun _ _ e => e))) -- own
  obtain ⟨I, fp, wr, n, P, St, bt, rfl, W, hst, hfp, hcmp, q0, q1⟩ := h₂ -- own
  refine wpAny_bind (wpAny_newObj_type ?_) -- own
  have hSf : s₂.heap.objs.size ∉ fp := fun hm => Nat.lt_irrefl _ (hfp _ hm) -- own
  rw [nm] -- own
  refine wpAny_pure ⟨plainId_quiet PySem.F.plain_max_loop _, max_begin W bt hcmp s₂.heap.objs.size hSf (W.frame _ _ _ hst fun b _ o e => Heap.get?_push_of_some _ e) (Heap.get?_push_size _ rfl) (fun z h' tk kp => ?_) (fun z v h' tk hP kp => ?_)⟩ -- own
  · exact q0 z h' tk fun b o b1 e => kp b o b1 (Nat.ne_of_lt (Heap.lt_size e)) (Heap.get?_push_of_some _ e) -- own
  · exact q1 z v h' tk hP fun b o b1 e => kp b o b1 (Nat.ne_of_lt (Heap.lt_size e)) (Heap.get?_push_of_some _ e) -- own
theorem max_ints {l : Addr} {xs : Array (Int × Tok)} {d : Value} {Q : Value → Shared → Prop} (hh : A.handled = none) (hl : s.heap.IsList l (intItems xs)) -- own
    (h0 : xs.size = 0 → ∀ h' tk, (∀ b o, s.heap.get? b = some o → h'.get? b = some o) → Q d ⟨h', s.gens, s.drawn, tk, s.os⟩) -- own
    (h : 0 < xs.size → ∀ v h' tk, (intItems xs)[argBest (fun i j => decide (numAt xs i > numAt xs j)) (xs.size - 1)]? = some v → (∀ b o, s.heap.get? b = some o → h'.get? b = some o) → Q v ⟨h', s.gens, s.drawn, tk, s.os⟩) : -- own
    wpAny (model prog w) A (call (.builtin "max") [.ref l] [(Str.ofString "default", d)]) Q E s := by -- own
  refine max_call (iter_intList hl fun s₂ e st hfp hlI => ?_) -- own
  subst e
  have ez : (intItems xs).size = xs.size := by simp [intItems] -- own
  refine ⟨_, _, _, _, _, _, _, rfl, Walks.list (A := A.in1) hh _ l hlI (intItems xs), st, hfp, CmpOf.ints_gt (numAt xs) (fun _ _ => intItems_at), fun z h' tk kp => ?_, fun z v h' tk hP kp => ?_⟩ -- own
  · exact h0 (by rw [← ez]; exact z) h' tk (old_kept kp) -- own
  · exact h (by rw [← ez]; exact z) v h' tk (by rw [← ez]; exact hP) (old_kept kp) -- own
end
end CkM
end PySem
namespace Ck
open PySem PySem.Spec PyProof.Rows L2
section
variable {X : Cx}
def rMinD (K : PySem.W.Frag) : List V → List V → Hp → VK → Prop := fun vs zs H Q => ∃ (a : Addr) (ns : List Int) (d : V), vs = [V.ref a] ∧ zs = [d] ∧ SqL K H a (ns.map V.int) ∧ (ns = [] → Q d H) ∧ ∀ m, m ∈ ns → (∀ y, y ∈ ns → m ≤ y) → Q (.int m) H
theorem cr_minD (hc : X.calm = true) : CallRK X (.builtin "min") [Str.ofString "default"] (rMinD X.K) := by
  intro pins s σ H vs zs us ws Q I r rz h
  obtain ⟨a, ns, d, rfl, rfl, hs, q0, q⟩ := h
  obtain ⟨its, rv, hl, _⟩ := I.list hs
  obtain ⟨w1, rfl, e1⟩ := vals1 rz
  rw [Vals.ref1 r]
  have hi := rv.ints
  obtain ⟨xs, e⟩ := hi.allInts.items
  have hn : numsOf (intItems xs).toList = ns := by rw [← e]; exact hi.numsOf
  rw [nums_intItems] at hn
  subst hn
  have hl' := hl.isList
  rw [e] at hl'
  refine PySem.CkM.min_ints (I.ok.hd hc) hl' (fun z h' tk hk => ?_) (fun z v h' tk hv hk => ?_)
  · exact ⟨d, H, I.kept hk, e1, q0 (by rw [List.map_eq_nil_iff]; exact List.eq_nil_of_length_eq_zero (by rw [Array.length_toList]; exact z))⟩
  · obtain ⟨t, rfl⟩ := intItems_at hv
    obtain ⟨h1, h2⟩ := argBest_lt (numAt xs) (xs.size - 1)
    refine ⟨.int _, H, I.kept hk, ⟨_, rfl⟩, q _ ?_ fun a ha => ?_⟩
    · rw [numAt_eq]; exact PySem.getD_mem (by rw [List.length_map, Array.length_toList]; omega)
    · obtain ⟨j, hj, rfl⟩ := mem_getD ha
      rw [List.length_map, Array.length_toList] at hj
      rw [← numAt_eq]; exact h2 j (by omega)
def rMaxD (K : PySem.W.Frag) : List V → List V → Hp → VK → Prop := fun vs zs H Q => ∃ (a : Addr) (ns : List Int) (d : V), vs = [V.ref a] ∧ zs = [d] ∧ SqL K H a (ns.map V.int) ∧ (ns = [] → Q d H) ∧ ∀ m, m ∈ ns → (∀ y, y ∈ ns → y ≤ m) → Q (.int m) H
theorem cr_maxD (hc : X.calm = true) : CallRK X (.builtin "max") [Str.ofString "default"] (rMaxD X.K) := by
  intro pins s σ H vs zs us ws Q I r rz h
  obtain ⟨a, ns, d, rfl, rfl, hs, q0, q⟩ := h
  obtain ⟨its, rv, hl, _⟩ := I.list hs
  obtain ⟨w1, rfl, e1⟩ := vals1 rz
  rw [Vals.ref1 r]
  have hi := rv.ints
  obtain ⟨xs, e⟩ := hi.allInts.items
  have hn : numsOf (intItems xs).toList = ns := by rw [← e]; exact hi.numsOf
  rw [nums_intItems] at hn
  subst hn
  have hl' := hl.isList
  rw [e] at hl'
  refine PySem.CkM.max_ints (I.ok.hd hc) hl' (fun z h' tk hk => ?_) (fun z v h' tk hv hk => ?_)
  · exact ⟨d, H, I.kept hk, e1, q0 (by rw [List.map_eq_nil_iff]; exact List.eq_nil_of_length_eq_zero (by rw [Array.length_toList]; exact z))⟩
  · obtain ⟨t, rfl⟩ := intItems_at hv
    obtain ⟨h1, h2⟩ := argBest_gt (numAt xs) (xs.size - 1)
    refine ⟨.int _, H, I.kept hk, ⟨_, rfl⟩, q _ ?_ fun a ha => ?_⟩
    · rw [numAt_eq]; exact PySem.getD_mem (by rw [List.length_map, Array.length_toList]; omega)
    · obtain ⟨j, hj, rfl⟩ := mem_getD ha
      rw [List.length_map, Array.length_toList] at hj
      rw [← numAt_eq]; exact h2 j (by omega)
end
end Ck

/-! lists of triples; comprehensions with a test, and with two walks -/
namespace Ck
open PySem PySem.Spec PyProof.Rows L2 Evl
/-- one by one -/
inductive F2 {α : Type} (R : V → α → Prop) : List V → List α → Prop
  | nil : F2 R [] []
  | cons {x : V} {a : α} {xs : List V} {as : List α} (h : R x a) (t : F2 R xs as) : F2 R (x :: xs) (a :: as)
theorem F2.imp {α : Type} {R S : V → α → Prop} (h : ∀ x a, R x a → S x a) : ∀ {xs : List V} {as : List α}, F2 R xs as → F2 S xs as
  | _, _, .nil => .nil
  | _, _, .cons a t => .cons (h _ _ a) (F2.imp h t)
theorem F2.app {α : Type} {R : V → α → Prop} : ∀ {xs ys : List V} {as bs : List α}, F2 R xs as → F2 R ys bs → F2 R (xs ++ ys) (as ++ bs)
  | _, _, _, _, .nil, h => h
  | _, _, _, _, .cons a t, h => .cons a (F2.app t h)
theorem F2.len {α : Type} {R : V → α → Prop} : ∀ {xs : List V} {as : List α}, F2 R xs as → xs.length = as.length
  | _, _, .nil => rfl
  | _, _, .cons _ t => congrArg (· + 1) (F2.len t)
theorem F2.mem {α : Type} {R : V → α → Prop} : ∀ {xs : List V} {as : List α}, F2 R xs as → ∀ x ∈ xs, ∃ a ∈ as, R x a
  | _, _, .nil, x, h => nomatch h
  | _, _, .cons a t, x, h => by
    rcases List.mem_cons.mp h with rfl | h
    · exact ⟨_, List.mem_cons_self, a⟩
    · obtain ⟨b, hb, r⟩ := F2.mem t x h
      exact ⟨b, List.mem_cons_of_mem _ hb, r⟩
theorem F2.at {α : Type} {R : V → α → Prop} : ∀ {xs : List V} {as : List α}, F2 R xs as → ∀ {i : Nat} {x : V}, xs[i]? = some x → ∃ a, as[i]? = some a ∧ R x a
  | _, _, .nil, i, x, h => by simp at h
  | _, _, .cons a t, 0, x, h => by
    obtain rfl := Option.some.inj h
    exact ⟨_, rfl, a⟩
  | _, _, .cons a t, i + 1, x, h => F2.at t (i := i) h
theorem F2.perm {α : Type} {R : V → α → Prop} {xs ys : List V} (p : ys.Perm xs) : ∀ {as : List α}, F2 R xs as → ∃ bs, bs.Perm as ∧ F2 R ys bs := by
  induction p with
  | nil => exact fun h => ⟨_, .refl _, h⟩
  | cons x _ ih =>
    intro as h
    cases h with
    | cons a t =>
      obtain ⟨bs, h1, h2⟩ := ih t
      exact ⟨_, h1.cons _, .cons a h2⟩
  | swap x y l =>
    intro as h
    cases h with
    | cons a t => cases t with
      | cons b u => exact ⟨_, .swap _ _ _, .cons b (.cons a u)⟩
  | trans _ _ ih1 ih2 =>
    intro as h
    obtain ⟨bs, h1, h2⟩ := ih2 h
    obtain ⟨cs, h3, h4⟩ := ih1 h2
    exact ⟨cs, h3.trans h1, h4⟩
theorem F2.pw {α : Type} {R : V → α → Prop} {S : V → V → Prop} {T : α → α → Prop} (h : ∀ x y a b, R x a → R y b → S x y → T a b) : ∀ {xs : List V} {as : List α}, F2 R xs as → xs.Pairwise S → as.Pairwise T
  | _, _, .nil, _ => .nil
  | _, _, .cons a t, p => by
    obtain ⟨p1, p2⟩ := List.pairwise_cons.mp p
    refine List.pairwise_cons.mpr ⟨fun b hb => ?_, F2.pw h t p2⟩
    obtain ⟨y, hy, r⟩ := F2.memR t b hb
    exact h _ _ _ _ a r (p1 y hy)
where
  F2.memR {α : Type} {R : V → α → Prop} : ∀ {xs : List V} {as : List α}, F2 R xs as → ∀ a ∈ as, ∃ x ∈ xs, R x a
    | _, _, .nil, x, h => nomatch h
    | _, _, .cons a t, x, h => by
      rcases List.mem_cons.mp h with rfl | h
      · exact ⟨_, List.mem_cons_self, a⟩
      · obtain ⟨b, hb, r⟩ := F2.memR t x h
        exact ⟨b, List.mem_cons_of_mem _ hb, r⟩
section
variable {K : PySem.W.Frag} {H H' : Hp}
/-- a tuple stays where a list is changed -/
theorem sqT_updL {t l : Addr} {xs ys : List V} {o : HO} (h : SqT K H t xs) (hl : H l = some (.lst ys)) : SqT K (upd H l o) t xs := by
  by_cases e : t = l
  · subst e
    rcases h with (z | ⟨o', z⟩) | z
    · rw [hl] at z; cases z
    · rw [hl] at z; cases z
    · exact .inr z
  · rcases h with (z | ⟨o', z⟩) | z
    · exact .inl (.inl (by rw [upd_ne e]; exact z))
    · exact .inl (.inr ⟨o', by rw [upd_ne e]; exact z⟩)
    · exact .inr z
end
/-- a walk, by turns, whatever is done in a turn -/
theorem walk_W {J : It} {n : Nat} {G : Hp → Prop} {Y : Nat → Hp → V → Hp → Prop} (w : Walk J n G Y) {body : (Hp → Prop) → V → Hp → Prop} {H0 : Hp} {Qd : Hp → Prop} (Pv : Nat → Hp → Prop) (h0 : Pv 0 H0) (hG : ∀ i H, i ≤ n → Pv i H → G H)
    (hs : ∀ i x H H', i < n → Pv i H → Y i H x H' → body (Pv (i + 1)) x H') (hd : ∀ H, Pv n H → Qd H) :
    ∃ W : Nat → Nat → Hp → Prop, (∃ m, W 0 m H0) ∧ ∀ i m H, W i m H → (J.stop i H ∧ Qd H) ∨ (J.go i H ∧ ∃ Nx : Hp → Prop, (∀ H', Nx H' → ∃ m', m' < m ∧ W (i + 1) m' H') ∧ ∀ x H', J.yld i H x H' → body Nx x H') := by
  refine ⟨fun i m H => m = n - i ∧ i ≤ n ∧ Pv i H, ⟨n, rfl, Nat.zero_le _, h0⟩, ?_⟩
  rintro i m H ⟨rfl, hi, p⟩
  have q := hG i H hi p
  rcases Nat.lt_or_ge i n with l | l
  · exact .inr ⟨w.goes i H l q, Pv (i + 1), fun H' p' => ⟨n - (i + 1), by omega, rfl, l, p'⟩, fun x H' y => hs i x H H' l p (w.yields i H x H' l q y)⟩
  · obtain rfl : i = n := Nat.le_antisymm hi l
    exact .inl ⟨w.stops H q, hd H p⟩
section
variable {K : PySem.W.Frag} {σ : L2.St} {H : Hp} {tl te : TE} {tt : TT} {a : Addr} {ns : List Int} {j : Nat} {ws : List Nat} {α : Type} {R : Hp → V → α → Prop} {c : Int → Bool} {e : Int → α}
/-- a value of which R holds -/
def EvR (R : Hp → V → α → Prop) (te : TE) (σ : L2.St) (H : Hp) (x : α) : Prop := ∀ H1, Ex H H1 → ∀ Q : VK, (∀ v H2, Ex H1 H2 → R H2 v x → Q v H2) → te σ H1 Q
/-- a comprehension over a tuple of ints, with a test -/
theorem lc_tupF (L : ∀ H H' x b, Ex H H' → R H x b → R H' x b) (LU : ∀ H l xs ys x b, H l = some (.lst xs) → R H x b → R (upd H l (.lst ys)) x b) (h : Ev tl σ H (.ref a)) (hx : SqT K H a (ns.map V.int)) (hz : ns.length ≤ 40000) (hw : ∀ x, wipe ((wipe σ ws).set j (some x)) ws = wipe σ ws)
    (ht : ∀ n ∈ ns, ∀ H1, Ex H H1 → EvT tt ((wipe σ ws).set j (some (.int n))) H1 (c n)) (he : ∀ n ∈ ns, c n = true → ∀ H1, Ex H H1 → EvR R te ((wipe σ ws).set j (some (.int n))) H1 (e n)) :
    ∀ H1, Ex H H1 → ∀ Q : VK, (∀ D vs H2, H1 D = none → Ex H1 H2 → H2 D = some (.lst vs) → F2 (R H2) vs ((ns.filter c).map e) → Q (.ref D) H2) → tLc (iTup K tl) (gName j) tt te ws σ H1 Q := fun H0 e0 Q q => h H0 e0 _ fun H1 e1 => ⟨a, rfl, ⟨_, ex_t (e0.trans e1) hx⟩, fun D hD => by
  refine lc_it walk_tup (fun i H' => H1 D = none ∧ Ex H1 H' ∧ ∃ vs, H' D = some (.lst vs) ∧ vs.length ≤ i ∧ F2 (R H') vs (((ns.take i).filter c).map e)) ⟨hD, Ex.new hD, [], upd_same, Nat.le_refl _, .nil⟩ (fun i H' _ p => ex_t ((e0.trans e1).trans p.2.1) hx) ?_ ?_
  · rintro i x H2 H3 hi ⟨p1, p2, vs, p3, p4, p5⟩ ⟨e3, hxi⟩
    rw [e3]
    rw [List.length_map] at hi
    rw [List.getElem?_map, List.getElem?_eq_getElem hi] at hxi
    obtain rfl := Option.some.inj hxi
    have m := List.getElem_mem hi
    have e02 := (e0.trans e1).trans p2
    refine ⟨hw _, ht _ m H2 e02 H2 (Ex.refl H2) _ fun H4 e4 => ?_⟩
    have st : ns.take (i + 1) = ns.take i ++ [ns[i]] := by rw [List.take_add_one, List.getElem?_eq_getElem hi]; rfl
    cases hc : c ns[i] with
    | true =>
      refine iteT (he _ m hc H4 (e02.trans e4) H4 (Ex.refl H4) _ fun v H5 e5 hv => ⟨vs, (e4.trans e5) _ _ p3, sz_lt (by omega), p1, Ex.mut (p2.trans (e4.trans e5)) p1, vs ++ [v], upd_same, by rw [List.length_append]; exact Nat.succ_le_succ p4, ?_⟩)
      have hD5 : H5 D = some (.lst vs) := (e4.trans e5) _ _ p3
      rw [st, List.filter_append, List.map_append, show [ns[i]].filter c = [ns[i]] by rw [List.filter_cons, hc]; rfl]
      exact ((p5.imp fun x b r => LU _ _ _ _ _ _ hD5 (L _ _ _ _ (e4.trans e5) r)).app (.cons (LU _ _ _ _ _ _ hD5 hv) .nil))
    | false =>
      refine iteF ⟨p1, p2.trans e4, vs, e4 _ _ p3, Nat.le_succ_of_le p4, ?_⟩
      rw [st, List.filter_append, show [ns[i]].filter c = [] by rw [List.filter_cons, hc]; rfl, List.append_nil]
      exact p5.imp fun x b r => L _ _ _ _ e4 r
  · rintro H2 ⟨p1, p2, vs, p3, _, p5⟩
    rw [List.length_map, List.take_of_length_le (Nat.le_refl _)] at p5
    exact q D vs H2 (fresh_back e1 p1) (e1.trans p2) p3 p5⟩
end
/-! pairs of sizes that do not divide -/
def nd (l h : Int) : Bool := decide (l < h) && !decide (h % l = 0)
def q3 (p : Int × Int) : List Int := [p.1, p.2, p.2 / p.1 + 2]
def trD (p : Int × Int) : PyData := .tuple ((q3 p).map PyData.int)
def prsOf (ns : List Int) : List (Int × Int) := ns.flatMap fun l => (ns.filter (nd l)).map fun h => (l, h)
def dueOf (hs ns : List Int) : List (Int × Int) := hs.flatMap fun h => (ns.filter fun l => nd l h).map fun l => (l, h)
theorem pairs_mem {ns : List Int} {p : Int × Int} : p ∈ prsOf ns ↔ p.1 ∈ ns ∧ p.2 ∈ ns ∧ nd p.1 p.2 = true := by
  unfold prsOf
  rw [List.mem_flatMap]
  constructor
  · rintro ⟨l, hl, h⟩
    obtain ⟨h', hh, rfl⟩ := List.mem_map.mp h
    rw [List.mem_filter] at hh
    exact ⟨hl, hh.1, hh.2⟩
  · rintro ⟨h1, h2, h3⟩
    exact ⟨p.1, h1, List.mem_map.mpr ⟨p.2, List.mem_filter.mpr ⟨h2, h3⟩, rfl⟩⟩
theorem due_mem {ns : List Int} {p : Int × Int} : p ∈ dueOf ns ns ↔ p.1 ∈ ns ∧ p.2 ∈ ns ∧ nd p.1 p.2 = true := by
  unfold dueOf
  rw [List.mem_flatMap]
  constructor
  · rintro ⟨h, hh, m⟩
    obtain ⟨l, hl, rfl⟩ := List.mem_map.mp m
    rw [List.mem_filter] at hl
    exact ⟨hl.1, hh, hl.2⟩
  · rintro ⟨h1, h2, h3⟩
    exact ⟨p.2, h2, List.mem_map.mpr ⟨p.1, List.mem_filter.mpr ⟨h1, h3⟩, rfl⟩⟩
def cd3 (p : Int × Int) : Int := TS.code 2000 (q3 p)
theorem cd3_eq (p : Int × Int) : cd3 p = p.1 * 4000000 + p.2 * 2000 + (p.2 / p.1 + 2) := by
  show p.1 * 2000 ^ 2 + (p.2 * 2000 ^ 1 + ((p.2 / p.1 + 2) * 2000 ^ 0 + 0)) = _
  omega
/-- sizes of at most a thousand -/
def Small (ns : List Int) : Prop := ∀ n ∈ ns, 0 < n ∧ n ≤ 1000
theorem small_p {ns : List Int} (h : Small ns) {p : Int × Int} (h1 : p.1 ∈ ns) (h2 : p.2 ∈ ns) : 0 < p.1 ∧ p.1 ≤ 1000 ∧ 0 < p.2 ∧ p.2 ≤ 1000 ∧ 0 ≤ p.2 / p.1 ∧ p.2 / p.1 ≤ 1000 := by
  have a := h _ h1
  have b := h _ h2
  have c : p.2 / p.1 ≤ p.2 := Int.ediv_le_self _ (by omega)
  exact ⟨a.1, a.2, b.1, b.2, Int.ediv_nonneg (by omega) (by omega), by omega⟩
def dec3 (c : Int) : Int × Int := (c / 4000000, c / 2000 % 2000)
theorem dec_cd {ns : List Int} (h : Small ns) {p : Int × Int} (h1 : p.1 ∈ ns) (h2 : p.2 ∈ ns) : dec3 (cd3 p) = p := by
  obtain ⟨a, b, c, d, e, f⟩ := small_p h h1 h2
  rw [cd3_eq]
  unfold dec3
  generalize p.2 / p.1 = k at e f ⊢
  have x : (p.1 * 4000000 + p.2 * 2000 + (k + 2)) / 4000000 = p.1 := by omega
  have y : (p.1 * 4000000 + p.2 * 2000 + (k + 2)) / 2000 % 2000 = p.2 := by omega
  rw [x, y]
theorem pairs_pw {ns : List Int} (h : Small ns) (hp : ns.Pairwise (· < ·)) : ((prsOf ns).map cd3).Pairwise (· < ·) := by
  rw [List.pairwise_map]
  unfold prsOf
  rw [List.pairwise_flatMap]
  refine ⟨fun l hl => ?_, hp.imp_of_mem fun {l l'} hl hl' lt => ?_⟩
  · rw [List.pairwise_map]
    refine ((hp.filter _).imp_of_mem fun {a b} ha hb lt => ?_)
    have ha := (List.mem_filter.mp ha).1
    have hb := (List.mem_filter.mp hb).1
    obtain ⟨_, _, _, _, e, f⟩ := small_p h (p := (l, a)) hl ha
    obtain ⟨_, _, _, _, e', f'⟩ := small_p h (p := (l, b)) hl hb
    rw [cd3_eq, cd3_eq]
    show l * 4000000 + a * 2000 + (a / l + 2) < l * 4000000 + b * 2000 + (b / l + 2)
    have e1 : 0 ≤ a / l ∧ a / l ≤ 1000 := ⟨e, f⟩
    have e2 : 0 ≤ b / l ∧ b / l ≤ 1000 := ⟨e', f'⟩
    generalize a / l = u at e1 ⊢
    generalize b / l = v at e2 ⊢
    omega
  · intro x hx y hy
    obtain ⟨a, ha, rfl⟩ := List.mem_map.mp hx
    obtain ⟨b, hb, rfl⟩ := List.mem_map.mp hy
    have ha := (List.mem_filter.mp ha).1
    have hb := (List.mem_filter.mp hb).1
    obtain ⟨_, _, a0, a1, e, f⟩ := small_p h (p := (l, a)) hl ha
    obtain ⟨_, _, b0, b1, e', f'⟩ := small_p h (p := (l', b)) hl' hb
    rw [cd3_eq, cd3_eq]
    show l * 4000000 + a * 2000 + (a / l + 2) < l' * 4000000 + b * 2000 + (b / l' + 2)
    have a0 : 0 < a := a0
    have a1 : a ≤ 1000 := a1
    have b0 : 0 < b := b0
    have b1 : b ≤ 1000 := b1
    have e1 : 0 ≤ a / l ∧ a / l ≤ 1000 := ⟨e, f⟩
    have e2 : 0 ≤ b / l' ∧ b / l' ≤ 1000 := ⟨e', f'⟩
    generalize a / l = u at e1 ⊢
    generalize b / l' = v at e2 ⊢
    omega
theorem due_nd {ns : List Int} (h : Small ns) (hp : ns.Pairwise (· < ·)) : ((dueOf ns ns).map cd3).Pairwise (· ≠ ·) := by
  rw [List.pairwise_map]
  have key : (dueOf ns ns).Pairwise (· ≠ ·) := by
    unfold dueOf
    rw [List.pairwise_flatMap]
    refine ⟨fun l hl => ?_, hp.imp fun {l l'} lt => ?_⟩
    · rw [List.pairwise_map]
      exact (hp.filter _).imp fun {a b} lt z => by
        have := congrArg Prod.fst z
        have : a = b := this
        omega
    · intro x hx y hy z
      obtain ⟨a, _, rfl⟩ := List.mem_map.mp hx
      obtain ⟨b, _, rfl⟩ := List.mem_map.mp hy
      have := congrArg Prod.snd z
      have : l = l' := this
      omega
  refine key.imp_of_mem fun {a b} ha hb ne z => ne ?_
  obtain ⟨a1, a2, _⟩ := due_mem.mp ha
  obtain ⟨b1, b2, _⟩ := due_mem.mp hb
  rw [← dec_cd h a1 a2, ← dec_cd h b1 b2, z]
theorem map_dec {ns : List Int} (h : Small ns) : ∀ {ps : List (Int × Int)}, (∀ p ∈ ps, p.1 ∈ ns ∧ p.2 ∈ ns) → (ps.map cd3).map dec3 = ps
  | [], _ => rfl
  | p :: r, hp => by
    have := hp p List.mem_cons_self
    rw [List.map_cons, List.map_cons, dec_cd h this.1 this.2, map_dec h fun q hq => hp q (List.mem_cons_of_mem _ hq)]
/-- what is sorted by code is the row of all pairs -/
theorem due_sorted {ns : List Int} (h : Small ns) (hp : ns.Pairwise (· < ·)) {ps : List (Int × Int)} (p1 : ps.Perm (dueOf ns ns)) (p2 : ps.Pairwise fun a b => cd3 a ≤ cd3 b) : ps = prsOf ns := by
  have ne : (ps.map cd3).Pairwise (· ≠ ·) := ((p1.map cd3).pairwise_iff (fun {a b} n z => n z.symm)).mpr (due_nd h hp)
  have le : (ps.map cd3).Pairwise (· ≤ ·) := List.pairwise_map.mpr p2
  have lt : (ps.map cd3).Pairwise (· < ·) := (le.and ne).imp fun {a b} z => by
    have := z.1
    have := z.2
    omega
  have mem : ∀ p, p ∈ ps ↔ p ∈ prsOf ns := fun p => by rw [p1.mem_iff, due_mem, pairs_mem]
  have e : ps.map cd3 = (prsOf ns).map cd3 := sorted_one lt (pairs_pw h hp) fun k => by
    rw [List.mem_map, List.mem_map]
    constructor
    · rintro ⟨p, hp, rfl⟩; exact ⟨p, (mem p).mp hp, rfl⟩
    · rintro ⟨p, hp, rfl⟩; exact ⟨p, (mem p).mpr hp, rfl⟩
  have z := congrArg (List.map dec3) e
  have in2 : ∀ p ∈ prsOf ns, p.1 ∈ ns ∧ p.2 ∈ ns := fun p hp => ⟨(pairs_mem.mp hp).1, (pairs_mem.mp hp).2.1⟩
  rwa [map_dec h (fun p hp => in2 p ((mem p).mp hp)), map_dec h in2] at z
end Ck

/-! t in a list of tuples of ints; max of tuples by their lengths -/
namespace PySem
namespace CkM
open PySem PyProof.Rows
section
variable {prog : Program} {w : World} {A : Around} {R : Result → Shared → Prop} {I : Addr} {fp wr : List Addr} {n : Nat} {P : Nat → Value → Prop} {St : Nat → Heap → Prop} {key : Value} {kwd : List (Str × Value)} {val : Nat → Nat} -- own
/-- len, as the key: of each item its length -/
def LenOf (prog : Program) (w : World) (A : Around) (P : Nat → Value → Prop) (G : Heap → Prop) (val : Nat → Nat) : Prop := ∀ i v (s : Shared) (Q : Value → Shared → Prop) (E : Value → Shared → Prop), P i v → G s.heap → (∀ tk tk9, Q (.int (val i) tk) ⟨s.heap, s.gens, s.drawn, tk9, s.os⟩) → wpAny (model prog w) A (call (.builtin "len") [v]) Q E s -- own
theorem maxk_again (W : Walks prog w A.in1 I fp wr n P St) {G : Heap → Prop} (hG : ∀ h h', G h → (∀ b o, b ∉ wr → b ≠ S → h.get? b = some o → h'.get? b = some o) → G h') (hk : LenOf prog w A.in1 P G val) (hSf : S ∉ fp) : -- own
    ∀ (k j : Nat) (s : Shared) (vb : Value) (t : Tok) (c : Nat), k + (j + 1) = n → St (j + 1) s.heap → G s.heap → P (argBest (fun a b => decide (val a > val b)) j) vb → s.heap.get? S = some (lsO #[vb, .int (val (argBest (fun a b => decide (val a > val b)) j)) t] c) → -- own
    (∀ v h' tk, P (argBest (fun a b => decide (val a > val b)) (n - 1)) v → KeepX wr S s.heap h' → R (.ok (.ret v)) ⟨h', s.gens, s.drawn, tk, s.os⟩) → codeAny (model prog w) A (.builtin "max.loop" ⟨[.ref I, .builtin "len", .ref S], kwd⟩) R s := by -- own
  have hSw : S ∉ wr := fun h => hSf (W.sub _ h) -- own
  have nm : (toString "max" ++ toString ".loop" : String) = "max.loop" := by decide -- own
  intro k -- own
  induction k with
  | zero =>
    intro j s vb t c hk' hst hg hPb hS hR -- own
    have hin : j + 1 = n := by omega -- own
    refine codeAny_builtin PySem.F.entry_max_loop ?_ -- own
    rw [Around.under_plainId PySem.F.plain_max_loop _] -- own
    show wpAny _ A.in1 (seqItems? (.ref S) >>= _) _ _ s -- own
    refine wpAny_bind (wpAny_seqItems hS rfl ?_) -- own
    show wpAny _ A.in1 (tryCatch (pyNext (.ref I)) _ >>= _) _ _ s -- own
    refine wpAny_bind (wpAny_tryCatch (W.done s _ _ (hin ▸ hst) fun h' tk kp => ?_)) -- own
    have hS' := kp S _ hSw hS -- own
    show wpAny _ A.in1 (updateSeq S (fun _ => #[]) >>= _) _ _ _ -- own
    refine wpAny_bind (wpAny_updateSeq hS' rfl (wpAny_bind (wpAny_letGo (wpAny_pure ?_)))) -- own
    exact hR vb _ tk (by rw [← hin]; exact hPb) fun b o b1 b2 e => (Heap.get?_update_other _ _ (Ne.symm b2)).trans (kp b o b1 e) -- own
  | succ k ih =>
    intro j s vb t c hk' hst hg hPb hS hR -- own
    have hlt : j + 1 < n := by omega -- own
    refine codeAny_builtin PySem.F.entry_max_loop ?_ -- own
    rw [Around.under_plainId PySem.F.plain_max_loop _] -- own
    show wpAny _ A.in1 (seqItems? (.ref S) >>= _) _ _ s -- own
    refine wpAny_bind (wpAny_seqItems hS rfl ?_) -- own
    show wpAny _ A.in1 (tryCatch (pyNext (.ref I)) _ >>= _) _ _ s -- own
    refine wpAny_bind (wpAny_tryCatch (W.item (j + 1) s _ _ hlt hst fun v h' tk hP hst' kp => ?_)) -- own
    have hS' := kp S _ hSw hS -- own
    have hg' : G h' := hG _ _ hg fun b o b1 _ e => kp b o b1 e -- own
    show wpAny _ A.in1 (tryCatch (holding [v] (call (.builtin "len") [v])) _ >>= _) _ _ _ -- own
    refine wpAny_bind (wpAny_tryCatch (wpAny_holding (hk (j + 1) v _ _ _ hP hg' fun tk2 tk9 => ?_))) -- own
    show wpAny _ A.in1 (tryCatch (holding [v, .int (val (j + 1)) tk2] (richCompare .Gt (.int (val (j + 1)) tk2) (.int (val (argBest (fun a b => decide (val a > val b)) j)) t) >>= _)) _ >>= _) _ _ _ -- own
    refine wpAny_bind (wpAny_tryCatch (wpAny_holding (wpAny_bind (CmpOf.ints_gt (P := fun i v => ∃ t, v = .int (val i) t) (fun i => (val i : Int)) (fun i v h => h) (j + 1) (argBest (fun a b => decide (val a > val b)) j) _ _ _ _ _ ⟨_, rfl⟩ ⟨_, rfl⟩ (wpAny_bind (wpAny_holding (wpAny_truthy_bool (wpAny_bind (wpAny_letGo (wpAny_pure ?_)))))))))) -- own
    have ed : decide ((val (j + 1) : Int) > (val (argBest (fun a b => decide (val a > val b)) j) : Int)) = decide (val (j + 1) > val (argBest (fun a b => decide (val a > val b)) j)) := decide_eq_decide.mpr (by omega) -- own
    show wpAny _ A.in1 (if decide ((val (j + 1) : Int) > (val (argBest (fun a b => decide (val a > val b)) j) : Int)) = true then _ else _) _ _ _ -- own
    rw [ed] -- own
    cases hb : decide (val (j + 1) > val (argBest (fun a b => decide (val a > val b)) j)) with
    | true =>
      have ab : argBest (fun a b => decide (val a > val b)) (j + 1) = j + 1 := by simp only [argBest, hb, if_true] -- own
      simp only [if_true] -- own
      refine wpAny_bind (wpAny_updateSeq hS' rfl (wpAny_bind (wpAny_letGo ?_))) -- own
      rw [nm] -- own
      have kp2 : ∀ b o, b ∉ wr → b ≠ S → h'.get? b = some o → (h'.update S (Obj.mapSeq fun _ => #[v, .int (val (j + 1)) tk2])).get? b = some o := fun b o _ b2 e => (Heap.get?_update_other _ _ (Ne.symm b2)).trans e -- own
      refine wpAny_pure ⟨plainId_quiet PySem.F.plain_max_loop _, ih (j + 1) _ v tk2 _ (by omega) (W.frame _ _ _ hst' fun b hbf o e => (Heap.get?_update_other _ _ (fun h : S = b => hSf (by rw [h]; exact hbf))).trans e) (hG _ _ hg' kp2) (by rw [ab]; exact hP) (by rw [ab]; exact Heap.get?_update_self _ hS' rfl) fun v' h2 t2 hP2 kp3 => ?_⟩ -- own
      exact hR v' h2 t2 hP2 fun b o b1 b2 e => kp3 b o b1 b2 ((Heap.get?_update_other _ _ (Ne.symm b2)).trans (kp b o b1 e)) -- own
    | false =>
      have ab : argBest (fun a b => decide (val a > val b)) (j + 1) = argBest (fun a b => decide (val a > val b)) j := by simp only [argBest, hb, Bool.false_eq_true, if_false] -- own
      simp only [Bool.false_eq_true, if_false] -- own
      refine wpAny_bind (wpAny_letGo ?_) -- own
      rw [nm] -- own
      refine wpAny_pure ⟨plainId_quiet PySem.F.plain_max_loop _, ih (j + 1) _ vb t c (by omega) hst' hg' (by rw [ab]; exact hPb) (by rw [ab]; exact hS') fun v' h2 t2 hP2 kp3 => ?_⟩ -- own
      exact hR v' h2 t2 hP2 fun b o b1 b2 e => kp3 b o b1 b2 (kp b o b1 e) -- own
theorem maxk_begin (W : Walks prog w A.in1 I fp wr n P St) {G : Heap → Prop} (hG : ∀ h h', G h → (∀ b o, b ∉ wr → b ≠ S → h.get? b = some o → h'.get? b = some o) → G h') (hk : LenOf prog w A.in1 P G val) (hSf : S ∉ fp) {s : Shared} {c : Nat} (hst : St 0 s.heap) (hg : G s.heap) (hS : s.heap.get? S = some (lsO #[] c)) -- own
    (h0 : n = 0 → ∃ k d, kwd = [(k, d)] ∧ ∀ h' tk, KeepX wr S s.heap h' → R (.ok (.ret d)) ⟨h', s.gens, s.drawn, tk, s.os⟩) -- own
    (hR : 0 < n → ∀ v h' tk, P (argBest (fun a b => decide (val a > val b)) (n - 1)) v → KeepX wr S s.heap h' → R (.ok (.ret v)) ⟨h', s.gens, s.drawn, tk, s.os⟩) : codeAny (model prog w) A (.builtin "max.loop" ⟨[.ref I, .builtin "len", .ref S], kwd⟩) R s := by -- own
  have hSw : S ∉ wr := fun h => hSf (W.sub _ h) -- own
  have nm : (toString "max" ++ toString ".loop" : String) = "max.loop" := by decide -- own
  refine codeAny_builtin PySem.F.entry_max_loop ?_ -- own
  rw [Around.under_plainId PySem.F.plain_max_loop _] -- own
  show wpAny _ A.in1 (seqItems? (.ref S) >>= _) _ _ s -- own
  refine wpAny_bind (wpAny_seqItems hS rfl ?_) -- own
  show wpAny _ A.in1 (tryCatch (pyNext (.ref I)) _ >>= _) _ _ s -- own
  by_cases hn : 0 < n
  · refine wpAny_bind (wpAny_tryCatch (W.item 0 s _ _ hn hst fun v h' tk hP hst' kp => ?_)) -- own
    have hS' := kp S _ hSw hS -- own
    have hg' : G h' := hG _ _ hg fun b o b1 _ e => kp b o b1 e -- own
    show wpAny _ A.in1 (tryCatch (holding [v] (call (.builtin "len") [v])) _ >>= _) _ _ _ -- own
    refine wpAny_bind (wpAny_tryCatch (wpAny_holding (hk 0 v _ _ _ hP hg' fun tk2 tk9 => ?_))) -- own
    show wpAny _ A.in1 (updateSeq S (fun _ => #[v, .int (val 0) tk2]) >>= _) _ _ _ -- own
    refine wpAny_bind (wpAny_updateSeq hS' rfl ?_) -- own
    rw [nm] -- own
    have kp2 : ∀ b o, b ∉ wr → b ≠ S → h'.get? b = some o → (h'.update S (Obj.mapSeq fun _ => #[v, .int (val 0) tk2])).get? b = some o := fun b o _ b2 e => (Heap.get?_update_other _ _ (Ne.symm b2)).trans e -- own
    refine wpAny_pure ⟨plainId_quiet PySem.F.plain_max_loop _, maxk_again W hG hk hSf (n - 1) 0 _ v tk2 _ (by omega) (W.frame _ _ _ hst' fun b hbf o e => (Heap.get?_update_other _ _ (fun h : S = b => hSf (by rw [h]; exact hbf))).trans e) (hG _ _ hg' kp2) hP (Heap.get?_update_self _ hS' rfl) fun v' h2 t2 hP2 kp3 => ?_⟩ -- own
    exact hR hn v' h2 t2 hP2 fun b o b1 b2 e => kp3 b o b1 b2 ((Heap.get?_update_other _ _ (Ne.symm b2)).trans (kp b o b1 e)) -- own
  · have z : n = 0 := by omega -- own
    obtain ⟨k, d, rfl, q⟩ := h0 z -- own
    refine wpAny_bind (wpAny_tryCatch (W.done s _ _ (z ▸ hst) fun h' tk kp => ?_)) -- own
    show wpAny _ A.in1 (rule _ >>= _) _ _ _ -- own
    exact wpAny_bind (wpAny_rule (wpAny_pure (q h' tk fun b o b1 _ e => kp b o b1 e))) -- own
end
section
variable {prog : Program} {w : World} {A : Around} {E : Value → Shared → Prop} {s : Shared} -- own
theorem args_maxKD (a k d : Value) : argsOk "max" ⟨[a], [(Str.ofString "key", k), (Str.ofString "default", d)]⟩ := by unfold argsOk; kernel_rfl -- own
theorem args_maxK1 (a k : Value) : argsOk "max" ⟨[a], [(Str.ofString "key", k)]⟩ := by unfold argsOk; kernel_rfl -- own
abbrev bst (val : Nat → Nat) (n : Nat) : Nat := argBest (fun a b => decide (val a > val b)) (n - 1)
/-- max of a list of tuples, by their lengths -/
theorem maxk_list {l : Addr} {items : Array Value} {val : Nat → Nat} {dflt : Option Value} {kw : List (Str × Value)} {Q : Value → Shared → Prop} (hh : A.handled = none) (hl : s.heap.IsList l items) -- own
    (ha : argsOk "max" ⟨[.ref l], kw⟩) (hb : Builtin.Builtins.bindParams "max" ["key", "default"] 0 ⟨[], kw⟩ = pure [some (.builtin "len"), dflt]) -- own
    (hv : ∀ i v, items[i]? = some v → ∃ a xs, v = .ref a ∧ IsTup s.heap a xs ∧ xs.size = val i ∧ val i < 4611686018427387904) -- own
    (h0 : items.size = 0 → ∃ d, dflt = some d ∧ ∀ h' tk, (∀ b o, s.heap.get? b = some o → h'.get? b = some o) → Q d ⟨h', s.gens, s.drawn, tk, s.os⟩) -- own
    (h1 : 0 < items.size → ∀ v h' tk, items[bst val items.size]? = some v → (∀ b o, s.heap.get? b = some o → h'.get? b = some o) → Q v ⟨h', s.gens, s.drawn, tk, s.os⟩) : -- own
    wpAny (model prog w) A (call (.builtin "max") [.ref l] kw) Q E s := by -- own
  have nm : (toString "max" ++ toString ".loop" : String) = "max.loop" := by decide -- own
  refine call_treeK PySem.F.kind_max PySem.F.plain_max PySem.F.entry_max ha ?_ -- own
  show wpAny _ A.in1 (Builtin.Builtins.bindParams "max" ["key", "default"] 0 ⟨[], kw⟩ >>= _) _ _ s -- own
  refine wpAny_bind (wpAny_of_eq hb ?_) -- own
  refine wpAny_bind (wpAny_pure (wpAny_bind ?_)) -- own
  have hlt : l < s.heap.objs.size := by obtain ⟨_, e, _⟩ := hl; exact Heap.lt_size e -- own
  refine wpAny_pyIter_list hl (wpAny_bind (wpAny_newObj_type ?_)) -- own
  generalize hs2 : s.heap.push { cls := .type "list_iterator", data := .fields #[.ref l, .int 0 0] } = h2
  have sz2 : h2.objs.size = s.heap.objs.size + 1 := by rw [← hs2]; exact Heap.size_push .. -- own
  have old2 : ∀ b o, s.heap.get? b = some o → h2.get? b = some o := fun b o e => by rw [← hs2]; exact Heap.get?_push_of_some _ e -- own
  have W := Walks.list (prog := prog) (w := w) (A := A.in1) hh s.heap.objs.size l (Nat.ne_of_lt hlt) items -- own
  have st : h2.IsListIter s.heap.objs.size l 0 ∧ h2.IsList l items := by rw [← hs2]; exact ⟨⟨_, Heap.get?_push_size _ rfl, rfl, rfl⟩, hl.push _⟩ -- own
  have hSf : h2.objs.size ∉ [s.heap.objs.size, l] := fun hm => by -- own
    rcases List.mem_cons.mp hm with e | hm
    · rw [sz2] at e
      exact Nat.succ_ne_self _ e
    · have z := List.mem_singleton.mp hm
      rw [sz2] at z
      rw [← z] at hlt
      exact absurd hlt (Nat.not_lt.mpr (Nat.le_succ _))
  have hG : ∀ h h' : Heap, (∀ b o, s.heap.get? b = some o → h.get? b = some o) → (∀ b o, b ∉ [s.heap.objs.size] → b ≠ h2.objs.size → h.get? b = some o → h'.get? b = some o) → ∀ b o, s.heap.get? b = some o → h'.get? b = some o := fun h h' g k b o e => by -- own
    have lt := Heap.lt_size e
    exact k b o (fun hm => Nat.ne_of_lt lt (List.mem_singleton.mp hm)) (Nat.ne_of_lt (Nat.lt_trans lt (by rw [sz2]; exact Nat.lt_succ_self _))) (g b o e) -- own
  have hk : LenOf prog w A.in1 (fun i v => items[i]? = some v) (fun h => ∀ b o, s.heap.get? b = some o → h.get? b = some o) val := fun i v s' Q E hi g q => by -- own
    obtain ⟨a, xs, rfl, ⟨o, ho, hc, hd⟩, hz, hb⟩ := hv i v hi
    refine PyProof.Rows.len_tuple (items := xs) ⟨o, g _ _ ho, hc, hd⟩ (by omega) ?_ -- own
    rw [hz]
    exact q _ _
  rw [nm] -- own
  have keep : ∀ h', KeepX [s.heap.objs.size] h2.objs.size (h2.push (lsO #[] 0)) h' → ∀ b o, s.heap.get? b = some o → h'.get? b = some o := fun h' kp b o e => by -- own
    have lt := Heap.lt_size e
    exact kp b o (fun hm => Nat.ne_of_lt lt (List.mem_singleton.mp hm)) (Nat.ne_of_lt (Nat.lt_trans lt (by rw [sz2]; exact Nat.lt_succ_self _))) (Heap.get?_push_of_some _ (old2 b o e)) -- own
  refine wpAny_pure ⟨plainId_quiet PySem.F.plain_max_loop _, maxk_begin (S := h2.objs.size) (val := val) W hG hk hSf (W.frame _ _ _ st fun b _ o e => Heap.get?_push_of_some _ e) (fun b o e => Heap.get?_push_of_some _ (old2 b o e)) (Heap.get?_push_size _ rfl) (fun z => ?_) (fun z v h' tk hP kp => ?_)⟩ -- own
  · obtain ⟨d, rfl, q⟩ := h0 z
    exact ⟨_, d, rfl, fun h' tk kp => q h' tk (keep h' kp)⟩
  · exact h1 z v h' tk hP (keep h' kp)
end
end CkM
end PySem
namespace Ck
open PySem PySem.Spec PyProof.Rows L2 Evl
/-- the first of the longest -/
def LongF (L : List (List Int)) (ns : List Int) : Prop := ns ∈ L ∧ ∀ m ∈ L, m.length ≤ ns.length
theorem argBest_gtN (val : Nat → Nat) : ∀ k, argBest (fun a b => decide (val a > val b)) k ≤ k ∧ ∀ j, j ≤ k → val j ≤ val (argBest (fun a b => decide (val a > val b)) k)
  | 0 => ⟨Nat.le_refl _, fun j hj => by rw [Nat.le_zero.mp hj]; exact Nat.le_refl _⟩
  | k + 1 => by
    obtain ⟨h1, h2⟩ := argBest_gtN val k
    cases hb : decide (val (k + 1) > val (argBest (fun a b => decide (val a > val b)) k)) with
    | true =>
      have e : argBest (fun a b => decide (val a > val b)) (k + 1) = k + 1 := by simp only [argBest, hb, if_true]
      rw [e]
      have := of_decide_eq_true hb
      refine ⟨Nat.le_refl _, fun j hj => ?_⟩
      rcases Nat.lt_or_ge j (k + 1) with l | l
      · have := h2 j (by omega); omega
      · rw [show j = k + 1 by omega]; exact Nat.le_refl _
    | false =>
      have e : argBest (fun a b => decide (val a > val b)) (k + 1) = argBest (fun a b => decide (val a > val b)) k := by simp only [argBest, hb, Bool.false_eq_true, if_false]
      rw [e]
      have := of_decide_eq_false hb
      refine ⟨by omega, fun j hj => ?_⟩
      rcases Nat.lt_or_ge j (k + 1) with l | l
      · exact h2 j (by omega)
      · rw [show j = k + 1 by omega]; omega
section
variable {X : Cx} {e de : Expr} {te td : TE} {p p1 p2 k1 k2 k3 pos : Pos}
/-- max(xs, key=len, default=d) of tuples of ints -/
def tMaxLD (K : PySem.W.Frag) (te td : TE) : TE := fun σ H Q => te σ H fun x H1 => td σ H1 fun y H2 => ∃ l xs L, x = .ref l ∧ SqL K H2 l xs ∧ F2 (TupI K H2) xs L ∧ (∀ m ∈ L, m.length < 4611686018427387904) ∧ (L = [] → Q y H2) ∧ ∀ t ns, LongF L ns → SqT K H2 t (ns.map V.int) → Q (.ref t) H2
def tMaxL (K : PySem.W.Frag) (te : TE) : TE := fun σ H Q => te σ H fun x H2 => ∃ l xs L, x = .ref l ∧ SqL K H2 l xs ∧ F2 (TupI K H2) xs L ∧ (∀ m ∈ L, m.length < 4611686018427387904) ∧ L ≠ [] ∧ ∀ t ns, LongF L ns → SqT K H2 t (ns.map V.int) → Q (.ref t) H2
theorem max_go {pins : List (Addr × Obj)} {σ : L2.St} {H : Hp} {s : Shared} {Q : VK} {l : Addr} {xs : List V} {L : List (List Int)} {dflt : Option Value} {kw : List (Str × Value)} (hc : X.calm = true) (I : Inv X pins σ H s) (hl : SqL X.K H l xs) (hf : F2 (TupI X.K H) xs L) (hz : ∀ m ∈ L, m.length < 4611686018427387904)
    (ha : argsOk "max" ⟨[.ref l], kw⟩) (hb : Builtin.Builtins.bindParams "max" ["key", "default"] 0 ⟨[], kw⟩ = pure [some (.builtin "len"), dflt]) (h0 : L = [] → ∃ y u, dflt = some u ∧ RelV y u ∧ Q y H) (h1 : ∀ t ns, LongF L ns → SqT X.K H t (ns.map V.int) → Q (.ref t) H) :
    wpAny (model X.prog X.w) X.A (call (.builtin "max") [.ref l] kw) (EP X pins σ Q) X.xe s := by
  obtain ⟨its, rv, pl, _⟩ := I.list hl
  have sz : its.toArray.size = L.length := by rw [List.size_toArray, ← rv.length, hf.len]
  have at1 : ∀ i v, its.toArray[i]? = some v → ∃ (t : Addr) (ns : List Int), v = Value.ref t ∧ L[i]? = some ns ∧ SqT X.K H t (ns.map V.int) := fun i v hi => by
    rw [List.getElem?_toArray] at hi
    have hi2 : i < xs.length := by
      have := (List.getElem?_eq_some_iff.mp hi).1
      rw [rv.length]; exact this
    obtain ⟨u, hu, ru⟩ := Vals.get rv (List.getElem?_eq_getElem hi2)
    rw [hi] at hu
    obtain rfl := Option.some.inj hu
    obtain ⟨ns, hn, t, ht, hq⟩ := hf.at (List.getElem?_eq_getElem hi2)
    rw [ht] at ru
    cases ru
    exact ⟨t, ns, rfl, hn, hq⟩
  refine PySem.CkM.maxk_list (val := fun i => (L.getD i []).length) (I.ok.hd hc) pl.isList ha hb (fun i v hi => ?_) (fun z => ?_) (fun z v h' tk hv hk => ?_)
  · obtain ⟨t, ns, rfl, hn, hq⟩ := at1 i v hi
    obtain ⟨its2, rv2, hT, _⟩ := I.tuple hq
    have e : L.getD i [] = ns := by rw [List.getD_eq_getElem?_getD, hn]; rfl
    refine ⟨t, its2.toArray, rfl, hT, ?_, ?_⟩
    · rw [List.size_toArray, ← rv2.length, List.length_map, e]
    · show (L.getD i []).length < _
      rw [e]
      exact hz ns (List.mem_of_getElem? hn)
  · rw [sz] at z
    obtain ⟨y, u, hd, ry, q⟩ := h0 (List.eq_nil_of_length_eq_zero z)
    exact ⟨u, hd, fun h' tk hk => ⟨y, H, I.kept hk, ry, q⟩⟩
  · obtain ⟨t, ns, rfl, hn, hq⟩ := at1 _ v hv
    obtain ⟨b1, b2⟩ := argBest_gtN (fun i => (L.getD i []).length) (its.toArray.size - 1)
    refine ⟨.ref t, H, I.kept hk, rfl, h1 t ns ⟨List.mem_of_getElem? hn, fun m hm => ?_⟩ hq⟩
    obtain ⟨j, hj, rfl⟩ := List.mem_iff_getElem.mp hm
    have z := b2 j (by rw [sz] ; omega)
    have e1 : L.getD j [] = L[j] := by rw [List.getD_eq_getElem?_getD, List.getElem?_eq_getElem hj]; rfl
    have e2 : L.getD (PySem.CkM.bst (fun i => (L.getD i []).length) its.toArray.size) [] = ns := by rw [List.getD_eq_getElem?_getD, hn]; rfl
    rw [← e1, ← e2]
    exact z
theorem pe_maxLD {x : Str} (hc : X.calm = true) (hx : x = "max") (hg : Gl X "max") (hm : X.mg "max" = none) (hg2 : Gl X "len") (hm2 : X.mg "len" = none) (ha : PA X [e] (tCons te tNil)) (hd : PE X de td)
    (he : backTo pos (starEach [e] X.env) = (false, eval e X.env) :: backTo pos (starEach [] X.env) := by rfl) (hpl : (backTo pos (starEach [e] X.env)).any (·.1) = false := by rfl)
    (hall : (backToKw pos (keywordEach [⟨some "key", .Name "len" p1, k1⟩, ⟨some "default", de, k2⟩] X.env)).all (·.1.isSome) = true := by rfl) (hnone : (backToKw pos (keywordEach [⟨some "key", .Name "len" p1, k1⟩, ⟨some "default", de, k2⟩] X.env)).any (·.1.isNone) = false := by rfl) :
    PE X (.Call (.Name x p) [e] [⟨some "key", .Name "len" p1, k1⟩, ⟨some "default", de, k2⟩] pos) (tMaxLD X.K te td) := by
  subst hx
  refine ⟨fun pins s σ H Q I h => ?_⟩
  refine wpAny_Call_Name_kw (ld_blt I hg hm bt_max ?_)
  refine PyProof.Rows.callWith_kw (thn (ha.run pos pins s σ H (fun vs H1 => match vs with | [x] => td σ H1 fun y H2 => ∃ l xs L, x = .ref l ∧ SqL X.K H2 l xs ∧ F2 (TupI X.K H2) xs L ∧ (∀ m ∈ L, m.length < 4611686018427387904) ∧ (L = [] → Q y H2) ∧ ∀ t ns, LongF L ns → SqT X.K H2 t (ns.map V.int) → Q (.ref t) H2 | _ => False) I h) fun us s1 ⟨vs, H1, I1, r1, q1⟩ => ?_) he hpl hall hnone
  match vs, q1, r1 with
  | [x], q1, r1 =>
  refine PyProof.Rows.kws_cons (ld_blt I1 hg2 hm2 bt_len (PyProof.Rows.kws_cons (thn (hd.run pins s1 σ H1 _ I1 q1) fun u s2 ⟨y, H2, I2, ry, l, xs, L, ex, hl, hf, hz, q0, q3⟩ => PyProof.Rows.kws_nil ?_)))
  subst ex
  rw [Vals.ref1 r1]
  show wpAny _ _ (call (.builtin "max") [.ref l] [(Str.ofString "key", .builtin "len"), (Str.ofString "default", u)]) _ _ _
  exact max_go hc I2 hl hf hz (PySem.CkM.args_maxKD _ _ _) rfl (fun z => ⟨y, u, rfl, ry, q0 z⟩) q3
theorem pe_maxL {x : Str} (hc : X.calm = true) (hx : x = "max") (hg : Gl X "max") (hm : X.mg "max" = none) (hg2 : Gl X "len") (hm2 : X.mg "len" = none) (ha : PA X [e] (tCons te tNil))
    (he : backTo pos (starEach [e] X.env) = (false, eval e X.env) :: backTo pos (starEach [] X.env) := by rfl) (hpl : (backTo pos (starEach [e] X.env)).any (·.1) = false := by rfl)
    (hall : (backToKw pos (keywordEach [⟨some "key", .Name "len" p1, k1⟩] X.env)).all (·.1.isSome) = true := by rfl) (hnone : (backToKw pos (keywordEach [⟨some "key", .Name "len" p1, k1⟩] X.env)).any (·.1.isNone) = false := by rfl) :
    PE X (.Call (.Name x p) [e] [⟨some "key", .Name "len" p1, k1⟩] pos) (tMaxL X.K te) := by
  subst hx
  refine ⟨fun pins s σ H Q I h => ?_⟩
  refine wpAny_Call_Name_kw (ld_blt I hg hm bt_max ?_)
  refine PyProof.Rows.callWith_kw (thn (ha.run pos pins s σ H (fun vs H2 => match vs with | [x] => ∃ l xs L, x = .ref l ∧ SqL X.K H2 l xs ∧ F2 (TupI X.K H2) xs L ∧ (∀ m ∈ L, m.length < 4611686018427387904) ∧ L ≠ [] ∧ ∀ t ns, LongF L ns → SqT X.K H2 t (ns.map V.int) → Q (.ref t) H2 | _ => False) I h) fun us s1 ⟨vs, H1, I1, r1, q1⟩ => ?_) he hpl hall hnone
  match vs, q1, r1 with
  | [x], q1, r1 =>
  obtain ⟨l, xs, L, ex, hl, hf, hz, ne, q3⟩ := q1
  refine PyProof.Rows.kws_cons (ld_blt I1 hg2 hm2 bt_len (PyProof.Rows.kws_nil ?_))
  subst ex
  rw [Vals.ref1 r1]
  show wpAny _ _ (call (.builtin "max") [.ref l] [(Str.ofString "key", .builtin "len")]) _ _ _
  exact max_go hc I1 hl hf hz (PySem.CkM.args_maxK1 _ _) rfl (fun z => absurd z ne) q3
/-! t in xs, tuples of ints -/
def rInT (K : PySem.W.Frag) (neg : Bool) : R2 := fun x y H Q => ∃ (p : Addr) (xs : List V) (ns : List Int) (L : List (List Int)), TupI K H x ns ∧ y = .ref p ∧ SqL K H p xs ∧ F2 (TupI K H) xs L ∧ Q (.bl (if neg then !L.any (fun m => decide (m = ns)) else L.any fun m => decide (m = ns))) H
theorem eqv_tups : ∀ (ms ns : List Int), PyData.eqvAll (ms.map PyData.int) (ns.map PyData.int) = decide (ms = ns)
  | [], [] => by simp [PyData.eqvAll]
  | [], _ :: _ => by simp [PyData.eqvAll]
  | _ :: _, [] => by simp [PyData.eqvAll]
  | m :: ms, n :: ns => by
    simp only [List.map_cons, PyData.eqvAll, PyData.eqv, eqv_tups ms ns]
    by_cases e : m = n
    · subst e; simp
    · rw [decide_eq_false (show ¬ (m :: ms = n :: ns) from fun z => e (List.cons.inj z).1), show (m == n) = false from by simp [e]]; rfl
theorem tup_eqAt {A : Around} {pins : List (Addr × Obj)} {σ : L2.St} {H : Hp} {s : Shared} (I : Inv X pins σ H s) (hu : A.units + 2 < cLine) {x y : V} {u v : Value} {ms ns : List Int} (rx : RelV x u) (ry : RelV y v) (hx : TupI X.K H x ms) (hy : TupI X.K H y ns) :
    SeqAt.EqAt A s u v (decide (TS.intsOf s.heap u = ns)) := by
  obtain ⟨t, rfl, ht⟩ := hx
  obtain ⟨t2, rfl, ht2⟩ := hy
  have ei : TS.intsOf s.heap u = ms := by
    cases rx
    exact (tupI_raw I ht).ints
  obtain ⟨as, r1⟩ := Dp.reads I (.tuple (ms.map PyData.int)) _ u (.tup ht (dpa_ints ms)) rx
  obtain ⟨bs, r2⟩ := Dp.reads I (.tuple (ns.map PyData.int)) _ v (.tup ht2 (dpa_ints ns)) ry
  obtain ⟨f1, f2⟩ := flat_ok ms
  obtain ⟨f3, f4⟩ := flat_ok ns
  have z := SeqAt.eqAt_reads _ _ A s u v as bs r1 r2 (by simp only [PyData.canLay0, f1]) (by simp only [PyData.canLay0, f3]) (by simp only [PyData.depth, f2, f4]; omega)
  rw [ei]
  have ev : PyData.eqv (.tuple (ms.map PyData.int)) (.tuple (ns.map PyData.int)) = decide (ms = ns) := by simp only [PyData.eqv, eqv_tups]
  rw [ev] at z
  exact z
theorem any_tups {pins : List (Addr × Obj)} {σ : L2.St} {H : Hp} {s : Shared} (I : Inv X pins σ H s) (ns : List Int) : ∀ {xs : List V} {us : List Value} {L : List (List Int)}, Vals xs us → F2 (TupI X.K H) xs L → us.any (fun u => decide (TS.intsOf s.heap u = ns)) = L.any fun m => decide (m = ns)
  | _, _, _, .nil, .nil => rfl
  | _, u :: us, m :: L, .cons r t, .cons h f => by
    have ei : TS.intsOf s.heap u = m := by
      obtain ⟨t, rfl, ht⟩ := h
      cases r
      exact (tupI_raw I ht).ints
    rw [List.any_cons, List.any_cons, ei, any_tups I ns t f]
theorem mem_tups {A : Around} {pins : List (Addr × Obj)} {σ : L2.St} {H : Hp} {s : Shared} (I : Inv X pins σ H s) (hu : A.units + 2 < cLine) {y : V} {v : Value} {ns : List Int} (ry : RelV y v) (hy : TupI X.K H y ns) : ∀ {xs : List V} {us : List Value} {L : List (List Int)}, Vals xs us → F2 (TupI X.K H) xs L → ∀ u ∈ us, SeqAt.EqAt A s u v (decide (TS.intsOf s.heap u = ns))
  | _, _, _, .nil, .nil => fun u hu' => by cases hu'
  | _, u :: us, m :: L, .cons r t, .cons h f => fun u' hu' => by
    rcases List.mem_cons.mp hu' with e | hu'
    · subst e
      exact tup_eqAt I hu r ry h hy
    · exact mem_tups I hu ry hy t f u' hu'
theorem op_inT (hu : X.A.units + 64 < cLine) : OpR X (compareOp .In) (rInT X.K false) := by
  intro pins s σ H x y v u Q I rx ry h
  obtain ⟨p, xs, ns, L, hx, rfl, hl, hf, q⟩ := h
  cases ry
  obtain ⟨its, rv, pl, _⟩ := I.list hl
  have hu1 : X.A.in1.units + 2 < cLine := by show X.A.units + 1 + 2 < cLine; omega
  refine SeqAt.in_listAt (fun u => decide (TS.intsOf s.heap u = ns)) pl.isList (fun z hz => mem_tups I hu1 rx hx rv hf z (by simpa using hz)) ⟨.bl _, H, I, rfl, ?_⟩
  rw [show its.toArray.any (fun u => decide (TS.intsOf s.heap u = ns)) = its.any (fun u => decide (TS.intsOf s.heap u = ns)) by simp, any_tups I ns rv hf]
  exact q
theorem op_notInT (hu : X.A.units + 64 < cLine) : OpR X (compareOp .NotIn) (rInT X.K true) := by
  intro pins s σ H x y v u Q I rx ry h
  obtain ⟨p, xs, ns, L, hx, rfl, hl, hf, q⟩ := h
  cases ry
  obtain ⟨its, rv, pl, _⟩ := I.list hl
  have hu1 : X.A.in1.units + 2 < cLine := by show X.A.units + 1 + 2 < cLine; omega
  refine SeqAt.notIn_listAt (fun u => decide (TS.intsOf s.heap u = ns)) pl.isList (fun z hz => mem_tups I hu1 rx hx rv hf z (by simpa using hz)) ⟨.bl _, H, I, rfl, ?_⟩
  rw [show its.toArray.any (fun u => decide (TS.intsOf s.heap u = ns)) = its.any (fun u => decide (TS.intsOf s.heap u = ns)) by simp, any_tups I ns rv hf]
  exact q
end
end Ck

/-! sum(d.values()), a dict with int values -/
namespace Ck
open PySem PySem.Spec PyProof.Rows L2 Evl
def tSumVals (td : TE) : TE := fun σ H Q => td σ H fun x H1 => ∃ (a : Addr) (kvs : List (Key × V)) (is : List Int), x = V.ref a ∧ H1 a = some (.dK kvs) ∧ kvs.map (·.2) = is.map V.int ∧ (∀ i ∈ is, 0 ≤ i) ∧ is.sum < 4611686018427387904 ∧ Q (.int is.sum) H1
theorem sum_take : ∀ (is : List Int), (∀ i ∈ is, 0 ≤ i) → ∀ j, 0 ≤ (is.take j).sum ∧ (is.take j).sum ≤ is.sum
  | [], _, j => by cases j <;> exact ⟨Int.le_refl _, Int.le_refl _⟩
  | i :: r, h, 0 => ⟨Int.le_refl _, by
    obtain ⟨a, b⟩ := sum_take r (fun x hx => h x (List.mem_cons_of_mem _ hx)) 0
    have := h i List.mem_cons_self
    rw [List.take_zero, List.sum_nil, List.sum_cons]
    rw [List.take_zero, List.sum_nil] at b
    omega⟩
  | i :: r, h, j + 1 => by
    obtain ⟨a, b⟩ := sum_take r (fun x hx => h x (List.mem_cons_of_mem _ hx)) j
    have := h i List.mem_cons_self
    rw [List.take_succ_cons, List.sum_cons, List.sum_cons]
    omega
theorem mem_sum : ∀ {is : List Int}, (∀ i ∈ is, 0 ≤ i) → ∀ i ∈ is, i ≤ is.sum
  | x :: r, h, i, hi => by
    have h0 := sum_take r (fun x hx => h x (List.mem_cons_of_mem _ hx)) r.length
    rw [List.take_length] at h0
    rw [List.sum_cons]
    rcases List.mem_cons.mp hi with rfl | hi
    · omega
    · have := mem_sum (fun x hx => h x (List.mem_cons_of_mem _ hx)) i hi
      have := h x List.mem_cons_self
      omega
section
variable {X : Cx} {o : Expr} {p pos apos mpos : Pos} {td : TE}
theorem pe_sumVals (hc : X.calm = true) (hg : Gl X "sum") (hm : X.mg "sum" = none) (hd : PE X o td) (hbase : attributeBase o "values" X.env (eval o X.env) = eval o X.env := by rfl) (hline : (apos.endLine == mpos.line) = true := by rfl) -- own
    (hse : starEach [Expr.Call (.Attribute o "values" apos) [] [] mpos] X.env = [(false, eval (Expr.Call (.Attribute o "values" apos) [] [] mpos) X.env)] := by rfl) : -- own
    PE X (.Call (.Name "sum" p) [.Call (.Attribute o "values" apos) [] [] mpos] [] pos) (tSumVals td) := by -- own
  refine ⟨fun pins s σ H Q I h => ?_⟩ -- own
  refine wpAny_Call_Name_kw (ld_blt I hg hm (u := .builtin "sum") (by first | rfl | decide +kernel) ?_ (by first | decide +kernel | decide) (by first | decide +kernel | decide)) -- own
  rw [hse]
  refine PySem.callWith_builtin1 (wpAny_Call_method0_late hbase hline (thn (hd.run pins s σ H _ I h) fun v s1 ⟨x, H1, I1, r1, a, kvs, is, ex, ha, hv, hp, hz, q⟩ => ?_)) -- own
  subst ex
  obtain rfl : v = Value.ref a := r1 -- own
  obtain ⟨_, hsys, vs, rel, dof⟩ := dk_of I1.hok ha -- own
  obtain ⟨ep, dat⟩ := dof.dictAt -- own
  have dat' := dat -- own
  obtain ⟨ob, es, ho, ex, hdat, hko, hpr, hnd⟩ := dat' -- own
  refine ⟨"dict", "dict.values", F.plainAttrs_dict, F.slot_dict_values, F.type_dict_values, ⟨ob, ho, ex.1⟩, fun b e => ?_, Calls.callWith_builtin rfl (PySem.evalArgs_none ?_)⟩ -- own
  · cases e
    exact ⟨ob, ho, ex.2.1⟩ -- own
  refine call_meetsIn F.slot_dict_values ⟨ob, ho, ex.1⟩ F.entry_dict_values (F.args_dict_values_1 _) (meets_dict_values (mixKind X.prog X.w) a hsys) ⟨⟨vs, dof⟩, ?_⟩ -- own
  have k1 : ∀ b u, s1.heap.get? b = some u → (s1.heap.push { cls := .type "dict_values", data := .fields #[.ref a] }).get? b = some u := fun b u e => Heap.get?_push_of_some _ e -- own
  have dat1 : (s1.heap.push { cls := .type "dict_values", data := .fields #[.ref a] }).DictAt (mixKind X.prog X.w) a vs ep := dat.keep k1 -- own
  have hlv : vs.length = is.length := by
    have e1 := congrArg List.length hv
    rw [List.length_map, List.length_map] at e1
    rw [← e1]
    exact (KV.length rel).symm -- own
  have hval : ∀ (i : Nat) (v : Value), (∃ k, vs[i]? = some (k, v)) → ∃ t, v = Value.int (is.getD i 0) t := fun i v ⟨k, hk⟩ => by -- own
    obtain ⟨x, h1, h2⟩ := KV.at' rel hk -- own
    have e1 : (kvs.map (·.2))[i]? = some x := by rw [List.getElem?_map, h1] <;> rfl -- own
    rw [hv, List.getElem?_map] at e1
    obtain ⟨j, hj, e2⟩ := Option.map_eq_some_iff.mp e1 -- own
    subst e2
    obtain ⟨t, e3⟩ := h2
    refine ⟨t, ?_⟩
    rw [e3, List.getD_eq_getElem?_getD, hj] <;> rfl -- own
  refine call_sum_walk (wpAny_pyIter_values (v := s1.heap.objs.size) (d := a) ⟨_, Heap.get?_push_size _ rfl, rfl, rfl⟩ dat1 ?_) -- own
  have hlt : a < s1.heap.objs.size := Heap.lt_size ho -- own
  have hsz : (s1.heap.push { cls := .type "dict_values", data := .fields #[.ref a] }).objs.size = s1.heap.objs.size + 1 := Heap.size_push _ _ -- own
  refine ⟨_, _, _, _, _, _, fun i => is.getD i 0, rfl, Walks.dictValues (knd := mixKind X.prog X.w) (A := X.A.in1) (I.ok.hd hc) (s1.heap.push { cls := .type "dict_values", data := .fields #[.ref a] }).objs.size a (by rw [hsz]; exact Nat.ne_of_lt (Nat.lt_succ_of_lt hlt)) vs ep, -- own
    ⟨⟨_, Heap.get?_push_size _ rfl, rfl, rfl⟩, dat1.keep fun b u e => Heap.get?_push_of_some _ e⟩, fun b hb => ?_, hval, fun j hj => ?_, fun h' tk t' hk => ?_⟩ -- own
  · show b < ((s1.heap.push _).push _).objs.size -- own
    rw [Heap.size_push, Heap.size_push]
    rw [hsz] at hb
    rcases List.mem_cons.mp hb with e | hb
    · rw [e]
      exact Nat.lt_succ_self _
    · have e : b = a := List.mem_singleton.mp hb -- own
      rw [e]
      exact Nat.lt_succ_of_lt (Nat.lt_succ_of_lt hlt) -- own
  · rw [hlv] at hj
    have e1 : is.getD j 0 = is[j] := by rw [List.getD_eq_getElem?_getD, List.getElem?_eq_getElem hj]; rfl
    have b1 := hp _ (List.getElem_mem hj)
    have b2 := mem_sum hp _ (List.getElem_mem hj)
    have b3 := sum_take is hp (j + 1)
    rw [PyProof.Rows.preSum_getD]
    show InLong (is.getD j 0) ∧ _
    rw [e1]
    unfold InLong
    omega
  · refine ⟨.int _, H1, I1.kept (t' := tk) fun b u e => hk b u (fun hmem => ?_) (Heap.get?_push_of_some _ (k1 b u e)), ⟨t', ?_⟩, q⟩ -- own
    · have e1 : b = (s1.heap.push { cls := .type "dict_values", data := .fields #[.ref a] }).objs.size := List.mem_singleton.mp hmem -- own
      have e2 := Heap.lt_size e
      rw [hsz] at e1
      rw [e1] at e2
      exact absurd e2 (Nat.not_lt.mpr (Nat.le_succ _)) -- own
    · rw [PyProof.Rows.preSum_getD, hlv, List.take_length]
end
end Ck

/-! chains among the parts of some sizes: how many, how long -/
namespace Ck
open PySem PySem.Spec PyProof.Rows L2
def subs (ns : List Int) : List (List Int) := ns.foldl (fun acc x => acc ++ acc.map fun t => t ++ [x]) [[]]
def isCh (t : List Int) : Bool := !t.isEmpty && (gap t).isNone
def chs (ns : List Int) : List (List Int) := (subs ns).filter isCh
def lst (t : List Int) : Int := t.getLastD 0
def endC (ns : List Int) (s : Int) : Nat := ((chs ns).filter fun t => decide (lst t = s)).length
theorem subs_snoc (ns : List Int) (x : Int) : subs (ns ++ [x]) = subs ns ++ (subs ns).map fun t => t ++ [x] := by
  unfold subs
  rw [List.foldl_append]
  rfl
theorem rev_ind {P : List Int → Prop} (h0 : P []) (h1 : ∀ ns x, P ns → P (ns ++ [x])) : ∀ ns, P ns := fun ns => by
  have key : ∀ k, ∀ ns : List Int, ns.length = k → P ns := by
    intro k
    induction k with
    | zero => intro ns h; rw [List.eq_nil_of_length_eq_zero h]; exact h0
    | succ k ih =>
      intro ns h
      have ne : ns ≠ [] := fun z => by rw [z] at h; cases h
      rw [← List.dropLast_concat_getLast ne]
      exact h1 _ _ (ih _ (by rw [List.length_dropLast, h]; rfl))
  exact key _ ns rfl
theorem snoc_sub {t ns : List Int} {x : Int} : t.Sublist (ns ++ [x]) ↔ t.Sublist ns ∨ ∃ u, t = u ++ [x] ∧ u.Sublist ns := by
  rw [List.sublist_append_iff]
  constructor
  · rintro ⟨a, b, rfl, ha, hb⟩
    cases b with
    | nil => rw [List.append_nil]; exact .inl ha
    | cons y r =>
      have e : y :: r = [x] := hb.eq_of_length_le (by rw [List.length_cons]; exact Nat.succ_le_succ (Nat.zero_le _))
      rw [e]
      exact .inr ⟨a, rfl, ha⟩
  · rintro (h | ⟨u, rfl, h⟩)
    · exact ⟨t, [], (List.append_nil t).symm, h, List.nil_sublist _⟩
    · exact ⟨u, [x], rfl, h, List.Sublist.refl _⟩
theorem subs_mem : ∀ {ns t : List Int}, t ∈ subs ns ↔ t.Sublist ns := by
  intro ns
  refine rev_ind (P := fun ns => ∀ {t : List Int}, t ∈ subs ns ↔ t.Sublist ns) (fun {t} => ?_) (fun ns x ih {t} => ?_) ns
  · show t ∈ [[]] ↔ _
    rw [List.mem_singleton, List.sublist_nil]
  · rw [subs_snoc, List.mem_append, List.mem_map, snoc_sub, ih]
    constructor
    · rintro (h | ⟨u, hu, rfl⟩)
      · exact .inl h
      · exact .inr ⟨u, rfl, ih.mp hu⟩
    · rintro (h | ⟨u, rfl, hu⟩)
      · exact .inl h
      · exact .inr ⟨u, ih.mpr hu, rfl⟩
theorem subs_mono : ∀ {ms ns : List Int}, ns.Sublist ms → (subs ns).Sublist (subs ms) := by
  intro ms
  refine rev_ind (P := fun ms => ∀ {ns : List Int}, ns.Sublist ms → (subs ns).Sublist (subs ms)) (fun {ns} h => ?_) (fun ms x ih {ns} h => ?_) ms
  · rw [List.sublist_nil.mp h]
    exact List.Sublist.refl _
  · rcases snoc_sub.mp h with h2 | ⟨u, e, h2⟩
    · rw [subs_snoc]
      exact (ih h2).trans (List.sublist_append_left _ _)
    · rw [e, subs_snoc, subs_snoc]
      exact (ih h2).append ((ih h2).map _)
theorem chs_mem {ns t : List Int} : t ∈ chs ns ↔ t.Sublist ns ∧ isCh t = true := by
  unfold chs
  rw [List.mem_filter, subs_mem]
theorem chs_mono {ns ms : List Int} (h : ns.Sublist ms) : (chs ns).Sublist (chs ms) := (subs_mono h).filter _
/-- rising, above 0 -/
structure Ris (ns : List Int) : Prop where
  lt : ns.Pairwise (· < ·)
  pos : ∀ n ∈ ns, 0 < n
theorem Ris.sub {ns ms : List Int} (h : Ris ms) (s : ns.Sublist ms) : Ris ns := ⟨h.lt.sublist s, fun n hn => h.pos n (s.subset hn)⟩
theorem Ris.dv {t : List Int} (h : Ris t) : (gap t).isNone = true ↔ t.Pairwise Dv := ⟨fun g => chain_pw (pw_asc h.lt) (Option.isNone_iff_eq_none.mp g) h.pos, fun p => by rw [pw_gap p]; rfl⟩
theorem lst_snoc (t : List Int) (x : Int) : lst (t ++ [x]) = x := by
  unfold lst
  rw [List.getLastD_eq_getLast?, List.getLast?_append]
  rfl
theorem lst_mem {t : List Int} (h : t ≠ []) : lst t ∈ t := by
  unfold lst
  rw [List.getLastD_eq_getLast?, List.getLast?_eq_some_getLast h]
  exact List.getLast_mem h
theorem dv_last {t : List Int} (h : t.Pairwise Dv) (a : Int) (ha : a ∈ t) : a = lst t ∨ Dv a (lst t) := by
  have ne : t ≠ [] := fun z => by rw [z] at ha; cases ha
  have e := List.dropLast_concat_getLast ne
  have el : lst t = t.getLast ne := by
    unfold lst
    rw [List.getLastD_eq_getLast?, List.getLast?_eq_some_getLast ne]
    rfl
  rw [← e] at h ha
  rw [el]
  rcases List.mem_append.mp ha with ha | ha
  · exact .inr ((List.pairwise_append.mp h).2.2 a ha _ List.mem_cons_self)
  · exact .inl (List.mem_singleton.mp ha)
theorem ch_snoc {t : List Int} {x : Int} (h : Ris (t ++ [x])) : isCh (t ++ [x]) = (t.isEmpty || (isCh t && decide (x % lst t = 0))) := by
  have ht : Ris t := h.sub (List.sublist_append_left _ _)
  have ne : (t ++ [x]).isEmpty = false := by cases t <;> rfl
  unfold isCh
  rw [ne, Bool.not_false, Bool.true_and]
  cases hc : t.isEmpty with
  | true =>
    rw [List.isEmpty_iff] at hc
    subst hc
    rfl
  | false =>
    have tn : t ≠ [] := fun z => by rw [z] at hc; cases hc
    rw [Bool.false_or, Bool.not_false, Bool.true_and]
    have lx : ∀ a ∈ t, a < x := fun a ha => (List.pairwise_append.mp h.lt).2.2 a ha x List.mem_cons_self
    rw [Bool.eq_iff_iff, h.dv, Bool.and_eq_true, ht.dv, decide_eq_true_eq, List.pairwise_append]
    constructor
    · rintro ⟨p, _, q⟩
      exact ⟨p, (q _ (lst_mem tn) x List.mem_cons_self).2⟩
    · rintro ⟨p, q⟩
      refine ⟨p, List.pairwise_singleton _ _, fun a ha b hb => ?_⟩
      obtain rfl := List.mem_singleton.mp hb
      refine ⟨lx a ha, ?_⟩
      rcases dv_last p a ha with e | d
      · rw [e]; exact q
      · exact Int.emod_eq_zero_of_dvd (Int.dvd_trans (Int.dvd_of_emod_eq_zero d.2) (Int.dvd_of_emod_eq_zero q))
theorem isCh_ne {t : List Int} (h : isCh t = true) : t ≠ [] := fun z => by rw [z] at h; cases h
theorem empty_one : ∀ ns : List Int, ((subs ns).filter List.isEmpty).length = 1 := by
  refine rev_ind (P := fun ns => ((subs ns).filter List.isEmpty).length = 1) rfl (fun ns x ih => ?_)
  rw [subs_snoc, List.filter_append, List.length_append, ih]
  have : ((subs ns).map fun t => t ++ [x]).filter List.isEmpty = [] := by
    rw [List.filter_eq_nil_iff]
    intro t ht
    obtain ⟨u, _, rfl⟩ := List.mem_map.mp ht
    cases u <;> exact Bool.false_ne_true
  rw [this]
  rfl
theorem filter_or {α : Type} {p q : α → Bool} : ∀ (l : List α), (∀ a ∈ l, ¬ (p a = true ∧ q a = true)) → (l.filter fun a => p a || q a).length = (l.filter p).length + (l.filter q).length
  | [], _ => rfl
  | a :: l, h => by
    have ih := filter_or l fun b hb => h b (List.mem_cons_of_mem _ hb)
    have h0 := h a List.mem_cons_self
    rw [List.filter_cons, List.filter_cons, List.filter_cons]
    cases hp : p a <;> cases hq : q a
    · simpa using ih
    · simp [ih]; omega
    · simp [ih]; omega
    · exact absurd ⟨hp, hq⟩ h0
/-- the chains that end with x -/
theorem chs_snoc {ns : List Int} {x : Int} (h : Ris (ns ++ [x])) : chs (ns ++ [x]) = chs ns ++ ((subs ns).filter fun t => t.isEmpty || (isCh t && decide (x % lst t = 0))).map fun t => t ++ [x] := by
  unfold chs
  rw [subs_snoc, List.filter_append, List.filter_map]
  congr 2
  refine List.filter_congr fun t ht => ?_
  exact ch_snoc (h.sub ((subs_mem.mp ht).append (List.Sublist.refl _)))
theorem new_len {ns : List Int} {x : Int} : ((subs ns).filter fun t => t.isEmpty || (isCh t && decide (x % lst t = 0))).length = 1 + ((chs ns).filter fun t => decide (x % lst t = 0)).length := by
  rw [filter_or _ fun t ht => ?_, empty_one]
  · congr 1
    unfold chs
    rw [List.filter_filter]
    refine congrArg List.length (List.filter_congr fun t _ => Bool.and_comm _ _)
  · rintro ⟨a, b⟩
    rw [List.isEmpty_iff] at a
    subst a
    cases b
theorem chs_len {ns : List Int} {x : Int} (h : Ris (ns ++ [x])) : (chs (ns ++ [x])).length = (chs ns).length + (1 + ((chs ns).filter fun t => decide (x % lst t = 0)).length) := by
  rw [chs_snoc h, List.length_append, List.length_map, new_len]
theorem last_in {ns t : List Int} (h : t ∈ chs ns) : lst t ∈ ns := by
  obtain ⟨a, b⟩ := chs_mem.mp h
  exact a.subset (lst_mem (isCh_ne b))
theorem x_out {ns : List Int} {x : Int} (h : Ris (ns ++ [x])) : x ∉ ns := fun z => by
  have := (List.pairwise_append.mp h.lt).2.2 x z x List.mem_cons_self
  omega
theorem end_old {ns : List Int} {x s : Int} (h : Ris (ns ++ [x])) (hs : s ∈ ns) : endC (ns ++ [x]) s = endC ns s := by
  unfold endC
  rw [chs_snoc h, List.filter_append, List.length_append]
  have : (((subs ns).filter fun t => t.isEmpty || (isCh t && decide (x % lst t = 0))).map fun t => t ++ [x]).filter (fun t => decide (lst t = s)) = [] := by
    rw [List.filter_eq_nil_iff]
    intro t ht z
    obtain ⟨u, _, rfl⟩ := List.mem_map.mp ht
    have := of_decide_eq_true z
    rw [lst_snoc] at this
    subst this
    exact x_out h hs
  rw [this]
  rfl
theorem end_new {ns : List Int} {x : Int} (h : Ris (ns ++ [x])) : endC (ns ++ [x]) x = 1 + ((chs ns).filter fun t => decide (x % lst t = 0)).length := by
  unfold endC
  rw [chs_snoc h, List.filter_append, List.length_append]
  have a : (chs ns).filter (fun t => decide (lst t = x)) = [] := by
    rw [List.filter_eq_nil_iff]
    intro t ht z
    have := last_in ht
    rw [of_decide_eq_true z] at this
    exact x_out h this
  have b : (((subs ns).filter fun t => t.isEmpty || (isCh t && decide (x % lst t = 0))).map fun t => t ++ [x]).filter (fun t => decide (lst t = x)) = ((subs ns).filter fun t => t.isEmpty || (isCh t && decide (x % lst t = 0))).map fun t => t ++ [x] := by
    rw [List.filter_eq_self]
    intro t ht
    obtain ⟨u, _, rfl⟩ := List.mem_map.mp ht
    exact decide_eq_true (lst_snoc _ _)
  rw [a, b, List.length_map, new_len]
  simp
/-- parted by their last ones -/
theorem by_last {P : Int → Bool} {ns : List Int} (hn : ns.Pairwise (· < ·)) : ∀ {L : List (List Int)}, (∀ t ∈ L, lst t ∈ ns) → ((ns.filter P).map fun s => (L.filter fun t => decide (lst t = s)).length).sum = (L.filter fun t => P (lst t)).length
  | [], _ => by
    have : ∀ l : List Int, (l.map fun s => (([] : List (List Int)).filter fun t => decide (lst t = s)).length).sum = 0 := by
      intro l
      induction l with
      | nil => rfl
      | cons a r ih => rw [List.map_cons, List.sum_cons, ih]; rfl
    exact this _
  | t :: L, h => by
    have ih := by_last (P := P) hn (L := L) fun u hu => h u (List.mem_cons_of_mem _ hu)
    have one : ∀ l : List Int, l.Pairwise (· < ·) → (l.map fun s => ((t :: L).filter fun t => decide (lst t = s)).length).sum = (l.map fun s => (L.filter fun t => decide (lst t = s)).length).sum + if lst t ∈ l then 1 else 0 := by
      intro l
      induction l with
      | nil => intro _; rfl
      | cons a r ihr =>
        intro hp
        obtain ⟨h1, h2⟩ := List.pairwise_cons.mp hp
        rw [List.map_cons, List.sum_cons, List.map_cons, List.sum_cons, ihr h2, List.filter_cons]
        by_cases e : lst t = a
        · have no : lst t ∉ r := fun z => by have := h1 _ z; omega
          rw [if_pos (decide_eq_true e), List.length_cons, if_neg no, if_pos (by rw [e]; exact List.mem_cons_self)]
          omega
        · rw [if_neg (by rw [decide_eq_false e]; exact Bool.false_ne_true)]
          by_cases m : lst t ∈ r
          · rw [if_pos m, if_pos (List.mem_cons_of_mem _ m)]
            omega
          · rw [if_neg m, if_neg (fun z => (List.mem_cons.mp z).elim e m)]
            omega
    rw [one _ (hn.filter _), ih, List.filter_cons]
    have m := h t List.mem_cons_self
    cases hP : P (lst t) with
    | true => rw [if_pos (List.mem_filter.mpr ⟨m, hP⟩), if_pos rfl, List.length_cons]
    | false => rw [if_neg (fun z => by have := (List.mem_filter.mp z).2; rw [hP] at this; cases this), if_neg Bool.false_ne_true]; rfl
theorem sum_ends {ns : List Int} (h : Ris ns) : ((ns.map fun s => endC ns s)).sum = (chs ns).length := by
  have z := by_last (P := fun _ => true) h.lt (L := chs ns) fun t ht => last_in ht
  rw [List.filter_eq_self.mpr fun _ _ => rfl, List.filter_eq_self.mpr fun _ _ => rfl] at z
  exact z
theorem sum_divs {ns : List Int} (h : Ris ns) (x : Int) : (((ns.filter fun s => decide (x % s = 0)).map fun s => endC ns s)).sum = ((chs ns).filter fun t => decide (x % lst t = 0)).length :=
  by_last (P := fun s => decide (x % s = 0)) h.lt (L := chs ns) fun t ht => last_in ht
/-- a best one of those that end with s -/
structure Best (ns : List Int) (s : Int) (t : List Int) : Prop where
  ch : t ∈ chs ns
  la : lst t = s
  mx : ∀ u ∈ chs ns, lst u = s → u.length ≤ t.length
theorem best_old {ns : List Int} {x s : Int} {t : List Int} (h : Ris (ns ++ [x])) (hs : s ∈ ns) (b : Best ns s t) : Best (ns ++ [x]) s t := by
  refine ⟨by rw [chs_snoc h]; exact List.mem_append_left _ b.ch, b.la, fun u hu e => ?_⟩
  rw [chs_snoc h] at hu
  rcases List.mem_append.mp hu with hu | hu
  · exact b.mx u hu e
  · obtain ⟨v, _, rfl⟩ := List.mem_map.mp hu
    rw [lst_snoc] at e
    subst e
    exact absurd hs (x_out h)
theorem best_new {ns : List Int} {x : Int} {m : List Int} (h : Ris (ns ++ [x])) (hm : m = [] ∨ (m ∈ chs ns ∧ x % lst m = 0)) (hx : ∀ u ∈ chs ns, x % lst u = 0 → u.length ≤ m.length) : Best (ns ++ [x]) x (m ++ [x]) := by
  have sub : m ∈ subs ns := by
    rcases hm with rfl | ⟨hm, _⟩
    · exact subs_mem.mpr (List.nil_sublist _)
    · exact (List.mem_filter.mp hm).1
  refine ⟨?_, lst_snoc _ _, fun u hu e => ?_⟩
  · rw [chs_snoc h]
    refine List.mem_append_right _ (List.mem_map.mpr ⟨m, List.mem_filter.mpr ⟨sub, ?_⟩, rfl⟩)
    rcases hm with rfl | ⟨hm, hd⟩
    · rfl
    · rw [(List.mem_filter.mp hm).2, decide_eq_true hd]
      exact Bool.or_true _
  · rw [chs_snoc h] at hu
    rcases List.mem_append.mp hu with hu | hu
    · have := last_in hu
      rw [e] at this
      exact absurd this (x_out h)
    · obtain ⟨v, hv, rfl⟩ := List.mem_map.mp hu
      obtain ⟨_, hv2⟩ := List.mem_filter.mp hv
      rw [List.length_append, List.length_append]
      have key : v.length ≤ m.length := by
        cases he : v.isEmpty with
        | true =>
          rw [List.isEmpty_iff] at he
          subst he
          exact Nat.zero_le _
        | false =>
          rw [he, Bool.false_or, Bool.and_eq_true] at hv2
          exact hx v (List.mem_filter.mpr ⟨(List.mem_filter.mp hv).1, hv2.1⟩) (of_decide_eq_true hv2.2)
      exact Nat.add_le_add_right key _
/-! all sizes times a number -/
theorem gap_cons (x y : Int) (r : List Int) : (gap (x :: y :: r)).isNone = (decide (y % x = 0) && (gap (y :: r)).isNone) := by
  show (((x, y) :: adj (fun x y => (x, y)) (y :: r)).find? (fun p => !decide (p.2 % p.1 = 0))).isNone = _
  rw [List.find?_cons]
  cases decide (y % x = 0) <;> rfl
theorem gap_times {k : Int} (hk : 0 < k) : ∀ t : List Int, (gap (t.map (· * k))).isNone = (gap t).isNone
  | [] => rfl
  | [_] => rfl
  | x :: y :: r => by
    rw [List.map_cons, List.map_cons, gap_cons, gap_cons]
    have ih := gap_times hk (y :: r)
    rw [List.map_cons] at ih
    rw [ih]
    congr 1
    refine decide_eq_decide.mpr ?_
    constructor
    · intro h
      obtain ⟨c, hc⟩ := Int.dvd_of_emod_eq_zero h
      refine Int.emod_eq_zero_of_dvd ⟨c, Int.eq_of_mul_eq_mul_right (show k ≠ 0 by omega) ?_⟩
      rw [hc, Int.mul_assoc, Int.mul_comm k c, ← Int.mul_assoc]
    · intro h
      obtain ⟨c, hc⟩ := Int.dvd_of_emod_eq_zero h
      refine Int.emod_eq_zero_of_dvd ⟨c, ?_⟩
      rw [hc, Int.mul_assoc, Int.mul_comm c k, ← Int.mul_assoc]
theorem subs_map (f : Int → Int) : ∀ ns : List Int, subs (ns.map f) = (subs ns).map (List.map f) := by
  refine rev_ind (P := fun ns => subs (ns.map f) = (subs ns).map (List.map f)) rfl (fun ns x ih => ?_)
  rw [List.map_append, List.map_singleton, subs_snoc, subs_snoc, ih, List.map_append, List.map_map, List.map_map]
  congr 1
  refine List.map_congr_left fun t _ => ?_
  simp
theorem chs_times {k : Int} (hk : 0 < k) (ns : List Int) : (chs (ns.map (· * k))).length = (chs ns).length := by
  unfold chs
  rw [subs_map, List.filter_map, List.length_map]
  refine congrArg List.length (List.filter_congr fun t _ => ?_)
  show isCh (t.map (· * k)) = isCh t
  unfold isCh
  rw [gap_times hk]
  cases t <;> rfl
theorem subs_len : ∀ ns : List Int, (subs ns).length = 2 ^ ns.length := by
  refine rev_ind (P := fun ns => (subs ns).length = 2 ^ ns.length) rfl (fun ns x ih => ?_)
  rw [subs_snoc, List.length_append, List.length_map, ih, List.length_append, Nat.pow_add]
  show 2 ^ ns.length + 2 ^ ns.length = 2 ^ ns.length * 2 ^ 1
  omega
end Ck

/-! comprehensions over lists of tuples -/
namespace Ck
open PySem PySem.Spec PyProof.Rows L2 Evl
/-- a list comes, its items one by one -/
def EvF {α : Type} (K : PySem.W.Frag) (R : Hp → V → α → Prop) (te : TE) (σ : L2.St) (H : Hp) (as : List α) : Prop := ∀ H1, Ex H H1 → ∀ Q : VK, (∀ p xs H2, Ex H1 H2 → SqL K H2 p xs → F2 (R H2) xs as → Q (.ref p) H2) → te σ H1 Q
section
variable {K : PySem.W.Frag} {σ : L2.St} {H : Hp} {tl te : TE} {tt : TT} {a : Addr} {xs : List V} {j : Nat} {ws : List Nat} {α β : Type} {R : Hp → V → α → Prop} {R' : Hp → V → β → Prop} {as : List α} {c : α → Bool} {e : α → β}
theorem evf_var (L : ∀ H H' x b, Ex H H' → R H x b → R H' x b) (h : Ev tl σ H (.ref a)) (hl : SqL K H a xs) (hf : F2 (R H) xs as) : EvF K R tl σ H as := fun H1 e1 Q q => h H1 e1 _ fun H2 e2 => q a xs H2 e2 (ex_l (e1.trans e2) hl) (hf.imp fun x b r => L _ _ _ _ (e1.trans e2) r)
theorem lc_listF (L : ∀ H H' x b, Ex H H' → R H x b → R H' x b) (L' : ∀ H H' x b, Ex H H' → R' H x b → R' H' x b) (LU : ∀ H l xs ys x b, H l = some (.lst xs) → R' H x b → R' (upd H l (.lst ys)) x b)
    (h : EvF K R tl σ H as) (hz : as.length ≤ 40000) (hw : ∀ x, wipe ((wipe σ ws).set j (some x)) ws = wipe σ ws)
    (ht : ∀ x b, b ∈ as → ∀ H1, Ex H H1 → R H1 x b → EvT tt ((wipe σ ws).set j (some x)) H1 (c b)) (he : ∀ x b, b ∈ as → c b = true → ∀ H1, Ex H H1 → R H1 x b → EvR R' te ((wipe σ ws).set j (some x)) H1 (e b)) :
    ∀ H1, Ex H H1 → ∀ Q : VK, (∀ D vs H2, H1 D = none → Ex H1 H2 → H2 D = some (.lst vs) → F2 (R' H2) vs ((as.filter c).map e) → Q (.ref D) H2) → tLc (iList K tl) (gName j) tt te ws σ H1 Q := fun H0 e0 Q q => h H0 e0 _ fun a xs H1 e1 hx hf => ⟨a, rfl, ⟨_, hx⟩, fun D hD => by
  have hxl : xs.length ≤ 40000 := by rw [hf.len]; exact hz
  refine lc_it walk_list (fun i H' => H1 D = none ∧ Ex H1 H' ∧ ∃ vs, H' D = some (.lst vs) ∧ vs.length ≤ i ∧ F2 (R' H') vs (((as.take i).filter c).map e)) ⟨hD, Ex.new hD, [], upd_same, Nat.le_refl _, .nil⟩ (fun i H' _ p => ex_l p.2.1 hx) ?_ ?_
  · rintro i x H2 H3 hi ⟨p1, p2, vs, p3, p4, p5⟩ ⟨e3, hxi⟩
    rw [e3]
    obtain ⟨b, hb, r⟩ := hf.at hxi
    have m := List.mem_of_getElem? hb
    have e02 := (e0.trans e1).trans p2
    refine ⟨hw _, ht x b m H2 e02 (L _ _ _ _ p2 r) H2 (Ex.refl H2) _ fun H4 e4 => ?_⟩
    have st : as.take (i + 1) = as.take i ++ [b] := by rw [List.take_add_one, hb]; rfl
    cases hc : c b with
    | true =>
      refine iteT (he x b m hc H4 (e02.trans e4) (L _ _ _ _ (p2.trans e4) r) H4 (Ex.refl H4) _ fun v H5 e5 hv => ⟨vs, (e4.trans e5) _ _ p3, sz_lt (by omega), p1, Ex.mut (p2.trans (e4.trans e5)) p1, vs ++ [v], upd_same, by rw [List.length_append]; exact Nat.succ_le_succ p4, ?_⟩)
      have hD5 : H5 D = some (.lst vs) := (e4.trans e5) _ _ p3
      rw [st, List.filter_append, List.map_append, show [b].filter c = [b] by rw [List.filter_cons, hc]; rfl]
      exact ((p5.imp fun x b r => LU _ _ _ _ _ _ hD5 (L' _ _ _ _ (e4.trans e5) r)).app (.cons (LU _ _ _ _ _ _ hD5 hv) .nil))
    | false =>
      refine iteF ⟨p1, p2.trans e4, vs, e4 _ _ p3, Nat.le_succ_of_le p4, ?_⟩
      rw [st, List.filter_append, show [b].filter c = [] by rw [List.filter_cons, hc]; rfl, List.append_nil]
      exact p5.imp fun x b r => L' _ _ _ _ e4 r
  · rintro H2 ⟨p1, p2, vs, p3, _, p5⟩
    rw [hf.len, List.take_of_length_le (Nat.le_refl _)] at p5
    exact q D vs H2 (fresh_back e1 p1) (e1.trans p2) p3 p5⟩
theorem sq_asgF {D : Ends} {z : TS} {i : Nat} {bs : List β} (h : ∀ H1, Ex H H1 → ∀ Q : VK, (∀ D vs H2, H1 D = none → Ex H1 H2 → H2 D = some (.lst vs) → F2 (R' H2) vs bs → Q (.ref D) H2) → te σ H1 Q)
    (k : ∀ l vs H1, H l = none → Ex H H1 → H1 l = some (.lst vs) → F2 (R' H1) vs bs → z D (σ.set i (some (.ref l))) H1) : tSeq (tAsg te (gName i)) z D σ H := h H (Ex.refl H) (fun x H1 => gName i x σ H1 (z D)) k
/-- an int -/
def RI (_ : Hp) (x : V) (n : Int) : Prop := x = .int n
theorem f2_ints {H : Hp} : ∀ {vs : List V} {ns : List Int}, F2 (RI H) vs ns → vs = ns.map V.int
  | _, _, .nil => rfl
  | _, _, .cons h t => by rw [h, f2_ints t]; rfl
/-- a tuple of ints -/
def RL (K : PySem.W.Frag) (H : Hp) (x : V) (t : List Int) : Prop := TupI K H x t
theorem RL.ex {H H' : Hp} {x : V} {t : List Int} (e : Ex H H') (h : RL K H x t) : RL K H' x t := by
  obtain ⟨p, h1, h2⟩ := h
  exact ⟨p, h1, ex_t e h2⟩
theorem RL.upd {H : Hp} {l : Addr} {xs ys : List V} {x : V} {t : List Int} (hl : H l = some (.lst xs)) (h : RL K H x t) : RL K (L2.upd H l (.lst ys)) x t := by
  obtain ⟨p, h1, h2⟩ := h
  exact ⟨p, h1, sqT_updL h2 hl⟩
end
end Ck

/-! the program's errors as values: making one, isinstance, its field -/
namespace Ck
open PySem PySem.Spec PyProof.Rows L2
/-- an error of the class D that lies at a, with its field -/
def Xv (H : Hp) (D a : Addr) (fs : List (Str × V)) : Prop := (fs = [] ∧ H a = some (ExO (.ref D) a)) ∨ ∃ z, H a = some (exo a D (some z)) ∧ H z = some (exd z fs)
theorem Xv.up {H H' : Hp} {D a : Addr} {fs : List (Str × V)} (x : Xv H D a fs) (e : ∀ b o, H b = some o → H' b = some o) : Xv H' D a fs := by
  rcases x with ⟨h, k⟩ | ⟨z, h, k⟩
  · exact .inl ⟨h, e _ _ k⟩
  · exact .inr ⟨z, e _ _ h, e _ _ k⟩
section
variable {X : Cx} {pins : List (Addr × Obj)} {σ : L2.St} {H : Hp} {s : Shared} {D a : Addr} {fs : List (Str × V)}
theorem Xv.inst (I : Inv X pins σ H s) (x : Xv H D a fs) : ∃ oe od, PySem.W.InstAt s.heap a oe D od := by
  rcases x with ⟨_, k⟩ | ⟨z, h, k⟩
  · obtain ⟨⟨oe, vs, ho, hz, hd, _⟩, _, _⟩ := I.hok a _ k
    obtain ⟨oc, odi, oda, osl⟩ := oe
    obtain ⟨h1, h2⟩ := hz
    dsimp only at h1 h2 hd
    subst h1 h2 hd
    exact ⟨_, none, ho, rfl, rfl, trivial⟩
  · obtain ⟨⟨t, ho⟩, _, _⟩ := I.hok a _ h
    obtain ⟨mA, hn, _⟩ := exd_at I.hok k
    obtain ⟨od, hod, _⟩ := lookIn_ns hn
    exact ⟨_, some od, ho, rfl, rfl, hod⟩
/-- isinstance(e, C), e an error made before -/
def rIsX (K : PySem.W.Frag) : List V → Hp → VK → Prop := fun xs H Q => ∃ (D a : Addr) (fs : List (Str × V)) (c : V) (cv : Value) (b : Bool), xs = [.ref a, c] ∧ ExcC K D ∧ Xv H D a fs ∧ (∀ u, RelV c u → u = cv) ∧ PySem.W.kitOne K (.ref D) cv = some b ∧ Q (.bl b) H
theorem call_isX : CallR X (.builtin "isinstance") (rIsX X.K) := by
  intro pins s σ H xs us Q I r h
  obtain ⟨D, a, fs, c, cv, b, rfl, C, x, hcv, e, q⟩ := h
  cases r with
  | cons rx rr =>
    cases rr with
    | cons rt rr =>
      cases rr
      cases rx
      have ec := hcv _ rt
      subst ec
      obtain ⟨oe, od, J⟩ := x.inst I
      obtain ⟨cd, hc, _⟩ := PySem.W.any_some C.hd
      exact PySem.W.kia_one (PySem.W.kitx_exc (by rw [hc]; rfl) C.hg C.hk C.hs C.ha C.hn C.ht C.hm) I.kIn J e (fun z => nomatch z) fun tk => ⟨.bl b, H, I.kept (t' := tk) fun _ _ z => z, rfl, q⟩
/-- e.f, e an error made before -/
def tXa (K : PySem.W.Frag) (f : Str) (te : TE) : TE := fun σ H Q => te σ H fun x H1 => ∃ (D a : Addr) (fs : List (Str × V)) (v : V), x = .ref a ∧ XfC K D ∧ PySem.W.findIn K (.ref D) f = some none ∧ Xv H1 D a fs ∧ fs.lookup f = some v ∧ Q v H1
theorem pe_xa {e : Expr} {te : TE} {pos : Pos} {n : Str} (he : PE X e te) (hb : attributeBase e n X.env (eval e X.env) = eval e X.env := by rfl) : PE X (.Attribute e n pos) (tXa X.K n te) := by
  refine ⟨fun pins s σ H Q I h => ?_⟩
  refine attr_of hb (thn (he.run pins s σ H _ I h) fun u s1 hh => ?_)
  obtain ⟨x, H1, I1, rx, D, a, fs, v, ex, T, hno, xv, l, q⟩ := hh
  subst ex
  obtain rfl : u = Value.ref a := rx
  rcases xv with ⟨hfs, _⟩ | ⟨dd, ha, ea⟩
  · subst hfs
    cases l
  · obtain ⟨⟨t, ho⟩, _, _⟩ := I1.hok a _ ha
    obtain ⟨mA, hns, hr⟩ := exd_at I1.hok ea
    obtain ⟨od, hod, hl⟩ := lookIn_ns hns
    obtain ⟨u, hu, ru⟩ := RelO.some_of (v := v) (o := mA n) (by rw [← l]; exact hr n)
    have J : PySem.W.InstAt s1.heap a _ D (some od) := ⟨ho, rfl, rfl, hod⟩
    exact HandSPX.exc_get I1.kIn J T.ga T.gg T.exC (PySem.W.findObj_own T.hdC hno rfl (by rw [hl, hu])) (handed_of ru) ⟨v, H1, I1.tok _, ru, q⟩
end
end Ck
namespace Ck
open PySem PySem.Spec PyProof.Rows L2
/-- a text, or nothing: x * 1, x * 0 -/
def rRep1 : R2 := fun x y H Q => ∃ (i : Str) (b : Bool), x = .str i ∧ y = .int (if b then 1 else 0) ∧ Q (.str (if b then i else Str.empty)) H
theorem op_rep1 {X : Cx} : OpR X (binaryOp .Mult) rRep1 := by
  intro pins s σ H x y v u Q I rx ry h
  obtain ⟨i, b, rfl, rfl, q⟩ := h
  obtain ⟨t, rfl⟩ := rx
  obtain ⟨t', rfl⟩ := ry
  cases b with
  | true => exact P.mul_str (by decide) (fun _ z => by simp at z) (fun _ z => by simp at z) ⟨.str i, H, I, ⟨_, rfl⟩, q⟩
  | false => exact P.mul_str_none (by decide) (by decide) ⟨.str Str.empty, H, I.tok _, ⟨_, rfl⟩, q⟩
end Ck
namespace Ck
open PySem PySem.Spec PyProof.Rows L2
/-! data that holds dicts, and its text -/
/-- what is known of sys.modules: that it is a dict -/
def NoSm (base : Heap) : Prop := ∃ mm, base.Ns sysModules mm
mutual
inductive Dq (K : PySem.W.Frag) (H : Hp) : V → PyData → Prop
  | dp {v : V} {d : PyData} : Dp K H v d → Dq K H v d
  | lst {a : Addr} {xs : List V} {ds : List PyData} : SqL K H a xs → DqAll K H xs ds → Dq K H (.ref a) (.list ds)
  | tup {a : Addr} {xs : List V} {ds : List PyData} : SqT K H a xs → DqAll K H xs ds → Dq K H (.ref a) (.tuple ds)
  | dct {a : Addr} {i j : Int} : H a = some (.dK [(.inl i, .int j)]) → Dq K H (.ref a) (.dict [(.int i, .int j)])
inductive DqAll (K : PySem.W.Frag) (H : Hp) : List V → List PyData → Prop
  | nil : DqAll K H [] []
  | cons {v : V} {vs : List V} {d : PyData} {ds : List PyData} : Dq K H v d → DqAll K H vs ds → DqAll K H (v :: vs) (d :: ds)
end
section
variable {K : PySem.W.Frag} {H H' : Hp}
mutual
theorem dqM (e : Evl.Ex H H') : ∀ {v : V} {d : PyData}, Dq K H v d → Dq K H' v d
  | _, _, .dp h => .dp (dpM e h)
  | _, _, .lst h t => .lst (Evl.ex_l e h) (dqaM e t)
  | _, _, .tup h t => .tup (Evl.ex_t e h) (dqaM e t)
  | _, _, .dct h => .dct (e _ _ h)
theorem dqaM (e : Evl.Ex H H') : ∀ {vs : List V} {ds : List PyData}, DqAll K H vs ds → DqAll K H' vs ds
  | _, _, .nil => .nil
  | _, _, .cons h t => .cons (dqM e h) (dqaM e t)
end
end
section
variable {X : Cx} {pins : List (Addr × Obj)} {σ : L2.St} {H : Hp} {s : Shared}
theorem not_sm (N : NoSm X.base) (I : Inv X pins σ H s) {a : Addr} {o : Obj} {vs : Array Value} {n : Nat} (h : s.heap.get? a = some o) (hc : o.data = .seq vs n) : sysModules ≠ a := fun z => by
  obtain ⟨mm, o', es, ep, e, r⟩ := N
  have q := I.bk _ _ e
  rw [z, h] at q
  cases q
  rw [hc] at r
  exact nomatch r.1
mutual
theorem sm_reads (N : NoSm X.base) (I : Inv X pins σ H s) : ∀ {u : Value} {d : PyData} {as : List Addr}, PyData.hasDict d = false → Reads s.heap u d as → sysModules ∉ as
  | _, _, _, _, .none => List.not_mem_nil
  | _, _, _, _, .bool _ => List.not_mem_nil
  | _, _, _, _, .int _ _ => List.not_mem_nil
  | _, _, _, _, .str _ _ => List.not_mem_nil
  | _, _, _, n, .list h _ c t => fun z => by
    rcases List.mem_cons.mp z with e | z
    · exact not_sm N I h c e
    · exact sm_readsAll N I (by simpa only [PyData.hasDict] using n) t z
  | _, _, _, n, .tuple h c _ t => sm_readsAll N I (by simpa only [PyData.hasDict] using n) t
  | _, _, _, n, .dict _ _ _ _ _ => by simp only [PyData.hasDict] at n; exact Bool.noConfusion n
theorem sm_readsAll (N : NoSm X.base) (I : Inv X pins σ H s) : ∀ {us : List Value} {ds : List PyData} {as : List Addr}, PyData.hasDictAll ds = false → ReadsAll s.heap us ds as → sysModules ∉ as
  | _, _, _, _, .nil => List.not_mem_nil
  | _, _, _, n, .cons h t => fun z => by
    simp only [PyData.hasDictAll, Bool.or_eq_false_iff] at n
    rcases List.mem_append.mp z with z | z
    · exact sm_reads N I n.1 h z
    · exact sm_readsAll N I n.2 t z
end
theorem dct_reads (I : Inv X pins σ H s) {a : Addr} {i j : Int} (h : H a = some (.dK [(.inl i, .int j)])) : ∃ as, Reads s.heap (.ref a) (.dict [(.int i, .int j)]) as ∧ sysModules ∉ as := by
  obtain ⟨_, hsm, vs, rel, o, es, ep, ho, hx, hd, hk, hp, _⟩ := dk_of I.hok h
  have hsm' : sysModules ≠ a := fun z => by
    rw [← z] at hsm
    exact absurd hsm (by decide)
  obtain ⟨el⟩ := es
  cases rel with
  | @cons p q ps qs r1 r2 =>
    cases r2
    obtain ⟨q1, q2⟩ := q
    obtain ⟨e1, t, e2⟩ := r1
    dsimp only at e1 e2
    subst e1 e2
    cases hp with
    | @cons e kv es kvs k1 k2 k3 =>
      cases k3
      obtain ⟨h0, ky, vl⟩ := e
      dsimp only at k1 k2
      subst k2
      rcases keyIs_shape (show keyIs (.inl i) ky = true from k1) with ⟨i', t', z1, z2⟩ | ⟨_, _, z1, _⟩
      · cases z1
        subst z2
        exact ⟨_, Reads.dict ho hx.1 hd (.cons (.int _ _) .nil) (.cons (.int _ _) .nil), by simpa using hsm'⟩
      · cases z1
mutual
theorem dp_nd {K : PySem.W.Frag} {H : Hp} : ∀ {v : V} {d : PyData}, Dp K H v d → PyData.hasDict d = false
  | _, _, .non => by simp only [PyData.hasDict]
  | _, _, .bl _ => by simp only [PyData.hasDict]
  | _, _, .int _ => by simp only [PyData.hasDict]
  | _, _, .str _ => by simp only [PyData.hasDict]
  | _, _, .lst _ t => by simp only [PyData.hasDict]; exact dpa_nd t
  | _, _, .tup _ t => by simp only [PyData.hasDict]; exact dpa_nd t
theorem dpa_nd {K : PySem.W.Frag} {H : Hp} : ∀ {vs : List V} {ds : List PyData}, DpAll K H vs ds → PyData.hasDictAll ds = false
  | _, _, .nil => by simp only [PyData.hasDictAll]
  | _, _, .cons h t => by simp only [PyData.hasDictAll, dp_nd h, dpa_nd t]; rfl
end
mutual
theorem Dq.reads (N : NoSm X.base) (I : Inv X pins σ H s) : ∀ {v : V} {d : PyData} {u : Value}, Dq X.K H v d → RelV v u → ∃ as, Reads s.heap u d as ∧ sysModules ∉ as
  | v, d, u, .dp h, r => by
    obtain ⟨as, q⟩ := Dp.reads I d v u h r
    exact ⟨as, q, sm_reads N I (dp_nd h) q⟩
  | _, _, _, .lst hs ha, r => by
    cases r
    obtain ⟨its, rv, ⟨o, n, ho, hc, _, hd⟩, _⟩ := I.list hs
    obtain ⟨as, hr, hm⟩ := DqAll.reads N I ha rv
    refine ⟨_, Reads.list ho hc hd hr, fun z => ?_⟩
    rcases List.mem_cons.mp z with e | z
    · exact not_sm N I ho hd e
    · exact hm z
  | _, _, _, .tup hs ha, r => by
    cases r
    obtain ⟨its, rv, ⟨o, ho, hc, n, hd⟩, _⟩ := I.tuple hs
    obtain ⟨as, hr, hm⟩ := DqAll.reads N I ha rv
    exact ⟨_, Reads.tuple ho hc hd hr, hm⟩
  | _, _, _, .dct h, r => by
    cases r
    exact dct_reads I h
theorem DqAll.reads (N : NoSm X.base) (I : Inv X pins σ H s) : ∀ {vs : List V} {ds : List PyData} {us : List Value}, DqAll X.K H vs ds → Vals vs us → ∃ as, ReadsAll s.heap us ds as ∧ sysModules ∉ as
  | _, _, _, .nil, r => by
    cases r
    exact ⟨_, .nil, List.not_mem_nil⟩
  | _, _, _, .cons h t, r => by
    cases r with
    | cons r1 r2 =>
      obtain ⟨as, q1, n1⟩ := Dq.reads N I h r1
      obtain ⟨bs, q2, n2⟩ := DqAll.reads N I t r2
      exact ⟨_, .cons q1 q2, fun z => (List.mem_append.mp z).elim n1 n2⟩
end
def rReprQ (K : PySem.W.Frag) : List V → Hp → VK → Prop := fun xs H Q => ∃ x d, xs = [x] ∧ Dq K H x d ∧ PyData.showable d = true ∧ PyData.depth d ≤ 20 ∧ (PyData.shown d).length ≤ sizeLine ∧ Q (.str (PyData.shown d)) H
/-- repr(e), e data, perhaps with dicts in it, where nothing is being shown -/
theorem call_reprQ (N : NoSm X.base) (hu : X.A.units + 64 < cLine) (hg : X.A.guards = some []) : CallR X (.builtin "repr") (rReprQ X.K) := by
  intro pins s σ H xs us Q I r h
  obtain ⟨x, d, rfl, hd, hs, hp, hz, q⟩ := h
  obtain ⟨u, rfl, ru⟩ := vals1 r
  obtain ⟨as, rd, no⟩ := Dq.reads N I hd ru
  cases u with
  | ref a =>
    refine repr_of_reads' rd hs (fun _ => no) hg (by omega) (fun _ _ e => e) (fun h' u tk hk => ?_) hz
    exact ⟨.str _, H, I.kept (t' := tk) hk, ⟨_, rfl⟩, q⟩
  | none =>
    cases rd
    exact PySem.P.repr_of_none ⟨.str _, H, I.tok _, ⟨_, rfl⟩, q⟩
  | bool b =>
    cases rd
    exact PySem.P.repr_of_bool ⟨.str _, H, I.tok _, ⟨_, rfl⟩, q⟩
  | int i t =>
    cases rd
    exact PySem.P.repr_of_int (of_decide_eq_true (by simpa only [PyData.showable] using hs)) ⟨.str _, H, I.tok _, ⟨_, rfl⟩, q⟩
  | str x t =>
    cases rd
    exact PySem.P.repr_of_str ⟨.str _, H, I.tok _, ⟨_, rfl⟩, q⟩ hz
  | _ => cases rd
end
end Ck

/-! the law's end, with what is known of sys.modules -/
namespace Ck
open PySem PySem.Spec PyProof.Rows L2
section
variable {P : Program} {w : World} {K : PySem.W.Frag} {mg mb : Str → Option Value} {k : Nat} {fa a : Addr} {fd : FuncData} {x : Str} {sp : Sp} {s₁ : Shared} {vs : List Value} {ns : List Int}
theorem law_runS (KX : K.In s₁.heap) (HM : NoSm s₁.heap) (hns : s₁.heap.Ns mainGlobals mg) (hb : s₁.heap.Ns builtinsNs mb) (hbb : ∀ x : Str, x ≠ "__name__" → mb x = bootBuiltins x)
    (hlim : s₁.heap.NoLimit) (hg : s₁.gens = #[]) (ha : s₁.heap.get? a = some { cls := .type "list", data := .seq vs.toArray }) (hr : Room k callerA)
    (F : ∀ base : Heap, K.In base → base.Ns mainGlobals mg → NoSm base → FnG P w K mg base CX0 k fa fd [x] sp) (hbind : ∀ (s : Shared) (u : Value), BindsTo s fd ⟨[u], []⟩ [(x, u)])
    (hsp : ∀ H : Hp, Only H → SqL K H a (ns.map V.int) → sp [.ref a] H (fun v _ => v = .bl true) fun _ _ _ => False)
    (H : Hp) (hO : Only H) (hS : SqL K H a (ns.map V.int)) (hok : HOk P w H s₁.heap) (only : ∀ b u, H b = some u → b = a) (off : ∀ u, H a = some u → K.lookup a = none) :
    codeAny (model P w) callerA (.call (.ref fa) ⟨[.ref a], []⟩) (Fine s₁) s₁ := by
  -- a dict is not the script: it stays in the base
  have dictOff : ∀ (b : Addr) (o : Obj) (es : Array DictEntry) (ep : Nat), s₁.heap.get? b = some o → o.data = .dict es ep → H b = none := by
    intro b o es ep e d
    match q : H b with
    | none => rfl
    | some u =>
      rw [only b u q, ha] at e
      obtain rfl := Option.some.inj e
      cases d
  have nsOff : ∀ (b : Addr) (m : Str → Option Value), s₁.heap.Ns b m → (hidT s₁.heap H).Ns b m := by
    rintro b m ⟨o, es, ep, e, d, r⟩
    exact ⟨o, es, ep, hidT_get e (dictOff b o es ep e d), d, r⟩
  have inB : K.In (hidT s₁.heap H) := by
    intro b o e
    refine hidT_get (KX b o e) ?_
    match q : H b with
    | none => rfl
    | some u =>
      have z := only b u q
      rw [z] at q e
      rw [off u q] at e
      cases e
  have M : Mod K mg (hidT s₁.heap H) := by
    obtain ⟨mc, h1, h2⟩ := hlim
    exact ⟨inB, nsOff _ _ hns, ⟨mb, nsOff _ _ hb, hbb⟩, ⟨mc, nsOff _ _ h1, h2⟩⟩
  have no : ∀ (b : Addr), b ∉ frs [] := fun b z => by cases z
  have E0' : Env0 P w K mg (hidT s₁.heap H) callerA [] s₁ H :=
    ⟨rfl, M, fun b o e => of_hidT e, Nat.le_of_eq (hidT_size s₁.heap H), trivial, fun b z => (no b z).elim, hok, .of_eq hg⟩
  have run := (F (hidT s₁.heap H) inB (nsOff _ _ hns) (HM.imp fun _ z => nsOff _ _ z)).run callerA [] s₁ H ⟨[.ref a], []⟩ [.ref a] [.ref a] (fun v _ => v = .bl true) (fun _ _ _ => False) hr rfl E0' (hbind s₁ (.ref a)) (.cons rfl .nil) (hsp H hO hS)
  refine codeAny_mono run ?_
  intro r s' h
  match r, h with
  | .error _, h => exact h.elim
  | .ok .next, h => exact h.elim
  | .ok .brk, h => exact h.elim
  | .ok .cont, h => exact h.elim
  | .ok (.ret u), h =>
    obtain ⟨v, H', os, bare, un, hok', rv, q⟩ := h
    cases q
    cases rv
    refine ⟨rfl, OldK.of_keep ?_, os, bare⟩
    intro b o e
    match q : H b with
    | none => exact un.keep b o e q (no b) (List.not_mem_nil)
    | some u =>
      cases hO b with
      | inl z => rw [q] at z; cases z
      | inr z =>
        obtain ⟨ob, xs, z⟩ := z
        have e1 := (hok b _ z).1
        rw [e] at e1
        obtain rfl := Option.some.inj e1
        exact (hok' b _ (un.frzs b _ _ z)).1
theorem law_doneS (KX : K.In s₁.heap) (HM : NoSm s₁.heap) (hns : s₁.heap.Ns mainGlobals mg) (hb : s₁.heap.Ns builtinsNs mb) (hbb : ∀ x : Str, x ≠ "__name__" → mb x = bootBuiltins x)
    (hlim : s₁.heap.NoLimit) (hg : s₁.gens = #[]) (ha : s₁.heap.get? a = some { cls := .type "list", data := .seq vs.toArray }) (hi : IntsAre vs ns) (hl : ns.length ≤ sizeLine) (hr : Room k callerA)
    (F : ∀ base : Heap, K.In base → base.Ns mainGlobals mg → NoSm base → FnG P w K mg base CX0 k fa fd [x] sp) (hbind : ∀ (s : Shared) (u : Value), BindsTo s fd ⟨[u], []⟩ [(x, u)])
    (hsp : ∀ H : Hp, Only H → SqL K H a (ns.map V.int) → sp [.ref a] H (fun v _ => v = .bl true) fun _ _ _ => False) :
    codeAny (model P w) callerA (.call (.ref fa) ⟨[.ref a], []⟩) (Fine s₁) s₁ := by
  have rv : Vals (ns.map V.int) vs := vals_ints hi
  have sz : vs.length ≤ sizeLine := by rw [← rv.length, List.length_map]; exact hl
  match hk : K.lookup a with
  | some o =>
    have e := KX a o hk
    rw [ha] at e
    obtain rfl := Option.some.inj e
    exact law_runS KX HM hns hb hbb hlim hg ha hr F hbind hsp (fun _ => none) (fun _ => .inl rfl) (.inr ⟨_, vs.toArray, _, hk, rfl, rfl, rfl, by simpa using sz, by simpa using rv⟩)
      (fun b u z => nomatch z) (fun b u z => nomatch z) (fun u z => nomatch z)
  | none =>
    let o : Obj := { cls := .type "list", data := .seq vs.toArray }
    let H : Hp := fun b => if b = a then some (.frz o (.lst (ns.map V.int))) else none
    have hA : H a = some (.frz o (.lst (ns.map V.int))) := if_pos rfl
    have hN : ∀ b, b ≠ a → H b = none := fun b z => if_neg z
    refine law_runS KX HM hns hb hbb hlim hg ha hr F hbind hsp H (fun b => ?_) (.inl (.inr ⟨o, hA⟩)) (fun b u z => ?_) (fun b u z => ?_) (fun _ _ => hk)
    · by_cases q : b = a
      · rw [q]; exact .inr ⟨_, _, hA⟩
      · exact .inl (hN b q)
    · by_cases q : b = a
      · rw [q] at z ⊢
        rw [hA] at z
        obtain rfl := Option.some.inj z
        exact ⟨ha, by rw [List.length_map]; exact hl, vs, _, rv, ha⟩
      · rw [hN b q] at z; cases z
    · by_cases q : b = a
      · exact q
      · rw [hN b q] at z; cases z
end
/-- the goal that k_head leaves, from the law's promise -/
theorem walk_gS {l : PySem.W.OpenLaw} {n k : Nat} {q : Program} {loose : List Str} {XP : (Str → Option Value) → Heap → Prop} {YP : World → Heap → Prop} {d : DefRec} {K : Params → PySem.W.Frag} {sp : World → Sp} {x : Str}
    (hq : importsNone q = true) (hn : l.most = some n) (hn2 : n ≤ sizeLine) (hdf : d.params.defaults = []) (hr : Room k callerA)
    (hY : ∀ (w : World) (h : Heap), YP w h → (K w.params).In h)
    (F : ∀ (w : World) (mg : Str → Option Value) (fa : Addr) (h : Heap), (K w.params).In h → h.Ns mainGlobals mg → mg d.name = some (.ref fa) →
      ∃ fd : FuncData, (∀ (s : Shared) (u : Value), BindsTo s fd ⟨[u], []⟩ [(x, u)]) ∧
        ∀ base : Heap, (K w.params).In base → base.Ns mainGlobals mg → NoSm base → FnG l.prog w (K w.params) mg base CX0 k fa fd [x] (sp w))
    (hsp : ∀ (w : World) (H : Hp) (a : Addr) (ns : List Int), ns.length ≤ n → Only H → SqL (K w.params) H a (ns.map V.int) → sp w [.ref a] H (fun v _ => v = .bl true) fun _ _ _ => False) :
    PySem.W.WalkO q loose XP YP l.row.toRowW d [] (fun f vs => PySem.call f vs) := by
  refine Att.attach_call hn hdf ?_
  intro w s₀ s₁ mg mb fa o pm cd doc a vs ns G Y ho hd hcd hmg hobj hints hlen hg
  have KX := hY w s₁.heap Y
  obtain ⟨fd, hb, hF⟩ := F w mg fa s₁.heap KX G.T.g hmg
  exact law_doneS KX (let ⟨mm, z, _⟩ := (G.T.seer hq).mods; ⟨mm, z⟩) G.T.g G.T.b G.T.builtins G.T.nolimit hg hobj hints (Nat.le_trans hlen hn2) hr hF hb (fun H hO hS => hsp w H a ns hlen hO hS)
end Ck

/-! own errors over KeyError: it is made by what makes LookupError, and its own chain is one longer -/
namespace PySem
namespace CkX
open HandSPX Builtin
section
variable {prog : Program} {w : World} {A : Around} {E : Value → Shared → Prop} {R : Result → Shared → Prop} {h : Heap} {g : Array GenState} {d : Drawn} {t : Nat} {os : OsState}
variable {nm q : Str} {C N : Addr} {bs bm bmB : List Value} {hdct : Bool} {sn : List Str} {sub : List Value} {ab : Bool} {col : Option Bool} {dd : Option Addr} {k0 k1 k2 k3 k5 : Option Value} {B newId initId : String}
/-- what is asked of the chain above the class -/
structure Chn (B : String) (bm : List Value) : Prop where
  b : bm.contains (.type B) = true
  a : bm.contains (.type "AttributeError") = false
  n : bm.contains (.type "NameError") = false
theorem Chn.tail {T : List Value} (h : Chn B T) (e : W.excTail T bm = true) : Chn B bm := ⟨(W.excTail_contains _ _ e).trans h.b, (W.excTail_contains _ _ e).trans h.a, (W.excTail_contains _ _ e).trans h.n⟩
theorem Chn.b' (h : Chn B bm) : (Value.ref C :: bm).contains (.type B) = true := by rw [List.contains_cons, h.b, Bool.or_true]
theorem Chn.a' (h : Chn B bm) : (Value.ref C :: bm).contains (.type "AttributeError") = false := by rw [List.contains_cons, h.a]; rfl
theorem Chn.n' (h : Chn B bm) : (Value.ref C :: bm).contains (.type "NameError") = false := by rw [List.contains_cons, h.n]; rfl
abbrev IsCls (h : Heap) (C : Addr) (nm q : Str) (N : Addr) (bs bm : List Value) (hdct : Bool) (sn : List Str) (sub : List Value) (ab : Bool) (col : Option Bool) (dd : Option Addr) (k0 k1 k2 k3 k5 : Option Value) (newId : String) : Prop :=
  h.get? C = some (excClassObj nm q C N bs bm hdct sn sub ab col dd k0 k1 k2 k3 k5 newId)
theorem newK (F : ExcBaseFacts B newId initId bmB) (c : Chn B bm) {rest : List Value} (hC : IsCls h C nm q N bs bm hdct sn sub ab col dd k0 k1 k2 k3 k5 newId) (small : rest.length ≤ sizeLine)
    (out : R (.ok (.ret (.ref (h.objs.size + 1)))) ⟨(h.push (W.kdv_tup rest)).push (excO C h.objs.size), g, d, t, os⟩) :
    codeAny (model prog w) A (.builtin newId ⟨.ref C :: rest, []⟩) R ⟨h, g, d, t, os⟩ := by
  have e1 := F.ends
  have cB := c.b' (C := C)
  have cA := c.a' (C := C)
  have cN := c.n' (C := C)
  refine codeAny_builtinAt F.entry ?_
  unfold Builtin.«BaseException.__new__»
  refine wpAt_bind ?_
  show wpAt _ _ _ (stack >>= _) _ _ _
  refine wpAt_bind (wpAt_stack fun p below => wpAt_of_wpAny ?_)
  wp_walk
  refine wpAt_of_wpAny ?_
  rw [F.owner]
  repeat (first | with_reducible refine wpAny_loadPart_at hC ?_ | with_reducible refine wpAny_madeHere_exc F.canon hC ?_ | (with_reducible refine wpAny_isSubtype_exc hC ?_; first | rw [cA] | rw [cN] | rw [cB]) | wp_step)
  show R _ _
  rw [Heap.size_push]
  exact out
theorem chkK (F : ExcBaseFacts B newId initId bmB) (c : Chn B bm) {rest : List Value} {Q : Unit → Shared → Prop} (hC : IsCls h C nm q N bs bm hdct sn sub ab col dd k0 k1 k2 k3 k5 newId) (out : Q () ⟨h, g, d, t, os⟩) :
    wpAny (model prog w) A (checkBuiltinCall newId ⟨.ref C :: rest, []⟩) Q E ⟨h, g, d, t, os⟩ := by
  have cB := c.b' (C := C)
  have st := F.noStar
  simp only [checkBuiltinCall, F.newKind, F.newSplit, F.newRow]
  repeat (first | refine wpAny_loadPart_at hC ?_ | refine wpAny_staticBase_exc hC ?_ | refine wpAny_madeBy_exc hC ?_ | (refine wpAny_isSubtype_exc hC ?_; rw [cB]) | simp only [bne_self_eq_false, Bool.false_eq_true, if_false] | wp_step)
  exact out
theorem typK (F : ExcBaseFacts B newId initId bmB) (c : Chn B bm) {rest : List Value} {fI : Addr} {Q : Fin → Shared → Prop} (hC : IsCls h C nm q N bs bm hdct sn sub ab col dd k0 k1 k2 k3 k5 newId)
    (fi : W.Looks (model prog w) h (typeLookup (.ref C) "__init__") (some (.ref fI))) (bi : ∀ self, W.Looks (model prog w) h (bindSpecial (.ref fI) self) (.ref fI, [self])) (small : rest.length ≤ sizeLine)
    (out : codeAny (model prog w) A (.call (.ref fI) ⟨.ref (h.objs.size + 1) :: rest, []⟩)
      (fun r s' => match r with | .ok (.ret v) => v = .none ∧ Q (.done (.ret (.ref (h.objs.size + 1)))) s' | .ok _ => False | .error e => E e s') ⟨(h.push (W.kdv_tup rest)).push (excO C h.objs.size), g, d, t, os⟩) :
    wpAny (model prog w) A (Builtin.«type.__call__» ⟨.ref C :: rest, []⟩) Q E ⟨h, g, d, t, os⟩ := by
  repeat (first | with_reducible refine wpAny_loadPart_at hC ?_ | with_reducible refine wpAny_madeBy_exc hC ?_ | wp_step)
  refine codeAny_call_builtin_code (Code.quiet_builtin _ F.quiet) (chkK F c hC (newK F c hC small ?_))
  show wpAny _ _ _ _ _ _
  have kept : ∀ b o, h.get? b = some o → ((h.push (W.kdv_tup rest)).push (excO C h.objs.size)).get? b = some o := fun b o e => Heap.get?_push_of_some _ (Heap.get?_push_of_some _ e)
  have newO : ((h.push (W.kdv_tup rest)).push (excO C h.objs.size)).get? (h.objs.size + 1) = some (excO C h.objs.size) := by heap_get
  have own : (Value.ref C :: bm).contains (.ref C) = true := by simp
  have C1 := kept _ _ hC
  have f1 := fi.keeps kept
  have b1 := (bi (.ref (h.objs.size + 1))).keeps kept
  unfold isInstance
  repeat (first | with_reducible refine wpAny_loadPart_at newO ?_ | (with_reducible refine wpAny_isSubtype_exc C1 ?_; rw [own]) | wp_step)
  show wpAny _ _ (typeLookup (.ref C) _) _ _ _
  refine f1.at (wpAny_holding (wpAny_bind (b1.at (wpAny_bind (wpAny_call (codeAny_mono out fun r s' z => ?_))))))
  match r, z with
  | .error e, z => exact z
  | .ok .next, z => exact (show False from z).elim
  | .ok .brk, z => exact (show False from z).elim
  | .ok .cont, z => exact (show False from z).elim
  | .ok (.ret v), z =>
    obtain ⟨rfl, z⟩ := z
    first
      | exact wpAny_pure (wpAny_pure z)
      | (wp_walk; exact z)
theorem callK (F : ExcBaseFacts B newId initId bmB) (c : Chn B bm) {rest : List Value} {fI : Addr} (hC : IsCls h C nm q N bs bm hdct sn sub ab col dd k0 k1 k2 k3 k5 newId)
    (fi : W.Looks (model prog w) h (typeLookup (.ref C) "__init__") (some (.ref fI))) (bi : ∀ self, W.Looks (model prog w) h (bindSpecial (.ref fI) self) (.ref fI, [self])) (small : rest.length ≤ sizeLine)
    (out : codeAny (model prog w) (A.under (.builtin "type.__call__" ⟨.ref C :: rest, []⟩)) (.call (.ref fI) ⟨.ref (h.objs.size + 1) :: rest, []⟩) (W.InitBack (h.objs.size + 1) R) ⟨(h.push (W.kdv_tup rest)).push (excO C h.objs.size), g, d, t, os⟩) :
    codeAny (model prog w) A (.call (.ref C) ⟨rest, []⟩) R ⟨h, g, d, t, os⟩ := by
  have f1 := tc_lookup
  have f2 := tc_bind (.ref C)
  have isT : (⟨h, g, d, t, os⟩ : Shared).TypeIs (.ref C) "type" := ⟨_, hC, rfl⟩
  refine codeAny_of_tree ?_
  show wpAny _ _ (callAny (.ref C) _) _ _ _
  repeat (any_goals (first | assumption | with_reducible refine wpAny_loadPart_at hC ?_ | wp_step))
  refine ⟨rfl, codeAny_call_builtin_at (Code.quiet_builtin _ (by decide +kernel)) entry_typeCall (wpAny_check_type_call_sub hC (typK F c hC fi bi small (codeAny_mono out fun r s' z => ?_)))⟩
  rcases r with e | (v | _ | _ | _) <;> exact z
end
end CkX
end PySem
namespace Ck
open PySem PySem.Spec PyProof.Rows L2
abbrev KeT : List Value := [.type "KeyError", .type "LookupError", .type "Exception", .type "BaseException", .type "object"]
theorem key_set : Slot "KeyError" "__setattr__" "object.__setattr__" :=
  .of (owner := "object") (n := "__setattr__") (by rw [typeLookup_type, builtinLookup_eq_fast]; kernel_rfl) (by decide +kernel) (by decide +kernel) (by decide +kernel) (.inl (by decide +kernel)) (by rw [isSubtype_type]; kernel_rfl)
theorem store_KeyError : StoreFacts "KeyError" KeT "object.__setattr__" "object" := by
  have old := PySem.F.store_LookupError
  refine ⟨?_, key_set, old.entry, old.kind, old.split, ?_, old.args, fun self => ?_⟩
  · kernel_rfl
  · decide +kernel
  · kernel_rfl
/-! making one -/
/-- C(e, ..) as a value, C's own __init__ keeping sp -/
def tMkV (C : Addr) (sp : Sp) (ta : TA) : TE := fun σ H Q => ta σ H fun vs H1 => vs.length ≤ 1000 ∧ ∀ a, H1 a = none → sp (.ref a :: vs) (upd H1 a (exo a C none))
  (fun v H2 => v = .non ∧ Q (.ref a) H2) (fun _ _ _ => False)
section
variable {X : Cx} {e : Expr} {es : List Expr} {ta : TA} {p pos : Pos} {B newId initId : String} {T bmB : List Value}
theorem pe_mkV {CX : CXT} {x : Str} {C fI : Addr} {k : Nat} {fd : FuncData} {ps : List Str} {sp : Sp} (FB : ExcBaseFacts B newId initId bmB) (ch : CkX.Chn B T) (O : OexB X.K newId T C) (iC : PySem.W.findIn X.K (.ref C) "__init__" = some (some (.ref fI))) (tI : PySem.W.typeIn X.K (.ref fI) = some (.type "function"))
    (F1 : FnOk X.prog X.w X.K X.mg X.base CX k fI fd ps sp) (hr : Room (k + 1) X.A) (hb : Binds X.K fd ps []) (hx : Passes CX X (fun _ _ _ => False)) (hg : Gl X x) (hm : X.mg x = some (.ref C)) (ha : PA X (e :: es) ta)
    (hdb : (x == ("__debug__" : Str)) = false := by decide) (he : starEach (e :: es) X.env = (false, eval e X.env) :: starEach es X.env := by rfl) (hpl : (backTo pos (starEach es X.env)).any (·.1) = false := by rfl) :
    PE X (.Call (.Name x p) (e :: es) [] pos) (tMkV C sp ta) := by
  refine ⟨fun pins s σ H Q I h => ?_⟩
  obtain ⟨nm, q, N, bs, bm, sn, sub, ab, col, dd, k0, k1, k2, k3, k5, hC, hbm⟩ := O.cls
  refine wpAny_Call_Name_kw (ld_glob I hg hm ?_ hdb)
  refine PySem.W.callWith_K (h₀ := X.base) I.ok.mod.kin O.kC (thn (ha.run pos pins s σ H _ I h) fun us s1 ⟨vs, H1, I1, r1, hz, q1⟩ => ⟨I1.kIn, ?_⟩) he hpl
  show wpAny _ _ (call (.ref C) us) _ _ _
  obtain ⟨hp, g, dr, tk, os⟩ := s1
  have up : hp.objs.size ≤ hp.objs.size + 1 := Nat.le_succ _
  have hq := q1 (hp.objs.size + 1) (I1.hok.fresh up)
  have keep2 : ∀ b o, hp.get? b = some o → ((hp.push (PySem.W.kdv_tup us)).push (PySem.HandSPX.excO C hp.objs.size)).get? b = some o := fun b o e => Heap.get?_push_of_some _ (Heap.get?_push_of_some _ e)
  have there : ((hp.push (PySem.W.kdv_tup us)).push (PySem.HandSPX.excO C hp.objs.size)).get? (hp.objs.size + 1) = some (PySem.HandSPX.excO C hp.objs.size) := by heap_get
  have I2 : Inv X pins σ (upd H1 (hp.objs.size + 1) (exo (hp.objs.size + 1) C none)) ⟨(hp.push (PySem.W.kdv_tup us)).push (PySem.HandSPX.excO C hp.objs.size), g, dr, tk, os⟩ :=
    I1.laid (t' := tk) (a := hp.objs.size + 1) (o := exo (hp.objs.size + 1) C none) (h' := (hp.push (PySem.W.kdv_tup us)).push (PySem.HandSPX.excO C hp.objs.size)) keep2 up (exo_ok there)
  have r2 : Vals (V.ref (hp.objs.size + 1) :: vs) (Value.ref (hp.objs.size + 1) :: us) := .cons rfl r1
  have len : (Value.ref (hp.objs.size + 1) :: us).length = ps.length := by
    have e := r2.length
    rw [F1.len _ _ _ _ hq] at e
    exact e.symm
  have bd : BindsTo ⟨(hp.push (PySem.W.kdv_tup us)).push (PySem.HandSPX.excO C hp.objs.size), g, dr, tk, os⟩ fd ⟨Value.ref (hp.objs.size + 1) :: us, []⟩ (ps.zip (Value.ref (hp.objs.size + 1) :: us)) := by
    have z := hb ⟨(hp.push (PySem.W.kdv_tup us)).push (PySem.HandSPX.excO C hp.objs.size), g, dr, tk, os⟩ (Value.ref (hp.objs.size + 1) :: us) I2.kIn (by rw [List.append_nil]; exact len)
    rw [List.append_nil] at z
    exact z
  have small : us.length ≤ sizeLine := by
    rw [← Paired.length r1, sizeLine_eq]
    omega
  refine wpAny_call (CkX.callK FB (ch.tail hbm) (I1.kIn _ _ hC) (PySem.W.looks_findIn I1.kIn iC) (fun self => PySem.W.bind_fn I1.kIn self tI) small
    (codeAny_mono (F1.run _ X.stack _ _ ⟨Value.ref (hp.objs.size + 1) :: us, []⟩ (Value.ref (hp.objs.size + 1) :: us) _ _ (fun _ _ _ => False) (hr.make C us []) (I2.env0.make C us []) bd r2 hq) fun r s' back => ?_))
  cases r with
  | error er => exact hx pins σ _ _ er s' I2 back
  | ok fl =>
    cases fl with
    | ret u =>
      obtain ⟨v, H2, J, rv, ev, q2⟩ := I2.after back
      subst ev
      exact ⟨rv, .ref (hp.objs.size + 1), H2, J, rfl, q2⟩
    | next => exact False.elim back
    | brk => exact False.elim back
    | cont => exact False.elim back
end
/-- a new error with its field -/
theorem mkV_go {K : PySem.W.Frag} {newId : String} {T : List Value} {fld : Str} {C : Addr} {v : V} {H1 : Hp} {Q : VK} (O : OexB K newId T C) (no : PySem.W.findIn K (.ref C) fld = some none) (q : ∀ a H2, (∀ b o, H1 b = some o → H2 b = some o) → H1 a = none → Xv H2 C a [(fld, v)] → Q (.ref a) H2) :
    [v].length ≤ 1000 ∧ ∀ a, H1 a = none → spIni K newId T fld (.ref a :: [v]) (upd H1 a (exo a C none)) (fun u H2 => u = .non ∧ Q (.ref a) H2) (fun _ _ _ => False) := by
  refine ⟨(show 1 ≤ 1000 by decide), fun a ha => ⟨a, C, v, rfl, O, no, upd_same, fun z hz nz => ⟨rfl, q a _ (fun b o e => ?_) ha (.inr ⟨z, upd_same, ?_⟩)⟩⟩⟩
  · have hz1 : H1 z = none := by rwa [upd_ne nz] at hz
    rw [upd_ne (ne_of_none e ha), upd_ne (ne_of_none e hz1), upd_ne (ne_of_none e ha)]
    exact e
  · rw [upd_ne nz, upd_same]
/-- what is told of an error class with a field, whose making leaves a value -/
structure ErV (P : Program) (w : World) (K : PySem.W.Frag) (mg : Str → Option Value) (base : Heap) (x fld : Str) (B newId initId : String) (bmB T : List Value) (C : Addr) : Prop where
  fb : ExcBaseFacts B newId initId bmB
  ch : CkX.Chn B T
  o : OexB K newId T C
  xf : XfC K C
  xc : ExcC K C
  no : PySem.W.findIn K (.ref C) fld = some none
  g : mg x = some (.ref C)
  ini : ∃ fI fd, PySem.W.findIn K (.ref C) "__init__" = some (some (.ref fI)) ∧ PySem.W.typeIn K (.ref fI) = some (.type "function") ∧ FnOk P w K mg base CX0 1 fI fd ["self", fld] (spIni K newId T fld) ∧ Binds K fd ["self", fld] []
/-- the same for raise -/
theorem ErV.f {P : Program} {w : World} {K : PySem.W.Frag} {mg : Str → Option Value} {base : Heap} {x fld : Str} {B newId initId : String} {T : List Value} {C : Addr} (Z : ErV P w K mg base x fld B newId initId T T C) : ErF P w K mg base x fld B newId initId T C := ⟨Z.fb, Z.o, Z.xf, Z.no, Z.g, Z.ini⟩
section
variable {X : Cx} {x fld : Str} {B newId initId : String} {T bmB : List Value} {C : Addr} {j : Nat} {e : Expr} {ta : TA} {p pos : Pos}
theorem ErV.value (Z : ErV X.prog X.w X.K X.mg X.base x fld B newId initId bmB T C) (hr : Room j X.A) (ha : PA X [e] ta) (hj : 2 ≤ j := by decide) (hg : Gl X x := by rfl) (hdb : (x == ("__debug__" : Str)) = false := by decide)
    (he : starEach [e] X.env = (false, eval e X.env) :: starEach [] X.env := by rfl) (hpl : (backTo pos (starEach [] X.env)).any (·.1) = false := by rfl) : PE X (.Call (.Name x p) [e] [] pos) (tMkV C (spIni X.K newId T fld) ta) := by
  obtain ⟨fI, fd, ic, ti, fn, b⟩ := Z.ini
  exact pe_mkV Z.fb Z.ch Z.o ic ti fn (hr.mono hj) b pass0 hg Z.g ha hdb he hpl
end
end Ck

/-! a def that is called in an except suite and gets the error that is handled -/
namespace Ck
open PySem PySem.Spec PyProof.Rows L2 L2H
section
variable {P : Program} {w : World} {K : PySem.W.Frag} {mg : Str → Option Value} {base : Heap}
/-- what such a def promises; p: the error and its object -/
structure FnP (P : Program) (w : World) (K : PySem.W.Frag) (mg : Str → Option Value) (base : Heap) (k : Nat) (f : Addr) (fd : FuncData) (ps : List Str) (sp : Addr → Value → Option Addr → Sp) : Prop where
  len : ∀ a cls d vs H Q E, sp a cls d vs H Q E → vs.length = ps.length
  run : ∀ (p : Addr × Obj) (cls : Value) (d : Option Addr) (A : Around) (fr : List Env) (s : Shared) (H : Hp) (us : List Value) (vs : List V) (Q : VK), RoomH k A → PinOk fr H s p → Zc cls d p.2 → (∃ vs, p.2.data = .fields vs) → Env0 P w K mg base A fr s H → BindsTo s fd ⟨us, []⟩ (ps.zip us) → Vals vs us → sp p.1 cls d vs H Q E0 →
    codeAny (model P w) A (.call (.ref f) ⟨us, []⟩) (CR CX0 fr P w H s Q E0) s
/-- such a def, as a global name -/
def CgP (P : Program) (w : World) (K : PySem.W.Frag) (mg : Str → Option Value) (base : Heap) (k : Nat) (x : Str) (sp : Addr → Value → Option Addr → Sp) : Prop :=
  ∃ f fd ps, FnP P w K mg base k f fd ps sp ∧ mg x = some (.ref f) ∧ PySem.W.keepIn K (.ref f) = true ∧ Binds K fd ps []
theorem cg_ofP {x : Str} {st : Stmt} {N ps : List Str} {k : Nat} {sp : Addr → Value → Option Addr → Sp} (D : Df K mg x st ps) (S : FnScope N ps (defScope st)) (len : ∀ a cls d vs H Q E, sp a cls d vs H Q E → vs.length = ps.length)
    (hbody : ∀ (f : Addr) (cdv : Value) (A : Around) (fr : List Env) (s : Shared) (H : Hp) (vs : List V) (Q : VK) (p : Addr × Obj) (cls : Value) (d : Option Addr), RoomH k (A.deeper (envOfC x (defScope st) s.heap.objs.size f cdv)) → Zc cls d p.2 → (∃ vs, p.2.data = .fields vs) → sp p.1 cls d vs H Q E0 →
      ∃ t, PSs (cxH CX0 P w K mg base N x (defScope st) f cdv A fr s H E0 p) (defBody st) t ∧ t { nx := fun _ H' => Q .non H', rt := Q } (start N vs) H) : CgP P w K mg base (k + 1) x sp := by
  obtain ⟨f, fd, F, g, b⟩ := D
  refine ⟨f, fd, ps, ⟨len, ?_⟩, g, F.kp, b⟩
  obtain ⟨oc, od, kV, doc, pm, an, cdv, ct, osl, rfl, lk, hcd⟩ := F.ex
  intro p cls d A fr s H us vs Q hr pin hz hf e bd rv h
  have KX : K.In s.heap := e.mod.kin.keeps fun c o q => (e.bs c o q).1
  have lim : s.heap.NoLimit := e.mod.nolimit.keeps fun c o q => (e.bs c o q).1
  have knd : ∀ y ∈ ps.zip us, (defScope st).names.lookup y.1 = some .local ∨ ((defScope st).names.lookup y.1 = some .cell ∧ ((cellsFrom (s.heap.objs.size + 1) (defScope st).names []).lookup y.1).isSome = true) := fun y hy => by
    have hp := (List.of_mem_zip (a := y.1) (b := y.2) hy).1
    cases S.par y.1 hp with
    | inl q => exact Or.inl q
    | inr q => exact Or.inr ⟨q, PySem.W.cellsFrom_some _ _ _ (Or.inl q)⟩
  refine codeAny_call_function hr.depth (KX f _ lk) rfl S.co S.gen rfl (PySem.W.codeRec_of KX hcd) (bd _ _ _ _ (wpAny_newFunctionEnv_cells S.kind knd fun env he s1 z => ?_))
  cases he
  refine ⟨lim.keeps z.toInCall.keep, codeAny_func ?_⟩
  obtain ⟨t, ht, hq⟩ := hbody f cdv A fr s H vs Q p cls d (hr.deeper _) hz hf h
  have I := inv_startH (CX := CX0) (E := E0) S pin e (len _ _ _ _ _ _ _ h) rv z
  refine wpAny_mono (ht.run [] s1 (start N vs) H _ I hq) (fun fl s' hs => ?_) (fun _ _ z => z)
  cases fl with
  | brk => obtain ⟨_, _, _, z⟩ := hs; exact z.elim
  | cont => obtain ⟨_, _, _, z⟩ := hs; exact z.elim
  | ret u =>
    obtain ⟨v, σ', H', J, rr, z⟩ := hs
    exact ⟨v, H', J.os, J.bare, J.base, J.hok, rr, z⟩
  | next =>
    obtain ⟨σ', H', J, z⟩ := hs
    exact ⟨V.non, H', J.os, J.bare, J.base, J.hok, rfl, z⟩
end
section
variable {X : Cx} {k j : Nat} {x : Str} {sp : Addr → Value → Option Addr → Sp} {p pos : Pos} {e : Expr} {es : List Expr} {t : TA} {a : Addr} {oe : Obj} {pn : List (Addr × Obj)} {cls : Value} {d : Option Addr}
/-- the call in the suite -/
theorem pcgP (c : CgP X.prog X.w X.K X.mg X.base k x sp) (hr : Room j X.A) (hz : Zc cls d oe) (hf : ∃ vs, oe.data = .fields vs) (ha : PA (X.suite a ((a, oe) :: pn)) (e :: es) t) (hk : k ≤ j := by decide) (hg : Gl X x := by rfl)
    (hdb : (x == ("__debug__" : Str)) = false := by decide) (he : starEach (e :: es) X.env = (false, eval e X.env) :: starEach es X.env := by rfl) (hpl : (backTo pos (starEach es X.env)).any (·.1) = false := by rfl) :
    PE (X.suite a ((a, oe) :: pn)) (.Call (.Name x p) (e :: es) [] pos) (tCall (sp a cls d) [] E0 t) := by
  obtain ⟨f, fd, ps, F, hm, kp, b⟩ := c
  constructor
  intro pins s σ H Q I h
  refine wpAny_Call_Name_kw (ld_glob (X := X.suite a ((a, oe) :: pn)) I hg hm ?_ hdb)
  refine PySem.W.callWith_K (h₀ := X.base) I.ok.mod.kin kp (thn (ha.run pos pins s σ H _ I h) ?_) he hpl
  rintro us s1 ⟨vs, H1, I1, r, q⟩
  refine ⟨I1.kIn, ?_⟩
  have z : sp a cls d vs H1 Q E0 := by
    have z : sp a cls d (vs ++ []) H1 Q E0 := q
    rwa [List.append_nil] at z
  have hl : us.length = ps.length := r.length.symm.trans (F.len _ _ _ _ _ _ _ z)
  have bd := b s1 us I1.kIn (by rw [List.append_nil]; exact hl)
  rw [List.append_nil] at bd
  have P1 := I1.pin (a, oe) (List.mem_append_left _ List.mem_cons_self)
  have pin : PinOk X.stack H1 s1 (a, oe) := ⟨P1.1, P1.2.1, fun hm => (List.mem_cons.mp (I1.stkSub a hm)).elim P1.2.2.1 P1.2.2.2.1, P1.2.2.2.2⟩
  refine wpAny_call (codeAny_mono (F.run (a, oe) cls d (X.suite a ((a, oe) :: pn)).A X.stack s1 H1 us vs Q ⟨(hr.mono hk).dp, (hr.mono hk).un⟩ pin hz hf I1.env0 bd r z) fun res s' hq => ?_)
  match res, hq with
  | .ok (.ret u), hq => exact I1.after hq
  | .ok .next, hq => exact hq.elim
  | .ok .brk, hq => exact hq.elim
  | .ok .cont, hq => exact hq.elim
  | .error e, hq => exact (pass0 (X := X.suite a ((a, oe) :: pn))) pins σ H1 s1 e s' I1 hq
/-- isinstance(e, C) there -/
def rIsP (K : PySem.W.Frag) (D a : Addr) : List V → Hp → VK → Prop := fun xs H Q => ∃ (c : V) (cv : Value) (b : Bool), xs = [.ref a, c] ∧ (∀ u, RelV c u → u = cv) ∧ PySem.W.kitOne K (.ref D) cv = some b ∧ Q (.bl b) H
theorem call_isP {D : Addr} {q : Addr × Obj} (C : ExcC X.K D) (hq : q ∈ X.pn) (hz : Zc (.ref D) none q.2) (hf : ∃ vs, q.2.data = .fields vs) : CallR X (.builtin "isinstance") (rIsP X.K D q.1) := by
  intro pins s σ H xs us Q I r h
  obtain ⟨c, cv, b, rfl, hcv, e, w⟩ := h
  cases r with
  | cons rx rr =>
    cases rr with
    | cons rt rr =>
      cases rr
      cases rx
      have ec := hcv _ rt
      subst ec
      obtain ⟨hget, _⟩ := I.pin q (List.mem_append_left _ hq)
      obtain ⟨vs, hv⟩ := hf
      have J : PySem.W.InstAt s.heap q.1 q.2 D none := ⟨hget, hz.1, by unfold PySem.W.notCls; rw [hv], by rw [hz.2]; trivial⟩
      exact PySem.W.kia_one (PySem.W.handS_kitx_exc C.hg C.hk C.hs C.hd C.ha C.hn C.ht C.hm) I.kIn J e (fun z => nomatch z) fun tk => ⟨.bl b, H, I.kept (t' := tk) fun _ _ z => z, rfl, w⟩
end
end Ck

/-! data that holds dicts: words for it -/
namespace Ck
open PySem PySem.Spec PyProof.Rows L2 RZ
/-- what may be shown, dicts too -/
structure ShC (B e : Nat) (d : PyData) : Prop where
  sh : PyData.showable d = true
  dp : PyData.depth d ≤ e
  ln : (PyData.shown d).length ≤ B
theorem ShB.c {B e : Nat} {d : PyData} (h : ShB B e d) : ShC B e d := ⟨h.sh, h.dp, h.ln⟩
theorem ShC.up {B B' e e' : Nat} {d : PyData} (h : ShC B e d) (he : e ≤ e') (hB : B ≤ B') : ShC B' e' d := ⟨h.sh, Nat.le_trans h.dp he, Nat.le_trans h.ln hB⟩
theorem all_ofC {B e : Nat} : ∀ {ds : List PyData}, (∀ d ∈ ds, ShC B e d) → PyData.showableAll ds = true ∧ PyData.depthAll ds ≤ e ∧ (∀ t ∈ PyData.shownAll ds, t.length ≤ B) ∧ (PyData.shownAll ds).length = ds.length
  | [], _ => by
    have e : PyData.shownAll [] = [] := by simp only [PyData.shownAll]
    rw [e]
    exact ⟨by simp only [PyData.showableAll], by simp only [PyData.depthAll]; exact Nat.zero_le _, fun _ z => absurd z List.not_mem_nil, rfl⟩
  | d :: r, h => by
    obtain ⟨a, c, f, g⟩ := all_ofC fun x hx => h x (List.mem_cons_of_mem d hx)
    have z := h d List.mem_cons_self
    refine ⟨by simp only [PyData.showableAll, z.sh, a]; rfl, ?_, ?_, ?_⟩
    · simp only [PyData.depthAll]
      have := z.dp
      omega
    · simp only [PyData.shownAll]
      intro t ht
      rcases List.mem_cons.mp ht with rfl | ht
      · exact z.ln
      · exact f t ht
    · simp only [PyData.shownAll, List.length_cons, g]
theorem shC_list {B e : Nat} {ds : List PyData} (h : ∀ d ∈ ds, ShC B e d) : ShC (ds.length * (B + 2) + 3) (e + 1) (.list ds) := by
  obtain ⟨a, c, f, g⟩ := all_ofC h
  refine ⟨by simp only [PyData.showable, a], by simp only [PyData.depth]; omega, ?_⟩
  simp only [PyData.shown, listText]
  rw [strLen_append]
  have z := from_le (PyData.shownAll ds) 0 "["
  have y := piled_le f
  rw [g] at y
  have e1 : (("[" : String) : Str).length = 1 := rfl
  have e2 : (("]" : String) : Str).length = 1 := rfl
  omega
theorem shC_tuple {B e : Nat} {ds : List PyData} (h : ∀ d ∈ ds, ShC B e d) : ShC (ds.length * (B + 2) + 3) (e + 1) (.tuple ds) := by
  obtain ⟨a, c, f, g⟩ := all_ofC h
  refine ⟨by simp only [PyData.showable, a], by simp only [PyData.depth]; omega, ?_⟩
  simp only [PyData.shown, tupleText]
  rw [strLen_append, strLen_append]
  have y := piled_le f
  rw [g] at y
  have j : (Str.join ", " (PyData.shownAll ds)).length ≤ piled (PyData.shownAll ds) := by
    by_cases z : PyData.shownAll ds = []
    · rw [z]; exact Nat.le_refl _
    · have := join_length_add _ z; omega
  have e1 : (("(" : String) : Str).length = 1 := rfl
  have e2 : ∀ b : Bool, ((if b then ",)" else ")" : String) : Str).length ≤ 2 := fun b => by cases b <;> decide +kernel
  have e3 := e2 ((PyData.shownAll ds).length == 1)
  omega

def EQ (K : PySem.W.Frag) (te : TE) (σ : L2.St) (H : Hp) (d : PyData) : Prop := ∀ H1, Evl.Ex H H1 → ∀ Q : VK, (∀ v H2, Evl.Ex H1 H2 → Dq K H2 v d → Q v H2) → te σ H1 Q
def EQA (K : PySem.W.Frag) (ta : TA) (σ : L2.St) (H : Hp) (ds : List PyData) : Prop := ∀ H1, Evl.Ex H H1 → ∀ Q : List V → Hp → Prop, (∀ vs H2, Evl.Ex H1 H2 → DqAll K H2 vs ds → Q vs H2) → ta σ H1 Q
/-- a list of such data -/
def FV (K : PySem.W.Frag) (te : TE) (σ : L2.St) (H : Hp) (ds : List PyData) : Prop := ∀ H1, Evl.Ex H H1 → ∀ Q : VK, (∀ p xs H2, Evl.Ex H1 H2 → H2 p = some (.lst xs) → DqAll K H2 xs ds → Q (.ref p) H2) → te σ H1 Q
section
variable {K : PySem.W.Frag} {σ : L2.St} {H H' : Hp} {ta tb te : TE} {tr : TA} {v : V} {d : PyData} {ds es : List PyData}
theorem eq_of (h : Evl.Ev te σ H v) (hd : Dq K H v d) : EQ K te σ H d := fun H1 e Q q => h H1 e Q fun H2 e2 => q v H2 e2 (dqM (e.trans e2) hd)
theorem eq_ed (h : Ed K te σ H d) : EQ K te σ H d := fun H1 e Q q => h H1 e Q fun v H2 e2 hd => q v H2 e2 (.dp hd)
theorem eq_nil : EQA K tNil σ H [] := fun H1 _ _ q => q [] H1 (Evl.Ex.refl H1) .nil
theorem eq_cons (h : EQ K te σ H d) (hr : EQA K tr σ H ds) : EQA K (tCons te tr) σ H (d :: ds) := fun H1 e Q q =>
  h H1 e _ fun v H2 e2 hd => hr H2 (e.trans e2) _ fun vs H3 e3 ha => q (v :: vs) H3 (e2.trans e3) (.cons (dqM e3 hd) ha)
theorem dqa_len : ∀ {vs : List V} {ds : List PyData}, DqAll K H vs ds → vs.length = ds.length
  | _, _, .nil => rfl
  | _, _, .cons _ t => congrArg (· + 1) (dqa_len t)
theorem dqa_app : ∀ {vs ws : List V} {ds es : List PyData}, DqAll K H vs ds → DqAll K H ws es → DqAll K H (vs ++ ws) (ds ++ es)
  | _, _, _, _, .nil, b => b
  | _, _, _, _, .cons h t, b => .cons h (dqa_app t b)
theorem fv_lst (h : EQA K tr σ H ds) (hl : ds.length ≤ 100000 := by exact Nat.le_of_ble_eq_true rfl) : FV K (tLst tr) σ H ds := fun H1 e Q q =>
  h H1 e _ fun vs H2 e2 ha => ⟨Evl.sz_of (by rw [dqa_len ha]; exact hl), fun p hp => q p vs _ (e2.trans (Evl.Ex.new hp)) upd_same (dqaM (Evl.Ex.new hp) ha)⟩
theorem fv_var {p : Addr} {xs : List V} (h : Evl.Ev te σ H (.ref p)) (hp : H p = some (.lst xs)) (hd : DqAll K H xs ds) : FV K te σ H ds := fun H1 e Q q => h H1 e Q fun H2 e2 => q p xs H2 e2 ((e.trans e2) _ _ hp) (dqaM (e.trans e2) hd)
theorem fv_cat (ha : FV K ta σ H ds) (hb : FV K tb σ H es) (hl : ds.length + es.length ≤ 100000 := by exact Nat.le_of_ble_eq_true rfl) : FV K (tOp rCat ta tb) σ H (ds ++ es) := fun H1 e Q q =>
  ha H1 e _ fun a xs H2 e2 hx dx => hb H2 (e.trans e2) _ fun b zs H3 e3 hz dz => ⟨a, b, xs, zs, rfl, rfl, e3 _ _ hx, hz, Evl.sz_of (by rw [dqa_len dx, dqa_len dz]; exact hl), fun p hp =>
    q p _ _ (e2.trans (e3.trans (Evl.Ex.new hp))) upd_same (dqaM (Evl.Ex.new hp) (dqa_app (dqaM e3 dx) dz))⟩
theorem eq_fv (h : FV K te σ H ds) : EQ K te σ H (.list ds) := fun H1 e Q q => h H1 e Q fun p xs H2 e2 hp hd => q (.ref p) H2 e2 (.lst (Evl.sq_of hp) hd)
theorem eq_tup (h : EQA K tr σ H ds) (hl : ds.length ≤ 100000 := by exact Nat.le_of_ble_eq_true rfl) : EQ K (tTup tr) σ H (.tuple ds) := fun H1 e Q q =>
  h H1 e _ fun vs H2 e2 ha => ⟨Evl.sz_of (by rw [dqa_len ha]; exact hl), fun p hp => q (.ref p) _ (e2.trans (Evl.Ex.new hp)) (.tup (Evl.st_of upd_same) (dqaM (Evl.Ex.new hp) ha))⟩
theorem ev_reprQ {B e : Nat} (h : EQ K te σ H d) (s : ShC B e d) (he : e ≤ 20 := by decide) (hB : B ≤ 1000000 := by decide) : Evl.Ev (tCB (rReprQ K) (tCons te tNil)) σ H (.str (PyData.shown d)) := fun H1 e1 Q q =>
  h H1 e1 _ fun v H2 e2 hd => ⟨v, d, rfl, hd, s.sh, Nat.le_trans s.dp he, Nat.le_trans s.ln (by rw [sizeLine_eq]; omega), q H2 e2⟩
theorem q_asgV {tz : TS} {D : Ends} {i : Nat} (h : FV K te σ H ds) (k : ∀ p xs H1, Evl.Ex H H1 → H1 p = some (.lst xs) → DqAll K H1 xs ds → tz D (σ.set i (some (.ref p))) H1) : tSeq (tAsg te (gName i)) tz D σ H := h H (Evl.Ex.refl H) _ k
theorem s_retQ {D : Ends} (h : EQ K te σ H d) (k : ∀ v H1, Evl.Ex H H1 → Dq K H1 v d → D.rt v H1) : tRet te D σ H := h H (Evl.Ex.refl H) _ k
/-- a list of texts -/
theorem dq_str {v : V} {x : Str} (h : Dq K H v (.str x)) : Dp K H v (.str x) := by
  cases h with
  | dp h => exact h
theorem dqa_strs : ∀ {vs : List V} {ts : List Str}, DqAll K H vs (ts.map PyData.str) → DpAll K H vs (ts.map PyData.str)
  | _, [], .nil => .nil
  | _, _ :: _, .cons h t => .cons (dq_str h) (dqa_strs t)
theorem ed_strs {ts : List Str} (h : FV K te σ H (ts.map PyData.str)) : Ed K te σ H (.list (ts.map PyData.str)) := fun H1 e Q q => h H1 e Q fun p xs H2 e2 hp hd => q (.ref p) H2 e2 (.lst (Evl.sq_of hp) (dqa_strs hd))
end
end Ck
namespace Ck
open PySem PySem.Spec PyProof.Rows L2 RZ
/-! data beside the dice: the dice is the one list of three things -/
mutual
def no3 : PyData → Bool
  | .list ds => decide (ds.length ≠ 3) && no3All ds
  | .tuple ds => no3All ds
  | _ => true
def no3All : List PyData → Bool
  | [] => true
  | d :: r => no3 d && no3All r
end
section
variable {K : PySem.W.Frag} {d : Addr} {H H' : Hp}
theorem kp_l {a : Addr} {xs : List V} (h : Dice H d) (k : Kp d H H') (hl : xs.length ≠ 3) (s : SqL K H a xs) : SqL K H' a xs := by
  obtain ⟨x, y, z, hd⟩ := h
  rcases s with (s | ⟨o, s⟩) | q
  · refine .inl (.inl (k a _ (fun e => ?_) s))
    subst e
    rw [hd] at s
    cases s
    exact hl rfl
  · refine .inl (.inr ⟨o, k a _ (fun e => ?_) s⟩)
    subst e
    rw [hd] at s
    cases s
  · exact .inr q
theorem kp_t {a : Addr} {xs : List V} (h : Dice H d) (k : Kp d H H') (s : SqT K H a xs) : SqT K H' a xs := by
  obtain ⟨x, y, z, hd⟩ := h
  rcases s with (s | ⟨o, s⟩) | q
  · refine .inl (.inl (k a _ (fun e => ?_) s))
    subst e
    rw [hd] at s
    cases s
  · refine .inl (.inr ⟨o, k a _ (fun e => ?_) s⟩)
    subst e
    rw [hd] at s
    cases s
  · exact .inr q
mutual
theorem dpK (h : Dice H d) (k : Kp d H H') : ∀ {v : V} {e : PyData}, no3 e = true → Dp K H v e → Dp K H' v e
  | _, _, _, .non => .non
  | _, _, _, .bl b => .bl b
  | _, _, _, .int i => .int i
  | _, _, _, .str x => .str x
  | _, _, n, .lst s t => by
    simp only [no3, Bool.and_eq_true, decide_eq_true_eq] at n
    exact .lst (kp_l h k (by rw [dpa_len t]; exact n.1) s) (dpaK h k n.2 t)
  | _, _, n, .tup s t => .tup (kp_t h k s) (dpaK h k (by simpa only [no3] using n) t)
theorem dpaK (h : Dice H d) (k : Kp d H H') : ∀ {vs : List V} {ds : List PyData}, no3All ds = true → DpAll K H vs ds → DpAll K H' vs ds
  | _, _, _, .nil => .nil
  | _, _, n, .cons a b => by
    simp only [no3All, Bool.and_eq_true] at n
    exact .cons (dpK h k n.1 a) (dpaK h k n.2 b)
end
mutual
theorem dqK (h : Dice H d) (k : Kp d H H') : ∀ {v : V} {e : PyData}, no3 e = true → Dq K H v e → Dq K H' v e
  | _, _, n, .dp q => .dp (dpK h k n q)
  | _, _, n, .lst s t => by
    simp only [no3, Bool.and_eq_true, decide_eq_true_eq] at n
    exact .lst (kp_l h k (by rw [dqa_len t]; exact n.1) s) (dqaK h k n.2 t)
  | _, _, n, .tup s t => .tup (kp_t h k s) (dqaK h k (by simpa only [no3] using n) t)
  | _, _, _, .dct s => by
    obtain ⟨x, y, z, hd⟩ := h
    refine .dct (k _ _ (fun e => ?_) s)
    subst e
    rw [hd] at s
    cases s
theorem dqaK (h : Dice H d) (k : Kp d H H') : ∀ {vs : List V} {ds : List PyData}, no3All ds = true → DqAll K H vs ds → DqAll K H' vs ds
  | _, _, _, .nil => .nil
  | _, _, n, .cons a b => by
    simp only [no3All, Bool.and_eq_true] at n
    exact .cons (dqK h k n.1 a) (dqaK h k n.2 b)
end
theorem dqa_mem : ∀ {vs : List V} {ds : List PyData} {v : V}, DqAll K H vs ds → v ∈ vs → ∃ e ∈ ds, Dq K H v e
  | _, _, _, .nil, hm => nomatch hm
  | _, _, _, .cons a b, hm => by
    rcases List.mem_cons.mp hm with rfl | hm
    · exact ⟨_, List.mem_cons_self, a⟩
    · obtain ⟨e, h1, h2⟩ := dqa_mem b hm
      exact ⟨e, List.mem_cons_of_mem _ h1, h2⟩
end
end Ck

/-! own classes whose objects never change: making them, ==, !=, in, a name of the class as a value -/
namespace Ck
open PySem PySem.Spec PyProof.Rows L2 StX
section
variable {P : Program} {w : World} {K : PySem.W.Frag} {mg : Str → Option Value} {base : Heap} {k : Nat} {x : Str} {sp : Sp}
/-- a def that keeps its promise, also where a text of a container is being written -/
theorem Cl.g (c : Cl P w K mg base k x sp) : Cg P w K mg base CX0 k x sp := by
  obtain ⟨f, fd, ps, F, h1, h2, h3⟩ := c
  exact ⟨f, fd, ps, .of F, h1, h2, h3⟩
end
/-- what is told of a class: its name, and what its objects are -/
structure Klass (K : PySem.W.Frag) (mg : Str → Option Value) (x : Str) (C : Addr) : Prop where
  g : mg x = some (.ref C)
  cl : Cls K C
  mks : PySem.W.makesIn K C = true
  kp : PySem.W.keepIn K (.ref C) = true
  ha : PySem.W.findIn K (.ref C) "__class__" = some (some (.builtin "object.__class__"))
  hn : PySem.W.specialIn K (.builtin "object.__class__") "__get__" = some (some (.builtin "getset_descriptor.__get__"))
  ht : PySem.W.takesIn K (.builtin "object.__class__") = some true
theorem Klass.ty {K : PySem.W.Frag} {mg : Str → Option Value} {x : Str} {C a dx : Addr} {fs : List (Str × V)} {H : Hp} (c : Klass K mg x C) (e : H a = some (.ins C dx fs)) : TyX K H (.ref a) (.ref C) :=
  .base (.ins e c.cl c.ha c.hn c.ht (mro_obj c.mks))
section
variable {X : Cx} {CX : CXT} {k n : Nat} {f C : Addr} {fd : FuncData} {ps : List Str} {sp : Sp} {E : XK} {x : Str} {e : Expr} {te : TE} {p sp_ pos : Pos}
/-- C() -/
theorem pe_makeR0 (M : Mk X.K C f) (F : FnR X.prog X.w X.K X.mg X.base CX k f sp) (hr : Room (k + 1) X.A) (hg : Gl X x) (hm : X.mg x = some (.ref C)) (hx : Passes CX X E) (hdb : (x == ("__debug__" : Str)) = false := by decide) :
    PE X (.Call (.Name x p) [] [] pos) (tMakeR C sp E tNil) := by
  refine ⟨fun pins s σ H Q I h => ?_⟩
  refine wpAny_Call_Name_kw (ld_glob I hg hm ?_ hdb)
  exact PySem.W.callWith_K0 I.kIn M.kp (run_makeR (us := []) (vs := []) M F hr hx I .nil h)
/-- C(*y) -/
def tMakeS (K : PySem.W.Frag) (C : Addr) (sp : Sp) (E : XK) (te : TE) : TE := fun σ H Q => te σ H fun y H1 => ∃ a xs, y = V.ref a ∧ (SqT K H1 a xs ∨ SqL K H1 a xs) ∧ ∀ x dx, H1 x = Option.none → H1 dx = Option.none → dx ≠ x →
  sp (V.ref x :: xs) (upd (upd H1 dx (.own x)) x (.ins C dx [])) (fun v H2 => v = .non ∧ Q (.ref x) H2) E
theorem pe_makeS (M : Mk X.K C f) (F : FnR X.prog X.w X.K X.mg X.base CX k f sp) (hr : Room (k + 1) X.A) (hg : Gl X x) (hm : X.mg x = some (.ref C)) (hx : Passes CX X E) (he : PE X e te) (hd : (x == ("__debug__" : Str)) = false := by decide)
    (hst : starEach [.Starred e sp_] X.env = [(true, eval e X.env)] := by rfl) : PE X (.Call (.Name x p) [.Starred e sp_] [] pos) (tMakeS X.K C sp E te) := by
  refine ⟨fun pins s σ H Q I h => ?_⟩
  refine wpAny_Call_Name_kw (ld_glob I hg hm ?_ hd)
  refine PySem.W.callWith_S (h₀ := X.base) I.ok.mod.kin M.kp (thn (he.run pins s σ H _ I h) fun v s1 ⟨y, H1, I1, ry, a, xs, ey, hxs, q⟩ => ?_) hst
  subst ey
  obtain rfl : v = Value.ref a := ry
  exact star_any I1 hxs fun us s2 I2 rv => ⟨I2.kIn, run_makeR M F hr hx I2 rv q⟩
/-- an own method behind an operator: called with the object and what stands beside it -/
theorem run_ownC {A : Around} {pins : List (Addr × Obj)} {σ : L2.St} {H : Hp} {s : Shared} {us : List Value} {vs : List V} {Q : VK} {R : Result → Shared → Prop}
    (F : FnOk X.prog X.w X.K X.mg X.base CX0 n f fd ps sp) (hb : Binds X.K fd ps []) (hr : Room n A) (hf : A.frames = X.A.frames) (I : Inv X pins σ H s) (r : Vals vs us) (h : sp vs H Q E0)
    (hR : ∀ v u H' s', Inv X pins σ H' s' → RelV v u → Q v H' → R (.ok (.ret u)) s') : codeAny (model X.prog X.w) A (.call (.ref f) ⟨us, []⟩) R s := by
  have hl : us.length = ps.length := r.length.symm.trans (F.len vs H Q E0 h)
  have e0 : Env0 X.prog X.w X.K X.mg X.base A X.stack s H := by
    have e := I.env0
    exact ⟨by rw [hf]; exact e.frames, e.mod, e.bs, e.bsz, e.funs, e.frf, e.hok, e.bare⟩
  refine codeAny_mono (F.run A X.stack s H ⟨us, []⟩ us vs Q E0 hr e0 (by
    have z := hb s us I.kIn (by rw [List.append_nil]; exact hl)
    rw [List.append_nil] at z
    exact z) r h) fun r' s' hq => ?_
  cases r' with
  | error e => exact hq.elim
  | ok fl =>
    cases fl with
    | ret u =>
      obtain ⟨v, H', I', rv, q⟩ := I.after hq
      exact hR v u H' s' I' rv q
    | next => exact hq.elim
    | brk => exact hq.elim
    | cont => exact hq.elim
theorem run_own {A : Around} {pins : List (Addr × Obj)} {σ : L2.St} {H : Hp} {s : Shared} {us : List Value} {vs : List V} {Q : VK} {R : Value → Shared → Prop} {Er : Value → Shared → Prop}
    (F : FnOk X.prog X.w X.K X.mg X.base CX0 n f fd ps sp) (hb : Binds X.K fd ps []) (hr : Room n A) (hf : A.frames = X.A.frames) (I : Inv X pins σ H s) (r : Vals vs us) (h : sp vs H Q E0)
    (hR : ∀ v u H' s', Inv X pins σ H' s' → RelV v u → Q v H' → R u s') : wpAny (model X.prog X.w) A (call (.ref f) us) R Er s :=
  wpAny_call (run_ownC F hb hr hf I r h hR)
abbrev isB (Q : VK) : VK := fun v H' => ∃ b, v = .bl b ∧ Q (.bl b) H'
/-- x in o, o with a __contains__ of its own -/
theorem op_inO (F : FnOk X.prog X.w X.K X.mg X.base CX0 n f fd ps sp) (hs : PySem.W.findIn X.K (.ref C) "__contains__" = some (some (.ref f))) (hf : PySem.W.isFn X.K (.ref f) = true) (hb : Binds X.K fd ps []) (hr : Room n X.A) :
    OpR X (compareOp .In) (fun x y H Q => ∃ a dx fs, y = .ref a ∧ H a = some (.ins C dx fs) ∧ sp [.ref a, x] H (isB Q) E0) := by
  intro pins s σ H x y v u Q I rx ry h
  obtain ⟨a, dx, fs, rfl, ha, hsp⟩ := h
  cases ry
  obtain ⟨mA, J, _⟩ := ins_get I.hok ha
  obtain ⟨od, J, _⟩ := J.look
  obtain ⟨m, hF⟩ := I.fr
  refine PySem.W.in_K hF I.ok.mod.kin J hs hf (run_own (vs := [.ref a, x]) F hb hr rfl I (.cons rfl (.cons rx .nil)) hsp fun v u H' s' I' rv q => ?_)
  obtain ⟨b, rfl, q⟩ := q
  cases rv
  exact wpAny_truthy_bool ⟨.bl b, H', I', rfl, q⟩
/-- o == q, objects of a class with an __eq__ of its own -/
theorem op_eqO (F : FnOk X.prog X.w X.K X.mg X.base CX0 n f fd ps sp) (hs : PySem.W.findIn X.K (.ref C) "__eq__" = some (some (.ref f))) (hf : PySem.W.isFn X.K (.ref f) = true) (hb : Binds X.K fd ps []) (hr : Room n X.A) :
    OpR X (compareOp .Eq) (fun x y H Q => ∃ a b dx dy fs gs, x = .ref a ∧ y = .ref b ∧ H a = some (.ins C dx fs) ∧ H b = some (.ins C dy gs) ∧ sp [.ref a, .ref b] H (isB Q) E0) := by
  intro pins s σ H x y v u Q I rx ry h
  obtain ⟨a, b, dx, dy, fs, gs, rfl, rfl, ha, hb', hsp⟩ := h
  cases rx
  cases ry
  obtain ⟨mA, J, _⟩ := ins_get I.hok ha
  obtain ⟨mB, J', _⟩ := ins_get I.hok hb'
  obtain ⟨od, J, _⟩ := J.look
  obtain ⟨od', J', _⟩ := J'.look
  obtain ⟨m, hF⟩ := I.fr
  show wpAny (model X.prog X.w) X.A (richCompare .Eq (.ref a) (.ref b)) (EP X pins σ Q) X.xe s
  refine PySem.W.cmp_K (op := .Eq) (tb := .ref C) hr.units0 hF I.ok.mod.kin J J'.type (by simp [PySem.W.notFirst]) hs hf (run_own (vs := [.ref a, .ref b]) F hb hr rfl I (.cons rfl (.cons rfl .nil)) hsp fun v u H' s' I' rv q => ?_)
  obtain ⟨b, rfl, q⟩ := q
  cases rv
  exact ⟨.bl b, H', I', rfl, q⟩
end
section
variable {M : Model} {prog : Program} {w : World} {A : Around} {E : Value → Shared → Prop} {s : Shared} {K : PySem.W.Frag} {x C : Addr} {ox : Obj} {od : Option Obj}
theorem ifBound_objNe {args : List Value} {Q : Option Value → Shared → Prop} (X : K.In s.heap) (I : PySem.W.InstAt s.heap x ox C od) (hs : PySem.W.findIn K (.ref C) "__ne__" = some (some (.builtin "object.__ne__")))
    (h : wpAny M A (call (.builtin "object.__ne__") (.ref x :: args)) (fun v => Q (some v)) E s) : wpAny M A (callSpecialIfBound? (.ref x) "__ne__" args) Q E s := by
  simp only [callSpecialIfBound?, bindSpecialIfBound?]
  refine wpAny_holding (wpAny_bind (wpAny_bind (wpAny_bind (I.type.here ((PySem.W.looks_findIn X hs).here ?_)))))
  refine wpAny_bind (wpAny_askSetting (wpAny_ite ?_))
  have fin : wpAny M A (call (.builtin "object.__ne__") ([.ref x] ++ args) >>= fun v => pure (some v)) Q E s := wpAny_bind (wpAny_mono h (fun v s' h' => wpAny_pure h') fun _ _ h' => h')
  split
  · exact wpAny_bind (wpAny_of_eq (PySem.F.cmp_object.ne.bind _) (wpAny_pure (by exact fin)))
  · exact wpAny_tryCatch (wpAny_bind (wpAny_of_eq (PySem.F.cmp_object.ne.bind _) (wpAny_pure (by exact fin))))
end
section
variable {X : Cx} {n : Nat} {f C : Addr} {fd : FuncData} {ps : List Str} {sp : Sp}
/-- o != q: what == does not say -/
theorem op_neO (F : FnOk X.prog X.w X.K X.mg X.base CX0 n f fd ps sp) (hs : PySem.W.findIn X.K (.ref C) "__eq__" = some (some (.ref f))) (hne : PySem.W.findIn X.K (.ref C) "__ne__" = some (some (.builtin "object.__ne__"))) (hm : PySem.W.mroIn X.K C (.type "object") = some true)
    (hf : PySem.W.isFn X.K (.ref f) = true) (hb : Binds X.K fd ps []) (hr : Room (n + 1) X.A) :
    OpR X (compareOp .NotEq) (fun x y H Q => ∃ a b dx dy fs gs, x = .ref a ∧ y = .ref b ∧ H a = some (.ins C dx fs) ∧ H b = some (.ins C dy gs) ∧ sp [.ref a, .ref b] H (fun v H' => ∃ b, v = .bl b ∧ Q (.bl (!b)) H') E0) := by
  intro pins s σ H x y v u Q I rx ry h
  obtain ⟨a, b, dx, dy, fs, gs, rfl, rfl, ha, hb', hsp⟩ := h
  cases rx
  cases ry
  obtain ⟨mA, J, _⟩ := ins_get I.hok ha
  obtain ⟨mB, J', _⟩ := ins_get I.hok hb'
  obtain ⟨od, J, _⟩ := J.look
  obtain ⟨od', J', _⟩ := J'.look
  show wpAny (model X.prog X.w) X.A (richCompare .NotEq (.ref a) (.ref b)) (EP X pins σ Q) X.xe s
  have entry : wpAny (model X.prog X.w) X.A.in1 (Builtin.«object.__ne__» ⟨[.ref a, .ref b], []⟩) (fun fin s' => ∃ v, fin = .done (.ret v) ∧ ∃ q, v = .bool q ∧ EP X pins σ Q (.bool q) s') X.xe s := by
    unfold Builtin.«object.__ne__»
    repeat (first | with_reducible refine wpAny_cRoomFor hr.in1.units0 ?_ | with_reducible refine PySem.W.ifBound_K I.kIn J hs hf ?_ | wp_step)
    refine run_ownC (vs := [.ref a, .ref b]) F hb hr.in1 rfl I (.cons rfl (.cons rfl .nil)) hsp fun v u H' s' I' rv q => ?_
    obtain ⟨b, rfl, q⟩ := q
    cases rv
    repeat (first | with_reducible refine wpAny_truthy_bool ?_ | wp_step)
    exact ⟨_, rfl, _, rfl, .bl (!b), H', I', rfl, q⟩
  have one : wpAny (model X.prog X.w) X.A (tryCompare (.ref a) "__ne__" (.ref b)) (fun r s' => ∃ v, r = some v ∧ EP X pins σ Q v s') X.xe s := by
    simp only [tryCompare]
    refine wpAny_bind (ifBound_objNe I.kIn J hne (wpAny_call (codeAny_call_builtin PySem.F.cmp_object.ne.plain PySem.F.cmpEntry_ne (PySem.W.check_slot PySem.F.cmpKind_ne PySem.F.cmpSplit_ne (J.type.andThen (PySem.W.looks_mroIn I.kIn hm)) (PySem.F.cmpArgs_ne _ _) ?_))))
    refine wpAny_mono entry (fun fin s' z => ?_) fun _ _ z => z
    obtain ⟨v, rfl, q, rfl, z⟩ := z
    exact wpAny_pure ⟨_, rfl, z⟩
  unfold richCompare
  simp only [oneThing_ref]
  refine wpAny_holding (wpAny_bind (wpAny_cRoomFor hr.units0 ?_))
  refine wpAny_bind (J.type.here (wpAny_bind (J'.type.here ?_)))
  split
  · rename_i q
    exact absurd q (by simp)
  · refine wpAny_bind (wpAny_pure ?_)
    simp only [Bool.false_eq_true, if_false]
    refine wpAny_bind (wpAny_mono one (fun r s' z => ?_) fun _ _ e => e)
    obtain ⟨v, rfl, hq⟩ := z
    exact wpAny_pure hq
end
end Ck

/-! zip of a tuple and a list -/
namespace Ck
open PySem PySem.Spec PyProof.Rows L2
/-- turns of zip(t, l): a tuple, and a list as it stands at each turn -/
def ItM (K : PySem.W.Frag) (a b : Addr) : It :=
  ⟨fun i H => ∃ (xs ys : List V) (x y : V), (SqT K H a xs ∧ SqL K H b ys) ∧ xs[i]? = some x ∧ ys[i]? = some y,
    fun i H v H' => ∃ T x y, v = .ref T ∧ H T = none ∧ H' = upd H T (.tup [x, y]) ∧ (∀ us, SqT K H a us → us[i]? = some x) ∧ ∀ us, SqL K H b us → us[i]? = some y,
    fun i H => ∃ xs ys : List V, (SqT K H a xs ∧ SqL K H b ys) ∧ (i = xs.length ∧ i ≤ ys.length ∨ i ≤ xs.length ∧ i = ys.length)⟩
/-- the five cells of a zip -/
abbrev cells5 (z ti to i1 i2 : Addr) : List Addr := [z, ti, to, i1, i2]
theorem in5 {z ti to i1 i2 c : Addr} (h : c ∈ cells5 z ti to i1 i2) : c = z ∨ c = ti ∨ c = to ∨ c = i1 ∨ c = i2 := by simpa using h
theorem no5 {z ti to i1 i2 c : Addr} (h : c ∉ cells5 z ti to i1 i2) : c ≠ z ∧ c ≠ to ∧ c ≠ i1 ∧ c ≠ i2 :=
  ⟨fun e => h (by simp [e]), fun e => h (by simp [e]), fun e => h (by simp [e]), fun e => h (by simp [e])⟩
/-- how a zip of a tuple at a and a list at b stands ahead of turn i -/
def ZipS (a b z ti to i1 i2 : Addr) (i : Nat) (h : Heap) : Prop :=
  IsZip h z ti to .none ∧ IsTupOf2 h ti (.ref i1) (.ref i2) ∧ (∃ x y, IsTupOf2 h to x y) ∧ h.IsTupleIter i1 a i ∧ h.IsListIter i2 b i
theorem turnM {P : Program} {w : World} {K : PySem.W.Frag} {es : List Expr} {kk : Nat} {tp : Pos} {a b z ti to i1 i2 : Addr} (D : ZipSep2 z ti to i1 i2 [i1, a] [i2, b]) (na : a ≠ i1) (nb : b ≠ i2) :
    Turn P w K (.Tuple es kk tp) (ItM K a b) (cells5 z ti to i1 i2) z (ZipS a b z ti to i1 i2) where
  mem := List.mem_cons_self
  obj := by
    rintro i h ⟨s1, s2, ⟨x, y, s3⟩, ⟨o1, e1, _, d1⟩, ⟨o2, e2, _, d2⟩⟩ c hc
    rcases in5 hc with rfl | rfl | rfl | rfl | rfl
    · exact ⟨_, s1, fun v => Data.noConfusion⟩
    · exact ⟨_, s2, fun v => Data.noConfusion⟩
    · exact ⟨_, s3, fun v => Data.noConfusion⟩
    · exact ⟨o1, e1, fun v => by rw [d1]; exact Data.noConfusion⟩
    · exact ⟨o2, e2, fun v => by rw [d2]; exact Data.noConfusion⟩
  keep := by
    rintro i h h' ⟨s1, s2, ⟨x, y, s3⟩, s4, s5⟩ k
    have q : ∀ c, c ∈ cells5 z ti to i1 i2 → ∀ o, h.get? c = some o → h'.get? c = some o := k
    exact ⟨q z (by simp) _ s1, q ti (by simp) _ s2, ⟨x, y, q to (by simp) _ s3⟩, s4.at (q i1 (by simp)), s5.at (q i2 (by simp))⟩
  item := by
    intro X e1 e2 e3 hc i pins s σ H E I hf st hg
    subst e1 e2 e3
    obtain ⟨s1, s2, ⟨x0, y0, s3⟩, s4, s5⟩ := st
    obtain ⟨xs, ys, x, y, ⟨qx, qy⟩, gx, gy⟩ := hg
    obtain ⟨us, ru, pu, _⟩ := I.tuple qx
    obtain ⟨ws, rw', pw, _⟩ := I.list qy
    obtain ⟨u, hu, rxu⟩ := ru.get gx
    obtain ⟨v, hv, ryv⟩ := rw'.get gy
    have hh : X.A.in1.handled = none := I.ok.hd hc
    have lu := (List.getElem?_eq_some_iff.mp hu).1
    have lv := (List.getElem?_eq_some_iff.mp hv).1
    have zl := Heap.lt_size s1
    refine wpAny_pyNext_zipD2_item D (Draws.tuple hh i1 a na us.toArray) (Draws.list hh i2 b nb ws.toArray) s1 s2 s3 ⟨s4, pu⟩ ⟨s5, pw.isList⟩ (by simpa using lu) (by simpa using lv) ?_
    intro u' v' h' tk eu ev z' to' i1' i2' nt sz kp
    obtain rfl : u = u' := Option.some.inj (hu.symm.trans (by simpa using eu))
    obtain rfl : v = v' := Option.some.inj (hv.symm.trans (by simpa using ev))
    refine ⟨_, rfl, wpAny_letOwnedTupleGo_zip (s := { s with heap := h', toks := tk }) z' fun h2 z2 sb => ?_⟩
    have stay : ∀ c o, c ∉ cells5 z ti to i1 i2 → s.heap.get? c = some o → h2.get? c = some o := fun c o n e => by
      obtain ⟨n1, n2, n3, n4⟩ := no5 n
      exact (sb.2 c n1).trans (kp c o n1 n2 n3 n4 e)
    have new : ObjOk X.prog X.w (upd H s.heap.objs.size (.tup [x, y])) h2 s.heap.objs.size (.tup [x, y]) :=
      ⟨(show 2 ≤ sizeLine by decide), [u, v], .cons rxu (.cons ryv .nil), ⟨_, (sb.2 _ (Nat.ne_of_gt zl)).trans nt, rfl, _, rfl⟩⟩
    have J := I.turnedNew (t' := tk) (ch := cells5 z ti to i1 i2) stay hf (Nat.le_refl _) new
    have fr := I.hok.fresh (Nat.le_refl s.heap.objs.size)
    refine ⟨.ref s.heap.objs.size, _, J, rfl, ⟨_, x, y, rfl, fr, rfl, fun l hl => ?_, fun l hl => ?_⟩, ⟨z2, ?_, ⟨u, v, ?_⟩, ?_, ?_⟩, fun c hcm => ?_⟩
    · rw [I.tuple_inj hl qx]; exact gx
    · rw [I.list_inj hl qy]; exact gy
    · exact (sb.2 ti D.TIz).trans (kp ti _ D.TIz D.TITO D.TIi1 D.TIi2 s2)
    · exact (sb.2 to D.TOz).trans to'
    · exact i1'.1.at fun o q => (sb.2 i1 D.zi1.symm).trans q
    · exact i2'.1.at fun o q => (sb.2 i2 D.zi2.symm).trans q
    · have lt : c < s.heap.objs.size := by
        rcases in5 hcm with e | e | e | e | e
        · exact e ▸ zl
        · exact e ▸ Heap.lt_size s2
        · exact e ▸ Heap.lt_size s3
        · obtain ⟨_, q, _⟩ := s4
          exact e ▸ Heap.lt_size q
        · obtain ⟨_, q, _⟩ := s5
          exact e ▸ Heap.lt_size q
      rw [upd_ne (Nat.ne_of_lt lt)]
      exact (hf c hcm).1
  done := by
    intro X e1 e2 e3 hc i pins s σ H E I hf st hg
    subst e1 e2 e3
    obtain ⟨s1, s2, ⟨x0, y0, s3⟩, s4, s5⟩ := st
    obtain ⟨xs, ys, ⟨qx, qy⟩, hend⟩ := hg
    obtain ⟨us, ru, pu, _⟩ := I.tuple qx
    obtain ⟨ws, rw', pw, _⟩ := I.list qy
    have hh : X.A.in1.handled = none := I.ok.hd hc
    have l1 := ru.length
    have l2 := rw'.length
    refine wpAny_pyNext_zipD2_end D (Draws.tuple hh i1 a na us.toArray) (Draws.list hh i2 b nb ws.toArray) s1 s2 s3 ⟨s4, pu⟩ ⟨s5, pw.isList⟩ (by simp; omega) (by simp; omega) (by simp; omega) fun h' tk kp => ⟨rfl, ?_⟩
    refine I.turnedL (t' := tk) (ch := cells5 z ti to i1 i2) (fun c o n e => ?_) hf
    obtain ⟨n1, n2, n3, n4⟩ := no5 n
    exact kp c o n1 n2 n3 n4 e
  self := fun A i s Q E st h => wpAny_pyIter_zip st.1 h
/-- zip(t, l) -/
def iZipM (K : PySem.W.Frag) (ta : TA) : TI := fun σ H R => ta σ H fun vs H1 => ∃ a b xs ys, vs = [.ref a, .ref b] ∧ SqT K H1 a xs ∧ SqL K H1 b ys ∧ R (ItM K a b) H1
theorem pi_zipM {X : Cx} {e e2 : Expr} {ta : TA} {p pos tp : Pos} {es : List Expr} {kk : Nat} (hg : Gl X "zip") (hm : X.mg "zip" = none) (ha : PA X [e, e2] ta)
    (hs : starEach [e, e2] X.env = (false, eval e X.env) :: starEach [e2] X.env := by rfl) (hpl : (backTo pos (starEach [e2] X.env)).any (·.1) = false := by rfl) :
    PI X (.Tuple es kk tp) (.Call (.Name "zip" p) [e, e2] [] pos) (iZipM X.K ta) := by
  refine ⟨fun pins s σ H R I h => Call_ (ld_blt I hg hm PyProof.Rows.boot_zip (PyProof.Rows.callWith_type1 (thn (ha.run pos pins s σ H _ I h) ?_) hs hpl))⟩
  rintro us s1 ⟨vs, H1, I1, r, a, b, xs, ys, rfl, qx, qy, q⟩
  obtain ⟨u, v, rfl, ra, rb⟩ := vals2 r
  cases ra
  cases rb
  obtain ⟨its, _, p1, _⟩ := I1.tuple qx
  obtain ⟨its2, _, p2, _⟩ := I1.list qy
  have la : a < s1.heap.objs.size := by
    obtain ⟨_, e, _⟩ := id p1
    exact Heap.lt_size e
  have lb := p2.lt
  refine zip_begins2 (begins_tuple a its.toArray) (begins_list b its2.toArray) p1 p2.isList fun h' z ti to g1 g2 sz kp => wpAny_pyIter_zip z ?_
  have D := zip_sep2 (N := s1.heap.objs.size) (fp1 := [a]) (fp2 := [b]) (fun c hc => by cases List.mem_singleton.mp hc; exact la) (fun c hc => by cases List.mem_singleton.mp hc; exact lb)
  refine ⟨_, cells5 _ _ _ _ _, _, _, H1, rfl, I1.kept (t' := s1.toks) kp, turnM D (Nat.ne_of_lt la) (Nat.ne_of_lt (Nat.lt_succ_of_lt lb)), ⟨z, ti, ⟨_, _, to⟩, ⟨_, g1, rfl, rfl⟩, ⟨_, g2, rfl, rfl⟩⟩, fun c hcm => ?_, q⟩
  have le : s1.heap.objs.size ≤ c := by
    rcases in5 hcm with e | e | e | e | e <;> rw [e] <;> omega
  exact I1.fpOk le (I1.hok.fresh le)
end Ck

/-! dicts from ints to ints: reads, stores, walks under a lock, dict(pairs) -/
namespace Ck
open PySem PySem.Spec PyProof.Rows L2 Evl
/-- the count of a size -/
def cnt : List (Int × Int) → Int → Option Int
  | [], _ => none
  | p :: r, s => if p.1 = s then some p.2 else cnt r s
def kc (p : Int × Int) : Key × V := (Sum.inl p.1, V.int p.2)
theorem valV_kc (s : Int) : ∀ ps : List (Int × Int), valV (ps.map kc) (Sum.inl s : Key) = (cnt ps s).map V.int
  | [] => rfl
  | p :: r => by
    by_cases e : p.1 = s
    · rw [List.map_cons, valV_pos (show (kc p).1 = Sum.inl s from congrArg Sum.inl e)]
      unfold cnt
      rw [if_pos e]
      rfl
    · rw [List.map_cons, valV_neg (show ¬ (kc p).1 = Sum.inl s from fun z => e (Sum.inl.inj z)), valV_kc s r]
      conv => rhs; unfold cnt
      rw [if_neg e]
theorem cnt_none {s : Int} : ∀ {ps : List (Int × Int)}, cnt ps s = none ↔ s ∉ ps.map Prod.fst
  | [] => by simp [cnt]
  | p :: r => by
    unfold cnt
    by_cases e : p.1 = s
    · simp [e]
    · rw [if_neg e, cnt_none (ps := r)]
      simp [Ne.symm e]
theorem cnt_mem {s c : Int} : ∀ {ps : List (Int × Int)}, (ps.map Prod.fst).Nodup → ((s, c) ∈ ps ↔ cnt ps s = some c)
  | [], _ => by simp [cnt]
  | p :: r, h => by
    obtain ⟨h1, h2⟩ := List.nodup_cons.mp h
    unfold cnt
    by_cases e : p.1 = s
    · rw [if_pos e]
      constructor
      · intro m
        rcases List.mem_cons.mp m with z | z
        · rw [← z]
        · exact absurd (List.mem_map.mpr ⟨_, z, e.symm⟩) h1
      · intro z
        rw [← Option.some.inj z, ← e]
        exact List.mem_cons_self
    · rw [if_neg e, ← cnt_mem (ps := r) h2]
      constructor
      · intro m
        rcases List.mem_cons.mp m with z | z
        · exact absurd (by rw [← z]) e
        · exact z
      · exact fun z => List.mem_cons_of_mem _ z
/-- a dict of counts stands at d -/
abbrev Dk (H : Hp) (d : Addr) (ps : List (Int × Int)) : Prop := Rd H d (.dK (ps.map kc))
theorem Dk.get {H : Hp} {d : Addr} {ps : List (Int × Int)} {s : Int} (h : Dk H d ps) : DGet H d (.int s) ((cnt ps s).map V.int) := .inl ⟨_, Sum.inl s, h, rfl, (valV_kc s ps).symm⟩
/-- the dict at d is locked, all else stands -/
def Fz (d : Addr) (u : HO) (H H1 : Hp) : Prop := (∀ a o, a ≠ d → H a = some o → H1 a = some o) ∧ ∃ od, H1 d = some (.frz od u)
theorem Fz.to {d : Addr} {u : HO} {H H1 H2 : Hp} (h : Fz d u H H1) (e : Ex H1 H2) : Fz d u H H2 := ⟨fun a o n k => e _ _ (h.1 a o n k), h.2.imp fun _ k => e _ _ k⟩
theorem Fz.of {d : Addr} {u : HO} {H H0 H1 : Hp} (h : Fz d u H0 H1) (e : Ex H H0) : Fz d u H H1 := ⟨fun a o n k => h.1 a o n (e _ _ k), h.2⟩
theorem Fz.back {d : Addr} {u : HO} {H H1 : Hp} (h : Fz d u H H1) (hd : H d = some u) : Ex H (upd H1 d u) := fun a o k => by
  by_cases z : a = d
  · rw [z, hd] at k
    rw [z, upd_same]
    exact k
  · rw [upd_ne z]
    exact h.1 a o z k
theorem Fz.new {d p : Addr} {u : HO} {H H1 : Hp} (h : Fz d u H H1) (hd : H d = some u) (hp : H1 p = none) : H p = none ∧ p ≠ d := by
  obtain ⟨k, od, e⟩ := h
  have n : p ≠ d := fun z => by rw [z, e] at hp; cases hp
  refine ⟨?_, n⟩
  cases q : H p with
  | none => rfl
  | some o =>
    rw [k p o n q] at hp
    cases hp
theorem Fz.dk {d : Addr} {kvs : List (Key × V)} {H H1 : Hp} (h : Fz d (.dK kvs) H H1) : Rd H1 d (.dK kvs) := h.2.elim fun od e => .inr ⟨od, e⟩
theorem Fz.t {K : PySem.W.Frag} {d a : Addr} {kvs : List (Key × V)} {xs : List V} {H H1 : Hp} (h : Fz d (.dK kvs) H H1) (hd : H d = some (.dK kvs)) (t : SqT K H a xs) : SqT K H1 a xs := by
  rcases t with (t | ⟨o, t⟩) | t
  · exact .inl (.inl (h.1 a _ (fun z => by rw [z, hd] at t; cases t) t))
  · exact .inl (.inr ⟨o, h.1 a _ (fun z => by rw [z, hd] at t; cases t) t⟩)
  · exact .inr t
theorem fz_of {d : Addr} {u : HO} {od : Obj} {H : Hp} : Fz d u H (upd H d (.frz od u)) := ⟨fun a o n k => by rw [upd_ne n]; exact k, od, upd_same⟩
theorem sqT_back {K : PySem.W.Frag} {d t : Addr} {kvs : List (Key × V)} {u : HO} {od : Obj} {xs : List V} {H : Hp} (hd : H d = some (.frz od (.dK kvs))) (h : SqT K H t xs) : SqT K (upd H d u) t xs := by
  rcases h with (h | ⟨o, h⟩) | h
  · exact .inl (.inl (by rw [upd_ne (fun z => by rw [z, hd] at h; cases h)]; exact h))
  · exact .inl (.inr ⟨o, by rw [upd_ne (fun z => by rw [z, hd] at h; cases h)]; exact h⟩)
  · exact .inr h
section
variable {K : PySem.W.Frag} {σ : L2.St} {H : Hp} {td te ty tx : TE} {tt : TT} {d : Addr} {kvs : List (Key × V)} {j j2 : Nat} {ws : List Nat} {ps : List (Int × Int)} {s c : Int}
/-- d[s] -/
theorem ev_dget (h : Ev td σ H (.ref d)) (hs : Ev ty σ H (.int s)) (hd : ∀ H1, Ex H H1 → Dk H1 d ps) (hc : cnt ps s = some c) : Ev (tDGet td ty) σ H (.int c) := fun H1 e Q q =>
  h H1 e _ fun H2 e2 => hs H2 (e.trans e2) _ fun H3 e3 => ⟨d, .int c, rfl, by
    have g := (hd H3 ((e.trans e2).trans e3)).get (s := s)
    rw [hc] at g
    exact g, q H3 (e2.trans e3)⟩
theorem Dk.up {H H' : Hp} (h : Dk H d ps) (e : Ex H H') : Dk H' d ps := ex_rd e h
/-- d.get(s, x) -/
theorem ev_dget2 (h : Ev td σ H (.ref d)) (hs : Ev ty σ H (.int s)) (hx : Ev tx σ H (.int c)) (hd : Dk H d ps) : Ev (tDGet2 td ty tx) σ H (.int ((cnt ps s).getD c)) := fun H1 e Q q =>
  h H1 e _ fun H2 e2 => ⟨d, rfl, .inl ⟨_, hd.up (e.trans e2)⟩, hs H2 (e.trans e2) _ fun H3 e3 => hx H3 ((e.trans e2).trans e3) _ fun H4 e4 => ⟨_, (hd.up (((e.trans e2).trans e3).trans e4)).get, by
    have z := q H4 ((e2.trans e3).trans e4)
    cases h : cnt ps s with
    | none => rw [h] at z; exact z
    | some y => rw [h] at z; exact z⟩⟩
/-- s in d -/
theorem ev_din (h : Ev td σ H (.ref d)) (hs : Ev ty σ H (.int s)) (hd : Dk H d ps) : Ev (tDIn ty td) σ H (.bl (cnt ps s).isSome) := fun H1 e Q q =>
  hs H1 e _ fun H2 e2 => h H2 (e.trans e2) _ fun H3 e3 => ⟨d, _, rfl, (hd.up ((e.trans e2).trans e3)).get, by
    have z := q H3 (e2.trans e3)
    cases h : cnt ps s with
    | none => rw [h] at z; exact z
    | some y => rw [h] at z; exact z⟩
/-- [e for k in d if t] -/
theorem el_lcK (f : Nat → Bool) (v : Nat → V) (hv : ∀ H1, Ev td σ H1 (.ref d)) (hd : H d = some (.dK kvs)) (hl : kvs.length ≤ 40000) (hw : ∀ x, wipe ((wipe σ ws).set j (some x)) ws = wipe σ ws)
    (ht : ∀ i k x H1, kvs[i]? = some (k, x) → Fz d (.dK kvs) H H1 → EvT tt ((wipe σ ws).set j (some (kV k))) H1 (f i)) (he : ∀ i k x H1, kvs[i]? = some (k, x) → Fz d (.dK kvs) H H1 → f i = true → Ev te ((wipe σ ws).set j (some (kV k))) H1 (v i)) :
    EvL (tLockE (tLc (iKeys td) (gName j) tt te ws)) σ H (given kvs.length f v) := fun H0 e Q q => by
  have hd0 := e _ _ hd
  refine ⟨d, _, hd0, trivial, fun od => hv _ _ (Ex.refl _) _ fun H2 e2 => ?_⟩
  have z : Fz d (.dK kvs) H0 H2 := (fz_of (od := od)).to e2
  have hd2 : H2 d = some (.frz od (.dK kvs)) := e2 _ _ upd_same
  refine ⟨d, od, rfl, .inl ⟨kvs, hd2, fun D hD => ?_⟩⟩
  refine lc_it walk_keys (Cw H2 f v D) ⟨hD, Ex.new hD, upd_same⟩ (fun _ _ _ p => p.2.1 _ _ hd2) ?_ (fun H' p => ?_)
  · rintro i _ H' _ hi p ⟨rfl, k, x, hk, rfl⟩
    exact ⟨hw _, cw_turn p (by omega) (ht i k x H2 hk (z.of e)) (fun hf => he i k x H2 hk (z.of e) hf)⟩
  · obtain ⟨p1, p2, p3⟩ := p
    obtain ⟨n1, n2⟩ := z.new hd0 hD
    exact ⟨p2 _ _ hd2, q D _ n1 ((z.to p2).back hd0) (by rw [upd_ne n2]; exact p3)⟩
/-- [e for a, b in d.items() if t] -/
theorem el_lcI (f : Nat → Bool) (v : Nat → V) (hv : ∀ H1, Ev td σ H1 (.ref d)) (hd : H d = some (.dK kvs)) (hl : kvs.length ≤ 40000) (hw : ∀ x y, wipe (((wipe σ ws).set j (some x)).set j2 (some y)) ws = wipe σ ws)
    (ht : ∀ i k x H1, kvs[i]? = some (k, x) → Fz d (.dK kvs) H H1 → EvT tt (((wipe σ ws).set j (some (kV k))).set j2 (some x)) H1 (f i)) (he : ∀ i k x H1, kvs[i]? = some (k, x) → Fz d (.dK kvs) H H1 → f i = true → Ev te (((wipe σ ws).set j (some (kV k))).set j2 (some x)) H1 (v i)) :
    EvL (tLockE (tLc (iItems td) (gTup K 2 (gCons (gName j) (gCons (gName j2) gNil))) tt te ws)) σ H (given kvs.length f v) := fun H0 e Q q => by
  have hd0 := e _ _ hd
  refine ⟨d, _, hd0, trivial, fun od => hv _ _ (Ex.refl _) _ fun H2 e2 => ?_⟩
  have z : Fz d (.dK kvs) H0 H2 := (fz_of (od := od)).to e2
  have hd2 : H2 d = some (.frz od (.dK kvs)) := e2 _ _ upd_same
  refine ⟨d, od, kvs, rfl, hd2, fun D hD => ?_⟩
  refine lc_it walk_items (Cw H2 f v D) ⟨hD, Ex.new hD, upd_same⟩ (fun _ _ _ p => p.2.1 _ _ hd2) ?_ (fun H' p => ?_)
  · rintro i _ H' _ hi p ⟨T, x, y, rfl, hT, rfl, hx, hy⟩
    obtain ⟨⟨k, w⟩, hk, rfl⟩ := Option.map_eq_some_iff.mp hx
    have hy : (kvs[i]?.map Prod.snd) = some y := hy
    rw [hk] at hy
    obtain rfl : w = y := Option.some.inj hy
    have p' : Cw H2 f v D i (upd H' T (.tup [kV k, w])) := ⟨p.1, p.2.1.trans (Ex.new hT), by rw [upd_ne (ne_of_none p.2.2 hT)]; exact p.2.2⟩
    exact ⟨T, _, rfl, SqT.of upd_same, rfl, _, _, rfl, _, _, rfl, rfl, ⟨hw _ _, cw_turn p' (by omega) (ht i k w H2 hk (z.of e)) (fun hf => he i k w H2 hk (z.of e) hf)⟩⟩
  · obtain ⟨p1, p2, p3⟩ := p
    obtain ⟨n1, n2⟩ := z.new hd0 hD
    exact ⟨p2 _ _ hd2, q D _ n1 ((z.to p2).back hd0) (by rw [upd_ne n2]; exact p3)⟩
end
end Ck

/-! lists of pairs from a dict; dict(pairs) of a list or a tuple; sorted(d) -/
namespace Ck
open PySem PySem.Spec PyProof.Rows L2 Evl
/-- a pair of ints -/
def RP (K : PySem.W.Frag) (H : Hp) (x : V) (p : Int × Int) : Prop := ∃ t, x = .ref t ∧ SqT K H t [.int p.1, .int p.2]
section
variable {K : PySem.W.Frag} {σ : L2.St} {H H' : Hp} {td te : TE} {d l : Addr} {kvs : List (Key × V)} {j : Nat} {ws : List Nat} {ps : List (Int × Int)} {x : V} {p : Int × Int}
theorem RP.ex (e : Ex H H') (h : RP K H x p) : RP K H' x p := h.imp fun t h => ⟨h.1, ex_t e h.2⟩
theorem RP.upd {xs ys : List V} (hl : H l = some (.lst xs)) (h : RP K H x p) : RP K (L2.upd H l (.lst ys)) x p := h.imp fun t h => ⟨h.1, sqT_updL h.2 hl⟩
theorem RP.back {od : Obj} {u : HO} (hd : H d = some (.frz od (.dK kvs))) (h : RP K H x p) : RP K (L2.upd H d u) x p := h.imp fun t h => ⟨h.1, sqT_back hd h.2⟩
/-- [e for k in d], e a pair -/
theorem lc_keysP (e : Nat → Int × Int) (hv : ∀ H1, Ev td σ H1 (.ref d)) (hd : H d = some (.dK kvs)) (hl : kvs.length ≤ 40000) (hw : ∀ x, wipe ((wipe σ ws).set j (some x)) ws = wipe σ ws)
    (he : ∀ i k x H1, kvs[i]? = some (k, x) → Fz d (.dK kvs) H H1 → EvR (RP K) te ((wipe σ ws).set j (some (kV k))) H1 (e i)) :
    ∀ H0, Ex H H0 → ∀ Q : VK, (∀ D vs H2, H0 D = none → Ex H0 H2 → H2 D = some (.lst vs) → F2 (RP K H2) vs ((List.range kvs.length).map e) → Q (.ref D) H2) → tLockE (tLc (iKeys td) (gName j) tYes te ws) σ H0 Q := fun H0 e0 Q q => by
  have hd0 := e0 _ _ hd
  refine ⟨d, _, hd0, trivial, fun od => hv _ _ (Ex.refl _) _ fun H2 e2 => ?_⟩
  have z : Fz d (.dK kvs) H0 H2 := (fz_of (od := od)).to e2
  have hd2 : H2 d = some (.frz od (.dK kvs)) := e2 _ _ upd_same
  refine ⟨d, od, rfl, .inl ⟨kvs, hd2, fun D hD => ?_⟩⟩
  refine lc_it walk_keys (fun i H' => H2 D = none ∧ Ex H2 H' ∧ ∃ vs, H' D = some (.lst vs) ∧ vs.length ≤ i ∧ F2 (RP K H') vs ((List.range i).map e)) ⟨hD, Ex.new hD, [], upd_same, Nat.le_refl _, .nil⟩ (fun _ _ _ p => p.2.1 _ _ hd2) ?_ ?_
  · rintro i _ H' H6 hi ⟨p1, p2, vs, p3, p4, p5⟩ ⟨rfl, k, x, hk, rfl⟩
    refine ⟨hw _, yes_go (iteT (he i k x H6 hk ((z.to p2).of e0) _ (Ex.refl _) _ fun v H5 e5 hv5 => ⟨vs, e5 _ _ p3, sz_lt (by omega), p1, Ex.mut (p2.trans e5) p1, vs ++ [v], upd_same, by rw [List.length_append]; exact Nat.succ_le_succ p4, ?_⟩))⟩
    have hD5 := e5 _ _ p3
    rw [List.range_succ, List.map_append]
    exact (p5.imp fun x b r => (r.ex e5).upd hD5).app (.cons (hv5.upd hD5) .nil)
  · rintro H' ⟨p1, p2, vs, p3, _, p5⟩
    obtain ⟨n1, n2⟩ := z.new hd0 hD
    have hd3 := p2 _ _ hd2
    exact ⟨hd3, q D vs _ n1 ((z.to p2).back hd0) (by rw [upd_ne n2]; exact p3) (p5.imp fun x b r => r.back hd3)⟩
theorem evr_pair {ta tb : TE} {a b : Int} (ha : Ev ta σ H (.int a)) (hb : Ev tb σ H (.int b)) : EvR (RP K) (tTup (tCons ta (tCons tb tNil))) σ H (a, b) := fun H1 e Q q =>
  ha H1 e _ fun H2 e2 => hb H2 (e.trans e2) _ fun H3 e3 => ⟨(show 2 ≤ sizeLine by decide), fun t ht => q _ _ ((e2.trans e3).trans (Ex.new ht)) ⟨t, rfl, SqT.of upd_same⟩⟩
end
/-- dict(t) of a tuple of pairs (key, value) -/
theorem mergeK_nodup : ∀ {more acc : List (Key × V)}, ((acc ++ more).map Prod.fst).Nodup → mergeK acc more = acc ++ more
  | [], acc, _ => by rw [List.append_nil]; rfl
  | p :: r, acc, h => by
    have n : (acc.any fun kv => decide (kv.1 = p.1)) = false := by
      rw [List.any_eq_false]
      intro kv hkv z
      rw [List.map_append, List.map_cons, List.nodup_append] at h
      exact h.2.2 _ (List.mem_map_of_mem hkv) _ List.mem_cons_self (of_decide_eq_true z)
    have e : putK acc p.1 p.2 = acc ++ [p] := by
      unfold putK
      rw [if_neg (by rw [n]; exact Bool.false_ne_true)]
    show mergeK (putK acc p.1 p.2) r = _
    rw [e, mergeK_nodup (acc := acc ++ [p]) (by rw [List.append_assoc]; exact h), List.append_assoc]
    rfl
theorem merge_kc {ps : List (Int × Int)} (h : (ps.map Prod.fst).Nodup) : mergeK [] (ps.map kc) = ps.map kc := by
  refine mergeK_nodup (acc := []) ?_
  rw [List.nil_append, List.map_map]
  show (ps.map fun p => (Sum.inl p.1 : Key)).Nodup
  have := h
  rw [show (ps.map fun p => (Sum.inl p.1 : Key)) = (ps.map Prod.fst).map Sum.inl by rw [List.map_map]; rfl]
  exact List.Pairwise.map _ (fun a b n z => n (Sum.inl.inj z)) h
/-- a tuple that was just made of a list: its object is known -/
def TupZ (H : Hp) (a : Addr) (xs : List V) : Prop := ∃ o, H a = some (.frz o (.tup xs)) ∧ o.cls = .type "tuple" ∧ o.dict = none
theorem TupZ.t {K : PySem.W.Frag} {H : Hp} {a : Addr} {xs : List V} (h : TupZ H a xs) : SqT K H a xs := h.elim fun o h => .inl (.inr ⟨o, h.1⟩)
theorem TupZ.ex {H H' : Hp} {a : Addr} {xs : List V} (h : TupZ H a xs) (e : Ex H H') : TupZ H' a xs := h.imp fun o h => ⟨e _ _ h.1, h.2⟩
section
variable {X : Cx}
/-- tuple(l), the new tuple's object known -/
def rTupZ (K : PySem.W.Frag) : List V → Hp → VK → Prop := fun xs H Q => ∃ p ys, xs = [.ref p] ∧ SqL K H p ys ∧ ∀ l o, H l = none → o.cls = .type "tuple" → o.dict = none → Q (.ref l) (upd H l (.frz o (.tup ys)))
theorem call_tupleZ : CallR X (.type "tuple") (rTupZ X.K) := by
  rintro pins s σ H _ us Q I r ⟨p, ys, rfl, hq, q⟩
  obtain ⟨u, rfl, rx⟩ := vals1 r
  cases rx
  obtain ⟨its, rv, pl, hz⟩ := I.list hq
  have hlen := rv.length
  refine call_tuple_list pl.isList (fun h' kp => ?_) (by rw [List.size_toArray, ← hlen]; exact hz)
  have I1 : Inv X pins σ H { s with heap := h' } := I.kept (t' := s.toks) kp
  have at_ : (h'.push { cls := .type "tuple", data := .seq its.toArray }).get? h'.objs.size = some { cls := .type "tuple", data := .seq its.toArray } := Heap.get?_push_size _ rfl
  have J := I1.laid (t' := s.toks) (a := h'.objs.size) (o := .frz { cls := .type "tuple", data := .seq its.toArray } (.tup ys)) (fun b o e => Heap.get?_push_of_some _ e) (Nat.le_refl _) ⟨at_, hz, its, rv, IsTup.new _ _⟩
  exact ⟨.ref _, _, J, rfl, q _ _ (I1.hok.fresh (Nat.le_refl _)) rfl rfl⟩
theorem pairs_at {pins : List (Addr × Obj)} {σ : L2.St} {H : Hp} {s : Shared} (I : Inv X pins σ H s) : ∀ {ts : List Addr} {kvs : List (Key × V)}, Paired (fun t kv => SqT X.K H t [kV kv.1, kv.2]) ts kvs →
    ∃ (prs : List (Key × Value)) (ps : List (Value × Value)), KV kvs prs ∧ ps.length = ts.length ∧ prs.length = ts.length ∧ ∀ (j : Nat) (k v : Value), ps[j]? = some (k, v) → ∃ (b : Addr) (c : Key), ts[j]? = some b ∧ IsTup s.heap b #[k, v] ∧ prs[j]? = some (c, v) ∧ (mixKind X.prog X.w).is c k = true
  | _, _, .nil => ⟨[], [], .nil, rfl, rfl, fun j k v e => by simp at e⟩
  | _, _, .cons (a := t) (b := kv) h tl => by
    obtain ⟨prs, ps, r, l1, l2, hp⟩ := pairs_at I tl
    obtain ⟨its, rv, ht, _⟩ := I.tuple h
    obtain ⟨u, y, rfl, ru, ry⟩ := vals2 rv
    refine ⟨(kv.1, y) :: prs, (u, y) :: ps, .cons ⟨rfl, ry⟩ r, congrArg Nat.succ l1, congrArg Nat.succ l2, fun j k v e => ?_⟩
    cases j with
    | zero =>
      obtain ⟨rfl, rfl⟩ := Prod.mk.inj (Option.some.inj e)
      exact ⟨t, kv.1, rfl, ht, rfl, kV_is (P := X.prog) (w := X.w) ru⟩
    | succ j =>
      obtain ⟨b, c, e1, e2, e3, e4⟩ := hp j k v (by simpa using e)
      exact ⟨b, c, by simpa using e1, e2, by simpa using e3, e4⟩
/-- dict(t), t such a tuple of pairs -/
def rDictZ (K : PySem.W.Frag) : List V → Hp → VK → Prop := fun xs H Q => ∃ (a : Addr) (ts : List Addr) (kvs : List (Key × V)), xs = [.ref a] ∧ TupZ H a (ts.map V.ref) ∧ Paired (fun t kv => SqT K H t [kV kv.1, kv.2]) ts kvs ∧ ∀ p, H p = none → Q (.ref p) (upd H p (.dK (mergeK [] kvs)))
theorem call_dictZ (hc : X.calm = true) : CallR X (.type "dict") (rDictZ X.K) := by
  rintro pins s σ H _ us Q I r ⟨a, ts, kvs, rfl, hz, hp, q⟩
  obtain ⟨u, rfl, rx⟩ := vals1 r
  cases rx
  obtain ⟨o, ho, oc, od⟩ := id hz
  obtain ⟨hget, _⟩ := I.hok a _ ho
  obtain ⟨its, rv, ⟨o', hget', _, n, hdat⟩, hsz⟩ := I.tuple (hz.t (K := X.K))
  obtain rfl : o = o' := Option.some.inj (hget.symm.trans hget')
  have ei := refs_at rv
  subst ei
  rw [List.length_map] at hsz
  obtain ⟨prs, ps, rel, l1, l2, hps⟩ := pairs_at I hp
  have P := PairArg.tuple (prog := X.prog) (w := X.w) a (ts.map Value.ref).toArray (fun j => ts.getD j 0) ps
  refine _root_.PySem.call_dict_pairs (knd := mixKind X.prog X.w) (kvs := prs) P (I.ok.hd hc) ⟨⟨o, n, hget, oc, od, hdat⟩, by rw [List.size_toArray, List.length_map, l1], fun j k v e => ?_⟩ ⟨by rw [l1, l2], fun j k v e => ?_⟩ (by rw [l1]; exact hsz) fun h' tk hd' kp => ?_
  · obtain ⟨b, c, e1, e2, _⟩ := hps j k v e
    have eb : ts.getD j 0 = b := by rw [List.getD_eq_getElem?_getD, e1]; rfl
    refine ⟨?_, .inl ?_⟩
    · show _ = some (Value.ref (ts.getD j 0))
      rw [eb]
      simp [e1]
    · show s.heap.IsTuple (ts.getD j 0) _
      rw [eb]
      exact e2
  · obtain ⟨b, c, _, _, e3, e4⟩ := hps j k v e
    exact ⟨c, e3, e4⟩
  · have big : (s.heap.objs.size == sysModules) = false := beq_eq_false_iff_ne.mpr (Nat.ne_of_gt I.big)
    have len : (mergeK [] kvs).length ≤ sizeLine := by
      have z := length_mergeK kvs []
      have z2 := rel.length
      rw [List.length_nil, Nat.zero_add] at z
      omega
    have J := I.laid (t' := tk) (a := s.heap.objs.size) (o := .dK (mergeK [] kvs)) (fun b ob e => kp b ob (fun hm => nomatch hm) e) (Nat.le_refl _) ⟨len, big, merged [] prs, KV.merge rel .nil, hd'⟩
    exact ⟨.ref _, _, J, rfl, q _ (I.hok.fresh (Nat.le_refl _))⟩
end
end Ck

/-! classes whose defs keep their promises: made, read by a property, by [], by a method, ==, in -/
namespace Ck
open PySem PySem.Spec PyProof.Rows L2 StX Evl
/-- a class whose objects are made by a promise of __init__ -/
def Mkc (P : Program) (w : World) (K : PySem.W.Frag) (mg : Str → Option Value) (base : Heap) (k : Nat) (x : Str) (C : Addr) (sp : Sp) : Prop :=
  ∃ f, Mk K C f ∧ mg x = some (.ref C) ∧ FnR P w K mg base CX0 k f sp
/-- a property by a promise of its def -/
def Pg (P : Program) (w : World) (K : PySem.W.Frag) (mg : Str → Option Value) (base : Heap) (k : Nat) (C : Addr) (x : Str) (sp : Sp) : Prop :=
  Cls K C ∧ ∃ p g fd, PropOf K C x p g ∧ FnOk P w K mg base CX0 k g fd ["self"] sp ∧ Binds K fd ["self"] []
/-- a def of the class that an operator or a call finds -/
def Og (P : Program) (w : World) (K : PySem.W.Frag) (mg : Str → Option Value) (base : Heap) (k : Nat) (C : Addr) (x : Str) (ps : List Str) (sp : Sp) : Prop :=
  Cls K C ∧ ∃ g fd, PySem.W.findIn K (.ref C) x = some (some (.ref g)) ∧ PySem.W.isFn K (.ref g) = true ∧ PySem.W.fnIn K g = true ∧ PySem.W.keepIn K (.ref g) = true ∧ FnOk P w K mg base CX0 k g fd ps sp ∧ Binds K fd ps []
section
variable {X : Cx} {k j : Nat} {C : Addr} {x : Str} {sp : Sp} {ps : List Str} {e : Expr} {es : List Expr} {te ti : TE} {t : TA} {p pos : Pos}
theorem pmk (c : Mkc X.prog X.w X.K X.mg X.base k x C sp) (hr : Room j X.A) (ha : PA X (e :: es) t) (hk : k + 1 ≤ j := by decide) (hg : Gl X x := by rfl) (hdb : (x == ("__debug__" : Str)) = false := by decide)
    (he : starEach (e :: es) X.env = (false, eval e X.env) :: starEach es X.env := by rfl) (hpl : (backTo pos (starEach es X.env)).any (·.1) = false := by rfl) : PE X (.Call (.Name x p) (e :: es) [] pos) (tMakeR C sp E0 t) := by
  obtain ⟨f, M, hm, F⟩ := c
  exact pe_makeR M F (hr.mono hk) hg hm pass0 ha hdb he hpl
theorem pmk0 (c : Mkc X.prog X.w X.K X.mg X.base k x C sp) (hr : Room j X.A) (hk : k + 1 ≤ j := by decide) (hg : Gl X x := by rfl) (hdb : (x == ("__debug__" : Str)) = false := by decide) : PE X (.Call (.Name x p) [] [] pos) (tMakeR C sp E0 tNil) := by
  obtain ⟨f, M, hm, F⟩ := c
  exact pe_makeR0 M F (hr.mono hk) hg hm pass0 hdb
theorem pprop (c : Pg X.prog X.w X.K X.mg X.base k C x sp) (hr : Room j X.A) (he : PE X e te) (hk : k + 1 ≤ j := by decide) (hab : attributeBase e x X.env (eval e X.env) = eval e X.env := by rfl) : PE X (.Attribute e x pos) (tProp C sp [] E0 te) := by
  obtain ⟨hc, p, g, fd, hp, F, b⟩ := c
  exact pe_prop he hc hp F (hr.mono hk) b .nil pass0 hab
/-- o[i], o with a __getitem__ of its own -/
def tGetO (C : Addr) (sp : Sp) (te ti : TE) : TE := fun σ H Q => te σ H fun x H1 => ti σ H1 fun y H2 => ∃ a dx fs, x = .ref a ∧ H2 a = some (.ins C dx fs) ∧ sp [.ref a, y] H2 Q E0
theorem pgetO {i : Expr} (c : Og X.prog X.w X.K X.mg X.base k C "__getitem__" ps sp) (hr : Room j X.A) (he : PE X e te) (hi : PE X i ti) (hk : k + 1 ≤ j := by decide)
    (hsl : ∀ x v, subscripted i true (.ref x) v = runValue (.builtin "lifetime.subscript" ⟨[.ref x, v], []⟩) := by intro _ _; with_unfolding_all rfl) : PE X (.Subscript e i pos) (tGetO C sp te ti) := by
  obtain ⟨hc, g, fd, hs, hfn, hf, kp, F, b⟩ := c
  refine ⟨fun pins s σ H Q I h => Subscript_ (thn (he.run pins s σ H _ I h) ?_)⟩
  rintro u s1 ⟨x, H1, I1, rx, q1⟩
  refine thn (hi.run pins s1 σ H1 _ I1 q1) ?_
  rintro v s2 ⟨y, H2, I2, ry, a, dx, fs, rfl, ha, q⟩
  cases rx
  obtain ⟨mA, J, _⟩ := ins_get I2.hok ha
  obtain ⟨od, J, _⟩ := J.look
  obtain ⟨m, hF⟩ := I2.fr
  refine PySem.W.sub_K hF I2.ok.mod.kin J hs hf hfn ?_ (hsl a v)
  exact run_own (vs := [.ref a, y]) F b (hr.mono hk).in1 rfl I2 (.cons rfl (.cons ry .nil)) q fun v u H' s' I' rv q => ⟨v, H', I', rv, q⟩
theorem oinO (c : Og X.prog X.w X.K X.mg X.base k C "__contains__" ps sp) (hr : Room j X.A) (hk : k ≤ j := by decide) : OpR X (compareOp .In) (fun x y H Q => ∃ a dx fs, y = .ref a ∧ H a = some (.ins C dx fs) ∧ sp [.ref a, x] H (isB Q) E0) := by
  obtain ⟨hc, g, fd, hs, hfn, hf, kp, F, b⟩ := c
  exact op_inO F hs hfn b (hr.mono hk)
theorem oeqO (c : Og X.prog X.w X.K X.mg X.base k C "__eq__" ps sp) (hr : Room j X.A) (hk : k ≤ j := by decide) : OpR X (compareOp .Eq) (fun x y H Q => ∃ a b dx dy fs gs, x = .ref a ∧ y = .ref b ∧ H a = some (.ins C dx fs) ∧ H b = some (.ins C dy gs) ∧ sp [.ref a, .ref b] H (isB Q) E0) := by
  obtain ⟨hc, g, fd, hs, hfn, hf, kp, F, b⟩ := c
  exact op_eqO F hs hfn b (hr.mono hk)
end
/-! ### a lot -/
def lotF (t1 t2 d : Addr) : List (Str × V) := putF "_counts" (.ref d) (putF "_pairs" (.ref t2) (putF "_sizes" (.ref t1) []))
/-- a lot of these counts: sizes ascending -/
structure LotAt (K : PySem.W.Frag) (C : Addr) (H : Hp) (a : Addr) (ps : List (Int × Int)) : Prop where
  ex : ∃ dx t1 t2 d ts, H a = some (.ins C dx (lotF t1 t2 d)) ∧ SqT K H t1 ((ps.map Prod.fst).map V.int) ∧ SqT K H t2 ts ∧ F2 (RP K H) ts ps ∧ Dk H d ps
theorem LotAt.up {K : PySem.W.Frag} {C a : Addr} {H H' : Hp} {ps : List (Int × Int)} (h : LotAt K C H a ps) (e : Ex H H') : LotAt K C H' a ps := by
  obtain ⟨dx, t1, t2, d, ts, h1, h2, h3, h4, h5⟩ := h
  exact ⟨dx, t1, t2, d, ts, e _ _ h1, ex_t e h2, ex_t e h3, h4.imp fun x b r => r.ex e, h5.up e⟩
theorem lot_sizes (t1 t2 d : Addr) : (lotF t1 t2 d).lookup ("_sizes" : Str) = some (.ref t1) := by
  unfold lotF
  rw [lookup_putF, if_neg (by decide +kernel), lookup_putF, if_neg (by decide +kernel), lookup_putF, if_pos rfl]
theorem lot_pairs (t1 t2 d : Addr) : (lotF t1 t2 d).lookup ("_pairs" : Str) = some (.ref t2) := by
  unfold lotF
  rw [lookup_putF, if_neg (by decide +kernel), lookup_putF, if_pos rfl]
theorem lot_counts (t1 t2 d : Addr) : (lotF t1 t2 d).lookup ("_counts" : Str) = some (.ref d) := by
  unfold lotF
  rw [lookup_putF, if_pos rfl]
end Ck

/-! defs of a class, as they stand behind the top; what is promised of lots -/
namespace Ck
open PySem PySem.Spec PyProof.Rows L2 StX Evl
/-- a property's def | a def that an operator finds | __init__ with one value that may lack -/
def Dpr (K : PySem.W.Frag) (C : Addr) (x qual : Str) (st : Stmt) : Prop := ∃ p g fd, PropOf K C x p g ∧ Fun K x qual st g fd ∧ Binds K fd ["self"] []
def Dop (K : PySem.W.Frag) (C : Addr) (x qual : Str) (st : Stmt) (ps : List Str) : Prop :=
  ∃ g fd, PySem.W.findIn K (.ref C) x = some (some (.ref g)) ∧ PySem.W.isFn K (.ref g) = true ∧ PySem.W.fnIn K g = true ∧ PySem.W.keepIn K (.ref g) = true ∧ Fun K x qual st g fd ∧ Binds K fd ps []
def Din (K : PySem.W.Frag) (mg : Str → Option Value) (x : Str) (C : Addr) (qual : Str) (st : Stmt) (ps : List Str) : Prop :=
  ∃ f fd, Mk K C f ∧ mg x = some (.ref C) ∧ FunD K "__init__" qual (defArgs st) (defBody st) (defScope st) [V.non] [] f fd ∧ Binds K fd ps [] ∧ ∃ ds, Vals [V.non] ds ∧ Binds K fd ps ds
section
variable {P : Program} {w : World} {K : PySem.W.Frag} {mg : Str → Option Value} {base : Heap} {k : Nat} {C : Addr} {x qual : Str} {st : Stmt} {N ps : List Str} {sp : Sp}
theorem pg_of (c : Cls K C) (D : Dpr K C x qual st) (S : FnScope N ["self"] (defScope st)) (len : ∀ vs H Q E, sp vs H Q E → vs.length = 1)
    (hbody : ∀ (f : Addr) (cdv : Value) (A : Around) (outer : List Env) (s : Shared) (H : Hp) (vs : List V) (Q : VK) (E : XK), Room k (A.deeper (envOfC qual (defScope st) s.heap.objs.size f cdv)) → sp vs H Q E →
      ∃ t, PSs (cxOf CX0 P w K mg base N qual (defScope st) f cdv A outer s H E).nox (defBody st) t ∧ t { nx := fun _ H' => Q .non H', rt := Q } (start N vs) H) : Pg P w K mg base (k + 1) C x sp := by
  obtain ⟨p, g, fd, hp, F, b⟩ := D
  exact ⟨c, p, g, fd, hp, F.ok S len (hbody g), b⟩
theorem og_of (c : Cls K C) (D : Dop K C x qual st ps) (S : FnScope N ps (defScope st)) (len : ∀ vs H Q E, sp vs H Q E → vs.length = ps.length)
    (hbody : ∀ (f : Addr) (cdv : Value) (A : Around) (outer : List Env) (s : Shared) (H : Hp) (vs : List V) (Q : VK) (E : XK), Room k (A.deeper (envOfC qual (defScope st) s.heap.objs.size f cdv)) → sp vs H Q E →
      ∃ t, PSs (cxOf CX0 P w K mg base N qual (defScope st) f cdv A outer s H E).nox (defBody st) t ∧ t { nx := fun _ H' => Q .non H', rt := Q } (start N vs) H) : Og P w K mg base (k + 1) C x ps sp := by
  obtain ⟨g, fd, h1, h2, h3, h4, F, b⟩ := D
  exact ⟨c, g, fd, h1, h2, h3, h4, F.ok S len (hbody g), b⟩
theorem mkc_of (D : Din K mg x C qual st ps) (S : FnScope N ps (defScope st)) (len : ∀ vs H Q E, sp vs H Q E → vs.length = ps.length)
    (hbody : ∀ (f : Addr) (cdv : Value) (A : Around) (outer : List Env) (s : Shared) (H : Hp) (vs : List V) (Q : VK) (E : XK), Room k (A.deeper (envOfC qual (defScope st) s.heap.objs.size f cdv)) → sp vs H Q E →
      ∃ t, PSs (cxOf CX0 P w K mg base N qual (defScope st) f cdv A outer s H E).nox (defBody st) t ∧ t { nx := fun _ H' => Q .non H', rt := Q } (start N vs) H) :
    Mkc P w K mg base (k + 1) x C sp ∧ Mkc P w K mg base (k + 1) x C fun vs H Q E => sp (vs ++ [.non]) H Q E := by
  obtain ⟨f, fd, M, hm, F, b, ds, hd, b2⟩ := D
  have G : FnOk P w K mg base CX0 (k + 1) f fd ps sp := F.ok S len fun cdv A outer s H vs Q E hr h => by
    obtain ⟨t, h1, h2⟩ := hbody f cdv A outer s H vs Q E hr h
    exact ⟨t, h1.nox, h2⟩
  exact ⟨⟨f, M, hm, (G.raw b .nil).imp fun vs H Q E h => by rw [List.append_nil]; exact h⟩, ⟨f, M, hm, G.raw b2 hd⟩⟩
end
/-- what the text has of the class Lot -/
structure LotT (K : PySem.W.Frag) (mg : Str → Option Value) (CL : Addr) : Prop where
  k : Klass K mg "Lot" CL
  n1 : NoAttr K CL "_sizes"
  n2 : NoAttr K CL "_pairs"
  n3 : NoAttr K CL "_counts"
/-- counts as a lot takes them -/
structure Cts (ps : List (Int × Int)) : Prop where
  nd : (ps.map Prod.fst).Nodup
  ln : ps.length ≤ 12
  ok : ∀ p ∈ ps, sizB p.1 = true ∧ sizB p.2 = true
/-- ascending by sizes -/
def Asc (ps : List (Int × Int)) : Prop := (ps.map Prod.fst).Pairwise (· < ·)
/-- Lot(d), Lot(None) -/
def spLotI (K : PySem.W.Frag) (C : Addr) : Sp := fun vs H Q _ => ∃ (x dx : Addr) (v : V) (ps : List (Int × Int)) (H0 : Hp), vs = [.ref x, v] ∧ Ex H0 H ∧ H0 x = none ∧ H x = some (.ins C dx []) ∧ Cts ps ∧
  ((v = .non ∧ ps = []) ∨ ∃ d, v = .ref d ∧ H0 d = some (.dK (ps.map kc))) ∧ ∀ qs H', Ex H0 H' → qs.Perm ps → Asc qs → LotAt K C H' x qs → Q .non H'
def spSizes (K : PySem.W.Frag) (C : Addr) : Sp := fun vs H Q _ => ∃ a ps, vs = [.ref a] ∧ LotAt K C H a ps ∧ ∀ t H', Ex H H' → SqT K H' t ((ps.map Prod.fst).map V.int) → Q (.ref t) H'
/-- the total -/
def tot (ps : List (Int × Int)) : Int := (ps.map fun p => p.1 * p.2).sum
def spTotal (K : PySem.W.Frag) (C : Addr) : Sp := fun vs H Q _ => ∃ a ps, vs = [.ref a] ∧ LotAt K C H a ps ∧ Cts ps ∧ ∀ H', Ex H H' → Q (.int (tot ps)) H'
def spItem (K : PySem.W.Frag) (C : Addr) : Sp := fun vs H Q _ => ∃ a s ps, vs = [.ref a, .int s] ∧ LotAt K C H a ps ∧ sizB s = true ∧ ∀ H', Ex H H' → Q (.int ((cnt ps s).getD 0)) H'
def spIsLot (K : PySem.W.Frag) (C : Addr) : Sp := fun vs H Q _ => ∃ a ps, vs = [.ref a] ∧ LotAt K C H a ps ∧ ∀ H', Ex H H' → Q .non H'
def spAreC (K : PySem.W.Frag) : Sp := fun vs H Q _ => ∃ d ps, vs = [.ref d] ∧ H d = some (.dK (ps.map kc)) ∧ Cts ps ∧ ∀ H', Ex H H' → Q (.bl true) H'
theorem kit_self {K : PySem.W.Frag} {C : Addr} : PySem.W.kitOne K (.ref C) (.ref C) = some true := by
  unfold PySem.W.kitOne
  rw [if_pos (by simp)]
theorem ev_lenD {te : TE} {σ : L2.St} {H : Hp} {d : Addr} {kvs : List (Key × V)} (h : Ev te σ H (.ref d)) (hd : H d = some (.dK kvs)) :
    Ev (tCB (fun xs H Q => ∃ a kvs, xs = [V.ref a] ∧ H a = some (.dK kvs) ∧ Q (.int kvs.length) H) (tCons te tNil)) σ H (.int (kvs.length : Int)) := fun H1 e Q q => h H1 e _ fun H2 e2 => ⟨d, kvs, rfl, e2 _ _ (e _ _ hd), q H2 e2⟩
theorem el_is {te : TE} {σ : L2.St} {H : Hp} {xs ys : List V} (h : EvL te σ H xs) (e : xs = ys) : EvL te σ H ys := e ▸ h
/-- o.f -/
theorem ev_fldL {K : PySem.W.Frag} {te : TE} {σ : L2.St} {H : Hp} {a C dx : Addr} {fs : List (Str × V)} {f : Str} {v : V} (h : Ev te σ H (.ref a)) (ha : H a = some (.ins C dx fs)) (c : Cls K C) (n : NoAttr K C f) (l : fs.lookup f = some v) :
    Ev (tFld K te f) σ H v := fun H1 e Q q => h H1 e _ fun H2 e2 => ⟨a, C, dx, fs, v, rfl, (e.trans e2) _ _ ha, c, n, l, q H2 e2⟩
/-- [e for a, b in t], t a tuple of pairs -/
theorem el_lcP {K : PySem.W.Frag} {tl te : TE} {σ : L2.St} {H : Hp} {a : Addr} {ts : List V} {ps : List (Int × Int)} {j j2 : Nat} {ws : List Nat} (f : Int × Int → V) (h : Ev tl σ H (.ref a)) (ht : SqT K H a ts) (hf : F2 (RP K H) ts ps) (hz : ps.length ≤ 40000)
    (hw : ∀ x y, wipe (((wipe σ ws).set j (some x)).set j2 (some y)) ws = wipe σ ws) (he : ∀ p ∈ ps, ∀ H1, Ex H H1 → Ev te (((wipe σ ws).set j (some (.int p.1))).set j2 (some (.int p.2))) H1 (f p)) :
    EvL (tLc (iTup K tl) (gTup K 2 (gCons (gName j) (gCons (gName j2) gNil))) tYes te ws) σ H (ps.map f) := fun H0 e0 Q q => h H0 e0 _ fun H1 e1 => ⟨a, rfl, ⟨ts, ex_t (e0.trans e1) ht⟩, fun D hD => by
  have e01 := e0.trans e1
  refine lc_it walk_tup (fun i H' => H1 D = none ∧ Ex H1 H' ∧ H' D = some (.lst ((ps.take i).map f))) ⟨hD, Ex.new hD, upd_same⟩ (fun i H' _ p => ex_t (e01.trans p.2.1) ht) ?_ ?_
  · rintro i x H' H2 hi ⟨p1, p2, p3⟩ ⟨rfl, hxi⟩
    obtain ⟨p, hp, t, rfl, hpt⟩ := hf.at hxi
    have m := List.mem_of_getElem? hp
    have st : ps.take (i + 1) = ps.take i ++ [p] := by rw [List.take_add_one, hp]; rfl
    have i12 : i < ps.length := (List.getElem?_eq_some_iff.mp hp).1
    refine ⟨t, _, rfl, ex_t (e01.trans p2) hpt, rfl, _, _, rfl, _, _, rfl, rfl, hw _ _, yes_go (iteT (he p m H2 (e01.trans p2) H2 (Ex.refl _) _ fun H5 e5 => ⟨_, e5 _ _ p3, sz_lt (by rw [List.length_map, List.length_take]; omega), p1, Ex.mut (p2.trans e5) p1, by rw [upd_same, st, List.map_append]; rfl⟩))⟩
  · rintro H' ⟨p1, p2, p3⟩
    rw [hf.len, List.take_of_length_le (Nat.le_refl _)] at p3
    exact q D H' (fresh_back e1 p1) (e1.trans p2) p3⟩
theorem siz_nat {i : Int} (h : sizB i = true) : i.natAbs < 10 ^ 200 := (siz_int h).2
theorem bt_dict : bootBuiltins "dict" = some (.type "dict") := by decide +kernel
end Ck

/-! counts in the order of their sizes; parts of __init__ -/
namespace Ck
open PySem PySem.Spec PyProof.Rows L2 StX Evl
def srt (ps : List (Int × Int)) : List (Int × Int) := ps.mergeSort fun p q => decide (p.1 ≤ q.1)
theorem srt_perm (ps : List (Int × Int)) : (srt ps).Perm ps := List.mergeSort_perm ps _
theorem srt_asc {ps : List (Int × Int)} (h : (ps.map Prod.fst).Nodup) : Asc (srt ps) := by
  have h1 : (srt ps).Pairwise fun p q => decide (p.1 ≤ q.1) = true := List.pairwise_mergeSort (fun a b c x y => by simp only [decide_eq_true_eq] at *; omega) (fun a b => by simp only [Bool.or_eq_true, decide_eq_true_eq]; omega) ps
  have h2 : ((srt ps).map Prod.fst).Nodup := (List.Perm.nodup_iff ((srt_perm ps).map Prod.fst)).mpr h
  unfold Asc
  rw [List.pairwise_map]
  have h3 : (srt ps).Pairwise fun p q => p.1 ≠ q.1 := by
    rw [List.nodup_iff_pairwise_ne, List.pairwise_map] at h2
    exact h2
  exact (h1.and h3).imp fun ⟨a, b⟩ => by simp only [decide_eq_true_eq] at a; omega
theorem asc_nodup {ps : List (Int × Int)} (h : Asc ps) : (ps.map Prod.fst).Nodup := List.Pairwise.imp (fun h => by omega) h
theorem cnt_perm {ps qs : List (Int × Int)} (h : (ps.map Prod.fst).Nodup) (p : qs.Perm ps) (s : Int) : cnt qs s = cnt ps s := by
  have h2 : (qs.map Prod.fst).Nodup := (List.Perm.nodup_iff (p.map Prod.fst)).mpr h
  cases e : cnt ps s with
  | none =>
    rw [cnt_none] at e ⊢
    exact fun m => e ((p.map Prod.fst).mem_iff.mp m)
  | some c =>
    rw [← cnt_mem h] at e
    exact (cnt_mem h2).mp (p.mem_iff.mpr e)
theorem Cts.perm {ps qs : List (Int × Int)} (h : Cts ps) (p : qs.Perm ps) : Cts qs := ⟨(List.Perm.nodup_iff (p.map Prod.fst)).mpr h.nd, by rw [p.length_eq]; exact h.ln, fun x hx => h.ok x (p.mem_iff.mp hx)⟩
theorem len_putF {f : Str} {y : V} : ∀ fs : List (Str × V), (putF f y fs).length ≤ fs.length + 1
  | [] => Nat.le_refl _
  | p :: r => by
    unfold putF
    split
    · exact Nat.le_succ _
    · exact Nat.succ_le_succ (len_putF r)
section
variable {K : PySem.W.Frag} {σ : L2.St} {H : Hp} {te : TE} {d : Addr} {ps : List (Int × Int)}
abbrev rSortD : List V → Hp → VK → Prop := fun xs H Q => ∃ (a : Addr) (kvs : List (Key × V)) (ks : List Int), xs = [.ref a] ∧ Rd H a (.dK kvs) ∧ kvs.map (·.1) = ks.map Sum.inl ∧ ks.length < 64 ∧
  ∀ (ys : List Int) (p : Addr), ys.Perm ks → ys.Pairwise (· ≤ ·) → H p = none → Q (.ref p) (upd H p (.lst (ys.map V.int)))
/-- sorted(d) -/
theorem el_sortD (h : Ev te σ H (.ref d)) (hd : Dk H d ps) (hn : (ps.map Prod.fst).Nodup) (hl : ps.length < 64) : EvL (tCB rSortD (tCons te tNil)) σ H (((srt ps).map Prod.fst).map V.int) := fun H0 e0 Q q =>
  h H0 e0 _ fun H1 e1 => ⟨d, _, ps.map Prod.fst, rfl, hd.up (e0.trans e1), by rw [List.map_map, List.map_map]; rfl, by rw [List.length_map]; exact hl, fun ys p hp hs hn2 => by
    have nd : ys.Nodup := (List.Perm.nodup_iff hp).mpr hn
    have lt : ys.Pairwise (· < ·) := (hs.and (List.nodup_iff_pairwise_ne.mp nd)).imp fun ⟨a, b⟩ => by omega
    have e : ys = (srt ps).map Prod.fst := sorted_one lt (srt_asc hn) fun k => hp.mem_iff.trans ((srt_perm ps).map Prod.fst).mem_iff.symm
    rw [e]
    exact q p _ (fresh_back e1 hn2) (e1.trans (Ex.new hn2)) upd_same⟩
theorem f2_refs {H : Hp} : ∀ {vs : List V} {qs : List (Int × Int)}, F2 (RP K H) vs qs → ∃ ts : List Addr, vs = ts.map V.ref ∧ Paired (fun t (kv : Key × V) => SqT K H t [kV kv.1, kv.2]) ts (qs.map kc)
  | _, _, .nil => ⟨[], rfl, .nil⟩
  | _, _, .cons ⟨t, e, h⟩ tl => by
    obtain ⟨ts, rfl, r⟩ := f2_refs tl
    exact ⟨t :: ts, by rw [e]; rfl, .cons h r⟩
theorem pairs_srt (hn : (ps.map Prod.fst).Nodup) : ((srt ps).map Prod.fst).map (fun n => (n, (cnt ps n).getD 0)) = srt ps := by
  rw [List.map_map]
  have key : ∀ p ∈ srt ps, ((fun n => (n, (cnt ps n).getD 0)) ∘ Prod.fst) p = p := fun p hp => by
    have m := (srt_perm ps).mem_iff.mp hp
    have e := (cnt_mem hn).mp (show (p.1, p.2) ∈ ps from m)
    show (p.1, (cnt ps p.1).getD 0) = p
    rw [e]
    rfl
  rw [List.map_congr_left key, List.map_id']
end
end Ck
namespace Ck
open PySem PySem.Spec PyProof.Rows L2 StX Evl
section
variable {K : PySem.W.Frag} {σ : L2.St} {H : Hp} {D : Ends} {z : TS} {v : V} {ps : List (Int × Int)}
/-- told = {} if counts is None else counts -/
theorem asg_told (h1 : σ[1]? = some (some v)) (hv : (v = .non ∧ ps = []) ∨ ∃ d, v = .ref d ∧ H d = some (.dK (ps.map kc))) (k : ∀ d H1, Ex H H1 → H1 d = some (.dK (ps.map kc)) → z D (σ.set 2 (some (.ref d))) H1) :
    tSeq (tAsg (tIf (tTest (tOp (fun x y H Q => y = .non ∧ Q (.bl (decide (x = .non))) H) (tVar 1) (tC .non))) tDNewK (tVar 1)) (gName 2)) z D σ H := by
  refine ⟨v, h1, rfl, _, rfl, ?_⟩
  rcases hv with ⟨rfl, rfl⟩ | ⟨d, rfl, hd⟩
  · exact iteT fun p hp => k p _ (Ex.new hp) upd_same
  · exact iteF ⟨_, h1, k d H (Ex.refl H) hd⟩
/-- o.f = e -/
theorem sq_fld {ta tv : TE} {f : Str} (h : tv σ H fun y H1 => ta σ H1 fun x H2 => ∃ a C dx fs, x = .ref a ∧ H2 a = some (.ins C dx fs) ∧ Cls K C ∧ NoAttr K C f ∧ fs.length < 1000 ∧ z D σ (upd H2 a (.ins C dx (putF f y fs)))) : tSeq (sFld K ta tv f) z D σ H := h
theorem one_fld {ta tv : TE} {f : Str} (h : tv σ H fun y H1 => ta σ H1 fun x H2 => ∃ a C dx fs, x = .ref a ∧ H2 a = some (.ins C dx fs) ∧ Cls K C ∧ NoAttr K C f ∧ fs.length < 1000 ∧ D.nx σ (upd H2 a (.ins C dx (putF f y fs)))) : sFld K ta tv f D σ H := h
theorem arec_v {d : Addr} (hd : H d = some (.dK (ps.map kc))) (hc : Cts ps) : SpV (spAreC K) [.ref d] H (.bl true) := fun H1 e Q q E => ⟨d, ps, rfl, e _ _ hd, hc, q⟩
end
theorem up_x {H : Hp} {x b : Addr} {o u : HO} (h : H b = some o) (n : b ≠ x) : upd H x u b = some o := by rw [upd_ne n]; exact h
theorem sqT_x {K : PySem.W.Frag} {H : Hp} {x t C dx : Addr} {fs : List (Str × V)} {u : HO} {xs : List V} (h : SqT K H t xs) (hx : H x = some (.ins C dx fs)) : SqT K (upd H x u) t xs := by
  rcases h with (h | ⟨o, h⟩) | h
  · exact .inl (.inl (up_x h fun e => by rw [e, hx] at h; cases h))
  · exact .inl (.inr ⟨o, up_x h fun e => by rw [e, hx] at h; cases h⟩)
  · exact .inr h
end Ck
namespace Ck
open PySem PySem.Spec PyProof.Rows L2 StX Evl
section
variable {K : PySem.W.Frag} {σ : L2.St} {H : Hp} {tl te : TE} {α : Type} {R : Hp → V → α → Prop} {bs : List α} {a : Addr} {qs : List (Int × Int)}
/-- a new tuple of what a list holds, its object known -/
theorem tz_of (L : ∀ H H' x b, Ex H H' → R H x b → R H' x b) (h : ∀ H1, Ex H H1 → ∀ Q : VK, (∀ D vs H2, H1 D = none → Ex H1 H2 → H2 D = some (.lst vs) → F2 (R H2) vs bs → Q (.ref D) H2) → tl σ H1 Q) :
    ∀ H1, Ex H H1 → ∀ Q : VK, (∀ l vs H2, H1 l = none → Ex H1 H2 → TupZ H2 l vs → F2 (R H2) vs bs → Q (.ref l) H2) → tCB (rTupZ K) (tCons tl tNil) σ H1 Q := fun H1 e1 Q q =>
  h H1 e1 _ fun D vs H2 nD e2 hD hf => ⟨D, vs, rfl, SqL.of hD, fun l o hl oc od => q l vs _ (fresh_back e2 hl) (e2.trans (Ex.new hl)) ⟨o, upd_same, oc, od⟩ (hf.imp fun x b r => L _ _ _ _ (Ex.new hl) r)⟩
/-- dict(t) of such a tuple of pairs -/
theorem dz_of {vs : List V} (h : Ev te σ H (.ref a)) (hz : TupZ H a vs) (hf : F2 (RP K H) vs qs) (hn : (qs.map Prod.fst).Nodup) :
    ∀ H1, Ex H H1 → ∀ Q : VK, (∀ p H2, H1 p = none → Ex H1 H2 → H2 p = some (.dK (qs.map kc)) → Q (.ref p) H2) → tCB (rDictZ K) (tCons te tNil) σ H1 Q := fun H1 e1 Q q =>
  h H1 e1 _ fun H2 e2 => by
    obtain ⟨ts, rfl, hp⟩ := f2_refs (K := K) (hf.imp fun x b r => r.ex (e1.trans e2))
    exact ⟨a, ts, qs.map kc, rfl, hz.ex (e1.trans e2), hp, fun p hp2 => by
      rw [merge_kc hn]
      exact q p _ (fresh_back e2 hp2) (e2.trans (Ex.new hp2)) upd_same⟩
theorem TupZ.x {H : Hp} {x t C dx : Addr} {fs : List (Str × V)} {u : HO} {xs : List V} (h : TupZ H t xs) (hx : H x = some (.ins C dx fs)) : TupZ (L2.upd H x u) t xs := h.imp fun o h => ⟨up_x h.1 (fun e => by rw [e, hx] at h; exact (nomatch h.1)), h.2⟩
theorem RP.x {H : Hp} {x C dx : Addr} {fs : List (Str × V)} {u : HO} {v : V} {p : Int × Int} (hx : H x = some (.ins C dx fs)) (h : RP K H v p) : RP K (L2.upd H x u) v p := h.imp fun t h => ⟨h.1, sqT_x h.2 hx⟩
end
end Ck

/-! gaps of lists; sets of tuples, sorted; promises of a purse's defs -/
namespace Ck
open PySem PySem.Spec PyProof.Rows L2 StX Evl RZ
/-- the gap of a list of sizes -/
def spGapLs (K : PySem.W.Frag) : Sp := fun vs H Q _ => ∃ (p : Addr) (ns : List Int), vs = [.ref p] ∧ SqL K H p (ns.map V.int) ∧ (∀ n ∈ ns, 0 < n) ∧ ∀ v H', Ex H H' → Dp K H' v (gapD (gap ns)) → Q v H'
section
variable {K : PySem.W.Frag} {w : World} {σ : L2.St} {H : Hp} {p : Addr} {te : TE} {ns us : List Int}
/-- zip(l, l[1:]), l a list of ints in slot 0 -/
def tZipL (K : PySem.W.Frag) : TI := iZipA K (tCons (tVar 0) (tCons (tSl (rSlL K) (tVar 0) (tPart (tC (.int 1))) tNoPart) tNil))
theorem zip_goL (hv : σ[0]? = some (some (.ref p))) (hp : SqL K H p (ns.map V.int)) {R : It → Hp → Prop} (k : ∀ c, H c = none → R (Itz K p c) (upd H c (.lst ((ns.drop 1).map V.int)))) :
    tZipL K σ H R := by
  refine ⟨.ref p, hv, .ref p, hv, 1, rfl, p, _, rfl, hp, fun c hc => ⟨p, c, ns.map V.int, (ns.drop 1).map V.int, rfl, .inl ⟨ex_l (Ex.new hc) hp, ?_, ?_⟩⟩⟩
  · rw [cutT1, ← List.map_drop]
    exact SqL.of upd_same
  · rw [cutT1, ← List.map_drop]
    exact k c hc
/-- sorted(set(t)), t a tuple of ints -/
theorem el_tss (h : Etu K te σ H (ns.map V.int)) (hl : ns.length < 60) (h1 : us.Pairwise (· < ·)) (h2 : ∀ k, k ∈ us ↔ k ∈ ns) :
    EvL (tCB (rSortedSet w) (tCons (tCB (rSetT K w) (tCons te tNil)) tNil)) σ H (us.map V.int) := fun H0 e0 Q q => h H0 e0 _ fun p H1 e1 hp => ⟨p, ns, rfl, hp, hl, fun b c hb hc =>
  ⟨b, _, c, rfl, upd_same, Nat.lt_of_le_of_lt hc (Nat.lt_trans hl (by decide)), fun vs p2 hpw hmem hlen hp2 => by
    have e : vs = us := sorted_one hpw h1 fun k => ⟨fun hk => (h2 k).mpr (of_decide_eq_true ((hmem k).mp hk)), fun hk => (hmem k).mpr (decide_eq_true ((h2 k).mp hk))⟩
    subst e
    have e2 := (Ex.new (o := SetO w b (fun j => decide (j ∈ ns)) c) hb).trans (Ex.new (o := .lst (vs.map V.int)) hp2)
    exact q p2 _ (fresh_back e1 (fresh_back (Ex.new (o := SetO w b (fun j => decide (j ∈ ns)) c) hb) hp2)) (e1.trans e2) upd_same⟩⟩
end
/-- a lot that is chained -/
def Chn (ps : List (Int × Int)) : Prop := gap (ps.map Prod.fst) = none
/-- sizes in a row that are a chain -/
def spTog (K : PySem.W.Frag) : Sp := fun vs H Q _ => ∃ (p : Addr) (ns : List Int), vs = [.ref p] ∧ SqT K H p (ns.map V.int) ∧ ns.length < 60 ∧ (∀ n ∈ ns, 0 < n) ∧ ns.Pairwise (· < ·) ∧ gap ns = none ∧ ∀ H', Ex H H' → Q .non H'
/-- what a def of a purse and an amount asks -/
structure Pur (K : PySem.W.Frag) (C : Addr) (H : Hp) (a : Addr) (ps : List (Int × Int)) : Prop where
  at_ : LotAt K C H a ps
  ct : Cts ps
  asc : Asc ps
  ch : Chn ps
theorem Pur.up {K : PySem.W.Frag} {C a : Addr} {H H' : Hp} {ps : List (Int × Int)} (h : Pur K C H a ps) (e : Ex H H') : Pur K C H' a ps := ⟨h.at_.up e, h.ct, h.asc, h.ch⟩
def spChkP (K : PySem.W.Frag) (C : Addr) : Sp := fun vs H Q _ => ∃ a n ps, vs = [.ref a, .int n] ∧ Pur K C H a ps ∧ cntB n = true ∧ ∀ H', Ex H H' → Q .non H'
/-- the total of the coins that are smaller -/
def sml (ps : List (Int × Int)) (s : Int) : Int := tot (ps.filter fun p => decide (p.1 < s))
def spSml (K : PySem.W.Frag) (C : Addr) : Sp := fun vs H Q _ => ∃ a s ps, vs = [.ref a, .int s] ∧ Pur K C H a ps ∧ ∀ H', Ex H H' → Q (.int (sml ps s)) H'
/-- the sizes that lack -/
def lck (ps : List (Int × Int)) (n : Int) : List Int := (ps.map Prod.fst).filter fun s => decide (sml ps s < n % s)
def spLck (K : PySem.W.Frag) (C : Addr) : Sp := fun vs H Q _ => ∃ a n ps, vs = [.ref a, .int n] ∧ Pur K C H a ps ∧ cntB n = true ∧ ∀ t H', Ex H H' → SqT K H' t ((lck ps n).map V.int) → Q (.ref t) H'
def spCan (K : PySem.W.Frag) (C : Addr) : Sp := fun vs H Q _ => ∃ a n ps, vs = [.ref a, .int n] ∧ Pur K C H a ps ∧ cntB n = true ∧ ∀ H', Ex H H' → Q (.bl (decide (lck ps n = []) && decide (n ≤ tot ps))) H'
end Ck
namespace Ck
open PySem PySem.Spec PyProof.Rows L2 StX Evl RZ
section
variable {K : PySem.W.Frag} {σ : L2.St} {H : Hp} {C a : Addr} {te ti tl ta tb : TE} {tt : TT} {ps : List (Int × Int)} {ns : List Int} {s n : Int} {j : Nat} {ws : List Nat}
theorem etu_sizes (h : Ev te σ H (.ref a)) (hl : LotAt K C H a ps) : Etu K (tProp C (spSizes K C) [] E0 te) σ H ((ps.map Prod.fst).map V.int) := fun H1 e Q q => h H1 e _ fun H2 e2 => by
  obtain ⟨dx, t1, t2, d, ts, h1, _⟩ := (hl.up (e.trans e2)).ex
  exact ⟨a, dx, _, rfl, h1, a, ps, rfl, hl.up (e.trans e2), fun t H' e3 ht => q t H' (e2.trans e3) ht⟩
theorem ev_total (h : Ev te σ H (.ref a)) (hl : LotAt K C H a ps) (hc : Cts ps) : Ev (tProp C (spTotal K C) [] E0 te) σ H (.int (tot ps)) := fun H1 e Q q => h H1 e _ fun H2 e2 => by
  obtain ⟨dx, t1, t2, d, ts, h1, _⟩ := (hl.up (e.trans e2)).ex
  exact ⟨a, dx, _, rfl, h1, a, ps, rfl, hl.up (e.trans e2), hc, fun H' e3 => q H' (e2.trans e3)⟩
theorem ev_item (h : Ev te σ H (.ref a)) (hi : Ev ti σ H (.int s)) (hl : LotAt K C H a ps) (hs : sizB s = true) : Ev (tGetO C (spItem K C) te ti) σ H (.int ((cnt ps s).getD 0)) := fun H1 e Q q => h H1 e _ fun H2 e2 => hi H2 (e.trans e2) _ fun H3 e3 => by
  obtain ⟨dx, t1, t2, d, ts, h1, _⟩ := (hl.up ((e.trans e2).trans e3)).ex
  exact ⟨a, dx, _, rfl, h1, a, s, ps, rfl, hl.up ((e.trans e2).trans e3), hs, fun H' e4 => q H' ((e2.trans e3).trans e4)⟩
/-- [e for n in t if c], t a tuple of ints -/
theorem el_lcN (c : Int → Bool) (f : Int → V) (h : Etu K tl σ H (ns.map V.int)) (hz : ns.length ≤ 40000) (hw : ∀ x, wipe ((wipe σ ws).set j (some x)) ws = wipe σ ws)
    (ht : ∀ n ∈ ns, ∀ H1, Ex H H1 → EvT tt ((wipe σ ws).set j (some (.int n))) H1 (c n)) (he : ∀ n ∈ ns, c n = true → ∀ H1, Ex H H1 → Ev te ((wipe σ ws).set j (some (.int n))) H1 (f n)) :
    EvL (tLc (iTup K tl) (gName j) tt te ws) σ H ((ns.filter c).map f) := fun H0 e0 Q q => h H0 e0 _ fun a H1 e1 hx => ⟨a, rfl, ⟨_, hx⟩, fun D hD => by
  refine lc_it walk_tup (fun i H' => H1 D = none ∧ Ex H1 H' ∧ ∃ vs, H' D = some (.lst vs) ∧ vs.length ≤ i ∧ vs = ((ns.take i).filter c).map f) ⟨hD, Ex.new hD, [], upd_same, Nat.le_refl _, rfl⟩ (fun i H' _ p => ex_t p.2.1 hx) ?_ ?_
  · rintro i x H2 H3 hi ⟨p1, p2, vs, p3, p4, p5⟩ ⟨e3, hxi⟩
    rw [e3]
    rw [List.length_map] at hi
    rw [List.getElem?_map, List.getElem?_eq_getElem hi] at hxi
    obtain rfl := Option.some.inj hxi
    have m := List.getElem_mem hi
    have e02 := (e0.trans e1).trans p2
    refine ⟨hw _, ht _ m H2 e02 H2 (Ex.refl H2) _ fun H4 e4 => ?_⟩
    have st : ns.take (i + 1) = ns.take i ++ [ns[i]] := by rw [List.take_add_one, List.getElem?_eq_getElem hi]; rfl
    cases hc : c ns[i] with
    | true =>
      refine iteT (he _ m hc H4 (e02.trans e4) H4 (Ex.refl H4) _ fun H5 e5 => ⟨vs, (e4.trans e5) _ _ p3, sz_lt (by omega), p1, Ex.mut (p2.trans (e4.trans e5)) p1, vs ++ [f ns[i]], upd_same, by rw [List.length_append]; exact Nat.succ_le_succ p4, ?_⟩)
      rw [st, List.filter_append, List.map_append, show [ns[i]].filter c = [ns[i]] by rw [List.filter_cons, hc]; rfl, p5]
      rfl
    | false =>
      refine iteF ⟨p1, p2.trans e4, vs, e4 _ _ p3, Nat.le_succ_of_le p4, ?_⟩
      rw [st, List.filter_append, show [ns[i]].filter c = [] by rw [List.filter_cons, hc]; rfl, List.append_nil]
      exact p5
  · rintro H2 ⟨p1, p2, vs, p3, _, p5⟩
    rw [List.length_map, List.take_of_length_le (Nat.le_refl _)] at p5
    rw [p5] at p3
    exact q D H2 (fresh_back e1 p1) (e1.trans p2) p3⟩
theorem chklot_v (hl : LotAt K C H a ps) : SpV (spIsLot K C) [.ref a] H .non := fun H1 e Q q E => ⟨a, ps, rfl, hl.up e, q⟩
theorem chkp_v (hp : Pur K C H a ps) (hn : cntB n = true) : SpV (spChkP K C) [.ref a, .int n] H .non := fun H1 e Q q E => ⟨a, n, ps, rfl, hp.up e, hn, q⟩
theorem sml_v (hp : Pur K C H a ps) : SpV (spSml K C) [.ref a, .int s] H (.int (sml ps s)) := fun H1 e Q q E => ⟨a, s, ps, rfl, hp.up e, q⟩
theorem can_v (hp : Pur K C H a ps) (hn : cntB n = true) : SpV (spCan K C) [.ref a, .int n] H (.bl (decide (lck ps n = []) && decide (n ≤ tot ps))) := fun H1 e Q q E => ⟨a, n, ps, rfl, hp.up e, hn, q⟩
theorem lck_d (hp : Pur K C H a ps) (hn : cntB n = true) : SpD K (spLck K C) [.ref a, .int n] H (.tuple ((lck ps n).map PyData.int)) := fun H1 e Q q E => ⟨a, n, ps, rfl, hp.up e, hn, fun t H' e2 ht => q (.ref t) H' e2 (.tup ht (dpa_ints _))⟩
end
theorem sml_eq {ps : List (Int × Int)} (h : (ps.map Prod.fst).Nodup) (s : Int) : ((((ps.map Prod.fst).filter fun n => decide (n < s))).map fun n => n * (cnt ps n).getD 0).sum = sml ps s := by
  unfold sml tot
  rw [List.filter_map, List.map_map]
  refine congrArg List.sum (List.map_congr_left fun p hp => ?_)
  have m := (cnt_mem h).mp (show (p.1, p.2) ∈ ps from (List.mem_filter.mp hp).1)
  show p.1 * (cnt ps p.1).getD 0 = p.1 * p.2
  rw [m]
  rfl
theorem cts_pos {ps : List (Int × Int)} (h : Cts ps) : ∀ n ∈ ps.map Prod.fst, 0 < n ∧ n.natAbs < 10 ^ 200 ∧ sizB n = true := fun n hn => by
  obtain ⟨p, hp, rfl⟩ := List.mem_map.mp hn
  obtain ⟨s1, _⟩ := h.ok p hp
  exact ⟨(siz_int s1).1, (siz_int s1).2, s1⟩
theorem cts_cnt {ps : List (Int × Int)} (h : Cts ps) {n : Int} (hn : n ∈ ps.map Prod.fst) : ((cnt ps n).getD 0).natAbs < 10 ^ 200 := by
  obtain ⟨p, hp, rfl⟩ := List.mem_map.mp hn
  rw [(cnt_mem h.nd).mp (show (p.1, p.2) ∈ ps from hp)]
  exact siz_nat (h.ok p hp).2
end Ck
namespace Ck
open PySem PySem.Spec PyProof.Rows L2 Evl
theorem lay_ints : ∀ ns : List Int, PyData.canLayAll0 (ns.map PyData.int) = true ∧ PyData.depthAll (ns.map PyData.int) = 0
  | [] => ⟨rfl, rfl⟩
  | x :: r => by
    obtain ⟨a, b⟩ := lay_ints r
    exact ⟨by rw [List.map_cons]; simp only [PyData.canLayAll0, a]; rfl, by rw [List.map_cons]; simp only [PyData.depthAll, b]; rfl⟩
theorem shaped_tints (ns : List Int) : SeqAt.shaped (.tuple (ns.map PyData.int)) = true := by
  obtain ⟨a, b⟩ := lay_ints ns
  unfold SeqAt.shaped
  simp only [PyData.canLay0, PyData.depth, a, b]
  rfl
theorem eqv_tnil (ns : List Int) : PyData.eqv (.tuple (ns.map PyData.int)) (.tuple []) = decide (ns = []) := by
  cases ns with
  | nil => rfl
  | cons a r => rfl
end Ck

/-! all parts of a purse, and which amounts they come to -/
namespace Ck
open PySem PySem.Spec PyProof.Rows L2 Evl
/-- a part, and with it those that have some things of one more size -/
def ext1 (p : Int × Int) (q : List (Int × Int)) : List (List (Int × Int)) := q :: ((List.range p.2.toNat).map fun k => q ++ [(p.1, ((k + 1 : Nat) : Int))])
def partsOf (qs : List (Int × Int)) : List (List (Int × Int)) := qs.foldl (fun acc p => acc.flatMap (ext1 p)) [[]]
theorem parts_snoc (qs : List (Int × Int)) (p : Int × Int) : partsOf (qs ++ [p]) = (partsOf qs).flatMap (ext1 p) := by
  unfold partsOf
  rw [List.foldl_append]
  rfl
theorem tot_app (a b : List (Int × Int)) : tot (a ++ b) = tot a + tot b := by
  unfold tot
  rw [List.map_append, List.sum_append]
theorem tot_one (p : Int × Int) : tot [p] = p.1 * p.2 := by
  unfold tot
  simp
/-- an amount is the total of a part -/
def Is (qs : List (Int × Int)) (n : Int) : Prop := ∃ q ∈ partsOf qs, tot q = n
theorem is_nil (n : Int) : Is [] n ↔ n = 0 := by
  constructor
  · rintro ⟨q, hq, rfl⟩
    cases List.mem_singleton.mp hq
    rfl
  · rintro rfl
    exact ⟨[], List.mem_singleton.mpr rfl, rfl⟩
theorem is_snoc (qs : List (Int × Int)) (p : Int × Int) (hp : 0 ≤ p.2) (n : Int) : Is (qs ++ [p]) n ↔ ∃ k : Int, 0 ≤ k ∧ k ≤ p.2 ∧ Is qs (n - p.1 * k) := by
  unfold Is
  rw [parts_snoc]
  constructor
  · rintro ⟨q, hq, rfl⟩
    obtain ⟨r, hr, hm⟩ := List.mem_flatMap.mp hq
    rcases List.mem_cons.mp hm with rfl | hm
    · exact ⟨0, Int.le_refl 0, hp, q, hr, by rw [Int.mul_zero, Int.sub_zero]⟩
    · obtain ⟨k, hk, rfl⟩ := List.mem_map.mp hm
      have := List.mem_range.mp hk
      refine ⟨((k + 1 : Nat) : Int), by omega, by omega, r, hr, ?_⟩
      rw [tot_app, tot_one]
      show tot r = tot r + p.1 * ((k + 1 : Nat) : Int) - p.1 * ((k + 1 : Nat) : Int)
      omega
  · rintro ⟨k, k0, k1, r, hr, e⟩
    by_cases z : k = 0
    · subst z
      exact ⟨r, List.mem_flatMap.mpr ⟨r, hr, List.mem_cons_self⟩, by rw [e, Int.mul_zero, Int.sub_zero]⟩
    · refine ⟨r ++ [(p.1, k)], List.mem_flatMap.mpr ⟨r, hr, List.mem_cons_of_mem _ (List.mem_map.mpr ⟨k.toNat - 1, List.mem_range.mpr (by omega), ?_⟩)⟩, ?_⟩
      · rw [show ((k.toNat - 1 + 1 : Nat) : Int) = k by omega]
      · rw [tot_app, tot_one, e]
        show n - p.1 * k + p.1 * k = n
        omega
theorem sml_app (a b : List (Int × Int)) (s : Int) : sml (a ++ b) s = sml a s + sml b s := by
  unfold sml
  rw [List.filter_append, tot_app]
theorem sml_none {qs : List (Int × Int)} {s : Int} (h : ∀ p ∈ qs, s ≤ p.1) : sml qs s = 0 := by
  unfold sml
  rw [List.filter_eq_nil_iff.mpr fun p hp z => absurd (of_decide_eq_true z) (by have := h p hp; omega)]
  rfl
theorem sml_all {qs : List (Int × Int)} {s : Int} (h : ∀ p ∈ qs, p.1 < s) : sml qs s = tot qs := by
  unfold sml
  rw [List.filter_eq_self.mpr fun p hp => decide_eq_true (h p hp)]
/-- no size lacks, and it is not over -/
def Pay (qs : List (Int × Int)) (n : Int) : Prop := 0 ≤ n ∧ n ≤ tot qs ∧ ∀ p ∈ qs, n % p.1 ≤ sml qs p.1
/-- a purse from the least size on -/
inductive Prs2 : List (Int × Int) → Prop
  | nil : Prs2 []
  | snoc {qs : List (Int × Int)} {p : Int × Int} (h : Prs2 qs) (d : 0 < p.1) (c : 0 < p.2) (lt : ∀ q ∈ qs, q.1 < p.1) (dv : ∀ q ∈ qs, q.1 ∣ p.1) : Prs2 (qs ++ [p])
theorem Prs2.pos {qs : List (Int × Int)} (h : Prs2 qs) : ∀ q ∈ qs, 0 < q.1 := by
  induction h with
  | nil => exact fun q hq => nomatch hq
  | snoc h d c lt dv ih =>
    intro q hq
    rcases List.mem_append.mp hq with m | m
    · exact ih q m
    · rw [List.mem_singleton.mp m]
      exact d
theorem mod_sub {n s d k : Int} (h : s ∣ d) : (n - d * k) % s = n % s := by
  obtain ⟨t, rfl⟩ := h
  rw [Int.mul_assoc, Int.sub_mul_emod_self_left]
theorem is_pay {qs : List (Int × Int)} (h : Prs2 qs) : ∀ n : Int, Is qs n ↔ Pay qs n := by
  induction h with
  | nil =>
    intro n
    rw [is_nil]
    exact ⟨fun e => ⟨by omega, by rw [e]; exact Int.le_refl _, fun p hp => nomatch hp⟩, fun ⟨a, b, _⟩ => by
      have : n ≤ 0 := b
      omega⟩
  | @snoc qs p h d c lt dv ih =>
    intro n
    have tq : tot (qs ++ [p]) = tot qs + p.1 * p.2 := by rw [tot_app, tot_one]
    have s1 : ∀ q ∈ qs, sml (qs ++ [p]) q.1 = sml qs q.1 := fun q hq => by
      rw [sml_app, sml_none (qs := [p]) (fun r hr => by rw [List.mem_singleton.mp hr]; exact Int.le_of_lt (lt q hq)), Int.add_zero]
    have s2 : sml (qs ++ [p]) p.1 = tot qs := by
      rw [sml_app, sml_all lt, sml_none (qs := [p]) (fun r hr => by rw [List.mem_singleton.mp hr]; exact Int.le_refl _), Int.add_zero]
    rw [is_snoc _ _ (Int.le_of_lt c)]
    constructor
    · rintro ⟨k, k0, k1, hk⟩
      obtain ⟨m0, m1, m2⟩ := (ih _).mp hk
      have pk : 0 ≤ p.1 * k := Int.mul_nonneg (Int.le_of_lt d) k0
      have pk2 : p.1 * k ≤ p.1 * p.2 := Int.mul_le_mul_of_nonneg_left k1 (Int.le_of_lt d)
      refine ⟨by omega, by rw [tq]; omega, fun q hq => ?_⟩
      rcases List.mem_append.mp hq with m | m
      · rw [s1 q m, ← mod_sub (k := k) (dv q m)]
        exact m2 q m
      · rw [List.mem_singleton.mp m, s2, ← mod_sub (k := k) (Int.dvd_refl p.1)]
        have z1 := Int.mul_ediv_add_emod (n - p.1 * k) p.1
        have z2 := Int.mul_nonneg (Int.le_of_lt d) (Int.ediv_nonneg m0 (Int.le_of_lt d))
        omega
    · rintro ⟨n0, n1, n2⟩
      rw [tq] at n1
      have np := n2 p (List.mem_append_right _ (List.mem_singleton.mpr rfl))
      rw [s2] at np
      have nd : p.1 * (n / p.1) + n % p.1 = n := Int.mul_ediv_add_emod n p.1
      have nm := Int.emod_nonneg n (by omega : p.1 ≠ 0)
      by_cases z : n / p.1 ≤ p.2
      · refine ⟨n / p.1, Int.ediv_nonneg n0 (Int.le_of_lt d), z, (ih _).mpr ⟨by omega, by omega, fun q hq => ?_⟩⟩
        rw [mod_sub (dv q hq), ← s1 q hq]
        exact n2 q (List.mem_append_left _ hq)
      · have z2 : p.1 * p.2 ≤ p.1 * (n / p.1) := Int.mul_le_mul_of_nonneg_left (by omega) (Int.le_of_lt d)
        refine ⟨p.2, Int.le_of_lt c, Int.le_refl _, (ih _).mpr ⟨by omega, by omega, fun q hq => ?_⟩⟩
        rw [mod_sub (dv q hq), ← s1 q hq]
        exact n2 q (List.mem_append_left _ hq)
end Ck

/-! what the law draws: chains, mixed rows, small lots -/
namespace Ck
open PySem PySem.Spec PyProof.Rows L2 Evl
/-- sizes of which each divides all later ones -/
structure Chd (ns : List Int) (L : Int) : Prop where
  last : ∃ r, ns = r ++ [L]
  pw : ns.Pairwise fun a b => a < b ∧ a ∣ b
  pos : ∀ n ∈ ns, 0 < n ∧ n ≤ L ∧ n ∣ L
theorem Chd.one {L : Int} (h : 0 < L) : Chd [L] L := ⟨⟨[], rfl⟩, List.pairwise_singleton _ _, fun n hn => by cases List.mem_singleton.mp hn; exact ⟨h, Int.le_refl _, Int.dvd_refl _⟩⟩
theorem Chd.posL {ns : List Int} {L : Int} (h : Chd ns L) : 0 < L := by
  obtain ⟨r, e⟩ := h.last
  exact (h.pos L (by rw [e]; exact List.mem_append_right _ (List.mem_singleton.mpr rfl))).1
theorem Chd.at {ns : List Int} {L : Int} (h : Chd ns L) : atI (ns.map V.int) (-1) = some (.int L) := by
  obtain ⟨r, rfl⟩ := h.last
  rw [List.map_append]
  exact atI_last _ _
theorem Chd.snoc {ns : List Int} {L s : Int} (h : Chd ns L) (hs : 2 ≤ s) : Chd (ns ++ [L * s]) (L * s) := by
  have l0 := h.posL
  have lt : L < L * s := by
    have : L * 2 ≤ L * s := Int.mul_le_mul_of_nonneg_left hs (by omega)
    omega
  have dv : L ∣ L * s := Int.dvd_mul_right L s
  refine ⟨⟨ns, rfl⟩, List.pairwise_append.mpr ⟨h.pw, List.pairwise_singleton _ _, fun a ha b hb => ?_⟩, fun n hn => ?_⟩
  · cases List.mem_singleton.mp hb
    obtain ⟨_, h2, h3⟩ := h.pos a ha
    exact ⟨by omega, Int.dvd_trans h3 dv⟩
  · rcases List.mem_append.mp hn with m | m
    · obtain ⟨h1, h2, h3⟩ := h.pos n m
      exact ⟨h1, by omega, Int.dvd_trans h3 dv⟩
    · cases List.mem_singleton.mp m
      exact ⟨by omega, Int.le_refl _, Int.dvd_refl _⟩
theorem map_eraseIdx {α β : Type} (f : α → β) : ∀ (xs : List α) (k : Nat), (xs.map f).eraseIdx k = (xs.eraseIdx k).map f
  | [], _ => rfl
  | _ :: _, 0 => rfl
  | x :: r, k + 1 => by
    show f x :: (r.map f).eraseIdx k = f x :: (r.eraseIdx k).map f
    rw [map_eraseIdx f r k]
theorem cons_eraseIdx {α : Type} : ∀ (xs : List α) (k : Nat) (h : k < xs.length), (xs[k] :: xs.eraseIdx k).Perm xs
  | x :: r, 0, _ => List.Perm.refl _
  | x :: r, k + 1, h => (List.Perm.swap x _ _).trans (List.Perm.cons x (cons_eraseIdx r k (Nat.lt_of_succ_lt_succ h)))
/-- a drawn chain of at most three small sizes -/
def spChs (K : PySem.W.Frag) : Sp := fun vs H Q _ => ∃ d, vs = [.ref d, .int 3, .int 4] ∧ Dice H d ∧ ∀ (p : Addr) (ns : List Int) (L : Int) (H' : Hp), Kd d H H' → p ≠ d → SqT K H' p (ns.map V.int) → ns.length ≤ 3 → Chd ns L → L ≤ 64 → Q (.ref p) H'
/-- a row of ints in a drawn order -/
def spMix (K : PySem.W.Frag) : Sp := fun vs H Q _ => ∃ (d p : Addr) (ns : List Int), vs = [.ref d, .ref p] ∧ p ≠ d ∧ Dice H d ∧ SqT K H p (ns.map V.int) ∧ ns.length ≤ 100 ∧ ∀ (l : Addr) (ms : List Int) (H' : Hp), Kd d H H' → l ≠ d → H l = none → H' l = some (.lst (ms.map V.int)) → ms.Perm ns → Q (.ref l) H'
/-- a drawn lot of few things -/
structure Few (ns : List Int) (ps : List (Int × Int)) : Prop where
  nd : (ps.map Prod.fst).Nodup
  sub : ∀ p ∈ ps, p.1 ∈ ns ∧ 0 < p.2
  sum : (ps.map Prod.snd).sum ≤ 9
def spFew (K : PySem.W.Frag) : Sp := fun vs H Q _ => ∃ (d p : Addr) (ns : List Int), vs = [.ref d, .ref p, .int 9] ∧ p ≠ d ∧ Dice H d ∧ SqT K H p (ns.map V.int) ∧ ns.length ≤ 100 ∧ ns.Nodup ∧ ∀ (q : Addr) (ps : List (Int × Int)) (H' : Hp), Kd d H H' → q ≠ d → H' q = some (.dK (ps.map kc)) → Few ns ps → ps.length ≤ ns.length → Q (.ref q) H'
/-- Lot(..) of a plain lot -/
def spMade (K : PySem.W.Frag) (C : Addr) : Sp := fun vs H Q _ => ∃ d ps, vs = [.ref d] ∧ H d = some (.dK (ps.map kc)) ∧ Cts ps ∧ ∀ a qs H', Ex H H' → qs.Perm ps → Asc qs → LotAt K C H' a qs → Q (.ref a) H'
/-- the total of a plain lot; of its smaller things -/
def spTot : Sp := fun vs H Q _ => ∃ d ps, vs = [.ref d] ∧ H d = some (.dK (ps.map kc)) ∧ Cts ps ∧ ∀ H', Ex H H' → Q (.int (tot ps)) H'
def spSmt : Sp := fun vs H Q _ => ∃ d s ps, vs = [.ref d, .int s] ∧ H d = some (.dK (ps.map kc)) ∧ Cts ps ∧ ∀ H', Ex H H' → Q (.int (sml ps s)) H'
/-- a dict of counts, as an item of a list -/
def RD (H : Hp) (x : V) (ps : List (Int × Int)) : Prop := ∃ d, x = .ref d ∧ H d = some (.dK (ps.map kc))
theorem RD.ex {H H' : Hp} {x : V} {ps : List (Int × Int)} (h : RD H x ps) (e : Ex H H') : RD H' x ps := h.imp fun d h => ⟨h.1, e _ _ h.2⟩
theorem RD.upd {H : Hp} {l : Addr} {xs ys : List V} {x : V} {ps : List (Int × Int)} (hl : H l = some (.lst xs)) (h : RD H x ps) : RD (L2.upd H l (.lst ys)) x ps := h.imp fun d h => ⟨h.1, by rw [upd_ne (fun z => by rw [z, hl] at h; exact (nomatch h.2))]; exact h.2⟩
/-- all parts -/
def spParts (K : PySem.W.Frag) : Sp := fun vs H Q _ => ∃ d ps, vs = [.ref d] ∧ H d = some (.dK (ps.map kc)) ∧ Cts ps ∧ (ps.map Prod.snd).sum ≤ 9 ∧ ∀ l xs H', Ex H H' → H' l = some (.lst xs) → F2 (RD H') xs (partsOf (srt ps)) → Q (.ref l) H'
end Ck
namespace Ck
open PySem PySem.Spec PyProof.Rows L2 Evl
theorem putK_new {ps : List (Int × Int)} {s c : Int} (h : s ∉ ps.map Prod.fst) : putK (ps.map kc) (Sum.inl s : Key) (.int c) = (ps ++ [(s, c)]).map kc := by
  unfold putK
  rw [valV_any, valV_kc, cnt_none.mpr h]
  show (if false = true then _ else _) = _
  rw [if_neg Bool.false_ne_true, List.map_append]
  rfl
theorem sum_snoc (ps : List (Int × Int)) (s c : Int) : ((ps ++ [(s, c)]).map Prod.snd).sum = (ps.map Prod.snd).sum + c := by
  rw [List.map_append, List.sum_append]
  simp
end Ck
namespace Ck
open PySem PySem.Spec PyProof.Rows L2 StX Evl
theorem range_getD (ps : List (Int × Int)) : (List.range ps.length).map (fun i => ps.getD i (0, 0)) = ps := by
  refine List.ext_getElem (by rw [List.length_map, List.length_range]) fun i h1 h2 => ?_
  rw [List.getElem_map, List.getElem_range, List.getD_eq_getElem?_getD, List.getElem?_eq_getElem h2]
  rfl
theorem kc_at {ps : List (Int × Int)} {i : Nat} {k : Key} {x : V} (h : (ps.map kc)[i]? = some (k, x)) : ∃ p ∈ ps, ps.getD i (0, 0) = p ∧ k = Sum.inl p.1 ∧ x = V.int p.2 := by
  rw [List.getElem?_map] at h
  obtain ⟨p, hp, e⟩ := Option.map_eq_some_iff.mp h
  obtain ⟨rfl, rfl⟩ := Prod.mk.inj e
  exact ⟨p, List.mem_of_getElem? hp, by rw [List.getD_eq_getElem?_getD, hp]; rfl, rfl, rfl⟩
section
variable {K : PySem.W.Frag} {σ : L2.St} {H : Hp} {tl te : TE} {tt : TT} {ta : TA} {C d : Addr} {ps qs : List (Int × Int)} {j : Nat} {ws : List Nat}
abbrev rDictP (K : PySem.W.Frag) : List V → Hp → VK → Prop := fun xs H Q => ∃ (a : Addr) (ps : List Addr) (kvs : List (Key × V)), xs = [.ref a] ∧ SqL K H a (ps.map V.ref) ∧ Paired (fun p kv => SqT K H p [kV kv.1, kv.2]) ps kvs ∧
  ∀ p, H p = none → Q (.ref p) (upd H p (.dK (mergeK [] kvs)))
/-- dict(l) of a list of pairs -/
theorem dl_of (h : ∀ H1, Ex H H1 → ∀ Q : VK, (∀ D vs H2, H1 D = none → Ex H1 H2 → H2 D = some (.lst vs) → F2 (RP K H2) vs qs → Q (.ref D) H2) → tl σ H1 Q) (hn : (qs.map Prod.fst).Nodup) :
    ∀ H1, Ex H H1 → ∀ Q : VK, (∀ p H2, H1 p = none → Ex H1 H2 → H2 p = some (.dK (qs.map kc)) → Q (.ref p) H2) → tCB (rDictP K) (tCons tl tNil) σ H1 Q := fun H1 e1 Q q =>
  h H1 e1 _ fun D vs H2 nD e2 hD hf => by
    obtain ⟨ts, rfl, hp⟩ := f2_refs hf
    exact ⟨D, ts, qs.map kc, rfl, SqL.of hD, hp, fun p hp2 => by
      rw [merge_kc hn]
      exact q p _ (fresh_back e2 hp2) (e2.trans (Ex.new hp2)) upd_same⟩
/-- [(k, d[k]) for k in d] -/
theorem lc_self (hv : ∀ H1, Ev te σ H1 (.ref d)) (hv2 : ∀ x H1, Ev te ((wipe σ ws).set j x) H1 (.ref d)) (hj : ∀ x : V, ((wipe σ ws).set j (some x))[j]? = some (some x)) (hd : H d = some (.dK (ps.map kc))) (hn : (ps.map Prod.fst).Nodup) (hl : ps.length ≤ 40000) (hw : ∀ x, wipe ((wipe σ ws).set j (some x)) ws = wipe σ ws) :
    ∀ H1, Ex H H1 → ∀ Q : VK, (∀ D vs H2, H1 D = none → Ex H1 H2 → H2 D = some (.lst vs) → F2 (RP K H2) vs ps → Q (.ref D) H2) → tLockE (tLc (iKeys te) (gName j) tYes (tTup (tCons (tVar j) (tCons (tDGet te (tVar j)) tNil))) ws) σ H1 Q := by
  have z := lc_keysP (K := K) (H := H) (td := te) (te := tTup (tCons (tVar j) (tCons (tDGet te (tVar j)) tNil))) (fun i => ps.getD i (0, 0)) hv hd (by rw [List.length_map]; exact hl) hw (fun i k x H1 hk hf => by
    obtain ⟨p, hp, e, rfl, rfl⟩ := kc_at hk
    rw [e]
    exact evr_pair (ev_var (hj _)) (ev_dget (hv2 _ H1) (ev_var (hj _)) (fun H2 e2 => (hf.to e2).dk) ((cnt_mem hn).mp hp)))
  rw [List.length_map, range_getD] at z
  exact z
/-- Lot(e), e a dict of counts -/
theorem lot_make (h : ∀ Q : VK, (∀ p H1, Ex H H1 → H1 p = some (.dK (ps.map kc)) → Q (.ref p) H1) → te σ H Q) (hc : Cts ps) (Q : VK) (q : ∀ a qs H', Ex H H' → qs.Perm ps → Asc qs → LotAt K C H' a qs → Q (.ref a) H') :
    tMakeR C (spLotI K C) E0 (tCons te tNil) σ H Q := h _ fun p H1 e1 h1 x dx nx ndx ne => by
  have e2 : Ex H1 (upd (upd H1 dx (.own x)) x (.ins C dx [])) := Ex.mut (Ex.new ndx) nx
  exact ⟨x, dx, .ref p, ps, H1, rfl, e2, nx, upd_same, hc, .inr ⟨p, rfl, h1⟩, fun qs H' e3 hp ha hl => ⟨rfl, q x qs H' (e1.trans e3) hp ha hl⟩⟩
theorem cts_nil : Cts [] := ⟨List.nodup_nil, Nat.zero_le _, fun p hp => (nomatch hp)⟩
/-- Lot() -/
theorem lot_make0 (Q : VK) (q : ∀ a H', Ex H H' → LotAt K C H' a [] → Q (.ref a) H') : tMakeR C (fun vs H Q E => spLotI K C (vs ++ [.non]) H Q E) E0 tNil σ H Q := fun x dx nx ndx ne => by
  have e2 : Ex H (upd (upd H dx (.own x)) x (.ins C dx [])) := Ex.mut (Ex.new ndx) nx
  exact ⟨x, dx, .non, [], H, rfl, e2, nx, upd_same, cts_nil, .inl ⟨rfl, rfl⟩, fun qs H' e3 hp ha hl => ⟨rfl, q x H' e3 (by rw [← List.perm_nil.mp hp]; exact hl)⟩⟩
end
theorem given_if (ps : List (Int × Int)) (c : Int × Int → Bool) (g : Int × Int → Int) : given ps.length (fun i => c (ps.getD i (0, 0))) (fun i => V.int (g (ps.getD i (0, 0)))) = ((ps.filter c).map g).map V.int := by
  unfold given
  conv => rhs; rw [← range_getD ps, List.filter_map, List.map_map, List.map_map]
  rfl
end Ck

/-! parts of a lot as dicts: list(d.items()) + [(s, c)], dict of it; comprehensions over a range -/
namespace Ck
open PySem PySem.Spec PyProof.Rows L2 StX Evl
/-- a new list of pairs of ints -/
def EvP (K : PySem.W.Frag) (te : TE) (σ : L2.St) (H : Hp) (qs : List (Int × Int)) : Prop := ∀ H1, Ex H H1 → ∀ Q : VK, (∀ D vs H2, H1 D = none → Ex H1 H2 → H2 D = some (.lst vs) → F2 (RP K H2) vs qs → Q (.ref D) H2) → te σ H1 Q
section
variable {K : PySem.W.Frag} {σ : L2.St} {H : Hp} {ta tb te : TE} {d : Addr} {qs rs : List (Int × Int)} {a b : Int}
theorem f2_of_paired {H' : Hp} : ∀ {ts : List Addr} {qs : List (Int × Int)}, Paired (fun (t : Addr) (q : Key × V) => H' t = some (.tup [kV q.1, q.2])) ts (qs.map kc) → F2 (RP K H') (ts.map V.ref) qs
  | [], [], _ => .nil
  | t :: ts, q :: qs, .cons h r => .cons ⟨t, rfl, SqT.of h⟩ (f2_of_paired r)
theorem evp_items (h : Ev te σ H (.ref d)) (hd : H d = some (.dK (qs.map kc))) : EvP K (LiI.tListItems te) σ H qs := fun H1 e Q q => h H1 e _ fun H2 e2 => ⟨d, _, rfl, e2 _ _ (e _ _ hd), fun H' p ts e3 hp _ _ hl hr => q p _ H' (fresh_back e2 hp) (e2.trans e3) hl (f2_of_paired hr)⟩
theorem evp_one (ha : Ev ta σ H (.int a)) (hb : Ev tb σ H (.int b)) : EvP K (tLst (tCons (tTup (tCons ta (tCons tb tNil))) tNil)) σ H [(a, b)] := fun H1 e Q q =>
  evr_pair (K := K) ha hb H1 e (fun x H2 => tNil σ H2 fun xs H3 => (x :: xs).length ≤ sizeLine ∧ ∀ p, H3 p = none → Q (.ref p) (L2.upd H3 p (.lst (x :: xs)))) fun v H2 e2 hv => ⟨(show 1 ≤ sizeLine by decide), fun p hp => q p [v] _ (fresh_back e2 hp) (e2.trans (Ex.new hp)) upd_same (.cons (hv.ex (Ex.new hp)) .nil)⟩
theorem evp_cat (ha : EvP K ta σ H qs) (hb : EvP K tb σ H rs) (hl : qs.length + rs.length ≤ 100000) : EvP K (tOp rCat ta tb) σ H (qs ++ rs) := fun H1 e Q q =>
  ha H1 e _ fun D vs H2 nD e2 hD hf => hb H2 (e.trans e2) _ fun D' us H3 nD' e3 hD' hf' => ⟨D, D', vs, us, rfl, rfl, e3 _ _ hD, hD', sz_of (by rw [hf.len, hf'.len]; exact hl), fun p hp => q p _ _ (fresh_back (e2.trans e3) hp) ((e2.trans e3).trans (Ex.new hp)) upd_same
    (((hf.imp fun x b r => r.ex (e3.trans (Ex.new hp))).app (hf'.imp fun x b r => r.ex (Ex.new hp))))⟩
/-- dict(list(d.items()) + [(s, c)]) -/
theorem evr_dict (h : EvP K te σ H qs) (hn : (qs.map Prod.fst).Nodup) : EvR RD (tCB (rDictP K) (tCons te tNil)) σ H qs := fun H1 e Q q => dl_of h hn H1 e _ fun p H2 _ e2 h2 => q (.ref p) H2 e2 ⟨p, rfl, h2⟩
end
/-- [e for j in range(lo, hi)], e of any kind -/
theorem lc_rngR {β : Type} {R : Hp → V → β → Prop} {σ : L2.St} {H : Hp} {ta : TA} {te : TE} {lo hi : Int} {j : Nat} {ws : List Nat} (e : Nat → β) (L : ∀ H H' x b, Ex H H' → R H x b → R H' x b) (LU : ∀ H l xs ys x b, H l = some (.lst xs) → R H x b → R (upd H l (.lst ys)) x b)
    (h : EvA ta σ H [.int lo, .int hi]) (hb : 0 ≤ lo ∧ lo ≤ 40000 ∧ 0 ≤ hi ∧ hi ≤ 40000) (hw : ∀ x, wipe ((wipe σ ws).set j (some x)) ws = wipe σ ws)
    (he : ∀ i : Nat, i < (hi - lo).toNat → ∀ H1, Ex H H1 → EvR R te ((wipe σ ws).set j (some (.int (lo + i)))) H1 (e i)) :
    ∀ H1, Ex H H1 → ∀ Q : VK, (∀ D vs H2, H1 D = none → Ex H1 H2 → H2 D = some (.lst vs) → F2 (R H2) vs ((List.range (hi - lo).toNat).map e) → Q (.ref D) H2) → tLc (iRng2 ta) (gName j) tYes te ws σ H1 Q := fun H0 e0 Q q => h H0 e0 _ fun H1 e1 => ⟨lo, hi, rfl, ⟨by omega, by omega, by omega, by omega⟩, fun D hD => by
  refine lc_it walk_range (fun i H' => H1 D = none ∧ Ex H1 H' ∧ ∃ vs, H' D = some (.lst vs) ∧ vs.length ≤ i ∧ F2 (R H') vs ((List.range i).map e)) ⟨hD, Ex.new hD, [], upd_same, Nat.le_refl _, .nil⟩ (fun i H' _ p => trivial) ?_ ?_
  · rintro i x H2 H3 hi2 ⟨p1, p2, vs, p3, p4, p5⟩ ⟨rfl, rfl⟩
    have e02 := (e0.trans e1).trans p2
    refine ⟨hw _, yes_go (iteT (he i hi2 H3 e02 H3 (Ex.refl _) _ fun v H5 e5 hv => ⟨vs, e5 _ _ p3, sz_lt (by omega), p1, Ex.mut (p2.trans e5) p1, vs ++ [v], upd_same, by rw [List.length_append]; exact Nat.succ_le_succ p4, ?_⟩))⟩
    have hD5 := e5 _ _ p3
    rw [List.range_succ, List.map_append]
    exact (p5.imp fun x b r => LU _ _ _ _ _ _ hD5 (L _ _ _ _ e5 r)).app (.cons (LU _ _ _ _ _ _ hD5 hv) .nil)
  · rintro H2 ⟨p1, p2, vs, p3, _, p5⟩
    exact q D vs H2 (fresh_back e1 p1) (e1.trans p2) p3 p5⟩
/-- how many parts there are -/
theorem parts_len : ∀ (ps : List (Int × Int)) (acc : List (List (Int × Int))), (∀ p ∈ ps, 0 < p.2) → (ps.foldl (fun acc p => acc.flatMap (ext1 p)) acc).length ≤ acc.length * 2 ^ ((ps.map Prod.snd).sum).toNat
  | [], acc, _ => by
    show acc.length ≤ acc.length * 2 ^ (0 : Nat)
    omega
  | p :: r, acc, h => by
    have p0 := h p List.mem_cons_self
    have h2 : ∀ q ∈ r, 0 < q.2 := fun q hq => h q (List.mem_cons_of_mem _ hq)
    have ih := parts_len r (acc.flatMap (ext1 p)) h2
    have one : (acc.flatMap (ext1 p)).length = acc.length * (p.2.toNat + 1) := by
      rw [List.length_flatMap]
      have : (acc.map fun q => (ext1 p q).length) = acc.map fun _ => p.2.toNat + 1 := List.map_congr_left fun q _ => by
        unfold ext1
        rw [List.length_cons, List.length_map, List.length_range]
      rw [this, List.map_const', List.sum_replicate_nat]
    have sn : 0 ≤ (r.map Prod.snd).sum := by
      clear ih one h
      induction r with
      | nil => exact Int.le_refl 0
      | cons a t iht =>
        rw [List.map_cons, List.sum_cons]
        have a0 := h2 a List.mem_cons_self
        have := iht fun q hq => h2 q (List.mem_cons_of_mem _ hq)
        omega
    have ex : ((p :: r).map Prod.snd).sum.toNat = p.2.toNat + ((r.map Prod.snd).sum).toNat := by
      rw [List.map_cons, List.sum_cons]
      omega
    show (r.foldl (fun acc p => acc.flatMap (ext1 p)) (acc.flatMap (ext1 p))).length ≤ _
    rw [ex, Nat.pow_add, ← Nat.mul_assoc]
    refine Nat.le_trans ih (Nat.mul_le_mul_right _ ?_)
    rw [one]
    exact Nat.mul_le_mul_left _ (Nat.succ_le_of_lt Nat.lt_two_pow_self)
end Ck
namespace Ck
open PySem PySem.Spec PyProof.Rows L2 StX Evl
theorem parts_keys : ∀ (n : Nat) (ws : List (Int × Int)), ws.length = n → ∀ q ∈ partsOf ws, (q.map Prod.fst).Sublist (ws.map Prod.fst)
  | 0, ws, hn, q, hq => by
    rw [List.eq_nil_of_length_eq_zero hn] at hq ⊢
    cases List.mem_singleton.mp hq
    exact List.Sublist.refl _
  | n + 1, ws, hn, q, hq => by
    have hne : ws ≠ [] := fun e => by rw [e] at hn; cases hn
    have e : ws = ws.dropLast ++ [ws.getLast hne] := (List.dropLast_concat_getLast hne).symm
    have ih := parts_keys n ws.dropLast (by rw [List.length_dropLast, hn]; rfl)
    generalize ws.getLast hne = p at e
    generalize ws.dropLast = us at e ih
    subst e
    rw [parts_snoc] at hq
    obtain ⟨r, hr, hm⟩ := List.mem_flatMap.mp hq
    rw [List.map_append]
    rcases List.mem_cons.mp hm with rfl | hm
    · exact (ih q hr).trans (List.sublist_append_left _ _)
    · obtain ⟨k, _, rfl⟩ := List.mem_map.mp hm
      rw [List.map_append]
      exact List.Sublist.append (ih r hr) (List.Sublist.refl _)
theorem sum_pos {ps : List (Int × Int)} (h : ∀ p ∈ ps, 0 < p.2) : 0 ≤ (ps.map Prod.snd).sum ∧ ∀ p ∈ ps, p.2 ≤ (ps.map Prod.snd).sum := by
  induction ps with
  | nil => exact ⟨Int.le_refl 0, fun p hp => (nomatch hp)⟩
  | cons a t ih =>
    obtain ⟨h1, h2⟩ := ih fun q hq => h q (List.mem_cons_of_mem _ hq)
    have a0 := h a List.mem_cons_self
    rw [List.map_cons, List.sum_cons]
    refine ⟨by omega, fun p hp => ?_⟩
    rcases List.mem_cons.mp hp with rfl | m
    · omega
    · have := h2 p m
      omega
theorem sum_takes {ps : List (Int × Int)} (h : ∀ p ∈ ps, 0 < p.2) (i : Nat) : ((ps.take i).map Prod.snd).sum ≤ (ps.map Prod.snd).sum := by
  have e : (ps.map Prod.snd).sum = ((ps.take i).map Prod.snd).sum + ((ps.drop i).map Prod.snd).sum := by
    rw [← List.sum_append, ← List.map_append, List.take_append_drop]
  have := (sum_pos (ps := ps.drop i) fun q hq => h q (List.mem_of_mem_drop hq)).1
  omega
theorem sum_of_perm {a b : List Int} (h : a.Perm b) : a.sum = b.sum := by
  induction h with
  | nil => rfl
  | cons x _ ih => rw [List.sum_cons, List.sum_cons, ih]
  | swap x y l => rw [List.sum_cons, List.sum_cons, List.sum_cons, List.sum_cons]; omega
  | trans _ _ a b => rw [a, b]
theorem sum_perm {ps qs : List (Int × Int)} (h : qs.Perm ps) : (qs.map Prod.snd).sum = (ps.map Prod.snd).sum := sum_of_perm (h.map Prod.snd)
theorem flat_take {α β : Type} (f : α → List β) (l : List α) (j : Nat) : ((l.take j).flatMap f).length ≤ (l.flatMap f).length := by
  conv => rhs; rw [← List.take_append_drop j l]
  rw [List.flatMap_append, List.length_append]
  exact Nat.le_add_right _ _
theorem parts_small {ps : List (Int × Int)} (h : ∀ p ∈ ps, 0 < p.2) (hs : (ps.map Prod.snd).sum ≤ 9) (i : Nat) : (partsOf (ps.take i)).length ≤ 512 := by
  have z := parts_len (ps.take i) [[]] fun p hp => h p (List.mem_of_mem_take hp)
  have s := sum_takes h i
  refine Nat.le_trans z ?_
  show 1 * 2 ^ _ ≤ 512
  rw [Nat.one_mul]
  exact Nat.le_trans (Nat.pow_le_pow_right (by decide) (show (((ps.take i).map Prod.snd).sum).toNat ≤ 9 by omega)) (by decide)
theorem ext1_eq (p : Int × Int) (q : List (Int × Int)) : ext1 p q = q :: ((List.range (p.2 + 1 - 1).toNat).map fun k : Nat => q ++ [(p.1, 1 + (k : Int))]) := by
  unfold ext1
  rw [show p.2 + 1 - 1 = p.2 by omega]
  refine congrArg (q :: ·) (List.map_congr_left fun k _ => ?_)
  rw [show ((k + 1 : Nat) : Int) = 1 + (k : Int) by omega]
end Ck

/-! lots in one order; dicts that tell which amounts there are; purses of drawn lots -/
namespace Ck
open PySem PySem.Spec PyProof.Rows L2 StX Evl RZ
theorem self_cnt {ps : List (Int × Int)} (h : (ps.map Prod.fst).Nodup) : (ps.map Prod.fst).map (fun n => (n, (cnt ps n).getD 0)) = ps := by
  rw [List.map_map]
  have key : ∀ p ∈ ps, ((fun n => (n, (cnt ps n).getD 0)) ∘ Prod.fst) p = p := fun p hp => by
    show (p.1, (cnt ps p.1).getD 0) = p
    rw [(cnt_mem h).mp (show (p.1, p.2) ∈ ps from hp)]
    rfl
  rw [List.map_congr_left key, List.map_id']
theorem asc_unique {a b : List (Int × Int)} (ha : Asc a) (hb : Asc b) (p : a.Perm b) : a = b := by
  have k : a.map Prod.fst = b.map Prod.fst := sorted_one ha hb fun k => (p.map Prod.fst).mem_iff
  rw [← self_cnt (asc_nodup ha), ← self_cnt (asc_nodup hb), k]
  exact List.map_congr_left fun n _ => by rw [cnt_perm (asc_nodup hb) p]
theorem tot_perm {a b : List (Int × Int)} (p : a.Perm b) : tot a = tot b := sum_of_perm (p.map _)
theorem sml_perm {a b : List (Int × Int)} (p : a.Perm b) (s : Int) : sml a s = sml b s := tot_perm (p.filter _)
theorem siz_of {i : Int} (h : 0 < i) (h2 : i.natAbs < 10 ^ 200) : sizB i = true := by
  unfold sizB intB
  rw [decide_eq_true h2, decide_eq_true (show 1 ≤ i by omega)]
  rfl
theorem cnt_of {i : Int} (h : 0 ≤ i) (h2 : i.natAbs < 10 ^ 200) : cntB i = true := by
  unfold cntB intB
  rw [decide_eq_true h2, decide_eq_true h]
  rfl
theorem parts_ok : ∀ (n : Nat) (ws : List (Int × Int)), ws.length = n → ∀ q ∈ partsOf ws, ∀ x ∈ q, ∃ y ∈ ws, x.1 = y.1 ∧ 0 < x.2 ∧ x.2 ≤ y.2
  | 0, ws, hn, q, hq => by
    rw [List.eq_nil_of_length_eq_zero hn] at hq
    cases List.mem_singleton.mp hq
    exact fun x hx => nomatch hx
  | n + 1, ws, hn, q, hq => by
    have hne : ws ≠ [] := fun e => by rw [e] at hn; cases hn
    have e : ws = ws.dropLast ++ [ws.getLast hne] := (List.dropLast_concat_getLast hne).symm
    have ih := parts_ok n ws.dropLast (by rw [List.length_dropLast, hn]; rfl)
    generalize ws.getLast hne = p at e
    generalize ws.dropLast = us at e ih
    subst e
    rw [parts_snoc] at hq
    obtain ⟨r, hr, hm⟩ := List.mem_flatMap.mp hq
    intro x hx
    have old : x ∈ r → ∃ y ∈ us ++ [p], x.1 = y.1 ∧ 0 < x.2 ∧ x.2 ≤ y.2 := fun m => by
      obtain ⟨y, h1, h2⟩ := ih r hr x m
      exact ⟨y, List.mem_append_left _ h1, h2⟩
    rcases List.mem_cons.mp hm with rfl | hm
    · exact old hx
    · obtain ⟨k, hk, rfl⟩ := List.mem_map.mp hm
      have := List.mem_range.mp hk
      rcases List.mem_append.mp hx with m | m
      · exact old m
      · rw [List.mem_singleton.mp m]
        exact ⟨p, List.mem_append_right _ (List.mem_singleton.mpr rfl), rfl, by show (0 : Int) < ((k + 1 : Nat) : Int); omega, by show ((k + 1 : Nat) : Int) ≤ p.2; omega⟩
theorem parts_cts {ws q : List (Int × Int)} (hc : Cts ws) (hq : q ∈ partsOf ws) : Cts q := by
  have sb := parts_keys _ _ rfl q hq
  have l := sb.length_le
  rw [List.length_map, List.length_map] at l
  refine ⟨List.Nodup.sublist sb hc.nd, Nat.le_trans l hc.ln, fun x hx => ?_⟩
  obtain ⟨y, hy, e, h1, h2⟩ := parts_ok _ _ rfl q hq x hx
  obtain ⟨s1, s2⟩ := hc.ok y hy
  have z := siz_int s2
  exact ⟨by rw [e]; exact s1, siz_of h1 (by omega)⟩
/-- a number, and True -/
def RB (K : PySem.W.Frag) (H : Hp) (x : V) (n : Int) : Prop := ∃ t, x = .ref t ∧ SqT K H t [.int n, .bl true]
theorem mergeK_some (k : Key) : ∀ (more acc : List (Key × V)), (valV (mergeK acc more) k).isSome = ((valV acc k).isSome || more.any fun kv => decide (kv.1 = k))
  | [], acc => by
    show (valV acc k).isSome = _
    rw [List.any_nil, Bool.or_false]
  | p :: r, acc => by
    show (valV (mergeK (putK acc p.1 p.2) r) k).isSome = _
    rw [mergeK_some k r, valV_put, List.any_cons]
    by_cases e : k = p.1
    · rw [if_pos e, decide_eq_true e.symm]
      cases (valV acc k).isSome <;> rfl
    · rw [if_neg e, decide_eq_false (Ne.symm e), Bool.false_or]
/-- a dict that has just these amounts -/
def Tt (H : Hp) (p : Addr) (ns : List Int) : Prop := ∃ kvs, H p = some (.dK kvs) ∧ ∀ n : Int, (valV kvs (Sum.inl n : Key)).isSome = decide (n ∈ ns)
theorem Tt.up {H H' : Hp} {p : Addr} {ns : List Int} (h : Tt H p ns) (e : Ex H H') : Tt H' p ns := h.imp fun k h => ⟨e _ _ h.1, h.2⟩
section
variable {K : PySem.W.Frag} {σ : L2.St} {H : Hp} {tl te ty td : TE} {tt : TT} {a p : Addr} {ns : List Int} {n : Int} {j : Nat} {ws : List Nat}
theorem RB.ex {H H' : Hp} {x : V} (e : Ex H H') (h : RB K H x n) : RB K H' x n := h.imp fun t h => ⟨h.1, ex_t e h.2⟩
theorem RB.upd {H : Hp} {l : Addr} {xs ys : List V} {x : V} (hl : H l = some (.lst xs)) (h : RB K H x n) : RB K (L2.upd H l (.lst ys)) x n := h.imp fun t h => ⟨h.1, sqT_updL h.2 hl⟩
theorem fb_refs {H : Hp} : ∀ {vs : List V} {ns : List Int}, F2 (RB K H) vs ns → ∃ ts : List Addr, vs = ts.map V.ref ∧ Paired (fun t (kv : Key × V) => SqT K H t [kV kv.1, kv.2]) ts (ns.map fun n => (Sum.inl n, V.bl true))
  | _, _, .nil => ⟨[], rfl, .nil⟩
  | _, _, .cons ⟨t, e, h⟩ tl => by
    obtain ⟨ts, rfl, r⟩ := fb_refs tl
    exact ⟨t :: ts, by rw [e]; rfl, .cons h r⟩
/-- dict(l) of a list of such pairs -/
theorem db_of (h : ∀ H1, Ex H H1 → ∀ Q : VK, (∀ D vs H2, H1 D = none → Ex H1 H2 → H2 D = some (.lst vs) → F2 (RB K H2) vs ns → Q (.ref D) H2) → tl σ H1 Q) :
    ∀ H1, Ex H H1 → ∀ Q : VK, (∀ p H2, H1 p = none → Ex H1 H2 → Tt H2 p ns → Q (.ref p) H2) → tCB (rDictP K) (tCons tl tNil) σ H1 Q := fun H1 e1 Q q =>
  h H1 e1 _ fun D vs H2 nD e2 hD hf => by
    obtain ⟨ts, rfl, hp⟩ := fb_refs hf
    refine ⟨D, ts, _, rfl, SqL.of hD, hp, fun p hp2 => q p _ (fresh_back e2 hp2) (e2.trans (Ex.new hp2)) ⟨_, upd_same, fun n => ?_⟩⟩
    rw [mergeK_some, valV_nil]
    show (false || _) = _
    rw [Bool.false_or, List.any_map]
    by_cases m : n ∈ ns
    · rw [decide_eq_true m, List.any_eq_true]
      exact ⟨n, m, decide_eq_true rfl⟩
    · rw [decide_eq_false m, List.any_eq_false]
      exact fun x hx z => m (Sum.inl.inj (of_decide_eq_true z) ▸ hx)
theorem ev_dinT (h : Ev td σ H (.ref p)) (hs : Ev ty σ H (.int n)) (hd : Tt H p ns) : Ev (tDIn ty td) σ H (.bl (decide (n ∈ ns))) := fun H1 e Q q =>
  hs H1 e _ fun H2 e2 => h H2 (e.trans e2) _ fun H3 e3 => by
    obtain ⟨kvs, h1, h2⟩ := hd.up ((e.trans e2).trans e3)
    exact ⟨p, valV kvs (Sum.inl n), rfl, .inl ⟨kvs, Sum.inl n, .inl h1, rfl, rfl⟩, by rw [h2 n]; exact q H3 (e2.trans e3)⟩
/-- [e for n in l if c], l a new list of ints -/
theorem el_lcNL (c : Int → Bool) (f : Int → V) (h : EvL tl σ H (ns.map V.int)) (hz : ns.length ≤ 40000) (hw : ∀ x, wipe ((wipe σ ws).set j (some x)) ws = wipe σ ws)
    (ht : ∀ n ∈ ns, ∀ H1, Ex H H1 → EvT tt ((wipe σ ws).set j (some (.int n))) H1 (c n)) (he : ∀ n ∈ ns, c n = true → ∀ H1, Ex H H1 → Ev te ((wipe σ ws).set j (some (.int n))) H1 (f n)) :
    EvL (tLc (iList K tl) (gName j) tt te ws) σ H ((ns.filter c).map f) := fun H0 e0 Q q => h H0 e0 _ fun a H1 _ e1 hx => ⟨a, rfl, ⟨_, SqL.of hx⟩, fun D hD => by
  refine lc_it walk_list (fun i H' => H1 D = none ∧ Ex H1 H' ∧ ∃ vs, H' D = some (.lst vs) ∧ vs.length ≤ i ∧ vs = ((ns.take i).filter c).map f) ⟨hD, Ex.new hD, [], upd_same, Nat.le_refl _, rfl⟩ (fun i H' _ p => SqL.of (p.2.1 _ _ hx)) ?_ ?_
  · rintro i x H2 H3 hi ⟨p1, p2, vs, p3, p4, p5⟩ ⟨e3, hxi⟩
    rw [e3]
    rw [List.length_map] at hi
    rw [List.getElem?_map, List.getElem?_eq_getElem hi] at hxi
    obtain rfl := Option.some.inj hxi
    have m := List.getElem_mem hi
    have e02 := (e0.trans e1).trans p2
    refine ⟨hw _, ht _ m H2 e02 H2 (Ex.refl H2) _ fun H4 e4 => ?_⟩
    have st : ns.take (i + 1) = ns.take i ++ [ns[i]] := by rw [List.take_add_one, List.getElem?_eq_getElem hi]; rfl
    cases hc : c ns[i] with
    | true =>
      refine iteT (he _ m hc H4 (e02.trans e4) H4 (Ex.refl H4) _ fun H5 e5 => ⟨vs, (e4.trans e5) _ _ p3, sz_lt (by omega), p1, Ex.mut (p2.trans (e4.trans e5)) p1, vs ++ [f ns[i]], upd_same, by rw [List.length_append]; exact Nat.succ_le_succ p4, ?_⟩)
      rw [st, List.filter_append, List.map_append, show [ns[i]].filter c = [ns[i]] by rw [List.filter_cons, hc]; rfl, p5]
      rfl
    | false =>
      refine iteF ⟨p1, p2.trans e4, vs, e4 _ _ p3, Nat.le_succ_of_le p4, ?_⟩
      rw [st, List.filter_append, show [ns[i]].filter c = [] by rw [List.filter_cons, hc]; rfl, List.append_nil]
      exact p5
  · rintro H2 ⟨p1, p2, vs, p3, _, p5⟩
    rw [List.length_map, List.take_of_length_le (Nat.le_refl _)] at p5
    rw [p5] at p3
    exact q D H2 (fresh_back e1 p1) (e1.trans p2) p3⟩
end
theorem prs2_of : ∀ (n : Nat) (qs : List (Int × Int)), qs.length = n → Asc qs → (∀ p ∈ qs, 0 < p.1 ∧ 0 < p.2) → (∀ p ∈ qs, ∀ r ∈ qs, p.1 < r.1 → p.1 ∣ r.1) → Prs2 qs
  | 0, qs, hn, _, _, _ => by
    rw [List.eq_nil_of_length_eq_zero hn]
    exact .nil
  | n + 1, qs, hn, ha, hp, hd => by
    have hne : qs ≠ [] := fun e => by rw [e] at hn; cases hn
    have e : qs = qs.dropLast ++ [qs.getLast hne] := (List.dropLast_concat_getLast hne).symm
    have ih := prs2_of n qs.dropLast (by rw [List.length_dropLast, hn]; rfl)
    generalize qs.getLast hne = p at e
    generalize qs.dropLast = us at e ih
    subst e
    unfold Asc at ha
    rw [List.map_append, List.pairwise_append] at ha
    obtain ⟨a1, _, a3⟩ := ha
    have lt : ∀ q ∈ us, q.1 < p.1 := fun q hq => a3 _ (List.mem_map_of_mem hq) _ (List.mem_singleton.mpr rfl)
    have mp : p ∈ us ++ [p] := List.mem_append_right _ (List.mem_singleton.mpr rfl)
    exact .snoc (ih a1 (fun q hq => hp q (List.mem_append_left _ hq)) fun q hq r hr => hd q (List.mem_append_left _ hq) r (List.mem_append_left _ hr)) (hp p mp).1 (hp p mp).2 lt fun q hq => hd q (List.mem_append_left _ hq) p mp (lt q hq)
theorem chn_of {qs : List (Int × Int)} (ha : Asc qs) (hd : ∀ p ∈ qs, ∀ r ∈ qs, p.1 < r.1 → p.1 ∣ r.1) : Chn qs := by
  refine gap_none fun j hj => ?_
  rw [List.length_map] at hj
  have h1 : j < (qs.map Prod.fst).length := by rw [List.length_map]; omega
  have h2 : j + 1 < (qs.map Prod.fst).length := by rw [List.length_map]; omega
  rw [List.getD_eq_getElem?_getD, List.getD_eq_getElem?_getD, List.getElem?_eq_getElem h1, List.getElem?_eq_getElem h2]
  have lt := List.pairwise_iff_getElem.mp ha j (j + 1) h1 h2 (Nat.lt_succ_self j)
  obtain ⟨p, hp, e1⟩ := List.mem_map.mp (List.getElem_mem h1)
  obtain ⟨r, hr, e2⟩ := List.mem_map.mp (List.getElem_mem h2)
  show (qs.map Prod.fst)[j + 1] % (qs.map Prod.fst)[j] = 0
  rw [← e1, ← e2] at lt ⊢
  exact Int.emod_eq_zero_of_dvd (hd p hp r hr lt)
theorem tot_le : ∀ {ps : List (Int × Int)}, (∀ p ∈ ps, (0 < p.1 ∧ p.1 ≤ 64) ∧ 0 < p.2) → 0 ≤ tot ps ∧ tot ps ≤ 64 * (ps.map Prod.snd).sum
  | [], _ => ⟨Int.le_refl 0, Int.le_refl 0⟩
  | p :: r, h => by
    obtain ⟨a, b⟩ := tot_le fun q hq => h q (List.mem_cons_of_mem _ hq)
    obtain ⟨⟨h1, h2⟩, h3⟩ := h p List.mem_cons_self
    have e : tot (p :: r) = p.1 * p.2 + tot r := by
      unfold tot
      rw [List.map_cons, List.sum_cons]
    rw [e, List.map_cons, List.sum_cons]
    have m1 : 0 ≤ p.1 * p.2 := Int.mul_nonneg (by omega) (by omega)
    have m2 : p.1 * p.2 ≤ 64 * p.2 := Int.mul_le_mul_of_nonneg_right h2 (by omega)
    omega
/-- the law's answer of an amount -/
theorem pay_eq {qs : List (Int × Int)} (h : Prs2 qs) {n : Int} (h0 : 0 ≤ n) : decide (n ∈ (partsOf qs).map tot) = (decide (lck qs n = []) && decide (n ≤ tot qs)) := by
  have z := is_pay h n
  have l : lck qs n = [] ↔ ∀ p ∈ qs, n % p.1 ≤ sml qs p.1 := by
    unfold lck
    rw [List.filter_eq_nil_iff]
    constructor
    · intro k p hp
      have := k p.1 (List.mem_map_of_mem hp)
      rw [decide_eq_true_eq] at this
      omega
    · intro k s hs
      obtain ⟨p, hp, rfl⟩ := List.mem_map.mp hs
      have := k p hp
      rw [decide_eq_true_eq]
      omega
  have m : n ∈ (partsOf qs).map tot ↔ Is qs n := List.mem_map
  rw [← Bool.decide_and]
  refine decide_eq_decide.mpr (m.trans (z.trans ?_))
  unfold Pay
  rw [l]
  exact ⟨fun ⟨_, b, c⟩ => ⟨c, b⟩, fun ⟨c, b⟩ => ⟨h0, b, c⟩⟩
end Ck
namespace Ck
open PySem PySem.Spec PyProof.Rows L2
def spLimit : Sp := fun vs H Q _ => vs = [] ∧ Q (.int (10 ^ 200)) H
theorem lim_v {σ : L2.St} {H : Hp} : Evl.Ev (tCall spLimit [] E0 tNil) σ H (.int (10 ^ 200)) := fun H1 _ Q q => ⟨rfl, q H1 (Evl.Ex.refl H1)⟩
theorem tot_v {H : Hp} {g : Addr} {ps : List (Int × Int)} (hg : H g = some (.dK (ps.map kc))) (hc : Cts ps) : Evl.SpV spTot [.ref g] H (.int (tot ps)) := fun H1 e Q q E => ⟨g, ps, rfl, e _ _ hg, hc, q⟩
theorem smt_v {H : Hp} {g : Addr} {s : Int} {ps : List (Int × Int)} (hg : H g = some (.dK (ps.map kc))) (hc : Cts ps) : Evl.SpV spSmt [.ref g, .int s] H (.int (sml ps s)) := fun H1 e Q q E => ⟨g, s, ps, rfl, e _ _ hg, hc, q⟩
theorem evr_tb {K : PySem.W.Frag} {σ : L2.St} {H : Hp} {ta : TE} {a : Int} (ha : Evl.Ev ta σ H (.int a)) : EvR (RB K) (tTup (tCons ta (tCons (tC (.bl true)) tNil))) σ H a := fun H1 e Q q =>
  ha H1 e _ fun H2 e2 => ⟨(show 2 ≤ sizeLine by decide), fun t ht => q _ _ (e2.trans (Evl.Ex.new ht)) ⟨t, rfl, SqT.of upd_same⟩⟩
theorem Chd.nodup {ns : List Int} {L : Int} (h : Chd ns L) : ns.Nodup := List.Pairwise.imp (fun {a b} (x : a < b ∧ a ∣ b) (e : a = b) => by omega) h.pw
theorem Chd.dvd {ns : List Int} {L a b : Int} (h : Chd ns L) (ha : a ∈ ns) (hb : b ∈ ns) (lt : a < b) : a ∣ b := by
  obtain ⟨i, hi, rfl⟩ := List.mem_iff_getElem.mp ha
  obtain ⟨j, hj, rfl⟩ := List.mem_iff_getElem.mp hb
  have pw := List.pairwise_iff_getElem.mp h.pw
  rcases Nat.lt_trichotomy i j with z | z | z
  · exact (pw i j hi hj z).2
  · subst z
    omega
  · have := (pw j i hj hi z).1
    omega
theorem few_facts {ns : List Int} {L : Int} {ps : List (Int × Int)} (hc : Chd ns L) (hL : L ≤ 64) (hl : ns.length ≤ 3) (hf : Few ns ps) (hl1 : ps.length ≤ ns.length) : Cts ps ∧ 0 ≤ tot ps ∧ tot ps ≤ 576 := by
  have A : ∀ p ∈ ps, (0 < p.1 ∧ p.1 ≤ 64) ∧ 0 < p.2 := fun p hp => by
    obtain ⟨m, c⟩ := hf.sub p hp
    obtain ⟨h1, h2, _⟩ := hc.pos _ m
    exact ⟨⟨h1, by omega⟩, c⟩
  obtain ⟨t0, t1⟩ := tot_le A
  have s := hf.sum
  have sp := sum_pos fun p hp => (A p hp).2
  have big : (100 : Nat) ≤ 10 ^ 200 := by decide +kernel
  refine ⟨⟨hf.nd, by omega, fun p hp => ?_⟩, t0, by omega⟩
  obtain ⟨⟨h1, h2⟩, h3⟩ := A p hp
  have := sp.2 p hp
  exact ⟨siz_of h1 (Nat.lt_of_lt_of_le (show _ < 100 by omega) big), siz_of h3 (Nat.lt_of_lt_of_le (show _ < 100 by omega) big)⟩
theorem pur_facts {ns : List Int} {L : Int} {ps qs : List (Int × Int)} (hc : Chd ns L) (cs : Cts ps) (hf : Few ns ps) (hp : qs.Perm ps) (ha : Asc qs) : (∀ p ∈ qs, 0 < p.1 ∧ 0 < p.2) ∧ Chn qs ∧ ∀ p ∈ qs, ∀ r ∈ qs, p.1 < r.1 → p.1 ∣ r.1 := by
  have D : ∀ p ∈ qs, ∀ r ∈ qs, p.1 < r.1 → p.1 ∣ r.1 := fun p hp1 r hr1 lt => hc.dvd (hf.sub p (hp.mem_iff.mp hp1)).1 (hf.sub r (hp.mem_iff.mp hr1)).1 lt
  exact ⟨fun p hp1 => ⟨(hc.pos _ (hf.sub p (hp.mem_iff.mp hp1)).1).1, (hf.sub p (hp.mem_iff.mp hp1)).2⟩, chn_of ha D, D⟩
theorem lck_sh {qs : List (Int × Int)} (hc : Cts qs) (n : Int) (b : Bool) : Sh (.list [.bool b, .tuple ((lck qs n).map PyData.int)]) := by
  have le : (lck qs n).length ≤ 12 := by
    have := List.length_filter_le (fun s => decide (sml qs s < n % s)) (qs.map Prod.fst)
    rw [List.length_map] at this
    exact Nat.le_trans this hc.ln
  have t : ShB 2430 1 (.tuple ((lck qs n).map PyData.int)) := by
    refine (shB_tuple (B := 200) (e := 0) fun d hd => ?_).up (by decide) (by rw [List.length_map]; omega)
    obtain ⟨m, hm, rfl⟩ := List.mem_map.mp hd
    obtain ⟨h1, h2, _⟩ := cts_pos hc m (List.mem_filter.mp hm).1
    exact shB_int (by omega) h2
  refine (shB_list (B := 2430) (e := 1) fun x hx => ?_).ok (by decide) (show 2 * 2432 + 3 ≤ 1000000 by decide)
  rcases List.mem_cons.mp hx with rfl | hx
  · exact (shB_bool b).up (by decide) (by decide)
  · rw [List.mem_singleton.mp hx]
    exact t
/-- one drawn purse -/
def spRight (K : PySem.W.Frag) : Sp := fun vs H Q _ => ∃ (d p : Addr) (ns : List Int) (L : Int), vs = [.ref d, .ref p] ∧ p ≠ d ∧ Dice H d ∧ SqT K H p (ns.map V.int) ∧ ns.length ≤ 3 ∧ Chd ns L ∧ L ≤ 64 ∧ ∀ H', Kd d H H' → Q (.bl true) H'
end Ck
namespace Ck
open PySem PySem.Spec PyProof.Rows L2 StX Evl
section
variable {K : PySem.W.Frag} {σ : L2.St} {H : Hp} {ta tb te : TE} {tr : TA} {C a : Addr} {ds es : List PyData}
theorem dpa_app2 {H : Hp} : ∀ {vs us : List V} {ds es : List PyData}, DpAll K H vs ds → DpAll K H us es → DpAll K H (vs ++ us) (ds ++ es)
  | _, _, _, _, .nil, h => h
  | _, _, _, _, .cons h t, h2 => .cons h (dpa_app2 t h2)
/-- a list of told values -/
def FD (K : PySem.W.Frag) (te : TE) (σ : L2.St) (H : Hp) (ds : List PyData) : Prop := ∀ H1, Ex H H1 → ∀ Q : VK, (∀ p xs H2, Ex H1 H2 → H2 p = some (.lst xs) → DpAll K H2 xs ds → Q (.ref p) H2) → te σ H1 Q
theorem fd_lst (h : EdA K tr σ H ds) (hl : ds.length ≤ 100000 := by exact Nat.le_of_ble_eq_true rfl) : FD K (tLst tr) σ H ds := fun H1 e Q q =>
  h H1 e _ fun vs H2 e2 ha => ⟨sz_of (by rw [dpa_len ha]; exact hl), fun p hp => q p vs _ (e2.trans (Ex.new hp)) upd_same (dpaM (Ex.new hp) ha)⟩
theorem fd_var {p : Addr} {xs : List V} (h : Ev te σ H (.ref p)) (hp : H p = some (.lst xs)) (hd : DpAll K H xs ds) : FD K te σ H ds := fun H1 e Q q => h H1 e Q fun H2 e2 => q p xs H2 e2 ((e.trans e2) _ _ hp) (dpaM (e.trans e2) hd)
theorem fd_cat (ha : FD K ta σ H ds) (hb : FD K tb σ H es) (hl : ds.length + es.length ≤ 100000 := by exact Nat.le_of_ble_eq_true rfl) : FD K (tOp rCat ta tb) σ H (ds ++ es) := fun H1 e Q q =>
  ha H1 e _ fun a xs H2 e2 hx dx => hb H2 (e.trans e2) _ fun b zs H3 e3 hz dz => ⟨a, b, xs, zs, rfl, rfl, e3 _ _ hx, hz, sz_of (by rw [dpa_len dx, dpa_len dz]; exact hl), fun p hp =>
    q p _ _ (e2.trans (e3.trans (Ex.new hp))) upd_same (dpaM (Ex.new hp) (dpa_app2 (dpaM e3 dx) dz))⟩
theorem ed_fd (h : FD K te σ H ds) : Ed K te σ H (.list ds) := fun H1 e Q q => h H1 e Q fun p xs H2 e2 hp hd => q (.ref p) H2 e2 (.lst (sq_of hp) hd)
theorem q_asgFd {tz : TS} {D : Ends} {i : Nat} (h : FD K te σ H ds) (k : ∀ p xs H1, Ex H H1 → H1 p = some (.lst xs) → DpAll K H1 xs ds → tz D (σ.set i (some (.ref p))) H1) : tSeq (tAsg te (gName i)) tz D σ H := h H (Ex.refl H) _ k
/-- a dict of ints that the text shows -/
theorem disp4 {a b c d e f g h : Int} (n : (([(a, b), (c, d), (e, f), (g, h)] : List (Int × Int)).map Prod.fst).Nodup) (Q : VK) (q : ∀ p H1, Ex H H1 → H1 p = some (.dK (([(a, b), (c, d), (e, f), (g, h)] : List (Int × Int)).map kc)) → Q (.ref p) H1) :
    tDisp [(tC (.int a), tC (.int b)), (tC (.int c), tC (.int d)), (tC (.int e), tC (.int f)), (tC (.int g), tC (.int h))] σ H Q := fun p hp0 => by
  refine ⟨upd_same, [(a, b), (c, d), (e, f), (g, h)].map kc, rfl, (show 4 ≤ 15 by decide), ?_⟩
  rw [merge_kc n]
  exact q p _ (fun x o z => by
    have n := ne_of_none z hp0
    rw [upd_ne n, upd_ne n]
    exact z) upd_same
theorem pur_nil (hl : LotAt K C H a []) : Pur K C H a [] := ⟨hl, cts_nil, List.Pairwise.nil, rfl⟩
abbrev tLot0 (K : PySem.W.Frag) (C : Addr) : TE := tMakeR C (fun vs H Q E => spLotI K C (vs ++ [.non]) H Q E) E0 tNil
theorem q_lot {z : TS} {D : Ends} {i : Nat} {ps : List (Int × Int)} (h : ∀ Q : VK, (∀ p H1, Ex H H1 → H1 p = some (.dK (ps.map kc)) → Q (.ref p) H1) → te σ H Q) (hc : Cts ps) (k : ∀ a qs H', Ex H H' → qs.Perm ps → Asc qs → LotAt K C H' a qs → z D (σ.set i (some (.ref a))) H') :
    tSeq (tAsg (tMakeR C (spLotI K C) E0 (tCons te tNil)) (gName i)) z D σ H := lot_make h hc (fun x H1 => gName i x σ H1 (z D)) k
theorem call2_of {sp : Sp} {E : XK} {n : Int} {Pd : Addr → Hp → Prop} {Q : VK} (h : ∀ Q : VK, (∀ a H', Ex H H' → Pd a H' → Q (.ref a) H') → te σ H Q) (k : ∀ a H', Ex H H' → Pd a H' → sp [.ref a, .int n] H' Q E) : tCall sp [] E (tCons te (tCons (tC (.int n)) tNil)) σ H Q := h _ fun a H' e p => k a H' e p
theorem ed_can0 {n : Int} (hn : cntB n = true) : Ed K (tCall (spCan K C) [] E0 (tCons (tLot0 K C) (tCons (tC (.int n)) tNil))) σ H (.bool (decide (lck [] n = []) && decide (n ≤ tot []))) := fun H1 e Q q =>
  call2_of (Pd := fun a H' => LotAt K C H' a []) (fun Q q => lot_make0 (K := K) (C := C) Q q) fun a H' e' hl => ⟨a, n, [], rfl, pur_nil hl, hn, fun H2 e2 => q _ H2 (e'.trans e2) (.bl _)⟩
theorem ed_lck0 {n : Int} (hn : cntB n = true) : Ed K (tCall (spLck K C) [] E0 (tCons (tLot0 K C) (tCons (tC (.int n)) tNil))) σ H (.tuple ((lck [] n).map PyData.int)) := fun H1 e Q q =>
  call2_of (Pd := fun a H' => LotAt K C H' a []) (fun Q q => lot_make0 (K := K) (C := C) Q q) fun a H' e' hl => ⟨a, n, [], rfl, pur_nil hl, hn, fun t H2 e2 ht => q (.ref t) H2 (e'.trans e2) (.tup ht (dpa_ints _))⟩
theorem ed_canV {n : Int} {ps : List (Int × Int)} (h : Ev te σ H (.ref a)) (hp : Pur K C H a ps) (hn : cntB n = true) : Ed K (tCall (spCan K C) [] E0 (tCons te (tCons (tC (.int n)) tNil))) σ H (.bool (decide (lck ps n = []) && decide (n ≤ tot ps))) :=
  ed_bl (ev_call (vs := [.ref a, .int n]) (ea_cons h (ea_cons ev_c ea_nil)) (can_v hp hn))
theorem ed_lckV {n : Int} {ps : List (Int × Int)} (h : Ev te σ H (.ref a)) (hp : Pur K C H a ps) (hn : cntB n = true) : Ed K (tCall (spLck K C) [] E0 (tCons te (tCons (tC (.int n)) tNil))) σ H (.tuple ((lck ps n).map PyData.int)) :=
  ed_call (vs := [.ref a, .int n]) (ea_cons h (ea_cons ev_c ea_nil)) (lck_d hp hn)
end
end Ck

/-! the defs of a class, from what the top has written -/
namespace Ck
open PySem PySem.Spec PyProof.Rows L2 StX Evl
section
variable {K : PySem.W.Frag} {mg : Str → Option Value} {x qual : Str} {C f p g T : Addr} {st : Stmt} {ps : List Str} {oc kV dc pm cd ct oT : Value} {od an dT : Option Addr} {sl sT : Array (Option Value)} {nT : Nat} {rest : List Value}
theorem dpr_mk (a : PySem.W.findIn K (.ref C) x = some (some (.ref p))) (gt : PySem.W.specialIn K (.ref p) "__get__" = some (some (.builtin "property.__get__"))) (tk : PySem.W.takesIn K (.ref p) = some true) (rc : PySem.W.recIn K p "property" = some (.ref g :: rest))
    (l : K.lookup g = some ⟨oc, od, .func (PySem.W.fnOf x qual (defArgs st) (defBody st) (defScope st) .none kV dc pm an cd ct), sl⟩) (c : PySem.W.codeIn K cd qual = true) (k : PySem.W.keepIn K (.ref g) = true)
    (h : ∀ (kV doc pm : Value) (an : Option Addr) (cdv ct : Value) (us : List Value), us.length = (["self"] : List Str).length → bindArgs (PySem.W.fnOf x qual (defArgs st) (defBody st) (defScope st) .none kV doc pm an cdv ct) ⟨us, []⟩ = pure ((["self"] : List Str).zip us)) : Dpr K C x qual st :=
  ⟨p, g, _, ⟨a, gt, tk, rest, rc⟩, fun_mk l c k, (fun_mk (st := st) l c k).binds h⟩
theorem dop_mk (a : PySem.W.findIn K (.ref C) x = some (some (.ref g))) (i : PySem.W.isFn K (.ref g) = true) (fi : PySem.W.fnIn K g = true)
    (l : K.lookup g = some ⟨oc, od, .func (PySem.W.fnOf x qual (defArgs st) (defBody st) (defScope st) .none kV dc pm an cd ct), sl⟩) (c : PySem.W.codeIn K cd qual = true) (k : PySem.W.keepIn K (.ref g) = true)
    (h : ∀ (kV doc pm : Value) (an : Option Addr) (cdv ct : Value) (us : List Value), us.length = ps.length → bindArgs (PySem.W.fnOf x qual (defArgs st) (defBody st) (defScope st) .none kV doc pm an cdv ct) ⟨us, []⟩ = pure (ps.zip us)) : Dop K C x qual st ps :=
  ⟨g, _, a, i, fi, k, fun_mk l c k, (fun_mk (st := st) l c k).binds h⟩
theorem din_mk (gc : mg x = some (.ref C)) (mks : PySem.W.makesIn K C = true) (a : PySem.W.findIn K (.ref C) "__init__" = some (some (.ref f))) (i : PySem.W.isFn K (.ref f) = true) (kc : PySem.W.keepIn K (.ref C) = true)
    (l : K.lookup f = some ⟨oc, od, .func (PySem.W.fnOf "__init__" qual (defArgs st) (defBody st) (defScope st) (.ref T) kV dc pm an cd ct), sl⟩) (lT : K.lookup T = some ⟨oT, dT, .seq #[.none] nT, sT⟩) (c : PySem.W.codeIn K cd qual = true) (k : PySem.W.keepIn K (.ref f) = true) (h2 : ps.length = 2)
    (b2 : ∀ (T : Addr) (kV doc pm : Value) (an : Option Addr) (cdv ct : Value) (us its : List Value), us.length = 2 → its.length = 1 →
      ∃ k, bindArgs (PySem.W.fnOf "__init__" qual (defArgs st) (defBody st) (defScope st) (.ref T) kV doc pm an cdv ct) ⟨us, []⟩ = seqItems? (.ref T) >>= k ∧ k (some its.toArray) = pure (ps.zip (us ++ its.drop 1)))
    (b1 : ∀ (T : Addr) (kV doc pm : Value) (an : Option Addr) (cdv ct : Value) (us its : List Value), us.length = 1 → its.length = 1 →
      ∃ k, bindArgs (PySem.W.fnOf "__init__" qual (defArgs st) (defBody st) (defScope st) (.ref T) kV doc pm an cdv ct) ⟨us, []⟩ = seqItems? (.ref T) >>= k ∧ k (some its.toArray) = pure (ps.zip (us ++ its.drop 0))) : Din K mg x C qual st ps := by
  have F : FunD K "__init__" qual (defArgs st) (defBody st) (defScope st) [V.non] [] f (PySem.W.fnOf "__init__" qual (defArgs st) (defBody st) (defScope st) (.ref T) kV dc pm an cd ct) :=
    ⟨⟨oc, od, .ref T, kV, dc, pm, an, cd, ct, sl, rfl, l, c, .inr ⟨List.cons_ne_nil _ _, T, _, [.none], nT, rfl, lT, rfl, .cons rfl .nil⟩, .inl rfl⟩, k⟩
  refine ⟨f, _, ⟨mks, a, i, kc⟩, gc, F, ?_, F.binds1 1 0 (List.cons_ne_nil _ _) (by rw [h2]; rfl) b1⟩
  obtain ⟨ds, v, b⟩ := F.binds1 2 1 (List.cons_ne_nil _ _) (by rw [h2]; rfl) b2
  cases v
  exact b
end
end Ck

/-! the amounts of a purse in order: how many are less than a bound, and which one has an index -/
namespace Ck
open PySem PySem.Spec PyProof.Rows L2 Evl
/-! ### how often something holds below a bound -/
def cn (P : Nat → Bool) : Nat → Nat
  | 0 => 0
  | b + 1 => cn P b + (P b).toNat
theorem cn_add (P : Nat → Bool) (a : Nat) : ∀ b, cn P (a + b) = cn P a + cn (fun n => P (a + n)) b
  | 0 => rfl
  | b + 1 => by
    show cn P (a + b) + (P (a + b)).toNat = cn P a + (cn (fun n => P (a + n)) b + (P (a + b)).toNat)
    rw [cn_add P a b, Nat.add_assoc]
theorem cn_congr {P Q : Nat → Bool} : ∀ {b : Nat}, (∀ n, n < b → P n = Q n) → cn P b = cn Q b
  | 0, _ => rfl
  | b + 1, h => by
    show cn P b + (P b).toNat = cn Q b + (Q b).toNat
    rw [cn_congr (b := b) fun n hn => h n (Nat.lt_succ_of_lt hn), h b (Nat.lt_succ_self b)]
theorem cn_per {P : Nat → Bool} {s : Nat} (h : ∀ n, P (s + n) = P n) (r : Nat) : ∀ q, cn P (q * s + r) = q * cn P s + cn P r
  | 0 => by rw [Nat.zero_mul, Nat.zero_mul, Nat.zero_add, Nat.zero_add]
  | q + 1 => by
    rw [show (q + 1) * s + r = s + (q * s + r) by rw [Nat.succ_mul]; omega, cn_add, show (fun n => P (s + n)) = P from funext h, cn_per h r q, Nat.succ_mul]
    omega
theorem cn_cut (Q : Nat → Bool) (l : Nat) : ∀ b, cn (fun n => Q n && decide (n < l)) b = cn Q (min b l)
  | 0 => by
    rw [Nat.zero_min]
    rfl
  | b + 1 => by
    show cn (fun n => Q n && decide (n < l)) b + (Q b && decide (b < l)).toNat = _
    rw [cn_cut Q l b]
    by_cases h : b < l
    · rw [decide_eq_true h, Bool.and_true, Nat.min_eq_left (Nat.le_of_lt h), Nat.min_eq_left (show b + 1 ≤ l from h)]
      rfl
    · rw [decide_eq_false h, Bool.and_false, Nat.min_eq_right (Nat.le_of_not_lt h), Nat.min_eq_right (show l ≤ b + 1 by omega)]
      rfl
theorem cn_mono (P : Nat → Bool) {a b : Nat} (h : a ≤ b) : cn P a ≤ cn P b := by
  obtain ⟨c, rfl⟩ := Nat.le.dest h
  rw [cn_add]
  exact Nat.le_add_right _ _
theorem cn_lt {P : Nat → Bool} {a b : Nat} (h : cn P a < cn P b) : a < b := Nat.lt_of_not_le fun z => absurd (cn_mono P z) (Nat.not_le_of_lt h)
theorem cn_le (P : Nat → Bool) : ∀ b, cn P b ≤ b
  | 0 => Nat.le_refl 0
  | b + 1 => by
    have := cn_le P b
    show cn P b + (P b).toNat ≤ b + 1
    cases P b <;> simp <;> omega
/-- the numbers below a bound of which it holds -/
abbrev lsN (P : Nat → Bool) (b : Nat) : List Nat := (List.range b).filter P
theorem lsN_succ (P : Nat → Bool) (b : Nat) : lsN P (b + 1) = lsN P b ++ if P b = true then [b] else [] := by
  unfold lsN
  rw [List.range_succ, List.filter_append, List.filter_cons]
  rfl
theorem lsN_len (P : Nat → Bool) : ∀ b, (lsN P b).length = cn P b
  | 0 => rfl
  | b + 1 => by
    rw [lsN_succ, List.length_append, lsN_len P b]
    show _ = cn P b + (P b).toNat
    cases P b <;> rfl
theorem lsN_at (P : Nat → Bool) {n : Nat} (hn : P n = true) : ∀ b, n < b → (lsN P b)[cn P n]? = some n
  | b + 1, h => by
    rw [lsN_succ]
    by_cases e : n = b
    · subst e
      rw [if_pos hn, List.getElem?_append_right (Nat.le_of_eq (lsN_len P n)), lsN_len, Nat.sub_self]
      rfl
    · have ih := lsN_at P hn b (by omega)
      obtain ⟨hl, _⟩ := List.getElem?_eq_some_iff.mp ih
      rw [List.getElem?_append_left hl]
      exact ih
theorem cn_same {P M : Nat → Bool} (h : ∀ n, P n = true → M n = true) : ∀ {b : Nat}, cn P b ≤ cn M b ∧ (cn P b = cn M b → ∀ n, n < b → P n = M n)
  | 0 => ⟨Nat.le_refl 0, fun _ n hn => absurd hn (Nat.not_lt_zero n)⟩
  | b + 1 => by
    obtain ⟨h1, h2⟩ := cn_same (P := P) (M := M) h (b := b)
    have hb := h b
    constructor
    · show cn P b + (P b).toNat ≤ cn M b + (M b).toNat
      cases hp : P b with
      | false => simp; omega
      | true => rw [hb hp]; omega
    · intro e n hn
      have e : cn P b + (P b).toNat = cn M b + (M b).toNat := e
      have pm : P b = M b := by
        cases hp : P b with
        | true => rw [hb hp]
        | false =>
          cases hm : M b with
          | false => rfl
          | true =>
            rw [hp, hm] at e
            simp at e
            omega
      by_cases z : n = b
      · rw [z, pm]
      · exact h2 (by rw [pm] at e; omega) n (by omega)
/-! ### steps -/
/-- how many are below a bound, by the steps from the greatest -/
def belowR : List (Int × Int × Int) → Int → Int
  | [], left => left
  | t :: r, left => left / t.1 * t.2.2 + belowR r (min (left % t.1) t.2.1)
/-- which amount has an index -/
def atR : List (Int × Int × Int) → Int → Int
  | [], _ => 0
  | t :: r, left => left / t.2.2 * t.1 + atR r (left % t.2.2)
/-- the steps from the greatest, of pairs from the greatest -/
def stR : List (Int × Int) → List (Int × Int × Int)
  | [] => []
  | p :: r => (p.1, tot r + 1, belowR (stR r) (min p.1 (tot r + 1))) :: stR r
/-- what smaller coins come to is no bar -/
def okB (us : List (Int × Int)) (n : Int) : Bool := us.all fun p => decide (n % p.1 ≤ sml us p.1)
abbrev okN (us : List (Int × Int)) : Nat → Bool := fun n => okB us (n : Int)
theorem okB_iff (us : List (Int × Int)) (n : Int) : okB us n = true ↔ ∀ p ∈ us, n % p.1 ≤ sml us p.1 := by
  unfold okB
  rw [List.all_eq_true]
  exact ⟨fun h p hp => of_decide_eq_true (h p hp), fun h p hp => decide_eq_true (h p hp)⟩
theorem bool_iff {a b : Bool} (h : a = true ↔ b = true) : a = b := by
  cases a <;> cases b <;> simp at h <;> rfl
section
variable {us : List (Int × Int)} {p : Int × Int}
theorem tot_nn (h : Prs2 us) : 0 ≤ tot us := by
  induction h with
  | nil => exact Int.le_refl 0
  | @snoc qs p h d c lt dv ih =>
    rw [tot_app, tot_one]
    have := Int.mul_nonneg (Int.le_of_lt d) (Int.le_of_lt c)
    omega
theorem sml_snoc (lt : ∀ q ∈ us, q.1 < p.1) : (∀ q ∈ us, sml (us ++ [p]) q.1 = sml us q.1) ∧ sml (us ++ [p]) p.1 = tot us := by
  refine ⟨fun q hq => ?_, ?_⟩
  · rw [sml_app, sml_none (qs := [p]) (fun r hr => by rw [List.mem_singleton.mp hr]; exact Int.le_of_lt (lt q hq)), Int.add_zero]
  · rw [sml_app, sml_all lt, sml_none (qs := [p]) (fun r hr => by rw [List.mem_singleton.mp hr]; exact Int.le_refl _), Int.add_zero]
theorem okB_snoc (lt : ∀ q ∈ us, q.1 < p.1) (n : Int) : okB (us ++ [p]) n = (okB us n && decide (n % p.1 ≤ tot us)) := by
  obtain ⟨s1, s2⟩ := sml_snoc lt
  refine bool_iff ?_
  rw [Bool.and_eq_true, decide_eq_true_eq, okB_iff, okB_iff]
  constructor
  · intro h
    refine ⟨fun q hq => ?_, ?_⟩
    · rw [← s1 q hq]
      exact h q (List.mem_append_left _ hq)
    · rw [← s2]
      exact h p (List.mem_append_right _ (List.mem_singleton.mpr rfl))
  · rintro ⟨h1, h2⟩ q hq
    rcases List.mem_append.mp hq with m | m
    · rw [s1 q m]
      exact h1 q m
    · rw [List.mem_singleton.mp m, s2]
      exact h2
theorem okB_per {s : Int} (dv : ∀ q ∈ us, q.1 ∣ s) (n k : Int) : okB us (n + s * k) = okB us n := by
  refine bool_iff ?_
  rw [okB_iff, okB_iff]
  have e : ∀ q ∈ us, (n + s * k) % q.1 = n % q.1 := fun q hq => by
    obtain ⟨t, rfl⟩ := dv q hq
    rw [Int.mul_assoc, Int.add_mul_emod_self_left]
  constructor
  · intro h q hq
    rw [← e q hq]
    exact h q hq
  · intro h q hq
    rw [e q hq]
    exact h q hq
theorem okB_0 (h : Prs2 us) : okB us 0 = true := by
  rw [okB_iff]
  intro p hp
  rw [Int.zero_emod]
  have : ∀ {a : List (Int × Int)}, (∀ q ∈ a, 0 ≤ q.1 * q.2) → 0 ≤ tot a := fun {a} => by
    induction a with
    | nil => exact fun _ => Int.le_refl 0
    | cons x t ih =>
      intro h
      have e : tot (x :: t) = x.1 * x.2 + tot t := by unfold tot; rw [List.map_cons, List.sum_cons]
      have h1 := ih fun q hq => h q (List.mem_cons_of_mem _ hq)
      have h2 := h x List.mem_cons_self
      omega
  have pos : ∀ q ∈ us, 0 ≤ q.1 * q.2 := by
    clear hp
    induction h with
    | nil => exact fun q hq => nomatch hq
    | snoc h d c lt dv ih =>
      intro q hq
      rcases List.mem_append.mp hq with m | m
      · exact ih q m
      · rw [List.mem_singleton.mp m]
        exact Int.mul_nonneg (Int.le_of_lt d) (Int.le_of_lt c)
  exact this fun q hq => pos q (List.mem_filter.mp hq).1
/-- one more size: the count by blocks -/
theorem cn_snoc (h : Prs2 us) (d : 0 < p.1) (lt : ∀ q ∈ us, q.1 < p.1) (dv : ∀ q ∈ us, q.1 ∣ p.1) (b : Nat) :
    cn (okN (us ++ [p])) b = b / p.1.toNat * cn (okN us) (min p.1.toNat (tot us + 1).toNat) + cn (okN us) (min (b % p.1.toNat) (tot us + 1).toNat) := by
  have t0 := tot_nn h
  have s0 : 0 < p.1.toNat := by omega
  have es : ((p.1.toNat : Nat) : Int) = p.1 := Int.toNat_of_nonneg (Int.le_of_lt d)
  have dv2 : ∀ q ∈ us ++ [p], q.1 ∣ p.1 := fun q hq => by
    rcases List.mem_append.mp hq with m | m
    · exact dv q m
    · rw [List.mem_singleton.mp m]
      exact Int.dvd_refl _
  have per : ∀ n, okN (us ++ [p]) (p.1.toNat + n) = okN (us ++ [p]) n := fun n => by
    show okB (us ++ [p]) ((p.1.toNat + n : Nat) : Int) = _
    rw [Int.natCast_add, es, Int.add_comm, show ((n : Int) + p.1) = (n : Int) + p.1 * 1 by rw [Int.mul_one], okB_per dv2]
  have small : ∀ n, n < p.1.toNat → okN (us ++ [p]) n = (okN us n && decide (n < (tot us + 1).toNat)) := fun n hn => by
    show okB (us ++ [p]) (n : Int) = _
    rw [okB_snoc lt, Int.emod_eq_of_lt (by omega) (by omega)]
    congr 1
    exact decide_eq_decide.mpr (by omega)
  have e : b = b / p.1.toNat * p.1.toNat + b % p.1.toNat := by
    have := Nat.div_add_mod b p.1.toNat
    rw [Nat.mul_comm] at this
    exact this.symm
  have m := Nat.mod_lt b s0
  conv => lhs; rw [e]
  rw [cn_per per, cn_congr (b := p.1.toNat) small, cn_congr (b := b % p.1.toNat) fun n hn => small n (by omega), cn_cut, cn_cut]
theorem toNat_min (a b : Int) : (min a b).toNat = min a.toNat b.toNat := by omega
/-- the steps count -/
theorem below_cn : ∀ (k : Nat) (us : List (Int × Int)), us.length = k → Prs2 us → ∀ b : Int, 0 ≤ b → belowR (stR us.reverse) b = (cn (okN us) b.toNat : Int) := by
  intro k us hk h
  clear hk
  induction h with
  | nil =>
    intro b hb
    show b = _
    have : ∀ n, cn (okN []) n = n := fun n => by
      induction n with
      | zero => rfl
      | succ n ih =>
        show cn (okN []) n + 1 = n + 1
        rw [ih]
    rw [this]
    omega
  | @snoc qs p h d c lt dv ih =>
    intro b hb
    have t0 := tot_nn h
    have er : (qs ++ [p]).reverse = p :: qs.reverse := by rw [List.reverse_append]; rfl
    have et : tot qs.reverse = tot qs := tot_perm (List.reverse_perm qs)
    rw [er]
    show b / p.1 * belowR (stR qs.reverse) (min p.1 (tot qs.reverse + 1)) + belowR (stR qs.reverse) (min (b % p.1) (tot qs.reverse + 1)) = _
    have md := Int.emod_nonneg b (by omega : p.1 ≠ 0)
    rw [et, ih _ (by omega), ih _ (by omega), cn_snoc h d lt dv, toNat_min, toNat_min]
    have es : ((p.1.toNat : Nat) : Int) = p.1 := Int.toNat_of_nonneg (Int.le_of_lt d)
    have eb : ((b.toNat : Nat) : Int) = b := Int.toNat_of_nonneg hb
    have e1 : ((b.toNat / p.1.toNat : Nat) : Int) = b / p.1 := by rw [Int.natCast_ediv, es, eb]
    have e2 : (b % p.1).toNat = b.toNat % p.1.toNat := by
      have : ((b.toNat % p.1.toNat : Nat) : Int) = b % p.1 := by rw [Int.natCast_emod, es, eb]
      omega
    rw [Int.natCast_add, Int.natCast_mul, e1, e2]
/-- there is at least one below each step -/
theorem many_pos (h : Prs2 us) (d : 0 < p.1) : 0 < cn (okN us) (min p.1.toNat (tot us + 1).toNat) := by
  have t0 := tot_nn h
  have : cn (okN us) 1 ≤ cn (okN us) (min p.1.toNat (tot us + 1).toNat) := cn_mono _ (by omega)
  have e : cn (okN us) 1 = 1 := by
    show 0 + (okB us ((0 : Nat) : Int)).toNat = 1
    rw [show ((0 : Nat) : Int) = 0 from rfl, okB_0 h]
    rfl
  omega
/-- the amount with an index -/
theorem at_cn (h : Prs2 us) : ∀ x : Int, 0 ≤ x → (us = [] → x = 0) → 0 ≤ atR (stR us.reverse) x ∧ okB us (atR (stR us.reverse) x) = true ∧ (cn (okN us) (atR (stR us.reverse) x).toNat : Int) = x := by
  induction h with
  | nil =>
    intro x hx h0
    rw [h0 rfl]
    exact ⟨Int.le_refl 0, rfl, rfl⟩
  | @snoc qs p h d c lt dv ih =>
    intro x hx _
    have t0 := tot_nn h
    have er : (qs ++ [p]).reverse = p :: qs.reverse := by rw [List.reverse_append]; rfl
    have et : tot qs.reverse = tot qs := tot_perm (List.reverse_perm qs)
    have mp := many_pos (p := p) h d
    have em : belowR (stR qs.reverse) (min p.1 (tot qs.reverse + 1)) = ((cn (okN qs) (min p.1.toNat (tot qs + 1).toNat) : Nat) : Int) := by
      rw [et, below_cn _ _ rfl h _ (by omega), toNat_min]
    rw [er]
    have ea : atR (stR (p :: qs.reverse)) x = x / ((cn (okN qs) (min p.1.toNat (tot qs + 1).toNat) : Nat) : Int) * p.1 + atR (stR qs.reverse) (x % ((cn (okN qs) (min p.1.toNat (tot qs + 1).toNat) : Nat) : Int)) := by
      rw [← em]
      rfl
    rw [ea]
    generalize hm : cn (okN qs) (min p.1.toNat (tot qs + 1).toNat) = m at mp ea em
    have y0 := Int.emod_nonneg x (show (m : Int) ≠ 0 by omega)
    have y1 := Int.emod_lt_of_pos x (show (0 : Int) < m by omega)
    have qd := Int.mul_ediv_add_emod x (m : Int)
    have q0 := Int.ediv_nonneg hx (show (0 : Int) ≤ m by omega)
    obtain ⟨i0, i1, i2⟩ := ih (x % m) y0 (fun e => by
      have m1 : m ≤ 1 := by
        rw [← hm, e]
        refine Nat.le_trans (cn_le _ _) ?_
        show min p.1.toNat ((0 : Int) + 1).toNat ≤ 1
        omega
      omega)
    generalize atR (stR qs.reverse) (x % m) = n at i0 i1 i2
    have lt2 : n.toNat < min p.1.toNat (tot qs + 1).toNat := cn_lt (P := okN qs) (by rw [hm]; omega)
    have n1 : n < p.1 := by omega
    have n2 : n ≤ tot qs := by omega
    have pk := Int.mul_nonneg q0 (Int.le_of_lt d)
    have dv2 : ∀ q ∈ qs ++ [p], q.1 ∣ p.1 := fun q hq => by
      rcases List.mem_append.mp hq with z | z
      · exact dv q z
      · rw [List.mem_singleton.mp z]
        exact Int.dvd_refl _
    refine ⟨by omega, ?_, ?_⟩
    · rw [show x / (m : Int) * p.1 + n = n + p.1 * (x / (m : Int)) by rw [Int.mul_comm, Int.add_comm], okB_per dv2, okB_snoc lt, i1, Int.emod_eq_of_lt i0 n1, decide_eq_true n2]
      rfl
    · rw [cn_snoc h d lt dv, hm]
      have es : ((p.1.toNat : Nat) : Int) = p.1 := Int.toNat_of_nonneg (Int.le_of_lt d)
      have eN : (x / (m : Int) * p.1 + n).toNat = (x / (m : Int)).toNat * p.1.toNat + n.toNat := by
        rw [Int.toNat_add pk i0, Int.toNat_mul q0 (Int.le_of_lt d)]
      have s0 : 0 < p.1.toNat := by omega
      have a1 : ((x / (m : Int)).toNat * p.1.toNat + n.toNat) / p.1.toNat = (x / (m : Int)).toNat := by
        rw [Nat.add_comm, Nat.add_mul_div_right _ _ s0, Nat.div_eq_of_lt (by omega), Nat.zero_add]
      have a2 : ((x / (m : Int)).toNat * p.1.toNat + n.toNat) % p.1.toNat = n.toNat := by
        rw [Nat.add_comm, Nat.add_mul_mod_self_right, Nat.mod_eq_of_lt (by omega)]
      rw [eN, a1, a2, Nat.min_eq_left (show n.toNat ≤ (tot qs + 1).toNat by omega), Int.natCast_add, Int.natCast_mul, i2, Int.toNat_of_nonneg q0, Int.mul_comm]
      exact qd
end
end Ck

/-! the sorted totals of all parts of a purse -/
namespace Ck
open PySem PySem.Spec PyProof.Rows L2 Evl
theorem Prs2.cnts {qs : List (Int × Int)} (h : Prs2 qs) : ∀ p ∈ qs, 0 < p.1 ∧ 0 < p.2 := by
  induction h with
  | nil => exact fun q hq => nomatch hq
  | snoc h d c lt dv ih =>
    intro q hq
    rcases List.mem_append.mp hq with m | m
    · exact ih q m
    · rw [List.mem_singleton.mp m]
      exact ⟨d, c⟩
theorem pay_ok {qs : List (Int × Int)} (n : Int) : Pay qs n ↔ 0 ≤ n ∧ n ≤ tot qs ∧ okB qs n = true := by
  unfold Pay
  rw [okB_iff]
/-- the total can be paid -/
theorem ok_tot_ {qs : List (Int × Int)} (h : Prs2 qs) : okB qs (tot qs) = true := by
  induction h with
  | nil => rfl
  | @snoc qs p h d c lt dv ih =>
    have t0 := tot_nn h
    rw [okB_snoc lt, tot_app, tot_one, okB_per dv, ih, Int.add_mul_emod_self_left]
    have z1 := Int.mul_ediv_add_emod (tot qs) p.1
    have z2 := Int.mul_nonneg (Int.le_of_lt d) (Int.ediv_nonneg t0 (Int.le_of_lt d))
    exact decide_eq_true (by omega)
def tots (qs : List (Int × Int)) : List Int := (lsN (okN qs) (tot qs + 1).toNat).map fun n : Nat => (n : Int)
theorem tots_asc (qs : List (Int × Int)) : (tots qs).Pairwise (· < ·) := by
  unfold tots
  rw [List.pairwise_map]
  exact (List.Pairwise.filter _ List.pairwise_lt_range).imp fun h => by omega
theorem tots_iff {qs : List (Int × Int)} (h : Prs2 qs) (n : Int) : n ∈ tots qs ↔ Pay qs n := by
  rw [pay_ok]
  unfold tots
  have t0 := tot_nn h
  rw [List.mem_map]
  constructor
  · rintro ⟨m, hm, rfl⟩
    obtain ⟨m1, m2⟩ := List.mem_filter.mp hm
    have := List.mem_range.mp m1
    exact ⟨by omega, by omega, m2⟩
  · rintro ⟨h0, h1, h2⟩
    refine ⟨n.toNat, List.mem_filter.mpr ⟨List.mem_range.mpr (by omega), ?_⟩, Int.toNat_of_nonneg h0⟩
    show okB qs (n.toNat : Int) = true
    rw [Int.toNat_of_nonneg h0]
    exact h2
theorem tots_mem {qs : List (Int × Int)} (h : Prs2 qs) (n : Int) : n ∈ tots qs ↔ n ∈ (partsOf qs).map tot := by
  rw [tots_iff h]
  exact (is_pay h n).symm.trans List.mem_map.symm
theorem tots_len {qs : List (Int × Int)} (h : Prs2 qs) : ((tots qs).length : Int) = belowR (stR qs.reverse) (tot qs + 1) := by
  have t0 := tot_nn h
  unfold tots
  rw [List.length_map, lsN_len, below_cn _ _ rfl h _ (by omega)]
theorem tots_at {qs : List (Int × Int)} (h : Prs2 qs) {i : Nat} (hi : i < (tots qs).length) : (tots qs)[i]? = some (atR (stR qs.reverse) i) := by
  have t0 := tot_nn h
  have hi2 : i < cn (okN qs) (tot qs + 1).toNat := by
    unfold tots at hi
    rw [List.length_map, lsN_len] at hi
    exact hi
  obtain ⟨a0, a1, a2⟩ := at_cn h (i : Int) (by omega) (fun e => by
    subst e
    have : cn (okN []) (tot [] + 1).toNat ≤ 1 := cn_le _ _
    omega)
  generalize atR (stR qs.reverse) (i : Int) = n at a0 a1 a2
  have en : ((n.toNat : Nat) : Int) = n := Int.toNat_of_nonneg a0
  have lt : n.toNat < (tot qs + 1).toNat := cn_lt (P := okN qs) (by omega)
  have z := lsN_at (okN qs) (n := n.toNat) (by show okB qs (n.toNat : Int) = true; rw [en]; exact a1) _ lt
  unfold tots
  rw [List.getElem?_map, show i = cn (okN qs) n.toNat by omega, z]
  show some ((n.toNat : Nat) : Int) = _
  rw [en]
theorem tots_last {qs : List (Int × Int)} (h : Prs2 qs) : ∃ r, tots qs = r ++ [tot qs] := by
  have t0 := tot_nn h
  unfold tots
  refine ⟨(lsN (okN qs) (tot qs).toNat).map fun n : Nat => (n : Int), ?_⟩
  have et : ((tot qs).toNat : Int) = tot qs := Int.toNat_of_nonneg t0
  rw [show (tot qs + 1).toNat = (tot qs).toNat + 1 by omega, lsN_succ, if_pos (by show okB qs ((tot qs).toNat : Int) = true; rw [et]; exact ok_tot_ h), List.map_append]
  show _ ++ [((tot qs).toNat : Int)] = _
  rw [et]
theorem tots_ne {qs : List (Int × Int)} (h : Prs2 qs) : 0 < (tots qs).length := by
  obtain ⟨r, e⟩ := tots_last h
  rw [e, List.length_append]
  exact Nat.succ_pos _
/-- how many are less than an amount, one amount on -/
theorem tots_under {qs : List (Int × Int)} (h : Prs2 qs) (a : Nat) :
    cn (okN qs) (min (a + 1) (tot qs + 1).toNat) = cn (okN qs) (min a (tot qs + 1).toNat) + (decide (cn (okN qs) (min a (tot qs + 1).toNat) < (tots qs).length) && decide ((tots qs).getD (cn (okN qs) (min a (tot qs + 1).toNat)) 0 = (a : Int))).toNat ∧
    (cn (okN qs) (min a (tot qs + 1).toNat) < (tots qs).length → (tots qs)[cn (okN qs) (min a (tot qs + 1).toNat)]? = some ((tots qs).getD (cn (okN qs) (min a (tot qs + 1).toNat)) 0)) := by
  have t0 := tot_nn h
  have hl : (tots qs).length = cn (okN qs) (tot qs + 1).toNat := by
    unfold tots
    rw [List.length_map, lsN_len]
  refine ⟨?_, fun z => by rw [List.getD_eq_getElem?_getD, List.getElem?_eq_getElem z]; rfl⟩
  by_cases hb : a < (tot qs + 1).toNat
  · rw [Nat.min_eq_left (show a + 1 ≤ _ from hb), Nat.min_eq_left (Nat.le_of_lt hb)]
    show cn (okN qs) a + (okN qs a).toNat = _
    congr 2
    by_cases hp : okN qs a = true
    · have z := lsN_at (okN qs) hp _ hb
      have z2 : (tots qs)[cn (okN qs) a]? = some (a : Int) := by
        unfold tots
        rw [List.getElem?_map, z]
        rfl
      obtain ⟨l1, _⟩ := List.getElem?_eq_some_iff.mp z2
      rw [hp, decide_eq_true l1, List.getD_eq_getElem?_getD, z2]
      exact (decide_eq_true rfl).symm
    · rw [Bool.eq_false_iff.mpr hp]
      by_cases l1 : cn (okN qs) a < (tots qs).length
      · have no : ¬ (tots qs).getD (cn (okN qs) a) 0 = (a : Int) := fun e => by
          rw [List.getD_eq_getElem?_getD, List.getElem?_eq_getElem l1] at e
          have m : (a : Int) ∈ tots qs := by
            have := List.getElem_mem l1
            rw [show (tots qs)[cn (okN qs) a] = (a : Int) from e] at this
            exact this
          exact hp ((pay_ok _).mp ((tots_iff h _).mp m)).2.2
        rw [decide_eq_false no, Bool.and_false]
      · rw [decide_eq_false l1]
        rfl
  · rw [Nat.min_eq_right (by omega), Nat.min_eq_right (by omega), ← hl, decide_eq_false (Nat.lt_irrefl _)]
    rfl
/-- the multiples of a size -/
def mults (s : Int) (k : Nat) : List Int := (List.range k).map fun j : Nat => (j : Int) * s
theorem mults_asc {s : Int} (hs : 0 < s) (k : Nat) : (mults s k).Pairwise (· < ·) := by
  unfold mults
  rw [List.pairwise_map]
  exact List.pairwise_lt_range.imp fun {a b} h => Int.mul_lt_mul_of_pos_right (by omega) hs
theorem gapless {p : Int × Int} {r : List (Int × Int)} (h : Prs2 (p :: r)) (ha : Asc (p :: r)) :
    decide (tots (p :: r) = mults p.1 (tot (p :: r) / p.1 + 1).toNat) = decide (belowR (stR (p :: r).reverse) (tot (p :: r) + 1) = tot (p :: r) / p.1 + 1) := by
  have t0 := tot_nn h
  have hs := (h.cnts p List.mem_cons_self).1
  have q0 := Int.ediv_nonneg t0 (Int.le_of_lt hs)
  rw [← tots_len h]
  refine decide_eq_decide.mpr ⟨fun e => ?_, fun e => ?_⟩
  · rw [e]
    unfold mults
    rw [List.length_map, List.length_range]
    omega
  · -- both are what is below the bound
    have lo : ∀ q ∈ p :: r, p.1 ≤ q.1 := fun q hq => by
      rcases List.mem_cons.mp hq with rfl | m
      · exact Int.le_refl _
      · exact Int.le_of_lt ((List.pairwise_cons.mp ha).1 q.1 (List.mem_map_of_mem m))
    have s0 : sml (p :: r) p.1 = 0 := sml_none lo
    let M : Nat → Bool := fun n => decide ((n : Int) % p.1 = 0)
    have PM : ∀ n, okN (p :: r) n = true → M n = true := fun n hn => by
      have := (okB_iff _ _).mp hn p List.mem_cons_self
      rw [s0] at this
      have := Int.emod_nonneg (n : Int) (by omega : p.1 ≠ 0)
      exact decide_eq_true (by omega)
    have em : (lsN M (tot (p :: r) + 1).toNat).map (fun n : Nat => (n : Int)) = mults p.1 (tot (p :: r) / p.1 + 1).toNat := by
      refine sorted_one ?_ (mults_asc hs _) fun n => ?_
      · rw [List.pairwise_map]
        exact (List.Pairwise.filter _ List.pairwise_lt_range).imp fun h => by omega
      · unfold mults
        rw [List.mem_map, List.mem_map]
        constructor
        · rintro ⟨m, hm, rfl⟩
          obtain ⟨m1, m2⟩ := List.mem_filter.mp hm
          have m1 := List.mem_range.mp m1
          have m2 : (m : Int) % p.1 = 0 := of_decide_eq_true m2
          have z := Int.mul_ediv_add_emod (m : Int) p.1
          have z0 := Int.ediv_nonneg (show (0 : Int) ≤ m by omega) (Int.le_of_lt hs)
          have z1 : (m : Int) / p.1 ≤ tot (p :: r) / p.1 := Int.ediv_le_ediv hs (by omega)
          refine ⟨((m : Int) / p.1).toNat, List.mem_range.mpr (by omega), ?_⟩
          rw [Int.toNat_of_nonneg z0, Int.mul_comm]
          omega
        · rintro ⟨j, hj, rfl⟩
          have hj := List.mem_range.mp hj
          have z1 : (j : Int) * p.1 ≤ tot (p :: r) / p.1 * p.1 := Int.mul_le_mul_of_nonneg_right (by omega) (Int.le_of_lt hs)
          have z2 := Int.mul_ediv_add_emod (tot (p :: r)) p.1
          have z3 := Int.emod_nonneg (tot (p :: r)) (by omega : p.1 ≠ 0)
          rw [Int.mul_comm (tot (p :: r) / p.1)] at z1
          have z4 := Int.mul_nonneg (show (0 : Int) ≤ j by omega) (Int.le_of_lt hs)
          refine ⟨((j : Int) * p.1).toNat, List.mem_filter.mpr ⟨List.mem_range.mpr (by omega), ?_⟩, Int.toNat_of_nonneg z4⟩
          show decide ((((j : Int) * p.1).toNat : Int) % p.1 = 0) = true
          rw [Int.toNat_of_nonneg z4, Int.mul_emod_left]
          exact decide_eq_true rfl
    have ec : cn (okN (p :: r)) (tot (p :: r) + 1).toNat = cn M (tot (p :: r) + 1).toNat := by
      have l1 : (tots (p :: r)).length = cn (okN (p :: r)) (tot (p :: r) + 1).toNat := by
        unfold tots
        rw [List.length_map, lsN_len]
      have l2 : (mults p.1 (tot (p :: r) / p.1 + 1).toNat).length = cn M (tot (p :: r) + 1).toNat := by rw [← em, List.length_map, lsN_len]
      have l3 : (mults p.1 (tot (p :: r) / p.1 + 1).toNat).length = (tot (p :: r) / p.1 + 1).toNat := by
        unfold mults
        rw [List.length_map, List.length_range]
      omega
    have same := (cn_same PM).2 ec
    rw [← em]
    unfold tots lsN
    rw [List.filter_congr (fun n hn => same n (List.mem_range.mp hn))]
end Ck

/-! sorted(set(l)) of up to some thousand ints; len(o) with an own __len__; d != {} -/
namespace Ck
open PySem PySem.Spec PyProof.Rows L2
section
variable {P : Program} {w : World} {A : Around} {E : Value → Shared → Prop} {s : Shared} {a : Addr}
theorem sorted_setI {S : Int → Bool} {n : Nat} {Q : Value → Shared → Prop} (R : SetR w s.heap a S n) (hh : A.handled = none)
    (hQ : ∀ s' p (out : Array Value) (c : Nat) (ns : List Int), (∀ b o, s.heap.get? b = some o → s'.heap.get? b = some o) → s'.gens = s.gens → s'.os = s.os → s.heap.objs.size ≤ p →
      s'.heap.get? p = some (seqObj "list" out c) → IntsAre out.toList ns → ns.Pairwise (· < ·) → (∀ k, k ∈ ns ↔ S k = true) → ns.length = n → Q (.ref p) s') :
    wpAny (model P w) A (call (.builtin "sorted") [.ref a]) Q E s := by
  obtain ⟨o, es, ep, t, ho, hex, hd, g, nd, hm, hb, hf, hn, hr, hl⟩ := R
  have hn2 : n < 4096 := by
    rw [← hn]
    exact hb
  refine Calls.call_function_entry kind_sorted plain_sorted entry_sorted (args_sorted1 _) ?_
  unfold Builtin.«sorted»
  refine wpAny_bind (m := checkCount "sorted" 1 1 _) (wpAny_pure ?_)
  refine wpAny_bind (collect_set (A := A.in1) hh ⟨o, ho, hex.1, hd⟩ hf hb hr hl fun s1 vs k1 hz g1 o1 pm => ?_)
  have hvl : vs.length = n := by rw [pm.length_eq, List.length_map, Array.length_toList]; exact hn
  have hI : IntsAre vs (vs.map Builtin.Re.reRawOf) := ints_of vs fun v hv => by
    obtain ⟨e, he, q⟩ := List.mem_map.mp (pm.mem_iff.mp hv)
    obtain ⟨k, tk, h1, _⟩ := g e he
    exact ⟨k, tk, by rw [← q]; exact h1⟩
  have pk : (vs.map Builtin.Re.reRawOf).Perm (es.toList.map keyOf) := by
    have q := pm.map Builtin.Re.reRawOf
    rw [List.map_map] at q
    exact q
  have small : vs.length ≤ sizeLine := by rw [hvl, sizeLine_eq]; omega
  refine wpAny_bind (wpAny_newList ?_ small)
  have hoL : (s1.heap.push (seqObj "list" vs.toArray 0)).get? s1.heap.objs.size = some (seqObj "list" vs.toArray 0) := Heap.get?_push_size _ rfl
  refine wpAny_bind (wpAny_holding (wpAny_call_entry slot_list_sort ⟨_, hoL, rfl⟩ entry_list_sort (SrtO.list_sort_ord SrtO.swo_int hoL small (fun h2 => SrtO.ints_sortable hI h2) fun out h1 h2 => ⟨_, rfl, ?_⟩) (args_list_sort _)))
  obtain ⟨a1, a2, a3⟩ := SrtO.ints_out hI h1 h2
  obtain ⟨c, hc⟩ := sortedHeap_at (vs := vs) (out := out.toArray) hoL
  have pn : (out.map SrtO.iv).Perm (es.toList.map keyOf) := a2.trans pk
  refine wpAny_pure ⟨_, rfl, hQ _ s1.heap.objs.size out.toArray c (out.map SrtO.iv) (fun b u e => ?_) g1 o1 hz hc a1 (lt_of_le_nodup _ a3 (pn.nodup_iff.mpr nd)) (fun k => by rw [pn.mem_iff, ← hm k]) ?_⟩
  · have q := k1 b u e
    have hlt := Heap.lt_size q
    show (sortedHeap (s1.heap.push (seqObj "list" vs.toArray 0)) s1.heap.objs.size vs out.toArray).get? b = some u
    rw [sortedHeap_old (Nat.ne_of_lt hlt) (by rw [size_push']; exact Nat.lt_succ_of_lt hlt)]
    exact Heap.get?_push_of_some _ q
  · rw [pn.length_eq, List.length_map, Array.length_toList]; exact hn
end
section
variable {X : Cx}
def rSetLI (K : PySem.W.Frag) (w : World) : List V → Hp → VK → Prop := fun xs H Q => ∃ (a : Addr) (ns : List Int), xs = [V.ref a] ∧ SqL K H a (ns.map V.int) ∧ ns.length < 4000 ∧
  ∀ p c, H p = none → c ≤ ns.length → Q (.ref p) (upd H p (SetO w p (fun j => decide (j ∈ ns)) c))
theorem cr_setLI (hc : X.calm = true) : CallR X (.type "set") (rSetLI X.K X.w) := by
  intro pins s σ H xs us Q I r h
  obtain ⟨a, ns, rfl, hS, hl, q⟩ := h
  obtain ⟨u, rfl, ru⟩ := vals1 r
  cases (show u = Value.ref a from ru)
  obtain ⟨its, rv, pl, hz⟩ := I.list hS
  refine set_of_list ns (I.ok.hd hc) pl.isList (by simpa using rv.ints) (by unfold scanBound; omega) ?_
  rintro h' tk c ⟨hR, hcl, hk⟩
  exact ⟨.ref s.heap.objs.size, _, I.laid (t' := tk) hk (Nat.le_refl _) (setO_new hR), rfl, q _ c (I.hok.fresh (Nat.le_refl _)) hcl⟩
def rSortedSetI (w : World) : List V → Hp → VK → Prop := fun vs H Q => ∃ (a : Addr) (S : Int → Bool) (n : Nat), vs = [V.ref a] ∧ H a = some (SetO w a S n) ∧ n < 4096 ∧
  ∀ (ns : List Int) (p : Addr), ns.Pairwise (· < ·) → (∀ k : Int, k ∈ ns ↔ S k = true) → ns.length = n → H p = none → Q (.ref p) (upd H p (.lst (ns.map V.int)))
theorem cr_sortedSetI (hc : X.calm = true) : CallR X (.builtin "sorted") (rSortedSetI X.w) := by
  intro pins s σ H vs us Q I r h
  obtain ⟨a, S, n, rfl, ha, h64, q⟩ := h
  have R := setO_get I ha
  rw [Vals.ref1 r]
  refine sorted_setI R (I.ok.hd hc) fun s' p out c ns k g o hp hg hi hs hm hl => ?_
  have hlen : (ns.map V.int).length ≤ sizeLine := by rw [List.length_map, hl, sizeLine_eq]; omega
  have hn : H p = none := I.hok.fresh hp
  have J : Inv X pins σ (upd H p (.lst (ns.map V.int))) { s with heap := s'.heap, gens := s'.gens, drawn := s'.drawn, toks := s'.toks } :=
    I.call (ch := []) (Un.laid k hp hn) (I.hok.laid k hp ⟨hlen, out.toList, c, vals_of_ints hi, hg⟩) (by rw [g]; exact I.bare) (fun _ z => nomatch z)
  have e : s' = { s with heap := s'.heap, gens := s'.gens, drawn := s'.drawn, toks := s'.toks } := by
    cases s'
    cases s
    cases o
    rfl
  rw [e]
  exact ⟨.ref p, _, J, rfl, q ns p hs hm hl hn⟩
/-- d != e, e with no keys -/
def rNeDE : R2 := fun x y H Q => ∃ a b ks, x = .ref a ∧ y = .ref b ∧ H a = some (.dK ks) ∧ H b = some (.dK []) ∧ Q (.bl (!decide (ks.length = 0))) H
theorem op_neDE (hu : X.A.units < cLine) : OpR X (compareOp .NotEq) rNeDE := by
  intro pins s σ H x y v u Q I rx ry h
  obtain ⟨a, b, ks, rfl, rfl, ea, eb, q⟩ := h
  obtain rfl : v = Value.ref a := rx
  obtain rfl : u = Value.ref b := ry
  obtain ⟨_, ya, va, ra, da⟩ := (show ObjOk X.prog X.w H s.heap a (.dK ks) from I.hok a _ ea)
  obtain ⟨_, yb, vb, rb, db⟩ := (show ObjOk X.prog X.w H s.heap b (.dK []) from I.hok b _ eb)
  have lb : vb.length = 0 := rb.length.symm
  have la : ks.length = va.length := ra.length
  refine PySem.W.keq_ne (knd := mixKind X.prog X.w) (r := true) ya yb da db hu (fun e => ?_) (fin_bl I q (by rw [lb, ← la, Bool.and_true]; cases ks <;> rfl))
  refine hits_all rb ra fun p hp => ?_
  have : ks.length = 0 := by omega
  rw [List.eq_nil_of_length_eq_zero this] at hp
  cases hp
end
section
variable {X : Cx} {k j : Nat} {C : Addr} {sp : Sp} {ps : List Str}
/-- len(o), o with a __len__ of its own -/
def rLenO (C : Addr) (sp : Sp) : List V → Hp → VK → Prop := fun xs H Q => ∃ a dx fs, xs = [V.ref a] ∧ H a = some (.ins C dx fs) ∧ sp [.ref a] H (fun v H' => ∃ n : Nat, v = .int n ∧ n < 100000 ∧ Q (.int n) H') E0
theorem call_lenO (c : Og X.prog X.w X.K X.mg X.base k C "__len__" ps sp) (hr : Room j X.A) (hk : k + 1 ≤ j := by decide) : CallR X (.builtin "len") (rLenO C sp) := by
  obtain ⟨hc, g, fd, hs, hfn, hf, kp, F, b⟩ := c
  intro pins s σ H xs us Q I r h
  obtain ⟨a, dx, fs, rfl, ha, hsp⟩ := h
  rw [Vals.ref1 r]
  obtain ⟨mA, J, _⟩ := ins_get I.hok ha
  obtain ⟨od, J, _⟩ := J.look
  obtain ⟨m, hF⟩ := I.fr
  refine PySem.W.len_K hF I.ok.mod.kin J hs hfn (run_own (vs := [.ref a]) F b (hr.mono hk).in1 rfl I (.cons rfl .nil) hsp fun v u H' s' I' rv q => ?_)
  obtain ⟨n, rfl, hn, q⟩ := q
  obtain ⟨tk, rfl⟩ := rv
  have l63 : ((n : Nat) : Int) < 2 ^ 63 := Int.lt_of_lt_of_le (show ((n : Nat) : Int) < 100000 by omega) (by decide)
  exact ⟨⟨Int.natCast_nonneg n, l63⟩, .int n, H', I'.tok _, ⟨_, rfl⟩, q⟩
end
end Ck
namespace Ck
open PySem PySem.Spec PyProof.Rows L2
/-! ### list(range(a, b, c)) -/
def PRgC (X : Cx) (e : Expr) (t : L2.St → Hp → (Int → Int → Nat → Hp → Prop) → Prop) : Prop :=
  ∀ (pins : List (Addr × Obj)) (s : Shared) (σ : L2.St) (H : Hp) (Q : Int → Int → Nat → Hp → Prop), Inv X pins σ H s → t σ H Q →
    wpAny (model X.prog X.w) X.A (eval e X.env) (fun x s' => ∃ r a b c t u v n H', x = .ref r ∧ IsRange s'.heap r a b c t u v ∧ RgC a b c n ∧ n ≤ 2 ^ 24 ∧ Inv X pins σ H' s' ∧ Q a c n H') X.xe s
def tRgC (ta : TA) : L2.St → Hp → (Int → Int → Nat → Hp → Prop) → Prop := fun σ H Q => ta σ H fun vs H1 => ∃ (i j c : Int) (n : Nat), vs = [.int i, .int j, .int c] ∧ RgC i j c n ∧ n ≤ 2 ^ 24 ∧ Q i c n H1
def tLstRgC (t : L2.St → Hp → (Int → Int → Nat → Hp → Prop) → Prop) : TE := fun σ H Q => t σ H fun a c n H1 => ∀ q, H1 q = none → Q (.ref q) (upd H1 q (.lst ((List.range n).map fun k : Nat => V.int (a + (k : Int) * c))))
section
variable {X : Cx}
theorem prg_C {a b c : Expr} {ta : TA} {p pos : Pos} (hg : Gl X "range") (hm : X.mg "range" = none) (ha : PA X [a, b, c] ta)
    (hs : starEach [a, b, c] X.env = (false, eval a X.env) :: starEach [b, c] X.env := by rfl) (hpl : (backTo pos (starEach [b, c] X.env)).any (·.1) = false := by rfl) :
    PRgC X (.Call (.Name "range" p) [a, b, c] [] pos) (tRgC ta) := by
  intro pins s σ H Q I h
  refine Call_ (ld_blt I hg hm boot_range (PyProof.Rows.callWith_type1 (thn (ha.run pos pins s σ H _ I h) fun us s1 ⟨vs, H1, I1, r1, q1⟩ => ?_) hs hpl))
  obtain ⟨i, j, k, n, e, R, hn, q⟩ := q1
  subst e
  cases r1 with
  | cons r rr =>
    cases rr with
    | cons r' rr =>
      cases rr with
      | cons r'' rr =>
        cases rr
        obtain ⟨t, rfl⟩ := r
        obtain ⟨t', rfl⟩ := r'
        obtain ⟨t'', rfl⟩ := r''
        refine call_range_3 R.1 ?_ (.inl (PyProof.noPylong_small R.2.1))
        exact ⟨_, i, j, k, _, _, _, n, H1, rfl, IsRange.new .., R, hn, I1.kept fun b u e => Heap.get?_push_of_some _ e, q⟩
theorem vals_rgC {a c : Int} {n : Nat} {acc : Array Value} (h : ItemsOf (fun i v => ∃ t, v = .int (a + i * c) t) acc n) : Vals ((List.range n).map fun k : Nat => V.int (a + (k : Int) * c)) acc.toList := by
  have e : acc.toList.length = n := by rw [Array.length_toList]; exact h.1
  rw [← e]
  refine vals_of_get acc.toList _ fun j u hj => ?_
  obtain ⟨t, rfl⟩ := h.2 j u (by rw [← hj, Array.getElem?_toList])
  exact ⟨t, rfl⟩
theorem pe_listRgC {e : Expr} {te : L2.St → Hp → (Int → Int → Nat → Hp → Prop) → Prop} {p pos : Pos} (hc : X.calm = true) (hg : Gl X "list") (hm : X.mg "list" = none) (he : PRgC X e te) (na : starEach [e] X.env = (false, eval e X.env) :: starEach [] X.env := by rfl) :
    PE X (.Call (.Name "list" p) [e] [] pos) (tLstRgC te) := by
  refine ⟨fun pins s σ H Q I h => ?_⟩
  refine Call_ (ld_blt I hg hm boot_list (PyProof.Rows.callWith_type1 (args_cons (thn (he pins s σ H _ I h) fun x s1 ⟨r, a, b, c, t, u, v, n, H1, ex, hr, R, hn, I1, q⟩ => args_nil ?_) na) na))
  subst ex
  refine call_list_range (n := n) (I1.ok.hd hc) hr R.2.2.1 R.2.2.2 hn fun h' tk acc c' hk e' hi => ?_
  refine ⟨.ref s1.heap.objs.size, upd H1 s1.heap.objs.size (.lst ((List.range n).map fun k : Nat => V.int (a + (k : Int) * c))), I1.laid hk (Nat.le_refl _) (show ObjOk X.prog X.w _ _ _ (.lst _) from ⟨?_, acc.toList, c', vals_rgC hi, ?_⟩), rfl, q _ (I1.hok.fresh (Nat.le_refl _))⟩
  · rw [List.length_map, List.length_range, sizeLine_eq]; omega
  · rw [Array.toArray_toList]; exact e'
end
end Ck

/-! the steps of a purse as a list of triples; promises of the defs that tell amounts in order -/
namespace Ck
open PySem PySem.Spec PyProof.Rows L2 StX Evl
/-- a tuple of three ints -/
def RT (K : PySem.W.Frag) (H : Hp) (x : V) (t : Int × Int × Int) : Prop := ∃ a, x = .ref a ∧ SqT K H a [.int t.1, .int t.2.1, .int t.2.2]
theorem RT.ex {K : PySem.W.Frag} {H H' : Hp} {x : V} {t : Int × Int × Int} (e : Ex H H') (h : RT K H x t) : RT K H' x t := h.imp fun a h => ⟨h.1, ex_t e h.2⟩
theorem RT.upd {K : PySem.W.Frag} {H : Hp} {l : Addr} {xs ys : List V} {x : V} {t : Int × Int × Int} (hl : H l = some (.lst xs)) (h : RT K H x t) : RT K (L2.upd H l (.lst ys)) x t := h.imp fun a h => ⟨h.1, sqT_updL h.2 hl⟩
theorem F2.rev {α : Type} {R : V → α → Prop} : ∀ {xs : List V} {as : List α}, F2 R xs as → F2 R xs.reverse as.reverse
  | _, _, .nil => .nil
  | x :: xs, a :: as, .cons h t => by
    rw [List.reverse_cons, List.reverse_cons]
    exact F2.app (F2.rev t) (.cons h .nil)
/-- steps with small numbers -/
def StOk (ts : List (Int × Int × Int)) : Prop := ∀ t ∈ ts, (0 < t.1 ∧ t.1.natAbs < 10 ^ 200) ∧ 0 < t.2.1 ∧ 0 < t.2.2 ∧ t.2.2.natAbs < 10 ^ 200
theorem stOk {us : List (Int × Int)} (h : Prs2 us) (hs : ∀ p ∈ us, p.1.natAbs < 10 ^ 200) : StOk (stR us.reverse) ∧ (stR us.reverse).length = us.length := by
  induction h with
  | nil => exact ⟨fun t ht => (nomatch ht), rfl⟩
  | @snoc qs p h d c lt dv ih =>
    have er : (qs ++ [p]).reverse = p :: qs.reverse := by rw [List.reverse_append]; rfl
    have et : tot qs.reverse = tot qs := tot_perm (List.reverse_perm qs)
    have t0 := tot_nn h
    have mp := many_pos (p := p) h d
    obtain ⟨i1, i2⟩ := ih fun q hq => hs q (List.mem_append_left _ hq)
    have hp := hs p (List.mem_append_right _ (List.mem_singleton.mpr rfl))
    have le := cn_le (okN qs) (min p.1.toNat (tot qs + 1).toNat)
    rw [er]
    refine ⟨fun t ht => ?_, ?_⟩
    · rcases List.mem_cons.mp ht with rfl | m
      · refine ⟨⟨d, hp⟩, ?_, ?_⟩
        · show 0 < tot qs.reverse + 1
          omega
        · show 0 < belowR (stR qs.reverse) (min p.1 (tot qs.reverse + 1)) ∧ (belowR (stR qs.reverse) (min p.1 (tot qs.reverse + 1))).natAbs < 10 ^ 200
          rw [et, below_cn _ _ rfl h _ (by omega), toNat_min]
          exact ⟨by omega, Nat.lt_of_le_of_lt (show _ ≤ p.1.natAbs by omega) hp⟩
      · exact i1 t m
    · show (stR qs.reverse).length + 1 = _
      rw [i2, List.length_append]
      rfl
/-- how many amounts can be paid -/
def cntP (ps : List (Int × Int)) : Int := belowR (stR ps.reverse) (tot ps + 1)
/-- a gapless purse -/
def gplB : List (Int × Int) → Bool
  | [] => true
  | p :: r => decide (cntP (p :: r) = tot (p :: r) / p.1 + 1)
/-- a purse that is good for amounts -/
structure Pas (K : PySem.W.Frag) (C : Addr) (H : Hp) (a : Addr) (ps : List (Int × Int)) : Prop where
  pur : Pur K C H a ps
  prs : Prs2 ps
  big : (tot ps + 1).natAbs < 10 ^ 200
theorem Pas.up {K : PySem.W.Frag} {C a : Addr} {H H' : Hp} {ps : List (Int × Int)} (h : Pas K C H a ps) (e : Ex H H') : Pas K C H' a ps := ⟨h.pur.up e, h.prs, h.big⟩
theorem Pas.ok {K : PySem.W.Frag} {C a : Addr} {H : Hp} {ps : List (Int × Int)} (h : Pas K C H a ps) : StOk (stR ps.reverse) ∧ (stR ps.reverse).length ≤ 12 := by
  obtain ⟨a, b⟩ := stOk h.prs fun p hp => siz_nat (h.pur.ct.ok p hp).1
  exact ⟨a, by rw [b]; exact h.pur.ct.ln⟩
def spBelow (K : PySem.W.Frag) : Sp := fun vs H Q _ => ∃ (l : Addr) (b : Int) (xs : List V) (ts : List (Int × Int × Int)), vs = [.ref l, .int b] ∧ H l = some (.lst xs) ∧ F2 (RT K H) xs ts ∧ StOk ts ∧ ts.length ≤ 1000 ∧ 0 ≤ b ∧ b.natAbs < 10 ^ 200 ∧ ∀ H', Ex H H' → Q (.int (belowR ts.reverse b)) H'
def spSteps (K : PySem.W.Frag) (C : Addr) : Sp := fun vs H Q _ => ∃ a ps, vs = [.ref a] ∧ Pas K C H a ps ∧ ∀ l xs H', Ex H H' → H' l = some (.lst xs) → F2 (RT K H') xs (stR ps.reverse).reverse → Q (.ref l) H'
def spCount (K : PySem.W.Frag) (C : Addr) : Sp := fun vs H Q _ => ∃ a ps, vs = [.ref a] ∧ Pas K C H a ps ∧ ∀ H', Ex H H' → Q (.int (cntP ps)) H'
def spAmb (K : PySem.W.Frag) (C : Addr) : Sp := fun vs H Q _ => ∃ a n ps, vs = [.ref a, .int n] ∧ Pas K C H a ps ∧ cntB n = true ∧ ∀ H', Ex H H' → Q (.int (belowR (stR ps.reverse) (min n (tot ps + 1)))) H'
def spAt (K : PySem.W.Frag) (C : Addr) : Sp := fun vs H Q _ => ∃ a n ps, vs = [.ref a, .int n] ∧ Pas K C H a ps ∧ cntB n = true ∧ n < cntP ps ∧ ∀ H', Ex H H' → Q (.int (atR (stR ps.reverse) n)) H'
def spAtE (K : PySem.W.Frag) (C cI : Addr) : Sp := fun vs H _ E => ∃ a n ps, vs = [.ref a, .int n] ∧ Pas K C H a ps ∧ cntB n = true ∧ cntP ps ≤ n ∧ ∀ H' d, Ex H H' → H' d = some (.xd [("value", .int n)]) → E (.ref cI) (some d) H'
def spGpl (K : PySem.W.Frag) (C : Addr) : Sp := fun vs H Q _ => ∃ a ps, vs = [.ref a] ∧ Pas K C H a ps ∧ ∀ H', Ex H H' → Q (.bl (gplB ps)) H'
def spBtw : Sp := fun vs H Q _ => ∃ v lo hi : Int, vs = [.int v, .int lo, .int hi] ∧ v.natAbs < 10 ^ 200 ∧ lo ≤ v ∧ v ≤ hi ∧ ∀ H', Ex H H' → Q .non H'
def spBtwE (cI : Addr) : Sp := fun vs H _ E => ∃ v lo hi : Int, vs = [.int v, .int lo, .int hi] ∧ v.natAbs < 10 ^ 200 ∧ ¬ (lo ≤ v ∧ v ≤ hi) ∧ ∀ H' d, Ex H H' → H' d = some (.xd [("value", .int v)]) → E (.ref cI) (some d) H'
def spLen (K : PySem.W.Frag) (C : Addr) : Sp := fun vs H Q _ => ∃ a ps, vs = [.ref a] ∧ LotAt K C H a ps ∧ ∀ H', Ex H H' → Q (.int (ps.length : Int)) H'
section
variable {K : PySem.W.Frag} {σ : L2.St} {H : Hp} {C a l : Addr} {te tl : TE} {ta : TA} {ps : List (Int × Int)} {ns us : List Int} {xs : List V} {ts : List (Int × Int × Int)} {b n : Int} {w : World}
theorem below_v (hl : H l = some (.lst xs)) (hf : F2 (RT K H) xs ts) (ok : StOk ts) (hz : ts.length ≤ 1000) (h0 : 0 ≤ b) (hb : b.natAbs < 10 ^ 200) : SpV (spBelow K) [.ref l, .int b] H (.int (belowR ts.reverse b)) := fun H1 e Q q E => ⟨l, b, xs, ts, rfl, e _ _ hl, hf.imp fun x t r => r.ex e, ok, hz, h0, hb, q⟩
theorem count_v (hp : Pas K C H a ps) : SpV (spCount K C) [.ref a] H (.int (cntP ps)) := fun H1 e Q q E => ⟨a, ps, rfl, hp.up e, q⟩
theorem amb_v (hp : Pas K C H a ps) (hn : cntB n = true) : SpV (spAmb K C) [.ref a, .int n] H (.int (belowR (stR ps.reverse) (min n (tot ps + 1)))) := fun H1 e Q q E => ⟨a, n, ps, rfl, hp.up e, hn, q⟩
theorem at_v (hp : Pas K C H a ps) (hn : cntB n = true) (hc : n < cntP ps) : SpV (spAt K C) [.ref a, .int n] H (.int (atR (stR ps.reverse) n)) := fun H1 e Q q E => ⟨a, n, ps, rfl, hp.up e, hn, hc, q⟩
theorem gpl_v (hp : Pas K C H a ps) : SpV (spGpl K C) [.ref a] H (.bl (gplB ps)) := fun H1 e Q q E => ⟨a, ps, rfl, hp.up e, q⟩
/-- sorted(set(l)) -/
theorem el_ssI (h : EvL tl σ H (ns.map V.int)) (hl : ns.length < 4000) (h1 : us.Pairwise (· < ·)) (h2 : ∀ k, k ∈ us ↔ k ∈ ns) :
    EvL (tCB (rSortedSetI w) (tCons (tCB (rSetLI K w) (tCons tl tNil)) tNil)) σ H (us.map V.int) := fun H0 e0 Q q => h H0 e0 _ fun p H1 n1 e1 hp => ⟨p, ns, rfl, SqL.of hp, hl, fun b c hb hc =>
  ⟨b, _, c, rfl, upd_same, Nat.lt_of_le_of_lt hc (Nat.lt_trans hl (by decide)), fun vs p2 hpw hmem hlen hp2 => by
    have e : vs = us := sorted_one hpw h1 fun k => ⟨fun hk => (h2 k).mpr (of_decide_eq_true ((hmem k).mp hk)), fun hk => (hmem k).mpr (decide_eq_true ((h2 k).mp hk))⟩
    subst e
    have e2 := (Ex.new (o := SetO w b (fun j => decide (j ∈ ns)) c) hb).trans (Ex.new (o := .lst (vs.map V.int)) hp2)
    exact q p2 _ (fresh_back e1 (fresh_back (Ex.new (o := SetO w b (fun j => decide (j ∈ ns)) c) hb) hp2)) (e1.trans e2) upd_same⟩⟩
/-- list(range(0, b, s)) -/
theorem el_rgC {b s : Int} (h : EvA ta σ H [.int 0, .int b, .int s]) (hs : 0 < s ∧ s < 1000) (hb : 0 < b ∧ b ≤ 10000) : EvL (tLstRgC (tRgC ta)) σ H ((mults s ((b - 1) / s + 1).toNat).map V.int) := fun H1 e Q q => h H1 e _ fun H2 e2 => by
  have q0 := Int.ediv_nonneg (show 0 ≤ b - 1 by omega) (show 0 ≤ s by omega)
  have q1 : (b - 1) / s ≤ b - 1 := Int.ediv_le_self _ (by omega)
  have rs : Builtin.Range.rangeSize 0 b s = (b - 1) / s + 1 := by
    unfold Builtin.Range.rangeSize
    rw [if_pos (show s > 0 by omega), if_pos (show (0 : Int) < b by omega), Int.sub_zero]
  refine ⟨0, b, s, ((b - 1) / s + 1).toNat, rfl, ⟨by omega, by omega, ?_, by rw [rs]; omega⟩, Nat.le_trans (show _ ≤ 10000 by omega) (by decide), fun p hp => ?_⟩
  · have fit : ∀ i : Int, -100000 ≤ i → i ≤ 100000 → Builtin.Range.rangeFitsLong i = true := fun i h1 h2 => by
      unfold Builtin.Range.rangeFitsLong
      rw [decide_eq_true (show -(2 ^ 63) ≤ i by omega), decide_eq_true (show i < 2 ^ 63 by omega)]
      rfl
    unfold Builtin.Range.small
    rw [rs, if_pos (show s > 0 by omega), fit _ (by omega) (by omega), fit _ (by omega) (by omega), fit _ (by omega) (by omega), fit _ (by omega) (by omega), fit _ (by omega) (by omega), Bool.or_true]
    rfl
  · have e : (List.range ((b - 1) / s + 1).toNat).map (fun k : Nat => V.int (0 + (k : Int) * s)) = (mults s ((b - 1) / s + 1).toNat).map V.int := by
      unfold mults
      rw [List.map_map]
      exact List.map_congr_left fun k _ => by
        show V.int (0 + (k : Int) * s) = V.int ((k : Int) * s)
        rw [Int.zero_add]
    rw [e]
    exact q p _ (fresh_back e2 hp) (e2.trans (Ex.new hp)) upd_same
end
theorem sml_take {ps : List (Int × Int)} (ha : Asc ps) {i : Nat} (hi : i < ps.length) : sml ps (ps[i]).1 = tot (ps.take i) := by
  have e : ps = ps.take i ++ ps[i] :: ps.drop (i + 1) := by
    rw [← List.drop_eq_getElem_cons hi, List.take_append_drop]
  have ha2 := ha
  unfold Asc at ha2
  rw [e, List.map_append, List.pairwise_append] at ha2
  obtain ⟨_, a2, a3⟩ := ha2
  rw [List.map_cons, List.pairwise_cons] at a2
  generalize hp : ps[i] = p at *
  conv => lhs; rw [e]
  rw [sml_app, sml_all (fun q hq => a3 _ (List.mem_map_of_mem hq) _ List.mem_cons_self), sml_none (fun q hq => ?_), Int.add_zero]
  rcases List.mem_cons.mp hq with rfl | m
  · exact Int.le_refl _
  · exact Int.le_of_lt (a2.1 _ (List.mem_map_of_mem m))
theorem stR_take {ps : List (Int × Int)} {i : Nat} (hi : i < ps.length) : stR (ps.take (i + 1)).reverse = ((ps[i]).1, tot (ps.take i) + 1, belowR (stR (ps.take i).reverse) (min (ps[i]).1 (tot (ps.take i) + 1))) :: stR (ps.take i).reverse := by
  have e : ps.take (i + 1) = ps.take i ++ [ps[i]] := by rw [List.take_add_one, List.getElem?_eq_getElem hi]; rfl
  rw [e, List.reverse_append]
  show (ps[i].1, tot (ps.take i).reverse + 1, belowR (stR (ps.take i).reverse) (min ps[i].1 (tot (ps.take i).reverse + 1))) :: stR (ps.take i).reverse = _
  rw [tot_perm (List.reverse_perm (ps.take i))]
theorem prs2_take {ps : List (Int × Int)} (h : Prs2 ps) : ∀ i, Prs2 (ps.take i) := by
  induction h with
  | nil => exact fun i => by rw [List.take_nil]; exact .nil
  | @snoc qs p h d c lt dv ih =>
    intro i
    by_cases z : i ≤ qs.length
    · rw [List.take_append_of_le_length z]
      exact ih i
    · rw [List.take_of_length_le (by rw [List.length_append]; show qs.length + 1 ≤ i; omega)]
      exact .snoc h d c lt dv
theorem tot_take {ps : List (Int × Int)} (h : Prs2 ps) (i : Nat) : 0 ≤ tot (ps.take i) ∧ tot (ps.take i) ≤ tot ps := by
  refine ⟨tot_nn (prs2_take h i), ?_⟩
  have e := tot_app (ps.take i) (ps.drop i)
  rw [List.take_append_drop] at e
  have : ∀ {a : List (Int × Int)}, (∀ q ∈ a, 0 ≤ q.1 * q.2) → 0 ≤ tot a := fun {a} => by
    induction a with
    | nil => exact fun _ => Int.le_refl 0
    | cons x t ih =>
      intro h
      have e : tot (x :: t) = x.1 * x.2 + tot t := by unfold tot; rw [List.map_cons, List.sum_cons]
      have h1 := ih fun q hq => h q (List.mem_cons_of_mem _ hq)
      have h2 := h x List.mem_cons_self
      omega
  have := this (a := ps.drop i) fun q hq => by
    obtain ⟨h1, h2⟩ := h.cnts q (List.mem_of_mem_drop hq)
    exact Int.mul_nonneg (Int.le_of_lt h1) (Int.le_of_lt h2)
  omega
end Ck
namespace Ck
open PySem PySem.Spec PyProof.Rows L2 StX Evl
theorem atI_0 (x : V) (xs : List V) : atI (x :: xs) 0 = some x := atI_nat (xs := x :: xs) (j := 0) rfl
theorem cnt_nn {a : Int} (h : cntB a = true) : 0 ≤ a ∧ a.natAbs < 10 ^ 200 := by
  refine ⟨?_, cnt_int h⟩
  unfold cntB at h
  rw [Bool.and_eq_true] at h
  exact of_decide_eq_true h.2
abbrev IxT : List Value := [.type "IndexError", .type "LookupError", .type "Exception", .type "BaseException", .type "object"]
abbrev ErN (P : Program) (w : World) (K : PySem.W.Frag) (mg : Str → Option Value) (base : Heap) (C : Addr) : Prop := ErF P w K mg base "InvalidNumber" "value" "IndexError" "IndexError.__new__" "IndexError.__init__" IxT C
section
variable {K : PySem.W.Frag} {σ : L2.St} {H : Hp} {C a : Addr} {te tb : TE} {ps : List (Int × Int)} {xs : List V} {i : Int} {v : V}
theorem ev_lenO (h : Ev te σ H (.ref a)) (hl : LotAt K C H a ps) (hz : ps.length < 100000) : Ev (tCB (rLenO C (spLen K C)) (tCons te tNil)) σ H (.int (ps.length : Int)) := fun H1 e Q q => h H1 e _ fun H2 e2 => by
  obtain ⟨dx, t1, t2, d, ts, h1, _⟩ := (hl.up (e.trans e2)).ex
  exact ⟨a, dx, _, rfl, h1, a, ps, rfl, hl.up (e.trans e2), fun H' e3 => ⟨ps.length, rfl, hz, q H' (e2.trans e3)⟩⟩
theorem ev_ixTu (h : Etu K te σ H xs) (hb : Ev tb σ H (.int i)) (hi : atI xs i = some v) : Ev (tOp (rIxT K) te tb) σ H v := fun H1 e Q q => h H1 e _ fun p H2 e2 hp => hb H2 (e.trans e2) _ fun H3 e3 => rv_ixT (ex_t e3 hp) hi H3 (Ex.refl H3) Q fun H4 e4 => q H4 ((e2.trans e3).trans e4)
end
end Ck
namespace Ck
open PySem PySem.Spec PyProof.Rows L2 StX Evl
section
variable {K : PySem.W.Frag} {σ : L2.St} {H : Hp} {C a d p : Addr} {ta te tb tl : TE} {tr : TA} {ps : List (Int × Int)} {xs : List V} {i n : Int} {v : V} {j : Nat} {ws : List Nat} {kvs : List (Key × V)}
/-- l[i], l a new list -/
theorem ev_ixLn (h : EvL te σ H xs) (hb : Ev tb σ H (.int i)) (hi : atI xs i = some v) : Ev (tOp (rIxL K) te tb) σ H v := fun H1 e Q q => h H1 e _ fun p H2 _ e2 hp => hb H2 (e.trans e2) _ fun H3 e3 => rv_ixL (ex_l e3 (SqL.of hp)) hi H3 (Ex.refl H3) Q fun H4 e4 => q H4 ((e2.trans e3).trans e4)
/-- d != {} -/
theorem et_ne0 (h : Ev te σ H (.ref d)) (hd : H d = some (.dK kvs)) : EvT (tTest (tOp rNeDE te tDNewK)) σ H (!decide (kvs.length = 0)) := fun H1 e Q q => h H1 e _ fun H2 e2 p hp => ⟨d, p, kvs, rfl, rfl, (Ex.new hp) _ _ ((e.trans e2) _ _ hd), upd_same, _, rfl, q _ (e2.trans (Ex.new hp))⟩
/-- int(b) -/
theorem ev_int1 {b : Bool} (h : Ev te σ H (.bl b)) : Ev (tCB (fun xs H Q => (∃ i, xs = [V.int i] ∧ Q (.int i) H) ∨ ∃ k, xs = [V.bl k] ∧ Q (.int (if k then 1 else 0)) H) (tCons te tNil)) σ H (.int (b.toNat : Int)) := fun H1 e Q q => h H1 e _ fun H2 e2 => .inr ⟨b, rfl, by
  have z := q H2 e2
  cases b <;> exact z⟩
/-- [e for i in range(n)] -/
theorem el_rng1 {m : Nat} (f : Nat → V) (h : EvA tr σ H [.int (m : Int)]) (hm : m ≤ 40000) (hw : ∀ x, wipe ((wipe σ ws).set j (some x)) ws = wipe σ ws)
    (he : ∀ k : Nat, k < m → ∀ H1, Ex H H1 → Ev te ((wipe σ ws).set j (some (.int (k : Int)))) H1 (f k)) : EvL (tLc (iRng1 tr) (gName j) tYes te ws) σ H ((List.range m).map f) := fun H0 e0 Q q => h H0 e0 _ fun H1 e1 => ⟨(m : Int), rfl, by omega, by omega, fun D hD => by
  refine lc_it walk_range (fun k H' => H1 D = none ∧ Ex H1 H' ∧ H' D = some (.lst ((List.range k).map f))) ⟨hD, Ex.new hD, upd_same⟩ (fun k H' _ p => trivial) ?_ ?_
  · rintro k x H2 H3 hk ⟨p1, p2, p3⟩ ⟨rfl, rfl⟩
    have hk2 : k < m := by omega
    refine ⟨hw _, yes_go (iteT ?_)⟩
    have e0k : (some ((fun i : Nat => V.int (0 + (i : Int))) k)) = some (V.int (k : Int)) := congrArg (fun z => some (V.int z)) (Int.zero_add _)
    rw [e0k]
    exact he k hk2 H3 ((e0.trans e1).trans p2) H3 (Ex.refl _) _ fun H5 e5 => ⟨_, e5 _ _ p3, sz_lt (by rw [List.length_map, List.length_range]; omega), p1, Ex.mut (p2.trans e5) p1, by rw [upd_same, List.range_succ, List.map_append]; rfl⟩
  · rintro H2 ⟨p1, p2, p3⟩
    rw [show ((m : Int)).toNat = m by omega] at p3
    exact q D H2 (fresh_back e1 p1) (e1.trans p2) p3⟩
end
theorem eqv_lints (ms ns : List Int) : PyData.eqv (.list (ms.map PyData.int)) (.list (ns.map PyData.int)) = decide (ms = ns) := by
  simp only [PyData.eqv, eqv_tups]
theorem shaped_lints (ns : List Int) : SeqAt.shaped (.list (ns.map PyData.int)) = true := by
  obtain ⟨a, b⟩ := lay_ints ns
  unfold SeqAt.shaped
  simp only [PyData.canLay0, PyData.depth, a, b]
  rfl
theorem dpa_lints {K : PySem.W.Frag} {H : Hp} (ns : List Int) : DpAll K H (ns.map V.int) (ns.map PyData.int) := dpa_ints ns
/-- the least coin, 1 without one -/
def stepOf : List (Int × Int) → Int
  | [] => 1
  | p :: _ => p.1
theorem gpl_eq {ps : List (Int × Int)} (h : Prs2 ps) (ha : Asc ps) : decide (tots ps = mults (stepOf ps) (tot ps / stepOf ps + 1).toNat) = gplB ps := by
  cases ps with
  | nil => decide +kernel
  | cons p r =>
    show _ = decide (cntP (p :: r) = tot (p :: r) / p.1 + 1)
    exact gapless h ha
theorem tots_cnt {ps : List (Int × Int)} (h : Prs2 ps) : ((tots ps).length : Int) = cntP ps := tots_len h
theorem tots_list {ps : List (Int × Int)} (h : Prs2 ps) : (List.range (tots ps).length).map (fun k : Nat => V.int (atR (stR ps.reverse) (k : Int))) = (tots ps).map V.int := by
  refine List.ext_getElem (by rw [List.length_map, List.length_range, List.length_map]) fun i h1 h2 => ?_
  rw [List.length_map] at h2
  rw [List.getElem_map, List.getElem_range, List.getElem_map]
  have z := tots_at h h2
  rw [List.getElem?_eq_getElem h2] at z
  rw [Option.some.inj z]
theorem tots_atLast {ps : List (Int × Int)} (h : Prs2 ps) : atI ((tots ps).map V.int) (-1) = some (.int (tot ps)) := by
  obtain ⟨r, e⟩ := tots_last h
  rw [e, List.map_append]
  exact atI_last _ _
end Ck
namespace Ck
theorem parts_small9 {qs : List (Int × Int)} (h : ∀ p ∈ qs, 0 < p.1 ∧ 0 < p.2) (hs : (qs.map Prod.snd).sum ≤ 9) : (partsOf qs).length ≤ 512 := by
  have z := parts_small (fun p hp => (h p hp).2) hs qs.length
  rw [List.take_length] at z
  exact z
end Ck
namespace Ck
open PySem PySem.Spec PyProof.Rows L2 StX Evl
theorem ev_neg {σ : L2.St} {H : Hp} {te : TE} {i : Int} (h : Ev te σ H (.int i)) : Ev (tUn (rU fun i => .int (-i)) te) σ H (.int (-i)) := ev_un h fun H1 _ _ q => ⟨i, rfl, q H1 (Ex.refl H1)⟩
end Ck
namespace Ck
open PySem PySem.Spec PyProof.Rows L2 StX Evl
section
variable {K : PySem.W.Frag} {σ : L2.St} {H : Hp} {C a : Addr} {te : TE}
theorem call1_of {sp : Sp} {E : XK} {Pd : Addr → Hp → Prop} {Q : VK} (h : ∀ Q : VK, (∀ a H', Ex H H' → Pd a H' → Q (.ref a) H') → te σ H Q) (k : ∀ a H', Ex H H' → Pd a H' → sp [.ref a] H' Q E) : tCall sp [] E (tCons te tNil) σ H Q := h _ fun a H' e p => k a H' e p
theorem disp2 {a b c d : Int} (n : (([(a, b), (c, d)] : List (Int × Int)).map Prod.fst).Nodup) (Q : VK) (q : ∀ p H1, Ex H H1 → H1 p = some (.dK (([(a, b), (c, d)] : List (Int × Int)).map kc)) → Q (.ref p) H1) :
    tDisp [(tC (.int a), tC (.int b)), (tC (.int c), tC (.int d))] σ H Q := fun p hp0 => by
  refine ⟨upd_same, [(a, b), (c, d)].map kc, rfl, (show 2 ≤ 15 by decide), ?_⟩
  rw [merge_kc n]
  exact q p _ (fun x o z => by
    have n := ne_of_none z hp0
    rw [upd_ne n, upd_ne n]
    exact z) upd_same
/-- Lot({..}) that is good for amounts -/
theorem lot_pas {ps : List (Int × Int)} (h : ∀ Q : VK, (∀ p H1, Ex H H1 → H1 p = some (.dK (ps.map kc)) → Q (.ref p) H1) → te σ H Q) (hc : Cts ps) (ha : Asc ps) (hg : gap (ps.map Prod.fst) = none) (hp : Prs2 ps) (hb : (tot ps + 1).natAbs < 10 ^ 200)
    (Q : VK) (q : ∀ a H', Ex H H' → Pas K C H' a ps → Q (.ref a) H') : tMakeR C (spLotI K C) E0 (tCons te tNil) σ H Q := lot_make h hc Q fun a qs H2 e2 hperm hasc hlot => by
  obtain rfl : qs = ps := asc_unique hasc ha hperm
  exact q a H2 e2 ⟨⟨hlot, hc, hasc, hg⟩, hp, hb⟩
theorem lot_pas0 (Q : VK) (q : ∀ a H', Ex H H' → Pas K C H' a [] → Q (.ref a) H') : tLot0 K C σ H Q := lot_make0 Q fun a H' e hl => q a H' e ⟨pur_nil hl, .nil, by decide +kernel⟩
theorem q_lotPas {z : TS} {D : Ends} {i : Nat} {ps : List (Int × Int)} (h : ∀ Q : VK, (∀ p H1, Ex H H1 → H1 p = some (.dK (ps.map kc)) → Q (.ref p) H1) → te σ H Q) (hc : Cts ps) (ha : Asc ps) (hg : gap (ps.map Prod.fst) = none) (hp : Prs2 ps) (hb : (tot ps + 1).natAbs < 10 ^ 200)
    (k : ∀ a H', Ex H H' → Pas K C H' a ps → z D (σ.set i (some (.ref a))) H') : tSeq (tAsg (tMakeR C (spLotI K C) E0 (tCons te tNil)) (gName i)) z D σ H := lot_pas h hc ha hg hp hb (fun x H1 => gName i x σ H1 (z D)) k
theorem ed_gplN {ps : List (Int × Int)} (h : ∀ Q : VK, ∀ H1, Ex H H1 → (∀ p H2, Ex H1 H2 → H2 p = some (.dK (ps.map kc)) → Q (.ref p) H2) → te σ H1 Q) (hc : Cts ps) (ha : Asc ps) (hg : gap (ps.map Prod.fst) = none) (hp : Prs2 ps) (hb : (tot ps + 1).natAbs < 10 ^ 200) :
    Ed K (tCall (spGpl K C) [] E0 (tCons (tMakeR C (spLotI K C) E0 (tCons te tNil)) tNil)) σ H (.bool (gplB ps)) := fun H1 e Q q => call1_of (Pd := fun a H' => Pas K C H' a ps) (fun Q' q' => lot_pas (fun Q2 q2 => h Q2 H1 e q2) hc ha hg hp hb Q' q') fun a H' e' hl => ⟨a, ps, rfl, hl, fun H2 e2 => q _ H2 (e'.trans e2) (.bl _)⟩
theorem ed_cnt0 : Ed K (tCall (spCount K C) [] E0 (tCons (tLot0 K C) tNil)) σ H (.int (cntP [])) := fun H1 e Q q => call1_of (Pd := fun a H' => Pas K C H' a []) (fun Q' q' => lot_pas0 Q' q') fun a H' e' hl => ⟨a, [], rfl, hl, fun H2 e2 => q _ H2 (e'.trans e2) (.int _)⟩
end
theorem prs_dec {ps : List (Int × Int)} (h1 : (ps.map Prod.fst).Pairwise (· < ·)) (h2 : ∀ p ∈ ps, 0 < p.1 ∧ 0 < p.2) (h3 : ∀ p ∈ ps, ∀ r ∈ ps, p.1 < r.1 → p.1 ∣ r.1) : Prs2 ps := prs2_of _ ps rfl h1 h2 h3
end Ck

/-! amounts from both ends; what the law asks of great purses -/
namespace Ck
open PySem PySem.Spec PyProof.Rows L2 Evl
theorem cn_rev (Q : Nat → Bool) : ∀ b, cn (fun j => Q (b - 1 - j)) b = cn Q b
  | 0 => rfl
  | b + 1 => by
    have e : cn (fun j => Q (b + 1 - 1 - j)) (1 + b) = cn (fun j => Q (b + 1 - 1 - j)) 1 + cn (fun n => Q (b + 1 - 1 - (1 + n))) b := cn_add _ 1 b
    rw [Nat.add_comm b 1, show (1 + b - 1) = b + 1 - 1 by omega, e]
    have z : cn (fun n => Q (b + 1 - 1 - (1 + n))) b = cn (fun j => Q (b - 1 - j)) b := cn_congr fun n hn => by
      show Q (b + 1 - 1 - (1 + n)) = Q (b - 1 - n)
      congr 1
      omega
    rw [z, cn_rev Q b]
    show 0 + (Q b).toNat + cn Q b = cn Q (1 + b)
    rw [Nat.add_comm 1 b]
    show _ = cn Q b + (Q b).toNat
    omega
theorem okB_sym {us : List (Int × Int)} (h : Prs2 us) : ∀ n : Int, okB us n = true → okB us (tot us - n) = true := by
  induction h with
  | nil => exact fun _ _ => rfl
  | @snoc qs p h d c lt dv ih =>
    intro n hn
    have t0 := tot_nn h
    rw [okB_snoc lt, Bool.and_eq_true, decide_eq_true_eq] at hn
    obtain ⟨h1, h2⟩ := hn
    have r0 := Int.emod_nonneg n (by omega : p.1 ≠ 0)
    have nd := Int.mul_ediv_add_emod n p.1
    have e1 : okB qs (n % p.1) = true := by
      have : n % p.1 = n + p.1 * (-(n / p.1)) := by rw [Int.mul_neg]; omega
      rw [this, okB_per dv]
      exact h1
    have e2 := ih _ e1
    have e3 : tot (qs ++ [p]) - n = (tot qs - n % p.1) + p.1 * (p.2 - n / p.1) := by
      rw [tot_app, tot_one, Int.mul_sub]
      omega
    rw [e3, okB_snoc lt, okB_per dv, e2, Int.add_mul_emod_self_left]
    have z1 := Int.mul_ediv_add_emod (tot qs - n % p.1) p.1
    have z2 := Int.mul_nonneg (Int.le_of_lt d) (Int.ediv_nonneg (show 0 ≤ tot qs - n % p.1 by omega) (Int.le_of_lt d))
    exact decide_eq_true (by omega)
theorem okB_symE {us : List (Int × Int)} (h : Prs2 us) (n : Int) : okB us (tot us - n) = okB us n := bool_iff ⟨fun z => by
  have := okB_sym h _ z
  rw [show tot us - (tot us - n) = n by omega] at this
  exact this, okB_sym h n⟩
/-- as many are less than an amount as are more than its counterpart -/
theorem cn_sym {us : List (Int × Int)} (h : Prs2 us) {a : Nat} (ha : (a : Int) ≤ tot us) : cn (okN us) a + cn (okN us) (tot us - a).toNat + (okN us a).toNat = cn (okN us) (tot us + 1).toNat := by
  have e : (tot us + 1).toNat = (a + 1) + (tot us - a).toNat := by omega
  rw [e, cn_add]
  have z : cn (fun n => okN us (a + 1 + n)) (tot us - a).toNat = cn (fun j => okN us ((tot us - a).toNat - 1 - j)) (tot us - a).toNat := cn_congr fun n hn => by
    show okB us ((a + 1 + n : Nat) : Int) = okB us (((tot us - a).toNat - 1 - n : Nat) : Int)
    rw [← okB_symE h]
    congr 1
    omega
  rw [z, cn_rev]
  show _ = cn (okN us) a + (okN us a).toNat + _
  omega
theorem ok_inj {us : List (Int × Int)} {n m : Int} (hn : 0 ≤ n) (hm : 0 ≤ m) (on : okB us n = true) (om : okB us m = true) (e : cn (okN us) n.toNat = cn (okN us) m.toNat) : n = m := by
  have key : ∀ {x y : Int}, 0 ≤ x → x < y → okB us x = true → cn (okN us) x.toNat < cn (okN us) y.toNat := fun {x y} hx lt ox => by
    have : cn (okN us) (x.toNat + 1) ≤ cn (okN us) y.toNat := cn_mono _ (by omega)
    have s : cn (okN us) (x.toNat + 1) = cn (okN us) x.toNat + 1 := by
      show cn (okN us) x.toNat + (okB us (x.toNat : Int)).toNat = _
      rw [Int.toNat_of_nonneg hx, ox]
      rfl
    omega
  rcases Int.lt_trichotomy n m with z | z | z
  · have := key hn z on
    omega
  · exact z
  · have := key hm z om
    omega
/-- what is told of the amount with an index -/
structure AtP (ps : List (Int × Int)) (x : Int) : Prop where
  nn : 0 ≤ atR (stR ps.reverse) x
  le : atR (stR ps.reverse) x ≤ tot ps
  ok : okB ps (atR (stR ps.reverse) x) = true
  cn_ : (cn (okN ps) (atR (stR ps.reverse) x).toNat : Int) = x
theorem cntP_cn {ps : List (Int × Int)} (h : Prs2 ps) : cntP ps = (cn (okN ps) (tot ps + 1).toNat : Int) := below_cn _ _ rfl h _ (by have := tot_nn h; omega)
theorem at_p {ps : List (Int × Int)} (h : Prs2 ps) {x : Int} (h0 : 0 ≤ x) (h1 : x < cntP ps) : AtP ps x := by
  have t0 := tot_nn h
  rw [cntP_cn h] at h1
  obtain ⟨a0, a1, a2⟩ := at_cn h x h0 (fun e => by
    subst e
    have : cn (okN []) (tot [] + 1).toNat ≤ 1 := cn_le _ _
    omega)
  have lt : (atR (stR ps.reverse) x).toNat < (tot ps + 1).toNat := cn_lt (P := okN ps) (by omega)
  exact ⟨a0, by omega, a1, a2⟩
theorem at_below {ps : List (Int × Int)} (h : Prs2 ps) {x : Int} (p : AtP ps x) : belowR (stR ps.reverse) (min (atR (stR ps.reverse) x) (tot ps + 1)) = x ∧ belowR (stR ps.reverse) (min (atR (stR ps.reverse) x + 1) (tot ps + 1)) = x + 1 := by
  obtain ⟨a0, a1, a2, a3⟩ := p
  generalize atR (stR ps.reverse) x = n at a0 a1 a2 a3
  refine ⟨?_, ?_⟩
  · rw [Int.min_eq_left (by omega), below_cn _ _ rfl h _ a0, a3]
  · rw [Int.min_eq_left (by omega), below_cn _ _ rfl h _ (by omega), show (n + 1).toNat = n.toNat + 1 by omega]
    show ((cn (okN ps) n.toNat + (okB ps (n.toNat : Int)).toNat : Nat) : Int) = x + 1
    rw [Int.toNat_of_nonneg a0, a2, Int.natCast_add, a3]
    rfl
theorem at_lt {ps : List (Int × Int)} {x y : Int} (p : AtP ps x) (q : AtP ps y) (h : x < y) : atR (stR ps.reverse) x < atR (stR ps.reverse) y := by
  have := cn_lt (P := okN ps) (a := (atR (stR ps.reverse) x).toNat) (b := (atR (stR ps.reverse) y).toNat) (by have := p.cn_; have := q.cn_; omega)
  have := p.nn
  omega
theorem at_sym {ps : List (Int × Int)} (h : Prs2 ps) {x : Int} (p : AtP ps x) (q : AtP ps (cntP ps - 1 - x)) : atR (stR ps.reverse) (cntP ps - 1 - x) = tot ps - atR (stR ps.reverse) x := by
  obtain ⟨a0, a1, a2, a3⟩ := p
  obtain ⟨b0, b1, b2, b3⟩ := q
  generalize atR (stR ps.reverse) x = n at a0 a1 a2 a3 ⊢
  generalize atR (stR ps.reverse) (cntP ps - 1 - x) = m at b0 b1 b2 b3 ⊢
  refine ok_inj b0 (by omega) b2 (by rw [okB_symE h]; exact a2) ?_
  have z := cn_sym h (a := n.toNat) (by omega)
  rw [show (tot ps - (n.toNat : Int)) = tot ps - n by omega] at z
  have o : (okN ps n.toNat).toNat = 1 := by
    show (okB ps (n.toNat : Int)).toNat = 1
    rw [Int.toNat_of_nonneg a0, a2]
    rfl
  rw [o] at z
  have c := cntP_cn h
  omega
theorem lck_ok (ps : List (Int × Int)) (n : Int) : decide (lck ps n = []) = okB ps n := by
  refine bool_iff ?_
  rw [decide_eq_true_eq, okB_iff]
  unfold lck
  rw [List.filter_eq_nil_iff]
  constructor
  · intro k p hp
    have := k p.1 (List.mem_map_of_mem hp)
    rw [decide_eq_true_eq] at this
    omega
  · intro k s hs
    obtain ⟨p, hp, rfl⟩ := List.mem_map.mp hs
    have := k p hp
    rw [decide_eq_true_eq]
    omega
theorem okB_perm {a b : List (Int × Int)} (p : a.Perm b) (n : Int) : okB a n = okB b n := by
  refine bool_iff ?_
  rw [okB_iff, okB_iff]
  constructor
  · intro h q hq
    rw [← sml_perm p]
    exact h q (p.mem_iff.mpr hq)
  · intro h q hq
    rw [sml_perm p]
    exact h q (p.mem_iff.mp hq)
/-- what the law asks of the sizes of a plain purse -/
theorem bad_ok (ps : List (Int × Int)) (n : Int) : decide ((ps.filter fun p => decide (sml ps p.1 < n % p.1)).map Prod.fst = []) = okB ps n := by
  refine bool_iff ?_
  rw [decide_eq_true_eq, okB_iff, List.map_eq_nil_iff, List.filter_eq_nil_iff]
  constructor
  · intro k p hp
    have := k p hp
    rw [decide_eq_true_eq] at this
    omega
  · intro k p hp
    have := k p hp
    rw [decide_eq_true_eq]
    omega
/-- for an amount: those below it, it, those above it -/
theorem amt_p {ps : List (Int × Int)} (h : Prs2 ps) {n : Int} (h0 : 0 ≤ n) (h1 : n ≤ tot ps) :
    belowR (stR ps.reverse) (min (n + 1) (tot ps + 1)) = belowR (stR ps.reverse) (min n (tot ps + 1)) + ((okB ps n).toNat : Int) ∧
    belowR (stR ps.reverse) (min n (tot ps + 1)) + belowR (stR ps.reverse) (min (tot ps - n) (tot ps + 1)) + ((okB ps n).toNat : Int) = cntP ps := by
  have en : ((n.toNat : Nat) : Int) = n := Int.toNat_of_nonneg h0
  have o : (okN ps n.toNat) = okB ps n := by
    show okB ps (n.toNat : Int) = _
    rw [en]
  refine ⟨?_, ?_⟩
  · rw [Int.min_eq_left (by omega), Int.min_eq_left (by omega), below_cn _ _ rfl h _ (by omega), below_cn _ _ rfl h _ h0, show (n + 1).toNat = n.toNat + 1 by omega]
    show ((cn (okN ps) n.toNat + (okN ps n.toNat).toNat : Nat) : Int) = _
    rw [o, Int.natCast_add]
  · have z := cn_sym h (a := n.toNat) (by omega)
    rw [Int.min_eq_left (by omega), Int.min_eq_left (by omega), below_cn _ _ rfl h _ h0, below_cn _ _ rfl h _ (by omega), cntP_cn h, ← z, o, en]
    omega
/-- the least coin of a plain purse -/
theorem least_p {ps qs : List (Int × Int)} (h : Prs2 qs) (ha : Asc qs) (hp : qs.Perm ps) {m : Int} (hm : m ∈ ps.map Prod.fst ++ [tot qs + 1]) (hl : ∀ y ∈ ps.map Prod.fst ++ [tot qs + 1], m ≤ y) :
    gplB qs = decide (cntP qs = tot qs / m + 1) ∧ 0 < m ∧ (m.natAbs ≤ (tot qs + 1).natAbs) := by
  have t0 := tot_nn h
  cases qs with
  | nil =>
    have e : ps = [] := List.nil_perm.mp hp
    subst e
    have : m = 1 := by
      rw [List.mem_singleton.mp hm]
      rfl
    subst this
    exact ⟨by decide +kernel, by decide, by decide +kernel⟩
  | cons p r =>
    obtain ⟨s0, c0⟩ := h.cnts p List.mem_cons_self
    have mp : p.1 ∈ ps.map Prod.fst := List.mem_map_of_mem (hp.mem_iff.mp List.mem_cons_self)
    have le1 := hl p.1 (List.mem_append_left _ mp)
    have lo : ∀ q ∈ p :: r, p.1 ≤ q.1 := fun q hq => by
      rcases List.mem_cons.mp hq with rfl | z
      · exact Int.le_refl _
      · exact Int.le_of_lt ((List.pairwise_cons.mp ha).1 q.1 (List.mem_map_of_mem z))
    have tp : p.1 ≤ tot (p :: r) := by
      have e : tot (p :: r) = p.1 * p.2 + tot r := by unfold tot; rw [List.map_cons, List.sum_cons]
      have m1 : p.1 * 1 ≤ p.1 * p.2 := Int.mul_le_mul_of_nonneg_left c0 (Int.le_of_lt s0)
      have tr : 0 ≤ tot r := by
        have : ∀ {a : List (Int × Int)}, (∀ q ∈ a, 0 ≤ q.1 * q.2) → 0 ≤ tot a := fun {a} => by
          induction a with
          | nil => exact fun _ => Int.le_refl 0
          | cons x t ih =>
            intro h
            have e : tot (x :: t) = x.1 * x.2 + tot t := by unfold tot; rw [List.map_cons, List.sum_cons]
            have h1 := ih fun q hq => h q (List.mem_cons_of_mem _ hq)
            have h2 := h x List.mem_cons_self
            omega
        exact this fun q hq => by
          obtain ⟨h1, h2⟩ := h.cnts q (List.mem_cons_of_mem _ hq)
          exact Int.mul_nonneg (Int.le_of_lt h1) (Int.le_of_lt h2)
      omega
    have em : m = p.1 := by
      rcases List.mem_append.mp hm with z | z
      · obtain ⟨q, hq, e⟩ := List.mem_map.mp z
        have := lo q (hp.mem_iff.mpr hq)
        omega
      · have := List.mem_singleton.mp z
        omega
    subst em
    exact ⟨rfl, s0, by omega⟩
end Ck
namespace Ck
open PySem PySem.Spec PyProof.Rows L2 StX Evl
theorem nolock {X : Cx} {e : Expr} {t : TE} (h : PE X e t) : PE X e t := h
section
variable {K : PySem.W.Frag} {σ : L2.St} {H : Hp} {td te : TE} {tt : TT} {d : Addr} {od : Obj} {kvs : List (Key × V)} {j : Nat} {ws : List Nat}
/-- [e for k in d if t], d locked by a loop around -/
theorem el_lcKF (f : Nat → Bool) (v : Nat → V) (hv : ∀ H1, Ev td σ H1 (.ref d)) (hd : H d = some (.frz od (.dK kvs))) (hl : kvs.length ≤ 40000) (hw : ∀ x, wipe ((wipe σ ws).set j (some x)) ws = wipe σ ws)
    (ht : ∀ i k x H1, kvs[i]? = some (k, x) → Ex H H1 → EvT tt ((wipe σ ws).set j (some (kV k))) H1 (f i)) (he : ∀ i k x H1, kvs[i]? = some (k, x) → Ex H H1 → f i = true → Ev te ((wipe σ ws).set j (some (kV k))) H1 (v i)) :
    EvL (tLc (iKeys td) (gName j) tt te ws) σ H (given kvs.length f v) := fun H0 e Q q => by
  refine hv _ _ (Ex.refl _) _ fun H2 e2 => ?_
  have e02 := e.trans e2
  have hd2 := e02 _ _ hd
  refine ⟨d, od, rfl, .inl ⟨kvs, hd2, fun D hD => ?_⟩⟩
  refine lc_it walk_keys (Cw H2 f v D) ⟨hD, Ex.new hD, upd_same⟩ (fun _ _ _ p => p.2.1 _ _ hd2) ?_ (fun H' p => ?_)
  · rintro i _ H' _ hi p ⟨rfl, k, x, hk, rfl⟩
    exact ⟨hw _, cw_turn p (by omega) (ht i k x H2 hk e02) (fun hf => he i k x H2 hk e02 hf)⟩
  · obtain ⟨p1, p2, p3⟩ := p
    exact q D _ (fresh_back e2 p1) (e2.trans p2) p3
end
def spSmtF : Sp := fun vs H Q _ => ∃ d s ps, vs = [.ref d, .int s] ∧ (∃ od, H d = some (.frz od (.dK (ps.map kc)))) ∧ Cts ps ∧ ∀ H', Ex H H' → Q (.int (sml ps s)) H'
theorem smt_vF {H0 H : Hp} {g : Addr} {s : Int} {ps : List (Int × Int)} (hf : Fz g (.dK (ps.map kc)) H0 H) (hc : Cts ps) : SpV spSmtF [.ref g, .int s] H (.int (sml ps s)) := fun H1 e Q q E => ⟨g, s, ps, rfl, (hf.to e).2, hc, q⟩
end Ck
namespace Ck
open PySem PySem.Spec PyProof.Rows L2 StX Evl
section
variable {K : PySem.W.Frag} {σ : L2.St} {H : Hp} {ta tb te tl : TE} {d : Addr} {ps : List (Int × Int)} {ns : List Int} {xs ys : List V}
theorem el_keysL (h : Ev te σ H (.ref d)) (hd : H d = some (.dK (ps.map kc))) : EvL (tCB rListD (tCons te tNil)) σ H ((ps.map Prod.fst).map V.int) := fun H1 e Q q => h H1 e _ fun H2 e2 => ⟨d, ps.map kc, rfl, e2 _ _ (e _ _ hd), fun p hp => q p _ (fresh_back e2 hp) (e2.trans (Ex.new hp)) (by rw [upd_same, List.map_map, List.map_map]; rfl)⟩
theorem el_catL (ha : EvL ta σ H xs) (hb : EvL tb σ H ys) (hz : xs.length + ys.length ≤ 100000) : EvL (tOp rCat ta tb) σ H (xs ++ ys) := fun H1 e Q q => ha H1 e _ fun a H2 n2 e2 hx => hb H2 (e.trans e2) _ fun b H3 n3 e3 hy =>
  ⟨a, b, xs, ys, rfl, rfl, e3 _ _ hx, hy, sz_of hz, fun p hp => q p _ (fresh_back (e2.trans e3) hp) ((e2.trans e3).trans (Ex.new hp)) upd_same⟩
/-- x = min(l) -/
theorem q_minL {z : TS} {D : Ends} {i : Nat} (h : EvL tl σ H (ns.map V.int)) (h0 : 0 < ns.length) (k : ∀ m H1, Ex H H1 → m ∈ ns → (∀ y, y ∈ ns → m ≤ y) → z D (σ.set i (some (.int m))) H1) : tSeq (tAsg (tCB (rMin K) (tCons tl tNil)) (gName i)) z D σ H :=
  h H (Ex.refl H) _ fun p H1 _ e hp => ⟨p, ns, rfl, SqL.of hp, h0, fun m hm hle => k m H1 e hm hle⟩
end
theorem tot_le2 {A B : Int} (hA : 0 ≤ A) (hB : 0 ≤ B) : ∀ {ps : List (Int × Int)}, (∀ p ∈ ps, (0 < p.1 ∧ p.1 ≤ A) ∧ 0 < p.2 ∧ p.2 ≤ B) → 0 ≤ tot ps ∧ tot ps ≤ ps.length * (A * B)
  | [], _ => ⟨Int.le_refl 0, by
    show (0 : Int) ≤ ((0 : Nat) : Int) * (A * B)
    rw [show ((0 : Nat) : Int) = 0 from rfl, Int.zero_mul]
    exact Int.le_refl 0⟩
  | p :: r, h => by
    obtain ⟨a, b⟩ := tot_le2 hA hB fun q hq => h q (List.mem_cons_of_mem _ hq)
    obtain ⟨⟨h1, h2⟩, h3, h4⟩ := h p List.mem_cons_self
    have e : tot (p :: r) = p.1 * p.2 + tot r := by
      unfold tot
      rw [List.map_cons, List.sum_cons]
    have m1 : 0 ≤ p.1 * p.2 := Int.mul_nonneg (by omega) (by omega)
    have m2 : p.1 * p.2 ≤ A * B := Int.mul_le_mul h2 h4 (by omega) hA
    rw [e, List.length_cons, Int.natCast_add, Int.add_mul]
    refine ⟨by omega, ?_⟩
    show _ ≤ _ + 1 * (A * B)
    rw [Int.one_mul]
    omega
end Ck
namespace Ck
open PySem PySem.Spec PyProof.Rows L2 StX Evl
theorem grt_facts {ns : List Int} {L : Int} {ps : List (Int × Int)} (hc : Chd ns L) (hL : L < 10 ^ 27) (hl : ps.length ≤ 6) (nd : (ps.map Prod.fst).Nodup) (sub : ∀ p ∈ ps, p.1 ∈ ns ∧ 0 < p.2 ∧ p.2 ≤ 10 ^ 31) : Cts ps ∧ 0 ≤ tot ps ∧ tot ps < 10 ^ 60 := by
  have A : ∀ p ∈ ps, (0 < p.1 ∧ p.1 ≤ 10 ^ 27) ∧ 0 < p.2 ∧ p.2 ≤ 10 ^ 31 := fun p hp => by
    obtain ⟨m, c⟩ := sub p hp
    obtain ⟨h1, h2, _⟩ := hc.pos _ m
    exact ⟨⟨h1, by omega⟩, c⟩
  obtain ⟨t0, t1⟩ := tot_le2 (by decide) (by decide) A
  have s1 : (10 : Nat) ^ 27 < 10 ^ 200 := by decide +kernel
  have s2 : (10 : Nat) ^ 31 < 10 ^ 200 := by decide +kernel
  refine ⟨⟨nd, by omega, fun p hp => ?_⟩, t0, ?_⟩
  · obtain ⟨⟨h1, h2⟩, h3, h4⟩ := A p hp
    exact ⟨siz_of h1 (Nat.lt_of_le_of_lt (show _ ≤ 10 ^ 27 by omega) s1), siz_of h3 (Nat.lt_of_le_of_lt (show _ ≤ 10 ^ 31 by omega) s2)⟩
  · have m : (ps.length : Int) * (10 ^ 27 * 10 ^ 31) ≤ 6 * (10 ^ 27 * 10 ^ 31) := Int.mul_le_mul_of_nonneg_right (by omega) (by decide)
    have b : (6 : Int) * (10 ^ 27 * 10 ^ 31) < 10 ^ 60 := by decide +kernel
    omega
theorem pur_facts2 {ns : List Int} {L : Int} {ps qs : List (Int × Int)} (hc : Chd ns L) (sub : ∀ p ∈ ps, p.1 ∈ ns ∧ 0 < p.2) (hp : qs.Perm ps) (ha : Asc qs) : Prs2 qs ∧ Chn qs := by
  have D : ∀ p ∈ qs, ∀ r ∈ qs, p.1 < r.1 → p.1 ∣ r.1 := fun p hp1 r hr1 lt => hc.dvd (sub p (hp.mem_iff.mp hp1)).1 (sub r (hp.mem_iff.mp hr1)).1 lt
  exact ⟨prs2_of _ qs rfl ha (fun p hp1 => ⟨(hc.pos _ (sub p (hp.mem_iff.mp hp1)).1).1, (sub p (hp.mem_iff.mp hp1)).2⟩) D, chn_of ha D⟩
end Ck
namespace Ck
open PySem PySem.Spec PyProof.Rows L2 StX Evl
section
variable {K : PySem.W.Frag} {H H' : Hp} {d : Addr}
theorem dice_ne {b : Addr} {o : HO} (hd : Dice H d) (h : H b = some o) (n : ∀ xs, o ≠ .lst xs) : b ≠ d := fun e => by
  obtain ⟨x, y, z, q⟩ := hd
  rw [e, q] at h
  exact n _ (Option.some.inj h).symm
theorem sqT_kp {t : Addr} {xs : List V} (hd : Dice H d) (k : Kp d H H') (h : SqT K H t xs) : SqT K H' t xs := by
  rcases h with (h | ⟨o, h⟩) | h
  · exact .inl (.inl (k _ _ (dice_ne hd h fun _ z => by cases z) h))
  · exact .inl (.inr ⟨o, k _ _ (dice_ne hd h fun _ z => by cases z) h⟩)
  · exact .inr h
theorem LotAt.kp {C a : Addr} {ps : List (Int × Int)} (hd : Dice H d) (k : Kp d H H') (h : LotAt K C H a ps) : LotAt K C H' a ps := by
  obtain ⟨dx, t1, t2, c, ts, h1, h2, h3, h4, h5⟩ := h
  refine ⟨dx, t1, t2, c, ts, k _ _ (dice_ne hd h1 fun _ z => by cases z) h1, sqT_kp hd k h2, sqT_kp hd k h3, h4.imp fun x b r => ?_, ?_⟩
  · obtain ⟨t, e, r⟩ := r
    exact ⟨t, e, sqT_kp hd k r⟩
  · rcases h5 with h5 | ⟨o, h5⟩
    · exact .inl (k _ _ (dice_ne hd h5 fun _ z => by cases z) h5)
    · exact .inr ⟨o, k _ _ (dice_ne hd h5 fun _ z => by cases z) h5⟩
theorem Pas.kd {C a : Addr} {ps : List (Int × Int)} (hd : Dice H d) (k : Kd d H H') (h : Pas K C H a ps) : Pas K C H' a ps := ⟨⟨h.pur.at_.kp hd k.1, h.pur.ct, h.pur.asc, h.pur.ch⟩, h.prs, h.big⟩
end
end Ck
namespace Ck
open PySem PySem.Spec PyProof.Rows L2 StX Evl
section
variable {K : PySem.W.Frag} {σ : L2.St} {H : Hp} {ta tb : TE}
theorem dispE2 {a b c d : Int} (ha : ∀ H1, Ev ta σ H1 (.int b)) (hb : ∀ H1, Ev tb σ H1 (.int d)) (n : (([(a, b), (c, d)] : List (Int × Int)).map Prod.fst).Nodup) (Q : VK) (q : ∀ p H1, Ex H H1 → H1 p = some (.dK (([(a, b), (c, d)] : List (Int × Int)).map kc)) → Q (.ref p) H1) :
    tDisp [(tC (.int a), ta), (tC (.int c), tb)] σ H Q := fun p hp0 => ha _ _ (Ex.refl _) _ fun H2 e2 => hb _ _ (Ex.refl _) _ fun H3 e3 => ⟨(e2.trans e3) _ _ upd_same, [(a, b), (c, d)].map kc, rfl, (show 2 ≤ 15 by decide), by
  rw [merge_kc n]
  exact q p _ (Ex.mut ((Ex.new hp0).trans (e2.trans e3)) hp0) upd_same⟩
theorem q_parLots {z : TS} {D : Ends} {i j : Nat} {Pa Pb : Addr → Hp → Prop} (h1 : ∀ Q : VK, (∀ a H', Ex H H' → Pa a H' → Q (.ref a) H') → ta σ H Q) (h2 : ∀ H1, Ex H H1 → ∀ Q : VK, (∀ a H', Ex H1 H' → Pb a H' → Q (.ref a) H') → tb σ H1 Q)
    (k : ∀ a b H1 H', Ex H H1 → Ex H1 H' → Pa a H1 → Pb b H' → z D ((σ.set i (some (.ref a))).set j (some (.ref b))) H') : tSeq (tPar i j (tCons ta (tCons tb tNil))) z D σ H := h1 _ fun a H1 e1 p => h2 H1 e1 _ fun b H2 e2 p2 => ⟨_, _, rfl, k a b H1 H2 e1 e2 p p2⟩
end
end Ck

/-! sorted(d, reverse=True) of a dict from ints; o.m(e), m a def of the class; dict(d) -/
namespace Ck
open PySem PySem.Spec PyProof.Rows L2
section
variable {X : Cx}
def rSortedDR : List V → List V → Hp → VK → Prop := fun vs zs H Q => ∃ (a : Addr) (kvs : List (Key × V)) (ks : List Int), vs = [.ref a] ∧ zs = [.bl true] ∧ Rd H a (.dK kvs) ∧ kvs.map (·.1) = ks.map Sum.inl ∧ ks.length < 4000 ∧
  ∀ (ys : List Int) (p : Addr), ys.Perm ks → ys.Pairwise (· ≥ ·) → H p = none → Q (.ref p) (upd H p (.lst (ys.map V.int)))
theorem cr_sortedDR (hcalm : X.calm = true) : CallRK X (.builtin "sorted") [Str.ofString "reverse"] rSortedDR := by
  intro pins s σ H xs zs us ws Q I r rz q
  obtain ⟨a, kvs, ks, rfl, rfl, hd, hks, h64, q⟩ := q
  obtain rfl := Vals.ref1 r
  obtain ⟨w1, rfl, e1⟩ := vals1 rz
  obtain rfl : w1 = Value.bool true := e1
  obtain ⟨z, lo, vs, rel, dd⟩ := dk_rd I.hok hd
  obtain ⟨ep, hat⟩ := dd.dictAt
  have hkeys : vs.map (·.1) = ks.map Sum.inl := rel.keys.symm.trans hks
  have hl : vs.length = ks.length := by
    have e := congrArg List.length hkeys
    rw [List.length_map, List.length_map] at e
    exact e
  have h16 : vs.length ≤ sizeLine := by rw [hl, sizeLine_eq]; omega
  refine call_function_entry_kw PyProof.Rows.kind_sorted PyProof.Rows.plain_sorted PyProof.Rows.entry_sorted (PyProof.Rows.args_sorted_rev _ _) ?_
  unfold Builtin.«sorted»
  refine wpAny_bind (m := checkCount "sorted" 1 1 _) (wpAny_pure ?_)
  refine wpAny_bind (PySem.W.kdu_collect (A := X.A.in1) (PySem.W.kdl_dict (knd := mixKind X.prog X.w) (kvs := vs) (ep := ep) lo) (I.ok.hd hcalm) hat h16 fun h' tk acc hk hacc => ?_)
  have hal : acc.toList.length = ks.length := by rw [Array.length_toList, hacc.1, hl]
  have hS : IntsAre acc.toList ks := ints_each hal fun j v e => by
    obtain ⟨k, x, e1, e2⟩ := hacc.2 j v (by rw [← Array.getElem?_toList]; exact e)
    have e3 : (vs.map (·.1))[j]? = some k := by rw [List.getElem?_map, e1]; rfl
    rw [hkeys, List.getElem?_map] at e3
    cases e4 : ks[j]? with
    | none => rw [e4] at e3; cases e3
    | some y =>
      rw [e4] at e3
      have e5 : Sum.inl y = k := Option.some.inj e3
      subst e5
      rcases keyIs_shape (show keyIs (Sum.inl y) v = true from e2) with ⟨i, t, ek, ev⟩ | ⟨z, t, ek, ev⟩
      · cases ek
        exact ⟨y, t, rfl, ev⟩
      · cases ek
  have I1 : Inv X pins σ H { s with heap := h', toks := tk } := I.kept hk
  have small : acc.toList.length ≤ sizeLine := by rw [hal, sizeLine_eq]; omega
  refine wpAny_bind (wpAny_newList ?_ small)
  have hoL : (h'.push (seqObj "list" acc.toList.toArray 0)).get? h'.objs.size = some (seqObj "list" acc.toList.toArray 0) := Heap.get?_push_size _ rfl
  show wpAny _ _ _ _ _ { s with heap := h'.push (seqObj "list" acc.toList.toArray 0), toks := tk }
  refine wpAny_bind (wpAny_holding (wpAny_call_entry_kw PyProof.Rows.slot_list_sort ⟨_, hoL, rfl⟩ PyProof.Rows.entry_list_sort
    (SrtR.list_sort_ordR (b := true) (s := { s with heap := h'.push (seqObj "list" acc.toList.toArray 0), toks := tk }) SrtO.swo_int hoL small (fun h2 => SrtO.ints_sortable hS h2) fun out h1 h2 => ⟨_, rfl, ?_⟩) (PyProof.Rows.args_list_sort_rev _ _)))
  obtain ⟨ys, g1, g2, g3⟩ := SrtR.ints_outR (b := true) hS h1 h2
  obtain ⟨e', he'⟩ := PyProof.Rows.sortedHeap_at (vs := acc.toList) (out := if true = true then out.toArray.reverse else out.toArray) hoL
  have hlen : (ys.map V.int).length ≤ sizeLine := by
    rw [List.length_map, g2.length_eq, sizeLine_eq]
    omega
  refine wpAny_pure ⟨_, rfl, .ref h'.objs.size, upd H h'.objs.size (.lst (ys.map V.int)), I1.laid (t' := tk) (fun b u e => ?_) (Nat.le_refl _)
    (show ObjOk X.prog X.w _ _ _ (.lst (ys.map V.int)) from ⟨hlen, _, e', vals_of_ints g1, by rw [Array.toArray_toList]; exact he'⟩), rfl, q ys _ g2 g3 (I1.hok.fresh (Nat.le_refl _))⟩
  have hb : b < h'.objs.size := Heap.lt_size e
  rw [PyProof.Rows.sortedHeap_old (Nat.ne_of_lt hb) (by rw [size_push']; exact Nat.lt_succ_of_lt hb)]
  exact Heap.get?_push_of_some _ e
end
/-- a method by a promise of its def -/
def Mg (P : Program) (w : World) (K : PySem.W.Frag) (mg : Str → Option Value) (base : Heap) (k : Nat) (C : Addr) (m : Str) (ps : List Str) (sp : Sp) : Prop :=
  Cls K C ∧ ∃ g fd, Meth K C m g ∧ FnOk P w K mg base CX0 k g fd ps sp ∧ Binds K fd ps []
section
variable {X : Cx} {k j : Nat} {C : Addr} {m : Str} {sp : Sp} {ps : List Str} {e o : Expr} {es : List Expr} {ta : TE} {t : TA} {apos pos : Pos} {pl : Sem Bool}
theorem mg_og {P : Program} {w : World} {K : PySem.W.Frag} {mg : Str → Option Value} {base : Heap} (c : Og P w K mg base k C m ps sp) : Mg P w K mg base k C m ps sp := by
  obtain ⟨hc, g, fd, hs, hfn, hf, kp, F, b⟩ := c
  exact ⟨hc, g, fd, ⟨hs, hfn, kp⟩, F, b⟩
theorem pmeth (c : Og X.prog X.w X.K X.mg X.base k C m ps sp) (hr : Room j X.A) (he : PE X o ta) (ha : PA X (e :: es) t) (hk : k ≤ j := by decide)
    (hst : starEach (e :: es) X.env = (false, eval e X.env) :: starEach es X.env := by rfl) (hpl : (backTo pos (starEach es X.env)).any (·.1) = false := by rfl)
    (ht : eval (.Call (.Attribute o m apos) (e :: es) [] pos) X.env = (do
      let ov ← eval o X.env
      standAt apos.atName
      let (f, first) ← holding [ov] (getMethod ov m pl)
      callWith pos f first (backTo pos (starEach (e :: es) X.env)) (backToKw pos (keywordEach [] X.env))) := by rfl) :
    PE X (.Call (.Attribute o m apos) (e :: es) [] pos) (tMeth C m sp [] E0 ta t) := by
  obtain ⟨hc, g, fd, hs, hfn, hf, kp, F, b⟩ := c
  exact pe_meth (pl := pl) he hc ⟨hs, hfn, kp⟩ F (hr.mono hk) b .nil pass0 ha hst hpl ht
end
end Ck

/-! paying with the greatest coins first; pay papers -/
namespace Ck
open PySem PySem.Spec PyProof.Rows L2 StX Evl
/-- how many coins of a size are taken -/
abbrev gfM (p : Int × Int) (n : Int) : Int := min p.2 (n / p.1)
/-- the coins that are taken, from the greatest -/
def gfT : List (Int × Int) → Int → List (Int × Int)
  | [], _ => []
  | p :: r, n => (if 0 < gfM p n then [(p.1, gfM p n)] else []) ++ gfT r (n - gfM p n * p.1)
/-- what is left -/
def gfL : List (Int × Int) → Int → Int
  | [], n => n
  | p :: r, n => gfL r (n - gfM p n * p.1)
theorem gf_mem : ∀ (l : List (Int × Int)) (n : Int), ∀ x ∈ gfT l n, ∃ p ∈ l, x.1 = p.1 ∧ 0 < x.2 ∧ x.2 ≤ p.2
  | p :: r, n, x, hx => by
    rcases List.mem_append.mp hx with m | m
    · by_cases z : 0 < gfM p n
      · rw [if_pos z] at m
        rw [List.mem_singleton.mp m]
        exact ⟨p, List.mem_cons_self, rfl, z, by show gfM p n ≤ p.2; unfold gfM; omega⟩
      · rw [if_neg z] at m
        cases m
    · obtain ⟨q, hq, e⟩ := gf_mem r _ x m
      exact ⟨q, List.mem_cons_of_mem _ hq, e⟩
theorem gf_keys : ∀ (l : List (Int × Int)) (n : Int), ((gfT l n).map Prod.fst).Sublist (l.map Prod.fst)
  | [], _ => List.Sublist.refl _
  | p :: r, n => by
    show (((if 0 < gfM p n then [(p.1, gfM p n)] else []) ++ gfT r (n - gfM p n * p.1)).map Prod.fst).Sublist (p.1 :: r.map Prod.fst)
    by_cases z : 0 < gfM p n
    · rw [if_pos z]
      exact (gf_keys r _).cons_cons p.1
    · rw [if_neg z]
      exact (gf_keys r _).cons p.1
theorem tot_cons (p : Int × Int) (r : List (Int × Int)) : tot (p :: r) = p.1 * p.2 + tot r := by
  unfold tot
  rw [List.map_cons, List.sum_cons]
theorem gf_tot : ∀ (l : List (Int × Int)) (n : Int), (∀ p ∈ l, 0 < p.1 ∧ 0 < p.2) → 0 ≤ n → tot (gfT l n) + gfL l n = n ∧ 0 ≤ gfL l n
  | [], n, _, h0 => ⟨by show (0 : Int) + n = n; omega, h0⟩
  | p :: r, n, h, h0 => by
    obtain ⟨d, c⟩ := h p List.mem_cons_self
    have nd := Int.mul_ediv_add_emod n p.1
    have nm := Int.emod_nonneg n (by omega : p.1 ≠ 0)
    have q0 := Int.ediv_nonneg h0 (Int.le_of_lt d)
    have mm : gfM p n * p.1 ≤ n / p.1 * p.1 := Int.mul_le_mul_of_nonneg_right (by unfold gfM; omega) (Int.le_of_lt d)
    rw [Int.mul_comm (n / p.1)] at mm
    obtain ⟨a, b⟩ := gf_tot r (n - gfM p n * p.1) (fun q hq => h q (List.mem_cons_of_mem _ hq)) (by omega)
    refine ⟨?_, b⟩
    show tot ((if 0 < gfM p n then [(p.1, gfM p n)] else []) ++ gfT r (n - gfM p n * p.1)) + gfL r (n - gfM p n * p.1) = n
    rw [tot_app]
    by_cases z : 0 < gfM p n
    · rw [if_pos z, tot_one]
      have e : p.1 * gfM p n = gfM p n * p.1 := Int.mul_comm _ _
      show p.1 * gfM p n + _ + _ = n
      omega
    · have z0 : gfM p n = 0 := by unfold gfM at *; omega
      have hz : gfM p n * p.1 = 0 := by rw [z0, Int.zero_mul]
      rw [if_neg z]
      have : tot [] = 0 := rfl
      omega
/-- a payable amount comes out -/
theorem gf_pay {qs : List (Int × Int)} (h : Prs2 qs) : ∀ n : Int, Pay qs n → gfL qs.reverse n = 0 := by
  induction h with
  | nil =>
    rintro n ⟨n0, n1, _⟩
    show n = 0
    have : tot [] = 0 := rfl
    omega
  | @snoc qs p h d c lt dv ih =>
    rintro n ⟨n0, n1, n2⟩
    have tq : tot (qs ++ [p]) = tot qs + p.1 * p.2 := by rw [tot_app, tot_one]
    obtain ⟨s1, s2⟩ := sml_snoc (p := p) lt
    rw [tq] at n1
    have np := n2 p (List.mem_append_right _ (List.mem_singleton.mpr rfl))
    rw [s2] at np
    have nd : p.1 * (n / p.1) + n % p.1 = n := Int.mul_ediv_add_emod n p.1
    have nm := Int.emod_nonneg n (by omega : p.1 ≠ 0)
    rw [List.reverse_append]
    show gfL qs.reverse (n - gfM p n * p.1) = 0
    refine ih _ ?_
    have key : ∀ k : Int, 0 ≤ n - k * p.1 → n - k * p.1 ≤ tot qs → Pay qs (n - k * p.1) := fun k h1 h2 => ⟨h1, h2, fun q hq => by
      rw [Int.mul_comm k, mod_sub (dv q hq), ← s1 q hq]
      exact n2 q (List.mem_append_left _ hq)⟩
    by_cases z : n / p.1 ≤ p.2
    · rw [show gfM p n = n / p.1 by unfold gfM; omega]
      have e : n / p.1 * p.1 = p.1 * (n / p.1) := Int.mul_comm _ _
      exact key _ (by omega) (by omega)
    · rw [show gfM p n = p.2 by unfold gfM; omega]
      have e : p.2 * p.1 = p.1 * p.2 := Int.mul_comm _ _
      have z2 : p.1 * p.2 ≤ p.1 * (n / p.1) := Int.mul_le_mul_of_nonneg_left (by omega) (Int.le_of_lt d)
      exact key _ (by omega) (by omega)
/-- the payment, ascending -/
def fwL (ps : List (Int × Int)) (n : Int) : List (Int × Int) := (gfT ps.reverse n).reverse
theorem fw_asc {ps : List (Int × Int)} (ha : Asc ps) (n : Int) : Asc (fwL ps n) := by
  unfold Asc fwL
  have z := (gf_keys ps.reverse n).reverse
  rw [← List.map_reverse, ← List.map_reverse, List.reverse_reverse] at z
  exact List.Pairwise.sublist z ha
theorem fw_cts {ps : List (Int × Int)} (hc : Cts ps) (ha : Asc ps) (n : Int) : Cts (fwL ps n) := by
  have z := (gf_keys ps.reverse n).length_le
  rw [List.length_map, List.length_map, List.length_reverse] at z
  refine ⟨asc_nodup (fw_asc ha n), by unfold fwL; rw [List.length_reverse]; exact Nat.le_trans z hc.ln, fun x hx => ?_⟩
  obtain ⟨p, hp, e, h1, h2⟩ := gf_mem _ _ x (List.mem_reverse.mp hx)
  obtain ⟨s1, s2⟩ := hc.ok p (List.mem_reverse.mp hp)
  exact ⟨by rw [e]; exact s1, siz_of h1 (Nat.lt_of_le_of_lt (show _ ≤ p.2.natAbs by omega) (siz_int s2).2)⟩
/-- a lot is a part of another one -/
def partB (qs ps : List (Int × Int)) : Bool := qs.all fun q => decide (q.2 ≤ (cnt ps q.1).getD 0)
theorem fw_part {ps : List (Int × Int)} (hc : Cts ps) (n : Int) : partB (fwL ps n) ps = true := by
  unfold partB
  rw [List.all_eq_true]
  intro x hx
  obtain ⟨p, hp, e, h1, h2⟩ := gf_mem _ _ x (List.mem_reverse.mp hx)
  rw [e, (cnt_mem hc.nd).mp (show (p.1, p.2) ∈ ps from List.mem_reverse.mp hp)]
  exact decide_eq_true h2
theorem fw_tot {ps : List (Int × Int)} (h : Prs2 ps) {n : Int} (hp : Pay ps n) : tot (fwL ps n) = n := by
  obtain ⟨a, _⟩ := gf_tot ps.reverse n (fun p hp => h.cnts p (List.mem_reverse.mp hp)) hp.1
  rw [gf_pay h n hp, Int.add_zero] at a
  unfold fwL
  rw [tot_perm (List.reverse_perm _)]
  exact a
/-! ### promises -/
def spCounts (K : PySem.W.Frag) (C : Addr) : Sp := fun vs H Q _ => ∃ a ps, vs = [.ref a] ∧ LotAt K C H a ps ∧ ∀ p H', Ex H H' → H p = none → H' p = some (.dK (ps.map kc)) → Q (.ref p) H'
def spPartOf (K : PySem.W.Frag) (C : Addr) : Sp := fun vs H Q _ => ∃ a b qs ps, vs = [.ref a, .ref b] ∧ LotAt K C H a qs ∧ LotAt K C H b ps ∧ Cts qs ∧ ∀ H', Ex H H' → Q (.bl (partB qs ps)) H'
def spGf : Sp := fun vs H Q _ => ∃ d n ps, vs = [.ref d, .int n] ∧ H d = some (.dK (ps.map kc)) ∧ Cts ps ∧ 0 ≤ n ∧
  (gfL (srt ps).reverse n = 0 → ∀ t H', Ex H H' → H t = none → H' t = some (.dK ((gfT (srt ps).reverse n).map kc)) → Q (.ref t) H') ∧ (gfL (srt ps).reverse n ≠ 0 → ∀ H', Ex H H' → Q .non H')
def spPaid (K : PySem.W.Frag) (C : Addr) : Sp := fun vs H Q _ => ∃ a n ps, vs = [.ref a, .int n] ∧ Pas K C H a ps ∧ cntB n = true ∧ Pay ps n ∧ ∀ H', Ex H H' → Q .non H'
def spFc (K : PySem.W.Frag) (C : Addr) : Sp := fun vs H Q _ => ∃ a n ps, vs = [.ref a, .int n] ∧ Pas K C H a ps ∧ cntB n = true ∧ Pay ps n ∧ ∀ b H', Ex H H' → LotAt K C H' b (fwL ps n) → Q (.ref b) H'
theorem pay_can {ps : List (Int × Int)} {n : Int} (h : Pay ps n) : (decide (lck ps n = []) && decide (n ≤ tot ps)) = true := by
  rw [lck_ok, ((pay_ok n).mp h).2.2, decide_eq_true h.2.1]
  rfl
/-- what a pay paper may be: the word with what stands beside it -/
inductive PpV (K : PySem.W.Frag) (C : Addr) (H : Hp) (t : Addr) (ps : List (Int × Int)) (n : Int) : Prop
  | lacks (s : Int) (r : List Int) (e : lck ps n = s :: r) (h : SqT K H t [.str "lacks", .int s])
  | over (e : lck ps n = []) (o : tot ps < n) (h : SqT K H t [.str "over", .int (tot ps)])
  | paid (p : Pay ps n) (b : Addr) (h : SqT K H t [.str "paid", .ref b]) (l : LotAt K C H b (fwL ps n))
def spPp (K : PySem.W.Frag) (C : Addr) : Sp := fun vs H Q _ => ∃ a n ps, vs = [.ref a, .int n] ∧ Pas K C H a ps ∧ cntB n = true ∧ ∀ t H', Ex H H' → PpV K C H' t ps n → Q (.ref t) H'
end Ck
namespace Ck
open PySem PySem.Spec PyProof.Rows L2 StX Evl
/-- the truth of a tuple of ints -/
theorem et_tupN {K : PySem.W.Frag} {σ : L2.St} {H : Hp} {te : TE} {t : Addr} {ns : List Int} (h : Ev te σ H (.ref t)) (ht : SqT K H t (ns.map V.int)) : EvT (fun σ H Q => te σ H fun x H' => ∃ k, TruV K x H' k ∧ Q k H') σ H (!decide (ns = [])) := fun H1 e _ q => h H1 e _ fun H2 e2 => ⟨!decide (ns = []), .inr (.inl ⟨ns.map V.int, ex_t (e.trans e2) ht, by cases ns <;> rfl⟩), q H2 e2⟩
end Ck
namespace Ck
open PySem PySem.Spec PyProof.Rows L2 StX Evl
section
variable {K : PySem.W.Frag}
theorem kit_ofT {T : String} {C : Addr} {b : Bool} (h : PySem.W.subIn K (.type T) (.ref C) = some b) (hc : PySem.W.isClsIn K C = true) (ht : PySem.W.typeIn K (.ref C) = some (.type "type")) : PySem.W.kitOne K (.type T) (.ref C) = some b := by
  unfold PySem.W.kitOne
  rw [if_neg (by simp)]
  show (if ((PySem.W.clsIn K C).isSome && PySem.W.typeIn K (.ref C) == some (.type "type")) = true then PySem.W.subIn K (.type T) (.ref C) else none) = some b
  rw [if_pos (by rw [show (PySem.W.clsIn K C).isSome = true from hc, ht]; rfl), h]
theorem kit_toT {D : Addr} {T : String} {b : Bool} (h : PySem.W.subIn K (.ref D) (.type T) = some b) (hm : PySem.W.kitMeta T = true) : PySem.W.kitOne K (.ref D) (.type T) = some b := by
  show (if PySem.W.kitMeta T = true then PySem.W.subIn K (.ref D) (.type T) else none) = some b
  rw [if_pos hm, h]
/-- what isinstance says of a lot, and of other values -/
structure LotK (K : PySem.W.Frag) (C : Addr) : Prop where
  int : PySem.W.kitOne K (.ref C) (.type "int") = some false
  dict : PySem.W.kitOne K (.type "dict") (.ref C) = some false
  num : PySem.W.kitOne K (.type "int") (.ref C) = some false
end
/-- a number, another value, or a lot -/
def spNumL (K : PySem.W.Frag) (C : Addr) (p : Int → Bool) : Sp := fun vs H Q _ => ∃ x b, vs = [x] ∧ (NumV K p H x b ∨ ((∃ a ps, x = .ref a ∧ LotAt K C H a ps) ∧ b = false)) ∧ ∀ H', Ex H H' → Q (.bl b) H'
section
variable {K : PySem.W.Frag} {C : Addr} {p : Int → Bool} {H : Hp} {i : Int} {x : V}
theorem numL_i : SpV (spNumL K C p) [.int i] H (.bl (p i)) := fun H1 _ Q q E => ⟨.int i, _, rfl, .inl (.inl ⟨i, rfl, rfl⟩), q⟩
/-- no number, and no bool of the kind -/
def OddL (K : PySem.W.Frag) (C : Addr) (H : Hp) (x : V) : Prop := OddI K H x ∨ ∃ a ps, x = .ref a ∧ LotAt K C H a ps
theorem OddL.up {H' : Hp} (e : Ex H H') (h : OddL K C H x) : OddL K C H' x := by
  rcases h with h | ⟨a, ps, rfl, h⟩
  · exact .inl (OddI.lasts _ _ _ e h)
  · exact .inr ⟨a, ps, rfl, h.up e⟩
theorem numL_o (h : OddL K C H x) : SpV (spNumL K C p) [x] H (.bl false) := fun H1 e Q q E => ⟨x, _, rfl, by
  rcases h.up e with h | h
  · exact .inl (.inr ⟨h, rfl⟩)
  · exact .inr ⟨h, rfl⟩, q⟩
end
/-- a value in the place of a pay paper, and whether it is one -/
inductive PvV (K : PySem.W.Frag) (C : Addr) (H : Hp) (ps : List (Int × Int)) (n : Int) : V → Bool → Prop
  | odd {v : V} {tt : Value} (h : ∀ H', Ex H H' → TyX K H' v tt) (k : PySem.W.kitOne K tt (.type "tuple") = some false) : PvV K C H ps n v false
  | len {t : Addr} {xs : List V} (h : SqT K H t xs) (l : xs.length ≠ 2) : PvV K C H ps n (.ref t) false
  | word {t : Addr} {u x : V} (h : SqT K H t [u, x]) (hu : u = .non ∨ ∃ s, u = .str s) (n1 : u ≠ .str "paid") (n2 : u ≠ .str "lacks") (n3 : u ≠ .str "over") : PvV K C H ps n (.ref t) false
  | paid {t b : Addr} {qs : List (Int × Int)} (h : SqT K H t [.str "paid", .ref b]) (l : LotAt K C H b qs) (c : Cts qs) : PvV K C H ps n (.ref t) (partB qs ps && decide (tot qs = n))
  | paidD {t d : Addr} {kvs : List (Key × V)} (h : SqT K H t [.str "paid", .ref d]) (l : H d = some (.dK kvs)) : PvV K C H ps n (.ref t) false
  | lacks {t : Addr} {i : Int} (h : SqT K H t [.str "lacks", .int i]) : PvV K C H ps n (.ref t) (sizB i && decide (i ∈ lck ps n))
  | lacksO {t : Addr} {x : V} (h : SqT K H t [.str "lacks", x]) (o : OddL K C H x) : PvV K C H ps n (.ref t) false
  | over {t : Addr} {i : Int} (h : SqT K H t [.str "over", .int i]) : PvV K C H ps n (.ref t) (intB i && (decide (i = tot ps) && decide (i < n)))
  | overO {t : Addr} {x : V} (h : SqT K H t [.str "over", x]) (o : OddL K C H x) : PvV K C H ps n (.ref t) false
theorem PvV.up {K : PySem.W.Frag} {C : Addr} {H H' : Hp} {ps : List (Int × Int)} {n : Int} {v : V} {b : Bool} (h : PvV K C H ps n v b) (e : Ex H H') : PvV K C H' ps n v b := by
  cases h with
  | odd h k => exact .odd (fun H2 e2 => h H2 (e.trans e2)) k
  | len h l => exact .len (ex_t e h) l
  | word h hu n1 n2 n3 => exact .word (ex_t e h) hu n1 n2 n3
  | paid h l c => exact .paid (ex_t e h) (l.up e) c
  | paidD h l => exact .paidD (ex_t e h) (e _ _ l)
  | lacks h => exact .lacks (ex_t e h)
  | lacksO h o => exact .lacksO (ex_t e h) (o.up e)
  | over h => exact .over (ex_t e h)
  | overO h o => exact .overO (ex_t e h) (o.up e)
def spIpp (K : PySem.W.Frag) (C : Addr) : Sp := fun vs H Q _ => ∃ a n v ps b, vs = [.ref a, .int n, v] ∧ Pas K C H a ps ∧ cntB n = true ∧ PvV K C H ps n v b ∧ ∀ H', Ex H H' → Q (.bl b) H'
/-- a value that may be a lot -/
def spIsPart (K : PySem.W.Frag) (C : Addr) : Sp := fun vs H Q _ => ∃ v a ps r, vs = [v, .ref a] ∧ LotAt K C H a ps ∧ ((∃ b qs, v = .ref b ∧ LotAt K C H b qs ∧ Cts qs ∧ r = partB qs ps) ∨ (∃ d kvs, v = .ref d ∧ H d = some (.dK kvs) ∧ r = false)) ∧ ∀ H', Ex H H' → Q (.bl r) H'
theorem lot_meth (t1 t2 d : Addr) : (lotF t1 t2 d).lookup ("is_part_of" : Str) = none := by
  unfold lotF
  rw [lookup_putF, if_neg (by decide +kernel), lookup_putF, if_neg (by decide +kernel), lookup_putF, if_neg (by decide +kernel)]
  rfl
end Ck
namespace Ck
open PySem PySem.Spec PyProof.Rows L2 StX Evl
section
variable {K : PySem.W.Frag} {σ : L2.St} {H : Hp} {ta tb : TE} {t : Addr} {xs : List V} {i : Int} {ns : List Int}
/-- i in t, t a tuple of ints -/
theorem ev_inTI (ha : Ev ta σ H (.int i)) (hb : Ev tb σ H (.ref t)) (ht : SqT K H t (ns.map V.int)) : Ev (tOp (rIn K false) ta tb) σ H (.bl (decide (i ∈ ns))) := fun H1 e Q q => ha H1 e _ fun H2 e2 => hb H2 (e.trans e2) _ fun H3 e3 => ⟨t, ns.map V.int, rfl, .inr (ex_t ((e.trans e2).trans e3) ht), rfl, by
  rw [List.all_map]
  exact List.all_eq_true.mpr fun _ _ => rfl, by
  have z := q H3 (e2.trans e3)
  have e : inV (.int i) (ns.map V.int) = decide (i ∈ ns) := by
    unfold inV
    rw [List.any_map]
    refine bool_iff ?_
    rw [List.any_eq_true, decide_eq_true_eq]
    constructor
    · rintro ⟨x, hx, e⟩
      have e : (x == i) = true := e
      rw [← beq_iff_eq.mp e]
      exact hx
    · exact fun h => ⟨i, h, show (i == i) = true from beq_self_eq_true i⟩
  show Q (.bl (if false = true then _ else inV (.int i) (ns.map V.int))) H3
  rw [if_neg Bool.false_ne_true, e]
  exact z⟩
/-- not a tuple, or not of two -/
theorem two_t {ta tb : TE} (ha : Ev ta σ H (.ref t)) (hb : Ev tb σ H (.ref t)) (h : SqT K H t xs) (l : xs.length = 2) :
    EvT (tOr (tNot (tB (tCB (rIsi K) (tCons ta (tCons (tC (.ty "tuple")) tNil))))) (tTest (tOp rNe (tCB (fun xs H Q => ∃ p ys, xs = [V.ref p] ∧ (SqL K H p ys ∨ SqT K H p ys) ∧ Q (.int ys.length) H) (tCons tb tNil)) (tC (.int 2))))) σ H false :=
  et_is (et_or (et_not (et_B (ev_isi ha ev_c (.ty _) (fun H2 e => ty_tup (ex_t e h)) (kit_ty (r := true) (by decide +kernel))))) (fun _ => et_test (ev_ne (ev_lenT hb h) ev_c rfl))) (by rw [l]; rfl)
end
end Ck
namespace Ck
open PySem PySem.Spec PyProof.Rows L2 StX Evl
theorem part_bad (qs ps : List (Int × Int)) : decide ((qs.filter fun p => decide ((cnt ps p.1).getD 0 < p.2)).map Prod.fst = []) = partB qs ps := by
  refine bool_iff ?_
  unfold partB
  rw [decide_eq_true_eq, List.map_eq_nil_iff, List.filter_eq_nil_iff, List.all_eq_true]
  constructor
  · intro k p hp
    have := k p hp
    rw [decide_eq_true_eq] at this
    exact decide_eq_true (by omega)
  · intro k p hp
    have := of_decide_eq_true (k p hp)
    rw [decide_eq_true_eq]
    omega
/-- whether a plain lot is in another one -/
def spLip : Sp := fun vs H Q _ => ∃ d g qs ps, vs = [.ref d, .ref g] ∧ H d = some (.dK (qs.map kc)) ∧ H g = some (.dK (ps.map kc)) ∧ Cts qs ∧ ∀ H', Ex H H' → Q (.bl (partB qs ps)) H'
def spLco (K : PySem.W.Frag) (C : Addr) : Sp := fun vs H Q _ => (∃ i, vs = [.int i] ∧ ∀ H', Ex H H' → Q .non H') ∨ ∃ a qs, vs = [.ref a] ∧ LotAt K C H a qs ∧ ∀ p H', Ex H H' → H p = none → H' p = some (.dK (qs.map kc)) → Q (.ref p) H'
/-- a word, a part and a value; whether they make a paper -/
inductive LjV (H : Hp) (ps : List (Int × Int)) (n : Int) : V → V → V → Bool → Prop
  | paid {d : Addr} {qs : List (Int × Int)} {t : V} (h : H d = some (.dK (qs.map kc))) (c : Cts qs) : LjV H ps n (.str "paid") (.ref d) t (partB qs ps && decide (tot qs = n))
  | lacks {i : Int} : LjV H ps n (.str "lacks") .non (.int i) ((cnt ps i).isSome && decide (sml ps i < n % i))
  | over {i : Int} : LjV H ps n (.str "over") .non (.int i) (decide (i = tot ps) && decide (i < n))
def spLjp : Sp := fun vs H Q _ => ∃ g n ps u p t r, vs = [.ref g, .int n, u, p, t] ∧ H g = some (.dK (ps.map kc)) ∧ Cts ps ∧ LjV H ps n u p t r ∧ ∀ H', Ex H H' → Q (.bl r) H'
end Ck
namespace Ck
open PySem PySem.Spec PyProof.Rows L2 StX Evl
theorem s_retIfT {t : TT} {ta tb : TE} {D : Ends} {σ : L2.St} {H : Hp} (h : EvT t σ H true) (k : ∀ H1, Ex H H1 → ta σ H1 D.rt) : tRet (tIf t ta tb) D σ H := h H (Ex.refl H) _ fun H1 e1 => iteT (k H1 e1)
end Ck

/-! comprehensions that roll dice; lists of dicts put together -/
namespace Ck
open PySem PySem.Spec PyProof.Rows L2 StX Evl
section
variable {K : PySem.W.Frag} {σ : L2.St} {H : Hp} {d g : Addr} {td te tk : TE} {tt : TT} {ta : TA} {j : Nat} {ws : List Nat} {kvs : List (Key × V)} {s c : Int}
/-- [e for i in range(m)], e rolls dice -/
theorem lc_rngD {R : Hp → V → Prop} (LR : ∀ H H' x, Dice H d → Kd d H H' → R H x → R H' x) (LU : ∀ H l xs ys x, H l = some (.lst xs) → R H x → R (upd H l (.lst ys)) x) {m : Nat} (hm : m ≤ 1000) (hd : Dice H d) (hw : ∀ x, wipe ((wipe σ ws).set j (some x)) ws = wipe σ ws)
    (he : ∀ (k : Nat) H1, k < m → Kd d H H1 → ∀ Q : VK, (∀ v H2, Kd d H1 H2 → R H2 v → Q v H2) → te ((wipe σ ws).set j (some (.int (k : Int)))) H1 Q) (Q : VK)
    (q : ∀ D vs H', H D = none → D ≠ d → Kd d H H' → H' D = some (.lst vs) → vs.length = m → (∀ v ∈ vs, R H' v) → Q (.ref D) H') : tLc (iRng1 (tCons (tC (.int (m : Int))) tNil)) (gName j) tYes te ws σ H Q :=
  ⟨(m : Int), rfl, by omega, by omega, fun D hD => by
    have Dd := hd.ne hD
    refine lc_it walk_range (fun k H' => Kd d H H' ∧ ∃ vs, H' D = some (.lst vs) ∧ vs.length = k ∧ ∀ v ∈ vs, R H' v) ⟨Kd.ex hd (Ex.new hD), [], upd_same, rfl, fun v hv => nomatch hv⟩ (fun k H' _ p => trivial) ?_ ?_
    · rintro k x H2 H3 hk ⟨p1, vs, p2, p3, p4⟩ ⟨rfl, rfl⟩
      have hk2 : k < m := by omega
      refine ⟨hw _, yes_go (iteT ?_)⟩
      have e0k : (some ((fun i : Nat => V.int (0 + (i : Int))) k)) = some (V.int (k : Int)) := congrArg (fun z => some (V.int z)) (Int.zero_add _)
      rw [e0k]
      refine he k H3 hk2 p1 _ fun v H4 k4 r => ?_
      have h4 := k4.1 D _ Dd p2
      exact ⟨vs, h4, sz_lt (by omega), ⟨Kp.mut (p1.trans k4).1 hD, k4.2.put Dd⟩, vs ++ [v], upd_same, by rw [List.length_append, p3]; rfl, fun u hu => by
        rcases List.mem_append.mp hu with m | m
        · exact LU _ _ _ _ _ h4 (LR _ _ _ p1.2 k4 (p4 u m))
        · rw [List.mem_singleton.mp m]
          exact LU _ _ _ _ _ h4 r⟩
    · rintro H2 ⟨p1, vs, p2, p3, p4⟩
      rw [show ((m : Int)).toNat = m by omega] at p3
      exact q D vs H2 hD Dd p1 p2 p3 p4⟩
theorem RP.kd {H' : Hp} {x : V} {p : Int × Int} (hd : Dice H d) (k : Kd d H H') (h : RP K H x p) : RP K H' x p := h.imp fun t h => ⟨h.1, sqT_kp hd k.1 h.2⟩
/-- [e for k in d], e a pair for which dice are rolled -/
theorem lc_keysD (Pr : Nat → Int × Int → Prop) (hv : ∀ H1, Ev td σ H1 (.ref g)) (hg : H g = some (.dK kvs)) (gd : g ≠ d) (hd : Dice H d) (hl : kvs.length ≤ 40000) (hw : ∀ x, wipe ((wipe σ ws).set j (some x)) ws = wipe σ ws)
    (he : ∀ (i : Nat) (k : Key) (x : V) (H1 : Hp), kvs[i]? = some (k, x) → Dice H1 d → (∃ od, H1 g = some (.frz od (.dK kvs))) → ∀ Q : VK, (∀ v H2 p, Kd d H1 H2 → RP K H2 v p → Pr i p → Q v H2) → te ((wipe σ ws).set j (some (kV k))) H1 Q) (Q : VK)
    (q : ∀ D vs rs H', H D = none → Kd d H H' → H' D = some (.lst vs) → F2 (RP K H') vs rs → rs.length = kvs.length → (∀ i p, rs[i]? = some p → Pr i p) → Q (.ref D) H') : tLockE (tLc (iKeys td) (gName j) tYes te ws) σ H Q := by
  refine ⟨g, _, hg, trivial, fun od => hv _ _ (Ex.refl _) _ fun H2 e2 => ?_⟩
  have hg2 : H2 g = some (.frz od (.dK kvs)) := e2 _ _ upd_same
  have hdL : Dice (upd H g (.frz od (.dK kvs))) d := hd.put gd
  have hd2 : Dice H2 d := hdL.ex e2
  refine ⟨g, od, rfl, .inl ⟨kvs, hg2, fun D hD => ?_⟩⟩
  have Dd := hd2.ne hD
  have Dg : D ≠ g := fun e => by rw [e, hg2] at hD; cases hD
  refine lc_it walk_keys (fun i H' => Kd d H2 H' ∧ ∃ vs rs, H' D = some (.lst vs) ∧ F2 (RP K H') vs rs ∧ rs.length = i ∧ ∀ i' p, rs[i']? = some p → Pr i' p) ⟨Kd.ex hd2 (Ex.new hD), [], [], upd_same, .nil, rfl, fun i' p h => by cases h⟩ (fun _ _ _ p => p.1.1 g _ gd hg2) ?_ ?_
  · rintro i _ H' H6 hi ⟨p1, vs, rs, p2, p3, p4, p5⟩ ⟨rfl, k, x, hk, rfl⟩
    refine ⟨hw _, yes_go (iteT (he i k x H6 hk p1.2 ⟨od, p1.1 g _ gd hg2⟩ _ fun v H5 p k5 hv5 hpr => ?_))⟩
    have h5 := k5.1 D _ Dd p2
    refine ⟨vs, h5, sz_lt (by rw [p3.len, p4]; omega), ⟨Kp.mut (p1.trans k5).1 hD, k5.2.put Dd⟩, vs ++ [v], rs ++ [p], upd_same, (p3.imp fun x b r => (r.kd p1.2 k5).upd h5).app (.cons (hv5.upd h5) .nil), by rw [List.length_append, p4]; rfl, fun i' p' h => ?_⟩
    by_cases z : i' < rs.length
    · rw [List.getElem?_append_left z] at h
      exact p5 i' p' h
    · rw [List.getElem?_append_right (by omega)] at h
      by_cases y : i' = rs.length
      · subst y
        rw [Nat.sub_self] at h
        cases h
        rw [p4]
        exact hpr
      · rw [List.getElem?_eq_none (by show 1 ≤ i' - rs.length; omega)] at h
        cases h
  · rintro H' ⟨p1, vs, rs, p2, p3, p4, p5⟩
    have hg3 := p1.1 g _ gd hg2
    refine ⟨hg3, q D vs rs _ ?_ ⟨fun b o n hb => ?_, p1.2.put gd⟩ (by rw [upd_ne Dg]; exact p2) (p3.imp fun x b r => r.back hg3) p4 p5⟩
    · have z := fresh_back e2 hD
      rwa [upd_ne Dg] at z
    · by_cases z : b = g
      · subst z
        rw [hg] at hb
        cases hb
        exact upd_same
      · rw [upd_ne z]
        exact p1.1 b o n (e2 _ _ (by rw [upd_ne z]; exact hb))
/-- (k, _law_roll(dice, c)) -/
theorem tup_rollD {Q : VK} (hk : Ev tk σ H (.int s)) (ha : EvA ta σ H [.ref d, .int c]) (c0 : 0 < c) (c1 : c < 1073741824) (hd : Dice H d) (q : ∀ v H2 r, Kd d H H2 → RP K H2 v (s, r) → 0 ≤ r → r < c → Q v H2) :
    tTup (tCons tk (tCons (tCall spRoll [] E0 ta) tNil)) σ H Q := hk H (Ex.refl H) _ fun H1 e1 => ha H1 e1 _ fun H2 e2 => ⟨d, c, rfl, c0, c1, hd.ex (e1.trans e2), fun r H3 r0 r1 hd3 k3 => ⟨(show 2 ≤ sizeLine by decide), fun t nt => q _ _ r ((Kd.ex hd (e1.trans e2)).trans ((Kd.but hd3 k3).to (Ex.new nt))) ⟨t, rfl, SqT.of upd_same⟩ r0 r1⟩⟩
/-- dict(l), l a new list of pairs -/
theorem dict_ofD {tl : TE} {Q : VK} (Pq : List (Int × Int) → Prop) (h : ∀ Q : VK, (∀ D vs (rs : List (Int × Int)) H', Kd d H H' → H' D = some (.lst vs) → F2 (RP K H') vs rs → (rs.map Prod.fst).Nodup → Pq rs → Q (.ref D) H') → tl σ H Q)
    (q : ∀ p H' (rs : List (Int × Int)), Kd d H H' → H' p = some (.dK (rs.map kc)) → Pq rs → Q (.ref p) H') : tCB (rDictP K) (tCons tl tNil) σ H Q :=
  h _ fun D vs rs H' k hD hf hn hq => by
    obtain ⟨ts, rfl, hp⟩ := f2_refs hf
    exact ⟨D, ts, rs.map kc, rfl, SqL.of hD, hp, fun p hp2 => by
      rw [merge_kc hn]
      exact q p _ rs (k.to (Ex.new hp2)) upd_same hq⟩
/-- [e for k in d if t], e a pair -/
theorem lc_keysPF (cnd : Nat → Bool) (e : Nat → Int × Int) (hv : ∀ H1, Ev td σ H1 (.ref g)) (hd : H g = some (.dK kvs)) (hl : kvs.length ≤ 40000) (hw : ∀ x, wipe ((wipe σ ws).set j (some x)) ws = wipe σ ws)
    (ht : ∀ i k x H1, kvs[i]? = some (k, x) → Fz g (.dK kvs) H H1 → EvT tt ((wipe σ ws).set j (some (kV k))) H1 (cnd i)) (he : ∀ i k x H1, kvs[i]? = some (k, x) → Fz g (.dK kvs) H H1 → EvR (RP K) te ((wipe σ ws).set j (some (kV k))) H1 (e i)) :
    ∀ H0, Ex H H0 → ∀ Q : VK, (∀ D vs H2, H0 D = none → Ex H0 H2 → H2 D = some (.lst vs) → F2 (RP K H2) vs (((List.range kvs.length).filter cnd).map e) → Q (.ref D) H2) → tLockE (tLc (iKeys td) (gName j) tt te ws) σ H0 Q := fun H0 e0 Q q => by
  have hd0 := e0 _ _ hd
  refine ⟨g, _, hd0, trivial, fun od => hv _ _ (Ex.refl _) _ fun H2 e2 => ?_⟩
  have z : Fz g (.dK kvs) H0 H2 := (fz_of (od := od)).to e2
  have hd2 : H2 g = some (.frz od (.dK kvs)) := e2 _ _ upd_same
  refine ⟨g, od, rfl, .inl ⟨kvs, hd2, fun D hD => ?_⟩⟩
  refine lc_it walk_keys (fun i H' => H2 D = none ∧ Ex H2 H' ∧ ∃ vs, H' D = some (.lst vs) ∧ vs.length ≤ i ∧ F2 (RP K H') vs (((List.range i).filter cnd).map e)) ⟨hD, Ex.new hD, [], upd_same, Nat.le_refl _, .nil⟩ (fun _ _ _ p => p.2.1 _ _ hd2) ?_ ?_
  · rintro i _ H' H6 hi ⟨p1, p2, vs, p3, p4, p5⟩ ⟨rfl, k, x, hk, rfl⟩
    refine ⟨hw _, ht i k x H6 hk ((z.to p2).of e0) H6 (Ex.refl _) _ fun H7 e7 => ?_⟩
    cases hc : cnd i with
    | true =>
      refine iteT (he i k x H7 hk ((z.to (p2.trans e7)).of e0) _ (Ex.refl _) _ fun v H5 e5 hv5 => ⟨vs, (e7.trans e5) _ _ p3, sz_lt (by omega), p1, Ex.mut (p2.trans (e7.trans e5)) p1, vs ++ [v], upd_same, by rw [List.length_append]; exact Nat.succ_le_succ p4, ?_⟩)
      have hD5 := (e7.trans e5) _ _ p3
      rw [List.range_succ, List.filter_append, List.map_append, show [i].filter cnd = [i] by rw [List.filter_cons, hc]; rfl]
      exact (p5.imp fun x b r => (r.ex (e7.trans e5)).upd hD5).app (.cons (hv5.upd hD5) .nil)
    | false =>
      refine iteF ⟨p1, p2.trans e7, vs, e7 _ _ p3, Nat.le_succ_of_le p4, ?_⟩
      rw [List.range_succ, List.filter_append, show [i].filter cnd = [] by rw [List.filter_cons, hc]; rfl, List.append_nil]
      exact p5.imp fun x b r => r.ex e7
  · rintro H' ⟨p1, p2, vs, p3, _, p5⟩
    obtain ⟨n1, n2⟩ := z.new hd0 hD
    have hd3 := p2 _ _ hd2
    exact ⟨hd3, q D vs _ n1 ((z.to p2).back hd0) (by rw [upd_ne n2]; exact p3) (p5.imp fun x b r => r.back hd3)⟩
end
section
variable {K : PySem.W.Frag} {σ : L2.St} {H : Hp} {ta tb : TE} {α : Type} {R : Hp → V → α → Prop} {as bs : List α} {x y : α}
theorem evf_cat (L : ∀ H H' x b, Ex H H' → R H x b → R H' x b) (ha : EvF K R ta σ H as) (hb : ∀ H1, Ex H H1 → ∀ Q : VK, (∀ p xs H2, Ex H1 H2 → H2 p = some (.lst xs) → F2 (R H2) xs bs → Q (.ref p) H2) → tb σ H1 Q) (hz : as.length + bs.length ≤ 100000)
    (h1 : ∀ H1, Ex H H1 → ∀ Q : VK, (∀ p xs H2, Ex H1 H2 → H2 p = some (.lst xs) → F2 (R H2) xs as → Q (.ref p) H2) → ta σ H1 Q) :
    ∀ H1, Ex H H1 → ∀ Q : VK, (∀ p xs H2, H1 p = none → Ex H1 H2 → H2 p = some (.lst xs) → F2 (R H2) xs (as ++ bs) → Q (.ref p) H2) → tOp rCat ta tb σ H1 Q := fun H1 e1 Q q =>
  h1 H1 e1 _ fun a xs H2 e2 hx hf => hb H2 (e1.trans e2) _ fun b ys H3 e3 hy hg => ⟨a, b, xs, ys, rfl, rfl, e3 _ _ hx, hy, sz_of (by rw [hf.len, hg.len]; exact hz), fun p hp =>
    q p _ _ (fresh_back (e2.trans e3) hp) (e2.trans (e3.trans (Ex.new hp))) upd_same ((hf.imp fun x b r => L _ _ _ _ (e3.trans (Ex.new hp)) r).app (hg.imp fun x b r => L _ _ _ _ (Ex.new hp) r))⟩
/-- [e, f] -/
theorem evf_two (L : ∀ H H' x b, Ex H H' → R H x b → R H' x b) (ha : EvR R ta σ H x) (hb : EvR R tb σ H y) : ∀ H1, Ex H H1 → ∀ Q : VK, (∀ p xs H2, Ex H1 H2 → H2 p = some (.lst xs) → F2 (R H2) xs [x, y] → Q (.ref p) H2) → tLst (tCons ta (tCons tb tNil)) σ H1 Q := fun H1 e1 Q q =>
  ha H1 e1 _ fun u H2 e2 hu => hb H2 (e1.trans e2) _ fun v H3 e3 hv => ⟨(show 2 ≤ sizeLine by decide), fun p hp => q p [u, v] _ (e2.trans (e3.trans (Ex.new hp))) upd_same (.cons (L _ _ _ _ (e3.trans (Ex.new hp)) hu) (.cons (L _ _ _ _ (Ex.new hp) hv) .nil))⟩
end
end Ck
namespace Ck
open PySem PySem.Spec PyProof.Rows L2 StX Evl
theorem cnt_ext {as bs : List (Int × Int)} {s : Int} (ha : (as.map Prod.fst).Nodup) (hb : (bs.map Prod.fst).Nodup) (h : ∀ c, (s, c) ∈ as ↔ (s, c) ∈ bs) : cnt as s = cnt bs s := by
  cases e : cnt as s with
  | some c => exact ((cnt_mem hb).mp ((h c).mp ((cnt_mem ha).mpr e))).symm
  | none =>
    cases e2 : cnt bs s with
    | none => rfl
    | some c =>
      have := (cnt_mem ha).mp ((h c).mpr ((cnt_mem hb).mpr e2))
      rw [e] at this
      cases this
theorem tot_split (s : Int) : ∀ {os : List (Int × Int)}, (os.map Prod.fst).Nodup → tot os = tot (os.filter fun x => decide (x.1 ≠ s)) + s * (cnt os s).getD 0
  | [], _ => by
    have : cnt [] s = none := cnt_none.mpr List.not_mem_nil
    rw [this]
    show (0 : Int) = 0 + s * 0
    omega
  | x :: t, h => by
    have h0 := h
    rw [List.map_cons, List.nodup_cons] at h
    have ih := tot_split s h.2
    rw [tot_cons]
    by_cases e : x.1 = s
    · subst e
      have nt : (t.filter fun y => decide (y.1 ≠ x.1)) = t := List.filter_eq_self.mpr fun y hy => decide_eq_true fun z => h.1 (z ▸ List.mem_map_of_mem hy)
      have c : cnt (x :: t) x.1 = some x.2 := (cnt_mem h0).mp List.mem_cons_self
      rw [List.filter_cons, if_neg (by simp), nt, c]
      show _ = tot t + x.1 * x.2
      omega
    · have c : cnt (x :: t) s = cnt t s := cnt_ext h0 h.2 fun c => ⟨fun m => by
        rcases List.mem_cons.mp m with rfl | m
        · exact absurd rfl e
        · exact m, fun m => List.mem_cons_of_mem _ m⟩
      rw [List.filter_cons, if_pos (decide_eq_true e), tot_cons, c, ih]
      omega
/-- what is a part of a purse has a payable total -/
theorem sub_is {qs : List (Int × Int)} (h : Prs2 qs) : ∀ os : List (Int × Int), (os.map Prod.fst).Nodup → (∀ x ∈ os, 0 < x.2 ∧ x.2 ≤ (cnt qs x.1).getD 0) → Is qs (tot os) := by
  induction h with
  | nil =>
    intro os _ hx
    have : os = [] := by
      cases os with
      | nil => rfl
      | cons x t =>
        have z := hx x List.mem_cons_self
        rw [show cnt [] x.1 = none from cnt_none.mpr List.not_mem_nil] at z
        have : (none : Option Int).getD 0 = 0 := rfl
        omega
    rw [this]
    exact (is_nil _).mpr rfl
  | @snoc qs p h d c lt dv ih =>
    intro os nd hx
    have nds : ((qs ++ [p]).map Prod.fst).Nodup := by
      have pw : ∀ {us : List (Int × Int)}, Prs2 us → (us.map Prod.fst).Pairwise (· < ·) := fun {us} hu => by
        induction hu with
        | nil => exact List.Pairwise.nil
        | @snoc us q hu d2 c2 lt2 dv2 ih2 =>
          rw [List.map_append, List.pairwise_append]
          exact ⟨ih2, List.pairwise_singleton _ _, fun a ha b hb => by
            obtain ⟨y, hy, rfl⟩ := List.mem_map.mp ha
            rw [List.mem_singleton.mp hb]
            exact lt2 y hy⟩
      exact (pw (.snoc h d c lt dv)).imp fun z => by omega
    have ndq : (qs.map Prod.fst).Nodup := by
      rw [List.map_append, List.nodup_append] at nds
      exact nds.1
    have cp : cnt (qs ++ [p]) p.1 = some p.2 := (cnt_mem nds).mp (List.mem_append_right _ (List.mem_singleton.mpr rfl))
    have cq : ∀ s, s ≠ p.1 → cnt (qs ++ [p]) s = cnt qs s := fun s hs => cnt_ext nds ndq fun c => ⟨fun m => by
      rcases List.mem_append.mp m with m | m
      · exact m
      · cases List.mem_singleton.mp m
        exact absurd rfl hs, fun m => List.mem_append_left _ m⟩
    have i1 := ih (os.filter fun x => decide (x.1 ≠ p.1)) (List.Nodup.sublist ((List.filter_sublist).map _) nd) fun x hx2 => by
      obtain ⟨m, n⟩ := List.mem_filter.mp hx2
      have := hx x m
      rw [cq x.1 (of_decide_eq_true n)] at this
      exact this
    rw [is_snoc _ _ (Int.le_of_lt c)]
    refine ⟨(cnt os p.1).getD 0, ?_, ?_, ?_⟩
    · cases e : cnt os p.1 with
      | none => exact Int.le_refl 0
      | some k => exact Int.le_of_lt (hx (p.1, k) ((cnt_mem nd).mpr e)).1
    · cases e : cnt os p.1 with
      | none => exact Int.le_of_lt c
      | some k =>
        have := (hx (p.1, k) ((cnt_mem nd).mpr e)).2
        rw [cp] at this
        exact this
    · rw [show tot os - p.1 * (cnt os p.1).getD 0 = tot (os.filter fun x => decide (x.1 ≠ p.1)) by have := tot_split p.1 nd; omega]
      exact i1
theorem part_pay {qs os : List (Int × Int)} (h : Prs2 qs) (hc : Cts os) (hp : partB os qs = true) : Pay qs (tot os) := (is_pay h _).mp (sub_is h os hc.nd fun x hx => ⟨(siz_int (hc.ok x hx).2).1, of_decide_eq_true ((List.all_eq_true.mp hp) x hx)⟩)
theorem partB_perm {a b c d : List (Int × Int)} (h1 : a.Perm b) (h2 : c.Perm d) (hn : (c.map Prod.fst).Nodup) : partB a c = partB b d := by
  have e : ∀ x : Int × Int, decide (x.2 ≤ (cnt c x.1).getD 0) = decide (x.2 ≤ (cnt d x.1).getD 0) := fun x => by rw [cnt_ext hn ((List.Perm.nodup_iff (h2.map Prod.fst)).mp hn) fun k => h2.mem_iff]
  unfold partB
  refine bool_iff ?_
  rw [List.all_eq_true, List.all_eq_true]
  constructor
  · intro k x hx
    rw [← e x]
    exact k x (h1.mem_iff.mpr hx)
  · intro k x hx
    rw [e x]
    exact k x (h1.mem_iff.mp hx)
theorem lck_mem {ps qs : List (Int × Int)} (hc : Cts ps) (hp : qs.Perm ps) (n i : Int) : ((cnt ps i).isSome && decide (sml ps i < n % i)) = (sizB i && decide (i ∈ lck qs n)) := by
  have key : (cnt ps i).isSome = true ↔ i ∈ qs.map Prod.fst := by
    rw [(hp.map Prod.fst).mem_iff, ← Decidable.not_iff_not, ← cnt_none]
    cases cnt ps i <;> simp
  refine bool_iff ?_
  unfold lck
  rw [Bool.and_eq_true, Bool.and_eq_true, decide_eq_true_eq, decide_eq_true_eq, key, List.mem_filter, sml_perm hp i, decide_eq_true_eq]
  constructor
  · rintro ⟨h1, h2⟩
    refine ⟨?_, h1, h2⟩
    obtain ⟨p, hp2, rfl⟩ := List.mem_map.mp h1
    exact (hc.ok p (hp.mem_iff.mp hp2)).1
  · rintro ⟨_, h1, h2⟩
    exact ⟨h1, h2⟩
theorem lck_ne {qs : List (Int × Int)} {n i : Int} (h : i ∈ lck qs n) : okB qs n = false := by
  rw [← lck_ok]
  refine decide_eq_false fun e => ?_
  rw [e] at h
  cases h
end Ck
namespace Ck
open PySem PySem.Spec PyProof.Rows L2 StX Evl
section
variable {K : PySem.W.Frag} {σ : L2.St} {H : Hp} {C a t : Addr} {te : TE} {ps qs : List (Int × Int)} {n : Int}
/-- what stands beside the word, and what the law makes of it -/
def PpX (K : PySem.W.Frag) (C : Addr) (H : Hp) (ps : List (Int × Int)) (n : Int) (w : Str) (x : V) : Prop := (∃ i, x = .int i ∧ ∀ H', LjV H' ps n (.str w) .non x true) ∨ ∃ b fs, x = .ref b ∧ w = "paid" ∧ LotAt K C H b fs ∧ Cts fs ∧ (partB fs ps && decide (tot fs = n)) = true
theorem q_lco {z : TS} {D : Ends} {i : Nat} {w : Str} {x : V} (hx : PpX K C H ps n w x) (he : Ev te σ H x) (k : ∀ pv H5, Ex H H5 → LjV H5 ps n (.str w) pv x true → z D (σ.set i (some pv)) H5) :
    tSeq (tAsg (tCall (spLco K C) [] E0 (tCons te tNil)) (gName i)) z D σ H := he H (Ex.refl H) _ fun H1 e1 => by
  rcases hx with ⟨j, rfl, h⟩ | ⟨b, fs, rfl, rfl, hl, hc, hb⟩
  · exact .inl ⟨j, rfl, fun H2 e2 => k .non H2 (e1.trans e2) (h H2)⟩
  · exact .inr ⟨b, fs, rfl, hl.up e1, fun p H2 e2 np h2 => k (.ref p) H2 (e1.trans e2) (by
      have z : LjV H2 ps n (.str "paid") (.ref p) (.ref b) (partB fs ps && decide (tot fs = n)) := .paid h2 hc
      rw [hb] at z
      exact z)⟩
theorem pp_facts (h : PpV K C H t qs n) (hp : qs.Perm ps) (hc : Cts ps) (ha : Asc qs) (pr : Prs2 qs) (n0 : 0 ≤ n) (hb : (tot qs + 1).natAbs < 10 ^ 200) : ∃ (w : Str) (x : V), SqT K H t [.str w, x] ∧ PpX K C H ps n w x ∧ PvV K C H qs n (.ref t) true ∧ decide (V.str w = V.str "paid") = (decide (n ≤ tot ps) && okB ps n) := by
  have hcq := hc.perm hp
  have tq : tot qs = tot ps := tot_perm hp
  have oq : okB ps n = okB qs n := okB_perm hp.symm n
  have t0 := tot_nn pr
  cases h with
  | lacks s r e h =>
    have m : s ∈ lck qs n := by rw [e]; exact List.mem_cons_self
    have z1 := lck_mem hc hp n s
    have z2 : sizB s = true := (cts_pos hcq s (List.mem_filter.mp m).1).2.2
    have z3 : (sizB s && decide (s ∈ lck qs n)) = true := by rw [z2, decide_eq_true m]; rfl
    refine ⟨"lacks", .int s, h, .inl ⟨s, rfl, fun H' => ?_⟩, ?_, ?_⟩
    · have z : LjV H' ps n (.str "lacks") .non (.int s) ((cnt ps s).isSome && decide (sml ps s < n % s)) := .lacks
      rw [z1, z3] at z
      exact z
    · have z : PvV K C H qs n (.ref t) (sizB s && decide (s ∈ lck qs n)) := .lacks h
      rw [z3] at z
      exact z
    · rw [oq, lck_ne m, Bool.and_false]
      exact decide_eq_false (fun z => by cases z)
  | over e o h =>
    have z3 : intB (tot qs) = true := by
      unfold intB
      exact decide_eq_true (Nat.lt_of_le_of_lt (show _ ≤ (tot qs + 1).natAbs by omega) hb)
    refine ⟨"over", .int (tot qs), h, .inl ⟨tot qs, rfl, fun H' => ?_⟩, ?_, ?_⟩
    · have z : LjV H' ps n (.str "over") .non (.int (tot qs)) (decide (tot qs = tot ps) && decide (tot qs < n)) := .over
      rw [decide_eq_true tq, decide_eq_true o] at z
      exact z
    · have z : PvV K C H qs n (.ref t) (intB (tot qs) && (decide (tot qs = tot qs) && decide (tot qs < n))) := .over h
      rw [z3, decide_eq_true rfl, decide_eq_true o] at z
      exact z
    · rw [decide_eq_false (show ¬ n ≤ tot ps by omega), Bool.false_and]
      exact decide_eq_false (fun z => by cases z)
  | paid p b h l =>
    have fc := fw_cts hcq ha n
    have ft := fw_tot pr p
    have fp := fw_part hcq n
    refine ⟨"paid", .ref b, h, .inr ⟨b, fwL qs n, rfl, rfl, l, fc, ?_⟩, ?_, ?_⟩
    · rw [← partB_perm (List.Perm.refl _) hp hcq.nd, fp, decide_eq_true ft]
      rfl
    · have z : PvV K C H qs n (.ref t) (partB (fwL qs n) qs && decide (tot (fwL qs n) = n)) := .paid h l fc
      rw [fp, decide_eq_true ft] at z
      exact z
    · rw [decide_eq_true (show n ≤ tot ps by have := p.2.1; omega), oq, ((pay_ok n).mp p).2.2]
      exact decide_eq_true rfl
end
end Ck
namespace Ck
open PySem PySem.Spec PyProof.Rows L2 StX Evl
theorem LjV.up {H H' : Hp} {ps : List (Int × Int)} {n : Int} {u p t : V} {r : Bool} (h : LjV H ps n u p t r) (e : Ex H H') : LjV H' ps n u p t r := by
  cases h with
  | paid h c => exact .paid (e _ _ h) c
  | lacks => exact .lacks
  | over => exact .over
end Ck

/-! drawn dicts of a purse's sizes, and what is made of them -/
namespace Ck
open PySem PySem.Spec PyProof.Rows L2 StX Evl
/-- a drawn dict of a purse's sizes -/
structure Drw (ps rs : List (Int × Int)) : Prop where
  ks : rs.map Prod.fst = ps.map Prod.fst
  ok : ∀ p ∈ rs, 0 ≤ p.2 ∧ p.2 ≤ 9
theorem Drw.of {ps rs : List (Int × Int)} (hl : rs.length = ps.length) (h : ∀ i p, rs[i]? = some p → p.1 = (ps.getD i (0, 0)).1 ∧ 0 ≤ p.2 ∧ p.2 ≤ 9) : Drw ps rs := by
  refine ⟨List.ext_getElem (by rw [List.length_map, List.length_map, hl]) fun i h1 h2 => ?_, fun p hp => ?_⟩
  · rw [List.length_map] at h1 h2
    rw [List.getElem_map, List.getElem_map, (h i _ (List.getElem?_eq_getElem h1)).1, List.getD_eq_getElem?_getD, List.getElem?_eq_getElem h2]
    rfl
  · obtain ⟨i, h1, rfl⟩ := List.mem_iff_getElem.mp hp
    exact (h i _ (List.getElem?_eq_getElem h1)).2
theorem siz_small {c : Int} (h0 : 0 < c) (h : c ≤ 10 ^ 100) : sizB c = true := siz_of h0 (by
  have e : (10 : Int) ^ 100 = ((10 ^ 100 : Nat) : Int) := by rw [Int.natCast_pow]; rfl
  rw [e] at h
  exact Nat.lt_of_le_of_lt (show c.natAbs ≤ 10 ^ 100 by omega) (by decide +kernel))
theorem Drw.cts {ps rs : List (Int × Int)} (h : Drw ps rs) (hc : Cts ps) : Cts (rs.filter fun p => decide (0 < p.2)) := by
  have hl : rs.length = ps.length := by
    have := congrArg List.length h.ks
    rwa [List.length_map, List.length_map] at this
  refine ⟨List.Nodup.sublist ((List.filter_sublist).map _) (by rw [h.ks]; exact hc.nd), Nat.le_trans (List.length_filter_le _ _) (by rw [hl]; exact hc.ln), fun p hp => ?_⟩
  obtain ⟨m, n⟩ := List.mem_filter.mp hp
  have n := of_decide_eq_true n
  have k : p.1 ∈ ps.map Prod.fst := by rw [← h.ks]; exact List.mem_map_of_mem m
  obtain ⟨q, hq, e⟩ := List.mem_map.mp k
  exact ⟨by rw [← e]; exact (hc.ok q hq).1, siz_small n (Int.le_trans (h.ok p m).2 (by decide +kernel))⟩
theorem range_filter (rs : List (Int × Int)) (c : Int × Int → Bool) : ((List.range rs.length).filter (fun i => c (rs.getD i (0, 0)))).map (fun i => rs.getD i (0, 0)) = rs.filter c := by
  conv => rhs; rw [← range_getD rs, List.filter_map]
  rfl
theorem range_map (rs : List (Int × Int)) (g : Int × Int → Int × Int) : (List.range rs.length).map (fun i => g (rs.getD i (0, 0))) = rs.map g := by
  conv => rhs; rw [← range_getD rs, List.map_map]
  rfl
theorem f2_some {α : Type} {R : V → α → Prop} {P : α → Prop} : ∀ {vs : List V}, (∀ v ∈ vs, ∃ a, R v a ∧ P a) → ∃ as, F2 R vs as ∧ ∀ a ∈ as, P a
  | [], _ => ⟨[], .nil, fun a h => nomatch h⟩
  | v :: r, h => by
    obtain ⟨a, ha, pa⟩ := h v List.mem_cons_self
    obtain ⟨as, hf, pf⟩ := f2_some fun u hu => h u (List.mem_cons_of_mem v hu)
    exact ⟨a :: as, .cons ha hf, fun b hb => by
      rcases List.mem_cons.mp hb with rfl | m
      · exact pa
      · exact pf b m⟩
theorem cts_inc {ps : List (Int × Int)} (hc : Cts ps) (hb : ∀ p ∈ ps, p.2 ≤ 10 ^ 31) : Cts (ps.map fun p => (p.1, p.2 + 1)) := by
  refine ⟨by rw [List.map_map]; exact hc.nd, by rw [List.length_map]; exact hc.ln, fun q hq => ?_⟩
  obtain ⟨p, hp, rfl⟩ := List.mem_map.mp hq
  refine ⟨(hc.ok p hp).1, ?_⟩
  have h1 := (siz_int (hc.ok p hp).2).1
  have h2 := hb p hp
  have e : (10 : Int) ^ 31 + 1 ≤ 10 ^ 100 := by decide +kernel
  exact siz_small (show 0 < p.2 + 1 by omega) (show p.2 + 1 ≤ 10 ^ 100 by omega)
section
variable {K : PySem.W.Frag} {σ : L2.St} {H : Hp} {d g : Addr} {te td tk : TE} {j i : Nat} {ws : List Nat} {ps : List (Int × Int)} {D : Ends} {z : TS}
/-- name = [e for i in range(n)], e rolls dice -/
theorem sq_rngD {R : Hp → V → Prop} (LR : ∀ H H' x, Dice H d → Kd d H H' → R H x → R H' x) (LU : ∀ H l xs ys x, H l = some (.lst xs) → R H x → R (upd H l (.lst ys)) x) {m : Nat} {n : Int} (hn : n = (m : Int)) (hm : m ≤ 1000) (hd : Dice H d) (hw : ∀ x, wipe ((wipe σ ws).set j (some x)) ws = wipe σ ws)
    (he : ∀ (k : Nat) H1, k < m → Kd d H H1 → ∀ Q : VK, (∀ v H2, Kd d H1 H2 → R H2 v → Q v H2) → te ((wipe σ ws).set j (some (.int (k : Int)))) H1 Q)
    (q : ∀ l vs H', H l = none → l ≠ d → Kd d H H' → H' l = some (.lst vs) → vs.length = m → (∀ v ∈ vs, R H' v) → z D (σ.set i (some (.ref l))) H') : tSeq (tAsg (tLc (iRng1 (tCons (tC (.int n)) tNil)) (gName j) tYes te ws) (gName i)) z D σ H := by
  subst hn
  exact lc_rngD LR LU hm hd hw he (fun x H1 => gName i x σ H1 (z D)) q
theorem RD.kd {H' : Hp} {x : V} (hd : Dice H d) (k : Kd d H H') (h : RD H x ps) : RD H' x ps := h.imp fun g h => ⟨h.1, k.1 _ _ (fun e => by
  obtain ⟨a, b, c, e2⟩ := hd
  rw [e] at h
  rw [e2] at h
  exact nomatch h.2) h.2⟩
/-- dict([(k, _law_roll(dice, min(g[k], 9) + 1)) for k in g]) -/
theorem drw_made {Q : VK} (hd : Dice H d) (hg : H g = some (.dK (ps.map kc))) (gd : g ≠ d) (hc : Cts ps) (hv : ∀ H1, Ev td σ H1 (.ref g)) (hv2 : ∀ x H1, Ev td ((wipe σ ws).set j x) H1 (.ref g)) (hj : ∀ x : V, ((wipe σ ws).set j (some x))[j]? = some (some x)) (hk : ∀ x H1, Ev tk ((wipe σ ws).set j x) H1 (.ref d)) (hw : ∀ x, wipe ((wipe σ ws).set j (some x)) ws = wipe σ ws)
    (q : ∀ v H' rs, Kd d H H' → RD H' v rs → Drw ps rs → Q v H') :
    tCB (rDictP K) (tCons (tLockE (tLc (iKeys td) (gName j) tYes (tTup (tCons (tVar j) (tCons (tCall spRoll [] E0 (tCons tk (tCons (tOp (rI0 fun i j => .int (i + j)) (tCB (fun xs H Q => ∃ i j, xs = [.int i, .int j] ∧ Q (.int (if j < i then j else i)) H) (tCons (tDGet td (tVar j)) (tCons (tC (.int 9)) tNil))) (tC (.int 1))) tNil))) tNil))) ws)) tNil) σ H Q := by
  have ln := hc.ln
  refine dict_ofD (K := K) (d := d) (Drw ps) (fun Q' q' => lc_keysD (K := K) (Pr := fun i p => p.1 = (ps.getD i (0, 0)).1 ∧ 0 ≤ p.2 ∧ p.2 ≤ 9) hv hg gd hd (by rw [List.length_map]; omega) hw (fun i k x H1 hk1 hd1 hz Q2 q2 => ?_) Q' (fun D vs rs H' nD kk hD hf hlen hpr => ?_)) (fun p H' rs kk hp hdr => q _ H' rs kk ⟨p, rfl, hp⟩ hdr)
  · obtain ⟨p, hp, e, rfl, rfl⟩ := kc_at hk1
    obtain ⟨od, hz⟩ := hz
    have c0 := (siz_int (hc.ok p hp).2).1
    refine tup_rollD (K := K) (d := d) (s := p.1) (c := (if (9 : Int) < p.2 then 9 else p.2) + 1) (ev_var (hj _)) (ea_cons (hk _ _) (ea_cons (ev_i0 (g := fun i j => .int (i + j)) (ev_min (ev_dget (hv2 _ _) (ev_var (hj _)) (fun H3 e3 => .inr ⟨od, e3 _ _ hz⟩) ((cnt_mem hc.nd).mp hp)) ev_c) ev_c) ea_nil)) (by split <;> omega) (by split <;> omega) hd1 (fun v H2 r kk hv r0 r1 => q2 v H2 (p.1, r) kk hv ⟨by rw [e], r0, ?_⟩)
    show r ≤ 9
    split at r1 <;> omega
  · rw [List.length_map] at hlen
    have hdr := Drw.of hlen hpr
    exact q' D vs rs H' kk hD hf (by rw [hdr.ks]; exact hc.nd) hdr
/-- dict([(k, g[k]) for k in g if g[k] > 0]) -/
theorem pos_made (hg : H g = some (.dK (ps.map kc))) (hn : (ps.map Prod.fst).Nodup) (hl : ps.length ≤ 40000) (hv : ∀ H1, Ev td σ H1 (.ref g)) (hv2 : ∀ x H1, Ev td ((wipe σ ws).set j x) H1 (.ref g)) (hj : ∀ x : V, ((wipe σ ws).set j (some x))[j]? = some (some x)) (hw : ∀ x, wipe ((wipe σ ws).set j (some x)) ws = wipe σ ws) :
    EvR RD (tCB (rDictP K) (tCons (tLockE (tLc (iKeys td) (gName j) (tTest (tOp (rI0 fun i j => .bl (decide (j < i))) (tDGet td (tVar j)) (tC (.int 0)))) (tTup (tCons (tVar j) (tCons (tDGet td (tVar j)) tNil))) ws)) tNil)) σ H (ps.filter fun p => decide (0 < p.2)) := fun H1 e1 Q q => by
  refine dl_of (K := K) (H := H) (qs := ps.filter fun p => decide (0 < p.2)) ?_ (List.Nodup.sublist ((List.filter_sublist).map _) hn) H1 e1 Q (fun p H2 _ e2 hp => q _ H2 e2 ⟨p, rfl, hp⟩)
  have z := lc_keysPF (K := K) (σ := σ) (H := H) (g := g) (td := td) (tt := tTest (tOp (rI0 fun i j => .bl (decide (j < i))) (tDGet td (tVar j)) (tC (.int 0)))) (te := tTup (tCons (tVar j) (tCons (tDGet td (tVar j)) tNil))) (j := j) (ws := ws) (kvs := ps.map kc) (fun i => decide (0 < (ps.getD i (0, 0)).2)) (fun i => ps.getD i (0, 0)) hv hg (by rw [List.length_map]; exact hl) hw (fun i k x H2 hk hf => ?_) (fun i k x H2 hk hf => ?_)
  · rw [List.length_map, range_filter ps fun p => decide (0 < p.2)] at z
    exact z
  · obtain ⟨p, hp, e, rfl, rfl⟩ := kc_at hk
    rw [e]
    exact et_test (ev_i0 (g := fun i j => .bl (decide (j < i))) (ev_dget (hv2 _ _) (ev_var (hj _)) (fun H3 e3 => (hf.to e3).dk) ((cnt_mem hn).mp hp)) ev_c)
  · obtain ⟨p, hp, e, rfl, rfl⟩ := kc_at hk
    rw [e]
    exact evr_pair (ev_var (hj _)) (ev_dget (hv2 _ _) (ev_var (hj _)) (fun H3 e3 => (hf.to e3).dk) ((cnt_mem hn).mp hp))
/-- dict([(k, g[k] + 1) for k in g]) -/
theorem inc_made (hg : H g = some (.dK (ps.map kc))) (hn : (ps.map Prod.fst).Nodup) (hl : ps.length ≤ 40000) (hv : ∀ H1, Ev td σ H1 (.ref g)) (hv2 : ∀ x H1, Ev td ((wipe σ ws).set j x) H1 (.ref g)) (hj : ∀ x : V, ((wipe σ ws).set j (some x))[j]? = some (some x)) (hw : ∀ x, wipe ((wipe σ ws).set j (some x)) ws = wipe σ ws) :
    EvR RD (tCB (rDictP K) (tCons (tLockE (tLc (iKeys td) (gName j) tYes (tTup (tCons (tVar j) (tCons (tOp (rI0 fun i j => .int (i + j)) (tDGet td (tVar j)) (tC (.int 1))) tNil))) ws)) tNil)) σ H (ps.map fun p => (p.1, p.2 + 1)) := fun H1 e1 Q q => by
  refine dl_of (K := K) (H := H) (qs := ps.map fun p => (p.1, p.2 + 1)) ?_ (by rw [List.map_map]; exact hn) H1 e1 Q (fun p H2 _ e2 hp => q _ H2 e2 ⟨p, rfl, hp⟩)
  have z := lc_keysP (K := K) (H := H) (td := td) (te := tTup (tCons (tVar j) (tCons (tOp (rI0 fun i j => .int (i + j)) (tDGet td (tVar j)) (tC (.int 1))) tNil))) (j := j) (ws := ws) (fun i => ((ps.getD i (0, 0)).1, (ps.getD i (0, 0)).2 + 1)) hv hg (by rw [List.length_map]; exact hl) hw (fun i k x H1 hk hf => by
    obtain ⟨p, hp, e, rfl, rfl⟩ := kc_at hk
    rw [e]
    exact evr_pair (ev_var (hj _)) (ev_i0 (g := fun i j => .int (i + j)) (ev_dget (hv2 _ H1) (ev_var (hj _)) (fun H2 e2 => (hf.to e2).dk) ((cnt_mem hn).mp hp)) ev_c))
  rw [List.length_map, range_map ps fun p => (p.1, p.2 + 1)] at z
  exact z
end
end Ck
namespace Ck
open PySem PySem.Spec PyProof.Rows L2 StX Evl
section
variable {K : PySem.W.Frag} {σ : L2.St} {H : Hp} {te tl : TE} {tr : TA} {tt : TT} {Pr : V → Hp → Prop} {n i i' j : Nat} {l : Addr} {xs : List V} {D : Ends} {z : TS} {ws : List Nat}
theorem es_newUx (h : EvU te σ H xs) (hp : ∀ p H1, Ex H H1 → H1 p = some (.tup xs) → Pr (.ref p) H1) : Es Pr te σ H := fun H1 e Q q => h H1 e Q fun p H2 _ e2 k => q (.ref p) H2 e2 (hp p H2 (e.trans e2) k)
theorem es_newLx (h : EvL te σ H xs) (hp : ∀ p H1, Ex H H1 → H1 p = some (.lst xs) → Pr (.ref p) H1) : Es Pr te σ H := fun H1 e Q q => h H1 e Q fun p H2 _ e2 k => q (.ref p) H2 e2 (hp p H2 (e.trans e2) k)
/-- for x in (..): the tuple made first -/
theorem q_forU {K : PySem.W.Frag} {g : TG} {body : TS} (h : EvU tl σ H xs) (k : ∀ u H1, Ex H H1 → H1 u = some (.tup xs) → tFor (iTup K (tC (.ref u))) g body { D with nx := z D } σ H1) : tSeq (tFor (iTup K tl) g body) z D σ H := h H (Ex.refl H) _ fun u H1 _ e h1 => by
  obtain ⟨a, e, hx, hw⟩ := k u H1 e h1
  cases e
  exact ⟨u, rfl, hx, hw⟩
/-- {} -/
theorem es_newD (hp : ∀ p H1, H1 p = some (.dK []) → Pr (.ref p) H1) : Es Pr tDNewK σ H := fun H1 e Q q p np => q (.ref p) _ (Ex.new np) (hp p _ upd_same)
/-- name = l + [..] -/
theorem q_catE (L : Lasts Pr) (hv : σ[i']? = some (some (.ref l))) (hl : H l = some (.lst xs)) (hx : ∀ x ∈ xs, Pr x H) (h : EsA Pr tr σ H n) (hz : xs.length + n ≤ 100000)
    (k : ∀ p ys H2, Ex H H2 → H2 p = none → ys.length = xs.length + n → (∀ y ∈ ys, Pr y H2) → z D (σ.set i (some (.ref p))) (upd H2 p (.lst ys))) : tSeq (tAsg (tOp rCat (tVar i') (tLst tr)) (gName i)) z D σ H :=
  ⟨.ref l, hv, es_lst L h (by omega) H (Ex.refl H) _ fun p ys H2 np e2 hp hlen hall => ⟨l, p, xs, ys, rfl, rfl, e2 _ _ hl, hp, sz_of (by rw [hlen]; exact hz), fun r hr => k r (xs ++ ys) H2 e2 hr (by rw [List.length_append, hlen]) fun y hy => by
    rcases List.mem_append.mp hy with m | m
    · exact L _ _ _ e2 (hx y m)
    · exact hall y m⟩⟩
/-- l.append(e) -/
theorem q_appE (hl : H l = some (.lst xs)) (ha : Ev tl σ H (.ref l)) (h : Es Pr te σ H) (hz : xs.length < 100000) (k : ∀ v H1, Ex H H1 → Pr v H1 → z D σ (upd H1 l (.lst (xs ++ [v])))) :
    tSeq (tDrop (tBM K "list" rAppend tl (tCons te tNil))) z D σ H := ha H (Ex.refl H) _ fun H1 e1 =>
  ⟨Or.inl ⟨rfl, xs, sq_of (e1 l _ hl)⟩, h H1 e1 _ fun v H2 e2 hd => ⟨l, xs, v, rfl, rfl, e2 l _ (e1 l _ hl), sz_lt hz, k v H2 (e1.trans e2) hd⟩⟩
/-- [e for x in l if t], t of none -/
theorem el_none (L : Lasts Pr) (h : Ev tl σ H (.ref l)) (hl : SqL K H l xs) (hz : xs.length ≤ 40000) (hx : ∀ x ∈ xs, Pr x H) (hw : ∀ x, wipe ((wipe σ ws).set j (some x)) ws = wipe σ ws)
    (ht : ∀ x H1, Ex H H1 → Pr x H1 → EvT tt ((wipe σ ws).set j (some x)) H1 false) : EvL (tLc (iList K tl) (gName j) tt te ws) σ H [] := fun H1 e1 Q q => by
  refine lc_listF (K := K) (R := fun H' x (b : V) => Pr x H') (R' := RI) (as := xs) (c := fun _ => false) (e := fun _ => (0 : Int)) (fun _ _ x _ e r => L x _ _ e r) (fun _ _ _ _ _ r => r) (fun _ _ _ _ _ _ _ r => r) (evf_var (fun _ _ x _ e r => L x _ _ e r) h hl ?_) hz hw (fun x b _ H2 e2 r => ht x H2 e2 r) (fun x b _ z => nomatch z) H1 e1 Q (fun D vs H2 nD e2 hD hf => ?_)
  · clear hl hz
    induction xs with
    | nil => exact .nil
    | cons x r ih => exact .cons (hx x List.mem_cons_self) (ih fun y hy => hx y (List.mem_cons_of_mem x hy))
  · have e : vs = [] := by
      have := hf.len
      rw [List.length_map, show (xs.filter fun _ => false) = [] from List.filter_eq_nil_iff.mpr (fun _ _ z => Bool.false_ne_true z)] at this
      exact List.eq_nil_of_length_eq_zero this
    rw [e] at hD
    exact q D H2 nD e2 hD
end
theorem two_words {K : PySem.W.Frag} {C : Addr} {ps qs : List (Int × Int)} {n i : Int} {u : Str} {pb : Bool} (hc : Cts ps) (hp : qs.Perm ps) (hb : (tot qs + 1).natAbs < 10 ^ 200) (t0 : 0 ≤ tot qs) (hu : u = "lacks" ∨ u = "over") (hpb : (decide (n ≤ tot ps) && okB ps n) = pb) :
    ∃ due, (∀ H, LjV H ps n (.str u) .non (.int i) due) ∧ (∀ H t, SqT K H t [.str u, .int i] → PvV K C H qs n (.ref t) due) ∧ (due = true → pb = false) := by
  have tq : tot qs = tot ps := tot_perm hp
  rcases hu with rfl | rfl
  · refine ⟨sizB i && decide (i ∈ lck qs n), fun H => ?_, fun H t h => .lacks h, fun z => ?_⟩
    · have z : LjV H ps n (.str "lacks") .non (.int i) ((cnt ps i).isSome && decide (sml ps i < n % i)) := .lacks
      rw [lck_mem hc hp n i] at z
      exact z
    · rw [Bool.and_eq_true, decide_eq_true_eq] at z
      rw [← hpb, okB_perm hp.symm n, lck_ne z.2, Bool.and_false]
  · refine ⟨decide (i = tot ps) && decide (i < n), fun H => .over, fun H t h => ?_, fun z => ?_⟩
    · have z : PvV K C H qs n (.ref t) (intB i && (decide (i = tot qs) && decide (i < n))) := .over h
      by_cases y : i = tot qs
      · have z3 : intB i = true := by
          unfold intB
          rw [y]
          exact decide_eq_true (Nat.lt_of_le_of_lt (show _ ≤ (tot qs + 1).natAbs by omega) hb)
        rw [z3, tq] at z
        exact z
      · rw [decide_eq_false y, Bool.false_and, Bool.and_false] at z
        rw [decide_eq_false (show ¬ i = tot ps by rw [← tq]; exact y), Bool.false_and]
        exact z
    · rw [Bool.and_eq_true, decide_eq_true_eq, decide_eq_true_eq] at z
      rw [← hpb, decide_eq_false (show ¬ n ≤ tot ps by omega), Bool.false_and]
end Ck
namespace Ck
open PySem PySem.Spec PyProof.Rows L2 StX Evl
section
variable {K : PySem.W.Frag} {σ : L2.St} {H : Hp} {te tl : TE} {tt : TT} {i j : Nat} {d l : Addr} {xs : List V} {D : Ends} {z : TS} {ws : List Nat}
/-- name = e, by a word about what comes -/
theorem q_asgP (P : V → Hp → Prop) (h : ∀ Q : VK, (∀ v H1, P v H1 → Q v H1) → te σ H Q) (k : ∀ v H1, P v H1 → z D (σ.set i (some v)) H1) : tSeq (tAsg te (gName i)) z D σ H := h (fun x H1 => gName i x σ H1 (z D)) k
/-- for x in e: the list made first -/
theorem q_forD {g : TG} {body : TS} (P : Addr → List V → Hp → Prop) (h : ∀ Q : VK, (∀ l xs H1, P l xs H1 → Q (.ref l) H1) → te σ H Q) (hP : ∀ l xs H1, P l xs H1 → SqL K H1 l xs) (k : ∀ l xs H1, P l xs H1 → tFor (iList K (tC (.ref l))) g body { D with nx := z D } σ H1) : tSeq (tFor (iList K te) g body) z D σ H := h _ fun l xs H1 p => by
  obtain ⟨a, e, hx, hw⟩ := k l xs H1 p
  cases e
  exact ⟨l, rfl, hx, hw⟩
/-- a written list and what dice give -/
theorem cat_dice {m : Nat} {n : Int} {ns : List Int} (P : Int → Prop) (ha : EvL tl σ H (ns.map V.int)) (hn : n = (m : Int)) (hm : m ≤ 1000) (hz : ns.length ≤ 1000) (hd : Dice H d) (hw : ∀ x, wipe ((wipe σ ws).set j (some x)) ws = wipe σ ws)
    (he : ∀ (k : Nat) H1, k < m → Kd d H H1 → ∀ Q : VK, (∀ v H2, Kd d H1 H2 → P v → Q (.int v) H2) → te ((wipe σ ws).set j (some (.int (k : Int)))) H1 Q) (Q : VK)
    (q : ∀ (l : Addr) (ks : List Int) (H' : Hp), l ≠ d → Kd d H H' → H' l = some (.lst (ks.map V.int)) → (∀ k ∈ ks, k ∈ ns ∨ P k) → Q (.ref l) H') : tOp rCat tl (tLc (iRng1 (tCons (tC (.int n)) tNil)) (gName j) tYes te ws) σ H Q := by
  subst hn
  refine ha H (Ex.refl H) _ fun l1 H1 n1 e1 hl1 => ?_
  have ne1 : l1 ≠ d := hd.ne n1
  refine lc_rngD (d := d) (R := fun _ v => ∃ k, v = .int k ∧ P k) (fun _ _ _ _ _ r => r) (fun _ _ _ _ _ _ r => r) hm (hd.ex e1) hw (fun k H2 hk k2 Q' q' => he k H2 hk ((Kd.ex hd e1).trans k2) Q' fun v H3 k3 p => q' _ H3 k3 ⟨v, rfl, p⟩) _ (fun D vs H2 nD Dd k2 hD hlen hv => ?_)
  obtain ⟨ks, hf, hp⟩ := f2_some (R := RI H2) (P := P) hv
  have ev := f2_ints hf
  subst ev
  rw [List.length_map] at hlen
  refine ⟨l1, D, _, _, rfl, rfl, k2.1 _ _ ne1 hl1, hD, sz_of (by rw [List.length_map, List.length_map]; omega), fun p np => q p (ns ++ ks) _ (k2.2.ne np) (((Kd.ex hd e1).trans k2).to (Ex.new np)) (by rw [upd_same, List.map_append]) fun k hk => ?_⟩
  rcases List.mem_append.mp hk with m | m
  · exact .inl m
  · exact .inr (hp k m)
/-- [e for x in l if t], t rolls dice and holds of none -/
theorem lc_noneD (hv : σ[i]? = some (some (.ref l))) (hd : Dice H d) (ld : l ≠ d) (hl : H l = some (.lst xs)) (hw : ∀ x, wipe ((wipe σ ws).set j (some x)) ws = wipe σ ws)
    (ht : ∀ x ∈ xs, ∀ H1, Kd d H H1 → ∀ Q : Bool → Hp → Prop, (∀ H2, Kd d H1 H2 → Q false H2) → tt ((wipe σ ws).set j (some x)) H1 Q) (Q : VK) (q : ∀ D H', H D = none → D ≠ d → Kd d H H' → H' D = some (.lst []) → Q (.ref D) H') : tLc (iList K (tVar i)) (gName j) tt te ws σ H Q :=
  ⟨.ref l, hv, l, rfl, ⟨xs, SqL.of hl⟩, fun D hD => by
    have Dd := hd.ne hD
    refine lc_it walk_list (fun k H' => Kd d H H' ∧ H' D = some (.lst [])) ⟨Kd.ex hd (Ex.new hD), upd_same⟩ (fun k H' _ p => SqL.of (p.1.1 _ _ ld hl)) ?_ (fun H' p => q D H' hD Dd p.1 p.2)
    rintro k x H2 H3 hk ⟨p1, p2⟩ ⟨e3, hxi⟩
    rw [e3]
    exact ⟨hw _, ht x (List.mem_of_getElem? hxi) H2 p1 _ fun H4 k4 => iteF ⟨p1.trans k4, k4.1 _ _ Dd p2⟩⟩⟩
/-- [..] == [], the list is empty -/
theorem ret_noneD {w : Value → Prop} (h : ∀ Q : VK, (∀ D H', H D = none → D ≠ d → Kd d H H' → H' D = some (.lst []) → Q (.ref D) H') → te σ H Q) (k : ∀ H', Kd d H H' → D.rt (.bl true) H') : tRet (tOp (rEqD K) te (tLst tNil)) D σ H :=
  h _ fun a H1 _ _ k1 h1 => ⟨(show 0 ≤ sizeLine by decide), fun p np => ⟨.list [], .list [], .lst (SqL.of ((Ex.new np) _ _ h1)) .nil, .lst (SqL.of upd_same) .nil, shaped_flat (fun _ z => nomatch z), shaped_flat (fun _ z => nomatch z), k _ (k1.to (Ex.new np))⟩⟩
end
end Ck

/-! dict comprehensions from ints to ints -/
namespace Ck
open PySem PySem.Spec PyProof.Rows L2 StX Evl
section
variable {J : It} {n : Nat} {G : Hp → Prop} {Y : Nat → Hp → V → Hp → Prop}
theorem dc_it (w : Walk J n G Y) {g : TG} {tt : TT} {tk tv : TE} {vs : List Nat} {σ : L2.St} {H1 : Hp} {D : Addr} {Qd : Hp → Prop} (Pv : Nat → Hp → Prop) (h0 : Pv 0 (upd H1 D (.dK []))) (hG : ∀ i H, i ≤ n → Pv i H → G H)
    (hs : ∀ i x H H', i < n → Pv i H → Y i H x H' → g x (wipe σ vs) H' fun σ2 H2 => wipe σ2 vs = wipe σ vs ∧ tt σ2 H2 fun b H3 =>
      if b = true then tk σ2 H3 fun y H4 => tv σ2 H4 fun z H5 => ∃ kvs k, y = kV k ∧ H5 D = some (.dK kvs) ∧ kvs.length < sizeLine ∧ Pv (i + 1) (upd H5 D (.dK (putK kvs k z))) else Pv (i + 1) H3) (hd : ∀ H, Pv n H → Qd H) :
    ∃ W : Nat → Nat → Hp → Prop, (∃ m, W 0 m (upd H1 D (.dK []))) ∧ ∀ i m H, W i m H →
      (J.stop i H ∧ Qd H) ∨ (J.go i H ∧ ∃ Nx : Hp → Prop, (∀ H', Nx H' → ∃ m', m' < m ∧ W (i + 1) m' H') ∧ ∀ x H', J.yld i H x H' → g x (wipe σ vs) H' fun σ2 H2 => wipe σ2 vs = wipe σ vs ∧ tt σ2 H2 fun b H3 =>
        if b = true then tk σ2 H3 fun y H4 => tv σ2 H4 fun z H5 => ∃ kvs k, y = kV k ∧ H5 D = some (.dK kvs) ∧ kvs.length < sizeLine ∧ Nx (upd H5 D (.dK (putK kvs k z))) else Nx H3) := by
  refine ⟨fun i m H => m = n - i ∧ i ≤ n ∧ Pv i H, ⟨n, by simp, Nat.zero_le _, h0⟩, ?_⟩
  rintro i m H ⟨rfl, hi, p⟩
  have q := hG i H hi p
  by_cases hlt : i < n
  · refine .inr ⟨w.goes i H hlt q, Pv (i + 1), fun H' p' => ⟨n - (i + 1), by omega, rfl, hlt, p'⟩, fun x H' y => hs i x H H' hlt p (w.yields i H x H' hlt q y)⟩
  · have e : i = n := by omega
    subst e
    exact .inl ⟨w.stops H q, hd H p⟩
end
/-- a pair is put into a dict -/
def putP (acc : List (Int × Int)) (p : Int × Int) : List (Int × Int) := if p.1 ∈ acc.map Prod.fst then acc.map (fun q => if q.1 = p.1 then p else q) else acc ++ [p]
def merP (acc more : List (Int × Int)) : List (Int × Int) := more.foldl putP acc
theorem putP_kc (acc : List (Int × Int)) (p : Int × Int) : putK (acc.map kc) (Sum.inl p.1 : Key) (.int p.2) = (putP acc p).map kc := by
  unfold putK putP
  have e : ((acc.map kc).any fun kv => decide (kv.1 = (Sum.inl p.1 : Key))) = decide (p.1 ∈ acc.map Prod.fst) := by
    rw [List.any_map]
    refine bool_iff ?_
    rw [List.any_eq_true, decide_eq_true_eq, List.mem_map]
    constructor
    · rintro ⟨x, hx, e⟩
      exact ⟨x, hx, Sum.inl.inj (of_decide_eq_true e)⟩
    · rintro ⟨x, hx, e⟩
      exact ⟨x, hx, decide_eq_true (congrArg Sum.inl e)⟩
  rw [e]
  by_cases h : p.1 ∈ acc.map Prod.fst
  · rw [decide_eq_true h, if_pos rfl, if_pos h, List.map_map, List.map_map]
    refine List.map_congr_left fun q _ => ?_
    show (if (kc q).1 = (Sum.inl p.1 : Key) then ((kc q).1, V.int p.2) else kc q) = kc (if q.1 = p.1 then p else q)
    by_cases z : q.1 = p.1
    · rw [if_pos (show (kc q).1 = (Sum.inl p.1 : Key) from congrArg Sum.inl z), if_pos z]
      show ((Sum.inl q.1 : Key), V.int p.2) = ((Sum.inl p.1 : Key), V.int p.2)
      rw [z]
    · rw [if_neg (show ¬ (kc q).1 = (Sum.inl p.1 : Key) from fun e => z (Sum.inl.inj e)), if_neg z]
  · rw [decide_eq_false h, if_neg Bool.false_ne_true, if_neg h, List.map_append]
    rfl
theorem putP_fst (acc : List (Int × Int)) (p : Int × Int) : (putP acc p).map Prod.fst = if p.1 ∈ acc.map Prod.fst then acc.map Prod.fst else acc.map Prod.fst ++ [p.1] := by
  unfold putP
  split
  · rw [List.map_map]
    refine List.map_congr_left fun q _ => ?_
    show (if q.1 = p.1 then p else q).1 = q.1
    split
    · next z => exact z.symm
    · rfl
  · rw [List.map_append]
    rfl
theorem putP_nodup {acc : List (Int × Int)} {p : Int × Int} (h : (acc.map Prod.fst).Nodup) : ((putP acc p).map Prod.fst).Nodup := by
  rw [putP_fst]
  split
  · exact h
  · next n => exact List.nodup_append.mpr ⟨h, List.nodup_cons.mpr ⟨List.not_mem_nil, List.nodup_nil⟩, fun a ha b hb => by rw [List.mem_singleton.mp hb]; exact fun e => n (e ▸ ha)⟩
theorem putP_mem {acc : List (Int × Int)} {p : Int × Int} (s : Int) : s ∈ (putP acc p).map Prod.fst ↔ s ∈ acc.map Prod.fst ∨ s = p.1 := by
  rw [putP_fst]
  split
  · next h => exact ⟨.inl, fun z => z.elim id fun e => e ▸ h⟩
  · rw [List.mem_append, List.mem_singleton]
theorem putP_cnt {acc : List (Int × Int)} {p : Int × Int} (h : (acc.map Prod.fst).Nodup) (s : Int) : cnt (putP acc p) s = if s = p.1 then some p.2 else cnt acc s := by
  have nd := putP_nodup (p := p) h
  by_cases z : s = p.1
  · rw [if_pos z]
    refine (cnt_mem nd).mp ?_
    subst z
    unfold putP
    split
    · next m =>
      obtain ⟨q, hq, e⟩ := List.mem_map.mp m
      exact List.mem_map.mpr ⟨q, hq, by rw [if_pos e]⟩
    · exact List.mem_append_right _ (List.mem_singleton.mpr rfl)
  · rw [if_neg z]
    refine cnt_ext nd h fun c => ?_
    unfold putP
    split
    · rw [List.mem_map]
      constructor
      · rintro ⟨q, hq, e⟩
        by_cases y : q.1 = p.1
        · rw [if_pos y] at e
          rw [e] at z
          exact absurd rfl z
        · rw [if_neg y] at e
          rw [← e]
          exact hq
      · intro m
        exact ⟨_, m, if_neg z⟩
    · rw [List.mem_append, List.mem_singleton]
      exact ⟨fun m => m.elim id fun e => absurd (congrArg Prod.fst e) z, .inl⟩
theorem putP_len (acc : List (Int × Int)) (p : Int × Int) : (putP acc p).length ≤ acc.length + 1 := by
  unfold putP
  split
  · rw [List.length_map]
    omega
  · rw [List.length_append]
    exact Nat.le_refl _
theorem merP_snoc (acc more : List (Int × Int)) (p : Int × Int) : merP acc (more ++ [p]) = putP (merP acc more) p := by
  unfold merP
  rw [List.foldl_append]
  rfl
theorem merP_nodup {more : List (Int × Int)} : ∀ {acc : List (Int × Int)}, (acc.map Prod.fst).Nodup → ((merP acc more).map Prod.fst).Nodup := by
  induction more with
  | nil => exact fun h => h
  | cons p r ih => exact fun h => ih (putP_nodup h)
theorem merP_mem {more : List (Int × Int)} (s : Int) : ∀ {acc : List (Int × Int)}, s ∈ (merP acc more).map Prod.fst ↔ s ∈ acc.map Prod.fst ∨ s ∈ more.map Prod.fst := by
  induction more with
  | nil => exact fun {acc} => ⟨.inl, fun h => h.elim id fun m => nomatch m⟩
  | cons p r ih =>
    intro acc
    show s ∈ (merP (putP acc p) r).map Prod.fst ↔ _
    rw [ih, putP_mem, List.map_cons, List.mem_cons, or_assoc]
theorem merP_cnt {more : List (Int × Int)} (s : Int) : ∀ {acc : List (Int × Int)}, (acc.map Prod.fst).Nodup → (∀ p ∈ more, p.1 ≠ s) → cnt (merP acc more) s = cnt acc s := by
  induction more with
  | nil => exact fun _ _ => rfl
  | cons p r ih =>
    intro acc h n
    show cnt (merP (putP acc p) r) s = _
    rw [ih (putP_nodup h) fun q hq => n q (List.mem_cons_of_mem p hq), putP_cnt h, if_neg (Ne.symm (n p List.mem_cons_self))]
/-- keys with the values of a function -/
theorem merP_fn {f : Int → Int} (s : Int) : ∀ {ns : List Int} {acc : List (Int × Int)}, (acc.map Prod.fst).Nodup → cnt (merP acc (ns.map fun s => (s, f s))) s = if s ∈ ns then some (f s) else cnt acc s
  | [], _, _ => rfl
  | n :: r, acc, h => by
    show cnt (merP (putP acc (n, f n)) (r.map fun s => (s, f s))) s = _
    rw [merP_fn s (putP_nodup h), putP_cnt h]
    by_cases m : s ∈ r
    · rw [if_pos m, if_pos (List.mem_cons_of_mem n m)]
    · rw [if_neg m]
      by_cases e : s = n
      · rw [if_pos e, if_pos (by rw [e]; exact List.mem_cons_self), e]
      · rw [if_neg e, if_neg (fun z => (List.mem_cons.mp z).elim e m)]
theorem merP_new : ∀ {more acc : List (Int × Int)}, ((acc ++ more).map Prod.fst).Nodup → merP acc more = acc ++ more
  | [], acc, _ => (List.append_nil acc).symm
  | p :: r, acc, h => by
    have n : p.1 ∉ acc.map Prod.fst := fun m => by
      rw [List.map_append, List.map_cons, List.nodup_append] at h
      exact h.2.2 _ m _ List.mem_cons_self rfl
    have e : putP acc p = acc ++ [p] := if_neg n
    show merP (putP acc p) r = _
    rw [e, merP_new (acc := acc ++ [p]) (by rw [List.append_assoc]; exact h), List.append_assoc]
    rfl
theorem merP_self {more : List (Int × Int)} (h : (more.map Prod.fst).Nodup) : merP [] more = more := merP_new (acc := []) h
theorem merP_len : ∀ (more acc : List (Int × Int)), (merP acc more).length ≤ acc.length + more.length
  | [], acc => Nat.le_refl _
  | p :: r, acc => by
    have := merP_len r (putP acc p)
    have := putP_len acc p
    show (merP (putP acc p) r).length ≤ _
    rw [List.length_cons]
    omega
/-- a new dict comes -/
def EvD (te : TE) (σ : L2.St) (H : Hp) (ps : List (Int × Int)) : Prop := ∀ H1, Ex H H1 → ∀ Q : VK, (∀ p H2, H1 p = none → Ex H1 H2 → H2 p = some (.dK (ps.map kc)) → Q (.ref p) H2) → te σ H1 Q
section
variable {K : PySem.W.Frag} {σ : L2.St} {H : Hp} {td tl tk tv : TE} {tt : TT} {a d : Addr} {ts : List V} {ps : List (Int × Int)} {ns : List Int} {j j2 : Nat} {ws : List Nat}
theorem EvD.mono {te : TE} {H' : Hp} (e : Ex H H') (h : EvD te σ H ps) : EvD te σ H' ps := fun H1 a Q q => h H1 (e.trans a) Q q
theorem EvD.is {te : TE} {qs : List (Int × Int)} (h : EvD te σ H ps) (e : ps = qs) : EvD te σ H qs := e ▸ h
theorem dc_turn {H1 H2 : Hp} {D : Addr} {i : Nat} {p : Int × Int} {acc : List (Int × Int)} {σ2 : L2.St} {H3 : Hp} {Pv : Hp → Prop} (p1 : H1 D = none) (p2 : Ex H1 H3) (p3 : H3 D = some (.dK (acc.map kc))) (p4 : acc.length ≤ 40000)
    (hk : Ev tk σ2 H3 (.int p.1)) (hv : Ev tv σ2 H3 (.int p.2)) (k : ∀ H5, Ex H1 H5 → H5 D = some (.dK ((putP acc p).map kc)) → Pv H5) :
    tk σ2 H3 fun y H4 => tv σ2 H4 fun z H5 => ∃ kvs k, y = kV k ∧ H5 D = some (.dK kvs) ∧ kvs.length < sizeLine ∧ Pv (upd H5 D (.dK (putK kvs k z))) :=
  hk H3 (Ex.refl H3) _ fun H4 e4 => hv H4 e4 _ fun H5 e5 => ⟨acc.map kc, Sum.inl p.1, rfl, (e4.trans e5) _ _ p3, sz_lt (by rw [List.length_map]; omega), k _ (Ex.mut (p2.trans (e4.trans e5)) p1) (by rw [upd_same, putP_kc])⟩
/-- {k: v for n in t if c}, t a tuple of ints -/
theorem dc_tupN (c : Int → Bool) (g : Int → Int × Int) (h : Etu K tl σ H (ns.map V.int)) (hz : ns.length ≤ 40000) (hw : ∀ x, wipe ((wipe σ ws).set j (some x)) ws = wipe σ ws)
    (ht : ∀ n ∈ ns, ∀ H1, Ex H H1 → EvT tt ((wipe σ ws).set j (some (.int n))) H1 (c n)) (hk : ∀ n ∈ ns, c n = true → ∀ H1, Ex H H1 → Ev tk ((wipe σ ws).set j (some (.int n))) H1 (.int (g n).1)) (hv : ∀ n ∈ ns, c n = true → ∀ H1, Ex H H1 → Ev tv ((wipe σ ws).set j (some (.int n))) H1 (.int (g n).2)) :
    EvD (tDc (iTup K tl) (gName j) tt tk tv ws) σ H (merP [] ((ns.filter c).map g)) := fun H0 e0 Q q => h H0 e0 _ fun a H1 e1 hx => ⟨a, rfl, ⟨_, hx⟩, fun D hD => by
  refine dc_it walk_tup (fun i H' => H1 D = none ∧ Ex H1 H' ∧ ∃ acc, H' D = some (.dK (acc.map kc)) ∧ acc.length ≤ i ∧ acc = merP [] (((ns.take i).filter c).map g)) ⟨hD, Ex.new hD, [], upd_same, Nat.le_refl _, rfl⟩ (fun i H' _ p => ex_t p.2.1 hx) ?_ ?_
  · rintro i x H2 H3 hi ⟨p1, p2, acc, p3, p4, p5⟩ ⟨e3, hxi⟩
    rw [e3]
    rw [List.length_map] at hi
    rw [List.getElem?_map, List.getElem?_eq_getElem hi] at hxi
    obtain rfl := Option.some.inj hxi
    have m := List.getElem_mem hi
    have e02 := (e0.trans e1).trans p2
    refine ⟨hw _, ht _ m H2 e02 H2 (Ex.refl H2) _ fun H4 e4 => ?_⟩
    have st : ns.take (i + 1) = ns.take i ++ [ns[i]] := by rw [List.take_add_one, List.getElem?_eq_getElem hi]; rfl
    cases hc : c ns[i] with
    | true =>
      refine iteT (dc_turn (H2 := H4) (i := i) (p := g ns[i]) (Pv := fun H' => H1 D = none ∧ Ex H1 H' ∧ ∃ acc, H' D = some (.dK (acc.map kc)) ∧ acc.length ≤ i + 1 ∧ acc = merP [] (((ns.take (i + 1)).filter c).map g)) p1 (p2.trans e4) (e4 _ _ p3) (by omega) (hk _ m hc H4 (e02.trans e4)) (hv _ m hc H4 (e02.trans e4)) fun H5 e5 h5 => ⟨p1, e5, _, h5, Nat.le_trans (putP_len _ _) (Nat.succ_le_succ p4), ?_⟩)
      rw [st, List.filter_append, List.map_append, show [ns[i]].filter c = [ns[i]] by rw [List.filter_cons, hc]; rfl, p5]
      exact (merP_snoc _ _ _).symm
    | false =>
      refine iteF ⟨p1, p2.trans e4, acc, e4 _ _ p3, Nat.le_succ_of_le p4, ?_⟩
      rw [st, List.filter_append, show [ns[i]].filter c = [] by rw [List.filter_cons, hc]; rfl, List.append_nil]
      exact p5
  · rintro H2 ⟨p1, p2, acc, p3, _, p5⟩
    rw [List.length_map, List.take_of_length_le (Nat.le_refl _)] at p5
    rw [p5] at p3
    exact q D H2 (fresh_back e1 p1) (e1.trans p2) p3⟩
/-- {k: v for a, b in t if c}, t a tuple of pairs -/
theorem dc_tupP (c : Int × Int → Bool) (g : Int × Int → Int × Int) (h : Ev tl σ H (.ref a)) (ht0 : SqT K H a ts) (hf : F2 (RP K H) ts ps) (hz : ps.length ≤ 40000)
    (hw : ∀ x y, wipe (((wipe σ ws).set j (some x)).set j2 (some y)) ws = wipe σ ws) (ht : ∀ p ∈ ps, ∀ H1, Ex H H1 → EvT tt (((wipe σ ws).set j (some (.int p.1))).set j2 (some (.int p.2))) H1 (c p))
    (hk : ∀ p ∈ ps, c p = true → ∀ H1, Ex H H1 → Ev tk (((wipe σ ws).set j (some (.int p.1))).set j2 (some (.int p.2))) H1 (.int (g p).1)) (hv : ∀ p ∈ ps, c p = true → ∀ H1, Ex H H1 → Ev tv (((wipe σ ws).set j (some (.int p.1))).set j2 (some (.int p.2))) H1 (.int (g p).2)) :
    EvD (tDc (iTup K tl) (gTup K 2 (gCons (gName j) (gCons (gName j2) gNil))) tt tk tv ws) σ H (merP [] ((ps.filter c).map g)) := fun H0 e0 Q q => h H0 e0 _ fun H1 e1 => ⟨a, rfl, ⟨ts, ex_t (e0.trans e1) ht0⟩, fun D hD => by
  have e01 := e0.trans e1
  refine dc_it walk_tup (fun i H' => H1 D = none ∧ Ex H1 H' ∧ ∃ acc, H' D = some (.dK (acc.map kc)) ∧ acc.length ≤ i ∧ acc = merP [] (((ps.take i).filter c).map g)) ⟨hD, Ex.new hD, [], upd_same, Nat.le_refl _, rfl⟩ (fun i H' _ p => ex_t (e01.trans p.2.1) ht0) ?_ ?_
  · rintro i x H' H2 hi ⟨p1, p2, acc, p3, p4, p5⟩ ⟨rfl, hxi⟩
    obtain ⟨p, hp, t, rfl, hpt⟩ := hf.at hxi
    have m := List.mem_of_getElem? hp
    have st : ps.take (i + 1) = ps.take i ++ [p] := by rw [List.take_add_one, hp]; rfl
    have i12 : i < ps.length := (List.getElem?_eq_some_iff.mp hp).1
    refine ⟨t, _, rfl, ex_t (e01.trans p2) hpt, rfl, _, _, rfl, _, _, rfl, rfl, hw _ _, ht p m H2 (e01.trans p2) H2 (Ex.refl _) _ fun H4 e4 => ?_⟩
    cases hc : c p with
    | true =>
      refine iteT (dc_turn (H2 := H4) (i := i) (p := g p) (Pv := fun H' => H1 D = none ∧ Ex H1 H' ∧ ∃ acc, H' D = some (.dK (acc.map kc)) ∧ acc.length ≤ i + 1 ∧ acc = merP [] (((ps.take (i + 1)).filter c).map g)) p1 (p2.trans e4) (e4 _ _ p3) (by omega) (hk p m hc H4 (e01.trans (p2.trans e4))) (hv p m hc H4 (e01.trans (p2.trans e4))) fun H5 e5 h5 => ⟨p1, e5, _, h5, Nat.le_trans (putP_len _ _) (Nat.succ_le_succ p4), ?_⟩)
      rw [st, List.filter_append, List.map_append, show [p].filter c = [p] by rw [List.filter_cons, hc]; rfl, p5]
      exact (merP_snoc _ _ _).symm
    | false =>
      refine iteF ⟨p1, p2.trans e4, acc, e4 _ _ p3, Nat.le_succ_of_le p4, ?_⟩
      rw [st, List.filter_append, show [p].filter c = [] by rw [List.filter_cons, hc]; rfl, List.append_nil]
      exact p5
  · rintro H2 ⟨p1, p2, acc, p3, _, p5⟩
    rw [hf.len, List.take_of_length_le (Nat.le_refl _)] at p5
    rw [p5] at p3
    exact q D H2 (fresh_back e1 p1) (e1.trans p2) p3⟩
/-- {k: v for a, b in d.items() if c} -/
theorem dc_items (c : Int × Int → Bool) (g : Int × Int → Int × Int) (hv0 : ∀ H1, Ev td σ H1 (.ref d)) (hd : H d = some (.dK (ps.map kc))) (hl : ps.length ≤ 40000) (hw : ∀ x y, wipe (((wipe σ ws).set j (some x)).set j2 (some y)) ws = wipe σ ws)
    (ht : ∀ p ∈ ps, ∀ H1, Fz d (.dK (ps.map kc)) H H1 → EvT tt (((wipe σ ws).set j (some (.int p.1))).set j2 (some (.int p.2))) H1 (c p))
    (hk : ∀ p ∈ ps, c p = true → ∀ H1, Fz d (.dK (ps.map kc)) H H1 → Ev tk (((wipe σ ws).set j (some (.int p.1))).set j2 (some (.int p.2))) H1 (.int (g p).1)) (hv : ∀ p ∈ ps, c p = true → ∀ H1, Fz d (.dK (ps.map kc)) H H1 → Ev tv (((wipe σ ws).set j (some (.int p.1))).set j2 (some (.int p.2))) H1 (.int (g p).2)) :
    EvD (tLockE (tDc (iItems td) (gTup K 2 (gCons (gName j) (gCons (gName j2) gNil))) tt tk tv ws)) σ H (merP [] ((ps.filter c).map g)) := fun H0 e Q q => by
  have hd0 := e _ _ hd
  refine ⟨d, _, hd0, trivial, fun od => hv0 _ _ (Ex.refl _) _ fun H2 e2 => ?_⟩
  have z : Fz d (.dK (ps.map kc)) H0 H2 := (fz_of (od := od)).to e2
  have hd2 : H2 d = some (.frz od (.dK (ps.map kc))) := e2 _ _ upd_same
  refine ⟨d, od, ps.map kc, rfl, hd2, fun D hD => ?_⟩
  refine dc_it walk_items (fun i H' => H2 D = none ∧ Ex H2 H' ∧ ∃ acc, H' D = some (.dK (acc.map kc)) ∧ acc.length ≤ i ∧ acc = merP [] (((ps.take i).filter c).map g)) ⟨hD, Ex.new hD, [], upd_same, Nat.le_refl _, rfl⟩ (fun _ _ _ p => p.2.1 _ _ hd2) ?_ ?_
  · rintro i _ H' H3 hi ⟨p1, p2, acc, p3, p4, p5⟩ ⟨T, x, y, rfl, hT, rfl, hx, hy⟩
    rw [List.length_map] at hi
    have hx : ((ps.map kc)[i]?.map fun kv => kV kv.1) = some x := hx
    have hy : ((ps.map kc)[i]?.map Prod.snd) = some y := hy
    rw [List.getElem?_map, List.getElem?_eq_getElem hi] at hx hy
    obtain rfl := Option.some.inj hx
    obtain rfl := Option.some.inj hy
    have m := List.getElem_mem hi
    have st : ps.take (i + 1) = ps.take i ++ [ps[i]] := by rw [List.take_add_one, List.getElem?_eq_getElem hi]; rfl
    generalize ps[i] = p at m st ⊢
    have eT : Ex H' (upd H' T (.tup [.int p.1, .int p.2])) := Ex.new hT
    have p3' := eT _ _ p3
    have p2' := p2.trans eT
    have hTT : SqT K (upd H' T (.tup [.int p.1, .int p.2])) T [.int p.1, .int p.2] := SqT.of upd_same
    refine ⟨T, _, rfl, hTT, rfl, _, _, rfl, _, _, rfl, rfl, hw _ _, ?_⟩
    have zz := (z.to p2').of e
    refine ht p m _ zz _ (Ex.refl _) _ fun H4 e4 => ?_
    cases hc : c p with
    | true =>
      refine iteT (dc_turn (H2 := H4) (i := i) (p := g p) (Pv := fun H' => H2 D = none ∧ Ex H2 H' ∧ ∃ acc, H' D = some (.dK (acc.map kc)) ∧ acc.length ≤ i + 1 ∧ acc = merP [] (((ps.take (i + 1)).filter c).map g)) p1 (p2'.trans e4) (e4 _ _ p3') (by omega) (hk p m hc H4 (zz.to e4)) (hv p m hc H4 (zz.to e4)) fun H5 e5 h5 => ⟨p1, e5, _, h5, Nat.le_trans (putP_len _ _) (Nat.succ_le_succ p4), ?_⟩)
      rw [st, List.filter_append, List.map_append, show [p].filter c = [p] by rw [List.filter_cons, hc]; rfl, p5]
      exact (merP_snoc _ _ _).symm
    | false =>
      refine iteF ⟨p1, p2'.trans e4, acc, e4 _ _ p3', Nat.le_succ_of_le p4, ?_⟩
      rw [st, List.filter_append, show [p].filter c = [] by rw [List.filter_cons, hc]; rfl, List.append_nil]
      exact p5
  · rintro H3 ⟨p1, p2, acc, p3, _, p5⟩
    rw [List.length_map, List.take_of_length_le (Nat.le_refl _)] at p5
    obtain ⟨n1, n2⟩ := z.new hd0 hD
    have hd3 := p2 _ _ hd2
    rw [p5] at p3
    exact ⟨hd3, q D _ n1 ((z.to p2).back hd0) (by rw [upd_ne n2]; exact p3)⟩
end
end Ck

/-! d.update(e); a tuple beside a text; errors made with a text -/
namespace Ck
open PySem PySem.Spec PyProof.Rows L2 StX Evl
/-- an own error that is made with a text -/
structure ErM (K : PySem.W.Frag) (mg : Str → Option Value) (x : Str) (C : Addr) : Prop where
  q : PySem.W.excIn K C [.type "ValueError", .type "Exception", .type "BaseException", .type "object"] "ValueError.__new__" = true
  g : mg x = some (.ref C)
  k : PySem.W.keepIn K (.ref C) = true
  e : PySem.W.subIn K (.ref C) (.type "BaseException") = some true
  t : PySem.W.typeIn K (.ref C) = some (.type "type")
section
variable {X : Cx}
def rUpd : V → List V → Hp → VK → Prop := fun x vs H Q => ∃ (a b : Addr) (kvs more : List (Key × V)), x = .ref a ∧ vs = [.ref b] ∧ a ≠ b ∧ H a = some (.dK kvs) ∧ Rd H b (.dK more) ∧ kvs.length + more.length ≤ sizeLine ∧ Q .non (upd H a (.dK (mergeK kvs more)))
theorem mt_update : MtR X "dict.update" rUpd := by
  intro pins s σ H x xs v us Q I rx rxs h
  obtain ⟨a, b, kvs, more, rfl, rfl, ne, ha, hb, hz, q⟩ := h
  cases rx
  obtain ⟨u1, rfl, r1⟩ := vals1 rxs
  cases r1
  obtain ⟨z, hd, vs, rel, dd⟩ := dk_of I.hok ha
  obtain ⟨z2, hd2, vs2, rel2, dd2⟩ := dk_rd I.hok hb
  have l1 : kvs.length = vs.length := rel.length
  have l2 : more.length = vs2.length := rel2.length
  refine call_meetsIn PySem.F.slot_dict_update dd.typeIs PySem.F.entry_dict_update (PySem.F.args_dict_update_2 _ _) (PySem.meets_dict_update (mixKind X.prog X.w) a b ne hd2) ⟨vs, vs2, dd, dd2, by omega, fun h' dd' _ hs => ?_⟩
  have len : (mergeK kvs more).length ≤ sizeLine := by
    have := length_mergeK more kvs
    omega
  have he : ∃ q, h'.get? a = some q := let ⟨q, _, _, hq, _⟩ := dd'; ⟨q, hq⟩
  exact ⟨.non, _, d_write (t' := s.toks) I (by rw [ha]; exact True.intro) hs he (dk_new len hd (KV.merge rel2 rel) dd'), rfl, q⟩
/-- t == x, t a tuple, x a text -/
theorem op_eqTS (hu : X.A.units < cLine) : OpR X (compareOp .Eq) (fun x y H Q => ∃ t xs z, x = .ref t ∧ y = .str z ∧ SqT X.K H t xs ∧ Q (.bl false) H) := by
  intro pins s σ H x y v u Q I rx ry h
  obtain ⟨t, xs, z, rfl, rfl, ht, q⟩ := h
  cases rx
  obtain ⟨tk, rfl⟩ := ry
  obtain ⟨its, rv, pl, hz⟩ := I.tuple ht
  exact PySem.SeqAt.RcAt.tuple_str z tk pl hu _ _ _ _ ⟨.bl false, H, I, rfl, q⟩
theorem op_neTS (hu : X.A.units < cLine) : OpR X (compareOp .NotEq) (fun x y H Q => ∃ t xs z, x = .ref t ∧ y = .str z ∧ SqT X.K H t xs ∧ Q (.bl true) H) := by
  intro pins s σ H x y v u Q I rx ry h
  obtain ⟨t, xs, z, rfl, rfl, ht, q⟩ := h
  cases rx
  obtain ⟨tk, rfl⟩ := ry
  obtain ⟨its, rv, pl, hz⟩ := I.tuple ht
  exact PySem.SeqAt.RcNeAt.tuple_str z tk pl hu _ _ _ _ ⟨.bl true, H, I, rfl, q⟩
end
end Ck

/-! the mathematics of trades: two purses put together -/
namespace Ck
open PySem PySem.Spec PyProof.Rows L2 StX Evl
abbrev ct (ps : List (Int × Int)) (s : Int) : Int := (cnt ps s).getD 0
theorem ct_none {ps : List (Int × Int)} {s : Int} (h : s ∉ ps.map Prod.fst) : ct ps s = 0 := by
  show (cnt ps s).getD 0 = 0
  rw [cnt_none.mpr h]
  rfl
theorem ct_mem {ps : List (Int × Int)} (hn : (ps.map Prod.fst).Nodup) {p : Int × Int} (h : p ∈ ps) : ct ps p.1 = p.2 := by
  show (cnt ps p.1).getD 0 = p.2
  rw [(cnt_mem hn).mp (show (p.1, p.2) ∈ ps from h)]
  rfl
theorem ct_nn {ps : List (Int × Int)} (h : ∀ p ∈ ps, 0 ≤ p.2) (hn : (ps.map Prod.fst).Nodup) (s : Int) : 0 ≤ ct ps s := by
  by_cases m : s ∈ ps.map Prod.fst
  · obtain ⟨p, hp, rfl⟩ := List.mem_map.mp m
    rw [ct_mem hn hp]
    exact h p hp
  · rw [ct_none m]
    exact Int.le_refl 0
theorem sum_cons2 {α : Type} (a : α) (r : List α) (f : α → Int) : ((a :: r).map f).sum = f a + (r.map f).sum := by rw [List.map_cons, List.sum_cons]
theorem sum_congr {α : Type} {S : List α} {f g : α → Int} (h : ∀ s ∈ S, f s = g s) : (S.map f).sum = (S.map g).sum := by rw [List.map_congr_left h]
theorem sum_add (f g : Int → Int) : ∀ S : List Int, (S.map fun s => f s + g s).sum = (S.map f).sum + (S.map g).sum
  | [] => rfl
  | a :: r => by
    rw [sum_cons2, sum_cons2, sum_cons2, sum_add f g r]
    omega
theorem sum_sub (f g : Int → Int) : ∀ S : List Int, (S.map fun s => f s - g s).sum = (S.map f).sum - (S.map g).sum
  | [] => rfl
  | a :: r => by
    rw [sum_cons2, sum_cons2, sum_cons2, sum_sub f g r]
    omega
theorem tot_over : ∀ {S : List Int} {os : List (Int × Int)}, (os.map Prod.fst).Nodup → S.Nodup → (∀ s ∈ os.map Prod.fst, s ∈ S) → tot os = (S.map fun s => s * ct os s).sum
  | [], os, _, _, sub => by
    have : os = [] := by
      cases os with
      | nil => rfl
      | cons p r => exact absurd (sub p.1 List.mem_cons_self) List.not_mem_nil
    rw [this]
    rfl
  | s :: S, os, hn, hS, sub => by
    obtain ⟨s1, s2⟩ := List.nodup_cons.mp hS
    have hn2 : ((os.filter fun x => decide (x.1 ≠ s)).map Prod.fst).Nodup := List.Nodup.sublist ((List.filter_sublist).map _) hn
    have ih := tot_over (S := S) hn2 s2 fun t ht => by
      obtain ⟨p, hp, rfl⟩ := List.mem_map.mp ht
      obtain ⟨m, n⟩ := List.mem_filter.mp hp
      rcases List.mem_cons.mp (sub p.1 (List.mem_map_of_mem m)) with e | m
      · exact absurd e (of_decide_eq_true n)
      · exact m
    rw [tot_split s hn, ih, sum_cons2]
    have e : (S.map fun t => t * ct (os.filter fun x => decide (x.1 ≠ s)) t).sum = (S.map fun t => t * ct os t).sum := sum_congr fun t ht => by
      have ne : t ≠ s := fun e => s1 (e ▸ ht)
      have : cnt (os.filter fun x => decide (x.1 ≠ s)) t = cnt os t := cnt_ext hn2 hn fun c => by
        rw [List.mem_filter, decide_eq_true_eq]
        exact ⟨fun h => h.1, fun h => ⟨h, ne⟩⟩
      show t * (cnt _ t).getD 0 = t * (cnt os t).getD 0
      rw [this]
    rw [e]
    exact Int.add_comm _ _
/-- the counts of a function that are more than nothing -/
def fnL (S : List Int) (f : Int → Int) : List (Int × Int) := (S.map fun s => (s, f s)).filter fun p => decide (0 < p.2)
theorem fnL_keys {S : List Int} {f : Int → Int} (s : Int) : s ∈ (fnL S f).map Prod.fst ↔ s ∈ S ∧ 0 < f s := by
  unfold fnL
  rw [List.mem_map]
  constructor
  · rintro ⟨p, hp, rfl⟩
    obtain ⟨m, n⟩ := List.mem_filter.mp hp
    obtain ⟨t, ht, rfl⟩ := List.mem_map.mp m
    exact ⟨ht, of_decide_eq_true n⟩
  · rintro ⟨h1, h2⟩
    exact ⟨(s, f s), List.mem_filter.mpr ⟨List.mem_map.mpr ⟨s, h1, rfl⟩, decide_eq_true h2⟩, rfl⟩
theorem fnL_nodup {S : List Int} {f : Int → Int} (h : S.Nodup) : ((fnL S f).map Prod.fst).Nodup := by
  unfold fnL
  refine List.Nodup.sublist ((List.filter_sublist).map _) ?_
  rw [List.map_map]
  show (S.map fun s => s).Nodup
  rw [List.map_id']
  exact h
theorem fnL_mem {S : List Int} {f : Int → Int} {p : Int × Int} (h : p ∈ fnL S f) : p.1 ∈ S ∧ p.2 = f p.1 ∧ 0 < f p.1 := by
  obtain ⟨m, n⟩ := List.mem_filter.mp h
  obtain ⟨t, ht, rfl⟩ := List.mem_map.mp m
  exact ⟨ht, rfl, of_decide_eq_true n⟩
theorem fnL_ct {S : List Int} {f : Int → Int} (h : S.Nodup) {s : Int} (hs : s ∈ S) (h0 : 0 ≤ f s) : ct (fnL S f) s = f s := by
  by_cases z : 0 < f s
  · exact ct_mem (fnL_nodup h) (p := (s, f s)) (List.mem_filter.mpr ⟨List.mem_map.mpr ⟨s, hs, rfl⟩, decide_eq_true z⟩)
  · rw [ct_none fun m => z ((fnL_keys s).mp m).2]
    omega
theorem fnL_tot {S : List Int} {f : Int → Int} (h : S.Nodup) (h0 : ∀ s ∈ S, 0 ≤ f s) : tot (fnL S f) = (S.map fun s => s * f s).sum := by
  rw [tot_over (fnL_nodup h) h fun s m => ((fnL_keys s).mp m).1]
  exact sum_congr fun s hs => by rw [fnL_ct h hs (h0 s hs)]
/-- counts of which none is more than a purse's -/
structure Sub (os ps : List (Int × Int)) : Prop where
  nd : (os.map Prod.fst).Nodup
  ok : ∀ x ∈ os, x.1 ∈ ps.map Prod.fst ∧ 0 ≤ x.2 ∧ x.2 ≤ ct ps x.1
theorem Sub.ct {os ps : List (Int × Int)} (h : Sub os ps) (hp : ∀ s, 0 ≤ ct ps s) (s : Int) : 0 ≤ ct os s ∧ Ck.ct os s ≤ Ck.ct ps s := by
  by_cases m : s ∈ os.map Prod.fst
  · obtain ⟨x, hx, rfl⟩ := List.mem_map.mp m
    rw [ct_mem h.nd hx]
    exact (h.ok x hx).2
  · rw [ct_none m]
    exact ⟨Int.le_refl 0, hp s⟩
theorem part_sub {ps q : List (Int × Int)} (hc : (ps.map Prod.fst).Nodup) (hq : q ∈ partsOf (srt ps)) : Sub q ps := by
  have e := parts_keys _ _ rfl q hq
  refine ⟨List.Nodup.sublist e ((List.Perm.nodup_iff ((srt_perm ps).map Prod.fst)).mpr hc), fun x hx => ?_⟩
  obtain ⟨y, hy, h1, h2, h3⟩ := parts_ok _ _ rfl q hq x hx
  have hy2 := (srt_perm ps).mem_iff.mp hy
  refine ⟨by rw [h1]; exact List.mem_map_of_mem hy2, Int.le_of_lt h2, ?_⟩
  rw [h1, ct_mem hc hy2]
  exact h3
/-- two purses put together -/
def cmbF (ps qs : List (Int × Int)) (s : Int) : Int := ct ps s + ct qs s
def cmb (ps qs : List (Int × Int)) : List (Int × Int) := merP [] ((ps.map Prod.fst ++ qs.map Prod.fst).map fun s => (s, cmbF ps qs s))
theorem cmb_nodup (ps qs : List (Int × Int)) : ((cmb ps qs).map Prod.fst).Nodup := merP_nodup List.nodup_nil
theorem cmb_mem (ps qs : List (Int × Int)) (s : Int) : s ∈ (cmb ps qs).map Prod.fst ↔ s ∈ ps.map Prod.fst ∨ s ∈ qs.map Prod.fst := by
  unfold cmb
  rw [merP_mem, List.map_map]
  show (s ∈ [] ∨ s ∈ (ps.map Prod.fst ++ qs.map Prod.fst).map fun s => s) ↔ _
  rw [List.map_id', List.mem_append]
  exact ⟨fun h => h.elim (fun m => nomatch m) id, .inr⟩
theorem cmb_ct (ps qs : List (Int × Int)) (s : Int) : ct (cmb ps qs) s = cmbF ps qs s := by
  by_cases m : s ∈ (cmb ps qs).map Prod.fst
  · show (cnt (cmb ps qs) s).getD 0 = _
    unfold cmb
    rw [merP_fn (f := cmbF ps qs) (acc := []) s List.nodup_nil, if_pos (List.mem_append.mpr ((cmb_mem ps qs s).mp m))]
    rfl
  · rw [ct_none m]
    have h := fun h => m ((cmb_mem ps qs s).mpr h)
    unfold cmbF
    rw [ct_none fun z => h (.inl z), ct_none fun z => h (.inr z)]
    rfl
/-- what is asked of two purses -/
structure Two (ps qs : List (Int × Int)) : Prop where
  p : Cts ps
  q : Cts qs
  c : Cts (cmb ps qs)
  prs : Prs2 (srt (cmb ps qs))
  tog : gap (uni (ps.map Prod.fst ++ qs.map Prod.fst)) = none
theorem cts_ct {ps : List (Int × Int)} (h : Cts ps) (s : Int) : 0 ≤ ct ps s := ct_nn (fun p hp => Int.le_of_lt (siz_int (h.ok p hp).2).1) h.nd s
theorem tot_nn2 {qs : List (Int × Int)} (h : Cts qs) : 0 ≤ tot qs := by
  rw [tot_over h.nd h.nd fun s m => m]
  have : ∀ S : List Int, (∀ s ∈ S, 0 ≤ s * ct qs s) → 0 ≤ (S.map fun s => s * ct qs s).sum := fun S => by
    induction S with
    | nil => exact fun _ => Int.le_refl 0
    | cons a r ih =>
      intro h
      rw [sum_cons2]
      have := ih fun s m => h s (List.mem_cons_of_mem a m)
      have := h a List.mem_cons_self
      omega
  exact this _ fun s m => Int.mul_nonneg (Int.le_of_lt (by obtain ⟨p, hp, rfl⟩ := List.mem_map.mp m; exact (siz_int (h.ok p hp).1).1)) (cts_ct h s)
theorem ct_srt {ps : List (Int × Int)} (h : (ps.map Prod.fst).Nodup) (s : Int) : ct (srt ps) s = ct ps s := by
  show (cnt _ s).getD 0 = (cnt _ s).getD 0
  rw [cnt_perm h (srt_perm ps)]
/-- what the one gives and the other gives back is payable from both -/
theorem trade_is {ps qs x y : List (Int × Int)} (T : Two ps qs) (hx : Sub x ps) (hy : Sub y qs) : Is (srt (cmb ps qs)) (tot x - tot y + tot qs) := by
  have nS := cmb_nodup ps qs
  have f0 : ∀ s, 0 ≤ ct x s + ct qs s - ct y s ∧ ct x s + ct qs s - ct y s ≤ cmbF ps qs s := fun s => by
    obtain ⟨a1, a2⟩ := hx.ct (cts_ct T.p) s
    obtain ⟨b1, b2⟩ := hy.ct (cts_ct T.q) s
    unfold cmbF
    omega
  have e := sub_is T.prs (fnL ((cmb ps qs).map Prod.fst) fun s => ct x s + ct qs s - ct y s) (fnL_nodup nS) fun p hp => by
    obtain ⟨h1, h2, h3⟩ := fnL_mem hp
    refine ⟨by rw [h2]; exact h3, ?_⟩
    show _ ≤ ct (srt (cmb ps qs)) p.1
    rw [ct_srt nS, cmb_ct, h2]
    exact (f0 p.1).2
  have sx : ∀ s ∈ x.map Prod.fst, s ∈ (cmb ps qs).map Prod.fst := fun s m => by
    obtain ⟨p, hp, rfl⟩ := List.mem_map.mp m
    exact (cmb_mem ps qs _).mpr (.inl (hx.ok p hp).1)
  have sy : ∀ s ∈ y.map Prod.fst, s ∈ (cmb ps qs).map Prod.fst := fun s m => by
    obtain ⟨p, hp, rfl⟩ := List.mem_map.mp m
    exact (cmb_mem ps qs _).mpr (.inr (hy.ok p hp).1)
  have sq : ∀ s ∈ qs.map Prod.fst, s ∈ (cmb ps qs).map Prod.fst := fun s m => (cmb_mem ps qs _).mpr (.inr m)
  have et : tot (fnL ((cmb ps qs).map Prod.fst) fun s => ct x s + ct qs s - ct y s) = tot x - tot y + tot qs := by
    rw [fnL_tot nS fun s _ => (f0 s).1, tot_over hx.nd nS sx, tot_over hy.nd nS sy, tot_over T.q.nd nS sq, ← sum_sub, ← sum_add]
    exact sum_congr fun s _ => by
      rw [Int.mul_sub, Int.mul_add]
      omega
  rw [et] at e
  exact e
/-- the coins that are kept, what is paid and what is given back -/
def kpt (ps qs : List (Int × Int)) (n : Int) : List (Int × Int) := gfT (srt (cmb ps qs)).reverse (n + tot qs)
def payL (ps qs : List (Int × Int)) (n : Int) : List (Int × Int) := ((kpt ps qs n).filter fun p => decide (ct qs p.1 < p.2)).map fun p => (p.1, p.2 - ct qs p.1)
def chgL (ps qs : List (Int × Int)) (n : Int) : List (Int × Int) := ((qs.map Prod.fst).filter fun s => decide (ct (kpt ps qs n) s < ct qs s)).map fun s => (s, ct qs s - ct (kpt ps qs n) s)
def trB (ps qs : List (Int × Int)) (n : Int) : Bool := decide (gfL (srt (cmb ps qs)).reverse (n + tot qs) = 0)
theorem kpt_nodup (ps qs : List (Int × Int)) (n : Int) : ((kpt ps qs n).map Prod.fst).Nodup := List.Nodup.sublist (gf_keys _ _) (by
  rw [List.map_reverse]
  exact (List.Perm.nodup_iff (List.reverse_perm _)).mpr ((List.Perm.nodup_iff ((srt_perm _).map Prod.fst)).mpr (cmb_nodup ps qs)))
theorem kpt_mem {ps qs : List (Int × Int)} {n : Int} {x : Int × Int} (h : x ∈ kpt ps qs n) : x.1 ∈ (cmb ps qs).map Prod.fst ∧ 0 < x.2 ∧ x.2 ≤ cmbF ps qs x.1 := by
  obtain ⟨p, hp, e, h1, h2⟩ := gf_mem _ _ x h
  have m := (srt_perm _).mem_iff.mp (List.mem_reverse.mp hp)
  refine ⟨by rw [e]; exact List.mem_map_of_mem m, h1, ?_⟩
  rw [← cmb_ct, e, ct_mem (cmb_nodup ps qs) m]
  exact h2
theorem kpt_ct (ps qs : List (Int × Int)) (T : Two ps qs) (n s : Int) : 0 ≤ ct (kpt ps qs n) s ∧ ct (kpt ps qs n) s ≤ cmbF ps qs s := by
  by_cases m : s ∈ (kpt ps qs n).map Prod.fst
  · obtain ⟨x, hx, rfl⟩ := List.mem_map.mp m
    rw [ct_mem (kpt_nodup ps qs n) hx]
    obtain ⟨_, h2, h3⟩ := kpt_mem hx
    exact ⟨Int.le_of_lt h2, h3⟩
  · rw [ct_none m]
    have := cts_ct T.p s
    have := cts_ct T.q s
    unfold cmbF
    omega
theorem payL_nodup (ps qs : List (Int × Int)) (n : Int) : ((payL ps qs n).map Prod.fst).Nodup := by
  unfold payL
  rw [List.map_map]
  exact List.Nodup.sublist ((List.filter_sublist).map _) (kpt_nodup ps qs n)
theorem chgL_nodup {ps qs : List (Int × Int)} (h : (qs.map Prod.fst).Nodup) (n : Int) : ((chgL ps qs n).map Prod.fst).Nodup := by
  unfold chgL
  rw [List.map_map]
  show (((qs.map Prod.fst).filter _).map fun s => s).Nodup
  rw [List.map_id']
  exact List.Nodup.sublist List.filter_sublist h
theorem payL_mem {ps qs : List (Int × Int)} {n : Int} {x : Int × Int} (T : Two ps qs) (h : x ∈ payL ps qs n) : x.1 ∈ (cmb ps qs).map Prod.fst ∧ 0 < x.2 ∧ x.2 ≤ ct ps x.1 ∧ x.2 = ct (kpt ps qs n) x.1 - ct qs x.1 := by
  obtain ⟨p, hp, rfl⟩ := List.mem_map.mp h
  obtain ⟨m, d⟩ := List.mem_filter.mp hp
  have d := of_decide_eq_true d
  obtain ⟨h1, h2, h3⟩ := kpt_mem m
  unfold cmbF at h3
  exact ⟨h1, show 0 < p.2 - ct qs p.1 by omega, show p.2 - ct qs p.1 ≤ ct ps p.1 by omega, show p.2 - ct qs p.1 = ct (kpt ps qs n) p.1 - ct qs p.1 by rw [ct_mem (kpt_nodup ps qs n) m]⟩
theorem chgL_mem {ps qs : List (Int × Int)} {n : Int} {x : Int × Int} (T : Two ps qs) (h : x ∈ chgL ps qs n) : x.1 ∈ qs.map Prod.fst ∧ 0 < x.2 ∧ x.2 ≤ ct qs x.1 := by
  obtain ⟨s, hs, rfl⟩ := List.mem_map.mp h
  obtain ⟨m, d⟩ := List.mem_filter.mp hs
  have d := of_decide_eq_true d
  have := (kpt_ct ps qs T n s).1
  exact ⟨m, show 0 < ct qs s - ct (kpt ps qs n) s by omega, show ct qs s - ct (kpt ps qs n) s ≤ ct qs s by omega⟩
theorem payL_ct {ps qs : List (Int × Int)} (T : Two ps qs) (n s : Int) : ct (payL ps qs n) s = max (ct (kpt ps qs n) s - ct qs s) 0 := by
  by_cases m : s ∈ (payL ps qs n).map Prod.fst
  · obtain ⟨x, hx, rfl⟩ := List.mem_map.mp m
    obtain ⟨_, h2, _, h4⟩ := payL_mem T hx
    rw [ct_mem (payL_nodup ps qs n) hx]
    omega
  · rw [ct_none m]
    by_cases z : s ∈ (kpt ps qs n).map Prod.fst
    · obtain ⟨x, hx, rfl⟩ := List.mem_map.mp z
      have : ¬ ct qs x.1 < x.2 := fun d => m (List.mem_map.mpr ⟨(x.1, x.2 - ct qs x.1), List.mem_map.mpr ⟨x, List.mem_filter.mpr ⟨hx, decide_eq_true d⟩, rfl⟩, rfl⟩)
      rw [ct_mem (kpt_nodup ps qs n) hx]
      omega
    · rw [ct_none z]
      have := cts_ct T.q s
      omega
theorem chgL_ct {ps qs : List (Int × Int)} (T : Two ps qs) (n s : Int) : ct (chgL ps qs n) s = max (ct qs s - ct (kpt ps qs n) s) 0 := by
  by_cases m : s ∈ (chgL ps qs n).map Prod.fst
  · obtain ⟨x, hx, rfl⟩ := List.mem_map.mp m
    rw [ct_mem (chgL_nodup T.q.nd n) hx]
    obtain ⟨s, hs, rfl⟩ := List.mem_map.mp hx
    obtain ⟨_, d⟩ := List.mem_filter.mp hs
    have d := of_decide_eq_true d
    show ct qs s - ct (kpt ps qs n) s = max (ct qs s - ct (kpt ps qs n) s) 0
    omega
  · rw [ct_none m]
    have k0 := (kpt_ct ps qs T n s).1
    by_cases z : s ∈ qs.map Prod.fst
    · have : ¬ ct (kpt ps qs n) s < ct qs s := fun d => m (List.mem_map.mpr ⟨(s, ct qs s - ct (kpt ps qs n) s), List.mem_map.mpr ⟨s, List.mem_filter.mpr ⟨z, decide_eq_true d⟩, rfl⟩, rfl⟩)
      omega
    · rw [ct_none z]
      omega
/-- a trade that is told is one -/
theorem trade_tot {ps qs : List (Int × Int)} (T : Two ps qs) {n : Int} (h0 : 0 ≤ n + tot qs) (h : trB ps qs n = true) : tot (payL ps qs n) - tot (chgL ps qs n) = n := by
  have h := of_decide_eq_true h
  have pc : ∀ p ∈ (srt (cmb ps qs)).reverse, 0 < p.1 ∧ 0 < p.2 := fun p hp => T.prs.cnts p (List.mem_reverse.mp hp)
  obtain ⟨a, _⟩ := gf_tot (srt (cmb ps qs)).reverse (n + tot qs) pc h0
  rw [h, Int.add_zero] at a
  have nS := cmb_nodup ps qs
  have s1 : ∀ s ∈ (payL ps qs n).map Prod.fst, s ∈ (cmb ps qs).map Prod.fst := fun s m => by
    obtain ⟨x, hx, rfl⟩ := List.mem_map.mp m
    exact (payL_mem T hx).1
  have s2 : ∀ s ∈ (chgL ps qs n).map Prod.fst, s ∈ (cmb ps qs).map Prod.fst := fun s m => by
    obtain ⟨x, hx, rfl⟩ := List.mem_map.mp m
    exact (cmb_mem ps qs _).mpr (.inr (chgL_mem T hx).1)
  have s3 : ∀ s ∈ (kpt ps qs n).map Prod.fst, s ∈ (cmb ps qs).map Prod.fst := fun s m => by
    obtain ⟨x, hx, rfl⟩ := List.mem_map.mp m
    exact (kpt_mem hx).1
  have s4 : ∀ s ∈ qs.map Prod.fst, s ∈ (cmb ps qs).map Prod.fst := fun s m => (cmb_mem ps qs _).mpr (.inr m)
  have a : tot (kpt ps qs n) = n + tot qs := a
  rw [tot_over (payL_nodup ps qs n) nS s1, tot_over (chgL_nodup T.q.nd n) nS s2, ← sum_sub]
  rw [tot_over (kpt_nodup ps qs n) nS s3, tot_over T.q.nd nS s4] at a
  have e : ((((cmb ps qs).map Prod.fst).map fun s => s * ct (payL ps qs n) s - s * ct (chgL ps qs n) s)).sum = (((cmb ps qs).map Prod.fst).map fun s => s * ct (kpt ps qs n) s - s * ct qs s).sum := sum_congr fun s _ => by
    rw [payL_ct T, chgL_ct T, ← Int.mul_sub, ← Int.mul_sub]
    exact congrArg (s * ·) (by omega)
  rw [e, sum_sub]
  omega
theorem payL_sub {ps qs : List (Int × Int)} (T : Two ps qs) (n : Int) : partB (payL ps qs n) ps = true := List.all_eq_true.mpr fun x hx => decide_eq_true (payL_mem T hx).2.2.1
theorem chgL_sub {ps qs : List (Int × Int)} (T : Two ps qs) (n : Int) : partB (chgL ps qs n) qs = true := List.all_eq_true.mpr fun x hx => decide_eq_true (chgL_mem T hx).2.2
theorem len_sub : ∀ {as bs : List Int}, as.Nodup → (∀ a ∈ as, a ∈ bs) → as.length ≤ bs.length
  | [], _, _, _ => Nat.zero_le _
  | a :: r, bs, h, sub => by
    obtain ⟨n, h2⟩ := List.nodup_cons.mp h
    have m := sub a List.mem_cons_self
    have := len_sub (bs := bs.erase a) h2 fun b hb => (List.mem_erase_of_ne (fun e : b = a => n (by rw [← e]; exact hb))).mpr (sub b (List.mem_cons_of_mem a hb))
    rw [List.length_erase_of_mem m] at this
    have := List.length_pos_of_mem m
    rw [List.length_cons]
    omega
theorem cts_of_sub {os ps : List (Int × Int)} (hp : Cts ps) (hn : (os.map Prod.fst).Nodup) (h : ∀ x ∈ os, 0 < x.2 ∧ x.2 ≤ ct ps x.1) : Cts os := by
  have sub : ∀ x ∈ os, ∃ p ∈ ps, p.1 = x.1 ∧ x.2 ≤ p.2 := fun x hx => by
    obtain ⟨h1, h2⟩ := h x hx
    by_cases m : x.1 ∈ ps.map Prod.fst
    · obtain ⟨p, hp2, e⟩ := List.mem_map.mp m
      refine ⟨p, hp2, e, ?_⟩
      rw [← e, ct_mem hp.nd hp2] at h2
      exact h2
    · rw [ct_none m] at h2
      omega
  refine ⟨hn, ?_, fun x hx => ?_⟩
  · have : (os.map Prod.fst).length ≤ (ps.map Prod.fst).length := len_sub hn fun s hs => by
      obtain ⟨x, hx, rfl⟩ := List.mem_map.mp hs
      obtain ⟨p, hp2, e, _⟩ := sub x hx
      rw [← e]
      exact List.mem_map_of_mem hp2
    rw [List.length_map, List.length_map] at this
    exact Nat.le_trans this hp.ln
  · obtain ⟨p, hp2, e, h2⟩ := sub x hx
    obtain ⟨o1, o2⟩ := hp.ok p hp2
    exact ⟨by rw [← e]; exact o1, siz_of (h x hx).1 (Nat.lt_of_le_of_lt (show _ ≤ p.2.natAbs by have := (h x hx).1; omega) (siz_int o2).2)⟩
theorem payL_cts {ps qs : List (Int × Int)} (T : Two ps qs) (n : Int) : Cts (payL ps qs n) := cts_of_sub T.p (payL_nodup ps qs n) fun x hx => ⟨(payL_mem T hx).2.1, (payL_mem T hx).2.2.1⟩
theorem chgL_cts {ps qs : List (Int × Int)} (T : Two ps qs) (n : Int) : Cts (chgL ps qs n) := cts_of_sub T.q (chgL_nodup T.q.nd n) fun x hx => ⟨(chgL_mem T hx).2.1, (chgL_mem T hx).2.2⟩
theorem trade_yes {ps qs x y : List (Int × Int)} (T : Two ps qs) (hx : Sub x ps) (hy : Sub y qs) : trB ps qs (tot x - tot y) = true := decide_eq_true (gf_pay T.prs _ ((is_pay T.prs _).mp (trade_is T hx hy)))
theorem partB_sub {os ps : List (Int × Int)} (h : Cts os) (hb : partB os ps = true) : Sub os ps := ⟨h.nd, fun x hx => by
  have h1 := (siz_int (h.ok x hx).2).1
  have h2 : x.2 ≤ ct ps x.1 := of_decide_eq_true (List.all_eq_true.mp hb x hx)
  refine ⟨?_, Int.le_of_lt h1, h2⟩
  by_cases m : x.1 ∈ ps.map Prod.fst
  · exact m
  · rw [ct_none m] at h2
    omega⟩
/-- a trade is there just if there are parts that differ by the amount -/
theorem trade_iff {ps qs : List (Int × Int)} (T : Two ps qs) (hp : Prs2 (srt ps)) (hq : Prs2 (srt qs)) {n : Int} (h0 : 0 ≤ n + tot qs) : trB ps qs n = true ↔ ∃ x ∈ partsOf (srt ps), ∃ y ∈ partsOf (srt qs), tot x - tot y = n := by
  constructor
  · intro h
    have c1 := payL_cts T n
    have c2 := chgL_cts T n
    have i1 : Is (srt ps) (tot (payL ps qs n)) := sub_is hp _ c1.nd fun x hx => ⟨(payL_mem T hx).2.1, by
      show _ ≤ ct (srt ps) x.1
      rw [ct_srt T.p.nd]
      exact (payL_mem T hx).2.2.1⟩
    have i2 : Is (srt qs) (tot (chgL ps qs n)) := sub_is hq _ c2.nd fun x hx => ⟨(chgL_mem T hx).2.1, by
      show _ ≤ ct (srt qs) x.1
      rw [ct_srt T.q.nd]
      exact (chgL_mem T hx).2.2⟩
    obtain ⟨x, hx, ex⟩ := i1
    obtain ⟨y, hy, ey⟩ := i2
    exact ⟨x, hx, y, hy, by rw [ex, ey]; exact trade_tot T h0 h⟩
  · rintro ⟨x, hx, y, hy, rfl⟩
    exact trade_yes T (part_sub T.p.nd hx) (part_sub T.q.nd hy)
end Ck

/-! dicts of counts compared; lots compared, also in tuples; promises of trades -/
namespace Ck
open PySem PySem.Spec PyProof.Rows L2 StX Evl
/-- the same counts, in whatever order -/
def eqP (as bs : List (Int × Int)) : Bool := (as.length == bs.length) && as.all fun p => decide (cnt bs p.1 = some p.2)
section
variable {X : Cx}
theorem hits_kc {A : Around} {s : Shared} {bs : List (Int × Int)} {vb : List (Key × Value)} (rb : KV (bs.map kc) vb) : ∀ {as : List (Int × Int)} {va : List (Key × Value)}, KV (as.map kc) va → ∃ r, r = (as.all fun p => decide (cnt bs p.1 = some p.2)) ∧ PySem.W.KeqHits A s vb va r
  | [], va, ra => by
    unfold KV at ra
    cases ra
    exact ⟨_, rfl, .nil⟩
  | p :: as, va, ra => by
    unfold KV at ra
    cases ra with
    | @cons _ q _ qs h t =>
    obtain ⟨h1, h2⟩ := h
    obtain ⟨k, v⟩ := q
    have h1' : (Sum.inl p.1 : Key) = k := h1
    subst h1'
    obtain ⟨tv, rfl⟩ : ∃ t, v = Value.int p.2 t := h2
    have rr : RelO (valV (bs.map kc) (Sum.inl p.1 : Key)) (valueAt vb (Sum.inl p.1 : Key)) := rb.val _
    rw [valV_kc] at rr
    cases e : cnt bs p.1 with
    | none =>
      refine ⟨false, ?_, ?_⟩
      · rw [List.all_cons, e, decide_eq_false (fun z => nomatch z)]
        rfl
      · rw [e] at rr
        cases e2 : valueAt vb (Sum.inl p.1 : Key) with
        | none => exact .miss e2
        | some y =>
          rw [e2] at rr
          exact (show False from rr).elim
    | some c =>
      rw [e] at rr
      obtain ⟨y, hy, ry⟩ := RelO.some_of rr
      obtain ⟨ty, rfl⟩ : ∃ t, y = Value.int c t := ry
      obtain ⟨r, er, hh⟩ := hits_kc (A := A) (s := s) rb t
      refine ⟨_, ?_, .hit hy (PySem.SeqAt.EqAt.int_int p.2 tv c ty) hh⟩
      rw [List.all_cons, e, ← er]
      refine congrArg (· && r) ?_
      refine bool_iff ?_
      rw [beq_iff_eq, decide_eq_true_eq]
      exact ⟨fun z => by rw [z], fun z => (Option.some.inj z).symm⟩
/-- d == e, dicts of counts -/
theorem op_eqDk (hu : X.A.units < cLine) : OpR X (compareOp .Eq) (fun x y H Q => ∃ a b as bs, x = .ref a ∧ y = .ref b ∧ Dk H a as ∧ Dk H b bs ∧ Q (.bl (eqP as bs)) H) := by
  intro pins s σ H x y v u Q I rx ry h
  obtain ⟨a, b, as, bs, rfl, rfl, ea, eb, q⟩ := h
  obtain rfl : v = Value.ref a := rx
  obtain rfl : u = Value.ref b := ry
  obtain ⟨_, ya, va, ra, da⟩ := dk_rd I.hok ea
  obtain ⟨_, yb, vb, rb, db⟩ := dk_rd I.hok eb
  obtain ⟨r, er, hh⟩ := hits_kc (A := X.A.in1) (s := s) rb ra
  have l1 : as.length = va.length := by rw [← ra.length, List.length_map]
  have l2 : bs.length = vb.length := by rw [← rb.length, List.length_map]
  exact PySem.W.keq_eq (knd := mixKind X.prog X.w) ya yb da db hu (fun _ => hh) (fin_bl I q (by unfold eqP; rw [er, l1, l2]))
theorem op_neDk (hu : X.A.units < cLine) : OpR X (compareOp .NotEq) (fun x y H Q => ∃ a b as bs, x = .ref a ∧ y = .ref b ∧ Dk H a as ∧ Dk H b bs ∧ Q (.bl (!eqP as bs)) H) := by
  intro pins s σ H x y v u Q I rx ry h
  obtain ⟨a, b, as, bs, rfl, rfl, ea, eb, q⟩ := h
  obtain rfl : v = Value.ref a := rx
  obtain rfl : u = Value.ref b := ry
  obtain ⟨_, ya, va, ra, da⟩ := dk_rd I.hok ea
  obtain ⟨_, yb, vb, rb, db⟩ := dk_rd I.hok eb
  obtain ⟨r, er, hh⟩ := hits_kc (A := X.A.in1) (s := s) rb ra
  have l1 : as.length = va.length := by rw [← ra.length, List.length_map]
  have l2 : bs.length = vb.length := by rw [← rb.length, List.length_map]
  exact PySem.W.keq_ne (knd := mixKind X.prog X.w) ya yb da db hu (fun _ => hh) (fin_bl I q (by unfold eqP; rw [er, l1, l2]))
end
theorem eqP_iff {as bs : List (Int × Int)} (ha : (as.map Prod.fst).Nodup) (hb : (bs.map Prod.fst).Nodup) : eqP as bs = true ↔ as.Perm bs := by
  unfold eqP
  rw [Bool.and_eq_true, beq_iff_eq, List.all_eq_true]
  have na : as.Nodup := List.Pairwise.imp (fun {a b} (h : a.1 ≠ b.1) (e : a = b) => h (congrArg Prod.fst e)) (List.pairwise_map.mp (List.nodup_iff_pairwise_ne.mp ha))
  constructor
  · rintro ⟨h1, h2⟩
    have sub : ∀ x ∈ as, x ∈ bs := fun x hx => (cnt_mem hb).mpr (of_decide_eq_true (h2 x hx))
    have : ∀ {xs ys : List (Int × Int)}, xs.Nodup → (∀ x ∈ xs, x ∈ ys) → ys.length ≤ xs.length → xs.Perm ys := by
      intro xs
      induction xs with
      | nil =>
        intro ys _ _ l
        rw [List.eq_nil_of_length_eq_zero (Nat.le_zero.mp l)]
      | cons x r ih =>
        intro ys n s l
        obtain ⟨n1, n2⟩ := List.nodup_cons.mp n
        have m := s x List.mem_cons_self
        have p := List.perm_cons_erase m
        have le := List.length_erase_of_mem m
        have pos := List.length_pos_of_mem m
        refine (List.Perm.cons x (ih n2 (fun y hy => (List.mem_erase_of_ne (fun e : y = x => n1 (by rw [← e]; exact hy))).mpr (s y (List.mem_cons_of_mem x hy))) (by rw [le]; rw [List.length_cons] at l; omega))).trans p.symm
    exact this na sub (by omega)
  · intro p
    exact ⟨p.length_eq, fun x hx => decide_eq_true ((cnt_mem hb).mp (p.mem_iff.mp hx))⟩
structure Few6 (ns : List Int) (ps : List (Int × Int)) : Prop where
  nd : (ps.map Prod.fst).Nodup
  sub : ∀ p ∈ ps, p.1 ∈ ns ∧ 0 < p.2
  sum : (ps.map Prod.snd).sum ≤ 6
theorem Few6.few {ns : List Int} {ps : List (Int × Int)} (h : Few6 ns ps) : Few ns ps := ⟨h.nd, h.sub, Int.le_trans h.sum (by decide)⟩
/-- == of lots; of a lot and another value -/
def spLotEq (K : PySem.W.Frag) (C : Addr) : Sp := fun vs H Q _ => ∃ a b ps qs, vs = [.ref a, .ref b] ∧ LotAt K C H a ps ∧ LotAt K C H b qs ∧ ∀ H', Ex H H' → Q (.bl (eqP ps qs)) H'
def REqL (K : PySem.W.Frag) (C : Addr) : Addr → Addr → Hp → Prop := fun a b H => ∃ ps, LotAt K C H a ps ∧ LotAt K C H b ps ∧ (ps.map Prod.fst).Nodup
section
variable {X : Cx} {k j : Nat} {C : Addr}
/-- (x, y) == (u, v), tuples of lots that are equal -/
theorem op_eqTL (c : Og X.prog X.w X.K X.mg X.base k C "__eq__" ["self", "other"] (spLotEq X.K C)) (hr : Room j X.A) (hk : k + 1 ≤ j := by decide) : OpR X (compareOp .Eq) (rEqG (DTup X.K (DIns C (REqL X.K C)))) := by
  obtain ⟨hc, g, fd, hs, hfn, hf, kp, F, b⟩ := c
  have hR : ∀ a b H H', Ext H H' → REqL X.K C a b H → REqL X.K C a b H' := fun a b H H' e ⟨ps, h1, h2, h3⟩ => ⟨ps, h1.up e, h2.up e, h3⟩
  have G : EqG X k (DIns C (REqL X.K C)) := eqG_ins (CX := CX0) (E := E0) (F.imp fun vs H Q E h => by
    obtain ⟨a, b, rfl, ⟨ps, h1, h2, h3⟩, q⟩ := h
    exact ⟨a, b, ps, ps, rfl, h1, h2, fun H' e => by rw [(eqP_iff h3 h3).mpr (List.Perm.refl _)]; exact q H' e⟩) hs hfn b pass0
  exact op_eqG (rcG_tup (mon_ins hR) G) (hr.mono hk)
end
/-- sizes that go together, in any order -/
def spTogU (K : PySem.W.Frag) : Sp := fun vs H Q _ => ∃ (p : Addr) (ns : List Int), vs = [.ref p] ∧ SqT K H p (ns.map V.int) ∧ ns.length < 60 ∧ (∀ n ∈ ns, 0 < n) ∧ gap (uni ns) = none ∧ ∀ H', Ex H H' → Q .non H'
def spChkT (K : PySem.W.Frag) (C : Addr) : Sp := fun vs H Q _ => ∃ a b n ps qs, vs = [.ref a, .ref b, .int n] ∧ LotAt K C H a ps ∧ LotAt K C H b qs ∧ Two ps qs ∧ cntB n = true ∧ ∀ H', Ex H H' → Q .non H'
def spKept (K : PySem.W.Frag) (C : Addr) : Sp := fun vs H Q _ => ∃ a b n ps qs, vs = [.ref a, .ref b, .int n] ∧ LotAt K C H a ps ∧ LotAt K C H b qs ∧ Two ps qs ∧ 0 ≤ n ∧ (trB ps qs n = true → ∀ t H', Ex H H' → H t = none → H' t = some (.dK ((kpt ps qs n).map kc)) → Q (.ref t) H') ∧ (trB ps qs n = false → ∀ H', Ex H H' → Q .non H')
def spCanT (K : PySem.W.Frag) (C : Addr) : Sp := fun vs H Q _ => ∃ a b n ps qs, vs = [.ref a, .ref b, .int n] ∧ LotAt K C H a ps ∧ LotAt K C H b qs ∧ Two ps qs ∧ cntB n = true ∧ ∀ H', Ex H H' → Q (.bl (trB ps qs n)) H'
/-- two lots in a tuple -/
structure Pair2 (K : PySem.W.Frag) (C : Addr) (H : Hp) (t : Addr) (xs ys : List (Int × Int)) : Prop where
  ex : ∃ x y, SqT K H t [.ref x, .ref y] ∧ LotAt K C H x xs ∧ LotAt K C H y ys
theorem Pair2.up {K : PySem.W.Frag} {C t : Addr} {H H' : Hp} {xs ys : List (Int × Int)} (h : Pair2 K C H t xs ys) (e : Ex H H') : Pair2 K C H' t xs ys := by
  obtain ⟨x, y, h1, h2, h3⟩ := h.ex
  exact ⟨x, y, ex_t e h1, h2.up e, h3.up e⟩
def spTrade (K : PySem.W.Frag) (C : Addr) : Sp := fun vs H Q _ => ∃ a b n ps qs, vs = [.ref a, .ref b, .int n] ∧ LotAt K C H a ps ∧ LotAt K C H b qs ∧ Two ps qs ∧ cntB n = true ∧ trB ps qs n = true ∧ ∀ t H', Ex H H' → Pair2 K C H' t (srt (payL ps qs n)) (srt (chgL ps qs n)) → Q (.ref t) H'
def spTradeE (K : PySem.W.Frag) (C cO : Addr) : Sp := fun vs H _ E => ∃ a b n ps qs, vs = [.ref a, .ref b, .int n] ∧ LotAt K C H a ps ∧ LotAt K C H b qs ∧ Two ps qs ∧ cntB n = true ∧ trB ps qs n = false ∧ ∀ H', Ex H H' → E (.ref cO) none H'
/-- a value in the place of a part, and whether it is one -/
inductive PrV (K : PySem.W.Frag) (C : Addr) (H : Hp) (ps : List (Int × Int)) : V → Int → Bool → Prop
  | lot {b : Addr} {os : List (Int × Int)} (h : LotAt K C H b os) (c : Cts os) : PrV K C H ps (.ref b) (tot os) (partB os ps)
  | odd {v : V} {tt : Value} (h : ∀ H', Ex H H' → TyX K H' v tt) (k : PySem.W.kitOne K tt (.ref C) = some false) : PrV K C H ps v 0 false
theorem PrV.up {K : PySem.W.Frag} {C : Addr} {H H' : Hp} {ps : List (Int × Int)} {v : V} {m : Int} {r : Bool} (h : PrV K C H ps v m r) (e : Ex H H') : PrV K C H' ps v m r := by
  cases h with
  | lot h c => exact .lot (h.up e) c
  | odd h k => exact .odd (fun H2 e2 => h H2 (e.trans e2)) k
def spPrt (K : PySem.W.Frag) (C : Addr) : Sp := fun vs H Q _ => ∃ v a ps m r, vs = [v, .ref a] ∧ LotAt K C H a ps ∧ PrV K C H ps v m r ∧ ∀ H', Ex H H' → Q (.bl r) H'
/-- a value in the place of a trade, and whether it is one -/
inductive TrV (K : PySem.W.Frag) (C : Addr) (H : Hp) (ps qs : List (Int × Int)) (n : Int) : V → Bool → Prop
  | odd {v : V} {tt : Value} (h : ∀ H', Ex H H' → TyX K H' v tt) (k : PySem.W.kitOne K tt (.type "tuple") = some false) : TrV K C H ps qs n v false
  | len {t : Addr} {xs : List V} (h : SqT K H t xs) (l : xs.length ≠ 2) : TrV K C H ps qs n (.ref t) false
  | two {t : Addr} {x y : V} {m1 m2 : Int} {r1 r2 : Bool} (h : SqT K H t [x, y]) (h1 : PrV K C H ps x m1 r1) (h2 : PrV K C H qs y m2 r2) : TrV K C H ps qs n (.ref t) (r1 && (r2 && decide (m1 - m2 = n)))
theorem TrV.up {K : PySem.W.Frag} {C : Addr} {H H' : Hp} {ps qs : List (Int × Int)} {n : Int} {v : V} {b : Bool} (h : TrV K C H ps qs n v b) (e : Ex H H') : TrV K C H' ps qs n v b := by
  cases h with
  | odd h k => exact .odd (fun H2 e2 => h H2 (e.trans e2)) k
  | len h l => exact .len (ex_t e h) l
  | two h h1 h2 => exact .two (ex_t e h) (h1.up e) (h2.up e)
def spIsTr (K : PySem.W.Frag) (C : Addr) : Sp := fun vs H Q _ => ∃ a b n v ps qs r, vs = [.ref a, .ref b, .int n, v] ∧ LotAt K C H a ps ∧ LotAt K C H b qs ∧ Two ps qs ∧ cntB n = true ∧ TrV K C H ps qs n v r ∧ ∀ H', Ex H H' → Q (.bl r) H'
theorem Fz.ex0 {d : Addr} {u : HO} {H0 H H1 : Hp} (h : Fz d u H H1) (e : Ex H0 H) (n : H0 d = none) : Ex H0 H1 := fun a o k => h.1 a o (ne_of_none k n) (e _ _ k)
theorem isC_gap {ns : List Int} (hp : ns.Pairwise fun a b => b % a = 0) : gap ns = none := by
  refine gap_none fun j hj => ?_
  have h1 : j < ns.length := by omega
  have h2 : j + 1 < ns.length := by omega
  rw [List.getD_eq_getElem?_getD, List.getElem?_eq_getElem h2, List.getD_eq_getElem?_getD, List.getElem?_eq_getElem h1]
  exact List.pairwise_iff_getElem.mp hp j (j + 1) h1 h2 (Nat.lt_succ_self j)
/-- two purses with sizes of one chain -/
theorem two_of {ns : List Int} {L : Int} {ps qs : List (Int × Int)} (hc : Chd ns L) (hl : ns.length ≤ 12) (hp : Cts ps) (hq : Cts qs) (sp : ∀ p ∈ ps, p.1 ∈ ns ∧ p.2 ≤ 10 ^ 31) (sq : ∀ p ∈ qs, p.1 ∈ ns ∧ p.2 ≤ 10 ^ 31) : Two ps qs := by
  have keys : ∀ s ∈ (cmb ps qs).map Prod.fst, s ∈ ns := fun s m => by
    rcases (cmb_mem ps qs s).mp m with m | m
    · obtain ⟨p, hp, rfl⟩ := List.mem_map.mp m
      exact (sp p hp).1
    · obtain ⟨p, hp, rfl⟩ := List.mem_map.mp m
      exact (sq p hp).1
  have val : ∀ x ∈ cmb ps qs, x.1 ∈ ns ∧ 0 < x.2 ∧ x.2 ≤ 10 ^ 31 + 10 ^ 31 := fun x hx => by
    have m := List.mem_map_of_mem (f := Prod.fst) hx
    have e : x.2 = cmbF ps qs x.1 := by rw [← cmb_ct, ct_mem (cmb_nodup ps qs) hx]
    have b : ∀ {us : List (Int × Int)}, Cts us → (∀ p ∈ us, p.1 ∈ ns ∧ p.2 ≤ 10 ^ 31) → ∀ s, 0 ≤ ct us s ∧ ct us s ≤ 10 ^ 31 ∧ (s ∈ us.map Prod.fst → 0 < ct us s) := fun {us} cu su s => by
      by_cases z : s ∈ us.map Prod.fst
      · obtain ⟨p, hp, rfl⟩ := List.mem_map.mp z
        rw [ct_mem cu.nd hp]
        have := (siz_int (cu.ok p hp).2).1
        exact ⟨by omega, (su p hp).2, fun _ => this⟩
      · rw [ct_none z]
        exact ⟨Int.le_refl 0, by decide +kernel, fun m => absurd m z⟩
    obtain ⟨a1, a2, a3⟩ := b hp sp x.1
    obtain ⟨b1, b2, b3⟩ := b hq sq x.1
    refine ⟨keys _ m, ?_, ?_⟩
    · rw [e]
      unfold cmbF
      rcases (cmb_mem ps qs x.1).mp m with z | z
      · have := a3 z
        omega
      · have := b3 z
        omega
    · rw [e]
      unfold cmbF
      omega
  have okc : ∀ x ∈ cmb ps qs, sizB x.1 = true ∧ sizB x.2 = true := fun x hx => by
    obtain ⟨h1, h2, h3⟩ := val x hx
    refine ⟨?_, siz_small h2 (Int.le_trans h3 (by decide +kernel))⟩
    have m := List.mem_map_of_mem (f := Prod.fst) hx
    rcases (cmb_mem ps qs x.1).mp m with z | z
    · obtain ⟨p, hp2, e⟩ := List.mem_map.mp z
      rw [← e]
      exact (hp.ok p hp2).1
    · obtain ⟨p, hp2, e⟩ := List.mem_map.mp z
      rw [← e]
      exact (hq.ok p hp2).1
  have cc : Cts (cmb ps qs) := ⟨cmb_nodup ps qs, by
    have := len_sub (cmb_nodup ps qs) keys
    rw [List.length_map] at this
    omega, okc⟩
  refine ⟨hp, hq, cc, (pur_facts2 hc (fun p hp => ⟨(val p hp).1, (val p hp).2.1⟩) (srt_perm _) (srt_asc cc.nd)).1, ?_⟩
  have pw : ns.Pairwise (· < ·) := hc.pw.imp fun h => h.1
  have sl : (uni (ps.map Prod.fst ++ qs.map Prod.fst)).Sublist ns := uni_sub pw fun k hk => by
    rcases List.mem_append.mp hk with m | m
    · obtain ⟨p, hp, rfl⟩ := List.mem_map.mp m
      exact (sp p hp).1
    · obtain ⟨p, hp, rfl⟩ := List.mem_map.mp m
      exact (sq p hp).1
  exact isC_gap ((hc.pw.imp fun h => Int.emod_eq_zero_of_dvd h.2).sublist sl)
end Ck
namespace Ck
open PySem PySem.Spec PyProof.Rows L2 StX Evl
theorem sw_trueD {kx vx : Expr} {gs : List Comprehension} {scope : Scope} {pos py : Pos} {y : Str} {l : Nat} {env : Env} (hk : env.scope.kind = .function) (hy : env.scope.names.lookup y = some .local) (hl : (py.line == pos.line) = true)
    (ha : (scope.names.any fun (n, k) => n == y && (k == .local || k == .cell)) = false) : swapsWith (.DictComp kx vx gs scope pos) (some (.Name y py)) l env = pure true := by
  have ky : env.kindOf y = some .local := hy
  have hb : env.blockKind = .function := by unfold Env.blockKind; rw [hk]; rfl
  unfold swapsWith
  simp only [hb, ky, ha, Expr.pos, hl]
  rfl
section
variable {X : Cx}
/-- name = {k: v for ..} -/
theorem ps_setDc {i : Nat} {y : Str} {py : Pos} {kx vx tg iter : Expr} {ifs : List Expr} {scope : Scope} {own : List (Str × Nat)} {pos spos : Pos} {wi : TI} {g : TG} {tt : TT} {tk tv : TE} (hc : X.calm = true) (hN : X.N.Nodup) (hy : X.N[i]? = some y) (hyl : X.env.scope.names.lookup y = some .local)
    (hsw : swapsWith (.DictComp kx vx [⟨tg, iter, ifs, 0⟩] scope pos) (some (.Name y py)) spos.line X.env = pure true) (hi : PI X tg iter wi) (ok : BlkOk X.N X.env.scope scope own)
    (hg : ∀ (s : Shared) (H : Hp) (C : Addr) (cl : List (Str × Addr)) (fp : List Addr), PG (X.blk s H scope (compEnvC scope cl C X.env) fp) tg g) (ht : ∀ (s : Shared) (H : Hp) (C : Addr) (cl : List (Str × Addr)) (fp : List Addr), PTs (X.blk s H scope (compEnvC scope cl C X.env) fp) ifs tt)
    (hk : ∀ (s : Shared) (H : Hp) (C : Addr) (cl : List (Str × Addr)) (fp : List Addr), PE (X.blk s H scope (compEnvC scope cl C X.env) fp) kx tk) (he : ∀ (s : Shared) (H : Hp) (C : Addr) (cl : List (Str × Addr)) (fp : List Addr), PE (X.blk s H scope (compEnvC scope cl C X.env) fp) vx tv) (hs : ∀ x, foldedSetIterable iter X.env x = pure x := by intro _; rfl) :
    PS X (.Assign [.Name y py] (.DictComp kx vx [⟨tg, iter, ifs, 0⟩] scope pos) spos) (tAsg (tDc wi g tt tk tv (own.map (·.2))) (gName i)) := by
  refine ⟨fun pins s σ H D I h => ?_⟩
  rw [exec_Assign_Name_used _ _ _ _ hsw]
  refine wpAny_bind (wpAny_standAt (wpAny_bind ?_))
  show wpAny _ X.A (do let _ ← comprehension (.DictComp kx vx [⟨tg, iter, ifs, 0⟩] scope pos) scope X.env (firstIterPos [⟨tg, iter, ifs, 0⟩] pos) newDict false (eval iter X.env) (some (assign (.Name y py) X.env))) _ _ s
  have h : tDc wi g tt tk tv (own.map (·.2)) σ H (fun x H1 => gName i x σ H1 D.nx) := h
  refine wpAny_bind (thn (dc_core (Qf := fun _ s' => SP X pins D .next s') hc hN I hi ok hg ht hk he hs h fun L C s' m H' I' q hn f => ?_) fun _ s' hq => wpAny_pure (wpAny_pure hq))
  show wpAny _ _ (assign (.Name y py) X.env (.ref L)) _ _ _
  refine wpAny_assign_Name (store_ok2 (v := V.ref L) I' hN hy (.inl hyl) rfl (fun s2 I2 ⟨a, sb, ha⟩ => ?_) (.inr hyl))
  obtain ⟨f0, f1, f2, f3, f4, f5⟩ := f
  have haC : C ≠ a := by
    rcases ha with z | z
    · rw [z]; exact f1
    · exact fun e => f4 y a z e.symm
  refine ⟨m, hn.sameBut sb haC, fun h3 sb3 => ?_⟩
  exact ⟨_, H', I2.turned (t' := s2.toks) (fun b o hb e => (sb3.2 b hb).trans e) f0 f1 f3 f4 f5, q⟩
end
section
variable {σ : L2.St} {H : Hp} {te : TE} {ps : List (Int × Int)} {i : Nat} {D : Ends} {z : TS}
theorem q_setD (h : EvD te σ H ps) (k : ∀ p H1, H p = none → Ex H H1 → H1 p = some (.dK (ps.map kc)) → z D (σ.set i (some (.ref p))) H1) : tSeq (tAsg te (gName i)) z D σ H := h H (Ex.refl H) (fun x H1 => gName i x σ H1 (z D)) k
theorem q_setDL (h : EvD (tLockE te) σ H ps) (k : ∀ p H1, H p = none → Ex H H1 → H1 p = some (.dK (ps.map kc)) → z D (σ.set i (some (.ref p))) H1) : tSeq (tLock (tAsg te (gName i))) z D σ H := h H (Ex.refl H) (fun x H1 => gName i x σ H1 (z D)) k
end
theorem chkt_v {K : PySem.W.Frag} {C a b : Addr} {H : Hp} {ps qs : List (Int × Int)} {n : Int} (ha : LotAt K C H a ps) (hb : LotAt K C H b qs) (T : Two ps qs) (hn : cntB n = true) : SpV (spChkT K C) [.ref a, .ref b, .int n] H .non := fun H1 e Q q E => ⟨a, b, n, ps, qs, rfl, ha.up e, hb.up e, T, hn, q⟩
theorem len_no2 {xs : List V} (l : xs.length ≠ 2) : (!true || !decide (V.int (xs.length : Int) = V.int 2)) = true := by
  rw [decide_eq_false fun z => l (by have := V.int.inj z; omega)]
  rfl
theorem PrV.yes {K : PySem.W.Frag} {C : Addr} {H : Hp} {ps : List (Int × Int)} {v : V} {m : Int} {r : Bool} (h : PrV K C H ps v m r) (hr : r = true) : ∃ b os, v = .ref b ∧ LotAt K C H b os ∧ Cts os ∧ m = tot os ∧ partB os ps = true := by
  cases h with
  | lot h c => exact ⟨_, _, rfl, h, c, rfl, hr⟩
  | odd h k => cases hr
/-- return (x, y), by words about both -/
theorem st_retP2 {σ : L2.St} {H : Hp} {D : Ends} {t1 t2 : TE} (P1 : V → Hp → Prop) (P2 : V → V → Hp → Prop) (h1 : ∀ Q : VK, (∀ x H1, P1 x H1 → Q x H1) → t1 σ H Q) (h2 : ∀ x H1, P1 x H1 → ∀ Q : VK, (∀ y H2, P2 x y H2 → Q y H2) → t2 σ H1 Q)
    (k : ∀ x y H2 u, P2 x y H2 → H2 u = none → D.rt (.ref u) (upd H2 u (.tup [x, y]))) : tRet (tTup (tCons t1 (tCons t2 tNil))) D σ H := h1 _ fun x H1 p1 => h2 x H1 p1 _ fun y H2 p2 => ⟨(show 2 ≤ sizeLine by decide), fun u nu => k x y H2 u p2 nu⟩
/-- a drawn lot of at most six things -/
def spFew6 (K : PySem.W.Frag) : Sp := fun vs H Q _ => ∃ (d p : Addr) (ns : List Int), vs = [.ref d, .ref p, .int 6] ∧ p ≠ d ∧ Dice H d ∧ SqT K H p (ns.map V.int) ∧ ns.length ≤ 100 ∧ ns.Nodup ∧ ∀ (q : Addr) (ps : List (Int × Int)) (H' : Hp), Kd d H H' → q ≠ d → H' q = some (.dK (ps.map kc)) → Few6 ns ps → ps.length ≤ ns.length → Q (.ref q) H'
/-- a dict of counts that is new beside a heap -/
def RDn (H0 H : Hp) (x : V) (ps : List (Int × Int)) : Prop := ∃ d, x = .ref d ∧ H0 d = none ∧ H d = some (.dK (ps.map kc))
theorem RDn.ex {H0 H H' : Hp} {x : V} {ps : List (Int × Int)} (h : RDn H0 H x ps) (e : Ex H H') : RDn H0 H' x ps := h.imp fun d h => ⟨h.1, h.2.1, e _ _ h.2.2⟩
theorem RDn.upd {H0 H : Hp} {l : Addr} {xs ys : List V} {x : V} {ps : List (Int × Int)} (hl : H l = some (.lst xs)) (h : RDn H0 H x ps) : RDn H0 (L2.upd H l (.lst ys)) x ps := h.imp fun d h => ⟨h.1, h.2.1, by rw [upd_ne (fun z => by rw [z, hl] at h; exact (nomatch h.2.2))]; exact h.2.2⟩
theorem RDn.rd {H0 H : Hp} {x : V} {ps : List (Int × Int)} (h : RDn H0 H x ps) : RD H x ps := h.imp fun d h => ⟨h.1, h.2.2⟩
theorem evr_dictN {K : PySem.W.Frag} {σ : L2.St} {H H0 : Hp} {te : TE} {qs : List (Int × Int)} (e0 : Ex H0 H) (h : EvP K te σ H qs) (hn : (qs.map Prod.fst).Nodup) : EvR (RDn H0) (tCB (rDictP K) (tCons te tNil)) σ H qs := fun H1 e Q q => dl_of h hn H1 e _ fun p H2 np e2 h2 => q (.ref p) H2 e2 ⟨p, rfl, fresh_back (e0.trans e) np, h2⟩
/-- all parts, new dicts -/
def spPartsN (K : PySem.W.Frag) : Sp := fun vs H Q _ => ∃ d ps, vs = [.ref d] ∧ H d = some (.dK (ps.map kc)) ∧ Cts ps ∧ (ps.map Prod.snd).sum ≤ 9 ∧ ∀ l xs H', H l = none → Ex H H' → H' l = some (.lst xs) → F2 (RDn H H') xs (partsOf (srt ps)) → Q (.ref l) H'
/-! dicts that are sets of ints -/
def kb (k : Int) : Key × V := (Sum.inl k, .bl true)
def inK (kvs : List (Key × V)) (k : Int) : Prop := (Sum.inl k : Key) ∈ kvs.map Prod.fst
theorem inK_put {kvs : List (Key × V)} {k : Int} {x : Key} {v : V} : inK (putK kvs x v) k ↔ inK kvs k ∨ x = Sum.inl k := by
  unfold inK putK
  split
  · next h =>
    have e : (kvs.map fun kv => if kv.1 = x then (kv.1, v) else kv).map Prod.fst = kvs.map Prod.fst := by
      rw [List.map_map]
      refine List.map_congr_left fun q _ => ?_
      show (if q.1 = x then (q.1, v) else q).1 = q.1
      split <;> rfl
    rw [e]
    refine ⟨.inl, fun z => z.elim id fun e => ?_⟩
    obtain ⟨q, hq, eq⟩ := List.any_eq_true.mp h
    rw [← e, ← of_decide_eq_true eq]
    exact List.mem_map_of_mem hq
  · rw [List.map_append, List.mem_append]
    show _ ∨ _ ∈ [x] ↔ _
    rw [List.mem_singleton]
    exact ⟨fun z => z.imp id Eq.symm, fun z => z.imp id Eq.symm⟩
theorem inK_merge {k : Int} : ∀ {more kvs : List (Key × V)}, inK (mergeK kvs more) k ↔ inK kvs k ∨ inK more k
  | [], kvs => ⟨.inl, fun z => z.elim id fun m => nomatch m⟩
  | p :: r, kvs => by
    show inK (mergeK (putK kvs p.1 p.2) r) k ↔ _
    rw [inK_merge, inK_put]
    unfold inK
    rw [List.map_cons, List.mem_cons, or_assoc]
    exact ⟨fun z => z.imp id (Or.imp Eq.symm id), fun z => z.imp id (Or.imp Eq.symm id)⟩
theorem inK_val {kvs : List (Key × V)} {k : Int} : (valV kvs (Sum.inl k : Key)).isSome = true ↔ inK kvs k := by
  rw [← valV_any, List.any_eq_true]
  unfold inK
  rw [List.mem_map]
  exact ⟨fun ⟨x, hx, e⟩ => ⟨x, hx, of_decide_eq_true e⟩, fun ⟨x, hx, e⟩ => ⟨x, hx, decide_eq_true e⟩⟩
theorem inK_kb {ks : List Int} {k : Int} : inK (ks.map kb) k ↔ k ∈ ks := by
  unfold inK
  rw [List.map_map, List.mem_map]
  exact ⟨fun ⟨x, hx, e⟩ => Sum.inl.inj e ▸ hx, fun h => ⟨k, h, rfl⟩⟩
section
variable {K : PySem.W.Frag} {σ : L2.St} {H : Hp} {td ty : TE} {d : Addr} {kvs : List (Key × V)} {s : Int}
/-- k in d -/
theorem ev_dinK (h : Ev td σ H (.ref d)) (hs : Ev ty σ H (.int s)) (hd : Rd H d (.dK kvs)) : Ev (tDIn ty td) σ H (.bl (valV kvs (Sum.inl s : Key)).isSome) := fun H1 e Q q =>
  hs H1 e _ fun H2 e2 => h H2 (e.trans e2) _ fun H3 e3 => ⟨d, _, rfl, .inl ⟨_, Sum.inl s, ex_rd ((e.trans e2).trans e3) hd, rfl, rfl⟩, by
    have z := q H3 (e2.trans e3)
    cases h : valV kvs (Sum.inl s : Key) with
    | none => rw [h] at z; exact z
    | some y => rw [h] at z; exact z⟩
end
theorem trv_no2 {K : PySem.W.Frag} {C t : Addr} {H : Hp} {ps qs : List (Int × Int)} {n m1 m2 : Int} {x y : V} {r1 : Bool} (h : SqT K H t [x, y]) (h1 : PrV K C H ps x m1 r1) (h2 : PrV K C H qs y m2 false) : TrV K C H ps qs n (.ref t) false := by
  have z := TrV.two (n := n) h h1 h2
  rw [Bool.false_and, Bool.and_false] at z
  exact z
/-- what isinstance says of a lot, None among the others -/
structure LotNK (K : PySem.W.Frag) (C : Addr) : Prop where
  int : PySem.W.kitOne K (.ref C) (.type "int") = some false
  dict : PySem.W.kitOne K (.type "dict") (.ref C) = some false
  num : PySem.W.kitOne K (.type "int") (.ref C) = some false
  none : PySem.W.kitOne K (.type "NoneType") (.ref C) = some false
end Ck

/-! dicts that are sets of ints, put together; what the law of trades asks -/
namespace Ck
open PySem PySem.Spec PyProof.Rows L2 StX Evl
/-- a pair of an int and True -/
def RPb (K : PySem.W.Frag) (H : Hp) (x : V) (k : Int) : Prop := ∃ t, x = .ref t ∧ SqT K H t [.int k, .bl true]
section
variable {K : PySem.W.Frag} {σ : L2.St} {H H' : Hp} {tl te : TE} {l p0 : Addr} {x : V} {k : Int} {ks : List Int} {xs : List V} {D : Ends} {z : TS} {i : Nat}
theorem RPb.ex (e : Ex H H') (h : RPb K H x k) : RPb K H' x k := h.imp fun t h => ⟨h.1, ex_t e h.2⟩
theorem RPb.upd {ys : List V} (hl : H l = some (.lst xs)) (h : RPb K H x k) : RPb K (L2.upd H l (.lst ys)) x k := h.imp fun t h => ⟨h.1, sqT_updL h.2 hl⟩
theorem f2_refsB : ∀ {vs : List V} {ks : List Int}, F2 (RPb K H) vs ks → ∃ ts : List Addr, vs = ts.map V.ref ∧ Paired (fun t (kv : Key × V) => SqT K H t [kV kv.1, kv.2]) ts (ks.map kb)
  | _, _, .nil => ⟨[], rfl, .nil⟩
  | _, _, .cons ⟨t, e, h⟩ tl => by
    obtain ⟨ts, rfl, r⟩ := f2_refsB tl
    exact ⟨t :: ts, by rw [e]; rfl, .cons h r⟩
/-- dict([(k, True) for ..]) -/
theorem kb_of (h : ∀ H1, Ex H H1 → ∀ Q : VK, (∀ D vs H2, H1 D = none → Ex H1 H2 → H2 D = some (.lst vs) → F2 (RPb K H2) vs ks → Q (.ref D) H2) → tl σ H1 Q) :
    ∀ H1, Ex H H1 → ∀ Q : VK, (∀ p H2, H1 p = none → Ex H1 H2 → H2 p = some (.dK (mergeK [] (ks.map kb))) → Q (.ref p) H2) → tCB (rDictP K) (tCons tl tNil) σ H1 Q := fun H1 e1 Q q =>
  h H1 e1 _ fun D vs H2 nD e2 hD hf => by
    obtain ⟨ts, rfl, hp⟩ := f2_refsB hf
    exact ⟨D, ts, ks.map kb, rfl, SqL.of hD, hp, fun p hp2 => q p _ (fresh_back e2 hp2) (e2.trans (Ex.new hp2)) upd_same⟩
theorem evr_pairB {ta : TE} (ha : Ev ta σ H (.int k)) : EvR (RPb K) (tTup (tCons ta (tCons (tC (.bl true)) tNil))) σ H k := fun H1 e Q q =>
  ha H1 e _ fun H2 e2 => ⟨(show 2 ≤ sizeLine by decide), fun t ht => q _ _ (e2.trans (Ex.new ht)) ⟨t, rfl, SqT.of upd_same⟩⟩
/-- d.update(e) -/
theorem one_upd {kvs more : List (Key × V)} (hp0 : H p0 = some (.dK kvs)) (ha : Ev tl σ H (.ref p0)) (h : ∀ H1, Ex H H1 → ∀ Q : VK, (∀ p H2, H1 p = none → Ex H1 H2 → H2 p = some (.dK more) → Q (.ref p) H2) → te σ H1 Q) (hl : kvs.length + more.length ≤ 100000) (k : ∀ H2, Ex H H2 → D.nx σ (upd H2 p0 (.dK (mergeK kvs more)))) :
    tDrop (tBM K "dict" rUpd tl (tCons te tNil)) D σ H := ha H (Ex.refl H) _ fun H1 e1 =>
  ⟨.inr (.inr (.inl ⟨rfl, .inl ⟨_, e1 _ _ hp0⟩⟩)), h H1 e1 _ fun p H2 np e2 hp => ⟨p0, p, kvs, more, rfl, rfl, (fun e => by rw [← e, e1 _ _ hp0] at np; cases np), (e1.trans e2) _ _ hp0, .inl hp, sz_of hl, k H2 (e1.trans e2)⟩⟩
theorem RDn.updP {H0 : Hp} {o u : HO} {ps : List (Int × Int)} (h0 : H0 p0 = some o) (h : RDn H0 H x ps) : RDn H0 (L2.upd H p0 u) x ps := h.imp fun d h => ⟨h.1, h.2.1, by rw [upd_ne (fun z => by rw [z, h0] at h; exact nomatch h.2.1)]; exact h.2.2⟩
end
theorem parts_len6 {ps : List (Int × Int)} (h : ∀ p ∈ ps, 0 < p.2) (hs : (ps.map Prod.snd).sum ≤ 6) : (partsOf ps).length ≤ 64 := by
  have z := parts_len ps [[]] h
  have e : ([[]] : List (List (Int × Int))).length = 1 := rfl
  rw [e, Nat.one_mul] at z
  have y : 2 ^ ((ps.map Prod.snd).sum).toNat ≤ 2 ^ 6 := Nat.pow_le_pow_right (by decide) (by omega)
  unfold partsOf
  omega
theorem f2_int (H : Hp) : ∀ ns : List Int, F2 (RI H) (ns.map V.int) ns
  | [] => .nil
  | _ :: r => .cons rfl (f2_int H r)
section
variable {K : PySem.W.Frag} {σ : L2.St} {H : Hp} {te : TE} {i j l : Nat} {D : Ends} {z : TS}
/-- a, b = e, f -/
theorem q_parP {ta tb : TE} (P : V → V → Hp → Prop) (h : ∀ Q : V → V → Hp → Prop, (∀ x y H1, P x y H1 → Q x y H1) → ta σ H fun x H1 => tb σ H1 fun y H2 => Q x y H2) (k : ∀ x y H1, P x y H1 → z D ((σ.set i (some x)).set j (some y)) H1) : tSeq (tPar i j (tCons ta (tCons tb tNil))) z D σ H :=
  h (fun x y H2 => ∃ x' y', [x, y] = [x', y'] ∧ z D ((σ.set i (some x')).set j (some y')) H2) fun x y H1 p => ⟨x, y, rfl, k x y H1 p⟩
/-- a, b = e | a, b, c = e: by words about what comes -/
theorem q_asg2 (P : V → V → Hp → Prop) (h : ∀ Q : VK, (∀ u x y H1, SqT K H1 u [x, y] → P x y H1 → Q (.ref u) H1) → te σ H Q) (k : ∀ x y H1, P x y H1 → z D ((σ.set i (some x)).set j (some y)) H1) :
    tSeq (tAsg te (gTup K 2 (gCons (gName i) (gCons (gName j) gNil)))) z D σ H := h _ fun u x y H1 hu p => ⟨u, _, rfl, hu, rfl, _, _, rfl, _, _, rfl, rfl, k x y H1 p⟩
theorem st_asg2 (P : V → V → Hp → Prop) (h : ∀ Q : VK, (∀ u x y H1, SqT K H1 u [x, y] → P x y H1 → Q (.ref u) H1) → te σ H Q) (k : ∀ x y H1, P x y H1 → z D ((σ.set i (some x)).set j (some y)) H1) :
    tAsg te (gTup K 2 (gCons (gName i) (gCons (gName j) gNil))) { D with nx := z D } σ H := h _ fun u x y H1 hu p => ⟨u, _, rfl, hu, rfl, _, _, rfl, _, _, rfl, rfl, k x y H1 p⟩
theorem q_asg3 (P : V → V → V → Hp → Prop) (h : ∀ Q : VK, (∀ u x y w H1, SqT K H1 u [x, y, w] → P x y w H1 → Q (.ref u) H1) → te σ H Q) (k : ∀ x y w H1, P x y w H1 → z D (((σ.set i (some x)).set j (some y)).set l (some w)) H1) :
    tSeq (tAsg te (gTup K 3 (gCons (gName i) (gCons (gName j) (gCons (gName l) gNil))))) z D σ H := h _ fun u x y w H1 hu p => ⟨u, _, rfl, hu, rfl, _, _, rfl, _, _, rfl, _, _, rfl, rfl, k x y w H1 p⟩
end
theorem can_eq {ps : List (Int × Int)} (T : Two (srt ps) []) (hc : Cts ps) (hp : Prs2 (srt ps)) {n : Int} (h0 : 0 ≤ n) : trB (srt ps) [] n = (decide (lck (srt ps) n = []) && decide (n ≤ tot (srt ps))) := by
  have ss : srt (srt ps) = srt ps := asc_unique (srt_asc (asc_nodup (srt_asc hc.nd))) (srt_asc hc.nd) (srt_perm _)
  have s0 : srt ([] : List (Int × Int)) = [] := List.eq_nil_of_length_eq_zero (srt_perm []).length_eq
  have t0 : tot ([] : List (Int × Int)) = 0 := rfl
  have e : (∃ x ∈ partsOf (srt ps), ∃ y ∈ partsOf ([] : List (Int × Int)), tot x - tot y = n) ↔ Is (srt ps) n := by
    constructor
    · rintro ⟨x, hx, y, hy, e⟩
      have : y = [] := List.mem_singleton.mp hy
      rw [this, t0] at e
      exact ⟨x, hx, by omega⟩
    · rintro ⟨x, hx, e⟩
      exact ⟨x, hx, [], List.mem_singleton.mpr rfl, by rw [t0]; omega⟩
  refine bool_iff ?_
  have hp2 : Prs2 (srt (srt ps)) := by rw [ss]; exact hp
  have h2 : Prs2 (srt ([] : List (Int × Int))) := by rw [s0]; exact .nil
  rw [trade_iff T hp2 h2 (by rw [t0]; omega), ss, s0, e, is_pay hp, pay_ok, lck_ok, Bool.and_eq_true, decide_eq_true_eq]
  exact ⟨fun h => ⟨h.2.2, h.2.1⟩, fun h => ⟨h0, h.2, h.1⟩⟩
theorem two_false {x y : V} : (!decide (x = x) || !decide (y = y)) = false := by rw [decide_eq_true rfl, decide_eq_true rfl]; rfl
/-- a call whose second argument is told by a word -/
theorem call_mid {sp : Sp} {E : XK} {σ : L2.St} {H : Hp} {ta tb tc : TE} {x z : V} {Q : VK} (P : V → Hp → Prop) (ha : Ev ta σ H x) (hb : ∀ H1, Ex H H1 → ∀ Q : VK, (∀ y H2, Ex H1 H2 → P y H2 → Q y H2) → tb σ H1 Q) (hc : ∀ H1, Ex H H1 → Ev tc σ H1 z)
    (q : ∀ y H1 H2, Ex H H1 → P y H1 → Ex H1 H2 → sp [x, y, z] H2 Q E) : tCall sp [] E (tCons ta (tCons tb (tCons tc tNil))) σ H Q := ha H (Ex.refl H) _ fun H1 e1 => hb H1 e1 _ fun y H2 e2 p => hc H2 (e1.trans e2) H2 (Ex.refl H2) _ fun H3 e3 => q y H2 H3 (e1.trans e2) p e3
theorem ev_max {σ : L2.St} {H : Hp} {ta tb : TE} {a b : Int} (ha : Ev ta σ H (.int a)) (hb : Ev tb σ H (.int b)) : Ev (tCB (fun xs H Q => ∃ i j, xs = [.int i, .int j] ∧ Q (.int (if j > i then j else i)) H) (tCons ta (tCons tb tNil))) σ H (.int (if b > a then b else a)) := fun H1 e Q q => ha H1 e _ fun H2 e2 => hb H2 (e.trans e2) _ fun H3 e3 => ⟨a, b, rfl, q H3 (e2.trans e3)⟩
theorem parts_ne : ∀ (qs : List (Int × Int)) (acc : List (List (Int × Int))), acc ≠ [] → qs.foldl (fun acc p => acc.flatMap (ext1 p)) acc ≠ []
  | [], _, h => h
  | p :: r, acc, h => parts_ne r (acc.flatMap (ext1 p)) (by
    cases acc with
    | nil => exact absurd rfl h
    | cons a t =>
      rw [List.flatMap_cons]
      exact fun z => by cases z)
/-- _law_pick(dice, _law_parts(g)) -/
theorem pick_part {K : PySem.W.Frag} {σ : L2.St} {H : Hp} {d g : Addr} {ta tg : TE} {ps : List (Int × Int)} {Q : VK} (ha : ∀ H1, Ev ta σ H1 (.ref d)) (hg0 : ∀ H1, Ev tg σ H1 (.ref g)) (hd : Dice H d) (hg : H g = some (.dK (ps.map kc))) (hc : Cts ps) (hs : (ps.map Prod.snd).sum ≤ 9)
    (q : ∀ dx X H', Kd d H H' → dx ≠ d → H' dx = some (.dK (X.map kc)) → X ∈ partsOf (srt ps) → Q (.ref dx) H') : tCall (spPick K) [] E0 (tCons ta (tCons (tCall (spPartsN K) [] E0 (tCons tg tNil)) tNil)) σ H Q := ha H H (Ex.refl H) _ fun H1 e1 => hg0 H1 H1 (Ex.refl H1) _ fun H2 e2 => by
  have e12 := e1.trans e2
  have cp := hc.perm (srt_perm ps)
  refine ⟨g, ps, rfl, e12 _ _ hg, hc, hs, fun l xs H3 nl e3 hl hf => ⟨d, l, xs, rfl, hd.ex (e12.trans e3), SqL.of hl, (hd.ex e12).ne nl, fun e => ?_, ?_, fun x hx H4 hd4 b4 => ?_⟩⟩
  · have z := hf.len
    rw [e] at z
    exact parts_ne (srt ps) [[]] (fun z => by cases z) (List.eq_nil_of_length_eq_zero z.symm)
  · rw [hf.len]
    have := parts_small9 (qs := srt ps) (fun p hp => ⟨(siz_int (cp.ok p hp).1).1, (siz_int (cp.ok p hp).2).1⟩) (by rw [sum_perm (srt_perm ps)]; exact hs)
    omega
  · obtain ⟨i, hi, rfl⟩ := List.mem_iff_getElem.mp hx
    obtain ⟨X, hX, dx, e, _, hdx⟩ := hf.at (List.getElem?_eq_getElem hi)
    have ne : dx ≠ d := fun z => by
      obtain ⟨u, v, w, e4⟩ := hd.ex (e12.trans e3)
      rw [z, e4] at hdx
      cases hdx
    rw [e]
    exact q dx X H4 ((Kd.ex hd (e12.trans e3)).trans (Kd.but hd4 b4)) ne ((b4 dx ne).trans hdx) (List.mem_of_getElem? hX)
theorem cntB_abs {i m : Int} (h : i.natAbs ≤ 2000) (hm : m = (if i > 0 then i else 0) ∨ m = (if i < 0 then -i else i) ∨ m = (if i + 1 > 0 then i + 1 else 0)) : cntB m = true := by
  have big200 : (5000 : Nat) ≤ 10 ^ 200 := by decide +kernel
  rcases hm with rfl | rfl | rfl <;> split <;> exact cnt_of (by omega) (Nat.lt_of_lt_of_le (show _ < 5000 by omega) big200)
/-- counts, also of nothing -/
structure CtsZ (ps : List (Int × Int)) : Prop where
  nd : (ps.map Prod.fst).Nodup
  ln : ps.length ≤ 12
  ok : ∀ p ∈ ps, sizB p.1 = true ∧ p.2.natAbs < 10 ^ 200
def spTotZ : Sp := fun vs H Q _ => ∃ d ps, vs = [.ref d] ∧ H d = some (.dK (ps.map kc)) ∧ CtsZ ps ∧ ∀ H', Ex H H' → Q (.int (tot ps)) H'
theorem totz_v {H : Hp} {g : Addr} {ps : List (Int × Int)} (hg : H g = some (.dK (ps.map kc))) (hc : CtsZ ps) : Evl.SpV spTotZ [.ref g] H (.int (tot ps)) := fun H1 e Q q E => ⟨g, ps, rfl, e _ _ hg, hc, q⟩
/-- a drawn part of counts, also of nothing -/
structure Giv (ps rs : List (Int × Int)) : Prop where
  ks : rs.map Prod.fst = ps.map Prod.fst
  ok : ∀ x ∈ rs, 0 ≤ x.2 ∧ x.2 ≤ ct ps x.1
theorem Giv.of {ps rs : List (Int × Int)} (hn : (ps.map Prod.fst).Nodup) (hl : rs.length = ps.length) (h : ∀ i p, rs[i]? = some p → p.1 = (ps.getD i (0, 0)).1 ∧ 0 ≤ p.2 ∧ p.2 ≤ (ps.getD i (0, 0)).2) : Giv ps rs := by
  refine ⟨List.ext_getElem (by rw [List.length_map, List.length_map, hl]) fun i h1 h2 => ?_, fun p hp => ?_⟩
  · rw [List.length_map] at h1 h2
    rw [List.getElem_map, List.getElem_map, (h i _ (List.getElem?_eq_getElem h1)).1, List.getD_eq_getElem?_getD, List.getElem?_eq_getElem h2]
    rfl
  · obtain ⟨i, h1, rfl⟩ := List.mem_iff_getElem.mp hp
    obtain ⟨a, b, c⟩ := h i _ (List.getElem?_eq_getElem h1)
    have h2 : i < ps.length := by omega
    have e : ps.getD i (0, 0) = ps[i] := by rw [List.getD_eq_getElem?_getD, List.getElem?_eq_getElem h2]; rfl
    rw [e] at a c
    refine ⟨b, ?_⟩
    rw [a, ct_mem hn (List.getElem_mem h2)]
    exact c
theorem Giv.sub {ps rs : List (Int × Int)} (h : Giv ps rs) (hn : (ps.map Prod.fst).Nodup) : Sub rs (srt ps) := ⟨by rw [h.ks]; exact hn, fun x hx => by
  obtain ⟨a, b⟩ := h.ok x hx
  refine ⟨((srt_perm ps).map Prod.fst).mem_iff.mpr (by rw [← h.ks]; exact List.mem_map_of_mem hx), a, ?_⟩
  rw [ct_srt hn]
  exact b⟩
theorem Giv.ctz {ps rs : List (Int × Int)} (h : Giv ps rs) (hc : Cts ps) : CtsZ rs := by
  have hl : rs.length = ps.length := by
    have := congrArg List.length h.ks
    rwa [List.length_map, List.length_map] at this
  refine ⟨by rw [h.ks]; exact hc.nd, by rw [hl]; exact hc.ln, fun x hx => ?_⟩
  have m : x.1 ∈ ps.map Prod.fst := by rw [← h.ks]; exact List.mem_map_of_mem hx
  obtain ⟨p, hp, e⟩ := List.mem_map.mp m
  obtain ⟨a, b⟩ := h.ok x hx
  obtain ⟨o1, o2⟩ := hc.ok p hp
  rw [← e, ct_mem hc.nd hp] at b
  exact ⟨by rw [← e]; exact o1, Nat.lt_of_le_of_lt (show _ ≤ p.2.natAbs by omega) (siz_int o2).2⟩
theorem sub_tot {os ps : List (Int × Int)} (h : Sub os ps) (hc : Cts ps) : 0 ≤ tot os ∧ tot os ≤ tot ps := by
  have sb : ∀ s ∈ os.map Prod.fst, s ∈ ps.map Prod.fst := fun s m => by
    obtain ⟨x, hx, rfl⟩ := List.mem_map.mp m
    exact (h.ok x hx).1
  rw [tot_over h.nd hc.nd sb, tot_over hc.nd hc.nd fun s m => m]
  have : ∀ S : List Int, (∀ s ∈ S, 0 < s) → 0 ≤ (S.map fun s => s * ct os s).sum ∧ (S.map fun s => s * ct os s).sum ≤ (S.map fun s => s * ct ps s).sum := fun S => by
    induction S with
    | nil => exact fun _ => ⟨Int.le_refl 0, Int.le_refl 0⟩
    | cons a r ih =>
      intro hp
      rw [sum_cons2, sum_cons2]
      obtain ⟨i1, i2⟩ := ih fun s m => hp s (List.mem_cons_of_mem a m)
      have p := hp a List.mem_cons_self
      obtain ⟨c1, c2⟩ := h.ct (cts_ct hc) a
      have := Int.mul_nonneg (Int.le_of_lt p) c1
      have := Int.mul_le_mul_of_nonneg_left c2 (Int.le_of_lt p)
      omega
  exact this _ fun s m => (cts_pos hc s m).1
/-- dict([(k, g[k] * _law_roll(dice, 101) // 100) for k in g]) -/
theorem giv_made {K : PySem.W.Frag} {σ : L2.St} {H : Hp} {d g : Addr} {td tk : TE} {j : Nat} {ws : List Nat} {ps : List (Int × Int)} {Q : VK} (hd : Dice H d) (hg : H g = some (.dK (ps.map kc))) (gd : g ≠ d) (hc : Cts ps) (hv : ∀ H1, Ev td σ H1 (.ref g)) (hv2 : ∀ x H1, Ev td ((wipe σ ws).set j x) H1 (.ref g)) (hj : ∀ x : V, ((wipe σ ws).set j (some x))[j]? = some (some x)) (hk : ∀ x H1, Ev tk ((wipe σ ws).set j x) H1 (.ref d)) (hw : ∀ x, wipe ((wipe σ ws).set j (some x)) ws = wipe σ ws)
    (q : ∀ p H' rs, Kd d H H' → H' p = some (.dK (rs.map kc)) → Giv ps rs → Q (.ref p) H') :
    tCB (rDictP K) (tCons (tLockE (tLc (iKeys td) (gName j) tYes (tTup (tCons (tVar j) (tCons (tOp (rI CDiv fun i j => .int (i / j)) (tOp (rI CMul fun i j => .int (i * j)) (tDGet td (tVar j)) (tCall spRoll [] E0 (tCons tk (tCons (tC (.int 101)) tNil)))) (tC (.int 100))) tNil))) ws)) tNil) σ H Q := by
  have ln := hc.ln
  refine dict_ofD (K := K) (d := d) (Giv ps) (fun Q' q' => lc_keysD (K := K) (Pr := fun i p => p.1 = (ps.getD i (0, 0)).1 ∧ 0 ≤ p.2 ∧ p.2 ≤ (ps.getD i (0, 0)).2) hv hg gd hd (by rw [List.length_map]; omega) hw (fun i k x H1 hk1 hd1 hz Q2 q2 => ?_) Q' (fun D vs rs H' nD kk hD hf hlen hpr => ?_)) (fun p H' rs kk hp hdr => q p H' rs kk hp hdr)
  · obtain ⟨p, hp, e, rfl, rfl⟩ := kc_at hk1
    obtain ⟨od, hz⟩ := hz
    have c0 := (siz_int (hc.ok p hp).2).1
    refine ⟨_, hj _, ?_⟩
    refine ev_dget (hv2 _ _) (ev_var (hj _)) (fun H3 e3 => .inr ⟨od, e3 _ _ hz⟩) ((cnt_mem hc.nd).mp hp) H1 (Ex.refl H1) _ (fun H3 e3 => ?_)
    refine hk _ _ H3 (Ex.refl H3) _ (fun H4 e4 => ?_)
    refine ⟨d, 101, rfl, by decide, by decide, hd1.ex (e3.trans e4), fun r H5 r0 r1 hd5 k5 => ⟨p.2, r, rfl, rfl, .inr ⟨by omega, by omega⟩, _, _, rfl, rfl, ⟨by decide, by decide⟩, (show 2 ≤ sizeLine by decide), fun t nt => q2 _ _ (p.1, p.2 * r / 100) (((Kd.ex hd1 (e3.trans e4)).trans (Kd.but hd5 k5)).to (Ex.new nt)) ⟨t, rfl, SqT.of upd_same⟩ ?_⟩⟩
    rw [e]
    have m0 := Int.mul_nonneg (Int.le_of_lt c0) r0
    have m1 : p.2 * r ≤ p.2 * 100 := Int.mul_le_mul_of_nonneg_left (by omega) (Int.le_of_lt c0)
    exact ⟨rfl, show 0 ≤ p.2 * r / 100 by omega, show p.2 * r / 100 ≤ p.2 by omega⟩
  · rw [List.length_map] at hlen
    have hdr := Giv.of hc.nd hlen hpr
    exact q' D vs rs H' kk hD hf (by rw [hdr.ks]; exact hc.nd) hdr
section
variable {K : PySem.W.Frag} {σ : L2.St} {H : Hp} {C : Addr} {ta tb tc : TE} {y z : V} {sp : Sp} {E : XK} {Q : VK}
theorem disp1 {a b : Int} (Q : VK) (q : ∀ p H1, Ex H H1 → H1 p = some (.dK (([(a, b)] : List (Int × Int)).map kc)) → Q (.ref p) H1) : tDisp [(tC (.int a), tC (.int b))] σ H Q := fun p hp0 => by
  refine ⟨upd_same, [(a, b)].map kc, rfl, (show 1 ≤ 15 by decide), ?_⟩
  rw [merge_kc (ps := [(a, b)]) (List.nodup_cons.mpr ⟨List.not_mem_nil, List.nodup_nil⟩)]
  exact q p _ (fun x o z => by
    have n := ne_of_none z hp0
    rw [upd_ne n, upd_ne n]
    exact z) upd_same
theorem perm_one {a b : Int} {qs : List (Int × Int)} (h : qs.Perm [(a, b)]) : qs = [(a, b)] := List.perm_singleton.mp h
/-- Lot({a: b}) -/
theorem lot_one {a b : Int} (hc : Cts [(a, b)]) (Q : VK) (q : ∀ x H1, Ex H H1 → LotAt K C H1 x [(a, b)] → Q (.ref x) H1) : tMakeR C (spLotI K C) E0 (tCons (tDisp [(tC (.int a), tC (.int b))]) tNil) σ H Q :=
  lot_make (K := K) (ps := [(a, b)]) (fun Q' q' => disp1 Q' q') hc Q fun x qs H1 e1 hp _ hl => q x H1 e1 (by rw [← perm_one hp]; exact hl)
theorem mk2 {a b c d : Int} (h1 : Cts [(a, b)]) (h2 : Cts [(c, d)]) (Q : V → V → Hp → Prop) (q : ∀ x y H1, Ex H H1 → LotAt K C H1 x [(a, b)] → LotAt K C H1 y [(c, d)] → Q (.ref x) (.ref y) H1) :
    tMakeR C (spLotI K C) E0 (tCons (tDisp [(tC (.int a), tC (.int b))]) tNil) σ H fun x H1 => tMakeR C (spLotI K C) E0 (tCons (tDisp [(tC (.int c), tC (.int d))]) tNil) σ H1 fun y H2 => Q x y H2 :=
  lot_one (K := K) h1 _ fun x H1 e1 hx => lot_one (K := K) h2 _ fun y H2 e2 hy => q x y H2 (e1.trans e2) (hx.up e2) hy
/-- a call whose first argument is told by a word -/
theorem call_fst (P : V → Hp → Prop) (ha : ∀ Q : VK, (∀ y H2, Ex H H2 → P y H2 → Q y H2) → ta σ H Q) (hb : ∀ H1, Ex H H1 → Ev tb σ H1 y) (hc : ∀ H1, Ex H H1 → Ev tc σ H1 z)
    (q : ∀ x H1 H2, Ex H H1 → P x H1 → Ex H1 H2 → sp [x, y, z] H2 Q E) : tCall sp [] E (tCons ta (tCons tb (tCons tc tNil))) σ H Q := ha _ fun x H1 e1 p => hb H1 e1 H1 (Ex.refl H1) _ fun H2 e2 => hc H2 (e1.trans e2) H2 (Ex.refl H2) _ fun H3 e3 => q x H1 H3 e1 p (e2.trans e3)
/-- a call whose first two arguments are told by a word -/
theorem call_2 (P : V → V → Hp → Prop) (h : ∀ Q : V → V → Hp → Prop, (∀ x y H1, Ex H H1 → P x y H1 → Q x y H1) → ta σ H fun x H1 => tb σ H1 fun y H2 => Q x y H2) (hc : ∀ H1, Ex H H1 → Ev tc σ H1 z)
    (q : ∀ x y H1 H2, Ex H H1 → P x y H1 → Ex H1 H2 → sp [x, y, z] H2 Q E) : tCall sp [] E (tCons ta (tCons tb (tCons tc tNil))) σ H Q := h (fun x y H1 => tc σ H1 fun w H2 => sp [x, y, w] H2 Q E) fun x y H1 e1 p => hc H1 e1 H1 (Ex.refl H1) _ fun H2 e2 => q x y H1 H2 e1 p e2
theorem tup_2 (P : V → V → Hp → Prop) (h : ∀ Q : V → V → Hp → Prop, (∀ x y H1, Ex H H1 → P x y H1 → Q x y H1) → ta σ H fun x H1 => tb σ H1 fun y H2 => Q x y H2)
    (k : ∀ x y H1 u, Ex H H1 → P x y H1 → H1 u = none → Q (.ref u) (upd H1 u (.tup [x, y]))) : tTup (tCons ta (tCons tb tNil)) σ H Q := h (fun x y H1 => 2 ≤ sizeLine ∧ ∀ u, H1 u = none → Q (.ref u) (upd H1 u (.tup [x, y]))) fun x y H1 e1 p => ⟨(show 2 ≤ sizeLine by decide), fun u nu => k x y H1 u e1 p nu⟩
/-- two tuples of lots, the lots are equal -/
theorem dtup {t u x y x' y' : Addr} {ps qs : List (Int × Int)} (h1 : SqT K H t [.ref x, .ref y]) (h2 : SqT K H u [.ref x', .ref y']) (a1 : LotAt K C H x ps) (a2 : LotAt K C H x' ps) (b1 : LotAt K C H y qs) (b2 : LotAt K C H y' qs) (n1 : (ps.map Prod.fst).Nodup) (n2 : (qs.map Prod.fst).Nodup) : DTup K (DIns C (REqL K C)) (.ref t) (.ref u) H := by
  have one : ∀ {a b : Addr} {os : List (Int × Int)}, LotAt K C H a os → LotAt K C H b os → (os.map Prod.fst).Nodup → DIns C (REqL K C) (.ref a) (.ref b) H := fun {a b os} ha hb hn => by
    obtain ⟨dx, t1, t2, d, ts, e1, _⟩ := ha.ex
    obtain ⟨dy, u1, u2, f, us, e2, _⟩ := hb.ex
    exact ⟨a, b, dx, dy, _, _, rfl, rfl, e1, e2, os, ha, hb, hn⟩
  exact ⟨t, u, _, _, rfl, rfl, h1, h2, Prs.cons (one a1 a2 n1) (Prs.cons (one b1 b2 n2) Prs.nil)⟩
end
end Ck

/-! stores: a class whose __init__ takes a row of runs -/
namespace Ck
open PySem PySem.Spec PyProof.Rows L2 StX Evl
/-- __init__(self, *v) of a class -/
def Dis (K : PySem.W.Frag) (mg : Str → Option Value) (x : Str) (C : Addr) (qual : Str) (st : Stmt) (pv : Str) : Prop :=
  ∃ (f : Addr), Mk K C f ∧ mg x = some (.ref C) ∧ ∃ (oc : Value) (od : Option Addr) (dV kV doc pm : Value) (an : Option Addr) (cdv ct : Value) (osl : Array (Option Value)),
    K.lookup f = some ⟨oc, od, .func (PySem.W.fnOf "__init__" qual (defArgs st) (defBody st) (defScope st) dV kV doc pm an cdv ct), osl⟩ ∧ PySem.W.codeIn K cdv qual = true ∧
    ∀ us rest : List Value, us.length = (["self"] : List Str).length → bindArgs (PySem.W.fnOf "__init__" qual (defArgs st) (defBody st) (defScope st) dV kV doc pm an cdv ct) ⟨us ++ rest, []⟩ = (newTuple rest >>= fun t => pure ((["self"] : List Str).zip us ++ [(pv, t)]))
section
variable {P : Program} {w : World} {K : PySem.W.Frag} {mg : Str → Option Value} {base : Heap} {k : Nat} {C : Addr} {x qual pv : Str} {st : Stmt} {N : List Str} {sp : Sp}
theorem mks_of (D : Dis K mg x C qual st pv) (S : FnScope N ["self", pv] (defScope st))
    (hbody : ∀ (f : Addr) (cdv : Value) (A : Around) (outer : List Env) (s : Shared) (H : Hp) (vs : List V) (Q : VK) (E : XK), Room k (A.deeper (envOfC qual (defScope st) s.heap.objs.size f cdv)) → sp vs H Q E →
      ∃ t, PSs (cxOf CX0 P w K mg base N qual (defScope st) f cdv A outer s H E).nox (defBody st) t ∧ t { nx := fun _ H' => Q .non H', rt := Q } (start N vs) H) :
    Mkc P w K mg base (k + 1) x C fun vs H Q E => ∃ ws rest, vs = ws ++ rest ∧ ws.length = 1 ∧ rest.length ≤ sizeLine ∧ ∀ p, H p = Option.none → sp (ws ++ [V.ref p]) (upd H p (.tup rest)) Q E := by
  obtain ⟨f, M, hm, oc, od, dV, kV, doc, pm, an, cdv, ct, osl, lk, hcd, hb⟩ := D
  exact ⟨f, M, hm, fn_star (ps := ["self"]) lk hcd S cxUp_none hb fun A outer s H vs Q E hr h => by
    obtain ⟨t, h1, h2⟩ := hbody f cdv A outer s H vs Q E hr h
    exact ⟨t, h1.nox, h2⟩⟩
theorem dis_mk {oc dV kV dc pm cd ct : Value} {od an : Option Addr} {sl : Array (Option Value)} {f : Addr} (gc : mg x = some (.ref C)) (mks : PySem.W.makesIn K C = true) (a : PySem.W.findIn K (.ref C) "__init__" = some (some (.ref f))) (i : PySem.W.isFn K (.ref f) = true) (kc : PySem.W.keepIn K (.ref C) = true)
    (l : K.lookup f = some ⟨oc, od, .func (PySem.W.fnOf "__init__" qual (defArgs st) (defBody st) (defScope st) dV kV dc pm an cd ct), sl⟩) (c : PySem.W.codeIn K cd qual = true)
    (h0 : ∀ a, bindArgs (PySem.W.fnOf "__init__" qual (defArgs st) (defBody st) (defScope st) dV kV dc pm an cd ct) ⟨[a], []⟩ = (newTuple [] >>= fun t => pure [(("self" : Str), a), (pv, t)]))
    (h1 : ∀ a r rs, bindArgs (PySem.W.fnOf "__init__" qual (defArgs st) (defBody st) (defScope st) dV kV dc pm an cd ct) ⟨a :: r :: rs, []⟩ = (newTuple (r :: rs) >>= fun t => pure [(("self" : Str), a), (pv, t)])) : Dis K mg x C qual st pv :=
  ⟨f, ⟨mks, a, i, kc⟩, gc, oc, od, dV, kV, dc, pm, an, cd, ct, sl, l, c, bind_star1 (B := fun us => bindArgs (PySem.W.fnOf "__init__" qual (defArgs st) (defBody st) (defScope st) dV kV dc pm an cd ct) ⟨us, []⟩) h0 h1⟩
end
theorem f2_snoc {α : Type} {R : V → α → Prop} {z : α} : ∀ {as : List α} {vs : List V}, F2 R vs (as ++ [z]) → ∃ ys y, vs = ys ++ [y] ∧ F2 R ys as ∧ R y z
  | [], _, .cons h .nil => ⟨[], _, rfl, .nil, h⟩
  | a :: as, _, .cons h t => by
    obtain ⟨ys, y, rfl, h1, h2⟩ := f2_snoc (as := as) t
    exact ⟨_ :: ys, y, rfl, .cons h h1, h2⟩
theorem nil_or_snoc {α : Type} (l : List α) : l = [] ∨ ∃ as z, l = as ++ [z] := by
  by_cases h : l = []
  · exact .inl h
  · exact .inr ⟨l.dropLast, l.getLast h, (List.dropLast_concat_getLast h).symm⟩
theorem ixN_last (n : Nat) : ixN (n + 1) (-1) = some n := by
  unfold ixN
  rw [if_neg (show ¬ (0 : Int) ≤ -1 by decide), if_pos (by omega)]
  exact congrArg some (by omega)
theorem ix_tupK {X : Cx} {K : PySem.W.Frag} (h : X.K = K) : IxR X (rIxT K) := h ▸ ix_tup
/-- [e for r in t], the items pairs -/
theorem el_lcP1 {K : PySem.W.Frag} {tl te : TE} {σ : L2.St} {H : Hp} {a : Addr} {ts : List V} {ps : List (Int × Int)} {j : Nat} {ws : List Nat} (f : Int × Int → V) (h : Ev tl σ H (.ref a)) (ht : SqT K H a ts) (hf : F2 (RP K H) ts ps) (hz : ps.length ≤ 40000)
    (hw : ∀ x, wipe ((wipe σ ws).set j (some x)) ws = wipe σ ws) (he : ∀ p ∈ ps, ∀ x H1, Ex H H1 → RP K H1 x p → Ev te ((wipe σ ws).set j (some x)) H1 (f p)) :
    EvL (tLc (iTup K tl) (gName j) tYes te ws) σ H (ps.map f) := fun H0 e0 Q q => h H0 e0 _ fun H1 e1 => ⟨a, rfl, ⟨ts, ex_t (e0.trans e1) ht⟩, fun D hD => by
  have e01 := e0.trans e1
  refine lc_it walk_tup (fun i H' => H1 D = none ∧ Ex H1 H' ∧ H' D = some (.lst ((ps.take i).map f))) ⟨hD, Ex.new hD, upd_same⟩ (fun i H' _ p => ex_t (e01.trans p.2.1) ht) ?_ ?_
  · rintro i x H' H2 hi ⟨p1, p2, p3⟩ ⟨rfl, hxi⟩
    obtain ⟨p, hp, hpt⟩ := hf.at hxi
    have m := List.mem_of_getElem? hp
    have st : ps.take (i + 1) = ps.take i ++ [p] := by rw [List.take_add_one, hp]; rfl
    have i12 : i < ps.length := (List.getElem?_eq_some_iff.mp hp).1
    refine ⟨hw _, yes_go (iteT (he p m x H2 (e01.trans p2) (hpt.ex (e01.trans p2)) H2 (Ex.refl _) _ fun H5 e5 => ⟨_, e5 _ _ p3, sz_lt (by rw [List.length_map, List.length_take]; omega), p1, Ex.mut (p2.trans e5) p1, by rw [upd_same, st, List.map_append]; rfl⟩))⟩
  · rintro H' ⟨p1, p2, p3⟩
    rw [hf.len, List.take_of_length_le (Nat.le_refl _)] at p3
    exact q D H' (fresh_back e1 p1) (e1.trans p2) p3⟩
/-! ### runs -/
/-- a run joins the ones ahead -/
def jn1 (acc : List (Int × Int)) (r : Int × Int) : List (Int × Int) := match acc.getLast? with
  | some l => if l.1 = r.1 then acc.dropLast ++ [(r.1, l.2 + r.2)] else acc ++ [r]
  | none => acc ++ [r]
def jr (rs : List (Int × Int)) : List (Int × Int) := rs.foldl jn1 []
theorem jr_snoc (rs : List (Int × Int)) (r : Int × Int) : jr (rs ++ [r]) = jn1 (jr rs) r := by
  unfold jr
  rw [List.foldl_append]
  rfl
theorem jn1_len (acc : List (Int × Int)) (r : Int × Int) : (jn1 acc r).length ≤ acc.length + 1 := by
  unfold jn1
  split
  · next l e =>
    split
    · rw [List.length_append, List.length_dropLast]
      show _ + 1 ≤ _
      omega
    · rw [List.length_append]
      exact Nat.le_refl _
  · rw [List.length_append]
    exact Nat.le_refl _
theorem jr_len (rs : List (Int × Int)) : (jr rs).length ≤ rs.length := by
  have : ∀ (rs acc : List (Int × Int)), (rs.foldl jn1 acc).length ≤ acc.length + rs.length := fun rs => by
    induction rs with
    | nil => exact fun acc => Nat.le_refl _
    | cons r t ih =>
      intro acc
      have := ih (jn1 acc r)
      have := jn1_len acc r
      rw [List.foldl_cons, List.length_cons]
      omega
  have := this rs []
  rw [List.length_nil] at this
  unfold jr
  omega
/-- what holds of all runs, and of the sum of two with the same room, holds of joined ones -/
theorem jr_all {P : Int × Int → Prop} (add : ∀ a b c, P (a, b) → P (a, c) → P (a, b + c)) {rs : List (Int × Int)} (h : ∀ r ∈ rs, P r) : ∀ r ∈ jr rs, P r := by
  have : ∀ (rs acc : List (Int × Int)), (∀ r ∈ rs, P r) → (∀ r ∈ acc, P r) → ∀ r ∈ rs.foldl jn1 acc, P r := fun rs => by
    induction rs with
    | nil => exact fun acc _ h => h
    | cons r t ih =>
      intro acc h1 h2
      refine ih (jn1 acc r) (fun x hx => h1 x (List.mem_cons_of_mem r hx)) fun x hx => ?_
      have hr := h1 r List.mem_cons_self
      unfold jn1 at hx
      split at hx
      · next l e =>
        have ml : l ∈ acc := List.mem_of_getLast? e
        split at hx
        · next el =>
          rcases List.mem_append.mp hx with m | m
          · exact h2 x (List.dropLast_subset acc m)
          · rw [List.mem_singleton.mp m]
            have pl := h2 l ml
            exact add r.1 l.2 r.2 (by rw [← el]; exact pl) hr
        · rcases List.mem_append.mp hx with m | m
          · exact h2 x m
          · rw [List.mem_singleton.mp m]
            exact hr
      · rcases List.mem_append.mp hx with m | m
        · exact h2 x m
        · rw [List.mem_singleton.mp m]
          exact hr
  exact this rs [] h fun r hr => nomatch hr
/-- a sum over runs that adds up is that of the joined ones -/
theorem jr_sum {g : Int × Int → Int} (add : ∀ a b c, g (a, b + c) = g (a, b) + g (a, c)) (rs : List (Int × Int)) : ((jr rs).map g).sum = (rs.map g).sum := by
  have : ∀ (rs acc : List (Int × Int)), ((rs.foldl jn1 acc).map g).sum = (acc.map g).sum + (rs.map g).sum := fun rs => by
    induction rs with
    | nil => exact fun acc => (Int.add_zero _).symm
    | cons r t ih =>
      intro acc
      rw [List.foldl_cons, ih, sum_cons2]
      have e : ((jn1 acc r).map g).sum = (acc.map g).sum + g r := by
        unfold jn1
        split
        · next l e =>
          obtain ⟨ys, rfl⟩ := List.getLast?_eq_some_iff.mp e
          split
          · next el =>
            rw [List.dropLast_concat, List.map_append, List.map_append, List.sum_append, List.sum_append]
            show _ + (g (r.1, l.2 + r.2) + 0) = _ + (g l + 0) + g r
            rw [add, ← el]
            show _ + (g l + g (l.1, r.2) + 0) = _
            rw [show (l.1, r.2) = r by rw [el]]
            omega
          · rw [List.map_append, List.sum_append]
            show _ + (g r + 0) = _
            omega
        · rw [List.map_append, List.sum_append]
          show _ + (g r + 0) = _
          omega
      rw [e]
      omega
  have := this rs []
  rw [List.map_nil, List.sum_nil, Int.zero_add] at this
  exact this
/-- runs that are joined stay so -/
def Jnd (rs : List (Int × Int)) : Prop := rs.Pairwise (fun _ _ => True) ∧ ∀ i, ∀ a b, rs[i]? = some a → rs[i + 1]? = some b → a.1 ≠ b.1
theorem jr_self : ∀ {rs : List (Int × Int)}, (∀ i a b, rs[i]? = some a → rs[i + 1]? = some b → a.1 ≠ b.1) → jr rs = rs := by
  have : ∀ (n : Nat) (rs : List (Int × Int)), rs.length = n → (∀ i a b, rs[i]? = some a → rs[i + 1]? = some b → a.1 ≠ b.1) → jr rs = rs := fun n => by
    induction n with
    | zero =>
      intro rs h _
      rw [List.eq_nil_of_length_eq_zero h]
      rfl
    | succ n ih =>
      intro rs h hj
      obtain ⟨ys, r, rfl⟩ : ∃ ys r, rs = ys ++ [r] := by
        refine ⟨rs.dropLast, rs.getLast (fun e => by rw [e] at h; cases h), (List.dropLast_concat_getLast _).symm⟩
      rw [List.length_append] at h
      have ln : ys.length = n := Nat.succ.inj h
      rw [jr_snoc, ih ys ln fun i a b h1 h2 => hj i a b (by rw [List.getElem?_append_left (List.getElem?_eq_some_iff.mp h1).1]; exact h1) (by rw [List.getElem?_append_left (List.getElem?_eq_some_iff.mp h2).1]; exact h2)]
      unfold jn1
      split
      · next l e =>
        obtain ⟨zs, rfl⟩ := List.getLast?_eq_some_iff.mp e
        rw [if_neg]
        refine hj zs.length l r ?_ ?_
        · rw [List.append_assoc, List.getElem?_append_right (Nat.le_refl _), Nat.sub_self]
          rfl
        · rw [List.getElem?_append_right (by rw [List.length_append]; exact Nat.le_refl _), List.length_append]
          show [r][zs.length + 1 - (zs.length + 1)]? = _
          rw [Nat.sub_self]
          rfl
      · rfl
  exact fun {rs} h => this rs.length rs rfl h
/-- the units of a size -/
def unt (rs : List (Int × Int)) (s : Int) : Int := (rs.map fun r => r.2 * (r.1 / s)).sum
theorem unt_jr (rs : List (Int × Int)) (s : Int) : unt (jr rs) s = unt rs s := jr_sum (g := fun r => r.2 * (r.1 / s)) (fun a b c => Int.add_mul b c (a / s)) rs
/-! ### a store -/
def stoF (t : Addr) : List (Str × V) := putF "_runs" (.ref t) []
/-- a store of these runs -/
structure StoAt (K : PySem.W.Frag) (C : Addr) (H : Hp) (a : Addr) (rs : List (Int × Int)) : Prop where
  ex : ∃ dx t ts, H a = some (.ins C dx (stoF t)) ∧ SqT K H t ts ∧ F2 (RP K H) ts rs
theorem StoAt.up {K : PySem.W.Frag} {C a : Addr} {H H' : Hp} {rs : List (Int × Int)} (h : StoAt K C H a rs) (e : Ex H H') : StoAt K C H' a rs := by
  obtain ⟨dx, t, ts, h1, h2, h3⟩ := h.ex
  exact ⟨dx, t, ts, e _ _ h1, ex_t e h2, h3.imp fun x b r => r.ex e⟩
theorem sto_runs (t : Addr) : (stoF t).lookup ("_runs" : Str) = some (.ref t) := by
  unfold stoF
  rw [lookup_putF, if_pos rfl]
/-- what the text has of the class Store -/
structure StoreT (K : PySem.W.Frag) (mg : Str → Option Value) (CS : Addr) : Prop where
  k : Klass K mg "Store" CS
  n1 : NoAttr K CS "_runs"
/-- runs as a store takes them -/
structure Rns (rs : List (Int × Int)) : Prop where
  ok : ∀ r ∈ rs, sizB r.1 = true ∧ sizB r.2 = true
  ln : rs.length ≤ 1000
  jl : (jr rs).length ≤ 40
/-- Store(..) -/
def spStoI (K : PySem.W.Frag) (C : Addr) : Sp := fun vs H Q _ => ∃ (x dx : Addr) (xs : List V) (rs : List (Int × Int)) (H0 : Hp), vs = .ref x :: xs ∧ Ex H0 H ∧ H0 x = none ∧ H x = some (.ins C dx []) ∧ F2 (RP K H0) xs rs ∧ Rns rs ∧ ∀ H', Ex H0 H' → StoAt K C H' x (jr rs) → Q .non H'
/-- its body: the runs are a tuple -/
def spStoB (K : PySem.W.Frag) (C : Addr) : Sp := fun vs H Q _ => ∃ (x dx p : Addr) (xs : List V) (rs : List (Int × Int)) (H0 : Hp), vs = [.ref x, .ref p] ∧ Ex H0 H ∧ H0 x = none ∧ H x = some (.ins C dx []) ∧ SqT K H p xs ∧ F2 (RP K H0) xs rs ∧ Rns rs ∧ ∀ H', Ex H0 H' → StoAt K C H' x (jr rs) → Q .non H'
/-- whether a pair of ints is a run -/
def spIsRun (K : PySem.W.Frag) : Sp := fun vs H Q _ => ∃ t a b, vs = [.ref t] ∧ SqT K H t [.int a, .int b] ∧ ∀ H', Ex H H' → Q (.bl (sizB a && sizB b)) H'
/-- runs that are joined -/
def spJoinR (K : PySem.W.Frag) : Sp := fun vs H Q _ => ∃ t xs rs, vs = [.ref t] ∧ SqT K H t xs ∧ F2 (RP K H) xs rs ∧ rs.length ≤ 2000 ∧ ∀ u ys H', Ex H H' → SqT K H' u ys → F2 (RP K H') ys (jr rs) → Q (.ref u) H'
def spUnitsOf (K : PySem.W.Frag) : Sp := fun vs H Q _ => ∃ t s xs rs, vs = [.ref t, .int s] ∧ SqT K H t xs ∧ F2 (RP K H) xs rs ∧ rs.length ≤ 2000 ∧ (∀ r ∈ rs, 0 ≤ r.1 ∧ r.1.natAbs < 10 ^ 200 ∧ r.2.natAbs < 10 ^ 200) ∧ 0 < s ∧ s.natAbs < 10 ^ 200 ∧ ∀ H', Ex H H' → Q (.int (unt rs s)) H'
def spIsSto (K : PySem.W.Frag) (C : Addr) : Sp := fun vs H Q _ => ∃ a rs, vs = [.ref a] ∧ StoAt K C H a rs ∧ ∀ H', Ex H H' → Q .non H'
def spRuns (K : PySem.W.Frag) (C : Addr) : Sp := fun vs H Q _ => ∃ a rs, vs = [.ref a] ∧ StoAt K C H a rs ∧ ∀ t ts H', Ex H H' → SqT K H' t ts → F2 (RP K H') ts rs → Q (.ref t) H'
/-- a store as its methods ask it: counts may be sums -/
structure StoOk (rs : List (Int × Int)) : Prop where
  ok : ∀ r ∈ rs, sizB r.1 = true ∧ 0 < r.2 ∧ r.2.natAbs < 10 ^ 200
  ln : rs.length ≤ 40
def spUnits (K : PySem.W.Frag) (C : Addr) : Sp := fun vs H Q _ => ∃ a s rs, vs = [.ref a, .int s] ∧ StoAt K C H a rs ∧ StoOk rs ∧ sizB s = true ∧ ∀ H', Ex H H' → Q (.int (unt rs s)) H'
def spStoIn (K : PySem.W.Frag) (C : Addr) : Sp := fun vs H Q _ => ∃ a s rs, vs = [.ref a, .int s] ∧ StoAt K C H a rs ∧ rs.length ≤ 40 ∧ ∀ H', Ex H H' → Q (.bl (sizB s && decide (s ∈ rs.map Prod.fst))) H'
/-- the same runs -/
def spStoEq (K : PySem.W.Frag) (C : Addr) : Sp := fun vs H Q _ => ∃ a b rs ss, vs = [.ref a, .ref b] ∧ StoAt K C H a rs ∧ StoAt K C H b ss ∧ rs.length ≤ 1000 ∧ ss.length ≤ 1000 ∧ ∀ H', Ex H H' → Q (.bl (decide (rs = ss))) H'
theorem sto_mk {P : Program} {w : World} {K : PySem.W.Frag} {mg : Str → Option Value} {base : Heap} {k : Nat} {x : Str} {C : Addr}
    (h : Mkc P w K mg base k x C fun vs H Q E => ∃ ws rest, vs = ws ++ rest ∧ ws.length = 1 ∧ rest.length ≤ sizeLine ∧ ∀ p, H p = Option.none → spStoB K C (ws ++ [V.ref p]) (upd H p (.tup rest)) Q E) : Mkc P w K mg base k x C (spStoI K C) := by
  obtain ⟨f, M, hm, F⟩ := h
  refine ⟨f, M, hm, F.imp ?_⟩
  rintro vs H Q E ⟨x, dx, xs, rs, H0, rfl, e0, x0, hx, hf, hr, q⟩
  refine ⟨[.ref x], xs, rfl, rfl, ?_, fun p np => ?_⟩
  · rw [hf.len]
    exact Nat.le_trans hr.ln (show 1000 ≤ sizeLine by decide)
  · exact ⟨x, dx, p, xs, rs, H0, rfl, e0.trans (Evl.Ex.new np), x0, (Evl.Ex.new np) _ _ hx, SqT.of upd_same, hf, hr, q⟩
section
variable {X : Cx} {k j : Nat} {C : Addr} {x : Str} {sp : Sp} {e : Expr} {te : TE} {p sp_ pos : Pos}
theorem pmkS (c : Mkc X.prog X.w X.K X.mg X.base k x C sp) (hr : Room j X.A) (he : PE X e te) (hk : k + 1 ≤ j := by decide) (hg : Gl X x := by rfl) (hdb : (x == ("__debug__" : Str)) = false := by decide)
    (hst : starEach [.Starred e sp_] X.env = [(true, eval e X.env)] := by rfl) : PE X (.Call (.Name x p) [.Starred e sp_] [] pos) (tMakeS X.K C sp E0 te) := by
  obtain ⟨f, M, hm, F⟩ := c
  exact pe_makeS M F (hr.mono hk) hg hm pass0 he hdb hst
end
/-- what isinstance says of a store -/
structure StoNK (K : PySem.W.Frag) (C : Addr) : Prop where
  tup : PySem.W.kitOne K (.ref C) (.type "tuple") = some false
  ne : PySem.W.findIn K (.ref C) "__ne__" = some (some (.builtin "object.__ne__"))
/-! ### runs as data -/
def prD (p : Int × Int) : PyData := .tuple [.int p.1, .int p.2]
def rnD (rs : List (Int × Int)) : PyData := .tuple (rs.map prD)
theorem lay_prs : ∀ rs : List (Int × Int), PyData.canLayAll0 (rs.map prD) = true ∧ PyData.depthAll (rs.map prD) ≤ 1
  | [] => ⟨rfl, Nat.zero_le _⟩
  | x :: r => by
    obtain ⟨a, b⟩ := lay_prs r
    refine ⟨by rw [List.map_cons]; simp only [PyData.canLayAll0, a]; rfl, ?_⟩
    rw [List.map_cons]
    simp only [PyData.depthAll]
    exact Nat.max_le.mpr ⟨(show PyData.depth (.tuple ([x.1, x.2].map PyData.int)) ≤ 1 by simp only [PyData.depth, (lay_ints [x.1, x.2]).2]; exact Nat.le_refl _), b⟩
theorem shaped_rns (rs : List (Int × Int)) : SeqAt.shaped (rnD rs) = true := by
  obtain ⟨a, b⟩ := lay_prs rs
  unfold SeqAt.shaped rnD
  simp only [PyData.canLay0, PyData.depth, a]
  exact decide_eq_true (by omega)
theorem eqv_prs : ∀ rs ss : List (Int × Int), PyData.eqvAll (rs.map prD) (ss.map prD) = decide (rs = ss)
  | [], [] => by simp [PyData.eqvAll]
  | [], _ :: _ => by simp [PyData.eqvAll]
  | _ :: _, [] => by simp [PyData.eqvAll]
  | m :: ms, n :: ns => by
    have e : PyData.eqv (prD m) (prD n) = decide (m = n) := by
      have z := eqv_tups [m.1, m.2] [n.1, n.2]
      unfold prD
      simp only [PyData.eqv]
      refine z.trans (decide_eq_decide.mpr ⟨fun h => ?_, fun h => by rw [h]⟩)
      have h1 := (List.cons.inj h).1
      have h2 := (List.cons.inj (List.cons.inj h).2).1
      exact Prod.ext h1 h2
    simp only [List.map_cons, PyData.eqvAll, e, eqv_prs ms ns]
    by_cases h : m = n
    · subst h; simp
    · rw [decide_eq_false h, decide_eq_false (show ¬ (m :: ms = n :: ns) from fun z => h (List.cons.inj z).1)]; rfl
theorem eqv_rns (rs ss : List (Int × Int)) : PyData.eqv (rnD rs) (rnD ss) = decide (rs = ss) := by
  unfold rnD
  simp only [PyData.eqv, eqv_prs]
theorem dpa_rns {K : PySem.W.Frag} {H : Hp} : ∀ {ts : List V} {rs : List (Int × Int)}, F2 (RP K H) ts rs → DpAll K H ts (rs.map prD)
  | _, _, .nil => .nil
  | _, _, .cons ⟨t, e, h⟩ r => by
    subst e
    exact .cons (.tup h (.cons (.int _) (.cons (.int _) .nil))) (dpa_rns r)
theorem dp_rns {K : PySem.W.Frag} {H : Hp} {t : Addr} {ts : List V} {rs : List (Int × Int)} (h : SqT K H t ts) (hf : F2 (RP K H) ts rs) : Dp K H (.ref t) (rnD rs) := .tup h (dpa_rns hf)
/-- i in l, l a list of ints -/
theorem ev_inLI {K : PySem.W.Frag} {σ : L2.St} {H : Hp} {ta tb : TE} {i : Int} {ns : List Int} (ha : Ev ta σ H (.int i)) (hb : EvL tb σ H (ns.map V.int)) : Ev (tOp (rIn K false) ta tb) σ H (.bl (decide (i ∈ ns))) := fun H1 e Q q => ha H1 e _ fun H2 e2 => hb H2 (e.trans e2) _ fun t H3 _ e3 ht => ⟨t, ns.map V.int, rfl, .inl (SqL.of ht), rfl, by
  rw [List.all_map]
  exact List.all_eq_true.mpr fun _ _ => rfl, by
  have z := q H3 (e2.trans e3)
  have e : inV (.int i) (ns.map V.int) = decide (i ∈ ns) := by
    unfold inV
    rw [List.any_map]
    refine bool_iff ?_
    rw [List.any_eq_true, decide_eq_true_eq]
    constructor
    · rintro ⟨x, hx, e⟩
      have e : (x == i) = true := e
      rw [← beq_iff_eq.mp e]
      exact hx
    · exact fun h => ⟨i, h, show (i == i) = true from beq_self_eq_true i⟩
  show Q (.bl (if false = true then _ else inV (.int i) (ns.map V.int))) H3
  rw [if_neg Bool.false_ne_true, e]
  exact z⟩
end Ck

/-! profiles: zips of a tuple and a list; lists of pairs -/
namespace Ck
open PySem PySem.Spec PyProof.Rows L2 StX Evl
section
variable {K : PySem.W.Frag} {σ : L2.St} {H H' : Hp} {ta tb te tl : TE} {tt : TT} {p a b : Addr} {xs ys : List V} {ms ns : List Int} {j1 j2 : Nat} {ws : List Nat} {ps : List (Int × Int)}
theorem walk_zipM {n : Nat} (hn : n = min xs.length ys.length) : Walk (ItM K a b) n (fun H => SqT K H a xs ∧ SqL K H b ys) (YPair (fun i => xs[i]?) (fun i => ys[i]?)) where
  goes := by
    intro i H hi q
    have h1 : i < xs.length := by omega
    have h2 : i < ys.length := by omega
    exact ⟨xs, ys, xs[i], ys[i], q, List.getElem?_eq_getElem h1, List.getElem?_eq_getElem h2⟩
  stops := by
    intro H q
    exact ⟨xs, ys, q, by omega⟩
  yields := by
    rintro i H v H' _ q ⟨T, x, y, r1, r2, r3, r4, r5⟩
    exact ⟨T, x, y, r1, r2, r3, r4 xs q.1, r5 ys q.2⟩
theorem int_at {i : Nat} {x : V} (hx : (ms.map V.int)[i]? = some x) : x = .int (ms.getD i 0) := by
  rw [List.getElem?_map] at hx
  obtain ⟨m, h1, h2⟩ := Option.map_eq_some_iff.mp hx
  rw [List.getD_eq_getElem?_getD, h1]
  exact h2.symm
/-- a list comes, new or not -/
def Eli (te : TE) (σ : L2.St) (H : Hp) (xs : List V) : Prop := ∀ H1, Ex H H1 → ∀ Q : VK, (∀ p H2, Ex H1 H2 → H2 p = some (.lst xs) → Q (.ref p) H2) → te σ H1 Q
theorem eli_of (h : EvL te σ H xs) : Eli te σ H xs := fun H1 e Q q => h H1 e Q fun p H2 _ e2 hp => q p H2 e2 hp
theorem eli_v {l : Addr} (h : Ev te σ H (.ref l)) (hl : H l = some (.lst xs)) : Eli te σ H xs := fun H1 e Q q => h H1 e Q fun H2 e2 => q l H2 e2 ((e.trans e2) _ _ hl)
/-- [e for a, b in zip(t, l)], ints -/
theorem el_zipM (f : Int → Int → V) (h1 : Etu K ta σ H (ms.map V.int)) (h2 : Eli tb σ H (ns.map V.int)) (hl : ms.length ≤ 40000)
    (hw : ∀ x y, wipe (((wipe σ ws).set j1 (some x)).set j2 (some y)) ws = wipe σ ws)
    (he : ∀ (i : Nat) H1, Ex H H1 → i < ms.length → i < ns.length → Ev te (((wipe σ ws).set j1 (some (.int (ms.getD i 0)))).set j2 (some (.int (ns.getD i 0)))) H1 (f (ms.getD i 0) (ns.getD i 0))) :
    EvL (tLc (iZipM K (tCons ta (tCons tb tNil))) (gTup K 2 (gCons (gName j1) (gCons (gName j2) gNil))) tYes te ws) σ H (List.zipWith f ms ns) := fun H0 e Q q =>
  h1 H0 e _ fun p H2 e2 hp => h2 H2 (e.trans e2) _ fun c H3 e3 hc => ⟨p, c, ms.map V.int, ns.map V.int, rfl, ex_t e3 hp, SqL.of hc, fun Dl hD => by
    have hp3 := ex_t e3 hp
    have e0 := (e.trans e2).trans e3
    refine lc_it (walk_zipM (n := min ms.length ns.length) (by rw [List.length_map, List.length_map])) (Cw H3 (fun _ => true) (fun i => f (ms.getD i 0) (ns.getD i 0)) Dl) ⟨hD, Ex.new hD, upd_same⟩ (fun i H' _ p => ⟨ex_t p.2.1 hp3, SqL.of (p.2.1 _ _ hc)⟩) ?_ ?_
    · rintro i _ H' _ hi pw ⟨T, x, y, rfl, hT, rfl, hx, hy⟩
      have a : i < ms.length := by omega
      have b : i < ns.length := by omega
      obtain rfl := int_at hx
      obtain rfl := int_at hy
      have pw' : Cw H3 (fun _ => true) (fun i => f (ms.getD i 0) (ns.getD i 0)) Dl i (upd H' T (.tup [.int (ms.getD i 0), .int (ns.getD i 0)])) := ⟨pw.1, pw.2.1.trans (Ex.new hT), by
        rw [upd_ne (ne_of_none pw.2.2 hT)]
        exact pw.2.2⟩
      refine ⟨T, _, rfl, SqT.of upd_same, rfl, _, _, rfl, _, _, rfl, rfl, hw _ _, ?_⟩
      exact cw_turn pw' (by omega) (fun H2 _ Q q => q H2 (Ex.refl H2)) (fun _ => he i H3 e0 a b)
    · intro H' pw
      have g := pw.2.2
      rw [given_all, zip_range] at g
      exact q Dl H' (fresh_back (e2.trans e3) pw.1) ((e2.trans e3).trans pw.2.1) g⟩
theorem zip_take {i : Nat} (h1 : i < ms.length) (h2 : i < ns.length) : (ms.zip ns).take (i + 1) = (ms.zip ns).take i ++ [(ms.getD i 0, ns.getD i 0)] := by
  have h3 : i < (ms.zip ns).length := by rw [List.length_zip]; omega
  rw [List.take_add_one, List.getElem?_eq_getElem h3, List.getElem_zip, List.getD_eq_getElem?_getD, List.getD_eq_getElem?_getD, List.getElem?_eq_getElem h1, List.getElem?_eq_getElem h2]
  rfl
/-- [(a, b) for a, b in zip(t, l) if c] -/
theorem lc_zipP (c : Int × Int → Bool) (h1 : Etu K ta σ H (ms.map V.int)) (h2 : Eli tb σ H (ns.map V.int)) (hl : ms.length ≤ 40000)
    (hw : ∀ x y, wipe (((wipe σ ws).set j1 (some x)).set j2 (some y)) ws = wipe σ ws)
    (ht : ∀ m n H1, Ex H H1 → EvT tt (((wipe σ ws).set j1 (some (.int m))).set j2 (some (.int n))) H1 (c (m, n)))
    (he : ∀ m n H1, Ex H H1 → EvR (RP K) te (((wipe σ ws).set j1 (some (.int m))).set j2 (some (.int n))) H1 (m, n)) :
    EvP K (tLc (iZipM K (tCons ta (tCons tb tNil))) (gTup K 2 (gCons (gName j1) (gCons (gName j2) gNil))) tt te ws) σ H ((ms.zip ns).filter c) := fun H0 e Q q =>
  h1 H0 e _ fun p H2 e2 hp => h2 H2 (e.trans e2) _ fun l H3 e3 hc => ⟨p, l, ms.map V.int, ns.map V.int, rfl, ex_t e3 hp, SqL.of hc, fun D hD => by
    have hp3 := ex_t e3 hp
    have e0 := (e.trans e2).trans e3
    refine lc_it (walk_zipM (n := min ms.length ns.length) (by rw [List.length_map, List.length_map])) (fun i H' => H3 D = none ∧ Ex H3 H' ∧ ∃ vs, H' D = some (.lst vs) ∧ vs.length ≤ i ∧ F2 (RP K H') vs (((ms.zip ns).take i).filter c)) ⟨hD, Ex.new hD, [], upd_same, Nat.le_refl _, .nil⟩ (fun i H' _ p => ⟨ex_t p.2.1 hp3, SqL.of (p.2.1 _ _ hc)⟩) ?_ ?_
    · rintro i _ H' _ hi ⟨p1, p2, vs, p3, p4, p5⟩ ⟨T, x, y, rfl, hT, rfl, hx, hy⟩
      have a : i < ms.length := by omega
      have b : i < ns.length := by omega
      obtain rfl := int_at hx
      obtain rfl := int_at hy
      have eT : Ex H' (upd H' T (.tup [.int (ms.getD i 0), .int (ns.getD i 0)])) := Ex.new hT
      refine ⟨T, _, rfl, SqT.of upd_same, rfl, _, _, rfl, _, _, rfl, rfl, hw _ _, ?_⟩
      generalize upd H' T (.tup [.int (ms.getD i 0), .int (ns.getD i 0)]) = H5 at eT ⊢
      have e05 := e0.trans (p2.trans eT)
      refine ht _ _ H5 e05 H5 (Ex.refl H5) _ fun H4 e4 => ?_
      cases hcc : c (ms.getD i 0, ns.getD i 0) with
      | true =>
        refine iteT (he _ _ H4 (e05.trans e4) H4 (Ex.refl H4) _ fun v H6 e6 hv => ⟨vs, ((eT.trans e4).trans e6) _ _ p3, sz_lt (by omega), p1, Ex.mut (p2.trans ((eT.trans e4).trans e6)) p1, vs ++ [v], upd_same, by rw [List.length_append]; exact Nat.succ_le_succ p4, ?_⟩)
        have hD5 : H6 D = some (.lst vs) := ((eT.trans e4).trans e6) _ _ p3
        rw [zip_take a b, List.filter_append, show [(ms.getD i 0, ns.getD i 0)].filter c = [(ms.getD i 0, ns.getD i 0)] by rw [List.filter_cons, hcc]; rfl]
        exact ((p5.imp fun x b r => RP.upd hD5 (r.ex ((eT.trans e4).trans e6))).app (.cons (RP.upd hD5 hv) .nil))
      | false =>
        refine iteF ⟨p1, p2.trans (eT.trans e4), vs, (eT.trans e4) _ _ p3, Nat.le_succ_of_le p4, ?_⟩
        rw [zip_take a b, List.filter_append, show [(ms.getD i 0, ns.getD i 0)].filter c = [] by rw [List.filter_cons, hcc]; rfl, List.append_nil]
        exact p5.imp fun x b r => r.ex (eT.trans e4)
    · rintro H5 ⟨p1, p2, vs, p3, _, p5⟩
      rw [List.take_of_length_le (by rw [List.length_zip]; exact Nat.le_refl _)] at p5
      exact q D vs H5 (fresh_back (e2.trans e3) p1) ((e2.trans e3).trans p2) p3 p5⟩
/-- [e for a, b in l], l a new list of pairs -/
theorem el_lcPL (f : Int × Int → V) (h : EvP K tl σ H ps) (hz : ps.length ≤ 40000)
    (hw : ∀ x y, wipe (((wipe σ ws).set j1 (some x)).set j2 (some y)) ws = wipe σ ws) (he : ∀ p ∈ ps, ∀ H1, Ex H H1 → Ev te (((wipe σ ws).set j1 (some (.int p.1))).set j2 (some (.int p.2))) H1 (f p)) :
    EvL (tLc (iList K tl) (gTup K 2 (gCons (gName j1) (gCons (gName j2) gNil))) tYes te ws) σ H (ps.map f) := fun H0 e0 Q q => h H0 e0 _ fun l ts H1 nl e1 hl hf => ⟨l, rfl, ⟨ts, SqL.of hl⟩, fun D hD => by
  have e01 := e0.trans e1
  refine lc_it walk_list (fun i H' => H1 D = none ∧ Ex H1 H' ∧ H' D = some (.lst ((ps.take i).map f))) ⟨hD, Ex.new hD, upd_same⟩ (fun i H' _ p => SqL.of (p.2.1 _ _ hl)) ?_ ?_
  · rintro i x H' H2 hi ⟨p1, p2, p3⟩ ⟨rfl, hxi⟩
    obtain ⟨p, hp, t, rfl, hpt⟩ := hf.at hxi
    have m := List.mem_of_getElem? hp
    have st : ps.take (i + 1) = ps.take i ++ [p] := by rw [List.take_add_one, hp]; rfl
    have i12 : i < ps.length := (List.getElem?_eq_some_iff.mp hp).1
    refine ⟨t, _, rfl, ex_t p2 hpt, rfl, _, _, rfl, _, _, rfl, rfl, hw _ _, yes_go (iteT (he p m H2 (e01.trans p2) H2 (Ex.refl _) _ fun H5 e5 => ⟨_, e5 _ _ p3, sz_lt (by rw [List.length_map, List.length_take]; omega), p1, Ex.mut (p2.trans e5) p1, by rw [upd_same, st, List.map_append]; rfl⟩))⟩
  · rintro H' ⟨p1, p2, p3⟩
    rw [hf.len, List.take_of_length_le (Nat.le_refl _)] at p3
    exact q D H' (fresh_back e1 p1) (e1.trans p2) p3⟩
end
/-- rooms of each size that have these units -/
def pcs (ns us : List Int) : List Int := List.zipWith (fun low high => low - high) us (List.zipWith (fun h q => h * q) (us.drop 1) (quots ns) ++ [0])
def isPrB (ns : List Int) (xs : List V) : Bool := decide (xs.length = ns.length) && (xs.all cntV && (pcs ns (intsOf xs)).all fun m => decide (0 ≤ m))
def NotTup (K : PySem.W.Frag) (H : Hp) (v : V) : Prop := ∃ tt, TyX K H v tt ∧ PySem.W.kitOne K tt (.type "tuple") = some false
theorem NotTup.mono {K : PySem.W.Frag} {H H' : Hp} {v : V} (e : Ex H H') (h : NotTup K H v) : NotTup K H' v := h.imp fun _ q => ⟨tyM e q.1, q.2⟩
def spProf (K : PySem.W.Frag) (C : Addr) : Sp := fun vs H Q _ => ∃ (p a : Addr) (ns : List Int) (rs : List (Int × Int)), vs = [.ref p, .ref a] ∧ SqT K H p (ns.map V.int) ∧ chainB (ns.map V.int) = true ∧ StoAt K C H a rs ∧ StoOk rs ∧ ∀ t H', Ex H H' → SqT K H' t ((ns.map (unt rs)).map V.int) → Q (.ref t) H'
def spPcs (K : PySem.W.Frag) : Sp := fun vs H Q _ => ∃ (p u : Addr) (ns us : List Int), vs = [.ref p, .ref u] ∧ SqT K H p (ns.map V.int) ∧ chainB (ns.map V.int) = true ∧ SqT K H u (us.map V.int) ∧ us.length = ns.length ∧ (∀ x ∈ us, x.natAbs < 10 ^ 200) ∧ ∀ l H', H l = none → Ex H H' → H' l = some (.lst ((pcs ns us).map V.int)) → Q (.ref l) H'
/-- what is_profile may be asked -/
def PfV (K : PySem.W.Frag) (ns : List Int) (H : Hp) (v : V) (b : Bool) : Prop := (∃ u xs, v = .ref u ∧ SqT K H u xs ∧ xs.length ≤ 1000 ∧ Elts K H xs ∧ b = isPrB ns xs) ∨ (NotTup K H v ∧ b = false)
theorem PfV.mono {K : PySem.W.Frag} {ns : List Int} {H H' : Hp} {v : V} {b : Bool} (e : Ex H H') (h : PfV K ns H v b) : PfV K ns H' v b := by
  rcases h with ⟨u, xs, rfl, h1, h2, h3, h4⟩ | ⟨h1, h2⟩
  · exact .inl ⟨u, xs, rfl, ex_t e h1, h2, h3.mono e, h4⟩
  · exact .inr ⟨h1.mono e, h2⟩
def spIsProf (K : PySem.W.Frag) : Sp := fun vs H Q _ => ∃ (p : Addr) (ns : List Int) (v : V) (b : Bool), vs = [.ref p, v] ∧ SqT K H p (ns.map V.int) ∧ chainB (ns.map V.int) = true ∧ PfV K ns H v b ∧ ∀ H', Ex H H' → Q (.bl b) H'
/-- the runs of the plain store with a profile -/
def prn (ns us : List Int) : List (Int × Int) := (ns.zip (pcs ns us)).filter fun p => decide (0 < p.2)
def spPlain (K : PySem.W.Frag) (C : Addr) : Sp := fun vs H Q _ => ∃ (p u : Addr) (ns us : List Int), vs = [.ref p, .ref u] ∧ SqT K H p (ns.map V.int) ∧ chainB (ns.map V.int) = true ∧ SqT K H u (us.map V.int) ∧ us.length = ns.length ∧ (∀ x ∈ us, cntB x = true) ∧ (∀ x ∈ pcs ns us, 0 ≤ x) ∧ ∀ a H', Ex H H' → StoAt K C H' a (prn ns us) → Q (.ref a) H'
def spPairs (K : PySem.W.Frag) (C : Addr) : Sp := fun vs H Q _ => ∃ (p a b : Addr) (ns : List Int) (rs ss : List (Int × Int)), vs = [.ref p, .ref a, .ref b] ∧ SqT K H p (ns.map V.int) ∧ chainB (ns.map V.int) = true ∧ StoAt K C H a rs ∧ StoOk rs ∧ StoAt K C H b ss ∧ StoOk ss ∧ ∀ l vs H', H l = none → Ex H H' → H' l = some (.lst vs) → F2 (RP K H') vs (ns.map fun s => (unt rs s, unt ss s)) → Q (.ref l) H'
def spAlike (K : PySem.W.Frag) (C : Addr) : Sp := fun vs H Q _ => ∃ (p a b : Addr) (ns : List Int) (rs ss : List (Int × Int)), vs = [.ref p, .ref a, .ref b] ∧ SqT K H p (ns.map V.int) ∧ chainB (ns.map V.int) = true ∧ StoAt K C H a rs ∧ StoOk rs ∧ StoAt K C H b ss ∧ StoOk ss ∧ ∀ H', Ex H H' → Q (.bl (ns.all fun s => decide (unt rs s = unt ss s))) H'
section
variable {K : PySem.W.Frag} {C : Addr} {σ : L2.St} {H : Hp} {tl te ti : TE} {a : Addr} {s : Int} {ns : List Int} {rs : List (Int × Int)} {j : Nat} {ws : List Nat}
/-- [e for n in t], t a tuple of ints -/
theorem el_lcY (f : Int → V) (h : Etu K tl σ H (ns.map V.int)) (hz : ns.length ≤ 40000) (hw : ∀ x, wipe ((wipe σ ws).set j (some x)) ws = wipe σ ws)
    (he : ∀ n ∈ ns, ∀ H1, Ex H H1 → Ev te ((wipe σ ws).set j (some (.int n))) H1 (f n)) : EvL (tLc (iTup K tl) (gName j) tYes te ws) σ H (ns.map f) := by
  have z := el_lcN (K := K) (te := te) (tt := tYes) (fun _ => true) f h hz hw (fun n _ H1 _ H2 _ Q q => q H2 (Ex.refl H2)) (fun n hn _ H1 e => he n hn H1 e)
  rw [List.filter_eq_self.mpr fun _ _ => rfl] at z
  exact z
theorem sto_units (t : Addr) : (stoF t).lookup ("units" : Str) = none := by
  unfold stoF
  rw [lookup_putF, if_neg (by decide +kernel)]
  rfl
theorem ev_units (h : Ev te σ H (.ref a)) (hb : Ev ti σ H (.int s)) (hs : StoAt K C H a rs) (ho : StoOk rs) (hz : sizB s = true) : Ev (tMeth C "units" (spUnits K C) [] E0 te (tCons ti tNil)) σ H (.int (unt rs s)) := fun H1 e Q q => h H1 e _ fun H2 e2 => by
  obtain ⟨dx, t, ts, h1, _⟩ := (hs.up (e.trans e2)).ex
  exact ⟨a, dx, _, rfl, h1, sto_units t, hb H2 (e.trans e2) _ fun H3 e3 => ⟨a, s, rs, rfl, hs.up ((e.trans e2).trans e3), ho, hz, fun H' e4 => q H' ((e2.trans e3).trans e4)⟩⟩
end
/-! ### the plain store with a profile -/
theorem mem_zipWith {α β γ : Type} {f : α → β → γ} : ∀ {as : List α} {bs : List β} {z : γ}, z ∈ List.zipWith f as bs → ∃ a ∈ as, ∃ b ∈ bs, z = f a b
  | [], _, _, h => by cases h
  | _ :: _, [], _, h => by cases h
  | a :: as, b :: bs, z, h => by
    rw [List.zipWith_cons_cons] at h
    rcases List.mem_cons.mp h with rfl | h
    · exact ⟨a, List.mem_cons_self, b, List.mem_cons_self, rfl⟩
    · obtain ⟨x, h1, y, h2, h3⟩ := mem_zipWith h
      exact ⟨x, List.mem_cons_of_mem _ h1, y, List.mem_cons_of_mem _ h2, h3⟩
theorem pcs_le {ns us : List Int} (hq : ∀ q ∈ quots ns, 0 < q) (h0 : ∀ x ∈ us, 0 ≤ x) : ∀ x ∈ pcs ns us, ∃ y ∈ us, x ≤ y := fun x hx => by
  obtain ⟨a, ha, b, hb, rfl⟩ := mem_zipWith hx
  refine ⟨a, ha, ?_⟩
  have : 0 ≤ b := by
    rcases List.mem_append.mp hb with hb | hb
    · obtain ⟨h, hh, q, hq2, rfl⟩ := mem_zipWith hb
      exact Int.mul_nonneg (h0 h (List.mem_of_mem_drop hh)) (Int.le_of_lt (hq q hq2))
    · rw [List.mem_singleton.mp hb]
      exact Int.le_refl 0
  omega
theorem zip_fst_pw {ns cs : List Int} (h : ns.Pairwise (· < ·)) : (ns.zip cs).Pairwise fun a b => a.1 < b.1 := by
  induction ns generalizing cs with
  | nil => exact List.Pairwise.nil
  | cons n r ih =>
    cases cs with
    | nil => exact List.Pairwise.nil
    | cons c cs =>
      rw [List.pairwise_cons] at h
      refine List.Pairwise.cons (fun b hb => h.1 b.1 ?_) (ih h.2)
      exact (List.of_mem_zip hb).1
theorem prn_pw {ns us : List Int} (h : ns.Pairwise (· < ·)) : (prn ns us).Pairwise fun a b => a.1 < b.1 := (zip_fst_pw h).filter _
theorem prn_jr {ns us : List Int} (h : ns.Pairwise (· < ·)) : jr (prn ns us) = prn ns us := jr_self fun i a b ha hb => by
  obtain ⟨h1, h2⟩ := List.getElem?_eq_some_iff.mp ha
  obtain ⟨g1, g2⟩ := List.getElem?_eq_some_iff.mp hb
  have z := List.pairwise_iff_getElem.mp (prn_pw (us := us) h) i (i + 1) h1 g1 (Nat.lt_succ_self i)
  rw [h2, g2] at z
  omega
theorem prn_len {ns us : List Int} : (prn ns us).length ≤ ns.length := by
  unfold prn
  refine Nat.le_trans (List.length_filter_le _ _) ?_
  rw [List.length_zip]
  omega
theorem prn_ok {ns us : List Int} (hs : ∀ n ∈ ns, 0 < n ∧ n.natAbs < 10 ^ 200) (hq : ∀ q ∈ quots ns, 0 < q) (hb : ∀ x ∈ us, cntB x = true) : ∀ r ∈ prn ns us, sizB r.1 = true ∧ sizB r.2 = true ∧ r.1 ∈ ns := fun r hr => by
  obtain ⟨m, hp⟩ := List.mem_filter.mp hr
  obtain ⟨m1, m2⟩ := List.of_mem_zip (a := r.1) (b := r.2) m
  have hp := of_decide_eq_true hp
  obtain ⟨y, hy, le⟩ := pcs_le hq (fun x hx => (cnt_nn (hb x hx)).1) r.2 m2
  obtain ⟨y0, y1⟩ := cnt_nn (hb y hy)
  refine ⟨siz_of (hs _ m1).1 (hs _ m1).2, siz_of hp ?_, m1⟩
  omega
theorem prn_rns {ns us : List Int} (hs : ∀ n ∈ ns, 0 < n ∧ n.natAbs < 10 ^ 200) (hq : ∀ q ∈ quots ns, 0 < q) (hb : ∀ x ∈ us, cntB x = true) (hl : ns.length ≤ 12) : Rns (prn ns us) := by
  have l := prn_len (ns := ns) (us := us)
  refine ⟨fun r hr => ⟨(prn_ok hs hq hb r hr).1, (prn_ok hs hq hb r hr).2.1⟩, by omega, ?_⟩
  have := jr_len (prn ns us)
  omega
/-- Store(*l), l a list of runs -/
theorem mk_stoL {K : PySem.W.Frag} {C l : Addr} {σ : L2.St} {H : Hp} {te : TE} {vs : List V} {rs : List (Int × Int)} {Q : VK} (h : Ev te σ H (.ref l)) (hl : H l = some (.lst vs)) (hf : F2 (RP K H) vs rs) (hr : Rns rs) (q : ∀ a H', Ex H H' → StoAt K C H' a (jr rs) → Q (.ref a) H') : tMakeS K C (spStoI K C) E0 te σ H Q :=
  h H (Ex.refl H) _ fun H1 e1 => ⟨l, vs, rfl, .inr (SqL.of (e1 _ _ hl)), fun x dx nx nd ne => by
    have n2 : (upd H1 dx (.own x)) x = none := by rw [upd_ne ne.symm]; exact nx
    exact ⟨x, dx, vs, rs, H1, rfl, (Ex.new nd).trans (Ex.new n2), nx, upd_same, hf.imp fun y b r => r.ex e1, hr, fun H' e' hst => ⟨rfl, q x H' (e1.trans e') hst⟩⟩⟩
theorem f2_of_at {α : Type} {R : V → α → Prop} : ∀ {vs : List V} {as : List α}, vs.length = as.length → (∀ (i : Nat) v a, vs[i]? = some v → as[i]? = some a → R v a) → F2 R vs as
  | [], [], _, _ => .nil
  | [], _ :: _, h, _ => nomatch h
  | _ :: _, [], h, _ => nomatch h
  | v :: vs, a :: as, h, k => .cons (k 0 v a rfl rfl) (f2_of_at (Nat.succ.inj h) fun i x y hx hy => k (i + 1) x y hx hy)
end Ck

/-! list(zip(t, u)), t and u tuples: a new list of new pairs -/
namespace CZ
open PySem
open PySem.Sem (wp)
open RZ
section
variable {prog : Program} {w : World} {A : Around} {E : Value → Shared → Prop} {s : Shared} {z TI TO T i1 i2 l1 l2 : Addr} {f : Bool} {oT : Obj} {k1 k2 : Nat} {xs ys : Array Value} {x y : Value}
theorem no_len : typeLookup (.type "zip") "__len__" = pure none := by rw [typeLookup_type, builtinLookup_eq_fast]; kernel_rfl
theorem no_hint : typeLookup (.type "zip") "__length_hint__" = pure none := by rw [typeLookup_type, builtinLookup_eq_fast]; kernel_rfl
theorem held_go {Q : Value → Shared → Prop} (D : ZipApart z TI TO i1 i2 l1 l2) (hz : IsZipHeld s.heap z TI TO T f) (hT : s.heap.get? T = some oT) (hTI : IsPair s.heap TI (.ref i1) (.ref i2))
    (h1 : s.heap.IsTupleIter i1 l1 k1) (h2 : s.heap.IsTupleIter i2 l2 k2) (hl1 : s.heap.IsTuple l1 xs) (hl2 : s.heap.IsTuple l2 ys) (hx : xs[k1]? = some x) (hy : ys[k2]? = some y)
    (hQ : ∀ h', IsZipHeld h' z TI TO T true → h'.IsTupleIter i1 l1 (k1 + 1) → h'.IsTupleIter i2 l2 (k2 + 1) → IsPair h' s.heap.objs.size x y → h'.objs.size = s.heap.objs.size + 1 →
      (∀ c o, c ≠ z → c ≠ i1 → c ≠ i2 → s.heap.get? c = some o → h'.get? c = some o) → Q (.ref s.heap.objs.size) { s with heap := h' }) :
    wpAny (model prog w) A (Builtin.«zip.__next__» ⟨[.ref z], []⟩) (fun fin s' => ∃ v, fin = .done (.ret v) ∧ Q v s') E s := by
  show wpAny _ _ (field (.ref z) 2 >>= _) _ _ _
  refine wpAny_bind (wpAny_field hz rfl (x := .bool false) rfl ?_)
  show wpAny _ _ (field (.ref z) 3 >>= _) _ _ _
  refine wpAny_bind (wpAny_field hz rfl (x := .ref TI) rfl (wpAny_bind (wpAny_seqItems hTI rfl ?_)))
  show wpAny _ _ (Builtin.SmallTypes.ownedTupleIsFree (.ref z) >>= _) _ _ _
  refine wpAny_bind (wpAny_tupleHeld_zip hz hT fun ha za ka => ?_)
  simp only [Bool.false_eq_true, if_false]
  refine wpAny_bind ?_
  rw [← Array.forIn_toList]
  simp only [List.forIn_cons, List.forIn_nil]
  refine wpAny_bind (wpAny_bind (wpAny_holding ?_))
  show wpAny _ _ (Builtin.SmallTypes.nextOf (.ref i1) >>= _) _ _ _
  refine wpAny_bind (nextOf_tuple_item (s := { s with heap := ha }) (h1.extBut ka.extBut D.i1z) (hl1.extBut ka.extBut D.l1z) hx fun hb j1 kb => wpAny_pure (wpAny_pure ?_))
  refine wpAny_bind (wpAny_bind (wpAny_holding ?_))
  show wpAny _ _ (Builtin.SmallTypes.nextOf (.ref i2) >>= _) _ _ _
  refine wpAny_bind (nextOf_tuple_item (s := { s with heap := hb }) ((h2.extBut ka.extBut D.i2z).extBut kb.extBut D.i12.symm) ((hl2.extBut ka.extBut D.l2z).extBut kb.extBut D.l2i1) hy fun hc j2 kc => wpAny_pure (wpAny_pure (wpAny_pure ?_)))
  show wpAny _ _ (newTuple [x, y] >>= _) _ _ _
  refine wpAny_bind (wpAny_newTuple ?_)
  have sz : hc.objs.size = s.heap.objs.size := by rw [kc.1, kb.1, ka.1]
  have zc : IsZipHeld hc z TI TO T true := kc.extBut _ _ D.i2z.symm (kb.extBut _ _ D.i1z.symm za)
  have all : ∀ c o, c ≠ z → c ≠ i1 → c ≠ i2 → s.heap.get? c = some o → hc.get? c = some o := fun c o c1 c2 c3 e => kc.extBut _ _ c3 (kb.extBut _ _ c2 (ka.extBut _ _ c1 e))
  have i1c : hc.IsTupleIter i1 l1 (k1 + 1) := j1.extBut kc.extBut D.i12
  refine wpAny_pure ⟨_, rfl, ?_⟩
  show Q (.ref hc.objs.size) _
  have pn : IsPair (hc.push { cls := .type "tuple", data := .seq #[x, y] }) hc.objs.size x y := Heap.get?_push_size _ rfl
  have sn : (hc.push { cls := .type "tuple", data := .seq #[x, y] }).objs.size = hc.objs.size + 1 := Heap.size_push ..
  rw [sz] at pn sn ⊢
  exact hQ _ (Heap.get?_push_of_some _ zc) (i1c.at fun o e => Heap.get?_push_of_some _ e) (j2.at fun o e => Heap.get?_push_of_some _ e) pn sn fun c o c1 c2 c3 e => Heap.get?_push_of_some _ (all c o c1 c2 c3 e)
theorem held_end {Q : Fin → Shared → Prop} (hh : A.handled = none) (D : ZipApart z TI TO i1 i2 l1 l2) (hz : IsZipHeld s.heap z TI TO T f) (hT : s.heap.get? T = some oT) (hTI : IsPair s.heap TI (.ref i1) (.ref i2))
    (h1 : s.heap.IsTupleIter i1 l1 k1) (h2 : s.heap.IsTupleIter i2 l2 k2) (hl1 : s.heap.IsTuple l1 xs) (hl2 : s.heap.IsTuple l2 ys) (hend : xs[k1]? = none ∨ ys[k2]? = none)
    (hE : ∀ h' e, (∀ c o, c ≠ z → c ≠ i1 → c ≠ i2 → s.heap.get? c = some o → h'.get? c = some o) → (∃ o, h'.get? e = some o ∧ o.cls = .type "StopIteration") → E (.ref e) { s with heap := h' }) :
    wpAny (model prog w) A (Builtin.«zip.__next__» ⟨[.ref z], []⟩) Q E s := by
  show wpAny _ _ (field (.ref z) 2 >>= _) _ _ _
  refine wpAny_bind (wpAny_field hz rfl (x := .bool false) rfl ?_)
  show wpAny _ _ (field (.ref z) 3 >>= _) _ _ _
  refine wpAny_bind (wpAny_field hz rfl (x := .ref TI) rfl (wpAny_bind (wpAny_seqItems hTI rfl ?_)))
  show wpAny _ _ (Builtin.SmallTypes.ownedTupleIsFree (.ref z) >>= _) _ _ _
  refine wpAny_bind (wpAny_tupleHeld_zip hz hT fun ha za ka => ?_)
  simp only [Bool.false_eq_true, if_false]
  refine wpAny_bind ?_
  rw [← Array.forIn_toList]
  simp only [List.forIn_cons, List.forIn_nil]
  refine wpAny_bind (wpAny_bind (wpAny_holding ?_))
  show wpAny _ _ (Builtin.SmallTypes.nextOf (.ref i1) >>= _) _ _ _
  cases hx : xs[k1]? with
  | none => exact wpAny_bind (nextOf_tuple_end (s := { s with heap := ha }) hh (h1.extBut ka.extBut D.i1z) (hl1.extBut ka.extBut D.l1z) hx fun hb e kb he => hE hb e (fun c o c1 c2 _ q => kb _ _ c2 (ka.extBut _ _ c1 q)) he)
  | some x =>
    have hy : ys[k2]? = none := by rcases hend with h | h; rw [hx] at h; cases h; exact h
    refine wpAny_bind (nextOf_tuple_item (s := { s with heap := ha }) (h1.extBut ka.extBut D.i1z) (hl1.extBut ka.extBut D.l1z) hx fun hb j1 kb => wpAny_pure (wpAny_pure ?_))
    refine wpAny_bind (wpAny_bind (wpAny_holding ?_))
    show wpAny _ _ (Builtin.SmallTypes.nextOf (.ref i2) >>= _) _ _ _
    exact wpAny_bind (nextOf_tuple_end (s := { s with heap := hb }) hh ((h2.extBut ka.extBut D.i2z).extBut kb.extBut D.i12.symm) ((hl2.extBut ka.extBut D.l2z).extBut kb.extBut D.l2i1) hy fun hc e kc he => hE hc e (fun c o c1 c2 c3 q => kc _ _ c3 (kb.extBut _ _ c2 (ka.extBut _ _ c1 q))) he)
/-- zip(t, u) ahead of turn i, what it gave out may be held -/
structure Zs (h : Heap) (z TI TO i1 i2 l1 l2 S : Addr) (xs ys : Array Value) (i : Nat) : Prop where
  ti : IsPair h TI (.ref i1) (.ref i2)
  h1 : h.IsTupleIter i1 l1 i
  h2 : h.IsTupleIter i2 l2 i
  t1 : h.IsTuple l1 xs
  t2 : h.IsTuple l2 ys
  zz : (IsZip h z TI TO .none ∧ ∃ a b, IsPair h TO a b) ∨ ∃ T f oT, IsZipHeld h z TI TO T f ∧ h.get? T = some oT ∧ T ≠ z ∧ T ≠ i1 ∧ T ≠ i2 ∧ T ≠ S
structure Off (z TI TO i1 i2 l1 l2 S : Addr) : Prop where
  a : z ≠ S
  b : TI ≠ S
  c : TO ≠ S
  d : i1 ≠ S
  e : i2 ≠ S
  f : l1 ≠ S
  g : l2 ≠ S
theorem Zs.keep {h h' : Heap} {S : Addr} {i : Nat} (q : Zs h z TI TO i1 i2 l1 l2 S xs ys i) (O : Off z TI TO i1 i2 l1 l2 S) (k : ∀ b o, b ≠ S → h.get? b = some o → h'.get? b = some o) : Zs h' z TI TO i1 i2 l1 l2 S xs ys i where
  ti := k _ _ O.b q.ti
  h1 := q.h1.at fun o e => k _ o O.d e
  h2 := q.h2.at fun o e => k _ o O.e e
  t1 := q.t1.at fun o e => k _ o O.f e
  t2 := q.t2.at fun o e => k _ o O.g e
  zz := by
    rcases q.zz with ⟨a, x, y, b⟩ | ⟨T, f, oT, a, b, c, d, e, g⟩
    · exact .inl ⟨k _ _ O.a a, x, y, k _ _ O.c b⟩
    · exact .inr ⟨T, f, oT, k _ _ O.a a, k _ _ g b, c, d, e, g⟩
theorem zs_item {S : Addr} {i : Nat} {Q : Option Value → Shared → Prop} (D : ZipApart z TI TO i1 i2 l1 l2) (hS : S < s.heap.objs.size) (q : Zs s.heap z TI TO i1 i2 l1 l2 S xs ys i) (hx : xs[i]? = some x) (hy : ys[i]? = some y)
    (hQ : ∀ h', Zs h' z TI TO i1 i2 l1 l2 S xs ys (i + 1) → IsPair h' s.heap.objs.size x y → h'.objs.size = s.heap.objs.size + 1 → (∀ c o, c ≠ z → c ≠ TO → c ≠ i1 → c ≠ i2 → s.heap.get? c = some o → h'.get? c = some o) → Q (some (.ref s.heap.objs.size)) { s with heap := h' }) :
    wpAny (model prog w) A (pyNext (.ref z)) Q E s := by
  have lt : ∀ {c o}, s.heap.get? c = some o → s.heap.objs.size ≠ c := fun e => Nat.ne_of_gt (Heap.lt_size e)
  have n1 : s.heap.objs.size ≠ i1 := let ⟨_, e, _⟩ := q.h1; lt e
  have n2 : s.heap.objs.size ≠ i2 := let ⟨_, e, _⟩ := q.h2; lt e
  rcases q.zz with ⟨hz, a, b, hTO⟩ | ⟨T, f, oT, hz, hT, r1, r2, r3, r4⟩
  · refine pyNext_zipT_item D hz q.ti hTO q.h1 q.h2 q.t1 q.t2 hx hy fun h' b1 b2 b3 b4 b5 b6 hk => ?_
    exact hQ h' ⟨hk _ _ D.TIz D.TITO D.TIi1 D.TIi2 q.ti, b3, b4, q.t1.at fun o e => hk _ o D.l1z D.l1TO D.l1i1 D.l1i2 e, q.t2.at fun o e => hk _ o D.l2z D.l2TO D.l2i1 D.l2i2 e,
      .inr ⟨s.heap.objs.size, false, _, b1, b5, lt hz, n1, n2, Nat.ne_of_gt hS⟩⟩ b5 b6 hk
  · have hTy : s.TypeIs (.ref z) "zip" := ⟨_, hz, rfl⟩
    unfold pyNext
    refine wpAny_bind (wpAny_attempt (wpAny_callSpecial?_slot (name := Str.ofString "__next__") hTy F.slot_zip_next (wpAny_call_entry F.slot_zip_next hTy F.entry_zip_next
      (held_go D hz hT q.ti q.h1 q.h2 q.t1 q.t2 hx hy fun h' b1 b3 b4 b5 b6 hk => wpAny_pure ?_) (F.args_zip_next_1 _))))
    exact hQ h' ⟨hk _ _ D.TIz D.TIi1 D.TIi2 q.ti, b3, b4, q.t1.at fun o e => hk _ o D.l1z D.l1i1 D.l1i2 e, q.t2.at fun o e => hk _ o D.l2z D.l2i1 D.l2i2 e,
      .inr ⟨T, true, oT, b1, hk _ _ r1 r2 r3 hT, r1, r2, r3, r4⟩⟩ b5 b6 fun c o c1 _ c3 c4 e => hk c o c1 c3 c4 e
theorem zs_done {S : Addr} {i : Nat} {Q : Option Value → Shared → Prop} (hh : A.handled = none) (D : ZipApart z TI TO i1 i2 l1 l2) (q : Zs s.heap z TI TO i1 i2 l1 l2 S xs ys i) (hend : xs[i]? = none ∨ ys[i]? = none)
    (hQ : ∀ h', (∀ c o, c ≠ z → c ≠ TO → c ≠ i1 → c ≠ i2 → s.heap.get? c = some o → h'.get? c = some o) → Q none { s with heap := h' }) : wpAny (model prog w) A (pyNext (.ref z)) Q E s := by
  rcases q.zz with ⟨hz, a, b, hTO⟩ | ⟨T, f, oT, hz, hT, r1, r2, r3, r4⟩
  · exact pyNext_zipT_end hh D hz q.ti hTO q.h1 q.h2 q.t1 q.t2 hend hQ
  · have hTy : s.TypeIs (.ref z) "zip" := ⟨_, hz, rfl⟩
    unfold pyNext
    refine wpAny_bind (wpAny_attempt (wpAny_callSpecial?_slot (name := Str.ofString "__next__") hTy F.slot_zip_next (wpAny_call_entry F.slot_zip_next hTy F.entry_zip_next
      (held_end hh D hz hT q.ti q.h1 q.h2 q.t1 q.t2 hend fun h' e hk he => ?_) (F.args_zip_next_1 _))))
    obtain ⟨o, ho, hc⟩ := he
    refine wpAny_bind (wpAny_isInstance (T := "StopIteration") (b := true) ⟨o, ho, hc⟩ isSubtype_stop ?_)
    exact wpAny_pure (hQ _ fun c o c1 _ c3 c4 e => hk c o c1 c3 c4 e)
end
section
variable {prog : Program} {w : World} {A : Around} {s : Shared} {R : Result → Shared → Prop} {z TI TO i1 i2 l1 l2 S : Addr} {xs ys : Array Value} {n N : Nat}
/-- the pairs that were given out, from address N on -/
def Out (h : Heap) (N n : Nat) (xs ys : Array Value) : Prop := ∀ j, j < n → ∃ x y, xs[j]? = some x ∧ ys[j]? = some y ∧ h.get? (N + j) = some { cls := .type "tuple", data := .seq #[x, y] }
theorem zs_loop (hh : A.handled = none) (D : ZipApart z TI TO i1 i2 l1 l2) (O : Off z TI TO i1 i2 l1 l2 S) (below : z < N ∧ TO < N ∧ i1 < N ∧ i2 < N ∧ S < N) (hn : n ≤ sizeLine) (hm : n = min xs.size ys.size) (res : Value) {h0 : Heap}
    (hR : ∀ h' tk acc c, (∀ b o, b ≠ S → b ≠ z → b ≠ TO → b ≠ i1 → b ≠ i2 → h0.get? b = some o → h'.get? b = some o) → h'.get? S = some { cls := .type "list", dict := none, data := .seq acc c, slots := #[] } → Out h' N n xs ys →
      acc.toList = (List.range n).map (fun j => Value.ref (N + j)) → R (.ok (.ret res)) { s with heap := h', toks := tk }) :
    ∀ (k i : Nat) (h : Heap) (tk c : Nat) (acc : Array Value), n - i = k → i ≤ n → Zs h z TI TO i1 i2 l1 l2 S xs ys i → h.objs.size = N + i → (∀ b o, b ≠ S → b ≠ z → b ≠ TO → b ≠ i1 → b ≠ i2 → h0.get? b = some o → h.get? b = some o) →
      h.get? S = some { cls := .type "list", dict := none, data := .seq acc c, slots := #[] } → acc.toList = (List.range i).map (fun j => Value.ref (N + j)) → Out h N i xs ys →
      codeAny (model prog w) A (.builtin "list.extend.loop" ⟨[.ref S, .ref z, res], []⟩) R { s with heap := h, toks := tk } := by
  obtain ⟨g1, g2, g3, g4, g5⟩ := below
  have far : ∀ (a : Addr) (j : Nat), a < N → N + j ≠ a := fun a j h => Nat.ne_of_gt (Nat.lt_of_lt_of_le h (Nat.le_add_right N j))
  intro k
  induction k with
  | zero =>
    intro i h tk c acc hk hi st hN hkeep hS hacc hout
    obtain rfl : i = n := by omega
    refine codeAny_builtin PySem.F.entry_extend_loop ?_
    rw [Around.under_plainId PySem.F.plain_extend_loop _]
    show wpAny _ A.in1 (pyNext (.ref z) >>= _) _ _ _
    refine wpAny_bind (zs_done (s := { s with heap := h, toks := tk }) (A := A.in1) hh D st (by
      rcases Nat.le_total xs.size ys.size with q | q
      · exact .inl (Array.getElem?_eq_none (by rw [hm, Nat.min_eq_left q]; exact Nat.le_refl _))
      · exact .inr (Array.getElem?_eq_none (by rw [hm, Nat.min_eq_right q]; exact Nat.le_refl _))) fun h' he => ?_)
    refine wpAny_pure (hR h' tk acc c (fun b o a1 a2 a3 a4 a5 e => he b o a2 a3 a4 a5 (hkeep b o a1 a2 a3 a4 a5 e)) (he S _ O.a.symm O.c.symm O.d.symm O.e.symm hS) (fun j hj => ?_) hacc)
    obtain ⟨x, y, q1, q2, q3⟩ := hout j hj
    exact ⟨x, y, q1, q2, he _ _ (far _ _ g1) (far _ _ g2) (far _ _ g3) (far _ _ g4) q3⟩
  | succ k ih =>
    intro i h tk c acc hk hi st hN hkeep hS hacc hout
    have lt : i < n := by omega
    have hix : i < xs.size := by omega
    have hiy : i < ys.size := by omega
    have sz : acc.size = i := by rw [← Array.length_toList, hacc, List.length_map, List.length_range]
    refine codeAny_builtin PySem.F.entry_extend_loop ?_
    rw [Around.under_plainId PySem.F.plain_extend_loop _]
    show wpAny _ A.in1 (pyNext (.ref z) >>= _) _ _ _
    refine wpAny_bind (zs_item (s := { s with heap := h, toks := tk }) (S := S) D (Heap.lt_size hS) st (Array.getElem?_eq_getElem hix) (Array.getElem?_eq_getElem hiy) fun h' st' hp hz hkp => ?_)
    dsimp only at hp hz hkp ⊢
    have hS' := hkp S _ O.a.symm O.c.symm O.d.symm O.e.symm hS
    rw [hN] at hp ⊢
    have up : ∀ b o, b ≠ S → h'.get? b = some o → (h'.update S (Obj.mapSeq (·.push (Value.ref (N + i))))).get? b = some o := fun b o hb e => (Heap.get?_update_other _ _ (Ne.symm hb)).trans e
    show wpAny _ A.in1 (updateSeq S (·.push (Value.ref (N + i))) >>= _) _ _ _
    refine wpAny_bind ?_
    refine wpAny_updateSeq hS' rfl (wpAny_pure ⟨plainId_quiet PySem.F.plain_extend_loop _, ih (i + 1) _ tk _ (acc.push (Value.ref (N + i))) (by omega) lt (st'.keep O up) ?_ (fun b o a1 a2 a3 a4 a5 e => up b o a1 (hkp b o a2 a3 a4 a5 (hkeep b o a1 a2 a3 a4 a5 e)))
      (Heap.get?_update_self _ hS' rfl) (by rw [Array.toList_push, hacc, List.range_succ, List.map_append]; rfl) fun j hj => ?_⟩) (by rw [sz]; omega) (by show (acc.push (Value.ref (N + i))).size ≤ sizeLine + 1; rw [Array.size_push, sz]; omega)
    · rw [Heap.size_update, hz, hN]
      rfl
    · by_cases ej : j = i
      · subst ej
        exact ⟨_, _, Array.getElem?_eq_getElem hix, Array.getElem?_eq_getElem hiy, up _ _ (far _ _ g5) hp⟩
      · obtain ⟨x, y, q1, q2, q3⟩ := hout j (by omega)
        exact ⟨x, y, q1, q2, up _ _ (far _ _ g5) (hkp _ _ (far _ _ g1) (far _ _ g2) (far _ _ g3) (far _ _ g4) q3)⟩
theorem zs_extend (hh : A.handled = none) (D : ZipApart z TI TO i1 i2 l1 l2) (O : Off z TI TO i1 i2 l1 l2 S) (st : Zs s.heap z TI TO i1 i2 l1 l2 S xs ys 0) (hz : ∃ v, IsZip s.heap z TI TO v) (below : z < s.heap.objs.size ∧ TO < s.heap.objs.size ∧ i1 < s.heap.objs.size ∧ i2 < s.heap.objs.size ∧ S < s.heap.objs.size) (hn : n ≤ sizeLine) (hm : n = min xs.size ys.size) (res : Value) (c0 : Nat)
    (hS : s.heap.get? S = some { cls := .type "list", data := .seq #[] c0 })
    (hR : ∀ h' tk acc c, (∀ b o, b ≠ S → b ≠ z → b ≠ TO → b ≠ i1 → b ≠ i2 → s.heap.get? b = some o → h'.get? b = some o) → h'.get? S = some { cls := .type "list", dict := none, data := .seq acc c, slots := #[] } → Out h' s.heap.objs.size n xs ys →
      acc.toList = (List.range n).map (fun j => Value.ref (s.heap.objs.size + j)) → R (.ok (.ret res)) { s with heap := h', toks := tk }) :
    wpAny (model prog w) A.in1 (Builtin.List.listExtendWith (.ref S) (.ref z) res)
      (fun fin s' => match fin with | .done f => R (.ok f) s' | .again c' => c'.quiet = true ∧ codeAny (model prog w) A c' R s') (fun e s' => R (.error e) s') s := by
  obtain ⟨v, hz⟩ := hz
  have hTy : s.TypeIs (.ref z) "zip" := ⟨_, hz, rfl⟩
  unfold Builtin.List.listExtendWith
  refine wpAny_bind (wpAny_typeOf hTy ?_)
  have e1 : Builtin.List.listSameRef (.ref S) (.ref z) = false := by simp [Builtin.List.listSameRef, O.a.symm]
  have e2 : (Value.type "zip" == Value.type "list") = false := by decide
  have e3 : (Value.type "zip" == Value.type "tuple") = false := by decide
  simp only [e1, e2, e3, Bool.or_false, Bool.false_eq_true, if_false]
  refine wpAny_bind (wpAny_pyIter_zip hz ?_)
  refine wpAny_bind (wpAny_holding ?_)
  unfold Builtin.List.listLengthHint
  refine wpAny_bind (wpAny_specialOf hTy no_len ?_)
  show wpAny _ A.in1 (specialOf (Value.ref z) (Str.ofString "__length_hint__") >>= _) _ _ _
  refine wpAny_bind (wpAny_specialOf hTy no_hint ?_)
  refine wpAny_pure ?_
  show wpAny _ A.in1 (rule "list.extend.makes-room" >>= fun _ => Builtin.List.listTouch (.ref S) >>= fun _ => again (.builtin "list.extend.loop" ⟨[.ref S, .ref z, res], []⟩)) _ _ _
  refine wpAny_bind (wpAny_rule (wpAny_bind ?_))
  show wpAny _ A.in1 (updateSeq S (·.push .none) >>= fun _ => updateSeq S (·.pop)) _ _ _
  refine wpAny_bind (wpAny_updateSeq hS rfl ?_)
  have hS2 := Heap.get?_update_self (Obj.mapSeq (·.push Value.none)) hS rfl
  refine wpAny_updateSeq (hz := by seq_fits) hS2 rfl ?_
  have hS3 := Heap.get?_update_self (Obj.mapSeq (·.pop)) hS2 rfl
  have oth : ∀ b o, b ≠ S → s.heap.get? b = some o → ((s.heap.update S (Obj.mapSeq (·.push Value.none))).update S (Obj.mapSeq (·.pop))).get? b = some o :=
    fun b o hb e => (Heap.get?_update_other _ _ (Ne.symm hb)).trans ((Heap.get?_update_other _ _ (Ne.symm hb)).trans e)
  refine wpAny_pure ⟨plainId_quiet PySem.F.plain_extend_loop _, zs_loop (s := s) (N := s.heap.objs.size) (h0 := s.heap) hh D O below hn hm res hR n 0 _ s.toks _ _ (Nat.sub_zero _) (Nat.zero_le _) (st.keep O oth) ?_ (fun b o a1 _ _ _ _ e => oth b o a1 e) hS3 rfl fun j hj => absurd hj (Nat.not_lt_zero _)⟩
  rw [Heap.size_update, Heap.size_update]
  rfl
end
section
variable {prog : Program} {w : World} {A : Around} {E : Value → Shared → Prop} {s : Shared} {z TI TO i1 i2 l1 l2 : Addr} {xs ys : Array Value} {n : Nat}
theorem zl_call {Q : Value → Shared → Prop} (hh : A.handled = none) (D : ZipApart z TI TO i1 i2 l1 l2) (hz : IsZip s.heap z TI TO .none) (hTI : IsPair s.heap TI (.ref i1) (.ref i2)) (hTO : ∃ a b, IsPair s.heap TO a b) (h1 : s.heap.IsTupleIter i1 l1 0) (h2 : s.heap.IsTupleIter i2 l2 0) (t1 : s.heap.IsTuple l1 xs) (t2 : s.heap.IsTuple l2 ys)
    (hn : n ≤ sizeLine) (hm : n = min xs.size ys.size)
    (hQ : ∀ h' tk acc c, (∀ b o, b ≠ z → b ≠ TO → b ≠ i1 → b ≠ i2 → s.heap.get? b = some o → h'.get? b = some o) → h'.get? s.heap.objs.size = some { cls := .type "list", dict := none, data := .seq acc c, slots := #[] } → Out h' (s.heap.objs.size + 1) n xs ys →
      acc.toList = (List.range n).map (fun j => Value.ref (s.heap.objs.size + 1 + j)) → Q (.ref s.heap.objs.size) { s with heap := h', toks := tk }) :
    wpAny (model prog w) A (call (.type "list") [.ref z]) Q E s := by
  refine callType_codes (Q₁ := fun obj s₁ => obj = .ref s.heap.objs.size ∧ s₁ = { s with heap := s.heap.push { cls := .type "list", data := .seq #[] } }) PySem.F.called_list (PySem.F.typeCall_list_1 _) PySem.F.entry_list_init
    (code_list_new _ ⟨rfl, rfl⟩) fun obj s₁ h₁ => ?_
  obtain ⟨rfl, rfl⟩ := h₁
  have hS : (s.heap.push { cls := .type "list", data := .seq #[] }).get? s.heap.objs.size = some { cls := .type "list", data := .seq #[] } := Heap.get?_push_size _ rfl
  obtain ⟨a, b, hTO⟩ := hTO
  have lz := Heap.lt_size hz
  have lTI := Heap.lt_size hTI
  have lTO := Heap.lt_size hTO
  have li1 : i1 < s.heap.objs.size := let ⟨_, e, _⟩ := h1; Heap.lt_size e
  have li2 : i2 < s.heap.objs.size := let ⟨_, e, _⟩ := h2; Heap.lt_size e
  have ll1 : l1 < s.heap.objs.size := let ⟨_, e, _⟩ := t1; Heap.lt_size e
  have ll2 : l2 < s.heap.objs.size := let ⟨_, e, _⟩ := t2; Heap.lt_size e
  have O : Off z TI TO i1 i2 l1 l2 s.heap.objs.size := ⟨Nat.ne_of_lt lz, Nat.ne_of_lt lTI, Nat.ne_of_lt lTO, Nat.ne_of_lt li1, Nat.ne_of_lt li2, Nat.ne_of_lt ll1, Nat.ne_of_lt ll2⟩
  have up : ∀ b o, s.heap.get? b = some o → (s.heap.push { cls := .type "list", data := .seq #[] }).get? b = some o := fun b o e => Heap.get?_push_of_some _ e
  refine ⟨⟨_, hS, rfl⟩, PySem.F.args_list_init_2 _ _, ?_⟩
  show wpAny _ A.in1.in1 (do let old ← Builtin.List.listItems (.ref s.heap.objs.size); Builtin.List.listUpdate (.ref s.heap.objs.size) (fun _ => #[]); letGo old.toList.reverse; Builtin.List.listExtendWith (.ref s.heap.objs.size) (.ref z) .none) _ _ _
  refine wpAny_bind ?_
  unfold Builtin.List.listItems
  refine wpAny_bind (wpAny_seqItems hS rfl (wpAny_pure ?_))
  show wpAny _ A.in1.in1 (updateSeq s.heap.objs.size (fun _ => #[]) >>= fun _ => letGo (#[] : Array Value).toList.reverse >>= fun _ => Builtin.List.listExtendWith (.ref s.heap.objs.size) (.ref z) .none) _ _ _
  refine wpAny_bind (wpAny_updateSeq hS rfl ?_)
  have hS2 := Heap.get?_update_self (Obj.mapSeq (fun _ => (#[] : Array Value))) hS rfl
  have oth : ∀ b o, b ≠ s.heap.objs.size → s.heap.get? b = some o → ((s.heap.push { cls := .type "list", data := .seq #[] }).update s.heap.objs.size (Obj.mapSeq (fun _ => (#[] : Array Value)))).get? b = some o :=
    fun b o hb e => (Heap.get?_update_other _ _ (Ne.symm hb)).trans (up b o e)
  have size : ((s.heap.push { cls := .type "list", data := .seq #[] }).update s.heap.objs.size (Obj.mapSeq (fun _ => (#[] : Array Value)))).objs.size = s.heap.objs.size + 1 := by rw [Heap.size_update, Heap.size_push]
  refine wpAny_bind (wpAny_letGo ?_)
  refine zs_extend (s := { s with heap := (s.heap.push { cls := .type "list", data := .seq #[] }).update s.heap.objs.size (Obj.mapSeq (fun _ => (#[] : Array Value))) }) (n := n) (A := A.in1) hh D O
    ⟨oth _ _ O.b hTI, h1.at fun o e => oth _ o O.d e, h2.at fun o e => oth _ o O.e e, t1.at fun o e => oth _ o O.f e, t2.at fun o e => oth _ o O.g e, .inl ⟨oth _ _ O.a hz, a, b, oth _ _ O.c hTO⟩⟩ ⟨_, oth _ _ O.a hz⟩ ?_ hn hm .none _ hS2 fun h' tk acc c hk hS' hout hacc => ?_
  · dsimp only
    rw [size]
    exact ⟨Nat.lt_succ_of_lt lz, Nat.lt_succ_of_lt lTO, Nat.lt_succ_of_lt li1, Nat.lt_succ_of_lt li2, Nat.lt_succ_self _⟩
  · dsimp only at hout hacc hk
    rw [size] at hout hacc
    exact ⟨rfl, hQ h' tk acc c (fun b o a1 a2 a3 a4 e => hk b o (Nat.ne_of_lt (Heap.lt_size e)) a1 a2 a3 a4 (oth b o (Nat.ne_of_lt (Heap.lt_size e)) e)) hS' hout hacc⟩
end
end CZ
namespace Ck
open PySem PySem.Spec PyProof.Rows L2 StX RZ
/-- list(zip(t, u)) -/
def tLZ (K : PySem.W.Frag) (ta : TA) : TE := fun σ H Q => ta σ H fun vs H1 => ∃ (a b : Addr) (xs ys : List V), vs = [V.ref a, V.ref b] ∧ SqT K H1 a xs ∧ SqT K H1 b ys ∧ xs.length ≤ 1000 ∧ ∀ D (as : List Addr) H2, H1 D = none → Evl.Ex H1 H2 → H2 D = some (.lst (as.map V.ref)) → as.length = min xs.length ys.length →
  (∀ (j : Nat) (t : Addr), as[j]? = some t → ∃ x y, xs[j]? = some x ∧ ys[j]? = some y ∧ H2 t = some (.tup [x, y])) → Q (.ref D) H2
theorem pe_listZip {X : Cx} {e e2 : Expr} {ta : TA} {p p2 q pos : Pos} (hg : Gl X "list") (hm : X.mg "list" = none) (hg2 : Gl X "zip") (hm2 : X.mg "zip" = none) (ha : PA X [e, e2] ta) (hc : X.calm = true := by rfl)
    (na : starEach [.Call (.Name "zip" p2) [e, e2] [] q] X.env = (false, eval (.Call (.Name "zip" p2) [e, e2] [] q) X.env) :: starEach [] X.env := by rfl)
    (hs : starEach [e, e2] X.env = (false, eval e X.env) :: starEach [e2] X.env := by rfl) (hpl : (backTo q (starEach [e2] X.env)).any (·.1) = false := by rfl) :
    PE X (.Call (.Name "list" p) [.Call (.Name "zip" p2) [e, e2] [] q] [] pos) (tLZ X.K ta) := by
  refine ⟨fun pins s σ H Q I h => ?_⟩
  refine Call_ (ld_blt I hg hm PyProof.Rows.boot_list ?_)
  refine PyProof.Rows.callWith_type1 (PyProof.Rows.args_cons ?_ na) na rfl
  refine Call_ (ld_blt I hg2 hm2 PyProof.Rows.boot_zip ?_)
  refine PyProof.Rows.callWith_type1 (thn (ha.run q pins s σ H _ I h) fun us s1 ⟨vs, H1, I1, r1, q1⟩ => ?_) hs hpl
  obtain ⟨a, b, xs, ys, ex, hqx, hqy, hl, q1⟩ := q1
  subst ex
  cases r1 with
  | cons r rr =>
    cases rr with
    | cons r' rr =>
      cases rr
      cases r
      cases r'
      obtain ⟨its, rv, p1, _⟩ := I1.tuple hqx
      obtain ⟨its2, rv2, p2, _⟩ := I1.tuple hqy
      have l1 := rv.length
      have l2 := rv2.length
      obtain ⟨o1, ho1, _⟩ := id p1
      obtain ⟨o2, ho2, _⟩ := id p2
      have t1 : s1.heap.IsTuple a its.toArray := p1
      have t2 : s1.heap.IsTuple b its2.toArray := p2
      refine call_zipT t1 t2 fun h5 hz hTI hTO h1 h2 hsz hk => ?_
      refine PyProof.Rows.args_nil ?_
      have lim : (1000 : Nat) ≤ sizeLine := by decide
      have hmin : min its.toArray.size its2.toArray.size = min xs.length ys.length := by simp only [List.size_toArray]; omega
      refine CZ.zl_call (n := min xs.length ys.length) (I1.ok.hd hc) (PySem.W.ktu_apart s1.heap.objs.size a b (Heap.lt_size ho1) (Heap.lt_size ho2)) hz hTI ⟨_, _, hTO⟩ h1 h2 (t1.at fun o e => hk _ o e) (t2.at fun o e => hk _ o e) (by omega) hmin.symm fun h' tk acc c kp hS hout hacc => ?_
      dsimp only at kp hS hout hacc ⊢
      rw [hsz] at hS hout hacc ⊢
      have k1 : ∀ b o, s1.heap.get? b = some o → h'.get? b = some o := fun b o e => by
        have lt : b < s1.heap.objs.size := Heap.lt_size e
        exact kp b o (Nat.ne_of_lt (Nat.lt_add_right 4 lt)) (Nat.ne_of_lt (Nat.lt_add_right 3 lt)) (Nat.ne_of_lt lt) (Nat.ne_of_lt (Nat.lt_add_right 1 lt)) (hk b o e)
      generalize hn : min xs.length ys.length = n at hout hacc hmin
      have hnl : n ≤ 1000 := by omega
      have i3 : Inv X pins σ H1 { s1 with heap := h', toks := tk } := I1.kept k1
      have vals : ∀ as : List Addr, Vals (as.map V.ref) (as.map Value.ref) := fun as => by
        induction as with
        | nil => exact .nil
        | cons a t ih => exact .cons rfl ih
      have hD : H1 (s1.heap.objs.size + 5) = none := I1.hok.fresh (Nat.le_add_right _ _)
      have i4 : Inv X pins σ (upd H1 (s1.heap.objs.size + 5) (.lst (((List.range n).map fun j => s1.heap.objs.size + 5 + 1 + j).map V.ref))) { s1 with heap := h', toks := tk } :=
        i3.take (h' := h') (t' := tk) (fun b ob _ e => e) (I1.fpOk (Nat.le_add_right _ _) hD) ⟨by rw [List.length_map, List.length_map, List.length_range]; omega, _, c, vals _, by rw [hS]; congr 2; rw [← hacc.trans (List.map_map ..).symm]⟩
      obtain ⟨H2, i5, g, tu⟩ := L2.DX.takeT (P := fun a vs => ∃ j x y, a = s1.heap.objs.size + 5 + 1 + j ∧ xs[j]? = some x ∧ ys[j]? = some y ∧ vs = [x, y]) I1 ((List.range n).map fun j => s1.heap.objs.size + 5 + 1 + j) _ i4 (List.Pairwise.map _ (fun a b h e => h (Nat.add_left_cancel e)) List.nodup_range) (fun a ha => by
        obtain ⟨j, hj, rfl⟩ := List.mem_map.mp ha
        have hj := List.mem_range.mp hj
        obtain ⟨u, v, e1, e2, e3⟩ := hout j hj
        have jx : j < xs.length := Nat.lt_of_lt_of_le hj (by rw [← hn]; exact Nat.min_le_left _ _)
        have jy : j < ys.length := Nat.lt_of_lt_of_le hj (by rw [← hn]; exact Nat.min_le_right _ _)
        obtain ⟨u', f1, f2⟩ := rv.get (List.getElem?_eq_getElem jx)
        obtain ⟨v', g1, g2⟩ := rv2.get (List.getElem?_eq_getElem jy)
        obtain rfl : u' = u := Option.some.inj (f1.symm.trans (by simpa using e1))
        obtain rfl : v' = v := Option.some.inj (g1.symm.trans (by simpa using e2))
        have far : s1.heap.objs.size + 5 + 1 + j ≠ s1.heap.objs.size + 5 := by omega
        refine ⟨by omega, ?_, [xs[j], ys[j]], ⟨j, _, _, rfl, List.getElem?_eq_getElem jx, List.getElem?_eq_getElem jy, rfl⟩, fun H2 => ⟨(by show 2 ≤ sizeLine; decide), [u', v'], .cons f2 (.cons g2 .nil), ⟨_, e3, rfl, _, rfl⟩⟩⟩
        rw [upd_ne far]
        exact I1.hok.fresh (by omega))
      refine ⟨.ref (s1.heap.objs.size + 5), H2, i5, rfl, q1 _ ((List.range n).map fun j => s1.heap.objs.size + 5 + 1 + j) H2 hD (fun b o e => g b o ?_) (g _ _ upd_same) ?_ fun j t hj => ?_⟩
      · rw [upd_ne (ne_of_none e hD)]
        exact e
      · rw [List.length_map, List.length_range, hn]
      · have hj2 := hj
        rw [List.getElem?_map] at hj2
        obtain ⟨i, e1, e2⟩ := Option.map_eq_some_iff.mp hj2
        obtain ⟨h1, h2⟩ := List.getElem?_eq_some_iff.mp e1
        rw [List.getElem_range] at h2
        subst h2
        subst e2
        obtain ⟨vs, ⟨j', x, y, e, e3, e4, rfl⟩, e5⟩ := tu _ (List.mem_of_getElem? hj)
        obtain rfl : j = j' := Nat.add_left_cancel e
        exact ⟨x, y, e3, e4, e5⟩
end Ck

/-! profiles: the mathematics -/
namespace Ck
open PySem PySem.Spec PyProof.Rows L2 Evl
structure Pws (ns : List Int) : Prop where
  pw : ns.Pairwise fun a b => a < b ∧ a ∣ b
  pos : ∀ n ∈ ns, 0 < n
theorem Pws.tail {a : Int} {ns : List Int} (h : Pws (a :: ns)) : Pws ns := ⟨(List.pairwise_cons.mp h.pw).2, fun n hn => h.pos n (List.mem_cons_of_mem _ hn)⟩
theorem unt_cons (r : Int × Int) (rs : List (Int × Int)) (s : Int) : unt (r :: rs) s = r.2 * (r.1 / s) + unt rs s := by
  unfold unt
  rw [List.map_cons, List.sum_cons]
theorem pcs_cons (a b u v : Int) (r us : List Int) : pcs (a :: b :: r) (u :: v :: us) = (u - v * (b / a)) :: pcs (b :: r) (v :: us) := rfl
theorem unt_scale {a b : Int} (ha : 0 < a) (hb : 0 < b) (d : a ∣ b) : ∀ {z : List (Int × Int)}, (∀ r ∈ z, b ∣ r.1) → unt z a = b / a * unt z b
  | [], _ => by unfold unt; rw [List.map_nil, List.map_nil, List.sum_nil, Int.mul_zero]
  | r :: z, h => by
    rw [unt_cons, unt_cons, unt_scale ha hb d fun x hx => h x (List.mem_cons_of_mem _ hx)]
    obtain ⟨k, hk⟩ := h r List.mem_cons_self
    obtain ⟨q, rfl⟩ := d
    have e1 : r.1 / a = q * k := by rw [hk, Int.mul_assoc, Int.mul_ediv_cancel_left _ (by omega)]
    have e2 : r.1 / (a * q) = k := by rw [hk, Int.mul_ediv_cancel_left _ (by omega)]
    have e3 : a * q / a = q := Int.mul_ediv_cancel_left _ (by omega)
    rw [e1, e2, e3, Int.mul_add]
    congr 1
    rw [Int.mul_left_comm]
theorem unt_plain : ∀ {ns us : List Int}, Pws ns → us.length = ns.length → ns.map (unt (ns.zip (pcs ns us))) = us
  | [], [], _, _ => rfl
  | [], _ :: _, _, h => nomatch h
  | _ :: _, [], _, h => nomatch h
  | [a], [u], hp, _ => by
    have a0 := hp.pos a List.mem_cons_self
    show [unt [(a, u - 0)] a] = [u]
    rw [unt_cons, Int.ediv_self (by omega)]
    show [(u - 0) * 1 + 0] = [u]
    rw [Int.sub_zero, Int.mul_one, Int.add_zero]
  | [_], _ :: _ :: _, _, h => nomatch h
  | _ :: _ :: _, [_], _, h => nomatch h
  | a :: b :: r, u :: v :: us, hp, hl => by
    have ih := unt_plain (ns := b :: r) (us := v :: us) hp.tail (Nat.succ.inj hl)
    have a0 := hp.pos a List.mem_cons_self
    have b0 := hp.pos b (List.mem_cons_of_mem _ List.mem_cons_self)
    obtain ⟨h1, h2⟩ := List.pairwise_cons.mp hp.pw
    rw [pcs_cons, List.zip_cons_cons, List.map_cons]
    generalize hz : (b :: r).zip (pcs (b :: r) (v :: us)) = z at ih
    have zb : ∀ x ∈ z, b ∣ x.1 := fun x hx => by
      rw [← hz] at hx
      have m := (List.of_mem_zip (a := x.1) (b := x.2) hx).1
      rcases List.mem_cons.mp m with e | m
      · rw [e]; exact Int.dvd_refl b
      · exact ((List.pairwise_cons.mp h2).1 _ m).2
    have tl : (b :: r).map (unt ((a, u - v * (b / a)) :: z)) = (b :: r).map (unt z) := List.map_congr_left fun s hs => by
      rw [unt_cons, Int.ediv_eq_zero_of_lt (by show 0 ≤ a; omega) (h1 s hs).1, Int.mul_zero, Int.zero_add]
    rw [tl, ih, unt_cons, unt_scale a0 b0 (h1 b List.mem_cons_self).2 zb]
    have e : unt z b = v := (List.cons.inj ih).1
    rw [e]
    show ((u - v * (b / a)) * (a / a) + b / a * v) :: _ = _
    rw [Int.ediv_self (by omega), Int.mul_one, Int.mul_comm (b / a) v, Int.sub_add_cancel]
theorem unt_filter {s : Int} : ∀ {z : List (Int × Int)}, (∀ r ∈ z, 0 ≤ r.2) → unt (z.filter fun p => decide (0 < p.2)) s = unt z s
  | [], _ => rfl
  | r :: z, h => by
    have ih := unt_filter (s := s) (z := z) fun x hx => h x (List.mem_cons_of_mem _ hx)
    have r0 := h r List.mem_cons_self
    by_cases p : 0 < r.2
    · rw [List.filter_cons, if_pos (decide_eq_true p), unt_cons, unt_cons, ih]
    · rw [List.filter_cons, if_neg (by rw [decide_eq_false p]; exact Bool.false_ne_true), ih, unt_cons, show r.2 = 0 by omega, Int.zero_mul, Int.zero_add]
theorem prn_unt {ns us : List Int} (hp : Pws ns) (hl : us.length = ns.length) (h0 : ∀ x ∈ pcs ns us, 0 ≤ x) : ns.map (unt (prn ns us)) = us := by
  refine Eq.trans (List.map_congr_left fun s _ => ?_) (unt_plain hp hl)
  exact unt_filter fun r hr => h0 r.2 (List.of_mem_zip (a := r.1) (b := r.2) hr).2
/-- the units of runs are a profile -/
theorem unt_step {a b : Int} (ha : 0 < a) (hb : 0 < b) (d : a ∣ b) : ∀ {rs : List (Int × Int)}, (∀ r ∈ rs, 0 ≤ r.1 ∧ 0 ≤ r.2) → unt rs b * (b / a) ≤ unt rs a
  | [], _ => by unfold unt; rw [List.map_nil, List.map_nil, List.sum_nil, Int.zero_mul]; exact Int.le_refl 0
  | r :: rs, h => by
    have ih := unt_step ha hb d (rs := rs) fun x hx => h x (List.mem_cons_of_mem _ hx)
    obtain ⟨r1, r2⟩ := h r List.mem_cons_self
    rw [unt_cons, unt_cons, Int.add_mul]
    refine Int.add_le_add ?_ ih
    rw [Int.mul_assoc]
    refine Int.mul_le_mul_of_nonneg_left ?_ r2
    refine (Int.le_ediv_iff_mul_le ha).mpr ?_
    rw [Int.mul_assoc, Int.ediv_mul_cancel d]
    exact Int.ediv_mul_le _ (by omega)
theorem unt_nn {s : Int} (hs : 0 < s) : ∀ {rs : List (Int × Int)}, (∀ r ∈ rs, 0 ≤ r.1 ∧ 0 ≤ r.2) → 0 ≤ unt rs s
  | [], _ => Int.le_refl 0
  | r :: rs, h => by
    have ih := unt_nn hs (rs := rs) fun x hx => h x (List.mem_cons_of_mem _ hx)
    obtain ⟨r1, r2⟩ := h r List.mem_cons_self
    rw [unt_cons]
    have := Int.mul_nonneg r2 (Int.ediv_nonneg r1 (Int.le_of_lt hs))
    omega
theorem unt_pcs : ∀ {ns : List Int}, Pws ns → ∀ {rs : List (Int × Int)}, (∀ r ∈ rs, 0 ≤ r.1 ∧ 0 ≤ r.2) → ∀ x ∈ pcs ns (ns.map (unt rs)), 0 ≤ x
  | [], _, _, _ => fun x hx => nomatch hx
  | [a], hp, rs, hr => fun x hx => by
    rw [show pcs [a] ([a].map (unt rs)) = [unt rs a - 0] from rfl] at hx
    rw [List.mem_singleton.mp hx]
    have := unt_nn (hp.pos a List.mem_cons_self) hr
    omega
  | a :: b :: r, hp, rs, hr => fun x hx => by
    rw [List.map_cons, List.map_cons, pcs_cons] at hx
    rcases List.mem_cons.mp hx with rfl | hx
    · have := unt_step (hp.pos a List.mem_cons_self) (hp.pos b (List.mem_cons_of_mem _ List.mem_cons_self)) ((List.pairwise_cons.mp hp.pw).1 b List.mem_cons_self).2 hr
      omega
    · exact unt_pcs (ns := b :: r) hp.tail hr x hx
/-- what the law holds for a profile -/
def stepB (ns us : List Int) (i : Nat) : Bool := decide (us.getD i 0 < us.getD (i + 1) 0 * (ns.getD (i + 1) 0 / ns.getD i 0))
def isDueB (ns us : List Int) : Bool := decide (us.length = ns.length) && (us.all (fun x => decide (0 ≤ x)) && (List.range (ns.length - 1)).all fun i => !stepB ns us i)
theorem pcs_due : ∀ {ns us : List Int}, us.length = ns.length → (∀ x ∈ us, 0 ≤ x) → (pcs ns us).all (fun m => decide (0 ≤ m)) = (List.range (ns.length - 1)).all fun i => !stepB ns us i
  | [], [], _, _ => rfl
  | [], _ :: _, h, _ => nomatch h
  | _ :: _, [], h, _ => nomatch h
  | [a], [u], _, h0 => by
    have u0 := h0 u List.mem_cons_self
    show (decide (0 ≤ u - 0) && true) = true
    rw [Int.sub_zero, decide_eq_true u0]
    rfl
  | [_], _ :: _ :: _, h, _ => nomatch h
  | _ :: _ :: _, [_], h, _ => nomatch h
  | a :: b :: r, u :: v :: us, hl, h0 => by
    have ih := pcs_due (ns := b :: r) (us := v :: us) (Nat.succ.inj hl) fun x hx => h0 x (List.mem_cons_of_mem _ hx)
    rw [pcs_cons, List.all_cons, ih, show (a :: b :: r).length - 1 = ((b :: r).length - 1) + 1 from rfl, List.range_succ_eq_map, List.all_cons, List.all_map]
    congr 1
    show decide (0 ≤ u - v * (b / a)) = !decide (u < v * (b / a))
    by_cases c : u < v * (b / a)
    · rw [decide_eq_true c, decide_eq_false (by omega)]; rfl
    · rw [decide_eq_false c, decide_eq_true (by omega)]; rfl
theorem all_same {α : Type} {p q : α → Bool} : ∀ {l : List α}, (∀ x ∈ l, p x = q x) → l.all p = l.all q
  | [], _ => rfl
  | x :: l, h => by rw [List.all_cons, List.all_cons, h x List.mem_cons_self, all_same fun y hy => h y (List.mem_cons_of_mem _ hy)]
theorem isPr_due {ns us : List Int} (hb : ∀ x ∈ us, x.natAbs < 10 ^ 200) : isPrB ns (us.map V.int) = isDueB ns us := by
  unfold isPrB isDueB
  rw [List.length_map, intsOf_map, List.all_map]
  by_cases hl : us.length = ns.length
  · rw [decide_eq_true hl, Bool.true_and, Bool.true_and]
    have e : us.all (cntV ∘ V.int) = us.all fun x => decide (0 ≤ x) := all_same fun x hx => by
      show cntB x = _
      by_cases c : 0 ≤ x
      · exact (cnt_of c (hb x hx)).trans (decide_eq_true c).symm
      · rw [decide_eq_false c]
        exact Bool.eq_false_iff.mpr fun z => c (cnt_nn z).1
    rw [e]
    cases c : us.all fun x => decide (0 ≤ x) with
    | false => rfl
    | true => rw [pcs_due hl fun x hx => of_decide_eq_true (List.all_eq_true.mp c x hx)]
  · rw [decide_eq_false hl]
    rfl
theorem filter_sub {l r : List Int} (hn : l.Nodup) (h : r.Sublist l) : l.filter (fun x => decide (x ∈ r)) = r := by
  induction h with
  | slnil => rfl
  | @cons a b c h ih =>
    rw [List.nodup_cons] at hn
    rw [List.filter_cons, if_neg (by rw [decide_eq_false fun m => hn.1 (h.subset m)]; exact Bool.false_ne_true), ih hn.2]
  | @cons_cons a b c h ih =>
    rw [List.nodup_cons] at hn
    rw [List.filter_cons, if_pos (decide_eq_true List.mem_cons_self)]
    refine congrArg (c :: ·) (Eq.trans (List.filter_congr fun x hx => decide_eq_decide.mpr ⟨fun m => ?_, fun m => List.mem_cons_of_mem _ m⟩) (ih hn.2))
    rcases List.mem_cons.mp m with rfl | m
    · exact absurd hx hn.1
    · exact m
theorem prn_sub {ns us : List Int} : ((prn ns us).map Prod.fst).Sublist ns := by
  refine List.Sublist.trans (List.Sublist.map _ (List.filter_sublist)) ?_
  generalize pcs ns us = cs
  induction ns generalizing cs with
  | nil => exact List.Sublist.slnil
  | cons n r ih =>
    cases cs with
    | nil => exact List.nil_sublist _
    | cons c cs => exact List.Sublist.cons_cons _ (ih cs)
/-! ### ints from dice -/
section
variable {K : PySem.W.Frag} {d : Addr} {σ : L2.St} {H : Hp} {te ta tb : TE} {P R S : Int → Prop} {i : Nat} {n t : Int}
def Ei (d : Addr) (P : Int → Prop) (te : TE) (σ : L2.St) (H : Hp) : Prop := Ek d (fun v => ∃ y, v = .int y ∧ P y) te σ H
theorem Ei.mono {P R : Int → Prop} (h : Ei d P te σ H) (k : ∀ y, P y → R y) : Ei d R te σ H := fun H1 e Q q => h H1 e Q fun v H2 e2 ⟨y, r, p⟩ => q v H2 e2 ⟨y, r, k y p⟩
theorem Ei.at {H' : Hp} (h : Ei d P te σ H) (k : Kd d H H') : Ei d P te σ H' := fun H1 e Q q => h H1 (k.trans e) Q q
theorem ei_c (h : P n) : Ei d P (tC (.int n)) σ H := fun H1 e Q q => q _ H1 (Kd.refl e.2) ⟨n, rfl, h⟩
theorem ei_v (hv : σ[i]? = some (some (.int n))) (h : P n) : Ei d P (tVar i) σ H := fun H1 e Q q => ⟨_, hv, q _ H1 (Kd.refl e.2) ⟨n, rfl, h⟩⟩
theorem ei_rollV (hv : σ[i]? = some (some (.ref d))) {B : Int} (h : Ei d (fun t => 0 < t ∧ t ≤ B) te σ H) (hB : B < 1073741824) : Ei d (fun y => 0 ≤ y ∧ y < B) (tCall spRoll [] E0 (tCons (tVar i) (tCons te tNil))) σ H := fun H1 e Q q =>
  ⟨_, hv, h H1 e _ fun v H2 e2 ⟨t, r, t0, t1⟩ => by
    subst r
    exact ⟨d, t, rfl, t0, by omega, e2.2, fun y H3 y0 y1 hd k => q _ H3 (e2.trans (Kd.but hd k)) ⟨y, rfl, y0, by omega⟩⟩⟩
theorem ei_roll (hv : σ[i]? = some (some (.ref d))) (t0 : 0 < t) (t1 : t < 1073741824) : Ei d (fun y => 0 ≤ y ∧ y < t) (tCall spRoll [] E0 (tCons (tVar i) (tCons (tC (.int t)) tNil))) σ H := ei_rollV hv (ei_c ⟨t0, Int.le_refl t⟩) t1
theorem ei_0 {g : Int → Int → Int} (ha : Ei d P ta σ H) (hb : Ei d R tb σ H) (k : ∀ a b, P a → R b → S (g a b)) : Ei d S (tOp (rI0 fun i j => .int (g i j)) ta tb) σ H := fun H1 e Q q => ha H1 e _ fun v H2 e2 ⟨a, r, pa⟩ => hb H2 (e.trans e2) _ fun w H3 e3 ⟨b, r2, pb⟩ => by
  subst r r2
  exact ⟨a, b, rfl, rfl, q _ H3 (e2.trans e3) ⟨_, rfl, k a b pa pb⟩⟩
theorem ei_C {C : Int → Int → Prop} {g : Int → Int → Int} (ha : Ei d P ta σ H) (hb : Ei d R tb σ H) (c : ∀ a b, P a → R b → C a b) (k : ∀ a b, P a → R b → S (g a b)) : Ei d S (tOp (rI C fun i j => .int (g i j)) ta tb) σ H := fun H1 e Q q => ha H1 e _ fun v H2 e2 ⟨a, r, pa⟩ => hb H2 (e.trans e2) _ fun w H3 e3 ⟨b, r2, pb⟩ => by
  subst r r2
  exact ⟨a, b, rfl, rfl, c a b pa pb, q _ H3 (e2.trans e3) ⟨_, rfl, k a b pa pb⟩⟩
/-- one of the items of a list or of a tuple -/
def spPickS (K : PySem.W.Frag) : Sp := fun vs H Q _ => ∃ (d p : Addr) (xs : List V), vs = [.ref d, .ref p] ∧ Dice H d ∧ (SqL K H p xs ∨ SqT K H p xs) ∧ p ≠ d ∧ xs ≠ [] ∧ xs.length < 1073741824 ∧
  ∀ x ∈ xs, ∀ H', Dice H' d → But d H H' → Q x H'
theorem ei_pick (hv : σ[i]? = some (some (.ref d))) {ns : List Int} (h : ∀ H1, Kd d H H1 → ∀ Q : VK, (∀ g H2, Kd d H1 H2 → g ≠ d → (SqL K H2 g (ns.map V.int) ∨ SqT K H2 g (ns.map V.int)) → Q (.ref g) H2) → te σ H1 Q) (h0 : ns ≠ []) (hl : ns.length < 1073741824) : Ei d (fun y => y ∈ ns) (tCall (spPickS K) [] E0 (tCons (tVar i) (tCons te tNil))) σ H := fun H1 e Q q =>
  ⟨_, hv, h H1 e _ fun g H2 e2 gd hg => ⟨d, g, _, rfl, e2.2, hg, gd, by simpa using h0, by rw [List.length_map]; exact hl, fun x hx H3 hd k => by
    obtain ⟨y, hy, rfl⟩ := List.mem_map.mp hx
    exact q _ H3 (e2.trans (Kd.but hd k)) ⟨y, rfl, hy⟩⟩⟩
theorem pick_tup {p : Addr} {ns : List Int} (hv : σ[i]? = some (some (.ref p))) (hp : SqT K H p (ns.map V.int)) (pd : p ≠ d) : ∀ H1, Kd d H H1 → ∀ Q : VK, (∀ g H2, Kd d H1 H2 → g ≠ d → (SqL K H2 g (ns.map V.int) ∨ SqT K H2 g (ns.map V.int)) → Q (.ref g) H2) → (tVar i) σ H1 Q := fun H1 e Q q => ⟨_, hv, q p H1 (Kd.refl e.2) pd (.inr (e.1.sqT pd hp))⟩
theorem pick_lst {tr : TA} {xs : List Int} (h : ∀ H1, Kd d H H1 → EvA tr σ H1 (xs.map V.int)) (hl : xs.length ≤ 1000) : ∀ H1, Kd d H H1 → ∀ Q : VK, (∀ g H2, Kd d H1 H2 → g ≠ d → (SqL K H2 g (xs.map V.int) ∨ SqT K H2 g (xs.map V.int)) → Q (.ref g) H2) → (tLst tr) σ H1 Q := fun H1 e Q q =>
  h H1 e H1 (Ex.refl H1) _ fun H2 e2 => ⟨by rw [List.length_map]; exact Nat.le_trans hl (show 1000 ≤ sizeLine by decide), fun g ng => q g _ ((Kd.ex e.2 e2).to (Ex.new ng)) ((e.2.ex e2).ne ng) (.inl (SqL.of upd_same))⟩
end
/-- runs as the law draws them -/
structure GrR (rs : List (Int × Int)) : Prop where
  ln : rs.length ≤ 5
  ok : ∀ r ∈ rs, (0 < r.1 ∧ r.1 < 10 ^ 28) ∧ 0 < r.2 ∧ r.2 < 10 ^ 32
end Ck

/-! (x,) * n, n at least 1 -/
namespace L2
open PySem PySem.Spec PyProof.Rows
theorem tuple_mul1 (l : Addr) (items : Array Value) (n : Nat) (dd : Option Addr) (sl : Array (Option Value)) (u : Tok) :
    Meets (Builtin.«tuple.__mul__» ⟨[.ref l, .int 1 u], []⟩) (fun _ R s => s.heap.get? l = some { cls := .type "tuple", dict := dd, data := .seq items n, slots := sl } ∧ R (.ok (.ret (Value.ref l))) s) :=
  .of_wp fun prog w A R s h => by
    obtain ⟨hp, g, d, tk, os⟩ := s
    obtain ⟨hl, h⟩ := h
    have f1 := AutoSeq1.idx_int
    have c1 : (items.isEmpty || (1 : Int) == 1) = true := by cases items.isEmpty <;> rfl
    wp_walk using wpAny_loadPart' hl
    exact ⟨_, rfl, h⟩
/-- (x,) * k -/
def rRepT1 (K : PySem.W.Frag) : R2 := fun x y H Q => ∃ l k z, x = V.ref l ∧ y = .int k ∧ SqT K H l [z] ∧ 1 ≤ k ∧ k ≤ 1000 ∧ ∀ p H', (H' = H ∨ ∃ o, H p = none ∧ H' = upd H p o) → SqT K H' p (List.replicate k.toNat z) → Q (.ref p) H'
theorem op_repT1 {X : Cx} : OpR X (binaryOp .Mult) (rRepT1 X.K) := by
  intro pins s σ H x y v u Q I rx ry h
  obtain ⟨l, k, z, rfl, rfl, hT, h1, h2, q⟩ := h
  by_cases hk : k = 1
  · subst hk
    cases rx
    obtain ⟨t, rfl⟩ := ry
    obtain ⟨its, r, ⟨⟨cls, dd, data, sl⟩, ho, hc, n, hd⟩, hs⟩ := I.tuple hT
    simp only at hc hd
    subst hc hd
    refine wpAny_binaryOp_repeat_ref (T := "tuple") (U := "int") (by decide) ⟨_, ho, rfl⟩ (fun s' => typeIs_int s' 1 t) noFill_tuple_mul F.fills_int_mul F.slot_int_rmul repeat_tuple F.slot_int_index.lookup
      (call_meets F.slot_int_rmul (typeIs_int s 1 t) F.entry_int_rmul (F.args_int_rmul_2 _ _) (int_rmul_tuple 1 t l its.toArray n dd sl)
        ⟨ho, rfl, ⟨_, ho, rfl⟩, call_meets F.slot_tuple_mul ⟨_, ho, rfl⟩ F.entry_tuple_mul (F.args_tuple_mul_2 _ _) (tuple_mul1 l its.toArray n dd sl t) ⟨ho, ?_⟩⟩)
    exact ⟨.ref l, H, I, rfl, q l H (.inl rfl) hT⟩
  · refine op_repT pins s σ H _ _ v u Q I rx ry ⟨l, k, [z], rfl, rfl, hT, (fun e => nomatch e), by omega, h2, (show 1 ≤ 1000 by decide), fun p hp => q p _ (.inr ⟨_, hp, rfl⟩) ?_⟩
    have e : (List.replicate k.toNat [z]).flatten = List.replicate k.toNat z := by
      generalize k.toNat = m
      induction m with
      | zero => rfl
      | succ m ih => rw [List.replicate_succ, List.flatten_cons, ih, List.replicate_succ]; rfl
    rw [e]
    exact SqT.of upd_same
end L2

namespace Ck
open PySem PySem.Spec PyProof.Rows L2 StX Evl
section
variable {K : PySem.W.Frag} {C : Addr} {σ : L2.St} {H : Hp} {ta tb te : TE} {xs : List V}
theorem el_copy {l : Addr} (h : Ev te σ H (.ref l)) (hl : SqL K H l xs) : EvL (tCB (fun xs H Q => ∃ p ys, xs = [V.ref p] ∧ (SqL K H p ys ∨ SqT K H p ys) ∧ ∀ l, H l = none → Q (.ref l) (upd H l (.lst ys))) (tCons te tNil)) σ H xs := fun H1 e Q q =>
  h H1 e _ fun H2 e2 => ⟨l, xs, rfl, .inl (ex_l (e.trans e2) hl), fun p hp => q p _ (fresh_back e2 hp) (e2.trans (Ex.new hp)) upd_same⟩
theorem el_copyT {l : Addr} (h : Ev te σ H (.ref l)) (hl : SqT K H l xs) : EvL (tCB (fun xs H Q => ∃ p ys, xs = [V.ref p] ∧ (SqL K H p ys ∨ SqT K H p ys) ∧ ∀ l, H l = none → Q (.ref l) (upd H l (.lst ys))) (tCons te tNil)) σ H xs := fun H1 e Q q =>
  h H1 e _ fun H2 e2 => ⟨l, xs, rfl, .inr (ex_t (e.trans e2) hl), fun p hp => q p _ (fresh_back e2 hp) (e2.trans (Ex.new hp)) upd_same⟩
theorem el_rep (h : EvL ta σ H xs) {n : Int} (hb : Ev tb σ H (.int n)) (h0 : 0 ≤ n) (h1 : n ≤ 100) (hl : xs.length ≤ 100) : EvL (tOp rRep ta tb) σ H (List.replicate n.toNat xs).flatten := fun H1 e Q q =>
  h H1 e _ fun p H2 n2 e2 hp => hb H2 (e.trans e2) _ fun H3 e3 => ⟨p, n, xs, rfl, rfl, e3 _ _ hp, by omega, by omega, Nat.le_trans (Nat.mul_le_mul hl (show n.toNat ≤ 100 by omega)) (show 100 * 100 ≤ sizeLine by decide), fun t nt => q t _ (fresh_back (e2.trans e3) nt) ((e2.trans e3).trans (Ex.new nt)) upd_same⟩
end
theorem shaped_lrs (rs : List (Int × Int)) : SeqAt.shaped (.list (rs.map prD)) = true := by
  obtain ⟨a, b⟩ := lay_prs rs
  unfold SeqAt.shaped
  simp only [PyData.canLay0, PyData.depth, a]
  exact decide_eq_true (by omega)
/-- Store(a, b, ..) -/
theorem mk_stoR {K : PySem.W.Frag} {C : Addr} {σ : L2.St} {H : Hp} {tr : TA} {vs : List V} {rs : List (Int × Int)} {Q : VK} (h : EvA tr σ H vs) (hf : F2 (RP K H) vs rs) (hr : Rns rs) (q : ∀ a H', Ex H H' → StoAt K C H' a (jr rs) → Q (.ref a) H') : tMakeR C (spStoI K C) E0 tr σ H Q :=
  h H (Ex.refl H) _ fun H1 e1 => fun x dx nx nd ne => by
    have n2 : (upd H1 dx (.own x)) x = none := by rw [upd_ne ne.symm]; exact nx
    exact ⟨x, dx, vs, rs, H1, rfl, (Ex.new nd).trans (Ex.new n2), nx, upd_same, hf.imp fun y b r => r.ex e1, hr, fun H' e' hst => ⟨rfl, q x H' (e1.trans e') hst⟩⟩
def spMadeS (K : PySem.W.Frag) (C : Addr) : Sp := fun vs H Q _ => ∃ (l : Addr) (vs' : List V) (rs : List (Int × Int)), vs = [.ref l] ∧ SqL K H l vs' ∧ F2 (RP K H) vs' rs ∧ rs ≠ [] ∧ rs.length ≤ 5 ∧ Rns rs ∧ ∀ a H', Ex H H' → StoAt K C H' a (jr rs) → Q (.ref a) H'
end Ck

namespace Ck
open PySem PySem.Spec PyProof.Rows L2 StX Evl
section
variable {K : PySem.W.Frag} {σ : L2.St} {H : Hp} {ta tb te tl : TE} {tt : TT} {tr : TA} {l : Addr} {ts : List V} {ps : List (Int × Int)} {j j1 j2 : Nat} {ws : List Nat}
/-- [e for i in range(n) if c] -/
theorem el_rngF {m : Nat} (c : Nat → Bool) (f : Nat → V) (h : EvA tr σ H [.int (m : Int)]) (hm : m ≤ 40000) (hw : ∀ x, wipe ((wipe σ ws).set j (some x)) ws = wipe σ ws)
    (ht : ∀ k : Nat, k < m → ∀ H1, Ex H H1 → EvT tt ((wipe σ ws).set j (some (.int (k : Int)))) H1 (c k)) (he : ∀ k : Nat, k < m → ∀ H1, Ex H H1 → Ev te ((wipe σ ws).set j (some (.int (k : Int)))) H1 (f k)) : EvL (tLc (iRng1 tr) (gName j) tt te ws) σ H (((List.range m).filter c).map f) := fun H0 e0 Q q => h H0 e0 _ fun H1 e1 => ⟨(m : Int), rfl, by omega, by omega, fun D hD => by
  refine lc_it walk_range (fun k H' => H1 D = none ∧ Ex H1 H' ∧ H' D = some (.lst (((List.range k).filter c).map f))) ⟨hD, Ex.new hD, upd_same⟩ (fun k H' _ p => trivial) ?_ ?_
  · rintro k x H2 H3 hk ⟨p1, p2, p3⟩ ⟨rfl, rfl⟩
    have hk2 : k < m := by omega
    have e0k : (some ((fun i : Nat => V.int (0 + (i : Int))) k)) = some (V.int (k : Int)) := congrArg (fun z => some (V.int z)) (Int.zero_add _)
    refine ⟨hw _, ?_⟩
    rw [e0k]
    have e02 := (e0.trans e1).trans p2
    refine ht k hk2 H3 e02 H3 (Ex.refl _) _ fun H4 e4 => ?_
    cases hc : c k with
    | true =>
      refine iteT (he k hk2 H4 (e02.trans e4) H4 (Ex.refl _) _ fun H5 e5 => ⟨_, e5 _ _ (e4 _ _ p3), sz_lt ?_, p1, Ex.mut (p2.trans (e4.trans e5)) p1, ?_⟩)
      · rw [List.length_map]
        have := List.length_filter_le c (List.range k)
        rw [List.length_range] at this
        omega
      · rw [upd_same, List.range_succ, List.filter_append, List.map_append, show [k].filter c = [k] by rw [List.filter_cons, hc]; rfl]
        rfl
    | false =>
      refine iteF ⟨p1, p2.trans e4, ?_⟩
      rw [e4 _ _ p3, List.range_succ, List.filter_append, show [k].filter c = [] by rw [List.filter_cons, hc]; rfl, List.append_nil]
  · rintro H2 ⟨p1, p2, p3⟩
    rw [show ((m : Int)).toNat = m by omega] at p3
    exact q D H2 (fresh_back e1 p1) (e1.trans p2) p3⟩
/-- [e for a, b in l], l a list of pairs -/
theorem el_lcPV (f : Int × Int → V) (h : Ev tl σ H (.ref l)) (hl : SqL K H l ts) (hf : F2 (RP K H) ts ps) (hz : ps.length ≤ 40000)
    (hw : ∀ x y, wipe (((wipe σ ws).set j1 (some x)).set j2 (some y)) ws = wipe σ ws) (he : ∀ p ∈ ps, ∀ H1, Ex H H1 → Ev te (((wipe σ ws).set j1 (some (.int p.1))).set j2 (some (.int p.2))) H1 (f p)) :
    EvL (tLc (iList K tl) (gTup K 2 (gCons (gName j1) (gCons (gName j2) gNil))) tYes te ws) σ H (ps.map f) := fun H0 e0 Q q => h H0 e0 _ fun H1 e1 => ⟨l, rfl, ⟨ts, ex_l (e0.trans e1) hl⟩, fun D hD => by
  have e01 := e0.trans e1
  refine lc_it walk_list (fun i H' => H1 D = none ∧ Ex H1 H' ∧ H' D = some (.lst ((ps.take i).map f))) ⟨hD, Ex.new hD, upd_same⟩ (fun i H' _ p => ex_l (e01.trans p.2.1) hl) ?_ ?_
  · rintro i x H' H2 hi ⟨p1, p2, p3⟩ ⟨rfl, hxi⟩
    obtain ⟨p, hp, t, rfl, hpt⟩ := hf.at hxi
    have m := List.mem_of_getElem? hp
    have st : ps.take (i + 1) = ps.take i ++ [p] := by rw [List.take_add_one, hp]; rfl
    have i12 : i < ps.length := (List.getElem?_eq_some_iff.mp hp).1
    refine ⟨t, _, rfl, ex_t (e01.trans p2) hpt, rfl, _, _, rfl, _, _, rfl, rfl, hw _ _, yes_go (iteT (he p m H2 (e01.trans p2) H2 (Ex.refl _) _ fun H5 e5 => ⟨_, e5 _ _ p3, sz_lt (by rw [List.length_map, List.length_take]; omega), p1, Ex.mut (p2.trans e5) p1, by rw [upd_same, st, List.map_append]; rfl⟩))⟩
  · rintro H' ⟨p1, p2, p3⟩
    rw [hf.len, List.take_of_length_le (Nat.le_refl _)] at p3
    exact q D H' (fresh_back e1 p1) (e1.trans p2) p3⟩
end
def spSpace (K : PySem.W.Frag) : Sp := fun vs H Q _ => ∃ (l : Addr) (s : Int) (ts : List V) (rs : List (Int × Int)), vs = [.ref l, .int s] ∧ SqL K H l ts ∧ F2 (RP K H) ts rs ∧ rs.length ≤ 1000 ∧ (∀ r ∈ rs, 0 ≤ r.1 ∧ r.1.natAbs < 10 ^ 200 ∧ r.2.natAbs < 10 ^ 200) ∧ 0 < s ∧ s.natAbs < 10 ^ 200 ∧ ∀ H', Ex H H' → Q (.int (unt rs s)) H'
def spDueL (K : PySem.W.Frag) : Sp := fun vs H Q _ => ∃ (p u : Addr) (ns us : List Int), vs = [.ref p, .ref u] ∧ SqT K H p (ns.map V.int) ∧ SqT K H u (us.map V.int) ∧ ns ≠ [] ∧ ns.length ≤ 100 ∧ us.length ≤ 100 ∧ (∀ n ∈ ns, 0 < n ∧ n.natAbs < 10 ^ 200) ∧ (∀ x ∈ us, x.natAbs < 10 ^ 200) ∧ ∀ H', Ex H H' → Q (.bl (isDueB ns us)) H'
theorem natAbs_div {a b : Int} (ha : 0 ≤ a) (hb : 0 < b) : (a / b).natAbs ≤ a.natAbs := by
  obtain ⟨n, hn⟩ := Int.eq_ofNat_of_zero_le ha
  obtain ⟨m, hm⟩ := Int.eq_ofNat_of_zero_le (show 0 ≤ b by omega)
  have e : (a / b).natAbs = a.natAbs / b.natAbs := by rw [hn, hm]; rfl
  rw [e]
  exact Nat.div_le_self _ _
theorem fil_nil {α : Type} {c : α → Bool} : ∀ (l : List α), decide (l.filter c = []) = l.all fun x => !c x
  | [] => rfl
  | x :: l => by
    have ih := fil_nil (c := c) l
    rw [List.filter_cons, List.all_cons, ← ih]
    cases h : c x with
    | true => rfl
    | false => rfl
end Ck

/-! profiles: what the law draws -/
namespace Ck
open PySem PySem.Spec PyProof.Rows L2 StX Evl
theorem isc_pws {ns : List Int} (h : IsC ns) : Pws ns := ⟨h.pw.imp fun h => ⟨h.1, Int.dvd_of_emod_eq_zero h.2⟩, fun n hn => (h.sz n hn).1⟩
theorem chd_isc {ns : List Int} {L : Int} (h : Chd ns L) (hl : ns.length ≤ 6) (hL : L < 10 ^ 27) : IsC ns := by
  have big : (10 : Int) ^ 27 < 10 ^ 200 := by decide +kernel
  refine ⟨fun e => ?_, by omega, fun n hn => ?_, h.pw.imp fun h => ⟨h.1, Int.emod_eq_zero_of_dvd h.2⟩⟩
  · obtain ⟨r, e2⟩ := h.last
    rw [e] at e2
    exact nomatch (List.append_eq_nil_iff.mp e2.symm).2
  · obtain ⟨a, b, _⟩ := h.pos n hn
    exact ⟨a, by omega⟩
theorem gr_rns {rs : List (Int × Int)} (h : GrR rs) : Rns rs := by
  have big : (10 : Int) ^ 28 < 10 ^ 200 := by decide +kernel
  have big2 : (10 : Int) ^ 32 < 10 ^ 200 := by decide +kernel
  have ln := h.ln
  refine ⟨fun r hr => ?_, by omega, by have := jr_len rs; omega⟩
  obtain ⟨⟨a, b⟩, c, d⟩ := h.ok r hr
  exact ⟨siz_of a (by omega), siz_of c (by omega)⟩
theorem sum_bound {rs : List (Int × Int)} {g : Int × Int → Int} {B : Int} (h : ∀ r ∈ rs, 0 ≤ g r ∧ g r ≤ B) : 0 ≤ (rs.map g).sum ∧ (rs.map g).sum ≤ rs.length * B ∧ ∀ r ∈ rs, g r ≤ (rs.map g).sum := by
  induction rs with
  | nil => exact ⟨Int.le_refl 0, by rw [List.length_nil]; show (0 : Int) ≤ 0 * B; rw [Int.zero_mul]; exact Int.le_refl 0, fun r hr => nomatch hr⟩
  | cons x t ih =>
    obtain ⟨i1, i2, i3⟩ := ih fun r hr => h r (List.mem_cons_of_mem _ hr)
    obtain ⟨x1, x2⟩ := h x List.mem_cons_self
    rw [List.map_cons, List.sum_cons, List.length_cons]
    have e : (((t.length + 1 : Nat) : Int)) * B = t.length * B + B := by rw [Int.natCast_add, Int.add_mul]; show _ + 1 * B = _; rw [Int.one_mul]
    refine ⟨by omega, by rw [e]; omega, fun r hr => ?_⟩
    rcases List.mem_cons.mp hr with rfl | hr
    · omega
    · have := i3 r hr
      omega
theorem snd_each : ∀ {l : List (Int × Int)}, (∀ r ∈ l, 0 < r.2) → 0 ≤ (l.map fun r => r.2).sum ∧ ∀ r ∈ l, r.2 ≤ (l.map fun r => r.2).sum
  | [], _ => ⟨Int.le_refl 0, fun r hr => nomatch hr⟩
  | x :: t, h => by
    obtain ⟨i1, i2⟩ := snd_each fun r hr => h r (List.mem_cons_of_mem _ hr)
    have x0 := h x List.mem_cons_self
    rw [List.map_cons, List.sum_cons]
    refine ⟨by omega, fun r hr => ?_⟩
    rcases List.mem_cons.mp hr with rfl | hr
    · omega
    · have := i2 r hr
      omega
theorem gr_sto {rs : List (Int × Int)} (h : GrR rs) : StoOk (jr rs) := by
  have big : (5 : Int) * 10 ^ 32 < 10 ^ 200 := by decide +kernel
  have big2 : (10 : Int) ^ 28 < 10 ^ 200 := by decide +kernel
  have ln := h.ln
  have pos : ∀ r ∈ jr rs, sizB r.1 = true ∧ 0 < r.2 := jr_all (P := fun r => sizB r.1 = true ∧ 0 < r.2) (fun a b c h1 h2 => ⟨h1.1, by have := h1.2; have := h2.2; show 0 < b + c; omega⟩) fun r hr => by
    obtain ⟨⟨a, b⟩, c, d⟩ := h.ok r hr
    exact ⟨siz_of a (by omega), c⟩
  have e := jr_sum (g := fun r => r.2) (fun a b c => rfl) rs
  obtain ⟨t0, t1, _⟩ := sum_bound (rs := rs) (g := fun r => r.2) (B := 10 ^ 32) fun r hr => by
    obtain ⟨_, c, d⟩ := h.ok r hr
    exact ⟨by show 0 ≤ r.2; omega, by show r.2 ≤ _; omega⟩
  have top : (rs.map fun r => r.2).sum ≤ 5 * 10 ^ 32 := Int.le_trans t1 (Int.mul_le_mul_of_nonneg_right (by omega) (by decide))
  refine ⟨fun r hr => ⟨(pos r hr).1, (pos r hr).2, ?_⟩, by have := jr_len rs; omega⟩
  have := (snd_each fun r hr => (pos r hr).2).2 r hr
  have := (pos r hr).2
  rw [e] at *
  omega
theorem unt_bound {rs : List (Int × Int)} (h : GrR rs) {s : Int} (hs : 0 < s) : 0 ≤ unt rs s ∧ unt rs s < 10 ^ 61 := by
  have ln := h.ln
  obtain ⟨t0, t1, _⟩ := sum_bound (rs := rs) (g := fun r => r.2 * (r.1 / s)) (B := 10 ^ 60) fun r hr => by
    obtain ⟨⟨a, b⟩, c, d⟩ := h.ok r hr
    have q0 : 0 ≤ r.1 / s := Int.ediv_nonneg (Int.le_of_lt a) (Int.le_of_lt hs)
    have q1 : r.1 / s ≤ 10 ^ 28 := Int.le_trans (Int.ediv_le_self s (Int.le_of_lt a)) (Int.le_of_lt b)
    refine ⟨Int.mul_nonneg (Int.le_of_lt c) q0, Int.le_trans (Int.mul_le_mul (Int.le_of_lt d) q1 q0 (by decide)) (by decide +kernel)⟩
  refine ⟨t0, Int.lt_of_le_of_lt t1 (Int.lt_of_le_of_lt (Int.mul_le_mul_of_nonneg_right (show (rs.length : Int) ≤ 5 by omega) (by decide)) (by decide +kernel))⟩
theorem plain_ok {ns us : List Int} (hs : ∀ n ∈ ns, 0 < n ∧ n.natAbs < 10 ^ 200) (hq : ∀ q ∈ quots ns, 0 < q) (hb : ∀ x ∈ us, cntB x = true) (hl : ns.length ≤ 12) : StoOk (prn ns us) := by
  have l := prn_len (ns := ns) (us := us)
  refine ⟨fun r hr => ?_, by omega⟩
  obtain ⟨a, b, _⟩ := prn_ok hs hq hb r hr
  obtain ⟨c, d⟩ := siz_int b
  exact ⟨a, by omega, d⟩
theorem oneO {X : Cx} {k j : Nat} {C : Addr} {sp : Sp} {ps : List Str} (c : Og X.prog X.w X.K X.mg X.base k C "__eq__" ps sp) (hne : PySem.W.findIn X.K (.ref C) "__ne__" = some (some (.builtin "object.__ne__"))) (hm : PySem.W.mroIn X.K C (.type "object") = some true) (hr : Room j X.A) (hk : k + 1 ≤ j := by decide) :
    OpR X (compareOp .NotEq) (fun x y H Q => ∃ a b dx dy fs gs, x = .ref a ∧ y = .ref b ∧ H a = some (.ins C dx fs) ∧ H b = some (.ins C dy gs) ∧ sp [.ref a, .ref b] H (fun v H' => ∃ b, v = .bl b ∧ Q (.bl (!b)) H') E0) := by
  obtain ⟨hc, g, fd, hs, hfn, hf, kp, F, b⟩ := c
  exact op_neO F hs hne hm hfn b (hr.mono hk)
section
variable {K : PySem.W.Frag} {C : Addr} {σ : L2.St} {H H' : Hp} {ta tb te tl : TE} {a p u d : Addr} {ns us : List Int} {rs : List (Int × Int)} {j1 j2 : Nat} {ws : List Nat}
theorem ev_isnotB {p q : Bool} (ha : Ev ta σ H (.bl p)) (hb : Ev tb σ H (.bl q)) : Ev (tOp (fun x y H Q => ∃ a b, x = .bl a ∧ y = .bl b ∧ Q (.bl (!decide (a = b))) H) ta tb) σ H (.bl (!decide (p = q))) := fun H1 e Q k => ha H1 e _ fun H2 e2 => hb H2 (e.trans e2) _ fun H3 e3 => ⟨p, q, rfl, rfl, k H3 (e2.trans e3)⟩
/-- a tuple of pairs comes -/
def Etp (K : PySem.W.Frag) (te : TE) (σ : L2.St) (H : Hp) (rs : List (Int × Int)) : Prop := ∀ H1, Ex H H1 → ∀ Q : VK, (∀ t ts H2, Ex H1 H2 → SqT K H2 t ts → F2 (RP K H2) ts rs → Q (.ref t) H2) → te σ H1 Q
theorem ed_etp (h : Etp K te σ H rs) : Ed K te σ H (rnD rs) := fun H1 e Q q => h H1 e Q fun t ts H2 e2 ht hf => q (.ref t) H2 e2 (dp_rns ht hf)
theorem el_lcPT (f : Int × Int → V) (h : Etp K tl σ H rs) (hz : rs.length ≤ 40000)
    (hw : ∀ x y, wipe (((wipe σ ws).set j1 (some x)).set j2 (some y)) ws = wipe σ ws) (he : ∀ p ∈ rs, ∀ H1, Ex H H1 → Ev te (((wipe σ ws).set j1 (some (.int p.1))).set j2 (some (.int p.2))) H1 (f p)) :
    EvL (tLc (iTup K tl) (gTup K 2 (gCons (gName j1) (gCons (gName j2) gNil))) tYes te ws) σ H (rs.map f) := fun H0 e0 Q q => h H0 e0 _ fun l ts H1 e1 hl hf => ⟨l, rfl, ⟨ts, hl⟩, fun D hD => by
  have e01 := e0.trans e1
  refine lc_it walk_tup (fun i H' => H1 D = none ∧ Ex H1 H' ∧ H' D = some (.lst ((rs.take i).map f))) ⟨hD, Ex.new hD, upd_same⟩ (fun i H' _ p => ex_t p.2.1 hl) ?_ ?_
  · rintro i x H' H2 hi ⟨p1, p2, p3⟩ ⟨rfl, hxi⟩
    obtain ⟨p, hp, t, rfl, hpt⟩ := hf.at hxi
    have m := List.mem_of_getElem? hp
    have st : rs.take (i + 1) = rs.take i ++ [p] := by rw [List.take_add_one, hp]; rfl
    have i12 : i < rs.length := (List.getElem?_eq_some_iff.mp hp).1
    refine ⟨t, _, rfl, ex_t p2 hpt, rfl, _, _, rfl, _, _, rfl, rfl, hw _ _, yes_go (iteT (he p m H2 (e01.trans p2) H2 (Ex.refl _) _ fun H5 e5 => ⟨_, e5 _ _ p3, sz_lt (by rw [List.length_map, List.length_take]; omega), p1, Ex.mut (p2.trans e5) p1, by rw [upd_same, st, List.map_append]; rfl⟩))⟩
  · rintro H' ⟨p1, p2, p3⟩
    rw [hf.len, List.take_of_length_le (Nat.le_refl _)] at p3
    exact q D H' (fresh_back e1 p1) (e1.trans p2) p3⟩
theorem StoAt.kd (hd : Dice H d) (k : Kd d H H') (h : StoAt K C H a rs) : StoAt K C H' a rs := by
  obtain ⟨dx, t, ts, h1, h2, h3⟩ := h.ex
  obtain ⟨x, y, z, e⟩ := hd
  exact ⟨dx, t, ts, k.1 _ _ (fun z => by rw [z, e] at h1; cases h1) h1, sqT_kp ⟨x, y, z, e⟩ k.1 h2, h3.imp fun x b r => r.kd ⟨_, _, _, e⟩ k⟩
theorem sh_ints (hl : us.length ≤ 12) (h : ∀ x ∈ us, cntB x = true) : Sh (.tuple (us.map PyData.int)) := by
  refine (shB_tuple (B := 200) (e := 0) fun d hd => ?_).ok (by decide) (by rw [List.length_map]; omega)
  obtain ⟨m, hm, rfl⟩ := List.mem_map.mp hd
  obtain ⟨a, b⟩ := cnt_nn (h m hm)
  exact shB_int a b
end
theorem etp_runs {K : PySem.W.Frag} {C : Addr} {σ : L2.St} {H : Hp} {te : TE} {a : Addr} {rs : List (Int × Int)} (h : Ev te σ H (.ref a)) (hl : StoAt K C H a rs) : Etp K (tProp C (spRuns K C) [] E0 te) σ H rs := fun H1 e Q q => h H1 e _ fun H2 e2 => by
  obtain ⟨dx, t, ts, h1, _⟩ := (hl.up (e.trans e2)).ex
  exact ⟨a, dx, _, rfl, h1, a, rs, rfl, hl.up (e.trans e2), fun t ts H' e3 ht hf => q t ts H' (e2.trans e3) ht hf⟩
/-- n in o, o a store -/
theorem et_sin {K : PySem.W.Frag} {C : Addr} {σ : L2.St} {H : Hp} {ta tb : TE} {a : Addr} {n : Int} {rs : List (Int × Int)} (ha : Ev ta σ H (.int n)) (h : Ev tb σ H (.ref a)) (hl : StoAt K C H a rs) (hz : rs.length ≤ 40) :
    Ev (tOp (fun x y H Q => ∃ a dx fs, y = .ref a ∧ H a = some (.ins C dx fs) ∧ spStoIn K C [.ref a, x] H (isB Q) E0) ta tb) σ H (.bl (sizB n && decide (n ∈ rs.map Prod.fst))) := fun H1 e Q q => ha H1 e _ fun H2 e2 => h H2 (e.trans e2) _ fun H3 e3 => by
  have st := hl.up ((e.trans e2).trans e3)
  obtain ⟨dx, t, ts, h1, _⟩ := st.ex
  exact ⟨a, dx, _, rfl, h1, a, n, rs, rfl, st, hz, fun H4 e4 => ⟨_, rfl, q H4 ((e2.trans e3).trans e4)⟩⟩
theorem map_at {α β : Type} {f g : α → β} : ∀ {l : List α}, l.map f = l.map g → ∀ x ∈ l, f x = g x
  | [], _, _, h => nomatch h
  | a :: l, e, x, h => by
    obtain ⟨e1, e2⟩ := List.cons.inj e
    rcases List.mem_cons.mp h with rfl | h
    · exact e1
    · exact map_at e2 x h
section
variable {K : PySem.W.Frag} {σ : L2.St} {H : Hp} {ta tb te : TE} {p d l : Addr} {ns zs : List Int} {xs ys : List V} {i j n : Nat} {P : Int → Prop}
theorem q_setK {z : TS} {D : Ends} (hd : Dice H d) (h : Ei d P te σ H) (hl : H l = some (.lst xs)) (ld : l ≠ d) (hto : σ[i]? = some (some (.ref l))) (hti : σ[j]? = some (some (.int (n : Int)))) (hn : n < xs.length) (k : ∀ y H1, P y → Kd d H H1 → z D σ (upd H1 l (.lst (xs.set n (.int y))))) :
    tSeq (tAsg te (gSub (tVar i) (tVar j) L2.rSetL)) z D σ H := h H (Kd.refl hd) _ fun v H1 k1 ⟨y, e, py⟩ => by
  subst e
  refine ⟨_, hto, _, hti, l, xs, (n : Int), n, rfl, rfl, k1.1 l _ ld hl, ?_, k y H1 py k1⟩
  unfold ixN
  rw [if_pos (by omega), if_pos (by omega)]
  rfl
theorem none_kd {H H' : Hp} (k : Kd d H H') (n : H' l = none) (ld : l ≠ d) : H l = none := by
  cases e : H l with
  | none => rfl
  | some o =>
    have z := k.1 l o ld e
    rw [n] at z
    cases z
theorem el_catI (ha : Eli ta σ H xs) (hb : EvL tb σ H ys) (hz : xs.length + ys.length ≤ 100000) : EvL (tOp rCat ta tb) σ H (xs ++ ys) := fun H1 e Q q => ha H1 e _ fun a H2 e2 hx => hb H2 (e.trans e2) _ fun b H3 n3 e3 hy =>
  ⟨a, b, xs, ys, rfl, rfl, e3 _ _ hx, hy, sz_of hz, fun p hp => q p _ (fresh_back (e2.trans e3) hp) ((e2.trans e3).trans (Ex.new hp)) upd_same⟩
theorem isprof_t (hp : SqT K H p (ns.map V.int)) (hc : chainB (ns.map V.int) = true) (hl : zs.length ≤ 1000) (h1 : Ev ta σ H (.ref p)) (h2 : Etu K tb σ H (zs.map V.int)) : Ev (tCall (spIsProf K) [] E0 (tCons ta (tCons tb tNil))) σ H (.bl (isPrB ns (zs.map V.int))) := fun H1 e Q q => h1 H1 e _ fun H2 e2 => h2 H2 (e.trans e2) _ fun t H3 e3 ht =>
  ⟨p, ns, _, _, rfl, ex_t ((e.trans e2).trans e3) hp, hc, .inl ⟨t, _, rfl, ht, by rw [List.length_map]; exact hl, elts_ints zs, rfl⟩, fun H4 e4 => q H4 ((e2.trans e3).trans e4)⟩
theorem dueL_t (hp : SqT K H p (ns.map V.int)) (ic : IsC ns) (hl : zs.length ≤ 100) (hb : ∀ x ∈ zs, x.natAbs < 10 ^ 200) (h1 : Ev ta σ H (.ref p)) (h2 : Etu K tb σ H (zs.map V.int)) : Ev (tCall (spDueL K) [] E0 (tCons ta (tCons tb tNil))) σ H (.bl (isDueB ns zs)) := fun H1 e Q q => h1 H1 e _ fun H2 e2 => h2 H2 (e.trans e2) _ fun t H3 e3 ht =>
  ⟨p, t, ns, zs, rfl, ex_t ((e.trans e2).trans e3) hp, ht, ic.ne, by have := ic.le; omega, hl, ic.sz, hb, fun H4 e4 => q H4 ((e2.trans e3).trans e4)⟩
theorem ei_ixL {x : Int} (hl : ∀ H1, Kd d H H1 → SqL K H1 l (ns.map V.int)) (hv : σ[i]? = some (some (.ref l))) (hw : σ[j]? = some (some (.int (n : Int)))) (hx : ns[n]? = some x) (hp : P x) : Ei d P (tOp (rIxL K) (tVar i) (tVar j)) σ H := fun H1 e Q q =>
  ⟨_, hv, _, hw, l, _, (n : Int), .int x, rfl, rfl, hl H1 e, atI_nat (by rw [List.getElem?_map, hx]; rfl), q _ H1 (Kd.refl e.2) ⟨x, rfl, hp⟩⟩
theorem ei_len {u : Addr} {B : Int} (hu : ∀ H1, Kd d H H1 → SqT K H1 u (ns.map V.int)) (hv : σ[i]? = some (some (.ref u))) (h0 : 0 < ns.length) (hB : (ns.length : Int) ≤ B) : Ei d (fun t => 0 < t ∧ t ≤ B) (tCB (fun xs H Q => ∃ p ys, xs = [V.ref p] ∧ (SqL K H p ys ∨ SqT K H p ys) ∧ Q (.int ys.length) H) (tCons (tVar i) tNil)) σ H := fun H1 e Q q =>
  ⟨_, hv, u, _, rfl, .inr (hu H1 e), q _ H1 (Kd.refl e.2) ⟨_, rfl, by rw [List.length_map]; omega, by rw [List.length_map]; exact hB⟩⟩
end
section
variable {K : PySem.W.Frag} {σ : L2.St} {H : Hp} {ta tb te : TE} {xs : List V} {Pr : V → Hp → Prop} {u : Addr} {z : V}
theorem es_etu (h : Etu K te σ H xs) (hp : ∀ p H1, SqT K H1 p xs → Pr (.ref p) H1) : Es Pr te σ H := fun H1 e Q q => h H1 e Q fun p H2 e2 k => q (.ref p) H2 e2 (hp p H2 k)
theorem etu_rep {n : Nat} (h : Etu K ta σ H [z]) (hb : Ev tb σ H (.int (n : Int))) (h0 : 1 ≤ n) (h1 : n ≤ 1000) : Etu K (tOp (L2.rRepT1 K) ta tb) σ H (List.replicate n z) := fun H1 e Q q => h H1 e _ fun l H2 e2 hl => hb H2 (e.trans e2) _ fun H3 e3 =>
  ⟨l, (n : Int), z, rfl, rfl, ex_t e3 hl, by omega, by omega, fun p H' hH hs => by
    rcases hH with rfl | ⟨o, hp, rfl⟩
    · exact q p _ (e2.trans e3) hs
    · exact q p _ ((e2.trans e3).trans (Ex.new hp)) hs⟩
theorem pf_len {ns zs : List Int} {p : Addr} (h : SqT K H p (zs.map V.int)) (hl : zs.length ≤ 1000) (hne : zs.length ≠ ns.length) : PfV K ns H (.ref p) false := .inl ⟨p, _, rfl, h, by rw [List.length_map]; exact hl, elts_ints zs, by
  unfold isPrB
  rw [List.length_map, decide_eq_false hne]
  rfl⟩
theorem pf_rep {ns : List Int} {p : Addr} {n : Nat} (h : SqT K H p (List.replicate n z)) (hn : 1 ≤ n) (hl : n ≤ 1000) (ho : OddI K H z) (hz : cntV z = false) : PfV K ns H (.ref p) false := .inl ⟨p, _, rfl, h, by rw [List.length_replicate]; exact hl, fun v hv => .inr (by rw [(List.mem_replicate.mp hv).2]; exact ho), by
  unfold isPrB
  obtain ⟨m, rfl⟩ : ∃ m, n = m + 1 := ⟨n - 1, by omega⟩
  rw [List.replicate_succ, List.all_cons, hz]
  simp⟩
end
def sto1 : List (Int × Int) := [(10, 2), (7, 3)]
section
variable {K : PySem.W.Frag} {CS : Addr} {σ : L2.St} {H : Hp} {Q : VK}
theorem mk_stoV {vs : List V} {rs : List (Int × Int)} (hf : F2 (RP K H) vs rs) (hr : Rns rs) (q : ∀ a H', Ex H H' → StoAt K CS H' a (jr rs) → Q (.ref a) H') : ∀ x dx, H x = Option.none → H dx = Option.none → dx ≠ x → spStoI K CS (V.ref x :: vs) (upd (upd H dx (.own x)) x (.ins CS dx [])) (fun v H2 => v = .non ∧ Q (.ref x) H2) E0 := fun x dx nx nd ne => by
  have n2 : (upd H dx (.own x)) x = none := by rw [upd_ne ne.symm]; exact nx
  exact ⟨x, dx, vs, rs, H, rfl, (Ex.new nd).trans (Ex.new n2), nx, upd_same, hf, hr, fun H' e' hst => ⟨rfl, q x H' e' hst⟩⟩
theorem mk_sto0 (q : ∀ x H', Ex H H' → StoAt K CS H' x [] → Q (.ref x) H') : tMakeR CS (spStoI K CS) E0 tNil σ H Q := mk_stoV (rs := []) .nil ⟨(fun r h => nomatch h), by decide, by decide⟩ q
theorem etu_t {tr : TA} {xs : List V} (h : EvA tr σ H xs) (hl : xs.length ≤ 100000) : Etu K (tTup tr) σ H xs := etu_of (eu_tup h hl)
theorem ed_plain {te tu : TE} {ns us : List Int} (hc : chainB (ns.map V.int) = true) (h1 : Etu K te σ H (ns.map V.int)) (h2 : Etu K tu σ H (us.map V.int)) (ul : us.length = ns.length) (uc : ∀ x ∈ us, cntB x = true) (pc : ∀ x ∈ pcs ns us, 0 ≤ x) (q : ∀ b H', Ex H H' → StoAt K CS H' b (prn ns us) → Q (.ref b) H') :
    tCall (spPlain K CS) [] E0 (tCons te (tCons tu tNil)) σ H Q := h1 H (Ex.refl H) _ fun p H1 e1 hp => h2 H1 e1 _ fun u H2 e2 hu => ⟨p, u, ns, us, rfl, ex_t e2 hp, hc, hu, ul, uc, pc, fun b H3 e3 hb => q b H3 ((e1.trans e2).trans e3) hb⟩
end
end Ck

namespace Lk38
open PySem PySem.Spec PyProof.Rows L2 Ck RZ
def topS (i : Nat) : Stmt := PySem.Challenge.pw_chainpacks_k38_profiles_told.main.body.getD i (.Pass ⟨0, 0, 0, 0⟩)
abbrev s__wall : Stmt := topS 0
abbrev n__wall : List Str := ["k"]
theorem sc__wall : FnScope n__wall ["k"] (defScope s__wall) := ⟨rfl, rfl, rfl, by decide +kernel, rfl, by decide +kernel, by decide +kernel⟩
abbrev s_is_integer : Stmt := topS 3
abbrev n_is_integer : List Str := ["value"]
theorem sc_is_integer : FnScope n_is_integer ["value"] (defScope s_is_integer) := ⟨rfl, rfl, rfl, by decide +kernel, rfl, by decide +kernel, by decide +kernel⟩
abbrev s_is_count : Stmt := topS 4
abbrev n_is_count : List Str := ["value"]
theorem sc_is_count : FnScope n_is_count ["value"] (defScope s_is_count) := ⟨rfl, rfl, rfl, by decide +kernel, rfl, by decide +kernel, by decide +kernel⟩
abbrev s_is_size : Stmt := topS 5
abbrev n_is_size : List Str := ["value"]
theorem sc_is_size : FnScope n_is_size ["value"] (defScope s_is_size) := ⟨rfl, rfl, rfl, by decide +kernel, rfl, by decide +kernel, by decide +kernel⟩
abbrev s_check_size : Stmt := topS 15
abbrev n_check_size : List Str := ["value"]
theorem sc_check_size : FnScope n_check_size ["value"] (defScope s_check_size) := ⟨rfl, rfl, rfl, by decide +kernel, rfl, by decide +kernel, by decide +kernel⟩
abbrev s_is_sizes : Stmt := topS 18
abbrev n_is_sizes : List Str := ["value", "size", "low", "high"]
theorem sc_is_sizes : FnScope n_is_sizes ["value"] (defScope s_is_sizes) := ⟨rfl, rfl, rfl, by decide +kernel, rfl, by decide +kernel, by decide +kernel⟩
abbrev s_first_gap : Stmt := topS 19
abbrev n_first_gap : List Str := ["sizes", "low", "high"]
theorem sc_first_gap : FnScope n_first_gap ["sizes"] (defScope s_first_gap) := ⟨rfl, rfl, rfl, by decide +kernel, rfl, by decide +kernel, by decide +kernel⟩
abbrev s_check_sizes : Stmt := topS 20
abbrev n_check_sizes : List Str := ["sizes"]
theorem sc_check_sizes : FnScope n_check_sizes ["sizes"] (defScope s_check_sizes) := ⟨rfl, rfl, rfl, by decide +kernel, rfl, by decide +kernel, by decide +kernel⟩
abbrev s_check_chain : Stmt := topS 21
abbrev n_check_chain : List Str := ["chain", "gap"]
theorem sc_check_chain : FnScope n_check_chain ["chain"] (defScope s_check_chain) := ⟨rfl, rfl, rfl, by decide +kernel, rfl, by decide +kernel, by decide +kernel⟩
abbrev s_quotients : Stmt := topS 22
abbrev n_quotients : List Str := ["chain", "low", "high"]
theorem sc_quotients : FnScope n_quotients ["chain"] (defScope s_quotients) := ⟨rfl, rfl, rfl, by decide +kernel, rfl, by decide +kernel, by decide +kernel⟩
abbrev s_is_run : Stmt := topS 24
abbrev n_is_run : List Str := ["value"]
theorem sc_is_run : FnScope n_is_run ["value"] (defScope s_is_run) := ⟨rfl, rfl, rfl, by decide +kernel, rfl, by decide +kernel, by decide +kernel⟩
abbrev s_number_of_all : Stmt := topS 25
abbrev n_number_of_all : List Str := ["runs", "run"]
theorem sc_number_of_all : FnScope n_number_of_all ["runs"] (defScope s_number_of_all) := ⟨rfl, rfl, rfl, by decide +kernel, rfl, by decide +kernel, by decide +kernel⟩
abbrev s_units_of : Stmt := topS 26
abbrev n_units_of : List Str := ["runs", "size", "run"]
theorem sc_units_of : FnScope n_units_of ["runs", "size"] (defScope s_units_of) := ⟨rfl, rfl, rfl, by decide +kernel, rfl, by decide +kernel, by decide +kernel⟩
abbrev s_joined_runs : Stmt := topS 27
abbrev n_joined_runs : List Str := ["runs", "joined", "run"]
theorem sc_joined_runs : FnScope n_joined_runs ["runs"] (defScope s_joined_runs) := ⟨rfl, rfl, rfl, by decide +kernel, rfl, by decide +kernel, by decide +kernel⟩
abbrev s_check_store : Stmt := topS 30
abbrev n_check_store : List Str := ["value"]
theorem sc_check_store : FnScope n_check_store ["value"] (defScope s_check_store) := ⟨rfl, rfl, rfl, by decide +kernel, rfl, by decide +kernel, by decide +kernel⟩
abbrev s__check_many : Stmt := topS 31
abbrev n__check_many : List Str := ["runs"]
theorem sc__check_many : FnScope n__check_many ["runs"] (defScope s__check_many) := ⟨rfl, rfl, rfl, by decide +kernel, rfl, by decide +kernel, by decide +kernel⟩
abbrev s_profile : Stmt := topS 34
abbrev n_profile : List Str := ["chain", "store", "size"]
theorem sc_profile : FnScope n_profile ["chain", "store"] (defScope s_profile) := ⟨rfl, rfl, rfl, by decide +kernel, rfl, by decide +kernel, by decide +kernel⟩
abbrev s_is_profile : Stmt := topS 35
abbrev n_is_profile : List Str := ["chain", "value", "units", "many"]
theorem sc_is_profile : FnScope n_is_profile ["chain", "value"] (defScope s_is_profile) := ⟨rfl, rfl, rfl, by decide +kernel, rfl, by decide +kernel, by decide +kernel⟩
abbrev s_plain_counts : Stmt := topS 36
abbrev n_plain_counts : List Str := ["chain", "units", "above", "high", "quotient", "low"]
theorem sc_plain_counts : FnScope n_plain_counts ["chain", "units"] (defScope s_plain_counts) := ⟨rfl, rfl, rfl, by decide +kernel, rfl, by decide +kernel, by decide +kernel⟩
abbrev s__plain : Stmt := topS 37
abbrev n__plain : List Str := ["chain", "units", "runs", "size", "many"]
theorem sc__plain : FnScope n__plain ["chain", "units"] (defScope s__plain) := ⟨rfl, rfl, rfl, by decide +kernel, rfl, by decide +kernel, by decide +kernel⟩
abbrev s_plain_store : Stmt := topS 38
abbrev n_plain_store : List Str := ["chain", "units"]
theorem sc_plain_store : FnScope n_plain_store ["chain", "units"] (defScope s_plain_store) := ⟨rfl, rfl, rfl, by decide +kernel, rfl, by decide +kernel, by decide +kernel⟩
abbrev s__pairs : Stmt := topS 39
abbrev n__pairs : List Str := ["chain", "one", "other"]
theorem sc__pairs : FnScope n__pairs ["chain", "one", "other"] (defScope s__pairs) := ⟨rfl, rfl, rfl, by decide +kernel, rfl, by decide +kernel, by decide +kernel⟩
abbrev s_are_alike : Stmt := topS 40
abbrev n_are_alike : List Str := ["chain", "one", "other", "units", "needed"]
theorem sc_are_alike : FnScope n_are_alike ["chain", "one", "other"] (defScope s_are_alike) := ⟨rfl, rfl, rfl, by decide +kernel, rfl, by decide +kernel, by decide +kernel⟩
abbrev s__law_dice : Stmt := topS 42
abbrev n__law_dice : List Str := ["script", "spot", "cell", "left"]
theorem sc__law_dice : FnScope n__law_dice ["script", "spot"] (defScope s__law_dice) := ⟨rfl, rfl, rfl, by decide +kernel, rfl, by decide +kernel, by decide +kernel⟩
abbrev s__law_roll : Stmt := topS 43
abbrev n__law_roll : List Str := ["dice", "total", "found", "one", "two"]
theorem sc__law_roll : FnScope n__law_roll ["dice", "total"] (defScope s__law_roll) := ⟨rfl, rfl, rfl, by decide +kernel, rfl, by decide +kernel, by decide +kernel⟩
abbrev s__law_pick : Stmt := topS 44
abbrev n__law_pick : List Str := ["dice", "items"]
theorem sc__law_pick : FnScope n__law_pick ["dice", "items"] (defScope s__law_pick) := ⟨rfl, rfl, rfl, by decide +kernel, rfl, by decide +kernel, by decide +kernel⟩
abbrev s__law_great : Stmt := topS 45
abbrev n__law_great : List Str := ["dice", "least", "way", "found", "turn"]
theorem sc__law_great : FnScope n__law_great ["dice", "least"] (defScope s__law_great) := ⟨rfl, rfl, rfl, by decide +kernel, rfl, by decide +kernel, by decide +kernel⟩
abbrev s__law_long_chain : Stmt := topS 46
abbrev n__law_long_chain : List Str := ["dice", "found", "turn", "step"]
theorem sc__law_long_chain : FnScope n__law_long_chain ["dice"] (defScope s__law_long_chain) := ⟨rfl, rfl, rfl, by decide +kernel, rfl, by decide +kernel, by decide +kernel⟩
abbrev s__law_great_store : Stmt := topS 47
abbrev n__law_great_store : List Str := ["dice", "sizes", "found", "turn", "room"]
theorem sc__law_great_store : FnScope n__law_great_store ["dice", "sizes"] (defScope s__law_great_store) := ⟨rfl, rfl, rfl, by decide +kernel, rfl, by decide +kernel, by decide +kernel⟩
abbrev s__law_made_store : Stmt := topS 48
abbrev n__law_made_store : List Str := ["runs", "rest", "one", "two", "three", "four", "five", "six", "seven", "eight"]
theorem sc__law_made_store : FnScope n__law_made_store ["runs"] (defScope s__law_made_store) := ⟨rfl, rfl, rfl, by decide +kernel, rfl, by decide +kernel, by decide +kernel⟩
abbrev s__law_space : Stmt := topS 49
abbrev n__law_space : List Str := ["runs", "size", "room", "number"]
theorem sc__law_space : FnScope n__law_space ["runs", "size"] (defScope s__law_space) := ⟨rfl, rfl, rfl, by decide +kernel, rfl, by decide +kernel, by decide +kernel⟩
abbrev s__law_is_due : Stmt := topS 50
abbrev n__law_is_due : List Str := ["chain", "value", "units", "at"]
theorem sc__law_is_due : FnScope n__law_is_due ["chain", "value"] (defScope s__law_is_due) := ⟨rfl, rfl, rfl, by decide +kernel, rfl, by decide +kernel, by decide +kernel⟩
abbrev s__law_right : Stmt := topS 51
abbrev n__law_right : List Str := ["dice", "chain", "runs", "store", "due", "plain", "turn", "at", "near", "odd", "size", "room", "number", "value"]
theorem sc__law_right : FnScope n__law_right ["dice"] (defScope s__law_right) := ⟨rfl, rfl, rfl, by decide +kernel, rfl, by decide +kernel, by decide +kernel⟩
abbrev s_law : Stmt := topS 52
abbrev n_law : List Str := ["script", "spot", "dice", "turn", "chain", "shelves", "told"]
theorem sc_law : FnScope n_law ["script"] (defScope s_law) := ⟨rfl, rfl, rfl, by decide +kernel, rfl, by decide +kernel, by decide +kernel⟩
abbrev s_Store_init : Stmt := inClass (topS 32) 0
abbrev n_Store_init : List Str := ["self", "runs", "run", "joined"]
theorem sc_Store_init : FnScope n_Store_init ["self", "runs"] (defScope s_Store_init) := ⟨rfl, rfl, rfl, by decide +kernel, rfl, by decide +kernel, by decide +kernel⟩
abbrev s_Store_runs : Stmt := inClass (topS 32) 2
abbrev n_Store_runs : List Str := ["self"]
theorem sc_Store_runs : FnScope n_Store_runs ["self"] (defScope s_Store_runs) := ⟨rfl, rfl, rfl, by decide +kernel, rfl, by decide +kernel, by decide +kernel⟩
abbrev s_Store_units : Stmt := inClass (topS 32) 8
abbrev n_Store_units : List Str := ["self", "size"]
theorem sc_Store_units : FnScope n_Store_units ["self", "size"] (defScope s_Store_units) := ⟨rfl, rfl, rfl, by decide +kernel, rfl, by decide +kernel, by decide +kernel⟩
abbrev s_Store_contains : Stmt := inClass (topS 32) 18
abbrev n_Store_contains : List Str := ["self", "x", "room", "_"]
theorem sc_Store_contains : FnScope n_Store_contains ["self", "x"] (defScope s_Store_contains) := ⟨rfl, rfl, rfl, by decide +kernel, rfl, by decide +kernel, by decide +kernel⟩
abbrev s_Store_eq : Stmt := inClass (topS 32) 21
abbrev n_Store_eq : List Str := ["self", "other"]
theorem sc_Store_eq : FnScope n_Store_eq ["self", "other"] (defScope s_Store_eq) := ⟨rfl, rfl, rfl, by decide +kernel, rfl, by decide +kernel, by decide +kernel⟩
structure Bl (mg : Str → Option Value) : Prop where
  abs : mg "abs" = none
  all : mg "all" = none
  bool : mg "bool" = none
  int : mg "int" = none
  isinstance : mg "isinstance" = none
  len : mg "len" = none
  list : mg "list" = none
  max : mg "max" = none
  min : mg "min" = none
  range : mg "range" = none
  repr : mg "repr" = none
  str : mg "str" = none
  sum : mg "sum" = none
  tuple : mg "tuple" = none
  zip : mg "zip" = none
structure Cs (mg : Str → Option Value) : Prop where
  one : True
  c_MAX_FIGURES : ∃ u, mg "MAX_FIGURES" = some u ∧ RelV (.int 200) u
  c_MAX_RUNS : ∃ u, mg "MAX_RUNS" = some u ∧ RelV (.int 40) u
  c_MAX_SIZES : ∃ u, mg "MAX_SIZES" = some u ∧ RelV (.int 12) u
def spLaw (K : PySem.W.Frag) : Sp := fun vs H Q _ => ∃ (a : Addr) (ns : List Int), vs = [.ref a] ∧ SqL K H a (ns.map V.int) ∧ ns.length ≤ 63 ∧ ∀ H', Q (.bl true) H'
section
variable {P : Program} {w : World} {K : PySem.W.Frag} {mg : Str → Option Value} {base : Heap}
theorem ok_int (B : Bl mg) (T : Cs mg) (D : Df K mg "is_integer" s_is_integer ["value"]) : Cl P w K mg base 1 "is_integer" (spNum K intB) := by
  refine cl_of D sc_is_integer (fun vs H Q E h => ?_) (fun f cdv A fr s H vs Q E hr h => ?_)
  · obtain ⟨x, b, rfl, _⟩ := h
    rfl
  · obtain ⟨x, b, rfl, hx, q⟩ := h
    refine ⟨_, (pss_cons (ps_if (pw_or (pt_not (pt_val (pe_callB call_isi (by rfl) B.isinstance bt_isinstance (pa_cons (pv 0) (pa_cons (pe_bltn (v := V.ty "int") (by rfl) B.int bt_int rfl) pa_nil))))) (pw_or1 (pt_val (pe_callB call_isi (by rfl) B.isinstance bt_isinstance (pa_cons (pv 0) (pa_cons (pe_bltn (v := V.ty "bool") (by rfl) B.bool bt_bool rfl) pa_nil)))))).pt (pss_one (ps_ret pe_bl)) pss_nil)
    (pss_cons (ps_if (pt_cmpR op_gt (pe_bits (pv 0)) (pe_op op_mul pe_int (pe_gc2 (by rfl) T.c_MAX_FIGURES)) (nomark _)) (pss_one (ps_ret pe_bl)) pss_nil)
     (pss_one (ps_ret (pe_cmpR op_le (pe_callB call_len_str (by rfl) B.len bt_len (pa_cons (pe_callTy call_str_int (by rfl) B.str bt_str (pa_cons (pe_callB call_abs (by rfl) B.abs bt_abs (pa_cons (pv 0) pa_nil)) pa_nil)) pa_nil)) (pe_gc2 (by rfl) T.c_MAX_FIGURES) (nomark _)))))), ?_⟩
    rcases hx with ⟨i, rfl, rfl⟩ | ⟨ho, rfl⟩
    · refine Evl.q_when (b := false) (Evl.et_is (Evl.et_or (Evl.et_not (Evl.et_B (ev_isi (Evl.ev_var rfl) Evl.ev_c (.ty _) (fun _ _ => .base (.int i)) (kit_ty (r := true) (by decide +kernel)))))
        (fun _ => Evl.et_B (ev_isi (Evl.ev_var rfl) Evl.ev_c (.ty _) (fun _ _ => .base (.int i)) (kit_ty (r := false) (by decide +kernel))))) rfl) (fun z => nomatch z) (fun _ H1 e1 => ?_)
      refine Evl.q_when (Evl.et_test (ev_i0 (ev_bits (Evl.ev_var rfl)) (ev_i Evl.ev_c Evl.ev_c (.inl (by decide))))) (fun z H2 e2 => ?_) (fun z H2 e2 => ?_)
      · have z' := bits_big (of_decide_eq_true z)
        rw [z'] at q
        exact q H2 (e1.trans e2)
      · have z' := bits_small (of_decide_eq_false z)
        refine Evl.s_ret (Evl.ev_is (ev_i0 (ev_lenS (ev_strI (ev_abs (Evl.ev_var rfl)) ?_) ?_) Evl.ev_c) (congrArg V.bl (short_eq i))) (fun H3 e3 => q H3 ((e1.trans e2).trans e3))
        · rw [abs_if]
          exact z'
        · rw [abs_if]
          have lt : i.natAbs < 10 ^ 600 := Nat.lt_trans (Nat.lt_of_lt_of_le Nat.lt_log2_self (Nat.pow_le_pow_right (by decide) z')) (by decide +kernel)
          exact Nat.le_trans ((num_len i.natAbs 600 (by decide)).mpr lt) (by decide)
    · cases ho with
      | no n h k =>
        refine Evl.q_when (b := true) (Evl.et_is (Evl.et_or (b := true) (Evl.et_not (Evl.et_B (ev_isi (Evl.ev_var rfl) Evl.ev_c (.ty _) (fun _ e => tyM e h) (kit_ty k)))) (fun z => nomatch z)) rfl) (fun _ H1 e1 => ?_) (fun z => nomatch z)
        exact q H1 e1
      | bl b h =>
        subst h
        refine Evl.q_when (b := true) (Evl.et_is (Evl.et_or (Evl.et_not (Evl.et_B (ev_isi (Evl.ev_var rfl) Evl.ev_c (.ty _) (fun _ _ => .base (.bl b)) (kit_ty (r := true) (by decide +kernel)))))
          (fun _ => Evl.et_B (ev_isi (Evl.ev_var rfl) Evl.ev_c (.ty _) (fun _ _ => .base (.bl b)) (kit_ty (r := true) (by decide +kernel))))) rfl) (fun _ H1 e1 => ?_) (fun z => nomatch z)
        exact q H1 e1
theorem ok_count (B : Bl mg) (D : Df K mg "is_count" s_is_count ["value"]) (C_is_integer : Cl P w K mg base 1 "is_integer" (spNum K intB)) : Cl P w K mg base 2 "is_count" (spNum K cntB) := by
  refine cl_of D sc_is_count (fun vs H Q E h => ?_) (fun f cdv A fr s H vs Q E hr h => ?_)
  · obtain ⟨x, b, rfl, _⟩ := h
    rfl
  · obtain ⟨x, b, rfl, hx, q⟩ := h
    refine ⟨_, (pss_one (ps_ret (pe_and (pcal C_is_integer hr (pa_cons (pv 0) pa_nil)) (pe_one (pe_cmpR op_ge (pv 0) pe_int (nomark _)))))), ?_⟩
    rcases hx with ⟨i, rfl, rfl⟩ | ⟨ho, rfl⟩
    · exact Evl.s_ret (Evl.ev_andV (ev_call1 (Evl.ev_var rfl) num_i) (fun _ => ev_i0 (Evl.ev_var rfl) Evl.ev_c)) q
    · exact Evl.s_ret (Evl.ev_is (Evl.ev_andV (b := true) (ev_call1 (Evl.ev_var rfl) (num_o ho)) (fun z => nomatch z)) rfl) q
theorem ok_size (B : Bl mg) (D : Df K mg "is_size" s_is_size ["value"]) (C_is_integer : Cl P w K mg base 1 "is_integer" (spNum K intB)) : Cl P w K mg base 2 "is_size" (spNum K sizB) := by
  refine cl_of D sc_is_size (fun vs H Q E h => ?_) (fun f cdv A fr s H vs Q E hr h => ?_)
  · obtain ⟨x, b, rfl, _⟩ := h
    rfl
  · obtain ⟨x, b, rfl, hx, q⟩ := h
    refine ⟨_, (pss_one (ps_ret (pe_and (pcal C_is_integer hr (pa_cons (pv 0) pa_nil)) (pe_one (pe_cmpR op_ge (pv 0) pe_int (nomark _)))))), ?_⟩
    rcases hx with ⟨i, rfl, rfl⟩ | ⟨ho, rfl⟩
    · exact Evl.s_ret (Evl.ev_andV (ev_call1 (Evl.ev_var rfl) num_i) (fun _ => ev_i0 (Evl.ev_var rfl) Evl.ev_c)) q
    · exact Evl.s_ret (Evl.ev_is (Evl.ev_andV (b := true) (ev_call1 (Evl.ev_var rfl) (num_o ho)) (fun z => nomatch z)) rfl) q

theorem siz_num {K : PySem.W.Frag} {H : Hp} {v : V} (h : (∃ i, v = .int i) ∨ OddI K H v) : Evl.SpV (spNum K sizB) [v] H (.bl (sizV v)) := by
  rcases h with ⟨i, rfl⟩ | h
  · exact num_i
  · have z := num_o (p := sizB) h
    cases h with
    | no n h k =>
      cases v with
      | int i =>
        cases h with
        | base b => cases b; exact absurd k (by decide +kernel)
      | _ => exact z
    | bl b h => subst h; exact z
theorem ok_sizes (B : Bl mg) (T : Cs mg) (D : Df K mg "is_sizes" s_is_sizes ["value"]) (C_is_size : Cl P w K mg base 2 "is_size" (spNum K sizB)) : Cg P w K mg base CX0 3 "is_sizes" (spArg K sizesB) := by
  refine cg_of D sc_is_sizes (fun vs H Q E h => ?_) (fun f cdv A fr s H vs Q E hr hgd h => ?_)
  · obtain ⟨x, b, rfl, _⟩ := h
    rfl
  · obtain ⟨x, b, rfl, hx, q⟩ := h
    refine ⟨_, (pss_cons (ps_if (pw_or (pt_not (pt_val (pe_callB call_isi (by rfl) B.isinstance bt_isinstance (pa_cons (pv 0) (pa_cons (pe_bltn (v := V.ty "tuple") (by rfl) B.tuple bt_tuple rfl) pa_nil))))) (pw_or1 (pt_not (pt_chain op_le op_le pe_int (pe_callB call_len_seq (by rfl) B.len bt_len (pa_cons (pv 0) pa_nil)) (pe_gc2 (by rfl) T.c_MAX_SIZES))))).pt (pss_one (ps_ret pe_bl)) pss_nil)
    (pss_cons (ps_if (pt_not (pt_val (pe_callB (cr_all rfl) (by rfl) B.all bt_all (pa_cons (pe_lc (own := [("size", 1)]) (g := (gName 1)) rfl sc_is_sizes.nd (pi_tup (pv 0)) (blkOk_by (own := [("size", 1)]) (N := n_is_sizes) (sc := defScope s_is_sizes) (by decide +kernel)) (fun _ _ _ _ _ => (pg_name (i := 1) sc_is_sizes.nd rfl (by first | exact Or.inl rfl | exact Or.inr rfl))) (fun _ _ _ _ _ => pts_nil) (fun _ _ _ _ _ => (pcg (Cl.g C_is_size) hr hgd (pa_cons (pv 1) pa_nil)))) pa_nil)))) (pss_one (ps_ret pe_bl)) pss_nil)
     (pss_one (ps_ret (pe_callB (cr_all rfl) (by rfl) B.all bt_all (pa_cons (pe_lc (own := [("low", 2), ("high", 3)]) (g := (gTup K 2 (gCons (gName 2) (gCons (gName 3) gNil)))) rfl sc_is_sizes.nd (pi_zipA (by rfl) B.zip (pa_cons (pv 0) (pa_cons (pe_slice sl_tupA (pv 0) (po_some pe_int) po_none) pa_nil))) (blkOk_by (own := [("low", 2), ("high", 3)]) (N := n_is_sizes) (sc := defScope s_is_sizes) (by decide +kernel)) (fun _ _ _ _ _ => (pg_tup (n := 2) rfl (pgs_cons (pg_name (i := 2) sc_is_sizes.nd rfl (by first | exact Or.inl rfl | exact Or.inr rfl)) (pgs_cons (pg_name (i := 3) sc_is_sizes.nd rfl (by first | exact Or.inl rfl | exact Or.inr rfl)) pgs_nil)))) (fun _ _ _ _ _ => pts_nil) (fun _ _ _ _ _ => (pe_cmpR op_lt (pv 2) (pv 3) (nomark _)))) pa_nil)))))), ?_⟩
    rcases hx with ⟨p, xs, rfl, hp, hl, he, rfl⟩ | ⟨⟨n, h, k⟩, rfl⟩
    · have tt : ∀ H1, Evl.Ex H H1 → TyX K H1 (.ref p) (.type "tuple") := fun H1 e => ty_tup (Evl.ex_t e hp)
      refine Evl.q_when (b := !(decide (1 ≤ xs.length) && decide (xs.length ≤ 12))) (Evl.et_is (Evl.et_or (Evl.et_not (Evl.et_B (ev_isi (Evl.ev_var rfl) Evl.ev_c (.ty _) tt (kit_ty (r := true) (by decide +kernel)))))
        (fun _ => Evl.et_not (Evl.et_test (ev_chain Evl.ev_c (ev_lenT (Evl.ev_var rfl) hp) Evl.ev_c)))) ?_) (fun z H1 e1 => ?_) (fun z H1 e1 => ?_)
      · show (!true || !(decide ((1 : Int) ≤ (xs.length : Int)) && decide ((xs.length : Int) ≤ 12))) = _
        rw [Bool.not_true, Bool.false_or, decide_eq_decide.mpr (show (1 : Int) ≤ (xs.length : Int) ↔ 1 ≤ xs.length by omega), decide_eq_decide.mpr (show (xs.length : Int) ≤ 12 ↔ xs.length ≤ 12 by omega)]
      · have e : sizesB xs = false := by unfold sizesB; rw [nt z]; rfl
        rw [e] at q
        exact q H1 e1
      · have hb := nf z
        have hp1 := Evl.ex_t e1 hp
        refine Evl.q_when (b := !(xs.all sizV)) (Evl.et_not (Evl.et_B (Evl.ev_is (ev_all (K := K) (bs := xs.map sizV) (by
          rw [List.map_map]
          exact el_lcT (V.bl ∘ sizV) (Evl.ev_var rfl) hp1 (by omega) (fun _ => rfl) (fun x H2 e2 hx => ev_call1 (Evl.ev_var rfl) (siz_num ((he.mono (e1.trans e2)) x hx))))) (by rw [List.all_map]; rfl)))) (fun z2 H2 e2 => ?_) (fun z2 H2 e2 => ?_)
        · have e : sizesB xs = false := by unfold sizesB; rw [nt z2, hb]; rfl
          rw [e] at q
          exact q H2 (e1.trans e2)
        · have ha := nf z2
          have hi := ints_of_siz ha
          generalize hns : intsOf xs = ns at hi
          subst hi
          rw [List.length_map] at hb hl
          have hne : ns ≠ [] := fun z => by rw [z] at hb; exact absurd hb (by decide)
          refine Evl.s_ret (Evl.ev_is (ev_all (K := K) (bs := adj (fun x y => decide (x < y)) ns) (by
            rw [adj_map]
            exact el_zip (fun x y => .bl (decide (x < y))) rfl (Evl.ex_t e2 hp1) hne (by omega) (fun _ _ => rfl) (fun i H3 _ _ => ev_i0 (Evl.ev_var rfl) (Evl.ev_var rfl)))) ?_) (fun H3 e3 => q H3 ((e1.trans e2).trans e3))
          unfold sizesB
          rw [List.length_map, hb, ha, intsOf_map]
          rfl
    · refine Evl.q_when (b := true) (Evl.et_is (Evl.et_or (b := true) (Evl.et_not (Evl.et_B (ev_isi (Evl.ev_var rfl) Evl.ev_c (.ty _) (fun _ e => tyM e h) (kit_ty k)))) (fun z => nomatch z)) rfl) (fun _ H1 e1 => ?_) (fun z => nomatch z)
      exact q H1 e1
theorem ok_gap (B : Bl mg) (D : Df K mg "first_gap" s_first_gap ["sizes"]) : Cg P w K mg base CX0 1 "first_gap" (spGap K) := by
  refine cg_of D sc_first_gap (fun vs H Q E h => ?_) (fun f cdv A fr s H vs Q E hr hgd h => ?_)
  · obtain ⟨p, ns, rfl, _⟩ := h
    rfl
  · obtain ⟨p, ns, rfl, hp, hne, hpos, q⟩ := h
    refine ⟨_, (pss_cons (ps_for PassesOwn.never rfl (pi_zipA (by rfl) B.zip (pa_cons (pv 0) (pa_cons (pe_slice sl_tupA (pv 0) (po_some pe_int) po_none) pa_nil))) (pg_tup (n := 2) rfl (pgs_cons (pg_name (i := 1) sc_first_gap.nd rfl (by first | exact Or.inl rfl | exact Or.inr rfl)) (pgs_cons (pg_name (i := 2) sc_first_gap.nd rfl (by first | exact Or.inl rfl | exact Or.inr rfl)) pgs_nil))) (pss_one (ps_if (pt_cmpR op_ne (pe_op op_mod (pv 2) (pv 1)) pe_int (nomark _)) (pss_one (ps_ret (pe_tup (pa_cons (pv 1) (pa_cons (pv 2) pa_nil))))) pss_nil)))
    (pss_one (ps_ret pe_non))), ?_⟩
    refine zip_go (K := K) rfl hp hne fun c hc => ?_
    have hp1 := Evl.ex_t (Evl.Ex.new (o := .tup ((ns.drop 1).map V.int)) hc) hp
    have hc1 : SqT K (upd H c (.tup ((ns.drop 1).map V.int))) c ((ns.drop 1).map V.int) := SqT.of upd_same
    have e0 : Evl.Ex H (upd H c (.tup ((ns.drop 1).map V.int))) := Evl.Ex.new hc
    generalize upd H c (.tup ((ns.drop 1).map V.int)) = H1 at hp1 hc1 e0 ⊢
    refine for_it (walk_zipT (min_zip ns)) (fun i σ H' => Evl.Ex H1 H' ∧ (∃ y z, σ = [some (.ref p), y, z]) ∧ ∀ j, j < i → ns.getD (j + 1) 0 % ns.getD j 0 = 0) ⟨Evl.Ex.refl _, ⟨_, _, rfl⟩, fun j hj => absurd hj (Nat.not_lt_zero j)⟩
      (fun i σ H' _ h => ⟨Evl.ex_t h.1 hp1, Evl.ex_t h.1 hc1⟩) ?_ ?_
    · rintro i _ σ H' _ hi ⟨e1, ⟨y0, z0, rfl⟩, hj⟩ ⟨t, x, y, rfl, ht, rfl, hx, hy⟩
      obtain ⟨rfl, rfl, hi2⟩ := at_zip hx hy
      have lp : 0 < ns.getD i 0 := by
        rw [List.getD_eq_getElem?_getD, List.getElem?_eq_getElem (show i < ns.length by omega)]
        exact hpos _ (List.getElem_mem _)
      refine ⟨t, _, rfl, SqT.of upd_same, rfl, _, _, rfl, _, _, rfl, rfl, ?_⟩
      refine Evl.s_if (b := !decide (ns.getD (i + 1) 0 % ns.getD i 0 = 0)) (Evl.et_test (Evl.ev_is (ev_ne (ev_i (Evl.ev_var rfl) (Evl.ev_var rfl) lp) Evl.ev_c rfl) ?_)) (fun z H2 e2 => ?_) (fun z H2 e2 => ?_)
      · exact decI _ _
      · have e : gap ns = some (ns.getD i 0, ns.getD (i + 1) 0) := gap_some hi2 hj (by have z' := nt z; exact of_decide_eq_false z')
        rw [e] at q
        refine ed_tup (K := K) (ed_cons (ed_int (Evl.ev_var rfl)) (ed_cons (ed_int (Evl.ev_var rfl)) ed_nil)) (show 2 ≤ 100000 by decide) H2 (Evl.Ex.refl H2) _ (fun v H3 e3 hd => ?_)
        exact q v H3 (((e0.trans e1).trans (Evl.Ex.new ht)).trans (e2.trans e3)) hd
      · refine ⟨(e1.trans (Evl.Ex.new ht)).trans e2, ⟨_, _, rfl⟩, fun j hj2 => ?_⟩
        by_cases ej : j = i
        · rw [ej]; exact of_decide_eq_true (nf z)
        · exact hj j (by omega)
    · rintro σ H' ⟨e1, ⟨y0, z0, rfl⟩, hj⟩
      have e : gap ns = none := gap_none hj
      rw [e] at q
      exact q .non H' (e0.trans e1) .non
theorem gap_d {H : Hp} {p : Addr} {ns : List Int} (hp : SqT K H p (ns.map V.int)) (hne : ns ≠ []) (hpos : ∀ n ∈ ns, 0 < n) : SpD K (spGap K) [.ref p] H (gapD (gap ns)) := fun H1 e Q q E => ⟨p, ns, rfl, Evl.ex_t e hp, hne, hpos, q⟩
theorem arg_ints {f : List V → Bool} {H : Hp} {p : Addr} {ns : List Int} (hp : SqT K H p (ns.map V.int)) (hl : ns.length ≤ 1000) : Evl.SpV (spArg K f) [.ref p] H (.bl (f (ns.map V.int))) :=
  arg_v (.inl ⟨p, _, rfl, hp, by rw [List.length_map]; exact hl, elts_ints ns, rfl⟩)
theorem ok_chk (B : Bl mg) (D : Df K mg "check_sizes" s_check_sizes ["sizes"]) (C_is_sizes : Cg P w K mg base CX0 3 "is_sizes" (spArg K sizesB)) : Cg P w K mg base CX0 4 "check_sizes" (spChk K sizesB) := by
  refine cg_of D sc_check_sizes (fun vs H Q E h => ?_) (fun f cdv A fr s H vs Q E hr hgd h => ?_)
  · obtain ⟨p, ns, rfl, _⟩ := h
    rfl
  · obtain ⟨p, ns, rfl, hp, hs, q⟩ := h
    refine ⟨_, (pss_one (ps_if (pt_not (pt_val (pcg C_is_sizes hr hgd (pa_cons (pv 0) pa_nil)))) (pss_one ps_never) pss_nil)), ?_⟩
    refine Evl.s_when (b := false) (Evl.et_is (Evl.et_not (Evl.et_B (ev_call1 (Evl.ev_var rfl) (arg_ints (f := sizesB) hp (by have := (sizes_ints hs).2.1; omega))))) (by rw [hs]; rfl)) (fun z => nomatch z) (fun _ H1 e1 => q H1 e1)
theorem chk_v {f : List V → Bool} {H : Hp} {p : Addr} {ns : List Int} (hp : SqT K H p (ns.map V.int)) (h : f (ns.map V.int) = true) : Evl.SpV (spChk K f) [.ref p] H .non := fun H1 e Q q E => ⟨p, ns, rfl, Evl.ex_t e hp, h, q⟩
theorem ok_chkc (B : Bl mg) (D : Df K mg "check_chain" s_check_chain ["chain"]) (C_check_sizes : Cg P w K mg base CX0 4 "check_sizes" (spChk K sizesB)) (C_first_gap : Cg P w K mg base CX0 1 "first_gap" (spGap K)) : Cg P w K mg base CX0 5 "check_chain" (spChk K chainB) := by
  refine cg_of D sc_check_chain (fun vs H Q E h => ?_) (fun f cdv A fr s H vs Q E hr hgd h => ?_)
  · obtain ⟨p, ns, rfl, _⟩ := h
    rfl
  · obtain ⟨p, ns, rfl, hp, hs, q⟩ := h
    refine ⟨_, (pss_cons (ps_expr (pcg C_check_sizes hr hgd (pa_cons (pv 0) pa_nil)))
    (pss_cons (ps_set (i := 1) sc_check_chain.nd rfl (by first | exact Or.inl rfl | exact Or.inr rfl) (pcg C_first_gap hr hgd (pa_cons (pv 0) pa_nil)))
     (pss_one (ps_if (pt_cmpR op_notN (pv 1) pe_non (nomark _)) (pss_one ps_never) pss_nil)))), ?_⟩
    obtain ⟨hz, hg⟩ := chain_ints hs
    obtain ⟨hne, _, hpos, _⟩ := sizes_ints hz
    refine Evl.q_drop (ev_call1 (Evl.ev_var rfl) (chk_v hp hz)) (fun H1 e1 => ?_)
    refine sq_asgD (ed_call1 (Evl.ev_var rfl) (gap_d (Evl.ex_t e1 hp) hne fun n hn => (hpos n hn).1)) (fun v H2 e2 hd => ?_)
    rw [hg] at hd
    rw [dp_non hd]
    exact Evl.s_when (b := false) (Evl.et_test (Evl.ev_is (ev_notN (Evl.ev_var rfl)) rfl)) (fun z => nomatch z) (fun _ H3 e3 => q H3 (e1.trans (e2.trans e3)))
theorem ok_quots (B : Bl mg) (D : Df K mg "quotients" s_quotients ["chain"]) (C_check_chain : Cg P w K mg base CX0 5 "check_chain" (spChk K chainB)) : Cg P w K mg base CX0 6 "quotients" (spDat K chainB qD) := by
  refine cg_of D sc_quotients (fun vs H Q E h => ?_) (fun f cdv A fr s H vs Q E hr hgd h => ?_)
  · obtain ⟨p, ns, rfl, _⟩ := h
    rfl
  · obtain ⟨p, ns, rfl, hp, hs, q⟩ := h
    refine ⟨_, (pss_cons (ps_expr (pcg C_check_chain hr hgd (pa_cons (pv 0) pa_nil)))
    (pss_one (ps_ret (pe_callTy call_tuple_of (by rfl) B.tuple bt_tuple (pa_cons (pe_lc (own := [("low", 1), ("high", 2)]) (g := (gTup K 2 (gCons (gName 1) (gCons (gName 2) gNil)))) rfl sc_quotients.nd (pi_zipA (by rfl) B.zip (pa_cons (pv 0) (pa_cons (pe_slice sl_tupA (pv 0) (po_some pe_int) po_none) pa_nil))) (blkOk_by (own := [("low", 1), ("high", 2)]) (N := n_quotients) (sc := defScope s_quotients) (by decide +kernel)) (fun _ _ _ _ _ => (pg_tup (n := 2) rfl (pgs_cons (pg_name (i := 1) sc_quotients.nd rfl (by first | exact Or.inl rfl | exact Or.inr rfl)) (pgs_cons (pg_name (i := 2) sc_quotients.nd rfl (by first | exact Or.inl rfl | exact Or.inr rfl)) pgs_nil)))) (fun _ _ _ _ _ => pts_nil) (fun _ _ _ _ _ => (pe_op op_fdivW (pv 2) (pv 1)))) pa_nil))))), ?_⟩
    obtain ⟨hz, hg⟩ := chain_ints hs
    obtain ⟨hne, hl, hpos, _⟩ := sizes_ints hz
    refine Evl.q_drop (ev_call1 (Evl.ev_var rfl) (chk_v hp hs)) (fun H1 e1 => ?_)
    refine st_retD (ed_tupleL (ds := (quots ns).map PyData.int) (el_zip (K := K) (fun x y => .int (y / x)) rfl (Evl.ex_t e1 hp) hne (by omega) (fun _ _ => rfl) (fun i H2 _ hi => ?_)) (fun H2 => ?_)) (fun v H2 e2 hd => q v H2 (e1.trans e2) hd)
    · refine ev_i (Evl.ev_var rfl) (Evl.ev_var rfl) ?_
      have z := hpos (ns.getD i 0) (by
        rw [List.getD_eq_getElem?_getD, List.getElem?_eq_getElem (show i < ns.length by omega)]
        exact List.getElem_mem _)
      exact divW z.1 z.2
    · rw [← adj_map (fun x y => y / x) V.int]
      exact dpa_ints _
/-- sizes and counts of numbers -/
def spCut : Sp := fun vs H Q _ => ∃ a b : Int, vs = [.int a, .int b] ∧ sizB a = true ∧ cntB b = true ∧ ∀ H', Evl.Ex H H' → Q (.int (b / a * a)) H'
def spChkN (f : Int → Bool) : Sp := fun vs H Q _ => ∃ a : Int, vs = [.int a] ∧ f a = true ∧ ∀ H', Evl.Ex H H' → Q .non H'
theorem ok_chks (B : Bl mg) (D : Df K mg "check_size" s_check_size ["value"]) (C_is_size : Cl P w K mg base 2 "is_size" (spNum K sizB)) : Cl P w K mg base 3 "check_size" (spChkN sizB) := by
  refine cl_of D sc_check_size (fun vs H Q E h => ?_) (fun f cdv A fr s H vs Q E hr h => ?_)
  · obtain ⟨a, rfl, _⟩ := h
    rfl
  · obtain ⟨a, rfl, ha, q⟩ := h
    refine ⟨_, (pss_one (ps_if (pt_not (pt_val (pcal C_is_size hr (pa_cons (pv 0) pa_nil)))) (pss_one ps_never) pss_nil)), ?_⟩
    exact Evl.s_when (b := false) (Evl.et_is (Evl.et_not (Evl.et_B (ev_call1 (Evl.ev_var rfl) num_i))) (by rw [ha]; rfl)) (fun z => nomatch z) (fun _ H1 e1 => q H1 e1)
theorem chkn_v {f : Int → Bool} {H : Hp} {a : Int} (h : f a = true) : Evl.SpV (spChkN f) [.int a] H .non := fun H1 e Q q E => ⟨a, rfl, h, q⟩
theorem et_lst {te : TE} {σ : L2.St} {H : Hp} {l : Addr} {xs : List V} (h : Evl.Ev te σ H (.ref l)) (hl : H l = some (.lst xs)) : Evl.EvT (fun σ H Q => te σ H fun x H' => ∃ k, TruV K x H' k ∧ Q k H') σ H (!xs.isEmpty) := fun H1 e _ q => h H1 e _ fun H2 e2 => ⟨_, .inl ⟨xs, SqL.of ((e.trans e2) _ _ hl), rfl⟩, q H2 e2⟩
theorem ok_isrun (B : Bl mg) (D : Df K mg "is_run" s_is_run ["value"]) (C_is_size : Cl P w K mg base 2 "is_size" (spNum K sizB)) : Cl P w K mg base 3 "is_run" (spIsRun K) := by
  refine cl_of D sc_is_run (fun vs H Q E h => ?_) (fun f cdv A fr s H vs Q E hr h => ?_)
  · obtain ⟨t, a, b, rfl, _⟩ := h
    rfl
  · obtain ⟨t, a, b, rfl, ht, q⟩ := h
    refine ⟨_, (pss_one (ps_ret (pe_and (pe_callB call_isi (by rfl) B.isinstance bt_isinstance (pa_cons (pv 0) (pa_cons (pe_bltn (v := V.ty "tuple") (by rfl) B.tuple bt_tuple rfl) pa_nil))) (pe_and (pe_cmpR op_eq (pe_callB call_len_seq (by rfl) B.len bt_len (pa_cons (pv 0) pa_nil)) pe_int (nomark _)) (pe_and (pcal C_is_size hr (pa_cons (pe_ix ix_tup (pv 0) pe_int (fun _ _ => rfl)) pa_nil)) (pe_one (pcal C_is_size hr (pa_cons (pe_ix ix_tup (pv 0) pe_int (fun _ _ => rfl)) pa_nil)))))))), ?_⟩
    exact Evl.s_ret (Evl.ev_is (Evl.ev_andV (a := true) (ev_isi (Evl.ev_var rfl) Evl.ev_c (.ty _) (fun H1 e => ty_tup (Evl.ex_t e ht)) (kit_ty (r := true) (by decide +kernel))) (fun _ => Evl.ev_andV (a := true) (Evl.ev_is (ev_eq (ev_lenT (Evl.ev_var rfl) ht) Evl.ev_c rfl) rfl) (fun _ => Evl.ev_andV (ev_call1 (ev_ixT (Evl.ev_var rfl) Evl.ev_c ht (atI_0 _ _)) num_i) (fun _ => ev_call1 (ev_ixT (Evl.ev_var rfl) Evl.ev_c ht (atI_nat (j := 1) rfl)) num_i)))) rfl) q
theorem isrun_v {H : Hp} {x : V} {a b : Int} (h : RP K H x (a, b)) : Evl.SpV (spIsRun K) [x] H (.bl (sizB a && sizB b)) := fun H1 e Q q E => by
  obtain ⟨t, rfl, ht⟩ := h
  exact ⟨t, a, b, rfl, Evl.ex_t e ht, q⟩
theorem ok_unitsof (B : Bl mg) (D : Df K mg "units_of" s_units_of ["runs", "size"]) : Cl P w K mg base 1 "units_of" (spUnitsOf K) := by
  refine cl_of D sc_units_of (fun vs H Q E h => ?_) (fun f cdv A fr s H vs Q E hr h => ?_)
  · obtain ⟨t, s, xs, rs, rfl, _⟩ := h
    rfl
  · obtain ⟨t, sz, xs, rs, rfl, ht, hf, hl, hp, s0, s1, q⟩ := h
    refine ⟨_, (pss_one (ps_ret (pe_callB (cr_sum rfl) (by rfl) B.sum bt_sum (pa_cons (pe_lc (own := [("run", 2)]) (g := (gName 2)) rfl sc_units_of.nd (pi_tup (pv 0)) (blkOk_by (own := [("run", 2)]) (N := n_units_of) (sc := defScope s_units_of) (by decide +kernel)) (fun _ _ _ _ _ => (pg_name (i := 2) sc_units_of.nd rfl (by first | exact Or.inl rfl | exact Or.inr rfl))) (fun _ _ _ _ _ => pts_nil) (fun _ _ _ _ _ => (pe_op op_mulW (pe_ix (ix_tupK (K := K) rfl) (pv 2) pe_int (fun _ _ => rfl)) (pe_op op_fdivW (pe_ix (ix_tupK (K := K) rfl) (pv 2) pe_int (fun _ _ => rfl)) (pv 1))))) pa_nil)))), ?_⟩
    refine Evl.s_ret (Evl.ev_is (ev_sum (K := K) (ns := rs.map fun r => r.2 * (r.1 / sz)) (Ck.el_is (el_lcP1 (fun r => .int (r.2 * (r.1 / sz))) (Evl.ev_var rfl) ht hf (by omega) (fun _ => rfl) (fun r hr x H1 e1 hx => ?_)) (by rw [List.map_map]; rfl))) rfl) q
    obtain ⟨t1, rfl, h1⟩ := hx
    obtain ⟨p0, p1, p2⟩ := hp r hr
    exact ev_i (g := fun i j => .int (i * j)) (ev_ixT (Evl.ev_var rfl) Evl.ev_c h1 (atI_nat (j := 1) rfl)) (ev_i (g := fun i j => .int (i / j)) (ev_ixT (Evl.ev_var rfl) Evl.ev_c h1 (atI_0 _ _)) (Evl.ev_var rfl) (divW s0 s1)) (mul200 p2 (Nat.lt_of_le_of_lt (by
      have e : (r.1 / sz).natAbs = r.1.natAbs / sz.natAbs := by
        obtain ⟨n, hn⟩ := Int.eq_ofNat_of_zero_le p0
        obtain ⟨m, hm⟩ := Int.eq_ofNat_of_zero_le (show 0 ≤ sz by omega)
        rw [hn, hm]
        rfl
      rw [e]
      exact Nat.div_le_self _ _) p1))
theorem ok_joinr (B : Bl mg) (D : Df K mg "joined_runs" s_joined_runs ["runs"]) : Cl P w K mg base 1 "joined_runs" (spJoinR K) := by
  refine cl_of D sc_joined_runs (fun vs H Q E h => ?_) (fun f cdv A fr s H vs Q E hr h => ?_)
  · obtain ⟨t, xs, rs, rfl, _⟩ := h
    rfl
  · obtain ⟨t, xs, rs, rfl, ht, hf, hl, q⟩ := h
    refine ⟨_, (pss_cons (ps_set (i := 1) sc_joined_runs.nd rfl (by first | exact Or.inl rfl | exact Or.inr rfl) (pe_lst pa_nil))
    (pss_cons (ps_for PassesOwn.never rfl (pi_tup (pv 0)) (pg_name (i := 2) sc_joined_runs.nd rfl (by first | exact Or.inl rfl | exact Or.inr rfl)) (pss_one (ps_if (pw_and (pt_truth (pv 1) (fun _ => rfl)) (pw_and (pt_cmpR op_eq (pe_ix ix_tup (pe_ix ix_list (pv 1) (pe_un un_neg pe_int) (fun _ _ => rfl)) pe_int (fun _ _ => rfl)) (pe_ix ix_tup (pv 2) pe_int (fun _ _ => rfl)) (nomark _)) (pw_and1 (pt_cmpR (op_eqD hr.units) (pe_slice sl_tupA (pe_ix ix_list (pv 1) (pe_un un_neg pe_int) (fun _ _ => rfl)) (po_some pe_int) po_none) (pe_slice sl_tupA (pv 2) (po_some pe_int) po_none) (nomark _))))).pt (pss_one (ps_asg (pe_op op_catA (pe_tup (pa_cons (pe_ix ix_tup (pv 2) pe_int (fun _ _ => rfl)) (pa_cons (pe_op op_add (pe_ix ix_tup (pe_ix ix_list (pv 1) (pe_un un_neg pe_int) (fun _ _ => rfl)) pe_int (fun _ _ => rfl)) (pe_ix ix_tup (pv 2) pe_int (fun _ _ => rfl))) pa_nil))) (pe_slice sl_tupA (pv 2) (po_some pe_int) po_none)) (pg_sub (pv 1) (pe_un un_neg pe_int) set_list))) (pss_one (ps_expr (pe_bm PySem.F.plainAttrs_list PySem.F.slot_list_append PySem.F.type_list_append mt_append (pv 1) (pa_cons (pv 2) pa_nil)))))))
     (pss_one (ps_ret (pe_callTy call_tuple_of (by rfl) B.tuple bt_tuple (pa_cons (pv 1) pa_nil)))))), ?_⟩
    refine ⟨(show 0 ≤ sizeLine by decide), fun l nl => ?_⟩
    have E1 : Evl.Ex H (upd H l (.lst [])) := Evl.Ex.new nl
    have h1 : upd H l (.lst []) l = some (.lst []) := upd_same
    generalize upd H l (.lst []) = H1 at E1 h1 ⊢
    refine ⟨.ref t, rfl, t, rfl, ⟨_, Evl.ex_t E1 ht⟩, ?_⟩
    refine for_it walk_tup (fun i σ H' => Evl.Ex H H' ∧ SqT K H' t xs ∧ ∃ (vs : List V) (t2 : Option V), σ = [some (.ref t), some (.ref l), t2] ∧ H' l = some (.lst vs) ∧ F2 (RP K H') vs (jr (rs.take i))) ⟨E1, Evl.ex_t E1 ht, [], none, rfl, h1, .nil⟩ (fun i σ H' _ h => h.2.1) ?_ ?_
    · rintro i x σ H3' H3 hi ⟨e3, ht3, vs, t2, rfl, hl3, hf3⟩ ⟨rfl, hxi⟩
      obtain ⟨r, hri, hx⟩ := F2.at (hf.imp fun x b r => r.ex e3) hxi
      obtain ⟨hi2, rfl⟩ := List.getElem?_eq_some_iff.mp hri
      have tk : jr (rs.take (i + 1)) = jn1 (jr (rs.take i)) rs[i] := by rw [List.take_add_one, List.getElem?_eq_getElem hi2]; exact jr_snoc _ _
      have ll : vs.length ≤ 2000 := by rw [hf3.len]; refine Nat.le_trans (jr_len _) ?_; rw [List.length_take]; omega
      obtain ⟨u, rfl, hu⟩ := hx
      have fin : ∀ (H5 : Hp) (vs' : List V), Evl.Ex H H5 → H5 l = some (.lst vs') → F2 (RP K H5) vs' (jr (rs.take (i + 1))) → SqT K H5 t xs → Evl.Ex H H5 ∧ SqT K H5 t xs ∧ ∃ (vs : List V) (t2 : Option V), [some (.ref t), some (.ref l), some (.ref u)] = [some (.ref t), some (.ref l), t2] ∧ H5 l = some (.lst vs) ∧ F2 (RP K H5) vs (jr (rs.take (i + 1))) := fun H5 vs' a b c d => ⟨a, d, vs', _, rfl, b, c⟩
      rcases nil_or_snoc (jr (rs.take i)) with en | ⟨as, z, en⟩
      · rw [en] at hf3
        obtain rfl : vs = [] := List.eq_nil_of_length_eq_zero hf3.len
        refine Evl.s_if (b := false) (Evl.et_is (Evl.et_and (b := true) (et_lst (K := K) (Evl.ev_var rfl) hl3) (fun z => nomatch z)) rfl) (fun z => nomatch z) (fun _ H4 e4 => ?_)
        refine Evl.s_app (e4 _ _ hl3) (Evl.ev_var rfl) (Evl.ev_var rfl) (by show 0 < _; omega) (fun H5 e5 => ?_)
        have hl5 := (e4.trans e5) _ _ hl3
        refine fin _ _ (Evl.Ex.mut (e3.trans (e4.trans e5)) nl) upd_same ?_ (sqT_updL (Evl.ex_t (e4.trans e5) ht3) hl5)
        rw [tk, en]
        exact .cons (RP.upd hl5 ⟨u, rfl, Evl.ex_t (e4.trans e5) hu⟩) .nil
      · have jn : jn1 (jr (rs.take i)) rs[i] = if z.1 = rs[i].1 then as ++ [(rs[i].1, z.2 + rs[i].2)] else as ++ [z] ++ [rs[i]] := by
          rw [en]
          unfold jn1
          rw [List.getLast?_concat, List.dropLast_concat]
        rw [en] at hf3
        obtain ⟨ys, y, rfl, fy, ⟨v, rfl, hv⟩⟩ := f2_snoc hf3
        have hlast : ∀ H4, Evl.Ex H3 H4 → Evl.Ev (tOp (rIxL K) (tVar 1) (tUn (rU fun i => V.int (-i)) (tC (V.int 1)))) [some (.ref t), some (.ref l), some (.ref u)] H4 (.ref v) := fun H4 e4 => ev_ixL (Evl.ev_var rfl) (ev_neg Evl.ev_c) (SqL.of (e4 _ _ hl3)) (atI_last _ _)
        have hvs : ∀ H4, Evl.Ex H3 H4 → SqT K H4 v [.int z.1, .int z.2] := fun H4 e4 => Evl.ex_t e4 hv
        have hus : ∀ H4, Evl.Ex H3 H4 → SqT K H4 u [.int rs[i].1, .int rs[i].2] := fun H4 e4 => Evl.ex_t e4 hu
        have c2 : ∀ a b : Int, cutV [V.int a, V.int b] (some 2) none = [] := fun a b => rfl
        have sl : ∀ H4, Evl.Ex H3 H4 → Etu K (tSl (rSlA K) (tVar 2) (tPart (tC (V.int 2))) tNoPart) [some (.ref t), some (.ref l), some (.ref u)] H4 [] := fun H4 e4 => etu_is (etu_sl (etu_ev (Evl.ev_var rfl) (hus H4 e4)) (Evl.eo_some Evl.ev_c) Evl.eo_none) (c2 _ _)
        refine Evl.s_if (b := decide (z.1 = rs[i].1)) (Evl.et_is (Evl.et_and (et_lst (K := K) (Evl.ev_var rfl) hl3) (fun _ => Evl.et_and (Evl.et_test (ev_eq (ev_ixT (hlast _ (Evl.Ex.refl _)) Evl.ev_c (hvs _ (Evl.Ex.refl _)) (atI_0 _ _)) (ev_ixT (Evl.ev_var rfl) Evl.ev_c (hus _ (Evl.Ex.refl _)) (atI_0 _ _)) rfl))
          (fun _ => Evl.et_test (ev_eqD (K := K) (ed_etu (ns := []) (etu_is (etu_sl (etu_ev (hlast _ (Evl.Ex.refl _)) (hvs _ (Evl.Ex.refl _))) (Evl.eo_some Evl.ev_c) Evl.eo_none) (c2 _ _))) (ed_etu (ns := []) (sl _ (Evl.Ex.refl _))) (by decide +kernel) (by decide +kernel))))) ?_) (fun hb H4 e4 => ?_) (fun hb H4 e4 => ?_)
        · rw [show (!(ys ++ [V.ref v]).isEmpty) = true by cases ys <;> rfl, Bool.true_and, show PyData.eqv (.tuple (([] : List Int).map PyData.int)) (.tuple (([] : List Int).map PyData.int)) = true by decide +kernel, Bool.and_true]
          exact decide_eq_decide.mpr ⟨V.int.inj, congrArg V.int⟩
        · have ez := of_decide_eq_true hb
          refine etu_cat (K := K) (etu_of (Evl.eu_tup (vs := [.int rs[i].1, .int (z.2 + rs[i].2)]) (Evl.ea_cons (ev_ixT (Evl.ev_var rfl) Evl.ev_c (hus _ e4) (atI_0 _ _)) (Evl.ea_cons (ev_i0 (g := fun i j => V.int (i + j)) (ev_ixT (hlast _ e4) Evl.ev_c (hvs _ e4) (atI_nat (j := 1) rfl)) (ev_ixT (Evl.ev_var rfl) Evl.ev_c (hus _ e4) (atI_nat (j := 1) rfl))) Evl.ea_nil)) (show 2 ≤ 100000 by decide))) (sl _ e4) (show 2 ≤ 100000 by decide) H4 (Evl.Ex.refl _) _ fun p H5 e5 hp => ?_
          have hl5 := (e4.trans e5) _ _ hl3
          refine ⟨.ref l, rfl, 1, rfl, l, _, -1, ys.length, rfl, rfl, hl5, ?_, ?_⟩
          · rw [List.length_append]
            exact ixN_last ys.length
          · refine fin _ _ (Evl.Ex.mut (e3.trans (e4.trans e5)) nl) upd_same ?_ (sqT_updL (Evl.ex_t (e4.trans e5) ht3) hl5)
            rw [tk, jn, if_pos ez, List.set_append_right _ _ (Nat.le_refl _), Nat.sub_self]
            exact (F2.app (fy.imp fun x b r => RP.upd hl5 (r.ex (e4.trans e5))) (.cons (RP.upd hl5 ⟨p, rfl, hp⟩) .nil))
        · refine Evl.s_app (e4 _ _ hl3) (Evl.ev_var rfl) (Evl.ev_var rfl) (by omega) (fun H5 e5 => ?_)
          have hl5 := (e4.trans e5) _ _ hl3
          refine fin _ _ (Evl.Ex.mut (e3.trans (e4.trans e5)) nl) upd_same ?_ (sqT_updL (Evl.ex_t (e4.trans e5) ht3) hl5)
          rw [tk, jn, if_neg (of_decide_eq_false hb)]
          exact ((fy.app (.cons ⟨v, rfl, hv⟩ .nil)).app (.cons ⟨u, rfl, hu⟩ .nil)).imp fun x b r => RP.upd hl5 (r.ex (e4.trans e5))
    · rintro _ H3 ⟨e3, ht3, vs, t2, rfl, hl3, hf3⟩
      rw [List.take_of_length_le (by rw [← hf.len]; exact Nat.le_refl _)] at hf3
      exact ⟨.ref l, rfl, l, vs, rfl, .inl ⟨SqL.of hl3, fun b nb => q b vs _ (e3.trans (Evl.Ex.new nb)) (SqT.of upd_same) (hf3.imp fun x r h => h.ex (Evl.Ex.new nb))⟩⟩
theorem ok_chksto (B : Bl mg) {CS : Addr} (LT_Store : StoreT K mg CS) (D : Df K mg "check_store" s_check_store ["value"]) : Cg P w K mg base CX0 1 "check_store" (spIsSto K CS) := by
  refine cg_of D sc_check_store (fun vs H Q E h => ?_) (fun f cdv A fr s H vs Q E hr hgd h => ?_)
  · obtain ⟨a, ps, rfl, _⟩ := h
    rfl
  · obtain ⟨a, ps, rfl, hl, q⟩ := h
    refine ⟨_, (pss_one (ps_if (pt_not (pt_val (pe_callB call_isi (by rfl) B.isinstance bt_isinstance (pa_cons (pv 0) (pa_cons (pe_glob (v := V.ref _) (by rfl) LT_Store.k.g rfl) pa_nil))))) (pss_one ps_never) pss_nil)), ?_⟩
    obtain ⟨dx, t1, ts, h1, _⟩ := hl.ex
    exact Evl.s_when (b := false) (Evl.et_is (Evl.et_not (Evl.et_B (ev_isi (Evl.ev_var rfl) Evl.ev_c (.own CS) (fun H1 e => LT_Store.k.ty (e _ _ h1)) kit_self))) rfl) (fun z => nomatch z) (fun _ H1 e1 => q H1 e1)
theorem ok_stoinit (B : Bl mg) (T : Cs mg) {CS : Addr} (LT_Store : StoreT K mg CS) (D : Dis K mg "Store" CS "Store.__init__" s_Store_init "runs") (C_is_run : Cl P w K mg base 3 "is_run" (spIsRun K)) (C_joined_runs : Cl P w K mg base 1 "joined_runs" (spJoinR K)) : Mkc P w K mg base 4 "Store" CS (spStoI K CS) := by
  refine sto_mk (mks_of D sc_Store_init (fun f cdv A fr s H vs Q E hr h => ?_))
  obtain ⟨x, dx, p, xs, rs, H0, rfl, e0, x0, hx, hp, hf, hrn, q⟩ := h
  refine ⟨_, (pss_cons (ps_for PassesOwn.never rfl (pi_tup (pv 1)) (pg_name (i := 2) sc_Store_init.nd rfl (by first | exact Or.inl rfl | exact Or.inr rfl)) (pss_one (ps_if (pt_not (pt_val (pcal C_is_run hr (pa_cons (pv 2) pa_nil)))) (pss_one ps_never) pss_nil)))
    (pss_cons (ps_set (i := 3) sc_Store_init.nd rfl (by first | exact Or.inl rfl | exact Or.inr rfl) (pcal C_joined_runs hr (pa_cons (pv 1) pa_nil)))
     (pss_cons (ps_if (pt_cmpR op_gt (pe_callB call_len_seq (by rfl) B.len bt_len (pa_cons (pv 3) pa_nil)) (pe_gc2 (by rfl) T.c_MAX_RUNS) (nomark _)) (pss_one ps_never) pss_nil)
      (pss_one (ps_fld (pv 0) (pv 3) rfl))))), ?_⟩
  have hln := hrn.ln
  refine ⟨.ref p, rfl, p, rfl, ⟨_, hp⟩, ?_⟩
  refine for_it walk_tup (fun i σ H' => Evl.Ex H H' ∧ SqT K H' p xs ∧ ∃ (t2 : Option V), σ = [some (.ref x), some (.ref p), t2, none]) ⟨Evl.Ex.refl _, hp, none, rfl⟩ (fun i σ H' _ h => h.2.1) ?_ ?_
  · rintro i y σ H3' H3 hi ⟨e3, ht3, t2, rfl⟩ ⟨rfl, hxi⟩
    obtain ⟨r, hri, hy⟩ := F2.at (hf.imp fun x b r => r.ex (e0.trans e3)) hxi
    obtain ⟨s1, s2⟩ := hrn.ok r (List.mem_of_getElem? hri)
    exact Evl.s_when (b := false) (Evl.et_is (Evl.et_not (Evl.et_B (ev_call1 (Evl.ev_var rfl) (isrun_v hy)))) (by rw [s1, s2]; rfl)) (fun z => nomatch z) (fun _ H4 e4 => ⟨e3.trans e4, Evl.ex_t e4 ht3, _, rfl⟩)
  · rintro _ H3 ⟨e3, ht3, t2, rfl⟩
    dsimp only
    refine q_asgP (P := fun v H' => ∃ u ys, v = .ref u ∧ Evl.Ex H H' ∧ SqT K H' u ys ∧ F2 (RP K H') ys (jr rs)) (fun Q2 q2 => ⟨.ref p, rfl, p, xs, rs, rfl, ht3, hf.imp fun x b r => r.ex (e0.trans e3), by omega, fun u ys H4 e4 hu hy => q2 _ _ ⟨u, ys, rfl, e3.trans e4, hu, hy⟩⟩) ?_
    rintro _ H4 ⟨u, ys, rfl, e4, hu, hy⟩
    refine Evl.q_when (b := false) (Evl.et_is (Evl.et_test (ev_i0 (ev_lenT (Evl.ev_var rfl) hu) (Evl.ev_c (v := .int 40)))) ?_) (fun z => nomatch z) (fun _ H5 e5 => ?_)
    · rw [hy.len]
      have := hrn.jl
      exact decide_eq_false (by omega)
    have E5 := e0.trans (e4.trans e5)
    have hx5 := (e4.trans e5) _ _ hx
    refine ⟨.ref u, rfl, .ref x, rfl, x, CS, dx, [], rfl, hx5, LT_Store.k.cl, LT_Store.n1, by decide, ?_⟩
    exact q _ (Evl.Ex.mut E5 x0) ⟨dx, u, ys, upd_same, sqT_x (Evl.ex_t e5 hu) hx5, hy.imp fun y b r => RP.x hx5 (r.ex e5)⟩
theorem ok_storuns {CS : Addr} (LT_Store : StoreT K mg CS) (D : Dpr K CS "runs" "Store.runs" s_Store_runs) : Pg P w K mg base 1 CS "runs" (spRuns K CS) := by
  refine pg_of LT_Store.k.cl D sc_Store_runs (fun vs H Q E h => ?_) (fun f cdv A fr s H vs Q E hr h => ?_)
  · obtain ⟨a, rs, rfl, _⟩ := h
    rfl
  · obtain ⟨a, rs, rfl, hl, q⟩ := h
    refine ⟨_, (pss_one (ps_ret (pe_fld (pv 0) rfl))), ?_⟩
    obtain ⟨dx, t, ts, h1, h2, h3⟩ := hl.ex
    exact ⟨_, rfl, a, CS, dx, _, _, rfl, h1, LT_Store.k.cl, LT_Store.n1, sto_runs t, q t ts H (Evl.Ex.refl H) h2 h3⟩
theorem ok_stounits {CS : Addr} (LT_Store : StoreT K mg CS) (D : Dop K CS "units" "Store.units" s_Store_units ["self", "size"]) (C_check_size : Cl P w K mg base 3 "check_size" (spChkN sizB)) (C_units_of : Cl P w K mg base 1 "units_of" (spUnitsOf K)) : Og P w K mg base 4 CS "units" ["self", "size"] (spUnits K CS) := by
  refine og_of LT_Store.k.cl D sc_Store_units (fun vs H Q E h => ?_) (fun f cdv A fr s H vs Q E hr h => ?_)
  · obtain ⟨a, z, ps, rfl, _⟩ := h
    rfl
  · obtain ⟨a, z, rs, rfl, hl, ho, hz, q⟩ := h
    refine ⟨_, (pss_cons (ps_expr (pcal C_check_size hr (pa_cons (pv 1) pa_nil)))
    (pss_one (ps_ret (pcal C_units_of hr (pa_cons (pe_fld (pv 0) rfl) (pa_cons (pv 1) pa_nil)))))), ?_⟩
    refine Evl.q_drop (ev_call1 (Evl.ev_var rfl) (chkn_v hz)) (fun H1 e1 => ?_)
    obtain ⟨dx, t, ts, h1, h2, h3⟩ := (hl.up e1).ex
    obtain ⟨z0, z1⟩ := siz_int hz
    have ln := ho.ln
    refine ⟨.ref a, rfl, a, CS, dx, _, _, rfl, h1, LT_Store.k.cl, LT_Store.n1, sto_runs t, .int z, rfl, t, z, ts, rs, rfl, h2, h3, by omega, fun r hr => ?_, z0, z1, fun H2 e2 => q H2 (e1.trans e2)⟩
    obtain ⟨s1, s2, s3⟩ := ho.ok r hr
    obtain ⟨s4, s5⟩ := siz_int s1
    exact ⟨by omega, s5, s3⟩
theorem ok_stoin {CS : Addr} (LT_Store : StoreT K mg CS) (D : Dop K CS "__contains__" "Store.__contains__" s_Store_contains ["self", "x"]) (C_is_size : Cl P w K mg base 2 "is_size" (spNum K sizB)) : Og P w K mg base 3 CS "__contains__" ["self", "x"] (spStoIn K CS) := by
  refine og_of LT_Store.k.cl D sc_Store_contains (fun vs H Q E h => ?_) (fun f cdv A fr s H vs Q E hr h => ?_)
  · obtain ⟨a, z, ps, rfl, _⟩ := h
    rfl
  · obtain ⟨a, z, rs, rfl, hl, ln, q⟩ := h
    refine ⟨_, (pss_one (ps_ret (pe_and (pcal C_is_size hr (pa_cons (pv 1) pa_nil)) (pe_one (pe_cmpR op_in_seq (pv 1) (pe_lc (own := [("room", 2), ("_", 3)]) (g := (gTup K 2 (gCons (gName 2) (gCons (gName 3) gNil)))) rfl sc_Store_contains.nd (pi_tup (pe_fld (pv 0) rfl)) (blkOk_by (own := [("room", 2), ("_", 3)]) (N := n_Store_contains) (sc := defScope s_Store_contains) (by decide +kernel)) (fun _ _ _ _ _ => (pg_tup (n := 2) rfl (pgs_cons (pg_name (i := 2) sc_Store_contains.nd rfl (by first | exact Or.inl rfl | exact Or.inr rfl)) (pgs_cons (pg_name (i := 3) sc_Store_contains.nd rfl (by first | exact Or.inl rfl | exact Or.inr rfl)) pgs_nil)))) (fun _ _ _ _ _ => pts_nil) (fun _ _ _ _ _ => (pv 2))) (by with_unfolding_all rfl)))))), ?_⟩
    obtain ⟨dx, t, ts, h1, h2, h3⟩ := hl.ex
    refine Evl.s_ret (Evl.ev_andV (ev_call1 (Evl.ev_var rfl) num_i) (fun _ => ?_)) q
    exact ev_inLI (K := K) (Evl.ev_var rfl) (Ck.el_is (el_lcP (K := K) (fun r => .int r.1) (ev_fldL (Evl.ev_var rfl) h1 LT_Store.k.cl LT_Store.n1 (sto_runs t)) h2 h3 (by omega) (fun _ _ => rfl) (fun r _ H1 _ => Evl.ev_var rfl)) (by rw [List.map_map]; rfl))
theorem ok_stoeq (B : Bl mg) {CS : Addr} (LT_Store : StoreT K mg CS) (D : Dop K CS "__eq__" "Store.__eq__" s_Store_eq ["self", "other"]) : Og P w K mg base 1 CS "__eq__" ["self", "other"] (spStoEq K CS) := by
  refine og_of LT_Store.k.cl D sc_Store_eq (fun vs H Q E h => ?_) (fun f cdv A fr s H vs Q E hr h => ?_)
  · obtain ⟨a, b, rs, ss, rfl, _⟩ := h
    rfl
  · obtain ⟨a, b, rs, ss, rfl, hl, hm, l1, l2, q⟩ := h
    refine ⟨_, (pss_one (ps_ret (pe_and (pe_callB call_isi (by rfl) B.isinstance bt_isinstance (pa_cons (pv 1) (pa_cons (pe_glob (v := V.ref _) (by rfl) LT_Store.k.g rfl) pa_nil))) (pe_one (pe_cmpR (op_eqD hr.units) (pe_fld (pv 0) rfl) (pe_fld (pv 1) rfl) (nomark _)))))), ?_⟩
    obtain ⟨dx, t, ts, h1, h2, h3⟩ := hl.ex
    obtain ⟨dy, u, us, g1, g2, g3⟩ := hm.ex
    refine Evl.s_ret (Evl.ev_is (Evl.ev_andV (a := true) (ev_isi (Evl.ev_var rfl) Evl.ev_c (.own CS) (fun H1 e => LT_Store.k.ty (e _ _ g1)) kit_self) (fun _ => ev_eqD (K := K) (ed_of (ev_fldL (Evl.ev_var rfl) h1 LT_Store.k.cl LT_Store.n1 (sto_runs t)) (dp_rns h2 h3)) (ed_of (ev_fldL (Evl.ev_var rfl) g1 LT_Store.k.cl LT_Store.n1 (sto_runs u)) (dp_rns g2 g3)) (shaped_rns _) (shaped_rns _))) ?_) q
    rw [eqv_rns]
    rfl

theorem quots_len {ns : List Int} : (quots ns).length = ns.length - 1 := by
  unfold quots
  exact adj_len _ ns
theorem chksto_v {CS : Addr} {H : Hp} {a : Addr} {rs : List (Int × Int)} (h : StoAt K CS H a rs) : Evl.SpV (spIsSto K CS) [.ref a] H .non := fun H1 e Q q E => ⟨a, rs, rfl, h.up e, q⟩
theorem ok_prof (B : Bl mg) {CS : Addr} (D : Df K mg "profile" s_profile ["chain", "store"]) (C_check_chain : Cg P w K mg base CX0 5 "check_chain" (spChk K chainB)) (C_check_store : Cg P w K mg base CX0 1 "check_store" (spIsSto K CS)) (O_Store_units : Og P w K mg base 4 CS "units" ["self", "size"] (spUnits K CS)) :
    Cg P w K mg base CX0 6 "profile" (spProf K CS) := by
  refine cg_of D sc_profile (fun vs H Q E h => ?_) (fun f cdv A fr s H vs Q E hr hgd h => ?_)
  · obtain ⟨p, a, ns, rs, rfl, _⟩ := h
    rfl
  · obtain ⟨p, a, ns, rs, rfl, hp, hc, ha, ho, q⟩ := h
    refine ⟨_, (pss_cons (ps_expr (pcg C_check_chain hr hgd (pa_cons (pv 0) pa_nil)))
    (pss_cons (ps_expr (pcg C_check_store hr hgd (pa_cons (pv 1) pa_nil)))
     (pss_one (ps_ret (pe_callTy call_tuple_of (by rfl) B.tuple bt_tuple (pa_cons (pe_lc (own := [("size", 2)]) (g := (gName 2)) rfl sc_profile.nd (pi_tup (pv 0)) (blkOk_by (own := [("size", 2)]) (N := n_profile) (sc := defScope s_profile) (by decide +kernel)) (fun _ _ _ _ _ => (pg_name (i := 2) sc_profile.nd rfl (by first | exact Or.inl rfl | exact Or.inr rfl))) (fun _ _ _ _ _ => pts_nil) (fun _ _ _ _ _ => (pmeth O_Store_units hr (pv 1) (pa_cons (pv 2) pa_nil)))) pa_nil)))))), ?_⟩
    obtain ⟨hz, _⟩ := chain_ints hc
    obtain ⟨hne, hl, hpos, _⟩ := sizes_ints hz
    refine Evl.q_drop (ev_call1 (Evl.ev_var rfl) (chk_v hp hc)) (fun H1 e1 => Evl.q_drop (ev_call1 (Evl.ev_var rfl) (chksto_v (ha.up e1))) (fun H2 e2 => ?_))
    have hp2 := Evl.ex_t (e1.trans e2) hp
    have ha2 := ha.up (e1.trans e2)
    refine eu_tupleL (K := K) (Ck.el_is (el_lcY (K := K) (fun s => .int (unt rs s)) (etu_ev (Evl.ev_var rfl) hp2) (by omega) (fun _ => rfl) (fun n hn H3 e3 => ?_)) (List.map_map ..).symm) H2 (Evl.Ex.refl H2) _ fun t H3 n3 e3 ht => q t H3 ((e1.trans e2).trans e3) (SqT.of ht)
    exact ev_units (Evl.ev_var rfl) (Evl.ev_var rfl) (ha2.up e3) ho (siz_of (hpos n hn).1 (hpos n hn).2)
theorem pcs_v {H : Hp} {p u : Addr} {ns us : List Int} (hp : SqT K H p (ns.map V.int)) (hc : chainB (ns.map V.int) = true) (hu : SqT K H u (us.map V.int)) (hl : us.length = ns.length) (hb : ∀ x ∈ us, x.natAbs < 10 ^ 200) {σ : L2.St} {ta tb : TE} (h1 : Evl.Ev ta σ H (.ref p)) (h2 : Evl.Ev tb σ H (.ref u)) :
    Evl.EvL (tCall (spPcs K) [] E0 (tCons ta (tCons tb tNil))) σ H ((pcs ns us).map V.int) := fun H1 e Q q => h1 H1 e _ fun H2 e2 => h2 H2 (e.trans e2) _ fun H3 e3 =>
  have e0 := (e.trans e2).trans e3
  ⟨p, u, ns, us, rfl, Evl.ex_t e0 hp, hc, Evl.ex_t e0 hu, hl, hb, fun l H4 n4 e4 hl => q l H4 (Evl.fresh_back (e2.trans e3) n4) ((e2.trans e3).trans e4) hl⟩
theorem dat_d {f : List V → Bool} {g : List Int → PyData} {H : Hp} {p : Addr} {ns : List Int} (hp : SqT K H p (ns.map V.int)) (h : f (ns.map V.int) = true) : SpD K (spDat K f g) [.ref p] H (g ns) := fun H1 e Q q E => ⟨p, ns, rfl, Evl.ex_t e hp, h, q⟩
theorem quots_b {ns : List Int} (hc : chainB (ns.map V.int) = true) : ∀ q ∈ quots ns, 0 < q ∧ q.natAbs < 10 ^ 200 := by
  cases ns with
  | nil => exact fun q h => nomatch h
  | cons x r =>
    have F := ch_facts hc
    exact fun q h => ⟨F.qp q h, F.qb q h⟩
theorem getD_mem {l : List Int} {i : Nat} (h : i < l.length) : l.getD i 0 ∈ l := by
  rw [List.getD_eq_getElem?_getD, List.getElem?_eq_getElem h]
  exact List.getElem_mem _
theorem ok_pcs (B : Bl mg) (D : Df K mg "plain_counts" s_plain_counts ["chain", "units"]) (C_quotients : Cg P w K mg base CX0 6 "quotients" (spDat K chainB qD)) : Cg P w K mg base CX0 7 "plain_counts" (spPcs K) := by
  refine cg_of D sc_plain_counts (fun vs H Q E h => ?_) (fun f cdv A fr s H vs Q E hr hgd h => ?_)
  · obtain ⟨p, u, ns, us, rfl, _⟩ := h
    rfl
  · obtain ⟨p, u, ns, us, rfl, hp, hc, hu, hl, hb, q⟩ := h
    refine ⟨_, (pss_cons (ps_set (i := 2) sc_plain_counts.nd rfl (by first | exact Or.inl rfl | exact Or.inr rfl) (pe_op op_cat (pe_lc (own := [("high", 3), ("quotient", 4)]) (g := (gTup K 2 (gCons (gName 3) (gCons (gName 4) gNil)))) rfl sc_plain_counts.nd (pi_zipA (by rfl) B.zip (pa_cons (pe_slice sl_tupA (pv 1) (po_some pe_int) po_none) (pa_cons (pcg C_quotients hr hgd (pa_cons (pv 0) pa_nil)) pa_nil))) (blkOk_by (own := [("high", 3), ("quotient", 4)]) (N := n_plain_counts) (sc := defScope s_plain_counts) (by decide +kernel)) (fun _ _ _ _ _ => (pg_tup (n := 2) rfl (pgs_cons (pg_name (i := 3) sc_plain_counts.nd rfl (by first | exact Or.inl rfl | exact Or.inr rfl)) (pgs_cons (pg_name (i := 4) sc_plain_counts.nd rfl (by first | exact Or.inl rfl | exact Or.inr rfl)) pgs_nil)))) (fun _ _ _ _ _ => pts_nil) (fun _ _ _ _ _ => (pe_op op_mulW (pv 3) (pv 4)))) (pe_lst (pa_cons pe_int pa_nil))))
    (pss_one (ps_ret (pe_lc (own := [("low", 5), ("high", 3)]) (g := (gTup K 2 (gCons (gName 5) (gCons (gName 3) gNil)))) rfl sc_plain_counts.nd (pi_zipM (by rfl) B.zip (pa_cons (pv 1) (pa_cons (pv 2) pa_nil))) (blkOk_by (own := [("low", 5), ("high", 3)]) (N := n_plain_counts) (sc := defScope s_plain_counts) (by decide +kernel)) (fun _ _ _ _ _ => (pg_tup (n := 2) rfl (pgs_cons (pg_name (i := 5) sc_plain_counts.nd rfl (by first | exact Or.inl rfl | exact Or.inr rfl)) (pgs_cons (pg_name (i := 3) sc_plain_counts.nd rfl (by first | exact Or.inl rfl | exact Or.inr rfl)) pgs_nil)))) (fun _ _ _ _ _ => pts_nil) (fun _ _ _ _ _ => (pe_op op_sub (pv 5) (pv 3))))))), ?_⟩
    obtain ⟨hz, _⟩ := chain_ints hc
    obtain ⟨hne, hln, hpos, _⟩ := sizes_ints hz
    have hqb := quots_b hc
    refine Evl.q_asgL (xs := (List.zipWith (fun h q => h * q) (us.drop 1) (quots ns) ++ [0]).map V.int) (Ck.el_is (el_catL (Ck.el_is (el_zip2 (K := K) (fun h q => .int (h * q)) (ms := us.drop 1) (ns := quots ns) (etu_is (etu_sl (etu_ev (Evl.ev_var rfl) hu) (Evl.eo_some Evl.ev_c) Evl.eo_none) (by rw [cutT1, List.map_drop])) (etu_ed (ns := quots ns) (ed_call1 (Evl.ev_var rfl) (dat_d (g := qD) hp hc))) (by rw [List.length_drop]; omega) (fun _ _ => rfl) (fun i H1 e1 i1 i2 => ?_)) (List.map_zipWith ..).symm) (Evl.el_lst (Evl.ea_cons Evl.ev_c Evl.ea_nil) (by decide)) ?_) (by rw [List.map_append]; rfl)) (fun l H1 nl e1 hl1 => ?_)
    · exact ev_i (g := fun i j => .int (i * j)) (Evl.ev_var rfl) (Evl.ev_var rfl) (mul200 (hb _ (List.mem_of_mem_drop (getD_mem i1))) (hqb _ (getD_mem i2)).2)
    · simp only [List.length_map, List.length_zipWith, List.length_drop, List.length_cons, List.length_nil]
      omega
    · refine el_zipM (K := K) (fun low high => .int (low - high)) (etu_ev (Evl.ev_var rfl) (Evl.ex_t e1 hu)) (eli_v (Evl.ev_var rfl) hl1) (by omega) (fun _ _ => rfl) (fun i H2 e2 _ _ => ev_i0 (g := fun i j => .int (i - j)) (Evl.ev_var rfl) (Evl.ev_var rfl)) H1 (Evl.Ex.refl H1) _ fun l2 H2 n2 e2 h2 => ?_
      exact q l2 H2 (Evl.fresh_back e1 n2) (e1.trans e2) (by rw [h2]; unfold pcs; rw [List.map_zipWith])
theorem ints_of_cnt : ∀ {xs : List V}, xs.all cntV = true → xs = (intsOf xs).map V.int
  | [], _ => rfl
  | x :: r, h => by
    rw [List.all_cons, Bool.and_eq_true] at h
    cases x with
    | int i => exact congrArg (V.int i :: ·) (ints_of_cnt h.2)
    | _ => exact absurd h.1 Bool.false_ne_true
theorem cnt_num {H : Hp} {v : V} (h : (∃ i, v = .int i) ∨ OddI K H v) : Evl.SpV (spNum K cntB) [v] H (.bl (cntV v)) := by
  rcases h with ⟨i, rfl⟩ | h
  · exact num_i
  · have z := num_o (p := cntB) h
    cases h with
    | no n h k =>
      cases v with
      | int i =>
        cases h with
        | base b => cases b; exact absurd k (by decide +kernel)
      | _ => exact z
    | bl b h => subst h; exact z
theorem cnt_b {xs : List Int} (h : (xs.map V.int).all cntV = true) : ∀ x ∈ xs, cntB x = true := fun x hx => List.all_eq_true.mp h _ (List.mem_map_of_mem hx)
theorem ok_isprof (B : Bl mg) (D : Df K mg "is_profile" s_is_profile ["chain", "value"]) (C_check_chain : Cg P w K mg base CX0 5 "check_chain" (spChk K chainB)) (C_is_count : Cl P w K mg base 2 "is_count" (spNum K cntB)) (C_plain_counts : Cg P w K mg base CX0 7 "plain_counts" (spPcs K)) :
    Cg P w K mg base CX0 8 "is_profile" (spIsProf K) := by
  refine cg_of D sc_is_profile (fun vs H Q E h => ?_) (fun f cdv A fr s H vs Q E hr hgd h => ?_)
  · obtain ⟨p, ns, v, b, rfl, _⟩ := h
    rfl
  · obtain ⟨p, ns, v, b, rfl, hp, hc, hv, q⟩ := h
    refine ⟨_, (pss_cons (ps_expr (pcg C_check_chain hr hgd (pa_cons (pv 0) pa_nil)))
    (pss_cons (ps_if (pw_or (pt_not (pt_val (pe_callB call_isi (by rfl) B.isinstance bt_isinstance (pa_cons (pv 1) (pa_cons (pe_bltn (v := V.ty "tuple") (by rfl) B.tuple bt_tuple rfl) pa_nil))))) (pw_or1 (pt_cmpR op_ne (pe_callB call_len_seq (by rfl) B.len bt_len (pa_cons (pv 1) pa_nil)) (pe_callB call_len_seq (by rfl) B.len bt_len (pa_cons (pv 0) pa_nil)) (nomark _)))).pt (pss_one (ps_ret pe_bl)) pss_nil)
     (pss_cons (ps_if (pt_not (pt_val (pe_callB (cr_all rfl) (by rfl) B.all bt_all (pa_cons (pe_lc (own := [("units", 2)]) (g := (gName 2)) rfl sc_is_profile.nd (pi_tup (pv 1)) (blkOk_by (own := [("units", 2)]) (N := n_is_profile) (sc := defScope s_is_profile) (by decide +kernel)) (fun _ _ _ _ _ => (pg_name (i := 2) sc_is_profile.nd rfl (by first | exact Or.inl rfl | exact Or.inr rfl))) (fun _ _ _ _ _ => pts_nil) (fun _ _ _ _ _ => (pcg (Cl.g C_is_count) hr hgd (pa_cons (pv 2) pa_nil)))) pa_nil)))) (pss_one (ps_ret pe_bl)) pss_nil)
      (pss_one (ps_ret (pe_callB (cr_all rfl) (by rfl) B.all bt_all (pa_cons (pe_lc (own := [("many", 3)]) (g := (gName 3)) rfl sc_is_profile.nd (pi_list (pcg C_plain_counts hr hgd (pa_cons (pv 0) (pa_cons (pv 1) pa_nil)))) (blkOk_by (own := [("many", 3)]) (N := n_is_profile) (sc := defScope s_is_profile) (by decide +kernel)) (fun _ _ _ _ _ => (pg_name (i := 3) sc_is_profile.nd rfl (by first | exact Or.inl rfl | exact Or.inr rfl))) (fun _ _ _ _ _ => pts_nil) (fun _ _ _ _ _ => (pe_cmpR op_ge (pv 3) pe_int (nomark _)))) pa_nil))))))), ?_⟩
    obtain ⟨hz, _⟩ := chain_ints hc
    obtain ⟨hne, hln, hpos, _⟩ := sizes_ints hz
    refine Evl.q_drop (ev_call1 (Evl.ev_var rfl) (chk_v hp hc)) (fun H1 e1 => ?_)
    have hp1 := Evl.ex_t e1 hp
    rcases hv with ⟨u, xs, rfl, hu, hl, he, rfl⟩ | ⟨⟨tt, ht, kt⟩, rfl⟩
    · have hu1 := Evl.ex_t e1 hu
      refine Evl.q_when (b := !decide (xs.length = ns.length)) (Evl.et_is (Evl.et_or (Evl.et_not (Evl.et_B (ev_isi (Evl.ev_var rfl) Evl.ev_c (.ty _) (fun H2 e => ty_tup (Evl.ex_t e hu1)) (kit_ty (r := true) (by decide +kernel)))))
        (fun _ => Evl.et_test (ev_ne (ev_lenT (Evl.ev_var rfl) hu1) (ev_lenT (Evl.ev_var rfl) hp1) rfl))) ?_) (fun z H2 e2 => ?_) (fun z H2 e2 => ?_)
      · show (!true || !decide (V.int _ = V.int _)) = _
        rw [Bool.not_true, Bool.false_or, List.length_map]
        exact congrArg (!·) (decide_eq_decide.mpr ⟨fun h => Int.ofNat.inj (V.int.inj h), fun h => by rw [h]⟩)
      · have e : isPrB ns xs = false := by unfold isPrB; rw [nt z]; rfl
        rw [e] at q
        exact q H2 (e1.trans e2)
      · have hb := nf z
        have hu2 := Evl.ex_t e2 hu1
        have hp2 := Evl.ex_t e2 hp1
        refine Evl.q_when (b := !(xs.all cntV)) (Evl.et_not (Evl.et_B (Evl.ev_is (ev_all (K := K) (bs := xs.map cntV) (by
          rw [List.map_map]
          exact el_lcT (V.bl ∘ cntV) (Evl.ev_var rfl) hu2 (by omega) (fun _ => rfl) (fun x H3 e3 hx => ev_call1 (Evl.ev_var rfl) (cnt_num ((he.mono ((e1.trans e2).trans e3)) x hx))))) (by rw [List.all_map]; rfl)))) (fun z2 H3 e3 => ?_) (fun z2 H3 e3 => ?_)
        · have e : isPrB ns xs = false := by unfold isPrB; rw [hb, nt z2]; rfl
          rw [e] at q
          exact q H3 ((e1.trans e2).trans e3)
        · have hc3 := nf z2
          have hi := ints_of_cnt hc3
          have e : isPrB ns xs = (pcs ns (intsOf xs)).all fun m => decide (0 ≤ m) := by unfold isPrB; rw [hb, hc3]; rfl
          rw [e] at q
          generalize hus : intsOf xs = us at hi q
          subst hi
          have ul : us.length = ns.length := by have z := of_decide_eq_true hb; rw [List.length_map] at z; exact z
          have pl : (pcs ns us).length ≤ 40000 := by
            unfold pcs
            rw [List.length_zipWith]
            omega
          exact Evl.s_ret (Evl.ev_is (ev_all (K := K) (bs := (pcs ns us).map fun m => decide (0 ≤ m)) (Ck.el_is (el_lcNL (K := K) (tt := tYes) (fun _ => true) (fun m => .bl (decide (0 ≤ m))) (pcs_v (Evl.ex_t e3 hp2) hc (Evl.ex_t e3 hu2) ul (fun x hx => cnt_int (cnt_b hc3 x hx)) (Evl.ev_var rfl) (Evl.ev_var rfl)) pl (fun _ => rfl) (fun n _ H1 _ H2 _ Q q => q H2 (Evl.Ex.refl H2)) (fun m _ _ H4 _ => ev_i0 (Evl.ev_var rfl) Evl.ev_c)) (by rw [List.filter_eq_self.mpr fun _ _ => rfl, List.map_map]; rfl))) (by rw [List.all_map]; rfl)) (fun H4 e4 => q H4 (((e1.trans e2).trans e3).trans e4))
    · refine Evl.q_when (b := true) (Evl.et_is (Evl.et_or (b := true) (Evl.et_not (Evl.et_B (ev_isi (Evl.ev_var rfl) Evl.ev_c (.ty _) (fun H2 e => tyM (e1.trans e) ht) kt))) (fun z => nomatch z)) rfl) (fun _ H2 e2 => ?_) (fun z => nomatch z)
      exact q H2 (e1.trans e2)
theorem evr_p2 {σ : L2.St} {H : Hp} {ta tb : TE} {a b : Int} (ha : Evl.Ev ta σ H (.int a)) (hb : Evl.Ev tb σ H (.int b)) : EvR (RP K) (tTup (tCons ta (tCons tb tNil))) σ H (a, b) := fun H1 e Q q =>
  ha H1 e _ fun H2 e2 => hb H2 (e.trans e2) _ fun H3 e3 => ⟨(show 2 ≤ sizeLine by decide), fun p hp => q _ _ ((e2.trans e3).trans (Evl.Ex.new hp)) ⟨p, rfl, SqT.of upd_same⟩⟩
theorem pcs_len {ns us : List Int} (h : us.length = ns.length) (hn : ns ≠ []) : (pcs ns us).length = ns.length := by
  have : 0 < ns.length := List.length_pos_iff.mpr hn
  unfold pcs
  simp only [List.length_zipWith, List.length_append, List.length_drop, List.length_cons, List.length_nil, quots_len]
  omega
theorem ok_plain {CS : Addr} (B : Bl mg) (D : Df K mg "_plain" s__plain ["chain", "units"]) (C_plain_counts : Cg P w K mg base CX0 7 "plain_counts" (spPcs K)) (M_Store : Mkc P w K mg base 4 "Store" CS (spStoI K CS)) : Cg P w K mg base CX0 8 "_plain" (spPlain K CS) := by
  refine cg_of D sc__plain (fun vs H Q E h => ?_) (fun f cdv A fr s H vs Q E hr hgd h => ?_)
  · obtain ⟨p, u, ns, us, rfl, _⟩ := h
    rfl
  · obtain ⟨p, u, ns, us, rfl, hp, hc, hu, hl, hb, h0, q⟩ := h
    refine ⟨_, (pss_cons (ps_setLc (i := 2) (own := [("size", 3), ("many", 4)]) (g := (gTup K 2 (gCons (gName 3) (gCons (gName 4) gNil)))) rfl sc__plain.nd rfl rfl (sw_true rfl rfl rfl (by decide +kernel)) (pi_zipM (by rfl) B.zip (pa_cons (pv 0) (pa_cons (pcg C_plain_counts hr hgd (pa_cons (pv 0) (pa_cons (pv 1) pa_nil))) pa_nil))) (blkOk_by (own := [("size", 3), ("many", 4)]) (N := n__plain) (sc := defScope s__plain) (by decide +kernel)) (fun _ _ _ _ _ => (pg_tup (n := 2) rfl (pgs_cons (pg_name (i := 3) sc__plain.nd rfl (by first | exact Or.inl rfl | exact Or.inr rfl)) (pgs_cons (pg_name (i := 4) sc__plain.nd rfl (by first | exact Or.inl rfl | exact Or.inr rfl)) pgs_nil)))) (fun _ _ _ _ _ => (pts_one (pt_cmpR op_gt (pv 4) pe_int (nomark _)))) (fun _ _ _ _ _ => (pe_tup (pa_cons (pv 3) (pa_cons (pv 4) pa_nil)))))
    (pss_one (ps_ret (pmkS M_Store hr (pv 2))))), ?_⟩
    obtain ⟨hz, hg⟩ := chain_ints hc
    obtain ⟨hne, hln, hpos, hasc⟩ := sizes_ints hz
    refine q_asgP (fun v H' => ∃ l vs, v = .ref l ∧ Evl.Ex H H' ∧ H' l = some (.lst vs) ∧ F2 (RP K H') vs (prn ns us)) (fun Q2 q2 => lc_zipP (K := K) (fun p => decide (0 < p.2)) (etu_ev (Evl.ev_var rfl) hp) (eli_of (pcs_v hp hc hu hl (fun x hx => cnt_int (hb x hx)) (Evl.ev_var rfl) (Evl.ev_var rfl))) (by omega) (fun _ _ => rfl) (fun m n H1 e1 => Evl.et_test (ev_i0 (Evl.ev_var rfl) Evl.ev_c)) (fun m n H1 e1 => evr_p2 (Evl.ev_var rfl) (Evl.ev_var rfl)) H (Evl.Ex.refl H) _ fun l vs H2 n2 e2 h2 hf => q2 _ _ ⟨l, vs, rfl, e2, h2, hf⟩) ?_
    rintro _ H2 ⟨l, vs, rfl, e2, h2, hf⟩
    refine mk_stoL (K := K) (Evl.ev_var rfl) h2 hf (prn_rns hpos (fun x hx => (quots_b hc x hx).1) hb hln) fun a H3 e3 hs => ?_
    rw [prn_jr (asc_pw hasc)] at hs
    exact q a H3 (e2.trans e3) hs
theorem isprof_v {H : Hp} {p : Addr} {ns : List Int} {v : V} {b : Bool} (hp : SqT K H p (ns.map V.int)) (hc : chainB (ns.map V.int) = true) (hv : PfV K ns H v b) {σ : L2.St} {ta tb : TE} (h1 : Evl.Ev ta σ H (.ref p)) (h2 : Evl.Ev tb σ H v) :
    Evl.Ev (tCall (spIsProf K) [] E0 (tCons ta (tCons tb tNil))) σ H (.bl b) := fun H1 e Q q => h1 H1 e _ fun H2 e2 => h2 H2 (e.trans e2) _ fun H3 e3 =>
  ⟨p, ns, v, b, rfl, Evl.ex_t ((e.trans e2).trans e3) hp, hc, hv.mono ((e.trans e2).trans e3), fun H4 e4 => q H4 ((e2.trans e3).trans e4)⟩
theorem prof_v {CS : Addr} {H : Hp} {p a : Addr} {ns : List Int} {rs : List (Int × Int)} (hp : SqT K H p (ns.map V.int)) (hc : chainB (ns.map V.int) = true) (ha : StoAt K CS H a rs) (ho : StoOk rs) {σ : L2.St} {ta tb : TE} (h1 : Evl.Ev ta σ H (.ref p)) (h2 : Evl.Ev tb σ H (.ref a)) :
    Etu K (tCall (spProf K CS) [] E0 (tCons ta (tCons tb tNil))) σ H ((ns.map (unt rs)).map V.int) := fun H1 e Q q => h1 H1 e _ fun H2 e2 => h2 H2 (e.trans e2) _ fun H3 e3 =>
  ⟨p, a, ns, rs, rfl, Evl.ex_t ((e.trans e2).trans e3) hp, hc, ha.up ((e.trans e2).trans e3), ho, fun t H4 e4 ht => q t H4 ((e2.trans e3).trans e4) ht⟩
theorem isPr_true {ns us : List Int} (hl : us.length = ns.length) (hb : ∀ x ∈ us, cntB x = true) (h0 : ∀ x ∈ pcs ns us, 0 ≤ x) : isPrB ns (us.map V.int) = true := by
  unfold isPrB
  rw [List.length_map, decide_eq_true hl, intsOf_map, Bool.true_and, Bool.and_eq_true]
  refine ⟨?_, List.all_eq_true.mpr fun x hx => decide_eq_true (h0 x hx)⟩
  rw [List.all_map]
  exact List.all_eq_true.mpr hb
theorem ok_plainst {CS : Addr} (B : Bl mg) (D : Df K mg "plain_store" s_plain_store ["chain", "units"]) (C_is_profile : Cg P w K mg base CX0 8 "is_profile" (spIsProf K)) (C__plain : Cg P w K mg base CX0 8 "_plain" (spPlain K CS)) : Cg P w K mg base CX0 9 "plain_store" (spPlain K CS) := by
  refine cg_of D sc_plain_store (fun vs H Q E h => ?_) (fun f cdv A fr s H vs Q E hr hgd h => ?_)
  · obtain ⟨p, u, ns, us, rfl, _⟩ := h
    rfl
  · obtain ⟨p, u, ns, us, rfl, hp, hc, hu, hl, hb, h0, q⟩ := h
    refine ⟨_, (pss_cons (ps_if (pt_not (pt_val (pcg C_is_profile hr hgd (pa_cons (pv 0) (pa_cons (pv 1) pa_nil))))) (pss_one ps_never) pss_nil)
    (pss_one (ps_ret (pcg C__plain hr hgd (pa_cons (pv 0) (pa_cons (pv 1) pa_nil)))))), ?_⟩
    obtain ⟨hz, _⟩ := chain_ints hc
    obtain ⟨_, hln, _, _⟩ := sizes_ints hz
    refine Evl.q_when (b := false) (Evl.et_is (Evl.et_not (Evl.et_B (isprof_v hp hc (.inl ⟨u, us.map V.int, rfl, hu, by rw [List.length_map]; omega, elts_ints us, rfl⟩) (Evl.ev_var rfl) (Evl.ev_var rfl)))) (by rw [isPr_true hl hb h0]; rfl)) (fun z => nomatch z) (fun _ H1 e1 => ?_)
    exact ⟨.ref p, rfl, .ref u, rfl, p, u, ns, us, rfl, Evl.ex_t e1 hp, hc, Evl.ex_t e1 hu, hl, hb, h0, fun a H2 e2 hs => q a H2 (e1.trans e2) hs⟩
theorem ok_pairs {CS : Addr} (B : Bl mg) (D : Df K mg "_pairs" s__pairs ["chain", "one", "other"]) (C_profile : Cg P w K mg base CX0 6 "profile" (spProf K CS)) : Cg P w K mg base CX0 7 "_pairs" (spPairs K CS) := by
  refine cg_of D sc__pairs (fun vs H Q E h => ?_) (fun f cdv A fr s H vs Q E hr hgd h => ?_)
  · obtain ⟨p, a, b, ns, rs, ss, rfl, _⟩ := h
    rfl
  · obtain ⟨p, a, b, ns, rs, ss, rfl, hp, hc, ha, ho, ha2, ho2, q⟩ := h
    refine ⟨_, (pss_one (ps_ret (pe_listZip (by rfl) B.list (by rfl) B.zip (pa_cons (pcg C_profile hr hgd (pa_cons (pv 0) (pa_cons (pv 1) pa_nil))) (pa_cons (pcg C_profile hr hgd (pa_cons (pv 0) (pa_cons (pv 2) pa_nil))) pa_nil))))), ?_⟩
    obtain ⟨hz, _⟩ := chain_ints hc
    obtain ⟨_, hln, _, _⟩ := sizes_ints hz
    refine prof_v hp hc ha ho (Evl.ev_var rfl) (Evl.ev_var rfl) H (Evl.Ex.refl H) _ fun t H1 e1 ht => prof_v (Evl.ex_t e1 hp) hc (ha2.up e1) ho2 (Evl.ev_var rfl) (Evl.ev_var rfl) H1 (Evl.Ex.refl H1) _ fun u H2 e2 hu => ?_
    refine ⟨t, u, _, _, rfl, Evl.ex_t e2 ht, hu, by rw [List.length_map, List.length_map]; omega, fun l as H3 n3 e3 h3 hlen hit => ?_⟩
    refine q l _ H3 (Evl.fresh_back (e1.trans e2) n3) ((e1.trans e2).trans e3) h3 (f2_of_at ?_ fun i v r hv hr => ?_)
    · rw [List.length_map, hlen]
      simp only [List.length_map]
      omega
    · rw [List.getElem?_map] at hv hr
      obtain ⟨t1, hv1, rfl⟩ := Option.map_eq_some_iff.mp hv
      obtain ⟨n, hn, rfl⟩ := Option.map_eq_some_iff.mp hr
      obtain ⟨x, y, hx, hy, ht1⟩ := hit i t1 hv1
      rw [List.getElem?_map, List.getElem?_map, hn] at hx hy
      obtain rfl := Option.some.inj hx
      obtain rfl := Option.some.inj hy
      exact ⟨t1, rfl, SqT.of ht1⟩
theorem ok_alike {CS : Addr} (B : Bl mg) (D : Df K mg "are_alike" s_are_alike ["chain", "one", "other"]) (C__pairs : Cg P w K mg base CX0 7 "_pairs" (spPairs K CS)) : Cg P w K mg base CX0 8 "are_alike" (spAlike K CS) := by
  refine cg_of D sc_are_alike (fun vs H Q E h => ?_) (fun f cdv A fr s H vs Q E hr hgd h => ?_)
  · obtain ⟨p, a, b, ns, rs, ss, rfl, _⟩ := h
    rfl
  · obtain ⟨p, a, b, ns, rs, ss, rfl, hp, hc, ha, ho, ha2, ho2, q⟩ := h
    refine ⟨_, (pss_one (ps_ret (pe_callB (cr_all rfl) (by rfl) B.all bt_all (pa_cons (pe_lc (own := [("units", 3), ("needed", 4)]) (g := (gTup K 2 (gCons (gName 3) (gCons (gName 4) gNil)))) rfl sc_are_alike.nd (pi_list (pcg C__pairs hr hgd (pa_cons (pv 0) (pa_cons (pv 1) (pa_cons (pv 2) pa_nil))))) (blkOk_by (own := [("units", 3), ("needed", 4)]) (N := n_are_alike) (sc := defScope s_are_alike) (by decide +kernel)) (fun _ _ _ _ _ => (pg_tup (n := 2) rfl (pgs_cons (pg_name (i := 3) sc_are_alike.nd rfl (by first | exact Or.inl rfl | exact Or.inr rfl)) (pgs_cons (pg_name (i := 4) sc_are_alike.nd rfl (by first | exact Or.inl rfl | exact Or.inr rfl)) pgs_nil)))) (fun _ _ _ _ _ => pts_nil) (fun _ _ _ _ _ => (pe_cmpR op_eq (pv 3) (pv 4) (nomark _)))) pa_nil)))), ?_⟩
    obtain ⟨hz, _⟩ := chain_ints hc
    obtain ⟨_, hln, _, _⟩ := sizes_ints hz
    refine Evl.s_ret (Evl.ev_is (ev_all (K := K) (bs := (ns.map fun s => (unt rs s, unt ss s)).map fun r => decide (r.1 = r.2)) (Ck.el_is (el_lcPL (K := K) (fun r => .bl (decide (r.1 = r.2))) (ps := ns.map fun s => (unt rs s, unt ss s)) (fun H1 e Q q => ?_) (by rw [List.length_map]; omega) (fun _ _ => rfl) (fun r _ H1 _ => Evl.ev_is (ev_eq (Evl.ev_var rfl) (Evl.ev_var rfl) rfl) (congrArg V.bl (decide_eq_decide.mpr ⟨V.int.inj, congrArg V.int⟩)))) (by rw [List.map_map, List.map_map, List.map_map]; rfl))) (by rw [List.all_map, List.all_map]; rfl)) q
    exact ⟨.ref p, rfl, .ref a, rfl, .ref b, rfl, p, a, b, ns, rs, ss, rfl, Evl.ex_t e hp, hc, ha.up e, ho, ha2.up e, ho2, fun l vs H2 n2 e2 h2 hf => q l vs H2 n2 e2 h2 hf⟩

theorem ok_roll (B : Bl mg) (D : Df K mg "_law_roll" s__law_roll ["dice", "total"]) : Cg P w K mg base CX0 1 "_law_roll" spRoll := by
  refine cg_of D sc__law_roll (fun vs H Q E h => ?_) (fun f cdv A fr s H vs Q E hr hgd h => ?_)
  · obtain ⟨d, t, rfl, _⟩ := h
    rfl
  · obtain ⟨d, t, rfl, ht, ht2, ⟨a, b, c, hd⟩, q⟩ := h
    refine ⟨_, (pss_cons (ps_if (pt_cmpR op_gt (pe_ix ix_list (pv 0) pe_int (fun _ _ => rfl)) pe_int (nomark _)) (pss_cons (ps_set (i := 2) sc__law_roll.nd rfl (by first | exact Or.inl rfl | exact Or.inr rfl) (pe_op op_mod (pe_callTy call_int1 (by rfl) B.int bt_int (pa_cons (pe_ix ix_list (pv 0) pe_int (fun _ _ => rfl)) pa_nil)) (pv 1)))
    (pss_cons (ps_asg (pe_op op_fdiv (pe_ix ix_list (pv 0) pe_int (fun _ _ => rfl)) (pv 1)) (pg_sub (pv 0) pe_int set_list))
     (pss_one (ps_ret (pv 2))))) pss_nil)
    (pss_cons (ps_asg (pe_op op_add (pe_ix ix_list (pv 0) pe_int (fun _ _ => rfl)) pe_int) (pg_sub (pv 0) pe_int set_list))
     (pss_cons (ps_set (i := 3) sc__law_roll.nd rfl (by first | exact Or.inl rfl | exact Or.inr rfl) (pe_op op_mod (pe_callTy call_int1 (by rfl) B.int bt_int (pa_cons (pe_op op_add (pe_ix ix_list (pv 0) pe_int (fun _ _ => rfl)) (pe_op op_mul pe_int (pe_ix ix_list (pv 0) pe_int (fun _ _ => rfl)))) pa_nil)) pe_int))
      (pss_cons (ps_set (i := 4) sc__law_roll.nd rfl (by first | exact Or.inl rfl | exact Or.inr rfl) (pe_op op_add (pe_op op_mul (pe_op op_mod (pe_callTy call_int1 (by rfl) B.int bt_int (pa_cons (pe_op op_add (pe_op op_mul (pv 3) (pv 3)) (pe_op op_mul pe_int (pe_ix ix_list (pv 0) pe_int (fun _ _ => rfl)))) pa_nil)) pe_int) pe_int) (pv 3)))
       (pss_one (ps_ret (pe_op op_mod (pe_callTy call_int1 (by rfl) B.int bt_int (pa_cons (pe_op op_fdiv (pv 4) pe_int) pa_nil)) (pv 1)))))))), ?_⟩
    refine ⟨.ref d, rfl, d, _, 0, _, rfl, rfl, SqL.of hd, atI_nat (j := 0) rfl, a, 0, rfl, rfl, _, rfl, ifd (fun e => ?_) (fun e => ?_)⟩
    · refine ⟨.ref d, rfl, d, _, 0, _, rfl, rfl, SqL.of hd, atI_nat (j := 0) rfl, .inl ⟨a, rfl, .int t, rfl, a, t, rfl, rfl, ht, ?_⟩⟩
      refine ⟨.ref d, rfl, d, _, 0, _, rfl, rfl, SqL.of hd, atI_nat (j := 0) rfl, .int t, rfl, a, t, rfl, rfl, ⟨ht, ht2⟩, ?_⟩
      refine ⟨.ref d, rfl, d, _, 0, 0, rfl, rfl, hd, rfl, ?_⟩
      exact ⟨_, rfl, q _ _ (Int.emod_nonneg _ (by omega)) (Int.emod_lt_of_pos _ ht) Dice.at But.put⟩
    · refine ⟨.ref d, rfl, d, _, 2, _, rfl, rfl, SqL.of hd, atI_nat (j := 2) rfl, c, 1, rfl, rfl, ?_⟩
      refine ⟨.ref d, rfl, d, _, 2, 2, rfl, rfl, hd, rfl, ?_⟩
      generalize hH1 : upd H d _ = H1
      have hd1 : H1 d = some (.lst [.int a, .int b, .int (c + 1)]) := by rw [← hH1]; exact upd_same
      have k1 : But d H H1 := fun b n => by rw [← hH1, upd_ne n]
      refine ⟨.ref d, rfl, d, _, 1, _, rfl, rfl, SqL.of hd1, atI_nat (j := 1) rfl, .ref d, rfl, d, _, 2, _, rfl, rfl, SqL.of hd1, atI_nat (j := 2) rfl, _, _, rfl, rfl, .inl (by decide), _, _, rfl, rfl, .inl ⟨_, rfl, ?_⟩⟩
      refine r_modC (by decide) fun one h0 h1 => ?_
      refine ⟨.int one, rfl, .int one, rfl, one, one, rfl, rfl, .inl (by omega), .ref d, rfl, d, _, 2, _, rfl, rfl, SqL.of hd1, atI_nat (j := 2) rfl, _, _, rfl, rfl, .inl (by decide), _, _, rfl, rfl, .inl ⟨_, rfl, ?_⟩⟩
      refine r_modC (by decide) fun x x0 x1 => ?_
      refine ⟨_, _, rfl, rfl, .inr (by decide), .int one, rfl, _, _, rfl, rfl, ?_⟩
      refine ⟨_, rfl, _, _, rfl, rfl, ⟨by decide, by decide⟩, .inl ⟨_, rfl, .int t, rfl, ?_⟩⟩
      exact r_mod ht fun r r0 r1 => q r H1 r0 r1 ⟨_, _, _, hd1⟩ k1
theorem ok_dice (B : Bl mg) (D : Df K mg "_law_dice" s__law_dice ["script", "spot"]) : Cg P w K mg base CX0 1 "_law_dice" (spDice K) := by
  refine cg_of D sc__law_dice (fun vs H Q E h => ?_) (fun f cdv A fr s H vs Q E hr hgd h => ?_)
  · obtain ⟨a, k, ns, rfl, _⟩ := h
    rfl
  · obtain ⟨a, k, ns, rfl, ha, q⟩ := h
    refine ⟨_, (pss_cons (ps_set (i := 2) sc__law_dice.nd rfl (by first | exact Or.inl rfl | exact Or.inr rfl) (pe_ifExp (pt_cmpR op_lt (pv 1) (pe_callB call_len_seq (by rfl) B.len bt_len (pa_cons (pv 0) pa_nil)) (nomark _)) (pe_callTy call_int1 (by rfl) B.int bt_int (pa_cons (pe_ix ix_list (pv 0) (pv 1) (fun _ _ => rfl)) pa_nil)) (pe_op op_add (pe_op op_mul pe_int (pv 1)) pe_int)))
    (pss_cons (ps_set (i := 3) sc__law_dice.nd rfl (by first | exact Or.inl rfl | exact Or.inr rfl) (pe_op op_mod (pe_callB (call_max2 rfl) (by rfl) B.max bt_max (pa_cons pe_int (pa_cons (pe_op op_sub (pe_callB call_abs (by rfl) B.abs bt_abs (pa_cons (pv 2) pa_nil)) (pe_op op_pow pe_int pe_int)) pa_nil))) (pe_op op_mulW (pe_op op_pow pe_int pe_int) (pe_op op_pow pe_int pe_int))))
     (pss_one (ps_ret (pe_lst (pa_cons (pv 3) (pa_cons (pe_op op_add (pe_op op_add (pe_op op_add (pe_op op_mul (pe_op op_mod (pe_callB call_abs (by rfl) B.abs bt_abs (pa_cons (pv 2) pa_nil)) pe_int) pe_int) (pe_op op_mul pe_int (pv 1))) (pe_op op_mul pe_int (pe_callTy call_int1 (by rfl) B.int bt_int (pa_cons (pe_cmpR op_lt (pv 2) pe_int (nomark _)) pa_nil)))) pe_int) (pa_cons pe_int pa_nil)))))))), ?_⟩
    refine ⟨.int (k : Int), rfl, .ref a, rfl, a, _, rfl, .inl ha, _, _, rfl, rfl, _, rfl, join IsI ?_ (fun e Q' q' => ?_) (fun e Q' q' => ?_)⟩
    · rintro _ ⟨cell, rfl⟩
      refine ⟨.int cell, rfl, cell, rfl, _, _, rfl, rfl, pow_ok (by decide +kernel), _, _, rfl, rfl, _, _, rfl, _, _, rfl, rfl, pow_ok (by decide +kernel), _, _, rfl, rfl, pow_ok (by decide +kernel), _, _, rfl, rfl, ten60, ?_⟩
      refine r_mod (by decide +kernel) fun left _ _ => ?_
      refine ⟨_, rfl, .int cell, rfl, cell, rfl, ?_⟩
      refine r_modC (by decide) fun x _ _ => ?_
      refine ⟨_, _, rfl, rfl, .inr (by decide), .int (k : Int), rfl, _, _, rfl, rfl, .inl (by decide), _, _, rfl, rfl, .int cell, rfl, _, _, rfl, rfl, .inr ⟨_, rfl, _, _, rfl, rfl, .inl (by decide), _, _, rfl, rfl, _, _, rfl, rfl, ?_⟩⟩
      exact ⟨(show 3 ≤ sizeLine by decide), fun p hp => q p hp _ Dice.at But.put⟩
    · obtain ⟨i, hi⟩ := at_int e
      exact ⟨.ref a, rfl, .int (k : Int), rfl, a, _, _, _, rfl, rfl, ha, hi, .inl ⟨i, rfl, q' _ ⟨i, rfl⟩⟩⟩
    · exact ⟨.int (k : Int), rfl, _, _, rfl, rfl, .inl (by decide), _, _, rfl, rfl, q' _ ⟨_, rfl⟩⟩

/-- a drawn number of at least z -/
def spGreat : Sp := fun vs H Q _ => ∃ d z, vs = [.ref d, .int z] ∧ Dice H d ∧ ∀ (i : Int) H', 0 ≤ i → i < 10 ^ 31 → Kd d H H' → Q (.int (z + i)) H'
def spLong (K : PySem.W.Frag) : Sp := fun vs H Q _ => ∃ d, vs = [.ref d] ∧ Dice H d ∧ ∀ (p : Addr) (ns : List Int) (L : Int) (H' : Hp), Kd d H H' → p ≠ d → SqT K H' p (ns.map V.int) → ns.length ≤ 6 → Chd ns L → L < 10 ^ 27 → Q (.ref p) H'
/-- a drawn lot with things of some sizes -/
structure Grt (ns : List Int) (ps : List (Int × Int)) : Prop where
  nd : (ps.map Prod.fst).Nodup
  sub : ∀ p ∈ ps, p.1 ∈ ns ∧ 0 < p.2 ∧ p.2 ≤ 10 ^ 31
  ln : ps.length ≤ ns.length
def spGl (K : PySem.W.Frag) : Sp := fun vs H Q _ => ∃ (d p : Addr) (ns : List Int), vs = [.ref d, .ref p] ∧ p ≠ d ∧ Dice H d ∧ SqT K H p (ns.map V.int) ∧ ns.length ≤ 100 ∧ ns.Nodup ∧ ∀ (q : Addr) (ps : List (Int × Int)) (H' : Hp), Kd d H H' → q ≠ d → H' q = some (.dK (ps.map kc)) → Grt ns ps → Q (.ref q) H'
def spCp : Sp := fun vs H Q _ => ∃ g n ps, vs = [.ref g, .int n] ∧ H g = some (.dK (ps.map kc)) ∧ Cts ps ∧ ∀ H', Evl.Ex H H' → Q (.bl (decide (n ≤ tot ps) && okB ps n)) H'
theorem ok_great (B : Bl mg) (D : Df K mg "_law_great" s__law_great ["dice", "least"]) (C__law_roll : Cg P w K mg base CX0 1 "_law_roll" spRoll) : Cg P w K mg base CX0 2 "_law_great" spGreat := by
  refine cg_of D sc__law_great (fun vs H Q E h => ?_) (fun f cdv A fr s H vs Q E hr hgd h => ?_)
  · obtain ⟨d, z, rfl, _⟩ := h
    rfl
  · obtain ⟨d, z, rfl, hd, q⟩ := h
    refine ⟨_, (pss_cons (ps_par (i := 2) (j := 3) rfl sc__law_great.nd rfl rfl (by decide) rfl rfl (pa_cons (pcg C__law_roll hr hgd (pa_cons (pv 0) (pa_cons pe_int pa_nil))) (pa_cons pe_int pa_nil)) (by rfl))
    (pss_cons (ps_for PassesOwn.never rfl (pi_range1 (by rfl) B.range (pa_cons (pe_ifExp (pt_cmpR op_eq (pv 2) pe_int (nomark _)) pe_int pe_int) pa_nil)) (pg_name (i := 4) sc__law_great.nd rfl (by first | exact Or.inl rfl | exact Or.inr rfl)) (pss_one (ps_set (i := 3) sc__law_great.nd rfl (by first | exact Or.inl rfl | exact Or.inr rfl) (pe_op op_add (pe_op op_mul (pv 3) pe_int) (pcg C__law_roll hr hgd (pa_cons (pv 0) (pa_cons pe_int pa_nil)))))))
     (pss_one (ps_ret (pe_op op_add (pv 1) (pe_ifExp (pt_cmpR op_lt (pv 2) pe_int (nomark _)) (pv 3) (pe_op op_mod (pv 3) pe_int))))))), ?_⟩
    refine ⟨.ref d, rfl, d, 4, rfl, by decide, by decide, hd, fun r H1 r0 r1 hd1 k1 => ⟨_, _, rfl, ?_⟩⟩
    have kd1 : Kd d H H1 := Kd.but hd1 k1
    have e6 : (100003 : Int) ^ 6 < 10 ^ 31 := by decide +kernel
    refine Evl.q_forR1 (n := if r = 0 then 6 else 1) (Evl.ea_cons (Evl.ev_if (b := decide (r = 0)) (Evl.et_is (Evl.et_test (ev_eq (Evl.ev_var rfl) Evl.ev_c rfl)) (decide_eq_decide.mpr ⟨V.int.inj, congrArg V.int⟩)) (fun z => Evl.ev_is Evl.ev_c (by rw [if_pos (of_decide_eq_true z)])) (fun z => Evl.ev_is Evl.ev_c (by rw [if_neg (of_decide_eq_false z)]))) Evl.ea_nil)
      (by split <;> omega) (fun i σ H' => Kd d H H' ∧ ∃ (f : Int) (t : Option V), σ = [some (.ref d), some (.int z), some (.int r), some (.int f), t] ∧ 0 ≤ f ∧ f < 100003 ^ i) (fun H2 e2 => ⟨kd1.to e2, 0, none, rfl, by decide, by decide⟩) ?_ ?_
    · rintro i _ H2 hi ⟨k2, f, t, rfl, f0, f1⟩
      refine ⟨.int f, rfl, _, _, rfl, rfl, .inr (by decide), .ref d, rfl, d, 100003, rfl, by decide, by decide, k2.2, fun x H3 x0 x1 hd3 k3 => ⟨_, _, rfl, rfl, k2.trans (Kd.but hd3 k3), _, _, rfl, by omega, ?_⟩⟩
      rw [Int.pow_succ]
      omega
    · rintro _ H2 ⟨k2, f, t, rfl, f0, f1⟩
      have fl : f < 10 ^ 31 := by
        refine Int.lt_of_lt_of_le f1 ?_
        split
        · exact Int.le_of_lt e6
        · decide +kernel
      refine ⟨_, rfl, _, rfl, _, _, rfl, rfl, _, rfl, ifd (fun _ => ?_) (fun _ => ?_)⟩
      · refine ⟨.int f, rfl, _, _, rfl, rfl, ?_⟩
        exact q f H2 f0 fl k2
      · refine ⟨.int f, rfl, r_modC (by decide) fun x x0 x1 => ⟨_, _, rfl, rfl, ?_⟩⟩
        exact q x H2 x0 (Int.lt_trans x1 (by decide +kernel)) k2
theorem ok_long (B : Bl mg) (D : Df K mg "_law_long_chain" s__law_long_chain ["dice"]) (C__law_roll : Cg P w K mg base CX0 1 "_law_roll" spRoll) : Cg P w K mg base CX0 2 "_law_long_chain" (spLong K) := by
  refine cg_of D sc__law_long_chain (fun vs H Q E h => ?_) (fun f cdv A fr s H vs Q E hr hgd h => ?_)
  · obtain ⟨d, rfl, _⟩ := h
    rfl
  · obtain ⟨d, rfl, hd, q⟩ := h
    refine ⟨_, (pss_cons (ps_set (i := 1) sc__law_long_chain.nd rfl (by first | exact Or.inl rfl | exact Or.inr rfl) (pe_lst (pa_cons (pe_op op_add pe_int (pcg C__law_roll hr hgd (pa_cons (pv 0) (pa_cons pe_int pa_nil)))) pa_nil)))
    (pss_cons (ps_for PassesOwn.never rfl (pi_range1 (by rfl) B.range (pa_cons (pcg C__law_roll hr hgd (pa_cons (pv 0) (pa_cons pe_int pa_nil))) pa_nil)) (pg_name (i := 2) sc__law_long_chain.nd rfl (by first | exact Or.inl rfl | exact Or.inr rfl)) (pss_cons (ps_set (i := 3) sc__law_long_chain.nd rfl (by first | exact Or.inl rfl | exact Or.inr rfl) (pe_ifExp (pt_cmpR op_gt (pcg C__law_roll hr hgd (pa_cons (pv 0) (pa_cons pe_int pa_nil))) pe_int (nomark _)) (pe_op op_add pe_int (pcg C__law_roll hr hgd (pa_cons (pv 0) (pa_cons pe_int pa_nil)))) (pe_op op_add pe_int (pcg C__law_roll hr hgd (pa_cons (pv 0) (pa_cons pe_int pa_nil))))))
    (pss_one (ps_expr (pe_bm PySem.F.plainAttrs_list PySem.F.slot_list_append PySem.F.type_list_append mt_append (pv 1) (pa_cons (pe_op op_mul (pe_ix ix_list (pv 1) (pe_un un_neg pe_int) (fun _ _ => rfl)) (pv 3)) pa_nil))))))
     (pss_one (ps_ret (pe_callTy call_tuple_of (by rfl) B.tuple bt_tuple (pa_cons (pv 1) pa_nil)))))), ?_⟩
    refine ⟨.ref d, rfl, d, 5, rfl, by decide, by decide, hd, fun r H1 r0 r1 hd1 k1 => ⟨_, _, rfl, rfl, (show 1 ≤ sizeLine by decide), fun l hl => ?_⟩⟩
    have ne := hd1.ne hl
    have hl0 : H l = none := (k1 l ne).symm.trans hl
    refine ⟨.ref d, rfl, d, 6, rfl, by decide, by decide, hd1.new hl, fun n H2 n0 n1 hd2 k2 => ⟨n, rfl, by omega, by omega, ?_⟩⟩
    refine for_range (fun i σ H' => Kd d H H' ∧ ∃ (ns : List Int) (L : Int) (t s : Option V), σ = [some (.ref d), some (.ref l), t, s] ∧ H' l = some (.lst (ns.map V.int)) ∧ Chd ns L ∧ L ≤ 5 * 100005 ^ i ∧ ns.length = i + 1) ?_ ?_ ?_
    · refine ⟨(Kd.but hd1 k1).trans ((Kd.ex hd1 (Evl.Ex.new hl)).trans (Kd.but hd2 k2)), [1 + r], 1 + r, none, none, rfl, ?_, Chd.one (by omega), by omega, rfl⟩
      rw [k2 l ne]; exact upd_same
    · rintro i _ H2 hi ⟨k3, ns, L, t, s, rfl, hl2, hc, hL, hn⟩
      refine sq_asgK (d := d) (Pr := fun v => ∃ y : Int, v = .int y ∧ 2 ≤ y ∧ y ≤ 100005) k3.2 (fun H3 k4 Q q => ⟨.ref d, rfl, d, 3, rfl, by decide, by decide, k4.2, fun x H4 x0 x1 hd5 k5 => ⟨_, _, rfl, rfl, _, rfl, ifd
        (fun _ => ⟨.ref d, rfl, d, 3, rfl, by decide, by decide, hd5, fun y H5 y0 y1 hd6 k6 => ⟨_, _, rfl, rfl, q _ _ ((Kd.but hd5 k5).trans (Kd.but hd6 k6)) ⟨2 + y, rfl, by omega, by omega⟩⟩⟩)
        (fun _ => ⟨.ref d, rfl, d, 100003, rfl, by decide, by decide, hd5, fun y H5 y0 y1 hd6 k6 => ⟨_, _, rfl, rfl, q _ _ ((Kd.but hd5 k5).trans (Kd.but hd6 k6)) ⟨2 + y, rfl, by omega, by omega⟩⟩⟩)⟩⟩) ?_
      rintro _ H3 k4 ⟨y, rfl, y0, y1⟩
      have l3 : H3 l = some (.lst (ns.map V.int)) := k4.1 l _ ne hl2
      have lpos := hc.posL
      refine Evl.s_app l3 (Evl.ev_var rfl) (v := .int (L * y)) (ev_i (g := fun i j => .int (i * j)) (ev_ixL (Evl.ev_var rfl) (Evl.ev_un Evl.ev_c Evl.ru_neg) (SqL.of l3) hc.at) (Evl.ev_var rfl) (.inr ⟨by omega, by omega⟩)) (by rw [List.length_map]; omega) (fun H4 e4 => ?_)
      refine ⟨⟨Kp.mut ((k3.trans k4).to e4).1 hl0, ((k4.2.ex e4)).put ne⟩, ns ++ [L * y], L * y, _, _, rfl, ?_, hc.snoc y0, ?_, ?_⟩
      · rw [List.map_append]; exact upd_same
      · have a1 : L * y ≤ (5 * 100005 ^ i) * 100005 := Int.mul_le_mul hL y1 (by omega) (Int.mul_nonneg (by decide) (Int.pow_nonneg (by decide)))
        rw [Int.pow_succ, ← Int.mul_assoc]
        exact a1
      · rw [List.length_append, hn]; rfl
    · rintro _ H2 ⟨k3, ns, L, t, s, rfl, hl2, hc, hL, hn⟩
      have hL2 : L < 10 ^ 27 := Int.lt_of_le_of_lt hL (by
        have : n = 0 ∨ n = 1 ∨ n = 2 ∨ n = 3 ∨ n = 4 ∨ n = 5 := by omega
        rcases this with rfl | rfl | rfl | rfl | rfl | rfl <;> decide +kernel)
      exact Evl.s_retU (eu_tup_of (Evl.ev_var rfl) (SqL.of hl2)) (fun p H3 hp e3 h3 => q p ns L H3 (k3.to e3) (k3.2.ne hp) (SqT.of h3) (by omega) hc hL2)
theorem ok_pickS (B : Bl mg) (D : Df K mg "_law_pick" s__law_pick ["dice", "items"]) (C__law_roll : Cg P w K mg base CX0 1 "_law_roll" spRoll) : Cg P w K mg base CX0 2 "_law_pick" (spPickS K) := by
  refine cg_of D sc__law_pick (fun vs H Q E h => ?_) (fun f cdv A fr s H vs Q E hr hgd h => ?_)
  · obtain ⟨d, p, xs, rfl, _⟩ := h
    rfl
  · obtain ⟨d, p, xs, rfl, hd, hp, ne, hx, hl, q⟩ := h
    refine ⟨_, (pss_one (ps_ret (pe_ix ix_seq (pv 1) (pcg C__law_roll hr hgd (pa_cons (pv 0) (pa_cons (pe_callB call_len_seq (by rfl) B.len bt_len (pa_cons (pv 1) pa_nil)) pa_nil))) (fun _ _ => rfl)))), ?_⟩
    have h0 : 0 < xs.length := List.length_pos_iff.mpr hx
    refine ⟨.ref p, rfl, .ref d, rfl, .ref p, rfl, p, xs, rfl, hp, d, _, rfl, by omega, by omega, hd, fun r H' r0 r1 hd' k => ?_⟩
    obtain ⟨x, hm, hx⟩ := at_in (xs := xs) r0 r1
    rcases hp with hp | hp
    · exact .inl ⟨p, xs, r, x, rfl, rfl, k.sqL ne hp, hx, q x hm H' hd' k⟩
    · exact .inr (.inl ⟨p, xs, r, x, rfl, rfl, k.kp.sqT ne hp, hx, q x hm H' hd' k⟩)
theorem ei_great {d : Addr} {σ : L2.St} {H : Hp} {i : Nat} {z : Int} (hv : σ[i]? = some (some (.ref d))) : Ei d (fun y => z ≤ y ∧ y < z + 10 ^ 31) (tCall spGreat [] E0 (tCons (tVar i) (tCons (tC (.int z)) tNil))) σ H := fun H1 e Q q =>
  ⟨_, hv, d, z, rfl, e.2, fun y H2 y0 y1 k => q _ H2 k ⟨_, rfl, by omega, by omega⟩⟩
def spGrs (K : PySem.W.Frag) : Sp := fun vs H Q _ => ∃ (d p : Addr) (ns : List Int), vs = [.ref d, .ref p] ∧ p ≠ d ∧ Dice H d ∧ SqT K H p (ns.map V.int) ∧ ns ≠ [] ∧ ns.length ≤ 100 ∧ (∀ n ∈ ns, 0 < n ∧ n < 10 ^ 27) ∧ ∀ l vs rs H', Kd d H H' → l ≠ d → H' l = some (.lst vs) → F2 (RP K H') vs rs → rs ≠ [] → GrR rs → Q (.ref l) H'
theorem ok_grs (B : Bl mg) (D : Df K mg "_law_great_store" s__law_great_store ["dice", "sizes"]) (C__law_roll : Cg P w K mg base CX0 1 "_law_roll" spRoll) (C__law_pick : Cg P w K mg base CX0 2 "_law_pick" (spPickS K)) (C__law_great : Cg P w K mg base CX0 2 "_law_great" spGreat) : Cg P w K mg base CX0 3 "_law_great_store" (spGrs K) := by
  refine cg_of D sc__law_great_store (fun vs H Q E h => ?_) (fun f cdv A fr s H vs Q E hr hgd h => ?_)
  · obtain ⟨d, p, ns, rfl, _⟩ := h
    rfl
  · obtain ⟨d, p, ns, rfl, pd, hd, hp, hne, hln, hb, q⟩ := h
    refine ⟨_, (pss_cons (ps_set (i := 2) sc__law_great_store.nd rfl (by first | exact Or.inl rfl | exact Or.inr rfl) (pe_lst pa_nil))
    (pss_cons (ps_for PassesOwn.never rfl (pi_range1 (by rfl) B.range (pa_cons (pe_op op_add pe_int (pcg C__law_roll hr hgd (pa_cons (pv 0) (pa_cons pe_int pa_nil)))) pa_nil)) (pg_name (i := 3) sc__law_great_store.nd rfl (by first | exact Or.inl rfl | exact Or.inr rfl)) (pss_cons (ps_set (i := 4) sc__law_great_store.nd rfl (by first | exact Or.inl rfl | exact Or.inr rfl) (pe_op op_add (pe_op op_mul (pcg C__law_pick hr hgd (pa_cons (pv 0) (pa_cons (pv 1) pa_nil))) (pe_op op_add pe_int (pcg C__law_roll hr hgd (pa_cons (pv 0) (pa_cons pe_int pa_nil))))) (pcg C__law_roll hr hgd (pa_cons (pv 0) (pa_cons (pcg C__law_pick hr hgd (pa_cons (pv 0) (pa_cons (pe_lst (pa_cons pe_int (pa_cons pe_int (pa_cons pe_int pa_nil)))) pa_nil))) pa_nil)))))
    (pss_one (ps_expr (pe_bm PySem.F.plainAttrs_list PySem.F.slot_list_append PySem.F.type_list_append mt_append (pv 2) (pa_cons (pe_tup (pa_cons (pe_op op_add (pv 4) (pe_op op_mul (pcg C__law_roll hr hgd (pa_cons (pv 0) (pa_cons pe_int pa_nil))) (pcg C__law_pick hr hgd (pa_cons (pv 0) (pa_cons (pv 1) pa_nil))))) (pa_cons (pcg C__law_great hr hgd (pa_cons (pv 0) (pa_cons pe_int pa_nil))) pa_nil))) pa_nil))))))
     (pss_one (ps_ret (pv 2))))), ?_⟩
    refine ⟨(show 0 ≤ sizeLine by decide), fun l nl => ?_⟩
    have ld := hd.ne nl
    have k0 : Kd d H (upd H l (.lst [])) := Kd.ex hd (Evl.Ex.new nl)
    refine ⟨.ref d, rfl, d, 5, rfl, by decide, by decide, k0.2, fun n H2 n0 n1 hd2 k2 => ⟨_, _, rfl, rfl, 1 + n, rfl, by omega, by omega, ?_⟩⟩
    have kd2 : Kd d H H2 := k0.trans (Kd.but hd2 k2)
    refine for_range (fun i σ H' => Kd d H H' ∧ ∃ (vs : List V) (rs : List (Int × Int)) (t s : Option V), σ = [some (.ref d), some (.ref p), some (.ref l), t, s] ∧ H' l = some (.lst vs) ∧ F2 (RP K H') vs rs ∧ rs.length = i ∧ ∀ r ∈ rs, (0 < r.1 ∧ r.1 < 10 ^ 28) ∧ 0 < r.2 ∧ r.2 < 10 ^ 32) ⟨kd2, [], [], none, none, rfl, by rw [k2 l ld]; exact upd_same, .nil, rfl, fun r h => nomatch h⟩ ?_ ?_
    · rintro i _ H3 hi ⟨k3, vs, rs, t, s, rfl, hl3, hf3, hn, hr3⟩
      have hp3 := k3.1.sqT pd hp
      have pk : ∀ {σ : L2.St} {H : Hp}, σ[0]? = some (some (.ref d)) → σ[1]? = some (some (.ref p)) → SqT K H p (ns.map V.int) → Ei d (fun y => 0 < y ∧ y < 10 ^ 27) (tCall (spPickS K) [] E0 (tCons (tVar 0) (tCons (tVar 1) tNil))) σ H := fun e1 e2 h => (ei_pick e1 (pick_tup (K := K) e2 h pd) hne (by omega)).mono fun y hy => hb y hy
      refine sq_asgK (d := d) (Pr := fun v => ∃ y, v = .int y ∧ 0 < y ∧ y < 5 * 10 ^ 27) k3.2 (ei_0 (g := fun i j => i + j) (P := fun y => 0 < y ∧ y < 4 * 10 ^ 27) (R := fun y => 0 ≤ y ∧ y < 9) (ei_C (g := fun i j => i * j) (pk rfl rfl hp3) (ei_0 (g := fun i j => i + j) (S := fun y => 1 ≤ y ∧ y ≤ 4) (ei_c (P := fun y => y = 1) rfl) (ei_roll rfl (by decide) (by decide)) (fun a b h1 h2 => by omega)) (fun a b h1 h2 => .inr ⟨by omega, by omega⟩) (fun a b h1 h2 => ?_))
        (ei_rollV rfl ((ei_pick (K := K) rfl (pick_lst (K := K) (xs := [1, 3, 9]) (fun H1 _ => Evl.ea_cons Evl.ev_c (Evl.ea_cons Evl.ev_c (Evl.ea_cons Evl.ev_c Evl.ea_nil))) (by decide)) (by decide) (by decide)).mono fun y hy => ?_) (by decide)) (fun a b h1 h2 => by omega)) ?_
      · obtain ⟨b1, b2⟩ := h2
        have : b = 1 ∨ b = 2 ∨ b = 3 ∨ b = 4 := by omega
        rcases this with rfl | rfl | rfl | rfl <;> omega
      · have : y = 1 ∨ y = 3 ∨ y = 9 := by simpa using hy
        omega
      rintro _ H4 k4 ⟨room, rfl, m0, m1⟩
      have hp4 := k4.1.sqT pd hp3
      have R1 : Ei d (fun y => 0 < y ∧ y < 10 ^ 28) (tOp (rI0 fun i j => V.int (i + j)) (tVar 4) (tOp (rI CMul fun i j => V.int (i * j)) (tCall spRoll [] E0 (tCons (tVar 0) (tCons (tC (V.int 2)) tNil))) (tCall (spPickS K) [] E0 (tCons (tVar 0) (tCons (tVar 1) tNil))))) [some (.ref d), some (.ref p), some (.ref l), some (.int (0 + (i : Int))), some (.int room)] H4 :=
        ei_0 (g := fun i j => i + j) (P := fun y => y = room) (R := fun y => 0 ≤ y ∧ y < 10 ^ 27) (ei_v rfl rfl) (ei_C (g := fun i j => i * j) (ei_roll rfl (by decide) (by decide)) (pk rfl rfl hp4) (fun a b h1 h2 => .inl ⟨by omega, by omega⟩) (fun a b h1 h2 => by
          obtain ⟨b1, b2⟩ := h1
          have : a = 0 ∨ a = 1 := by omega
          rcases this with rfl | rfl <;> omega)) (fun a b h1 h2 => by omega)
      have ndl : ∀ {H' : Hp}, Dice H' d → l ≠ d := fun _ => ld
      have hnl : H l = none := nl
      refine ⟨_, rfl, ?_⟩
      refine ⟨.inl ⟨rfl, vs, SqL.of (k4.1 l _ ld hl3)⟩, ?_⟩
      refine R1 H4 (Kd.refl k4.2) _ fun v H5 k5 ⟨y, e, y0, y1⟩ => ?_
      subst e
      refine ei_great rfl H5 (Kd.refl k5.2) _ fun v H6 k6 ⟨m, e, g0, g1⟩ => ?_
      subst e
      refine ⟨(show 2 ≤ sizeLine by decide), fun u nu => ?_⟩
      have k46 := (k4.trans (k5.trans k6))
      have k47 : Kd d H3 (upd H6 u (.tup [.int y, .int m])) := k46.to (Evl.Ex.new nu)
      have hl7 := k47.1 l _ ld hl3
      refine ⟨l, vs, _, rfl, rfl, hl7, ?_, ?_⟩
      · rw [hf3.len, hn]
        refine Nat.lt_of_lt_of_le (show i < 100 by omega) (show 100 ≤ sizeLine by decide)
      · refine ⟨⟨Kp.mut (k3.trans k47).1 hnl, k47.2.put ld⟩, vs ++ [.ref u], rs ++ [(y, m)], _, _, rfl, upd_same, ?_, by rw [List.length_append, hn]; rfl, fun r hr => ?_⟩
        · exact ((hf3.imp fun x b r => r.kd k3.2 k47).app (.cons ⟨u, rfl, SqT.of upd_same⟩ .nil)).imp fun x b r => RP.upd hl7 r
        · rcases List.mem_append.mp hr with h | h
          · exact hr3 r h
          · rw [List.mem_singleton.mp h]
            exact ⟨⟨y0, y1⟩, by omega, by omega⟩
    · rintro _ H3 ⟨k3, vs, rs, t, s, rfl, hl3, hf3, hn, hr3⟩
      exact ⟨.ref l, rfl, q l vs rs H3 k3 ld hl3 hf3 (fun e => by rw [e] at hn; have : (0 : Nat) = (1 + n).toNat := hn; omega) ⟨by omega, hr3⟩⟩
theorem ok_madeS {CS : Addr} (B : Bl mg) (D : Df K mg "_law_made_store" s__law_made_store ["runs"]) (M_Store : Mkc P w K mg base 4 "Store" CS (spStoI K CS)) : Cg P w K mg base CX0 6 "_law_made_store" (spMadeS K CS) := by
  refine cg_of D sc__law_made_store (fun vs H Q E h => ?_) (fun f cdv A fr s H vs Q E hr hgd h => ?_)
  · obtain ⟨l, vs, rs, rfl, _⟩ := h
    rfl
  · obtain ⟨l, vs, rs, rfl, hl, hf, hne, hln, hrn, q⟩ := h
    refine ⟨_, (pss_cons (ps_set (i := 1) sc__law_made_store.nd rfl (by first | exact Or.inl rfl | exact Or.inr rfl) (pe_op op_cat (pe_callTy call_list_of (by rfl) B.list bt_list (pa_cons (pv 0) pa_nil)) (pe_op op_rep (pe_lst (pa_cons pe_non pa_nil)) pe_int)))
    (pss_cons (ps_asg (pe_slice sl_list (pv 1) po_none (po_some pe_int)) (pg_lst (n := 8) rfl (pgs_cons (pg_name (i := 2) sc__law_made_store.nd rfl (by first | exact Or.inl rfl | exact Or.inr rfl)) (pgs_cons (pg_name (i := 3) sc__law_made_store.nd rfl (by first | exact Or.inl rfl | exact Or.inr rfl)) (pgs_cons (pg_name (i := 4) sc__law_made_store.nd rfl (by first | exact Or.inl rfl | exact Or.inr rfl)) (pgs_cons (pg_name (i := 5) sc__law_made_store.nd rfl (by first | exact Or.inl rfl | exact Or.inr rfl)) (pgs_cons (pg_name (i := 6) sc__law_made_store.nd rfl (by first | exact Or.inl rfl | exact Or.inr rfl)) (pgs_cons (pg_name (i := 7) sc__law_made_store.nd rfl (by first | exact Or.inl rfl | exact Or.inr rfl)) (pgs_cons (pg_name (i := 8) sc__law_made_store.nd rfl (by first | exact Or.inl rfl | exact Or.inr rfl)) (pgs_cons (pg_name (i := 9) sc__law_made_store.nd rfl (by first | exact Or.inl rfl | exact Or.inr rfl)) pgs_nil))))))))))
     (pss_cons (ps_if (pt_cmpR (op_eqD hr.units) (pv 0) (pe_lst pa_nil) (nomark _)) (pss_one (ps_ret (pmk0 M_Store hr))) pss_nil)
      (pss_cons (ps_if (pt_cmpR op_eq (pe_callB call_len_seq (by rfl) B.len bt_len (pa_cons (pv 0) pa_nil)) pe_int (nomark _)) (pss_one (ps_ret (pmk M_Store hr (pa_cons (pv 2) pa_nil)))) pss_nil)
       (pss_cons (ps_if (pt_cmpR op_eq (pe_callB call_len_seq (by rfl) B.len bt_len (pa_cons (pv 0) pa_nil)) pe_int (nomark _)) (pss_one (ps_ret (pmk M_Store hr (pa_cons (pv 2) (pa_cons (pv 3) pa_nil))))) pss_nil)
        (pss_cons (ps_if (pt_cmpR op_eq (pe_callB call_len_seq (by rfl) B.len bt_len (pa_cons (pv 0) pa_nil)) pe_int (nomark _)) (pss_one (ps_ret (pmk M_Store hr (pa_cons (pv 2) (pa_cons (pv 3) (pa_cons (pv 4) pa_nil)))))) pss_nil)
         (pss_cons (ps_if (pt_cmpR op_eq (pe_callB call_len_seq (by rfl) B.len bt_len (pa_cons (pv 0) pa_nil)) pe_int (nomark _)) (pss_one (ps_ret (pmk M_Store hr (pa_cons (pv 2) (pa_cons (pv 3) (pa_cons (pv 4) (pa_cons (pv 5) pa_nil))))))) pss_nil)
          (pss_cons (ps_if (pt_cmpR op_eq (pe_callB call_len_seq (by rfl) B.len bt_len (pa_cons (pv 0) pa_nil)) pe_int (nomark _)) (pss_one (ps_ret (pmk M_Store hr (pa_cons (pv 2) (pa_cons (pv 3) (pa_cons (pv 4) (pa_cons (pv 5) (pa_cons (pv 6) pa_nil)))))))) pss_nil)
           (pss_cons (ps_if (pt_cmpR op_eq (pe_callB call_len_seq (by rfl) B.len bt_len (pa_cons (pv 0) pa_nil)) pe_int (nomark _)) (pss_one (ps_ret (pmk M_Store hr (pa_cons (pv 2) (pa_cons (pv 3) (pa_cons (pv 4) (pa_cons (pv 5) (pa_cons (pv 6) (pa_cons (pv 7) pa_nil))))))))) pss_nil)
            (pss_cons (ps_if (pt_cmpR op_eq (pe_callB call_len_seq (by rfl) B.len bt_len (pa_cons (pv 0) pa_nil)) pe_int (nomark _)) (pss_one (ps_ret (pmk M_Store hr (pa_cons (pv 2) (pa_cons (pv 3) (pa_cons (pv 4) (pa_cons (pv 5) (pa_cons (pv 6) (pa_cons (pv 7) (pa_cons (pv 8) pa_nil)))))))))) pss_nil)
             (pss_one (ps_ret (pmk M_Store hr (pa_cons (pv 2) (pa_cons (pv 3) (pa_cons (pv 4) (pa_cons (pv 5) (pa_cons (pv 6) (pa_cons (pv 7) (pa_cons (pv 8) (pa_cons (pv 9) pa_nil))))))))))))))))))))), ?_⟩
    have vl := hf.len
    refine Evl.q_asgL (xs := vs ++ List.replicate 8 V.non) (el_catL (el_copy (K := K) (Evl.ev_var rfl) hl) (Ck.el_is (el_rep (Evl.el_lst (Evl.ea_cons Evl.ev_c Evl.ea_nil) (by decide)) (n := 8) Evl.ev_c (by decide) (by decide) (by decide)) (ys := List.replicate 8 V.non) rfl) (by rw [List.length_replicate]; omega)) (fun r H1 nr e1 hr1 => ?_)
    have E1 := e1
    have emp : ∀ H4, Evl.Ex H H4 → ∀ σ : L2.St, σ[0]? = some (some (.ref l)) → Evl.EvT (tTest (tOp (rEqD K) (tVar 0) (tLst tNil))) σ H4 false := fun H4 e4 σ hv => Evl.et_test (Evl.ev_is (ev_eqD (K := K) (ed_of (Evl.ev_var hv) (.lst (Evl.ex_l e4 hl) (dpa_rns (hf.imp fun x b r => r.ex e4)))) (e := .list []) (ed_lst ed_nil) (shaped_lrs rs) (by decide +kernel)) (by
      have z := eqv_prs rs []
      simp only [List.map_nil] at z
      simp only [PyData.eqv, z]
      exact congrArg V.bl (decide_eq_false hne)))
    have len : ∀ H4, Evl.Ex H H4 → ∀ (σ : L2.St) (k : Nat), σ[0]? = some (some (.ref l)) → Evl.EvT (tTest (tOp rEq (tCB (fun xs H Q => ∃ p ys, xs = [V.ref p] ∧ (SqL K H p ys ∨ SqT K H p ys) ∧ Q (.int ys.length) H) (tCons (tVar 0) tNil)) (tC (.int (k : Int))))) σ H4 (decide (vs.length = k)) := fun H4 e4 σ k hv => Evl.et_test (Evl.ev_is (ev_eq (ev_lenL (Evl.ev_var hv) (Evl.ex_l e4 hl)) Evl.ev_c rfl) (congrArg V.bl (decide_eq_decide.mpr ⟨fun h => Int.ofNat.inj (V.int.inj h), fun h => by rw [h]⟩)))
    clear e1
    rcases vs with _ | ⟨v1, _ | ⟨v2, _ | ⟨v3, _ | ⟨v4, _ | ⟨v5, _ | ⟨v6, vs⟩⟩⟩⟩⟩⟩
    · exact absurd (List.eq_nil_of_length_eq_zero vl.symm) hne
    · refine Evl.el_sl (K := K) (Evl.ev_var rfl) Evl.eo_none (Evl.eo_some Evl.ev_c) (SqL.of hr1) H1 (Evl.Ex.refl H1) _ fun p H2 n2 e2 hp => ?_
      have hp : H2 p = some (.lst [v1, V.non, V.non, V.non, V.non, V.non, V.non, V.non]) := hp
      refine ⟨p, _, rfl, SqL.of hp, rfl, v1, _, rfl, .non, _, rfl, .non, _, rfl, .non, _, rfl, .non, _, rfl, .non, _, rfl, .non, _, rfl, .non, _, rfl, rfl, ?_⟩
      have X0 := E1.trans e2
      refine Evl.q_when (emp _ X0 _ rfl) (fun z => nomatch z) (fun _ G0 g0 => ?_)
      have X1 := X0.trans g0
      refine Evl.q_when (b := true) (len _ X1 _ 1 rfl) (fun _ G1 g1 => ?_) (fun z => nomatch z)
      have X2 := X1.trans g1
      exact mk_stoR (K := K) (Evl.ea_cons (Evl.ev_var rfl) Evl.ea_nil) (hf.imp fun x b r => r.ex X2) hrn fun a H9 e9 hs => q a H9 (X2.trans e9) hs
    · refine Evl.el_sl (K := K) (Evl.ev_var rfl) Evl.eo_none (Evl.eo_some Evl.ev_c) (SqL.of hr1) H1 (Evl.Ex.refl H1) _ fun p H2 n2 e2 hp => ?_
      have hp : H2 p = some (.lst [v1, v2, V.non, V.non, V.non, V.non, V.non, V.non]) := hp
      refine ⟨p, _, rfl, SqL.of hp, rfl, v1, _, rfl, v2, _, rfl, .non, _, rfl, .non, _, rfl, .non, _, rfl, .non, _, rfl, .non, _, rfl, .non, _, rfl, rfl, ?_⟩
      have X0 := E1.trans e2
      refine Evl.q_when (emp _ X0 _ rfl) (fun z => nomatch z) (fun _ G0 g0 => ?_)
      have X1 := X0.trans g0
      refine Evl.q_when (b := false) (len _ X1 _ 1 rfl) (fun z => nomatch z) (fun _ G1 g1 => ?_)
      have X2 := X1.trans g1
      refine Evl.q_when (b := true) (len _ X2 _ 2 rfl) (fun _ G2 g2 => ?_) (fun z => nomatch z)
      have X3 := X2.trans g2
      exact mk_stoR (K := K) (Evl.ea_cons (Evl.ev_var rfl) (Evl.ea_cons (Evl.ev_var rfl) Evl.ea_nil)) (hf.imp fun x b r => r.ex X3) hrn fun a H9 e9 hs => q a H9 (X3.trans e9) hs
    · refine Evl.el_sl (K := K) (Evl.ev_var rfl) Evl.eo_none (Evl.eo_some Evl.ev_c) (SqL.of hr1) H1 (Evl.Ex.refl H1) _ fun p H2 n2 e2 hp => ?_
      have hp : H2 p = some (.lst [v1, v2, v3, V.non, V.non, V.non, V.non, V.non]) := hp
      refine ⟨p, _, rfl, SqL.of hp, rfl, v1, _, rfl, v2, _, rfl, v3, _, rfl, .non, _, rfl, .non, _, rfl, .non, _, rfl, .non, _, rfl, .non, _, rfl, rfl, ?_⟩
      have X0 := E1.trans e2
      refine Evl.q_when (emp _ X0 _ rfl) (fun z => nomatch z) (fun _ G0 g0 => ?_)
      have X1 := X0.trans g0
      refine Evl.q_when (b := false) (len _ X1 _ 1 rfl) (fun z => nomatch z) (fun _ G1 g1 => ?_)
      have X2 := X1.trans g1
      refine Evl.q_when (b := false) (len _ X2 _ 2 rfl) (fun z => nomatch z) (fun _ G2 g2 => ?_)
      have X3 := X2.trans g2
      refine Evl.q_when (b := true) (len _ X3 _ 3 rfl) (fun _ G3 g3 => ?_) (fun z => nomatch z)
      have X4 := X3.trans g3
      exact mk_stoR (K := K) (Evl.ea_cons (Evl.ev_var rfl) (Evl.ea_cons (Evl.ev_var rfl) (Evl.ea_cons (Evl.ev_var rfl) Evl.ea_nil))) (hf.imp fun x b r => r.ex X4) hrn fun a H9 e9 hs => q a H9 (X4.trans e9) hs
    · refine Evl.el_sl (K := K) (Evl.ev_var rfl) Evl.eo_none (Evl.eo_some Evl.ev_c) (SqL.of hr1) H1 (Evl.Ex.refl H1) _ fun p H2 n2 e2 hp => ?_
      have hp : H2 p = some (.lst [v1, v2, v3, v4, V.non, V.non, V.non, V.non]) := hp
      refine ⟨p, _, rfl, SqL.of hp, rfl, v1, _, rfl, v2, _, rfl, v3, _, rfl, v4, _, rfl, .non, _, rfl, .non, _, rfl, .non, _, rfl, .non, _, rfl, rfl, ?_⟩
      have X0 := E1.trans e2
      refine Evl.q_when (emp _ X0 _ rfl) (fun z => nomatch z) (fun _ G0 g0 => ?_)
      have X1 := X0.trans g0
      refine Evl.q_when (b := false) (len _ X1 _ 1 rfl) (fun z => nomatch z) (fun _ G1 g1 => ?_)
      have X2 := X1.trans g1
      refine Evl.q_when (b := false) (len _ X2 _ 2 rfl) (fun z => nomatch z) (fun _ G2 g2 => ?_)
      have X3 := X2.trans g2
      refine Evl.q_when (b := false) (len _ X3 _ 3 rfl) (fun z => nomatch z) (fun _ G3 g3 => ?_)
      have X4 := X3.trans g3
      refine Evl.q_when (b := true) (len _ X4 _ 4 rfl) (fun _ G4 g4 => ?_) (fun z => nomatch z)
      have X5 := X4.trans g4
      exact mk_stoR (K := K) (Evl.ea_cons (Evl.ev_var rfl) (Evl.ea_cons (Evl.ev_var rfl) (Evl.ea_cons (Evl.ev_var rfl) (Evl.ea_cons (Evl.ev_var rfl) Evl.ea_nil)))) (hf.imp fun x b r => r.ex X5) hrn fun a H9 e9 hs => q a H9 (X5.trans e9) hs
    · refine Evl.el_sl (K := K) (Evl.ev_var rfl) Evl.eo_none (Evl.eo_some Evl.ev_c) (SqL.of hr1) H1 (Evl.Ex.refl H1) _ fun p H2 n2 e2 hp => ?_
      have hp : H2 p = some (.lst [v1, v2, v3, v4, v5, V.non, V.non, V.non]) := hp
      refine ⟨p, _, rfl, SqL.of hp, rfl, v1, _, rfl, v2, _, rfl, v3, _, rfl, v4, _, rfl, v5, _, rfl, .non, _, rfl, .non, _, rfl, .non, _, rfl, rfl, ?_⟩
      have X0 := E1.trans e2
      refine Evl.q_when (emp _ X0 _ rfl) (fun z => nomatch z) (fun _ G0 g0 => ?_)
      have X1 := X0.trans g0
      refine Evl.q_when (b := false) (len _ X1 _ 1 rfl) (fun z => nomatch z) (fun _ G1 g1 => ?_)
      have X2 := X1.trans g1
      refine Evl.q_when (b := false) (len _ X2 _ 2 rfl) (fun z => nomatch z) (fun _ G2 g2 => ?_)
      have X3 := X2.trans g2
      refine Evl.q_when (b := false) (len _ X3 _ 3 rfl) (fun z => nomatch z) (fun _ G3 g3 => ?_)
      have X4 := X3.trans g3
      refine Evl.q_when (b := false) (len _ X4 _ 4 rfl) (fun z => nomatch z) (fun _ G4 g4 => ?_)
      have X5 := X4.trans g4
      refine Evl.q_when (b := true) (len _ X5 _ 5 rfl) (fun _ G5 g5 => ?_) (fun z => nomatch z)
      have X6 := X5.trans g5
      exact mk_stoR (K := K) (Evl.ea_cons (Evl.ev_var rfl) (Evl.ea_cons (Evl.ev_var rfl) (Evl.ea_cons (Evl.ev_var rfl) (Evl.ea_cons (Evl.ev_var rfl) (Evl.ea_cons (Evl.ev_var rfl) Evl.ea_nil))))) (hf.imp fun x b r => r.ex X6) hrn fun a H9 e9 hs => q a H9 (X6.trans e9) hs
    · simp only [List.length_cons] at vl
      omega
theorem ok_space (B : Bl mg) (D : Df K mg "_law_space" s__law_space ["runs", "size"]) : Cg P w K mg base CX0 1 "_law_space" (spSpace K) := by
  refine cg_of D sc__law_space (fun vs H Q E h => ?_) (fun f cdv A fr s H vs Q E hr hgd h => ?_)
  · obtain ⟨l, s, ts, rs, rfl, _⟩ := h
    rfl
  · obtain ⟨l, sz, ts, rs, rfl, hl, hf, hln, hp, s0, s1, q⟩ := h
    refine ⟨_, (pss_one (ps_ret (pe_callB (cr_sum rfl) (by rfl) B.sum bt_sum (pa_cons (pe_lc (own := [("room", 2), ("number", 3)]) (g := (gTup K 2 (gCons (gName 2) (gCons (gName 3) gNil)))) rfl sc__law_space.nd (pi_list (pv 0)) (blkOk_by (own := [("room", 2), ("number", 3)]) (N := n__law_space) (sc := defScope s__law_space) (by decide +kernel)) (fun _ _ _ _ _ => (pg_tup (n := 2) rfl (pgs_cons (pg_name (i := 2) sc__law_space.nd rfl (by first | exact Or.inl rfl | exact Or.inr rfl)) (pgs_cons (pg_name (i := 3) sc__law_space.nd rfl (by first | exact Or.inl rfl | exact Or.inr rfl)) pgs_nil)))) (fun _ _ _ _ _ => pts_nil) (fun _ _ _ _ _ => (pe_op op_mulW (pv 3) (pe_op op_fdivW (pv 2) (pv 1))))) pa_nil)))), ?_⟩
    refine Evl.s_ret (Evl.ev_is (ev_sum (K := K) (ns := rs.map fun r => r.2 * (r.1 / sz)) (Ck.el_is (el_lcPV (K := K) (fun r => .int (r.2 * (r.1 / sz))) (Evl.ev_var rfl) hl hf (by omega) (fun _ _ => rfl) (fun r hr H1 e1 => ?_)) (by rw [List.map_map]; rfl))) rfl) q
    obtain ⟨p0, p1, p2⟩ := hp r hr
    exact ev_i (g := fun i j => .int (i * j)) (Evl.ev_var rfl) (ev_i (g := fun i j => .int (i / j)) (Evl.ev_var rfl) (Evl.ev_var rfl) (divW s0 s1)) (mul200 p2 (Nat.lt_of_le_of_lt (natAbs_div p0 s0) p1))
theorem at_int' {ns : List Int} {i : Nat} (h : i < ns.length) : atI (ns.map V.int) (i : Int) = some (.int (ns.getD i 0)) :=
  atI_nat (by rw [List.getElem?_map, List.getElem?_eq_getElem h, List.getD_eq_getElem?_getD, List.getElem?_eq_getElem h]; rfl)
theorem at_next {ns : List Int} {i : Nat} (h : i + 1 < ns.length) : atI (ns.map V.int) ((i : Int) + 1) = some (.int (ns.getD (i + 1) 0)) := at_int' (i := i + 1) h
theorem ok_dueL (B : Bl mg) (D : Df K mg "_law_is_due" s__law_is_due ["chain", "value"]) : Cg P w K mg base CX0 1 "_law_is_due" (spDueL K) := by
  refine cg_of D sc__law_is_due (fun vs H Q E h => ?_) (fun f cdv A fr s H vs Q E hr hgd h => ?_)
  · obtain ⟨p, u, ns, us, rfl, _⟩ := h
    rfl
  · obtain ⟨p, u, ns, us, rfl, hp, hu, h0, ln, lu, hs, hb, q⟩ := h
    refine ⟨_, (pss_cons (ps_if (pw_or (pt_cmpR op_ne (pe_callB call_len_seq (by rfl) B.len bt_len (pa_cons (pv 1) pa_nil)) (pe_callB call_len_seq (by rfl) B.len bt_len (pa_cons (pv 0) pa_nil)) (nomark _)) (pw_or1 (pt_cmpR (op_neD hr.units) (pe_lc (own := [("units", 2)]) (g := (gName 2)) rfl sc__law_is_due.nd (pi_tup (pv 1)) (blkOk_by (own := [("units", 2)]) (N := n__law_is_due) (sc := defScope s__law_is_due) (by decide +kernel)) (fun _ _ _ _ _ => (pg_name (i := 2) sc__law_is_due.nd rfl (by first | exact Or.inl rfl | exact Or.inr rfl))) (fun _ _ _ _ _ => (pts_one (pt_cmpR op_lt (pv 2) pe_int (nomark _)))) (fun _ _ _ _ _ => (pv 2))) (pe_lst pa_nil) (nomark _)))).pt (pss_one (ps_ret pe_bl)) pss_nil)
    (pss_one (ps_ret (pe_cmpR (op_eqD hr.units) (pe_lc (own := [("at", 3)]) (g := (gName 3)) rfl sc__law_is_due.nd (pi_range1 (by rfl) B.range (pa_cons (pe_op op_sub (pe_callB call_len_seq (by rfl) B.len bt_len (pa_cons (pv 0) pa_nil)) pe_int) pa_nil)) (blkOk_by (own := [("at", 3)]) (N := n__law_is_due) (sc := defScope s__law_is_due) (by decide +kernel)) (fun _ _ _ _ _ => (pg_name (i := 3) sc__law_is_due.nd rfl (by first | exact Or.inl rfl | exact Or.inr rfl))) (fun _ _ _ _ _ => (pts_one (pt_cmpR op_lt (pe_ix (ix_tupK (K := K) rfl) (pv 1) (pv 3) (fun _ _ => rfl)) (pe_op op_mulW (pe_ix (ix_tupK (K := K) rfl) (pv 1) (pe_op op_add (pv 3) pe_int) (fun _ _ => rfl)) (pe_op op_fdivW (pe_ix (ix_tupK (K := K) rfl) (pv 0) (pe_op op_add (pv 3) pe_int) (fun _ _ => rfl)) (pe_ix (ix_tupK (K := K) rfl) (pv 0) (pv 3) (fun _ _ => rfl)))) (nomark _)))) (fun _ _ _ _ _ => (pv 3))) (pe_lst pa_nil) (nomark _))))), ?_⟩
    refine Evl.q_when (b := !(decide (us.length = ns.length) && us.all fun x => decide (0 ≤ x))) (Evl.et_is (Evl.et_or (a := !decide (us.length = ns.length)) (b := !us.all fun x => decide (0 ≤ x)) (Evl.et_is (Evl.et_test (ev_ne (ev_lenT (Evl.ev_var rfl) hu) (ev_lenT (Evl.ev_var rfl) hp) rfl)) ?_) (fun _ => Evl.et_is (Evl.et_test (ev_neD (K := K) (ed_ofL (ds := (us.filter fun x => decide (x < 0)).map PyData.int) (el_lcN (K := K) (fun x => decide (x < 0)) V.int (etu_ev (Evl.ev_var rfl) hu) (by omega) (fun _ => rfl) (fun n _ H1 _ => Evl.et_test (ev_i0 (Evl.ev_var rfl) Evl.ev_c)) (fun n _ _ H1 _ => Evl.ev_var rfl)) (fun H1 _ => dpa_lints _)) (e := .list []) (ed_lst ed_nil) (shaped_lints _) (by decide +kernel))) ?_)) ?_) (fun z H1 e1 => ?_) (fun z H1 e1 => ?_)
    · rw [List.length_map, List.length_map]
      exact congrArg (!·) (decide_eq_decide.mpr ⟨fun h => Int.ofNat.inj (V.int.inj h), fun h => by rw [h]⟩)
    · rw [show PyData.eqv (.list ((us.filter fun x => decide (x < 0)).map PyData.int)) (.list []) = decide (us.filter (fun x => decide (x < 0)) = []) from eqv_lints _ [], fil_nil]
      refine congrArg (!·) (all_same fun x _ => ?_)
      by_cases c : x < 0
      · rw [decide_eq_true c, decide_eq_false (by omega)]; rfl
      · rw [decide_eq_false c, decide_eq_true (by omega)]; rfl
    · cases decide (us.length = ns.length) <;> rfl
    · have e : isDueB ns us = false := by
        have z := nt z
        unfold isDueB
        rw [← Bool.and_assoc, z, Bool.false_and]
      rw [e] at q
      exact q H1 e1
    · have z := nf z
      rw [Bool.and_eq_true] at z
      have ul := of_decide_eq_true z.1
      have e : isDueB ns us = (List.range (ns.length - 1)).all fun i => !stepB ns us i := by
        unfold isDueB
        rw [← Bool.and_assoc, z.1, z.2]
        rfl
      rw [e] at q
      have hp1 := Evl.ex_t e1 hp
      have hu1 := Evl.ex_t e1 hu
      have n0 : 0 < ns.length := List.length_pos_iff.mpr h0
      refine Evl.s_ret (Evl.ev_is (ev_eqD (K := K) (ed_ofL (ds := ((List.range (ns.length - 1)).filter (stepB ns us)).map fun i : Nat => PyData.int (i : Int)) (el_rngF (m := ns.length - 1) (stepB ns us) (fun i : Nat => V.int (i : Int)) (Evl.ea_cons (Evl.ev_is (ev_i0 (g := fun i j => .int (i - j)) (ev_lenT (Evl.ev_var rfl) hp1) Evl.ev_c) ?_) Evl.ea_nil) (by omega) (fun _ => rfl) (fun i hi H2 e2 => ?_) (fun i hi H2 e2 => Evl.ev_var rfl)) (fun H2 _ => dpa_map (fun i => .int _) _)) (e := .list []) (ed_lst ed_nil) ?_ (by decide +kernel)) ?_) (fun H2 e2 => q H2 (e1.trans e2))
      · rw [List.length_map]
        exact congrArg V.int (by omega)
      · have hp2 := Evl.ex_t e2 hp1
        have hu2 := Evl.ex_t e2 hu1
        obtain ⟨s1, s2⟩ := hs _ (getD_mem (show i < ns.length by omega))
        obtain ⟨g1, g2⟩ := hs _ (getD_mem (show i + 1 < ns.length by omega))
        exact Evl.et_test (ev_i0 (ev_ixT (Evl.ev_var rfl) (Evl.ev_var rfl) hu2 (at_int' (by omega))) (ev_i (g := fun i j => .int (i * j)) (ev_ixT (Evl.ev_var rfl) (ev_i0 (g := fun i j => .int (i + j)) (Evl.ev_var rfl) Evl.ev_c) hu2 (at_next (by omega))) (ev_i (g := fun i j => .int (i / j)) (ev_ixT (Evl.ev_var rfl) (ev_i0 (g := fun i j => .int (i + j)) (Evl.ev_var rfl) Evl.ev_c) hp2 (at_next (by omega))) (ev_ixT (Evl.ev_var rfl) (Evl.ev_var rfl) hp2 (at_int' (by omega))) (divW s1 s2)) (mul200 (hb _ (getD_mem (by omega))) (Nat.lt_of_le_of_lt (natAbs_div (by omega) s1) g2))))
      · have z := shaped_lints (((List.range (ns.length - 1)).filter (stepB ns us)).map fun i : Nat => (i : Int))
        rw [List.map_map] at z
        exact z
      · have z := eqv_lints (((List.range (ns.length - 1)).filter (stepB ns us)).map fun i : Nat => (i : Int)) []
        rw [List.map_map] at z
        refine congrArg V.bl (z.trans ?_)
        rw [show decide ((((List.range (ns.length - 1)).filter (stepB ns us)).map fun i : Nat => (i : Int)) = []) = decide ((List.range (ns.length - 1)).filter (stepB ns us) = []) from decide_eq_decide.mpr List.map_eq_nil_iff, fil_nil]
def spRight (K : PySem.W.Frag) : Sp := fun vs H Q _ => ∃ d, vs = [.ref d] ∧ Dice H d ∧ ∀ H', Kd d H H' → Q (.bl true) H'
theorem ok_right {CS : Addr} (B : Bl mg) (LT_Store : StoreT K mg CS) (LK_StoN : StoNK K CS) (D : Df K mg "_law_right" s__law_right ["dice"]) (C__law_roll : Cg P w K mg base CX0 1 "_law_roll" spRoll) (C__law_pick : Cg P w K mg base CX0 2 "_law_pick" (spPickS K)) (C__law_long_chain : Cg P w K mg base CX0 2 "_law_long_chain" (spLong K)) (C__law_great_store : Cg P w K mg base CX0 3 "_law_great_store" (spGrs K))
    (C__law_made_store : Cg P w K mg base CX0 6 "_law_made_store" (spMadeS K CS)) (C__law_space : Cg P w K mg base CX0 1 "_law_space" (spSpace K)) (C__law_is_due : Cg P w K mg base CX0 1 "_law_is_due" (spDueL K)) (C_profile : Cg P w K mg base CX0 6 "profile" (spProf K CS)) (C_is_profile : Cg P w K mg base CX0 8 "is_profile" (spIsProf K)) (C_plain_store : Cg P w K mg base CX0 9 "plain_store" (spPlain K CS)) (C_are_alike : Cg P w K mg base CX0 8 "are_alike" (spAlike K CS))
    (P_runs : Pg P w K mg base 1 CS "runs" (spRuns K CS)) (O_Store_contains : Og P w K mg base 3 CS "__contains__" ["self", "x"] (spStoIn K CS)) (O_Store_eq : Og P w K mg base 1 CS "__eq__" ["self", "other"] (spStoEq K CS)) : Cg P w K mg base CX0 10 "_law_right" (spRight K) := by
  refine cg_of D sc__law_right (fun vs H Q E h => ?_) (fun f cdv A fr s H vs Q E hr hgd h => ?_)
  · obtain ⟨d, rfl, _⟩ := h
    rfl
  · obtain ⟨d, rfl, hd, q⟩ := h
    refine ⟨_, (pss_cons (ps_set (i := 1) sc__law_right.nd rfl (by first | exact Or.inl rfl | exact Or.inr rfl) (pcg C__law_long_chain hr hgd (pa_cons (pv 0) pa_nil)))
    (pss_cons (ps_set (i := 2) sc__law_right.nd rfl (by first | exact Or.inl rfl | exact Or.inr rfl) (pcg C__law_great_store hr hgd (pa_cons (pv 0) (pa_cons (pv 1) pa_nil))))
     (pss_cons (ps_par (i := 3) (j := 4) rfl sc__law_right.nd rfl rfl (by decide) rfl rfl (pa_cons (pcg C__law_made_store hr hgd (pa_cons (pv 2) pa_nil)) (pa_cons (pe_callTy call_tuple_of (by rfl) B.tuple bt_tuple (pa_cons (pe_lc (own := [("size", 10)]) (g := (gName 10)) rfl sc__law_right.nd (pi_tup (pv 1)) (blkOk_by (own := [("size", 10)]) (N := n__law_right) (sc := defScope s__law_right) (by decide +kernel)) (fun _ _ _ _ _ => (pg_name (i := 10) sc__law_right.nd rfl (by first | exact Or.inl rfl | exact Or.inr rfl))) (fun _ _ _ _ _ => pts_nil) (fun _ _ _ _ _ => (pcg C__law_space hr hgd (pa_cons (pv 2) (pa_cons (pv 10) pa_nil))))) pa_nil)) pa_nil)) (by rfl))
      (pss_cons (ps_if (pw_or (pt_cmpR op_ne (pe_callB (call_reprD hr hgd) (by rfl) B.repr bt_repr (pa_cons (pcg C_profile hr hgd (pa_cons (pv 1) (pa_cons (pv 3) pa_nil))) pa_nil)) (pe_callB (call_reprD hr hgd) (by rfl) B.repr bt_repr (pa_cons (pv 4) pa_nil)) (nomark _)) (pw_or1 (pt_cmpR op_isnot_bl (pcg C_is_profile hr hgd (pa_cons (pv 1) (pa_cons (pv 4) pa_nil))) pe_bl (nomark _)))).pt (pss_one (ps_ret pe_bl)) pss_nil)
       (pss_cons (ps_set (i := 5) sc__law_right.nd rfl (by first | exact Or.inl rfl | exact Or.inr rfl) (pcg C_plain_store hr hgd (pa_cons (pv 1) (pa_cons (pv 4) pa_nil))))
        (pss_cons (ps_if (pt_cmpR (op_neD hr.units) (pe_lc (own := [("room", 11), ("number", 12)]) (g := (gTup K 2 (gCons (gName 11) (gCons (gName 12) gNil)))) rfl sc__law_right.nd (pi_tup (pprop P_runs hr (pv 5))) (blkOk_by (own := [("room", 11), ("number", 12)]) (N := n__law_right) (sc := defScope s__law_right) (by decide +kernel)) (fun _ _ _ _ _ => (pg_tup (n := 2) rfl (pgs_cons (pg_name (i := 11) sc__law_right.nd rfl (by first | exact Or.inl rfl | exact Or.inr rfl)) (pgs_cons (pg_name (i := 12) sc__law_right.nd rfl (by first | exact Or.inl rfl | exact Or.inr rfl)) pgs_nil)))) (fun _ _ _ _ _ => pts_nil) (fun _ _ _ _ _ => (pv 11))) (pe_lc (own := [("size", 10)]) (g := (gName 10)) rfl sc__law_right.nd (pi_tup (pv 1)) (blkOk_by (own := [("size", 10)]) (N := n__law_right) (sc := defScope s__law_right) (by decide +kernel)) (fun _ _ _ _ _ => (pg_name (i := 10) sc__law_right.nd rfl (by first | exact Or.inl rfl | exact Or.inr rfl))) (fun _ _ _ _ _ => (pts_one (pt_cmpR (oinO O_Store_contains hr) (pv 10) (pv 5) (by with_unfolding_all rfl)))) (fun _ _ _ _ _ => (pv 10))) (nomark _)) (pss_one (ps_ret pe_bl)) pss_nil)
         (pss_cons (ps_if (pt_not (pt_val (pcg C_are_alike hr hgd (pa_cons (pv 1) (pa_cons (pv 3) (pa_cons (pv 5) pa_nil)))))) (pss_one (ps_ret pe_bl)) pss_nil)
          (pss_cons (ps_if (pw_or (pt_cmpR (op_neD hr.units) (pcg C_profile hr hgd (pa_cons (pv 1) (pa_cons (pv 5) pa_nil))) (pv 4) (nomark _)) (pw_or1 (pt_cmpR (oneO O_Store_eq LK_StoN.ne (mro_obj LT_Store.k.mks) hr) (pcg C_plain_store hr hgd (pa_cons (pv 1) (pa_cons (pcg C_profile hr hgd (pa_cons (pv 1) (pa_cons (pv 5) pa_nil))) pa_nil))) (pv 5) (nomark _)))).pt (pss_one (ps_ret pe_bl)) pss_nil)
           (pss_cons (ps_for PassesOwn.never rfl (pi_range1 (by rfl) B.range (pa_cons pe_int pa_nil)) (pg_name (i := 6) sc__law_right.nd rfl (by first | exact Or.inl rfl | exact Or.inr rfl)) (pss_cons (ps_par (i := 7) (j := 8) rfl sc__law_right.nd rfl rfl (by decide) rfl rfl (pa_cons (pcg C__law_roll hr hgd (pa_cons (pv 0) (pa_cons (pe_callB call_len_seq (by rfl) B.len bt_len (pa_cons (pv 4) pa_nil)) pa_nil))) (pa_cons (pe_callTy call_list_of (by rfl) B.list bt_list (pa_cons (pv 4) pa_nil)) pa_nil)) (by rfl))
    (pss_cons (ps_asg (pe_op op_add (pe_ix ix_list (pv 8) (pv 7) (fun _ _ => rfl)) (pcg C__law_pick hr hgd (pa_cons (pv 0) (pa_cons (pe_lst (pa_cons pe_int (pa_cons (pe_un un_neg pe_int) (pa_cons pe_int (pa_cons (pe_un un_neg pe_int) (pa_cons (pe_ix ix_list (pv 8) (pv 7) (fun _ _ => rfl)) (pa_cons (pe_op op_sub (pe_op op_sub pe_int (pe_ix ix_list (pv 8) (pv 7) (fun _ _ => rfl))) pe_int) (pa_cons (pe_op op_sub pe_int (pe_ix ix_list (pv 8) (pv 7) (fun _ _ => rfl))) pa_nil)))))))) pa_nil)))) (pg_sub (pv 8) (pv 7) set_list))
     (pss_cons (ps_set (i := 8) sc__law_right.nd rfl (by first | exact Or.inl rfl | exact Or.inr rfl) (pe_ifExp (pt_cmpR op_eq (pcg C__law_roll hr hgd (pa_cons (pv 0) (pa_cons pe_int pa_nil))) pe_int (nomark _)) (pe_slice sl_list (pv 8) po_none (po_some (pe_un un_neg pe_int))) (pe_ifExp (pt_cmpR op_eq (pcg C__law_roll hr hgd (pa_cons (pv 0) (pa_cons pe_int pa_nil))) pe_int (nomark _)) (pe_op op_cat (pv 8) (pe_lst (pa_cons pe_int pa_nil))) (pv 8))))
      (pss_one (ps_if (pt_cmpR op_ne (pe_callB (call_reprD hr hgd) (by rfl) B.repr bt_repr (pa_cons (pcg C_is_profile hr hgd (pa_cons (pv 1) (pa_cons (pe_callTy call_tuple_of (by rfl) B.tuple bt_tuple (pa_cons (pv 8) pa_nil)) pa_nil))) pa_nil)) (pe_callB (call_reprD hr hgd) (by rfl) B.repr bt_repr (pa_cons (pcg C__law_is_due hr hgd (pa_cons (pv 1) (pa_cons (pe_callTy call_tuple_of (by rfl) B.tuple bt_tuple (pa_cons (pv 8) pa_nil)) pa_nil))) pa_nil)) (nomark _)) (pss_one (ps_ret pe_bl)) pss_nil))))))
            (pss_cons (ps_set (i := 9) sc__law_right.nd rfl (by first | exact Or.inl rfl | exact Or.inr rfl) (pe_lst (pa_cons pe_non (pa_cons pe_int (pa_cons (pe_callTy call_list_of (by rfl) B.list bt_list (pa_cons (pv 4) pa_nil)) (pa_cons (pe_slice sl_tupA (pv 4) po_none (po_some (pe_un un_neg pe_int))) (pa_cons (pe_op op_catA (pv 4) (pe_tup (pa_cons pe_int pa_nil))) (pa_cons (pe_op op_repT1 (pe_tup (pa_cons pe_non pa_nil)) (pe_callB call_len_seq (by rfl) B.len bt_len (pa_cons (pv 4) pa_nil))) (pa_cons (pe_op op_repT1 (pe_tup (pa_cons pe_bl pa_nil)) (pe_callB call_len_seq (by rfl) B.len bt_len (pa_cons (pv 4) pa_nil))) (pa_cons pe_dnewK (pa_cons pe_str (pa_cons (pv 3) pa_nil))))))))))))
             (pss_one (ps_ret (pe_cmpR (op_eqD hr.units) (pe_lc (own := [("value", 13)]) (g := (gName 13)) rfl sc__law_right.nd (pi_list (pv 9)) (blkOk_by (own := [("value", 13)]) (N := n__law_right) (sc := defScope s__law_right) (by decide +kernel)) (fun _ _ _ _ _ => (pg_name (i := 13) sc__law_right.nd rfl (by first | exact Or.inl rfl | exact Or.inr rfl))) (fun _ _ _ _ _ => (pts_one (pt_cmpR op_isnot_bl (pcg C_is_profile hr hgd (pa_cons (pv 1) (pa_cons (pv 13) pa_nil))) pe_bl (nomark _)))) (fun _ _ _ _ _ => (pv 13))) (pe_lst pa_nil) (nomark _)))))))))))))), ?_⟩
    refine q_asgP (P := fun v H' => ∃ p ns L, v = .ref p ∧ Kd d H H' ∧ p ≠ d ∧ SqT K H' p (ns.map V.int) ∧ ns.length ≤ 6 ∧ Chd ns L ∧ L < 10 ^ 27) (fun Q2 q2 => ⟨.ref d, rfl, d, rfl, hd, fun p ns L H1 k1 pd hp hl hc hL => q2 _ _ ⟨p, ns, L, rfl, k1, pd, hp, hl, hc, hL⟩⟩) ?_
    rintro _ H1 ⟨p, ns, L, rfl, k1, pd, hp, hln, hch, hL⟩
    have ic := chd_isc hch hln hL
    have hc := ic.b
    have hq : ∀ x ∈ quots ns, 0 < x := fun x hx => (quots_b hc x hx).1
    refine q_asgP (P := fun v H' => ∃ l vs rs, v = .ref l ∧ Kd d H1 H' ∧ l ≠ d ∧ H' l = some (.lst vs) ∧ F2 (RP K H') vs rs ∧ rs ≠ [] ∧ GrR rs) (fun Q2 q2 => ⟨.ref d, rfl, .ref p, rfl, d, p, ns, rfl, pd, k1.2, hp, ic.ne, by omega, fun n hn => ⟨(hch.pos n hn).1, Int.lt_of_le_of_lt (hch.pos n hn).2.1 hL⟩, fun l vs rs H2 k2 ld hl hf hne hg => q2 _ _ ⟨l, vs, rs, rfl, k2, ld, hl, hf, hne, hg⟩⟩) ?_
    rintro _ H2 ⟨l, vs, rs, rfl, k2, ld, hl, hf, hne, hg⟩
    have hp2 := k2.1.sqT pd hp
    have kd2 := k1.trans k2
    clear hp hd
    generalize hus : ns.map (unt rs) = us
    have ul : us.length = ns.length := by rw [← hus, List.length_map]
    have rnn : ∀ r ∈ rs, 0 ≤ r.1 ∧ 0 ≤ r.2 := fun r hr => ⟨Int.le_of_lt (hg.ok r hr).1.1, Int.le_of_lt (hg.ok r hr).2.1⟩
    have ub : ∀ x ∈ us, 0 ≤ x ∧ x < 10 ^ 61 := fun x hx => by
      rw [← hus] at hx
      obtain ⟨n, hn, rfl⟩ := List.mem_map.mp hx
      exact unt_bound hg (ic.sz n hn).1
    have big61 : (10 : Int) ^ 61 < 10 ^ 200 := by decide +kernel
    have uc : ∀ x ∈ us, cntB x = true := fun x hx => by
      obtain ⟨a, b⟩ := ub x hx
      exact cnt_of a (by omega)
    have pc0 : ∀ x ∈ pcs ns us, 0 ≤ x := by rw [← hus]; exact unt_pcs (isc_pws ic) rnn
    have ju : ns.map (unt (jr rs)) = us := by rw [← hus]; exact List.map_congr_left fun s _ => unt_jr rs s
    have pu : ns.map (unt (prn ns us)) = us := prn_unt (isc_pws ic) ul pc0
    have so := gr_sto hg
    have po := plain_ok ic.sz hq uc ic.le
    have lrs := hg.ln
    refine q_parP (i := 3) (j := 4) (P := fun x y H' => ∃ a u, x = .ref a ∧ y = .ref u ∧ Evl.Ex H2 H' ∧ StoAt K CS H' a (jr rs) ∧ SqT K H' u (us.map V.int)) (fun Q2 q2 => ⟨.ref l, rfl, l, vs, rs, rfl, SqL.of hl, hf, hne, lrs, gr_rns hg, fun a H3 e3 hs => ?_⟩) ?_
    · refine eu_tupleL (K := K) (Ck.el_is (el_lcY (K := K) (fun s => .int (unt rs s)) (etu_ev (Evl.ev_var rfl) (Evl.ex_t e3 hp2)) (by omega) (fun _ => rfl) (fun n hn H4 e4 => ?_)) (ys := us.map V.int) (by rw [← hus, List.map_map]; rfl)) H3 (Evl.Ex.refl H3) _ fun u H4 n4 e4 hu => q2 _ _ H4 ⟨a, u, rfl, rfl, e3.trans e4, hs.up e4, SqT.of hu⟩
      obtain ⟨n0, n1⟩ := ic.sz n hn
      refine Evl.ev_call (vs := [.ref l, .int n]) (Evl.ea_cons (Evl.ev_var rfl) (Evl.ea_cons (Evl.ev_var rfl) Evl.ea_nil)) (fun H5 e5 Q q E => ⟨l, n, vs, rs, rfl, SqL.of ((e3.trans (e4.trans e5)) _ _ hl), hf.imp fun x b r => r.ex (e3.trans (e4.trans e5)), by omega, fun r hr => ?_, n0, n1, q⟩)
      have big : (10 : Int) ^ 32 < 10 ^ 200 := by decide +kernel
      obtain ⟨⟨a1, a2⟩, a3, a4⟩ := hg.ok r hr
      exact ⟨by omega, by omega, by omega⟩
    rintro _ _ H3 ⟨a, u, rfl, rfl, e3, hs3, hu3⟩
    have hp3 := Evl.ex_t e3 hp2
    have shu : Sh (.tuple (us.map PyData.int)) := sh_ints (by omega) uc
    have pv : ∀ {b : Bool} {xs : List Int} {H' : Hp} {t : Addr}, SqT K H' t (xs.map V.int) → xs.length ≤ 1000 → b = isPrB ns (xs.map V.int) → PfV K ns H' (.ref t) b := fun h1 h2 h3 => .inl ⟨_, _, rfl, h1, by rw [List.length_map]; exact h2, elts_ints _, h3⟩
    refine Evl.q_when (b := false) (Evl.et_is (Evl.et_or (a := false) (b := false) (Evl.et_is (Evl.et_test (ev_ne (ev_repr (K := K) (ed_etu (ns := us) (etu_is (prof_v hp3 hc hs3 so (Evl.ev_var rfl) (Evl.ev_var rfl)) (by rw [ju]))) shu) (ev_repr (K := K) (ed_of (Evl.ev_var rfl) (.tup hu3 (dpa_ints us))) shu) rfl)) (by rw [decide_eq_true rfl]; rfl))
      (fun _ => Evl.et_is (Evl.et_test (ev_isnotB (isprof_v hp3 hc (pv hu3 (by omega) (isPr_true ul uc pc0).symm) (Evl.ev_var rfl) (Evl.ev_var rfl)) Evl.ev_c)) rfl)) rfl) (fun z => nomatch z) (fun _ H4 e4 => ?_)
    have hp4 := Evl.ex_t e4 hp3
    have hu4 := Evl.ex_t e4 hu3
    refine q_asgP (P := fun v H' => ∃ b, v = .ref b ∧ Evl.Ex H4 H' ∧ StoAt K CS H' b (prn ns us)) (fun Q2 q2 => ⟨.ref p, rfl, .ref u, rfl, p, u, ns, us, rfl, hp4, hc, hu4, ul, uc, pc0, fun b H5 e5 hb => q2 _ _ ⟨b, rfl, e5, hb⟩⟩) ?_
    rintro _ H5 ⟨b, rfl, e5, hb5⟩
    have hp5 := Evl.ex_t e5 hp4
    have hu5 := Evl.ex_t e5 hu4
    have hs5 := hs3.up (e4.trans e5)
    have pl := prn_len (ns := ns) (us := us)
    have rooms : ns.filter (fun s => sizB s && decide (s ∈ (prn ns us).map Prod.fst)) = (prn ns us).map Prod.fst := by
      refine Eq.trans (List.filter_congr fun s hs => ?_) (filter_sub (ic.lt.imp fun h e => by omega) prn_sub)
      rw [siz_of (ic.sz s hs).1 (ic.sz s hs).2, Bool.true_and]
    refine Evl.q_when (b := false) (Evl.et_is (Evl.et_test (ev_neD (K := K) (ed_ofL (ds := ((prn ns us).map Prod.fst).map PyData.int) (xs := ((prn ns us).map Prod.fst).map V.int) (Ck.el_is (el_lcPT (K := K) (fun r => .int r.1) (etp_runs (Evl.ev_var rfl) hb5) (by omega) (fun _ _ => rfl) (fun r _ H6 _ => Evl.ev_var rfl)) (List.map_map ..).symm) (fun H6 _ => dpa_lints _))
      (ed_ofL (ds := ((prn ns us).map Prod.fst).map PyData.int) (xs := ((prn ns us).map Prod.fst).map V.int) (Ck.el_is (el_lcN (K := K) (fun s => sizB s && decide (s ∈ (prn ns us).map Prod.fst)) V.int (etu_ev (Evl.ev_var rfl) hp5) (by omega) (fun _ => rfl) (fun n hn H6 e6 => Evl.et_test (et_sin (Evl.ev_var rfl) (Evl.ev_var rfl) (hb5.up e6) (by omega))) (fun n _ _ H6 _ => Evl.ev_var rfl)) (by rw [rooms])) (fun H6 _ => dpa_lints _)) (shaped_lints _) (shaped_lints _))) (by rw [eqv_lints, decide_eq_true rfl]; rfl)) (fun z => nomatch z) (fun _ H6 e6 => ?_)
    have hp6 := Evl.ex_t e6 hp5
    have hs6 := hs5.up e6
    have hb6 := hb5.up e6
    refine Evl.q_when (b := false) (Evl.et_is (Evl.et_not (Evl.et_B (b := true) (fun H7 e7 Q q => ⟨.ref p, rfl, .ref a, rfl, .ref b, rfl, p, a, b, ns, jr rs, prn ns us, rfl, Evl.ex_t e7 hp6, hc, hs6.up e7, so, hb6.up e7, po, fun H8 e8 => ?_⟩))) rfl) (fun z => nomatch z) (fun _ H7 e7 => ?_)
    · have e : (ns.all fun s => decide (unt (jr rs) s = unt (prn ns us) s)) = true := List.all_eq_true.mpr fun s hs => decide_eq_true (map_at (ju.trans pu.symm) s hs)
      rw [e]
      exact q H8 e8
    have hp7 := Evl.ex_t e7 hp6
    have hs7 := hs6.up e7
    have hb7 := hb6.up e7
    have hu7 := Evl.ex_t (e6.trans e7) hu5
    refine Evl.q_when (b := false) (Evl.et_is (Evl.et_or (a := false) (b := false) (Evl.et_is (Evl.et_test (ev_neD (K := K) (ed_etu (ns := us) (etu_is (prof_v hp7 hc hb7 po (Evl.ev_var rfl) (Evl.ev_var rfl)) (by rw [pu]))) (ed_of (Evl.ev_var rfl) (.tup hu7 (dpa_ints us))) (shaped_tints us) (shaped_tints us))) ?_)
      (fun _ => ?_)) rfl) (fun z => nomatch z) (fun _ H8 e8 => ?_)
    · simp only [PyData.eqv, eqv_tups]
      rfl
    · intro H8 e8 Q8 q8
      refine ⟨.ref p, rfl, prof_v (Evl.ex_t e8 hp7) hc (hb7.up e8) po (Evl.ev_var rfl) (Evl.ev_var rfl) H8 (Evl.Ex.refl H8) _ fun t H9 e9 ht => ⟨p, t, ns, us, rfl, Evl.ex_t (e8.trans e9) hp7, hc, by rw [← pu]; exact ht, ul, uc, pc0, fun c H10 e10 hc10 => ?_⟩⟩
      have hb10 := hb7.up (e8.trans (e9.trans e10))
      obtain ⟨dx, t1, ts1, x1, _⟩ := hc10.ex
      obtain ⟨dy, t2, ts2, x2, _⟩ := hb10.ex
      refine ⟨.ref b, rfl, c, b, dx, dy, _, _, rfl, rfl, x1, x2, c, b, _, _, rfl, hc10, hb10, by omega, by omega, fun H11 e11 => ⟨_, rfl, _, rfl, ?_⟩⟩
      rw [decide_eq_true rfl]
      exact q8 H11 (e9.trans (e10.trans e11))
    have hp8 := Evl.ex_t e8 hp7
    have hs8 := hs7.up e8
    have hu8 := Evl.ex_t e8 hu7
    have kd8 : Kd d H H8 := kd2.to (e3.trans (e4.trans (e5.trans (e6.trans (e7.trans e8)))))
    have big62 : (10 : Int) ^ 62 < 10 ^ 200 := by decide +kernel
    refine ⟨6, rfl, by decide, by decide, ?_⟩
    refine for_range (fun i σ H' => Kd d H8 H' ∧ ∃ t6 t7 t8 : Option V, σ = [some (.ref d), some (.ref p), some (.ref l), some (.ref a), some (.ref u), some (.ref b), t6, t7, t8, none, none, none, none, none]) ⟨Kd.refl kd8.2, none, none, none, rfl⟩ ?_ ?_
    · rintro i _ H9 hi ⟨k9, t6, t7, t8, rfl⟩
      have u0 : 0 < us.length := by rw [ul]; exact List.length_pos_iff.mpr ic.ne
      have hu9 := sqT_kp kd8.2 k9.1 hu8
      refine q_parP (i := 7) (j := 8) (P := fun x y H' => ∃ (n : Nat) (l8 : Addr), x = .int (n : Int) ∧ n < us.length ∧ y = .ref l8 ∧ Kd d H9 H' ∧ l8 ≠ d ∧ H8 l8 = none ∧ H' l8 = some (.lst (us.map V.int))) (fun Q2 q2 => ei_rollV rfl (ei_len (B := (us.length : Int)) (fun H1 e => sqT_kp k9.2 e.1 hu9) rfl u0 (Int.le_refl _)) (by omega) H9 (Kd.refl k9.2) _ fun v H10 k10 ⟨y, e, y0, y1⟩ => ?_) ?_
      · subst e
        refine el_copyT (K := K) (Evl.ev_var rfl) (sqT_kp k9.2 k10.1 hu9) H10 (Evl.Ex.refl H10) _ fun l8 H11 n8 e11 h8 => ?_
        obtain ⟨n, rfl⟩ := Int.eq_ofNat_of_zero_le y0
        exact q2 _ _ H11 ⟨n, l8, rfl, by omega, rfl, k10.to e11, k10.2.ne n8, none_kd (k9.trans k10) n8 (k10.2.ne n8), h8⟩
      rintro _ _ H10 ⟨n, l8, rfl, hn, rfl, k10, ld8, n8, h8⟩
      generalize hx : us[n] = x
      have hxn : us[n]? = some x := by rw [List.getElem?_eq_getElem hn, hx]
      have xm : x ∈ us := List.mem_of_getElem? hxn
      obtain ⟨x0, x1⟩ := ub x xm
      have at8 : ∀ H1, Kd d H10 H1 → SqL K H1 l8 (us.map V.int) := fun H1 e => SqL.of (e.1 _ _ ld8 h8)
      have ixv : ∀ H1, Kd d H10 H1 → Evl.Ev (tOp (rIxL K) (tVar 8) (tVar 7)) [some (.ref d), some (.ref p), some (.ref l), some (.ref a), some (.ref u), some (.ref b), some (.int (0 + (i : Int))), some (.int (n : Int)), some (.ref l8), none, none, none, none, none] H1 (.int x) := fun H1 e => ev_ixL (Evl.ev_var rfl) (Evl.ev_var rfl) (at8 H1 e) (atI_nat (by rw [List.getElem?_map, hxn]; rfl))
      refine q_setK (l := l8) (n := n) (xs := us.map V.int) (P := fun y => y.natAbs < 10 ^ 62) k10.2 (ei_0 (g := fun i j => i + j) (P := fun y => y = x) (R := fun y => y ∈ [1, -1, 5, -5, x, 0 - x - 1, 0 - x]) (ei_ixL at8 rfl rfl hxn rfl) (ei_pick (K := K) rfl (pick_lst (K := K) (xs := [1, -1, 5, -5, x, 0 - x - 1, 0 - x]) (fun H1 e => Evl.ea_cons Evl.ev_c (Evl.ea_cons (ev_neg Evl.ev_c) (Evl.ea_cons Evl.ev_c (Evl.ea_cons (ev_neg Evl.ev_c) (Evl.ea_cons (ixv H1 e) (Evl.ea_cons (ev_i0 (g := fun i j => V.int (i - j)) (ev_i0 (g := fun i j => V.int (i - j)) Evl.ev_c (ixv H1 e)) Evl.ev_c) (Evl.ea_cons (ev_i0 (g := fun i j => V.int (i - j)) Evl.ev_c (ixv H1 e)) Evl.ea_nil))))))) (show 7 ≤ 1000 by decide)) (fun z => nomatch z) (show 7 < 1073741824 by decide)) (fun a b h1 h2 => ?_)) h8 ld8 rfl rfl (by rw [List.length_map]; exact hn) (fun y H11 hy k11 => ?_)
      · subst h1
        simp only [List.mem_cons, List.not_mem_nil, or_false] at h2
        rcases h2 with rfl | rfl | rfl | rfl | rfl | rfl | rfl <;> omega
      have k12 : Kd d H8 (upd H11 l8 (.lst ((us.map V.int).set n (.int y)))) := ⟨Kp.mut (k9.trans (k10.trans k11)).1 n8, k11.2.put ld8⟩
      have h12 : (upd H11 l8 (.lst ((us.map V.int).set n (.int y)))) l8 = some (.lst ((us.set n y).map V.int)) := by rw [upd_same, List.map_set]
      generalize upd H11 l8 (.lst ((us.map V.int).set n (.int y))) = H12 at k12 h12 ⊢
      have zb : ∀ w ∈ us.set n y, w.natAbs < 10 ^ 62 := fun w hw => by
        rcases List.mem_or_eq_of_mem_set hw with h | h
        · obtain ⟨a, b⟩ := ub w h
          omega
        · rw [h]; exact hy
      have zl : (us.set n y).length ≤ 6 := by rw [List.length_set]; omega
      generalize us.set n y = zs at h12 zb zl
      refine q_asgP (P := fun v H' => ∃ (l9 : Addr) (ws : List Int), v = .ref l9 ∧ Kd d H12 H' ∧ H' l9 = some (.lst (ws.map V.int)) ∧ ws.length ≤ 7 ∧ ∀ w ∈ ws, w.natAbs < 10 ^ 62) (fun Q2 q2 => ei_roll rfl (by decide) (by decide) H12 (Kd.refl k12.2) _ fun v H13 k13 ⟨r, e, _⟩ => ?_) ?_
      · subst e
        have h13 := k13.1 _ _ ld8 h12
        refine ⟨rfl, _, rfl, ifd (fun _ => ?_) (fun _ => ?_)⟩
        · refine Evl.el_sl (K := K) (Evl.ev_var rfl) Evl.eo_none (Evl.eo_some (ev_neg Evl.ev_c)) (SqL.of h13) H13 (Evl.Ex.refl H13) _ fun t H14 n14 e14 h14 => ?_
          rw [cut_last] at h14
          exact q2 _ _ ⟨t, zs.dropLast, rfl, k13.to e14, h14, by rw [List.length_dropLast]; omega, fun w hw => zb w (List.dropLast_subset zs hw)⟩
        · refine ei_roll rfl (by decide) (by decide) H13 (Kd.refl k13.2) _ fun v H14 k14 ⟨r2, e, _⟩ => ?_
          subst e
          have h14 := k14.1 _ _ ld8 h13
          refine ⟨rfl, _, rfl, ifd (fun _ => ?_) (fun _ => ?_)⟩
          · refine el_catI (eli_v (Evl.ev_var rfl) h14) (Evl.el_lst (Evl.ea_cons Evl.ev_c Evl.ea_nil) (by decide)) (by rw [List.length_map]; show _ + 1 ≤ _; omega) H14 (Evl.Ex.refl H14) _ fun t H15 n15 e15 h15 => ?_
            exact q2 _ _ ⟨t, zs ++ [0], rfl, (k13.trans k14).to e15, by rw [h15, List.map_append]; rfl, by rw [List.length_append]; show _ + 1 ≤ _; omega, fun w hw => by
              rcases List.mem_append.mp hw with h | h
              · exact zb w h
              · rw [List.mem_singleton.mp h]; decide⟩
          · exact ⟨_, rfl, q2 _ _ ⟨l8, zs, rfl, k13.trans k14, h14, by omega, zb⟩⟩
      rintro _ H13 ⟨l9, ws, rfl, k13, h13, wl, wb⟩
      have hp13 := (k12.trans k13).1.sqT pd hp8
      have tup : ∀ H14, Evl.Ex H13 H14 → Etu K (tCB (rTupS K) (tCons (tVar 8) tNil)) [some (.ref d), some (.ref p), some (.ref l), some (.ref a), some (.ref u), some (.ref b), some (.int (0 + (i : Int))), some (.int (n : Int)), some (.ref l9), none, none, none, none, none] H14 (ws.map V.int) := fun H14 e => etu_of (eu_tup_of (K := K) (Evl.ev_var rfl) (SqL.of (e _ _ h13)))
      have shb : ∀ b : Bool, Sh (.bool b) := fun b => (shB_bool b).ok (by decide) (by decide)
      refine Evl.s_when (b := false) (Evl.et_is (Evl.et_test (ev_ne (ev_repr (K := K) (ed_bl (isprof_t (K := K) hp13 hc (by omega) (Evl.ev_var rfl) (tup _ (Evl.Ex.refl _)))) (shb _)) (ev_repr (K := K) (ed_bl (dueL_t (K := K) hp13 ic (by omega) (fun w hw => by have := wb w hw; omega) (Evl.ev_var rfl) (tup _ (Evl.Ex.refl _)))) (shb _)) rfl)) ?_) (fun z => nomatch z) (fun _ H14 e14 => ⟨(k12.trans k13).to e14, _, _, _, rfl⟩)
      rw [isPr_due (fun w hw => by have := wb w hw; omega), decide_eq_true rfl]
      rfl
    · rintro _ H9 ⟨k9, t6, t7, t8, rfl⟩
      dsimp only
      have hp9 := k9.1.sqT pd hp8
      have hu9 := sqT_kp kd8.2 k9.1 hu8
      have hs9 := hs8.kd kd8.2 k9
      have n1 : 1 ≤ us.length := by rw [ul]; exact List.length_pos_iff.mpr ic.ne
      have L : Lasts fun v H' => PfV K ns H' v false := fun v G G' e h => h.mono e
      have no : ∀ {G : Hp} {v : V} (n : String), TyX K G v (.type n) → kitB n "tuple" = some false → PfV K ns G v false := fun n h k => .inr ⟨⟨_, h, kit_ty k⟩, rfl⟩
      obtain ⟨dx, tx, tsx, sx, _⟩ := hs9.ex
      refine sq_lst (Pr := fun v H' => PfV K ns H' v false) (n := 10) L (es_cons L (es_ev Evl.ev_c fun G _ => no "NoneType" (.base .non) (by decide +kernel)) (es_cons L (es_ev Evl.ev_c fun G _ => no "int" (.base (.int 0)) (by decide +kernel)) (es_cons L (es_newL (el_copyT (K := K) (Evl.ev_var rfl) hu9) fun p G h => no "list" (.base (.lst h)) (by decide +kernel))
        (es_cons L (es_etu (K := K) (etu_is (etu_sl (etu_ev (Evl.ev_var rfl) hu9) Evl.eo_none (Evl.eo_some (ev_neg Evl.ev_c))) cut_last) fun p G h => pf_len h (by rw [List.length_dropLast]; omega) (by rw [List.length_dropLast]; omega))
        (es_cons L (es_etu (K := K) (etu_is (etu_cat (etu_ev (Evl.ev_var rfl) hu9) (etu_one Evl.ev_c) (by rw [List.length_map]; show _ + 1 ≤ _; omega)) (ys := (us ++ [0]).map V.int) (by rw [List.map_append]; rfl)) fun p G h => pf_len h (by rw [List.length_append]; show _ + 1 ≤ _; omega) (by rw [List.length_append]; show _ + 1 ≠ _; omega))
        (es_cons L (es_etu (K := K) (etu_rep (n := us.length) (z := .non) (etu_one Evl.ev_c) (Evl.ev_is (ev_lenT (Evl.ev_var rfl) hu9) (by rw [List.length_map])) n1 (by omega)) fun p G h => pf_rep h n1 (by omega) (.no "NoneType" (.base .non) (by decide +kernel)) rfl)
        (es_cons L (es_etu (K := K) (etu_rep (n := us.length) (z := .bl true) (etu_one Evl.ev_c) (Evl.ev_is (ev_lenT (Evl.ev_var rfl) hu9) (by rw [List.length_map])) n1 (by omega)) fun p G h => pf_rep h n1 (by omega) (.bl true rfl) rfl)
        (es_cons L (es_newD fun p G h => no "dict" (.base (.dK h)) (by decide +kernel)) (es_cons L (es_ev Evl.ev_c fun G _ => no "str" (.base (.str _)) (by decide +kernel)) (es_cons L (es_ev (Evl.ev_var rfl) fun G e => .inr ⟨⟨_, LT_Store.k.ty (e _ _ sx), LK_StoN.tup⟩, rfl⟩) es_nil)))))))))) (by decide) (fun o xs G no2 eG hG xl hx => ?_)
      have hpG := Evl.ex_t eG hp9
      refine Evl.s_ret (Evl.ev_is (ev_eqD (K := K) (ed_ofL (ds := []) (el_none (K := K) (Pr := fun v H' => PfV K ns H' v false) L (Evl.ev_var rfl) (SqL.of hG) (by omega) hx (fun _ => rfl) (fun x G1 e1 h1 => Evl.et_is (Evl.et_test (ev_isnotB (isprof_v (Evl.ex_t e1 hpG) hc h1 (Evl.ev_var rfl) (Evl.ev_var rfl)) Evl.ev_c)) rfl)) (fun _ _ => .nil)) (e := .list []) (ed_lst ed_nil) (by decide +kernel) (by decide +kernel)) (by decide +kernel)) (fun G2 e2 => q G2 (kd8.trans (k9.to (eG.trans e2))))
theorem ok_law {f CS : Addr} {fd : FuncData} (B : Bl mg) (T : Cs mg) (D__wall : Df K mg "_wall" s__wall ["k"]) (D_is_integer : Df K mg "is_integer" s_is_integer ["value"]) (D_is_count : Df K mg "is_count" s_is_count ["value"]) (D_is_size : Df K mg "is_size" s_is_size ["value"]) (D_check_size : Df K mg "check_size" s_check_size ["value"]) (D_is_sizes : Df K mg "is_sizes" s_is_sizes ["value"]) (D_first_gap : Df K mg "first_gap" s_first_gap ["sizes"]) (D_check_sizes : Df K mg "check_sizes" s_check_sizes ["sizes"]) (D_check_chain : Df K mg "check_chain" s_check_chain ["chain"]) (D_quotients : Df K mg "quotients" s_quotients ["chain"]) (D_is_run : Df K mg "is_run" s_is_run ["value"]) (D_number_of_all : Df K mg "number_of_all" s_number_of_all ["runs"]) (D_units_of : Df K mg "units_of" s_units_of ["runs", "size"]) (D_joined_runs : Df K mg "joined_runs" s_joined_runs ["runs"]) (D_check_store : Df K mg "check_store" s_check_store ["value"]) (D__check_many : Df K mg "_check_many" s__check_many ["runs"]) (D_profile : Df K mg "profile" s_profile ["chain", "store"]) (D_is_profile : Df K mg "is_profile" s_is_profile ["chain", "value"]) (D_plain_counts : Df K mg "plain_counts" s_plain_counts ["chain", "units"]) (D__plain : Df K mg "_plain" s__plain ["chain", "units"]) (D_plain_store : Df K mg "plain_store" s_plain_store ["chain", "units"]) (D__pairs : Df K mg "_pairs" s__pairs ["chain", "one", "other"]) (D_are_alike : Df K mg "are_alike" s_are_alike ["chain", "one", "other"]) (D__law_dice : Df K mg "_law_dice" s__law_dice ["script", "spot"]) (D__law_roll : Df K mg "_law_roll" s__law_roll ["dice", "total"]) (D__law_pick : Df K mg "_law_pick" s__law_pick ["dice", "items"]) (D__law_great : Df K mg "_law_great" s__law_great ["dice", "least"]) (D__law_long_chain : Df K mg "_law_long_chain" s__law_long_chain ["dice"]) (D__law_great_store : Df K mg "_law_great_store" s__law_great_store ["dice", "sizes"]) (D__law_made_store : Df K mg "_law_made_store" s__law_made_store ["runs"]) (D__law_space : Df K mg "_law_space" s__law_space ["runs", "size"]) (D__law_is_due : Df K mg "_law_is_due" s__law_is_due ["chain", "value"]) (D__law_right : Df K mg "_law_right" s__law_right ["dice"]) (LT_Store : StoreT K mg CS) (LK_StoN : StoNK K CS) (DM_Store_init : Dis K mg "Store" CS "Store.__init__" s_Store_init "runs") (DM_Store_runs : Dpr K CS "runs" "Store.runs" s_Store_runs) (DM_Store_units : Dop K CS "units" "Store.units" s_Store_units ["self", "size"]) (DM_Store_contains : Dop K CS "__contains__" "Store.__contains__" s_Store_contains ["self", "x"]) (DM_Store_eq : Dop K CS "__eq__" "Store.__eq__" s_Store_eq ["self", "other"]) (F : Fun K "law" "law" s_law f fd) : FnG P w K mg base CX0 11 f fd ["script"] (spLaw K) := by
  -- haves
  have h_int := ok_int (P := P) (w := w) (base := base) B T D_is_integer
  have h_count := ok_count (P := P) (w := w) (base := base) B D_is_count h_int
  have h_size := ok_size (P := P) (w := w) (base := base) B D_is_size h_int
  have h_sizes := ok_sizes (P := P) (w := w) (base := base) B T D_is_sizes h_size
  have h_gap := ok_gap (P := P) (w := w) (base := base) B D_first_gap
  have h_chk := ok_chk (P := P) (w := w) (base := base) B D_check_sizes h_sizes
  have h_chkc := ok_chkc (P := P) (w := w) (base := base) B D_check_chain h_chk h_gap
  have h_quots := ok_quots (P := P) (w := w) (base := base) B D_quotients h_chkc
  have h_chks := ok_chks (P := P) (w := w) (base := base) B D_check_size h_size
  have h_isrun := ok_isrun (P := P) (w := w) (base := base) B D_is_run h_size
  have h_unitsof := ok_unitsof (P := P) (w := w) (base := base) B D_units_of
  have h_joinr := ok_joinr (P := P) (w := w) (base := base) B D_joined_runs
  have h_chksto := ok_chksto (P := P) (w := w) (base := base) B LT_Store D_check_store
  have M_Store := ok_stoinit (P := P) (w := w) (base := base) B T LT_Store DM_Store_init h_isrun h_joinr
  have h_storuns := ok_storuns (P := P) (w := w) (base := base) LT_Store DM_Store_runs
  have h_stounits := ok_stounits (P := P) (w := w) (base := base) LT_Store DM_Store_units h_chks h_unitsof
  have h_stoin := ok_stoin (P := P) (w := w) (base := base) LT_Store DM_Store_contains h_size
  have h_stoeq := ok_stoeq (P := P) (w := w) (base := base) B LT_Store DM_Store_eq
  have h_prof := ok_prof (P := P) (w := w) (base := base) B D_profile h_chkc h_chksto h_stounits
  have h_pcs := ok_pcs (P := P) (w := w) (base := base) B D_plain_counts h_quots
  have h_isprof := ok_isprof (P := P) (w := w) (base := base) B D_is_profile h_chkc h_count h_pcs
  have h_plain := ok_plain (P := P) (w := w) (base := base) B D__plain h_pcs M_Store
  have h_plainst := ok_plainst (P := P) (w := w) (base := base) B D_plain_store h_isprof h_plain
  have h_pairs := ok_pairs (P := P) (w := w) (base := base) B D__pairs h_prof
  have h_alike := ok_alike (P := P) (w := w) (base := base) B D_are_alike h_pairs
  have h_roll := ok_roll (P := P) (w := w) (base := base) B D__law_roll
  have h_dice := ok_dice (P := P) (w := w) (base := base) B D__law_dice
  have h_great := ok_great (P := P) (w := w) (base := base) B D__law_great h_roll
  have h_long := ok_long (P := P) (w := w) (base := base) B D__law_long_chain h_roll
  have h_pickS := ok_pickS (P := P) (w := w) (base := base) B D__law_pick h_roll
  have h_grs := ok_grs (P := P) (w := w) (base := base) B D__law_great_store h_roll h_pickS h_great
  have h_madeS := ok_madeS (P := P) (w := w) (base := base) B D__law_made_store M_Store
  have h_space := ok_space (P := P) (w := w) (base := base) B D__law_space
  have h_dueL := ok_dueL (P := P) (w := w) (base := base) B D__law_is_due
  have h_right := ok_right (P := P) (w := w) (base := base) B LT_Store LK_StoN D__law_right h_roll h_pickS h_long h_grs h_madeS h_space h_dueL h_prof h_isprof h_plainst h_alike h_storuns h_stoin h_stoeq
  have C__law_dice := h_dice
  have C__law_right := h_right
  have C_is_profile := h_isprof
  have C_plain_store := h_plainst
  have C_profile := h_prof
  have O_Store_eq := h_stoeq
  have P_runs := h_storuns
  refine Fun.okG F sc_law (fun vs H Q E h => ?_) (fun cdv A fr s H vs Q E hr hgd h => ?_)
  · obtain ⟨a, ns, rfl, _⟩ := h
    rfl
  · obtain ⟨a, ns, rfl, hS, hlen, q⟩ := h
    refine ⟨_, PSs.nox (pss_cons (ps_for PassesOwn.never rfl (pi_range1 (by rfl) B.range (pa_cons (pe_callB (call_max2 rfl) (by rfl) B.max bt_max (pa_cons pe_int (pa_cons (pe_callB (call_min2 rfl) (by rfl) B.min bt_min (pa_cons pe_int (pa_cons (pe_callB call_len_seq (by rfl) B.len bt_len (pa_cons (pv 0) pa_nil)) pa_nil))) pa_nil))) pa_nil)) (pg_name (i := 1) sc_law.nd rfl (by first | exact Or.inl rfl | exact Or.inr rfl)) (pss_cons (ps_set (i := 2) sc_law.nd rfl (by first | exact Or.inl rfl | exact Or.inr rfl) (pcg C__law_dice hr hgd (pa_cons (pv 0) (pa_cons (pv 1) pa_nil))))
    (pss_one (ps_for PassesOwn.never rfl (pi_range1 (by rfl) B.range (pa_cons pe_int pa_nil)) (pg_name (i := 3) sc_law.nd rfl (by first | exact Or.inl rfl | exact Or.inr rfl)) (pss_one (ps_if (pt_not (pt_val (pcg C__law_right hr hgd (pa_cons (pv 2) pa_nil)))) (pss_one (ps_ret pe_bl)) pss_nil))))))
    (pss_cons (ps_par (i := 4) (j := 5) rfl sc_law.nd rfl rfl (by decide) rfl rfl (pa_cons (pe_tup (pa_cons pe_int (pa_cons pe_int (pa_cons pe_int pa_nil)))) (pa_cons (pmk M_Store hr (pa_cons (pe_tup (pa_cons pe_int (pa_cons pe_int pa_nil))) (pa_cons (pe_tup (pa_cons pe_int (pa_cons pe_int pa_nil))) pa_nil))) pa_nil)) (by rfl))
     (pss_cons (ps_set (i := 6) sc_law.nd rfl (by first | exact Or.inl rfl | exact Or.inr rfl) (pe_lst (pa_cons (pcg C_profile hr hgd (pa_cons (pv 4) (pa_cons (pv 5) pa_nil))) (pa_cons (pprop P_runs hr (pcg C_plain_store hr hgd (pa_cons (pv 4) (pa_cons (pe_tup (pa_cons pe_int (pa_cons pe_int (pa_cons pe_int pa_nil)))) pa_nil)))) (pa_cons (pcg C_is_profile hr hgd (pa_cons (pv 4) (pa_cons (pe_tup (pa_cons pe_int (pa_cons pe_int (pa_cons pe_int pa_nil)))) pa_nil))) (pa_cons (pcg C_profile hr hgd (pa_cons (pe_tup (pa_cons pe_int pa_nil)) (pa_cons (pmk0 M_Store hr) pa_nil))) pa_nil))))))
      (pss_one (ps_ret (pe_cmpR (op_eqD hr.units) (pe_op op_cat (pv 6) (pe_lst (pa_cons (pe_cmpR (oeqO O_Store_eq hr) (pcg C_plain_store hr hgd (pa_cons (pe_tup (pa_cons pe_int pa_nil)) (pa_cons (pe_tup (pa_cons pe_int pa_nil)) pa_nil))) (pmk0 M_Store hr) (nomark _)) pa_nil))) (pe_lst (pa_cons (pe_tup (pa_cons pe_int (pa_cons pe_int (pa_cons pe_int pa_nil)))) (pa_cons (pe_tup (pa_cons (pe_tup (pa_cons pe_int (pa_cons pe_int pa_nil))) (pa_cons (pe_tup (pa_cons pe_int (pa_cons pe_int pa_nil))) (pa_cons (pe_tup (pa_cons pe_int (pa_cons pe_int pa_nil))) pa_nil)))) (pa_cons pe_bl (pa_cons (pe_tup (pa_cons pe_int pa_nil)) (pa_cons pe_bl pa_nil)))))) (nomark _))))))), ?_⟩
    refine spots (K := K) (m := 6) (k := 6) (by decide) rfl (by decide) hS ?_ ?_
    · rintro sp r H1 hr1 hs
      match r, hr1 with
      | [v2, v3, v4, v5, v6], _ =>
      refine ⟨.ref a, rfl, .int sp, rfl, a, sp, ns, rfl, hs.seq hS, fun d hd H2 hdice k => ?_⟩
      have hd0 : H d = none := hs.free hd
      have hs2 : Same H H2 := fun b o e => (k b (ne_of_none e hd0)).trans (hs b o e)
      refine turnsE (m := 3) (n := 2) (d := d) (H0 := H) (by decide) ⟨⟨_, [_, _, _, _], rfl, rfl⟩, hs2, hdice⟩ ?_ ?_
      · rintro t s' r H3 hr3 hs3 hd3
        match r, hr3 with
        | [w4, w5, w6], _ =>
        refine ⟨.ref d, rfl, d, rfl, hd3, fun H4 k4 => ⟨true, rfl, iteF ?_⟩⟩
        exact ⟨⟨_, [_, _, _, _], rfl, rfl⟩, fun b o e => k4.1 b o (ne_of_none e hd0) (hs3 b o e), k4.2⟩
      · intro s' r H3 hr3 hs3 hd3
        match r, hr3 with
        | [w3, w4, w5, w6], _ => exact ⟨⟨_, rfl, rfl⟩, hs3⟩
    · rintro r H1 hr1 hs
      match r, hr1 with
      | [v1, v2, v3, v4, v5, v6], _ =>
      have c126 : chainB (([1, 2, 6] : List Int).map V.int) = true := by decide +kernel
      have c4 : chainB (([4] : List Int).map V.int) = true := by decide +kernel
      have c3 : chainB (([3] : List Int).map V.int) = true := by decide +kernel
      have so1 : StoOk sto1 := ⟨by decide +kernel, by decide +kernel⟩
      have so0 : StoOk [] := ⟨(fun r h => nomatch h), by decide⟩
      refine q_parP (i := 4) (j := 5) (P := fun x y H' => ∃ p b, x = .ref p ∧ y = .ref b ∧ SqT K H' p (([1, 2, 6] : List Int).map V.int) ∧ StoAt K CS H' b sto1) (fun Q2 q2 => ⟨(show 3 ≤ sizeLine by decide), fun p np => ⟨(show 2 ≤ sizeLine by decide), fun t1 n1 => ⟨(show 2 ≤ sizeLine by decide), fun t2 n2 => mk_stoV (K := K) (rs := sto1) (.cons ⟨t1, rfl, Evl.ex_t (Evl.Ex.new n2) (SqT.of upd_same)⟩ (.cons ⟨t2, rfl, SqT.of upd_same⟩ .nil)) ⟨by decide +kernel, by decide +kernel, by decide +kernel⟩ fun b G e hb => ?_⟩⟩⟩) ?_
      · exact q2 _ _ _ ⟨p, b, rfl, rfl, Evl.ex_t (((Evl.Ex.new n1).trans (Evl.Ex.new n2)).trans e) (SqT.of upd_same), by rw [show jr sto1 = sto1 by decide +kernel] at hb; exact hb⟩
      rintro _ _ H2 ⟨p, b, rfl, rfl, hp, hb⟩
      have cn : ∀ x ∈ ([41, 19, 5] : List Int), cntB x = true := by decide +kernel
      have cz : ∀ x ∈ ([0] : List Int), cntB x = true := by decide +kernel
      have D1 : Ed K (tCall (spProf K CS) [] E0 (tCons (tVar 4) (tCons (tVar 5) tNil))) [some (.ref a), v1, v2, v3, some (.ref p), some (.ref b), v6] H2 (.tuple [.int 41, .int 19, .int 5]) := by
        have z := ed_etu (ns := [41, 19, 5]) (etu_is (prof_v (K := K) (σ := [some (.ref a), v1, v2, v3, some (.ref p), some (.ref b), v6]) hp c126 hb so1 (Evl.ev_var (i := 4) rfl) (Evl.ev_var (i := 5) rfl)) (show _ = ([41, 19, 5] : List Int).map V.int from congrArg (List.map V.int) (by decide +kernel)))
        exact z
      have T3 : ∀ (x y z : Int) G, Etu K (tTup (tCons (tC (.int x)) (tCons (tC (.int y)) (tCons (tC (.int z)) tNil)))) [some (.ref a), v1, v2, v3, some (.ref p), some (.ref b), v6] G (([x, y, z] : List Int).map V.int) := fun x y z G => etu_t (K := K) (Evl.ea_cons Evl.ev_c (Evl.ea_cons Evl.ev_c (Evl.ea_cons Evl.ev_c Evl.ea_nil))) (show 3 ≤ 100000 by decide)
      have T1 : ∀ (σ : L2.St) (x : Int) G, Etu K (tTup (tCons (tC (.int x)) tNil)) σ G (([x] : List Int).map V.int) := fun σ x G => etu_t (K := K) (Evl.ea_cons Evl.ev_c Evl.ea_nil) (show 1 ≤ 100000 by decide)
      have D2 : Ed K (tProp CS (spRuns K CS) [] E0 (tCall (spPlain K CS) [] E0 (tCons (tVar 4) (tCons (tTup (tCons (tC (.int 41)) (tCons (tC (.int 19)) (tCons (tC (.int 5)) tNil)))) tNil)))) [some (.ref a), v1, v2, v3, some (.ref p), some (.ref b), v6] H2 (rnD [(1, 3), (2, 4), (6, 5)]) := fun G e Q' q' =>
        ed_plain (K := K) (CS := CS) c126 (etu_ev (Evl.ev_var rfl) (Evl.ex_t e hp)) (T3 41 19 5 G) rfl cn (by decide +kernel) fun c G2 e2 hc => by
          rw [show prn [1, 2, 6] [41, 19, 5] = [(1, 3), (2, 4), (6, 5)] by decide +kernel] at hc
          obtain ⟨dx, t, ts, h1, _⟩ := hc.ex
          exact ⟨c, dx, _, rfl, h1, c, _, rfl, hc, fun t ts G3 e3 ht hf => q' (.ref t) G3 (e2.trans e3) (dp_rns ht hf)⟩
      have D3 : Ed K (tCall (spIsProf K) [] E0 (tCons (tVar 4) (tCons (tTup (tCons (tC (.int 41)) (tCons (tC (.int 19)) (tCons (tC (.int 7)) tNil)))) tNil))) [some (.ref a), v1, v2, v3, some (.ref p), some (.ref b), v6] H2 (.bool false) := ed_bl (Evl.ev_is (isprof_t (K := K) hp c126 (zs := [41, 19, 7]) (by decide) (Evl.ev_var rfl) (T3 41 19 7 _)) (congrArg V.bl (by decide +kernel)))
      have D4 : Ed K (tCall (spProf K CS) [] E0 (tCons (tTup (tCons (tC (.int 4)) tNil)) (tCons (StX.tMakeR CS (spStoI K CS) E0 tNil) tNil))) [some (.ref a), v1, v2, v3, some (.ref p), some (.ref b), v6] H2 (.tuple [.int 0]) := fun G e Q' q' =>
        T1 [some (.ref a), v1, v2, v3, some (.ref p), some (.ref b), v6] 4 G G (Evl.Ex.refl G) (fun v H' => StX.tMakeR CS (spStoI K CS) E0 tNil [some (.ref a), v1, v2, v3, some (.ref p), some (.ref b), v6] H' fun y H2 => spProf K CS [v, y] H2 Q' E0) fun t G1 e1 ht => mk_sto0 (K := K) fun x G2 e2 hx => ⟨t, x, [4], [], rfl, Evl.ex_t e2 ht, c4, hx, so0, fun u G3 e3 hu => q' (.ref u) G3 ((e1.trans e2).trans e3) (.tup hu (dpa_ints [0]))⟩
      refine q_asgFd (K := K) (fd_lst (ed_cons D1 (ed_cons D2 (ed_cons D3 (ed_cons D4 ed_nil))))) (fun l xs H3 e3 hl hd => ?_)
      refine Evl.s_ret (Evl.ev_is (ev_eqD (K := K) (ed_fd (fd_cat (fd_var (Evl.ev_var rfl) hl hd) (fd_lst (ed_cons (d := .bool true) (fun G e Q' q' => ?_) ed_nil)))) (e := .list [.tuple [.int 41, .int 19, .int 5], rnD [(1, 3), (2, 4), (6, 5)], .bool false, .tuple [.int 0], .bool true]) (ed_lst (ed_cons (ed_tup (ed_cons (ed_int Evl.ev_c) (ed_cons (ed_int Evl.ev_c) (ed_cons (ed_int Evl.ev_c) ed_nil)))) (ed_cons (ed_tup (ed_cons (ed_tup (ed_cons (ed_int Evl.ev_c) (ed_cons (ed_int Evl.ev_c) ed_nil))) (ed_cons (ed_tup (ed_cons (ed_int Evl.ev_c) (ed_cons (ed_int Evl.ev_c) ed_nil))) (ed_cons (ed_tup (ed_cons (ed_int Evl.ev_c) (ed_cons (ed_int Evl.ev_c) ed_nil))) ed_nil)))) (ed_cons (ed_bl Evl.ev_c) (ed_cons (ed_tup (ed_cons (ed_int Evl.ev_c) ed_nil)) (ed_cons (ed_bl Evl.ev_c) ed_nil)))))) (by decide +kernel) (by decide +kernel)) (by decide +kernel)) (fun H5 e5 => q H5)
      refine ed_plain (K := K) (CS := CS) c3 (T1 _ 3 G) (T1 _ 0 G) rfl cz (by decide +kernel) fun c G1 e1 hc => ?_
      rw [show prn [3] [0] = [] by decide +kernel] at hc
      refine mk_sto0 (K := K) fun x G2 e2 hx => ?_
      obtain ⟨dx, t, ts, h1, _⟩ := (hc.up e2).ex
      obtain ⟨dy, u, us, g1, _⟩ := hx.ex
      exact ⟨c, x, dx, dy, _, _, rfl, rfl, h1, g1, c, x, [], [], rfl, hc.up e2, hx, by decide, by decide, fun G3 e3 => ⟨_, rfl, q' _ G3 ((e1.trans e2).trans e3) (.bl true)⟩⟩
theorem start_law {H : Hp} {a : Addr} {ns : List Int} (hl : ns.length ≤ 63) (hS : SqL K H a (ns.map V.int)) : spLaw K [.ref a] H (fun v _ => v = .bl true) fun _ _ _ => False := ⟨a, ns, rfl, hS, hl, fun _ => rfl⟩
end
theorem all_mk {P : Program} {w : World} {K : PySem.W.Frag} {h : Heap} {mg : Str → Option Value} {fa f0 f1 f2 f3 f4 f5 f6 f7 f8 f9 f10 f11 f12 f13 f14 f15 f16 f17 f18 f19 f20 f21 f22 f23 f24 f25 f26 f27 f28 f29 f30 f31 f32 f33 : Addr} (X : K.In h) (G : h.Ns mainGlobals mg) (hfa : mg "law" = some (.ref fa))
    {od0 an0 od1 an1 od2 an2 od3 an3 od4 an4 od5 an5 od6 an6 od7 an7 od8 an8 od9 an9 od10 an10 od11 an11 od12 an12 od13 an13 od14 an14 od15 an15 od16 an16 od17 an17 od18 an18 od19 an19 od20 an20 od21 an21 od22 an22 od23 an23 od24 an24 od25 an25 od26 an26 od27 an27 od28 an28 od29 an29 od30 an30 od31 an31 od32 an32 od33 an33 : Option Addr} {sl0 sl1 sl2 sl3 sl4 sl5 sl6 sl7 sl8 sl9 sl10 sl11 sl12 sl13 sl14 sl15 sl16 sl17 sl18 sl19 sl20 sl21 sl22 sl23 sl24 sl25 sl26 sl27 sl28 sl29 sl30 sl31 sl32 sl33 : Array (Option Value)} {oc0 kV0 dc0 pm0 cd0 ct0 oc1 kV1 dc1 pm1 cd1 ct1 oc2 kV2 dc2 pm2 cd2 ct2 oc3 kV3 dc3 pm3 cd3 ct3 oc4 kV4 dc4 pm4 cd4 ct4 oc5 kV5 dc5 pm5 cd5 ct5 oc6 kV6 dc6 pm6 cd6 ct6 oc7 kV7 dc7 pm7 cd7 ct7 oc8 kV8 dc8 pm8 cd8 ct8 oc9 kV9 dc9 pm9 cd9 ct9 oc10 kV10 dc10 pm10 cd10 ct10 oc11 kV11 dc11 pm11 cd11 ct11 oc12 kV12 dc12 pm12 cd12 ct12 oc13 kV13 dc13 pm13 cd13 ct13 oc14 kV14 dc14 pm14 cd14 ct14 oc15 kV15 dc15 pm15 cd15 ct15 oc16 kV16 dc16 pm16 cd16 ct16 oc17 kV17 dc17 pm17 cd17 ct17 oc18 kV18 dc18 pm18 cd18 ct18 oc19 kV19 dc19 pm19 cd19 ct19 oc20 kV20 dc20 pm20 cd20 ct20 oc21 kV21 dc21 pm21 cd21 ct21 oc22 kV22 dc22 pm22 cd22 ct22 oc23 kV23 dc23 pm23 cd23 ct23 oc24 kV24 dc24 pm24 cd24 ct24 oc25 kV25 dc25 pm25 cd25 ct25 oc26 kV26 dc26 pm26 cd26 ct26 oc27 kV27 dc27 pm27 cd27 ct27 oc28 kV28 dc28 pm28 cd28 ct28 oc29 kV29 dc29 pm29 cd29 ct29 oc30 kV30 dc30 pm30 cd30 ct30 oc31 kV31 dc31 pm31 cd31 ct31 oc32 kV32 dc32 pm32 cd32 ct32 oc33 kV33 dc33 pm33 cd33 ct33 : Value} {t_MAX_FIGURES t_MAX_RUNS t_MAX_SIZES : Tok}
    {ccStore : Addr} {g_Store_init : Addr} {od_Store_init an_Store_init : Option Addr} {sl_Store_init : Array (Option Value)} {oc_Store_init kV_Store_init dc_Store_init pm_Store_init cd_Store_init ct_Store_init : Value} {g_Store_runs : Addr} {od_Store_runs an_Store_runs : Option Addr} {sl_Store_runs : Array (Option Value)} {oc_Store_runs kV_Store_runs dc_Store_runs pm_Store_runs cd_Store_runs ct_Store_runs : Value} {p_Store_runs : Addr} {rs_Store_runs : List Value} {g_Store_units : Addr} {od_Store_units an_Store_units : Option Addr} {sl_Store_units : Array (Option Value)} {oc_Store_units kV_Store_units dc_Store_units pm_Store_units cd_Store_units ct_Store_units : Value} {g_Store_contains : Addr} {od_Store_contains an_Store_contains : Option Addr} {sl_Store_contains : Array (Option Value)} {oc_Store_contains kV_Store_contains dc_Store_contains pm_Store_contains cd_Store_contains ct_Store_contains : Value} {g_Store_eq : Addr} {od_Store_eq an_Store_eq : Option Addr} {sl_Store_eq : Array (Option Value)} {oc_Store_eq kV_Store_eq dc_Store_eq pm_Store_eq cd_Store_eq ct_Store_eq : Value}
    (a0 : PySem.W.nsIn K mainGlobals "_wall" = some (some (.ref f0))) (l0 : K.lookup f0 = some ⟨oc0, od0, .func (PySem.W.fnOf "_wall" "_wall" (defArgs s__wall) (defBody s__wall) (defScope s__wall) .none kV0 dc0 pm0 an0 cd0 ct0), sl0⟩) (c0 : PySem.W.codeIn K cd0 "_wall" = true) (k0 : PySem.W.keepIn K (.ref f0) = true)
    (a1 : PySem.W.nsIn K mainGlobals "is_integer" = some (some (.ref f1))) (l1 : K.lookup f1 = some ⟨oc1, od1, .func (PySem.W.fnOf "is_integer" "is_integer" (defArgs s_is_integer) (defBody s_is_integer) (defScope s_is_integer) .none kV1 dc1 pm1 an1 cd1 ct1), sl1⟩) (c1 : PySem.W.codeIn K cd1 "is_integer" = true) (k1 : PySem.W.keepIn K (.ref f1) = true)
    (a2 : PySem.W.nsIn K mainGlobals "is_count" = some (some (.ref f2))) (l2 : K.lookup f2 = some ⟨oc2, od2, .func (PySem.W.fnOf "is_count" "is_count" (defArgs s_is_count) (defBody s_is_count) (defScope s_is_count) .none kV2 dc2 pm2 an2 cd2 ct2), sl2⟩) (c2 : PySem.W.codeIn K cd2 "is_count" = true) (k2 : PySem.W.keepIn K (.ref f2) = true)
    (a3 : PySem.W.nsIn K mainGlobals "is_size" = some (some (.ref f3))) (l3 : K.lookup f3 = some ⟨oc3, od3, .func (PySem.W.fnOf "is_size" "is_size" (defArgs s_is_size) (defBody s_is_size) (defScope s_is_size) .none kV3 dc3 pm3 an3 cd3 ct3), sl3⟩) (c3 : PySem.W.codeIn K cd3 "is_size" = true) (k3 : PySem.W.keepIn K (.ref f3) = true)
    (a4 : PySem.W.nsIn K mainGlobals "check_size" = some (some (.ref f4))) (l4 : K.lookup f4 = some ⟨oc4, od4, .func (PySem.W.fnOf "check_size" "check_size" (defArgs s_check_size) (defBody s_check_size) (defScope s_check_size) .none kV4 dc4 pm4 an4 cd4 ct4), sl4⟩) (c4 : PySem.W.codeIn K cd4 "check_size" = true) (k4 : PySem.W.keepIn K (.ref f4) = true)
    (a5 : PySem.W.nsIn K mainGlobals "is_sizes" = some (some (.ref f5))) (l5 : K.lookup f5 = some ⟨oc5, od5, .func (PySem.W.fnOf "is_sizes" "is_sizes" (defArgs s_is_sizes) (defBody s_is_sizes) (defScope s_is_sizes) .none kV5 dc5 pm5 an5 cd5 ct5), sl5⟩) (c5 : PySem.W.codeIn K cd5 "is_sizes" = true) (k5 : PySem.W.keepIn K (.ref f5) = true)
    (a6 : PySem.W.nsIn K mainGlobals "first_gap" = some (some (.ref f6))) (l6 : K.lookup f6 = some ⟨oc6, od6, .func (PySem.W.fnOf "first_gap" "first_gap" (defArgs s_first_gap) (defBody s_first_gap) (defScope s_first_gap) .none kV6 dc6 pm6 an6 cd6 ct6), sl6⟩) (c6 : PySem.W.codeIn K cd6 "first_gap" = true) (k6 : PySem.W.keepIn K (.ref f6) = true)
    (a7 : PySem.W.nsIn K mainGlobals "check_sizes" = some (some (.ref f7))) (l7 : K.lookup f7 = some ⟨oc7, od7, .func (PySem.W.fnOf "check_sizes" "check_sizes" (defArgs s_check_sizes) (defBody s_check_sizes) (defScope s_check_sizes) .none kV7 dc7 pm7 an7 cd7 ct7), sl7⟩) (c7 : PySem.W.codeIn K cd7 "check_sizes" = true) (k7 : PySem.W.keepIn K (.ref f7) = true)
    (a8 : PySem.W.nsIn K mainGlobals "check_chain" = some (some (.ref f8))) (l8 : K.lookup f8 = some ⟨oc8, od8, .func (PySem.W.fnOf "check_chain" "check_chain" (defArgs s_check_chain) (defBody s_check_chain) (defScope s_check_chain) .none kV8 dc8 pm8 an8 cd8 ct8), sl8⟩) (c8 : PySem.W.codeIn K cd8 "check_chain" = true) (k8 : PySem.W.keepIn K (.ref f8) = true)
    (a9 : PySem.W.nsIn K mainGlobals "quotients" = some (some (.ref f9))) (l9 : K.lookup f9 = some ⟨oc9, od9, .func (PySem.W.fnOf "quotients" "quotients" (defArgs s_quotients) (defBody s_quotients) (defScope s_quotients) .none kV9 dc9 pm9 an9 cd9 ct9), sl9⟩) (c9 : PySem.W.codeIn K cd9 "quotients" = true) (k9 : PySem.W.keepIn K (.ref f9) = true)
    (a10 : PySem.W.nsIn K mainGlobals "is_run" = some (some (.ref f10))) (l10 : K.lookup f10 = some ⟨oc10, od10, .func (PySem.W.fnOf "is_run" "is_run" (defArgs s_is_run) (defBody s_is_run) (defScope s_is_run) .none kV10 dc10 pm10 an10 cd10 ct10), sl10⟩) (c10 : PySem.W.codeIn K cd10 "is_run" = true) (k10 : PySem.W.keepIn K (.ref f10) = true)
    (a11 : PySem.W.nsIn K mainGlobals "number_of_all" = some (some (.ref f11))) (l11 : K.lookup f11 = some ⟨oc11, od11, .func (PySem.W.fnOf "number_of_all" "number_of_all" (defArgs s_number_of_all) (defBody s_number_of_all) (defScope s_number_of_all) .none kV11 dc11 pm11 an11 cd11 ct11), sl11⟩) (c11 : PySem.W.codeIn K cd11 "number_of_all" = true) (k11 : PySem.W.keepIn K (.ref f11) = true)
    (a12 : PySem.W.nsIn K mainGlobals "units_of" = some (some (.ref f12))) (l12 : K.lookup f12 = some ⟨oc12, od12, .func (PySem.W.fnOf "units_of" "units_of" (defArgs s_units_of) (defBody s_units_of) (defScope s_units_of) .none kV12 dc12 pm12 an12 cd12 ct12), sl12⟩) (c12 : PySem.W.codeIn K cd12 "units_of" = true) (k12 : PySem.W.keepIn K (.ref f12) = true)
    (a13 : PySem.W.nsIn K mainGlobals "joined_runs" = some (some (.ref f13))) (l13 : K.lookup f13 = some ⟨oc13, od13, .func (PySem.W.fnOf "joined_runs" "joined_runs" (defArgs s_joined_runs) (defBody s_joined_runs) (defScope s_joined_runs) .none kV13 dc13 pm13 an13 cd13 ct13), sl13⟩) (c13 : PySem.W.codeIn K cd13 "joined_runs" = true) (k13 : PySem.W.keepIn K (.ref f13) = true)
    (a14 : PySem.W.nsIn K mainGlobals "check_store" = some (some (.ref f14))) (l14 : K.lookup f14 = some ⟨oc14, od14, .func (PySem.W.fnOf "check_store" "check_store" (defArgs s_check_store) (defBody s_check_store) (defScope s_check_store) .none kV14 dc14 pm14 an14 cd14 ct14), sl14⟩) (c14 : PySem.W.codeIn K cd14 "check_store" = true) (k14 : PySem.W.keepIn K (.ref f14) = true)
    (a15 : PySem.W.nsIn K mainGlobals "_check_many" = some (some (.ref f15))) (l15 : K.lookup f15 = some ⟨oc15, od15, .func (PySem.W.fnOf "_check_many" "_check_many" (defArgs s__check_many) (defBody s__check_many) (defScope s__check_many) .none kV15 dc15 pm15 an15 cd15 ct15), sl15⟩) (c15 : PySem.W.codeIn K cd15 "_check_many" = true) (k15 : PySem.W.keepIn K (.ref f15) = true)
    (a16 : PySem.W.nsIn K mainGlobals "profile" = some (some (.ref f16))) (l16 : K.lookup f16 = some ⟨oc16, od16, .func (PySem.W.fnOf "profile" "profile" (defArgs s_profile) (defBody s_profile) (defScope s_profile) .none kV16 dc16 pm16 an16 cd16 ct16), sl16⟩) (c16 : PySem.W.codeIn K cd16 "profile" = true) (k16 : PySem.W.keepIn K (.ref f16) = true)
    (a17 : PySem.W.nsIn K mainGlobals "is_profile" = some (some (.ref f17))) (l17 : K.lookup f17 = some ⟨oc17, od17, .func (PySem.W.fnOf "is_profile" "is_profile" (defArgs s_is_profile) (defBody s_is_profile) (defScope s_is_profile) .none kV17 dc17 pm17 an17 cd17 ct17), sl17⟩) (c17 : PySem.W.codeIn K cd17 "is_profile" = true) (k17 : PySem.W.keepIn K (.ref f17) = true)
    (a18 : PySem.W.nsIn K mainGlobals "plain_counts" = some (some (.ref f18))) (l18 : K.lookup f18 = some ⟨oc18, od18, .func (PySem.W.fnOf "plain_counts" "plain_counts" (defArgs s_plain_counts) (defBody s_plain_counts) (defScope s_plain_counts) .none kV18 dc18 pm18 an18 cd18 ct18), sl18⟩) (c18 : PySem.W.codeIn K cd18 "plain_counts" = true) (k18 : PySem.W.keepIn K (.ref f18) = true)
    (a19 : PySem.W.nsIn K mainGlobals "_plain" = some (some (.ref f19))) (l19 : K.lookup f19 = some ⟨oc19, od19, .func (PySem.W.fnOf "_plain" "_plain" (defArgs s__plain) (defBody s__plain) (defScope s__plain) .none kV19 dc19 pm19 an19 cd19 ct19), sl19⟩) (c19 : PySem.W.codeIn K cd19 "_plain" = true) (k19 : PySem.W.keepIn K (.ref f19) = true)
    (a20 : PySem.W.nsIn K mainGlobals "plain_store" = some (some (.ref f20))) (l20 : K.lookup f20 = some ⟨oc20, od20, .func (PySem.W.fnOf "plain_store" "plain_store" (defArgs s_plain_store) (defBody s_plain_store) (defScope s_plain_store) .none kV20 dc20 pm20 an20 cd20 ct20), sl20⟩) (c20 : PySem.W.codeIn K cd20 "plain_store" = true) (k20 : PySem.W.keepIn K (.ref f20) = true)
    (a21 : PySem.W.nsIn K mainGlobals "_pairs" = some (some (.ref f21))) (l21 : K.lookup f21 = some ⟨oc21, od21, .func (PySem.W.fnOf "_pairs" "_pairs" (defArgs s__pairs) (defBody s__pairs) (defScope s__pairs) .none kV21 dc21 pm21 an21 cd21 ct21), sl21⟩) (c21 : PySem.W.codeIn K cd21 "_pairs" = true) (k21 : PySem.W.keepIn K (.ref f21) = true)
    (a22 : PySem.W.nsIn K mainGlobals "are_alike" = some (some (.ref f22))) (l22 : K.lookup f22 = some ⟨oc22, od22, .func (PySem.W.fnOf "are_alike" "are_alike" (defArgs s_are_alike) (defBody s_are_alike) (defScope s_are_alike) .none kV22 dc22 pm22 an22 cd22 ct22), sl22⟩) (c22 : PySem.W.codeIn K cd22 "are_alike" = true) (k22 : PySem.W.keepIn K (.ref f22) = true)
    (a23 : PySem.W.nsIn K mainGlobals "_law_dice" = some (some (.ref f23))) (l23 : K.lookup f23 = some ⟨oc23, od23, .func (PySem.W.fnOf "_law_dice" "_law_dice" (defArgs s__law_dice) (defBody s__law_dice) (defScope s__law_dice) .none kV23 dc23 pm23 an23 cd23 ct23), sl23⟩) (c23 : PySem.W.codeIn K cd23 "_law_dice" = true) (k23 : PySem.W.keepIn K (.ref f23) = true)
    (a24 : PySem.W.nsIn K mainGlobals "_law_roll" = some (some (.ref f24))) (l24 : K.lookup f24 = some ⟨oc24, od24, .func (PySem.W.fnOf "_law_roll" "_law_roll" (defArgs s__law_roll) (defBody s__law_roll) (defScope s__law_roll) .none kV24 dc24 pm24 an24 cd24 ct24), sl24⟩) (c24 : PySem.W.codeIn K cd24 "_law_roll" = true) (k24 : PySem.W.keepIn K (.ref f24) = true)
    (a25 : PySem.W.nsIn K mainGlobals "_law_pick" = some (some (.ref f25))) (l25 : K.lookup f25 = some ⟨oc25, od25, .func (PySem.W.fnOf "_law_pick" "_law_pick" (defArgs s__law_pick) (defBody s__law_pick) (defScope s__law_pick) .none kV25 dc25 pm25 an25 cd25 ct25), sl25⟩) (c25 : PySem.W.codeIn K cd25 "_law_pick" = true) (k25 : PySem.W.keepIn K (.ref f25) = true)
    (a26 : PySem.W.nsIn K mainGlobals "_law_great" = some (some (.ref f26))) (l26 : K.lookup f26 = some ⟨oc26, od26, .func (PySem.W.fnOf "_law_great" "_law_great" (defArgs s__law_great) (defBody s__law_great) (defScope s__law_great) .none kV26 dc26 pm26 an26 cd26 ct26), sl26⟩) (c26 : PySem.W.codeIn K cd26 "_law_great" = true) (k26 : PySem.W.keepIn K (.ref f26) = true)
    (a27 : PySem.W.nsIn K mainGlobals "_law_long_chain" = some (some (.ref f27))) (l27 : K.lookup f27 = some ⟨oc27, od27, .func (PySem.W.fnOf "_law_long_chain" "_law_long_chain" (defArgs s__law_long_chain) (defBody s__law_long_chain) (defScope s__law_long_chain) .none kV27 dc27 pm27 an27 cd27 ct27), sl27⟩) (c27 : PySem.W.codeIn K cd27 "_law_long_chain" = true) (k27 : PySem.W.keepIn K (.ref f27) = true)
    (a28 : PySem.W.nsIn K mainGlobals "_law_great_store" = some (some (.ref f28))) (l28 : K.lookup f28 = some ⟨oc28, od28, .func (PySem.W.fnOf "_law_great_store" "_law_great_store" (defArgs s__law_great_store) (defBody s__law_great_store) (defScope s__law_great_store) .none kV28 dc28 pm28 an28 cd28 ct28), sl28⟩) (c28 : PySem.W.codeIn K cd28 "_law_great_store" = true) (k28 : PySem.W.keepIn K (.ref f28) = true)
    (a29 : PySem.W.nsIn K mainGlobals "_law_made_store" = some (some (.ref f29))) (l29 : K.lookup f29 = some ⟨oc29, od29, .func (PySem.W.fnOf "_law_made_store" "_law_made_store" (defArgs s__law_made_store) (defBody s__law_made_store) (defScope s__law_made_store) .none kV29 dc29 pm29 an29 cd29 ct29), sl29⟩) (c29 : PySem.W.codeIn K cd29 "_law_made_store" = true) (k29 : PySem.W.keepIn K (.ref f29) = true)
    (a30 : PySem.W.nsIn K mainGlobals "_law_space" = some (some (.ref f30))) (l30 : K.lookup f30 = some ⟨oc30, od30, .func (PySem.W.fnOf "_law_space" "_law_space" (defArgs s__law_space) (defBody s__law_space) (defScope s__law_space) .none kV30 dc30 pm30 an30 cd30 ct30), sl30⟩) (c30 : PySem.W.codeIn K cd30 "_law_space" = true) (k30 : PySem.W.keepIn K (.ref f30) = true)
    (a31 : PySem.W.nsIn K mainGlobals "_law_is_due" = some (some (.ref f31))) (l31 : K.lookup f31 = some ⟨oc31, od31, .func (PySem.W.fnOf "_law_is_due" "_law_is_due" (defArgs s__law_is_due) (defBody s__law_is_due) (defScope s__law_is_due) .none kV31 dc31 pm31 an31 cd31 ct31), sl31⟩) (c31 : PySem.W.codeIn K cd31 "_law_is_due" = true) (k31 : PySem.W.keepIn K (.ref f31) = true)
    (a32 : PySem.W.nsIn K mainGlobals "_law_right" = some (some (.ref f32))) (l32 : K.lookup f32 = some ⟨oc32, od32, .func (PySem.W.fnOf "_law_right" "_law_right" (defArgs s__law_right) (defBody s__law_right) (defScope s__law_right) .none kV32 dc32 pm32 an32 cd32 ct32), sl32⟩) (c32 : PySem.W.codeIn K cd32 "_law_right" = true) (k32 : PySem.W.keepIn K (.ref f32) = true)
    (a33 : PySem.W.nsIn K mainGlobals "law" = some (some (.ref f33))) (l33 : K.lookup f33 = some ⟨oc33, od33, .func (PySem.W.fnOf "law" "law" (defArgs s_law) (defBody s_law) (defScope s_law) .none kV33 dc33 pm33 an33 cd33 ct33), sl33⟩) (c33 : PySem.W.codeIn K cd33 "law" = true) (k33 : PySem.W.keepIn K (.ref f33) = true)
    (z_abs : PySem.W.nsIn K mainGlobals "abs" = some none)
    (z_all : PySem.W.nsIn K mainGlobals "all" = some none)
    (z_bool : PySem.W.nsIn K mainGlobals "bool" = some none)
    (z_int : PySem.W.nsIn K mainGlobals "int" = some none)
    (z_isinstance : PySem.W.nsIn K mainGlobals "isinstance" = some none)
    (z_len : PySem.W.nsIn K mainGlobals "len" = some none)
    (z_list : PySem.W.nsIn K mainGlobals "list" = some none)
    (z_max : PySem.W.nsIn K mainGlobals "max" = some none)
    (z_min : PySem.W.nsIn K mainGlobals "min" = some none)
    (z_range : PySem.W.nsIn K mainGlobals "range" = some none)
    (z_repr : PySem.W.nsIn K mainGlobals "repr" = some none)
    (z_str : PySem.W.nsIn K mainGlobals "str" = some none)
    (z_sum : PySem.W.nsIn K mainGlobals "sum" = some none)
    (z_tuple : PySem.W.nsIn K mainGlobals "tuple" = some none)
    (z_zip : PySem.W.nsIn K mainGlobals "zip" = some none)
    (q_MAX_FIGURES : PySem.W.nsIn K mainGlobals "MAX_FIGURES" = some (some (.int 200 t_MAX_FIGURES)))
    (q_MAX_RUNS : PySem.W.nsIn K mainGlobals "MAX_RUNS" = some (some (.int 40 t_MAX_RUNS)))
    (q_MAX_SIZES : PySem.W.nsIn K mainGlobals "MAX_SIZES" = some (some (.int 12 t_MAX_SIZES)))
    (e_n : PySem.W.specialIn K (.builtin "object.__class__") "__get__" = some (some (.builtin "getset_descriptor.__get__")))
    (e_t : PySem.W.takesIn K (.builtin "object.__class__") = some true)
    (a_Store : PySem.W.nsIn K mainGlobals "Store" = some (some (.ref ccStore)))
    (pg_Store : PySem.W.plainGet K ccStore Str.empty = true)
    (hd_Store : PySem.W.hasDictIn K ccStore = true)
    (po_Store : PySem.W.plainOver K ccStore = true)
    (sa_Store : PySem.W.findIn K (.ref ccStore) "__setattr__" = some (some (.builtin "object.__setattr__")))
    (mk_Store : PySem.W.makesIn K ccStore = true)
    (kp_Store : PySem.W.keepIn K (.ref ccStore) = true)
    (ha_Store : PySem.W.findIn K (.ref ccStore) "__class__" = some (some (.builtin "object.__class__")))
    (n0_Store : PySem.W.findIn K (.ref ccStore) "_runs" = some none)
    (kttotuple_Store : PySem.W.subIn K (.ref ccStore) (.type "tuple") = some false)
    (kne_Store : PySem.W.findIn K (.ref ccStore) "__ne__" = some (some (.builtin "object.__ne__")))
    (kic_Store : PySem.W.isClsIn K ccStore = true)
    (kty_Store : PySem.W.typeIn K (.ref ccStore) = some (.type "type"))
    (fa_Store_init : PySem.W.findIn K (.ref ccStore) "__init__" = some (some (.ref g_Store_init)))
    (fi_Store_init : PySem.W.isFn K (.ref g_Store_init) = true)
    (fl_Store_init : K.lookup g_Store_init = some ⟨oc_Store_init, od_Store_init, .func (PySem.W.fnOf "__init__" "Store.__init__" (defArgs s_Store_init) (defBody s_Store_init) (defScope s_Store_init) .none kV_Store_init dc_Store_init pm_Store_init an_Store_init cd_Store_init ct_Store_init), sl_Store_init⟩)
    (fc_Store_init : PySem.W.codeIn K cd_Store_init "Store.__init__" = true)
    (fk_Store_init : PySem.W.keepIn K (.ref g_Store_init) = true)
    (pa_Store_runs : PySem.W.findIn K (.ref ccStore) "runs" = some (some (.ref p_Store_runs)))
    (pt_Store_runs : PySem.W.specialIn K (.ref p_Store_runs) "__get__" = some (some (.builtin "property.__get__")))
    (pk_Store_runs : PySem.W.takesIn K (.ref p_Store_runs) = some true)
    (pr_Store_runs : PySem.W.recIn K p_Store_runs "property" = some (.ref g_Store_runs :: rs_Store_runs))
    (fl_Store_runs : K.lookup g_Store_runs = some ⟨oc_Store_runs, od_Store_runs, .func (PySem.W.fnOf "runs" "Store.runs" (defArgs s_Store_runs) (defBody s_Store_runs) (defScope s_Store_runs) .none kV_Store_runs dc_Store_runs pm_Store_runs an_Store_runs cd_Store_runs ct_Store_runs), sl_Store_runs⟩)
    (fc_Store_runs : PySem.W.codeIn K cd_Store_runs "Store.runs" = true)
    (fk_Store_runs : PySem.W.keepIn K (.ref g_Store_runs) = true)
    (fa_Store_units : PySem.W.findIn K (.ref ccStore) "units" = some (some (.ref g_Store_units)))
    (fi_Store_units : PySem.W.isFn K (.ref g_Store_units) = true)
    (ff_Store_units : PySem.W.fnIn K g_Store_units = true)
    (fl_Store_units : K.lookup g_Store_units = some ⟨oc_Store_units, od_Store_units, .func (PySem.W.fnOf "units" "Store.units" (defArgs s_Store_units) (defBody s_Store_units) (defScope s_Store_units) .none kV_Store_units dc_Store_units pm_Store_units an_Store_units cd_Store_units ct_Store_units), sl_Store_units⟩)
    (fc_Store_units : PySem.W.codeIn K cd_Store_units "Store.units" = true)
    (fk_Store_units : PySem.W.keepIn K (.ref g_Store_units) = true)
    (fa_Store_contains : PySem.W.findIn K (.ref ccStore) "__contains__" = some (some (.ref g_Store_contains)))
    (fi_Store_contains : PySem.W.isFn K (.ref g_Store_contains) = true)
    (ff_Store_contains : PySem.W.fnIn K g_Store_contains = true)
    (fl_Store_contains : K.lookup g_Store_contains = some ⟨oc_Store_contains, od_Store_contains, .func (PySem.W.fnOf "__contains__" "Store.__contains__" (defArgs s_Store_contains) (defBody s_Store_contains) (defScope s_Store_contains) .none kV_Store_contains dc_Store_contains pm_Store_contains an_Store_contains cd_Store_contains ct_Store_contains), sl_Store_contains⟩)
    (fc_Store_contains : PySem.W.codeIn K cd_Store_contains "Store.__contains__" = true)
    (fk_Store_contains : PySem.W.keepIn K (.ref g_Store_contains) = true)
    (fa_Store_eq : PySem.W.findIn K (.ref ccStore) "__eq__" = some (some (.ref g_Store_eq)))
    (fi_Store_eq : PySem.W.isFn K (.ref g_Store_eq) = true)
    (ff_Store_eq : PySem.W.fnIn K g_Store_eq = true)
    (fl_Store_eq : K.lookup g_Store_eq = some ⟨oc_Store_eq, od_Store_eq, .func (PySem.W.fnOf "__eq__" "Store.__eq__" (defArgs s_Store_eq) (defBody s_Store_eq) (defScope s_Store_eq) .none kV_Store_eq dc_Store_eq pm_Store_eq an_Store_eq cd_Store_eq ct_Store_eq), sl_Store_eq⟩)
    (fc_Store_eq : PySem.W.codeIn K cd_Store_eq "Store.__eq__" = true)
    (fk_Store_eq : PySem.W.keepIn K (.ref g_Store_eq) = true)
    : ∃ fd : FuncData, (∀ (s : Shared) (v : Value), BindsTo s fd ⟨[v], []⟩ [("script", v)]) ∧ ∀ base : Heap, K.In base → base.Ns mainGlobals mg → FnG P w K mg base CX0 11 fa fd ["script"] (spLaw K) := by
  have e := hfa.symm.trans (PySem.W.mg_of X G a33)
  cases e
  have B : Bl mg := ⟨PySem.W.mg_none_of X G z_abs, PySem.W.mg_none_of X G z_all, PySem.W.mg_none_of X G z_bool, PySem.W.mg_none_of X G z_int, PySem.W.mg_none_of X G z_isinstance, PySem.W.mg_none_of X G z_len, PySem.W.mg_none_of X G z_list, PySem.W.mg_none_of X G z_max, PySem.W.mg_none_of X G z_min, PySem.W.mg_none_of X G z_range, PySem.W.mg_none_of X G z_repr, PySem.W.mg_none_of X G z_str, PySem.W.mg_none_of X G z_sum, PySem.W.mg_none_of X G z_tuple, PySem.W.mg_none_of X G z_zip⟩
  have T : Cs mg := ⟨trivial, ⟨_, PySem.W.mg_of X G q_MAX_FIGURES, ⟨_, rfl⟩⟩, ⟨_, PySem.W.mg_of X G q_MAX_RUNS, ⟨_, rfl⟩⟩, ⟨_, PySem.W.mg_of X G q_MAX_SIZES, ⟨_, rfl⟩⟩⟩
  have F0 := fun_mk (st := s__wall) l0 c0 k0
  have D0 : Df K mg "_wall" s__wall ["k"] := ⟨f0, _, F0, PySem.W.mg_of X G a0, F0.binds (ps := ["k"]) fun _ _ _ _ _ _ us hl => match us, hl with | [_], _ => rfl⟩
  have F1 := fun_mk (st := s_is_integer) l1 c1 k1
  have D1 : Df K mg "is_integer" s_is_integer ["value"] := ⟨f1, _, F1, PySem.W.mg_of X G a1, F1.binds (ps := ["value"]) fun _ _ _ _ _ _ us hl => match us, hl with | [_], _ => rfl⟩
  have F2 := fun_mk (st := s_is_count) l2 c2 k2
  have D2 : Df K mg "is_count" s_is_count ["value"] := ⟨f2, _, F2, PySem.W.mg_of X G a2, F2.binds (ps := ["value"]) fun _ _ _ _ _ _ us hl => match us, hl with | [_], _ => rfl⟩
  have F3 := fun_mk (st := s_is_size) l3 c3 k3
  have D3 : Df K mg "is_size" s_is_size ["value"] := ⟨f3, _, F3, PySem.W.mg_of X G a3, F3.binds (ps := ["value"]) fun _ _ _ _ _ _ us hl => match us, hl with | [_], _ => rfl⟩
  have F4 := fun_mk (st := s_check_size) l4 c4 k4
  have D4 : Df K mg "check_size" s_check_size ["value"] := ⟨f4, _, F4, PySem.W.mg_of X G a4, F4.binds (ps := ["value"]) fun _ _ _ _ _ _ us hl => match us, hl with | [_], _ => rfl⟩
  have F5 := fun_mk (st := s_is_sizes) l5 c5 k5
  have D5 : Df K mg "is_sizes" s_is_sizes ["value"] := ⟨f5, _, F5, PySem.W.mg_of X G a5, F5.binds (ps := ["value"]) fun _ _ _ _ _ _ us hl => match us, hl with | [_], _ => rfl⟩
  have F6 := fun_mk (st := s_first_gap) l6 c6 k6
  have D6 : Df K mg "first_gap" s_first_gap ["sizes"] := ⟨f6, _, F6, PySem.W.mg_of X G a6, F6.binds (ps := ["sizes"]) fun _ _ _ _ _ _ us hl => match us, hl with | [_], _ => rfl⟩
  have F7 := fun_mk (st := s_check_sizes) l7 c7 k7
  have D7 : Df K mg "check_sizes" s_check_sizes ["sizes"] := ⟨f7, _, F7, PySem.W.mg_of X G a7, F7.binds (ps := ["sizes"]) fun _ _ _ _ _ _ us hl => match us, hl with | [_], _ => rfl⟩
  have F8 := fun_mk (st := s_check_chain) l8 c8 k8
  have D8 : Df K mg "check_chain" s_check_chain ["chain"] := ⟨f8, _, F8, PySem.W.mg_of X G a8, F8.binds (ps := ["chain"]) fun _ _ _ _ _ _ us hl => match us, hl with | [_], _ => rfl⟩
  have F9 := fun_mk (st := s_quotients) l9 c9 k9
  have D9 : Df K mg "quotients" s_quotients ["chain"] := ⟨f9, _, F9, PySem.W.mg_of X G a9, F9.binds (ps := ["chain"]) fun _ _ _ _ _ _ us hl => match us, hl with | [_], _ => rfl⟩
  have F10 := fun_mk (st := s_is_run) l10 c10 k10
  have D10 : Df K mg "is_run" s_is_run ["value"] := ⟨f10, _, F10, PySem.W.mg_of X G a10, F10.binds (ps := ["value"]) fun _ _ _ _ _ _ us hl => match us, hl with | [_], _ => rfl⟩
  have F11 := fun_mk (st := s_number_of_all) l11 c11 k11
  have D11 : Df K mg "number_of_all" s_number_of_all ["runs"] := ⟨f11, _, F11, PySem.W.mg_of X G a11, F11.binds (ps := ["runs"]) fun _ _ _ _ _ _ us hl => match us, hl with | [_], _ => rfl⟩
  have F12 := fun_mk (st := s_units_of) l12 c12 k12
  have D12 : Df K mg "units_of" s_units_of ["runs", "size"] := ⟨f12, _, F12, PySem.W.mg_of X G a12, F12.binds (ps := ["runs", "size"]) fun _ _ _ _ _ _ us hl => match us, hl with | [_, _], _ => rfl⟩
  have F13 := fun_mk (st := s_joined_runs) l13 c13 k13
  have D13 : Df K mg "joined_runs" s_joined_runs ["runs"] := ⟨f13, _, F13, PySem.W.mg_of X G a13, F13.binds (ps := ["runs"]) fun _ _ _ _ _ _ us hl => match us, hl with | [_], _ => rfl⟩
  have F14 := fun_mk (st := s_check_store) l14 c14 k14
  have D14 : Df K mg "check_store" s_check_store ["value"] := ⟨f14, _, F14, PySem.W.mg_of X G a14, F14.binds (ps := ["value"]) fun _ _ _ _ _ _ us hl => match us, hl with | [_], _ => rfl⟩
  have F15 := fun_mk (st := s__check_many) l15 c15 k15
  have D15 : Df K mg "_check_many" s__check_many ["runs"] := ⟨f15, _, F15, PySem.W.mg_of X G a15, F15.binds (ps := ["runs"]) fun _ _ _ _ _ _ us hl => match us, hl with | [_], _ => rfl⟩
  have F16 := fun_mk (st := s_profile) l16 c16 k16
  have D16 : Df K mg "profile" s_profile ["chain", "store"] := ⟨f16, _, F16, PySem.W.mg_of X G a16, F16.binds (ps := ["chain", "store"]) fun _ _ _ _ _ _ us hl => match us, hl with | [_, _], _ => rfl⟩
  have F17 := fun_mk (st := s_is_profile) l17 c17 k17
  have D17 : Df K mg "is_profile" s_is_profile ["chain", "value"] := ⟨f17, _, F17, PySem.W.mg_of X G a17, F17.binds (ps := ["chain", "value"]) fun _ _ _ _ _ _ us hl => match us, hl with | [_, _], _ => rfl⟩
  have F18 := fun_mk (st := s_plain_counts) l18 c18 k18
  have D18 : Df K mg "plain_counts" s_plain_counts ["chain", "units"] := ⟨f18, _, F18, PySem.W.mg_of X G a18, F18.binds (ps := ["chain", "units"]) fun _ _ _ _ _ _ us hl => match us, hl with | [_, _], _ => rfl⟩
  have F19 := fun_mk (st := s__plain) l19 c19 k19
  have D19 : Df K mg "_plain" s__plain ["chain", "units"] := ⟨f19, _, F19, PySem.W.mg_of X G a19, F19.binds (ps := ["chain", "units"]) fun _ _ _ _ _ _ us hl => match us, hl with | [_, _], _ => rfl⟩
  have F20 := fun_mk (st := s_plain_store) l20 c20 k20
  have D20 : Df K mg "plain_store" s_plain_store ["chain", "units"] := ⟨f20, _, F20, PySem.W.mg_of X G a20, F20.binds (ps := ["chain", "units"]) fun _ _ _ _ _ _ us hl => match us, hl with | [_, _], _ => rfl⟩
  have F21 := fun_mk (st := s__pairs) l21 c21 k21
  have D21 : Df K mg "_pairs" s__pairs ["chain", "one", "other"] := ⟨f21, _, F21, PySem.W.mg_of X G a21, F21.binds (ps := ["chain", "one", "other"]) fun _ _ _ _ _ _ us hl => match us, hl with | [_, _, _], _ => rfl⟩
  have F22 := fun_mk (st := s_are_alike) l22 c22 k22
  have D22 : Df K mg "are_alike" s_are_alike ["chain", "one", "other"] := ⟨f22, _, F22, PySem.W.mg_of X G a22, F22.binds (ps := ["chain", "one", "other"]) fun _ _ _ _ _ _ us hl => match us, hl with | [_, _, _], _ => rfl⟩
  have F23 := fun_mk (st := s__law_dice) l23 c23 k23
  have D23 : Df K mg "_law_dice" s__law_dice ["script", "spot"] := ⟨f23, _, F23, PySem.W.mg_of X G a23, F23.binds (ps := ["script", "spot"]) fun _ _ _ _ _ _ us hl => match us, hl with | [_, _], _ => rfl⟩
  have F24 := fun_mk (st := s__law_roll) l24 c24 k24
  have D24 : Df K mg "_law_roll" s__law_roll ["dice", "total"] := ⟨f24, _, F24, PySem.W.mg_of X G a24, F24.binds (ps := ["dice", "total"]) fun _ _ _ _ _ _ us hl => match us, hl with | [_, _], _ => rfl⟩
  have F25 := fun_mk (st := s__law_pick) l25 c25 k25
  have D25 : Df K mg "_law_pick" s__law_pick ["dice", "items"] := ⟨f25, _, F25, PySem.W.mg_of X G a25, F25.binds (ps := ["dice", "items"]) fun _ _ _ _ _ _ us hl => match us, hl with | [_, _], _ => rfl⟩
  have F26 := fun_mk (st := s__law_great) l26 c26 k26
  have D26 : Df K mg "_law_great" s__law_great ["dice", "least"] := ⟨f26, _, F26, PySem.W.mg_of X G a26, F26.binds (ps := ["dice", "least"]) fun _ _ _ _ _ _ us hl => match us, hl with | [_, _], _ => rfl⟩
  have F27 := fun_mk (st := s__law_long_chain) l27 c27 k27
  have D27 : Df K mg "_law_long_chain" s__law_long_chain ["dice"] := ⟨f27, _, F27, PySem.W.mg_of X G a27, F27.binds (ps := ["dice"]) fun _ _ _ _ _ _ us hl => match us, hl with | [_], _ => rfl⟩
  have F28 := fun_mk (st := s__law_great_store) l28 c28 k28
  have D28 : Df K mg "_law_great_store" s__law_great_store ["dice", "sizes"] := ⟨f28, _, F28, PySem.W.mg_of X G a28, F28.binds (ps := ["dice", "sizes"]) fun _ _ _ _ _ _ us hl => match us, hl with | [_, _], _ => rfl⟩
  have F29 := fun_mk (st := s__law_made_store) l29 c29 k29
  have D29 : Df K mg "_law_made_store" s__law_made_store ["runs"] := ⟨f29, _, F29, PySem.W.mg_of X G a29, F29.binds (ps := ["runs"]) fun _ _ _ _ _ _ us hl => match us, hl with | [_], _ => rfl⟩
  have F30 := fun_mk (st := s__law_space) l30 c30 k30
  have D30 : Df K mg "_law_space" s__law_space ["runs", "size"] := ⟨f30, _, F30, PySem.W.mg_of X G a30, F30.binds (ps := ["runs", "size"]) fun _ _ _ _ _ _ us hl => match us, hl with | [_, _], _ => rfl⟩
  have F31 := fun_mk (st := s__law_is_due) l31 c31 k31
  have D31 : Df K mg "_law_is_due" s__law_is_due ["chain", "value"] := ⟨f31, _, F31, PySem.W.mg_of X G a31, F31.binds (ps := ["chain", "value"]) fun _ _ _ _ _ _ us hl => match us, hl with | [_, _], _ => rfl⟩
  have F32 := fun_mk (st := s__law_right) l32 c32 k32
  have D32 : Df K mg "_law_right" s__law_right ["dice"] := ⟨f32, _, F32, PySem.W.mg_of X G a32, F32.binds (ps := ["dice"]) fun _ _ _ _ _ _ us hl => match us, hl with | [_], _ => rfl⟩
  have KL_Store : Klass K mg "Store" ccStore := ⟨PySem.W.mg_of X G a_Store, ⟨pg_Store, hd_Store, po_Store, sa_Store⟩, mk_Store, kp_Store, ha_Store, e_n, e_t⟩
  have LT_Store : StoreT K mg ccStore := ⟨KL_Store, n0_Store⟩
  have LK_StoN : StoNK K ccStore := ⟨kit_toT kttotuple_Store (by decide +kernel), kne_Store⟩
  have DM_Store_init : Dis K mg "Store" ccStore "Store.__init__" s_Store_init "runs" := dis_mk (PySem.W.mg_of X G a_Store) mk_Store fa_Store_init fi_Store_init kp_Store fl_Store_init fc_Store_init (fun _ => rfl) (fun _ _ _ => rfl)
  have DM_Store_runs : Dpr K ccStore "runs" "Store.runs" s_Store_runs := dpr_mk pa_Store_runs pt_Store_runs pk_Store_runs pr_Store_runs fl_Store_runs fc_Store_runs fk_Store_runs (fun _ _ _ _ _ _ us hl => match us, hl with | [_], _ => rfl)
  have DM_Store_units : Dop K ccStore "units" "Store.units" s_Store_units ["self", "size"] := dop_mk fa_Store_units fi_Store_units ff_Store_units fl_Store_units fc_Store_units fk_Store_units (fun _ _ _ _ _ _ us hl => match us, hl with | [_, _], _ => rfl)
  have DM_Store_contains : Dop K ccStore "__contains__" "Store.__contains__" s_Store_contains ["self", "x"] := dop_mk fa_Store_contains fi_Store_contains ff_Store_contains fl_Store_contains fc_Store_contains fk_Store_contains (fun _ _ _ _ _ _ us hl => match us, hl with | [_, _], _ => rfl)
  have DM_Store_eq : Dop K ccStore "__eq__" "Store.__eq__" s_Store_eq ["self", "other"] := dop_mk fa_Store_eq fi_Store_eq ff_Store_eq fl_Store_eq fc_Store_eq fk_Store_eq (fun _ _ _ _ _ _ us hl => match us, hl with | [_, _], _ => rfl)
  exact ⟨PySem.W.fnOf "law" "law" (defArgs s_law) (defBody s_law) (defScope s_law) .none kV33 dc33 pm33 an33 cd33 ct33, fun s v => .of_eq rfl, fun base _ _ => ok_law B T D0 D1 D2 D3 D4 D5 D6 D7 D8 D9 D10 D11 D12 D13 D14 D15 D16 D17 D18 D19 D20 D21 D22 D23 D24 D25 D26 D27 D28 D29 D30 D31 D32 LT_Store LK_StoN DM_Store_init DM_Store_runs DM_Store_units DM_Store_contains DM_Store_eq (fun_mk (st := s_law) l33 c33 k33)⟩
end Lk38
open PySem PySem.W PyProof.Rows
set_option maxRecDepth 100000 in
set_option maxHeartbeats 0 in
theorem PySem.Challenge.cw_chainpacks_k38_profiles_told_holds : PySem.Challenge.rw_chainpacks_k38_profiles_told.Holds := by
  w_on; o_law; k_head; (case hw => w_witness2)
  k_fill
  refine Ck.walk_g (l := PySem.Challenge.rw_chainpacks_k38_profiles_told) (n := 63) (k := 11) (x := "script") (sp := fun w => Lk38.spLaw _) rfl (by decide) rfl ⟨rfl, by decide, by decide⟩ (fun w h Y => PySem.W.kIn_of Y) ?F (fun w H a ns hl hO hS => Lk38.start_law hl hS)
  case F =>
    intro w mg fa h KX G hmg
    refine' Lk38.all_mk KX G hmg ?a0 ?l0 ?c0 ?k0 ?a1 ?l1 ?c1 ?k1 ?a2 ?l2 ?c2 ?k2 ?a3 ?l3 ?c3 ?k3 ?a4 ?l4 ?c4 ?k4 ?a5 ?l5 ?c5 ?k5 ?a6 ?l6 ?c6 ?k6 ?a7 ?l7 ?c7 ?k7 ?a8 ?l8 ?c8 ?k8 ?a9 ?l9 ?c9 ?k9 ?a10 ?l10 ?c10 ?k10 ?a11 ?l11 ?c11 ?k11 ?a12 ?l12 ?c12 ?k12 ?a13 ?l13 ?c13 ?k13 ?a14 ?l14 ?c14 ?k14 ?a15 ?l15 ?c15 ?k15 ?a16 ?l16 ?c16 ?k16 ?a17 ?l17 ?c17 ?k17 ?a18 ?l18 ?c18 ?k18 ?a19 ?l19 ?c19 ?k19 ?a20 ?l20 ?c20 ?k20 ?a21 ?l21 ?c21 ?k21 ?a22 ?l22 ?c22 ?k22 ?a23 ?l23 ?c23 ?k23 ?a24 ?l24 ?c24 ?k24 ?a25 ?l25 ?c25 ?k25 ?a26 ?l26 ?c26 ?k26 ?a27 ?l27 ?c27 ?k27 ?a28 ?l28 ?c28 ?k28 ?a29 ?l29 ?c29 ?k29 ?a30 ?l30 ?c30 ?k30 ?a31 ?l31 ?c31 ?k31 ?a32 ?l32 ?c32 ?k32 ?a33 ?l33 ?c33 ?k33 ?z_abs ?z_all ?z_bool ?z_int ?z_isinstance ?z_len ?z_list ?z_max ?z_min ?z_range ?z_repr ?z_str ?z_sum ?z_tuple ?z_zip ?q_MAX_FIGURES ?q_MAX_RUNS ?q_MAX_SIZES ?e_n ?e_t ?a_Store ?pg_Store ?hd_Store ?po_Store ?sa_Store ?mk_Store ?kp_Store ?ha_Store ?n0_Store ?kttotuple_Store ?kne_Store ?kic_Store ?kty_Store ?fa_Store_init ?fi_Store_init ?fl_Store_init ?fc_Store_init ?fk_Store_init ?pa_Store_runs ?pt_Store_runs ?pk_Store_runs ?pr_Store_runs ?fl_Store_runs ?fc_Store_runs ?fk_Store_runs ?fa_Store_units ?fi_Store_units ?ff_Store_units ?fl_Store_units ?fc_Store_units ?fk_Store_units ?fa_Store_contains ?fi_Store_contains ?ff_Store_contains ?fl_Store_contains ?fc_Store_contains ?fk_Store_contains ?fa_Store_eq ?fi_Store_eq ?ff_Store_eq ?fl_Store_eq ?fc_Store_eq ?fk_Store_eq
    (case a0 => k_is); (case l0 => k_is); (case c0 => k_is); (case k0 => k_is); (case a1 => k_is); (case l1 => k_is); (case c1 => k_is); (case k1 => k_is); (case a2 => k_is); (case l2 => k_is); (case c2 => k_is); (case k2 => k_is); (case a3 => k_is); (case l3 => k_is); (case c3 => k_is); (case k3 => k_is); (case a4 => k_is); (case l4 => k_is); (case c4 => k_is); (case k4 => k_is); (case a5 => k_is); (case l5 => k_is); (case c5 => k_is); (case k5 => k_is); (case a6 => k_is); (case l6 => k_is); (case c6 => k_is); (case k6 => k_is); (case a7 => k_is); (case l7 => k_is); (case c7 => k_is); (case k7 => k_is); (case a8 => k_is); (case l8 => k_is); (case c8 => k_is); (case k8 => k_is); (case a9 => k_is); (case l9 => k_is); (case c9 => k_is); (case k9 => k_is); (case a10 => k_is); (case l10 => k_is); (case c10 => k_is); (case k10 => k_is); (case a11 => k_is); (case l11 => k_is); (case c11 => k_is); (case k11 => k_is); (case a12 => k_is); (case l12 => k_is); (case c12 => k_is); (case k12 => k_is); (case a13 => k_is); (case l13 => k_is); (case c13 => k_is); (case k13 => k_is); (case a14 => k_is); (case l14 => k_is); (case c14 => k_is); (case k14 => k_is); (case a15 => k_is); (case l15 => k_is); (case c15 => k_is); (case k15 => k_is); (case a16 => k_is); (case l16 => k_is); (case c16 => k_is); (case k16 => k_is); (case a17 => k_is); (case l17 => k_is); (case c17 => k_is); (case k17 => k_is); (case a18 => k_is); (case l18 => k_is); (case c18 => k_is); (case k18 => k_is); (case a19 => k_is); (case l19 => k_is); (case c19 => k_is); (case k19 => k_is); (case a20 => k_is); (case l20 => k_is); (case c20 => k_is); (case k20 => k_is); (case a21 => k_is); (case l21 => k_is); (case c21 => k_is); (case k21 => k_is); (case a22 => k_is); (case l22 => k_is); (case c22 => k_is); (case k22 => k_is); (case a23 => k_is); (case l23 => k_is); (case c23 => k_is); (case k23 => k_is); (case a24 => k_is); (case l24 => k_is); (case c24 => k_is); (case k24 => k_is); (case a25 => k_is); (case l25 => k_is); (case c25 => k_is); (case k25 => k_is); (case a26 => k_is); (case l26 => k_is); (case c26 => k_is); (case k26 => k_is); (case a27 => k_is); (case l27 => k_is); (case c27 => k_is); (case k27 => k_is); (case a28 => k_is); (case l28 => k_is); (case c28 => k_is); (case k28 => k_is); (case a29 => k_is); (case l29 => k_is); (case c29 => k_is); (case k29 => k_is); (case a30 => k_is); (case l30 => k_is); (case c30 => k_is); (case k30 => k_is); (case a31 => k_is); (case l31 => k_is); (case c31 => k_is); (case k31 => k_is); (case a32 => k_is); (case l32 => k_is); (case c32 => k_is); (case k32 => k_is); (case a33 => k_is); (case l33 => k_is); (case c33 => k_is); (case k33 => k_is); (case z_abs => k_is); (case z_all => k_is); (case z_bool => k_is); (case z_int => k_is); (case z_isinstance => k_is); (case z_len => k_is); (case z_list => k_is); (case z_max => k_is); (case z_min => k_is); (case z_range => k_is); (case z_repr => k_is); (case z_str => k_is); (case z_sum => k_is); (case z_tuple => k_is); (case z_zip => k_is); (case q_MAX_FIGURES => k_is); (case q_MAX_RUNS => k_is); (case q_MAX_SIZES => k_is); (case e_n => k_is); (case e_t => k_is); (case a_Store => k_is); (case pg_Store => k_is); (case hd_Store => k_is); (case po_Store => k_is); (case sa_Store => k_is); (case mk_Store => k_is); (case kp_Store => k_is); (case ha_Store => k_is); (case n0_Store => k_is); (case kttotuple_Store => k_is); (case kne_Store => k_is); (case kic_Store => k_is); (case kty_Store => k_is); (case fa_Store_init => k_is); (case fi_Store_init => k_is); (case fl_Store_init => k_is); (case fc_Store_init => k_is); (case fk_Store_init => k_is); (case pa_Store_runs => k_is); (case pt_Store_runs => k_is); (case pk_Store_runs => k_is); (case pr_Store_runs => k_is); (case fl_Store_runs => k_is); (case fc_Store_runs => k_is); (case fk_Store_runs => k_is); (case fa_Store_units => k_is); (case fi_Store_units => k_is); (case ff_Store_units => k_is); (case fl_Store_units => k_is); (case fc_Store_units => k_is); (case fk_Store_units => k_is); (case fa_Store_contains => k_is); (case fi_Store_contains => k_is); (case ff_Store_contains => k_is); (case fl_Store_contains => k_is); (case fc_Store_contains => k_is); (case fk_Store_contains => k_is); (case fa_Store_eq => k_is); (case fi_Store_eq => k_is); (case ff_Store_eq => k_is); (case fl_Store_eq => k_is); (case fc_Store_eq => k_is); (case fk_Store_eq => k_is)
