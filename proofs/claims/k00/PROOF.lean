import PyProof.Rows.All
import Wide.All
import OpenK.AllK
import Wide.FinOn
import PyProof.EqAt
import PyProof.EqKinds
import PyProof.TupleCall
import PyProof.ReprRoads
import HandS.ForMost
import HandS.IsInst
import HandS.Wide
import HandS.WideBits
import HandS.TupAny
import HandS.TupLe
import HandS.Walk
import HandS.Codes
import HandS.Evl
import PySem.Challenge.RW_chainpacks_k00_integers_of_all_sizes
set_option Elab.async false
set_option linter.all false
set_option maxRecDepth 100000
set_option maxHeartbeats 4000000
/-! the common words: built-ins, calls by a bundle, repr of data, the dice -/
namespace Ck
open PySem PySem.Spec PyProof.Rows L2
theorem bt_abs : bootBuiltins "abs" = some (.builtin "abs") := by decide +kernel
theorem bt_all : bootBuiltins "all" = some (.builtin "all") := by decide +kernel
theorem bt_any : bootBuiltins "any" = some (.builtin "any") := by decide +kernel
theorem bt_bool : bootBuiltins "bool" = some (.type "bool") := by decide +kernel
theorem bt_int : bootBuiltins "int" = some (.type "int") := by decide +kernel
theorem bt_str : bootBuiltins "str" = some (.type "str") := by decide +kernel
theorem bt_list : bootBuiltins "list" = some (.type "list") := by decide +kernel
theorem bt_tuple : bootBuiltins "tuple" = some (.type "tuple") := by decide +kernel
theorem bt_set : bootBuiltins "set" = some (.type "set") := by decide +kernel
theorem bt_range : bootBuiltins "range" = some (.type "range") := by decide +kernel
theorem bt_isinstance : bootBuiltins "isinstance" = some (.builtin "isinstance") := by decide +kernel
theorem bt_len : bootBuiltins "len" = some (.builtin "len") := by decide +kernel
theorem bt_max : bootBuiltins "max" = some (.builtin "max") := by decide +kernel
theorem bt_min : bootBuiltins "min" = some (.builtin "min") := by decide +kernel
theorem bt_sum : bootBuiltins "sum" = some (.builtin "sum") := by decide +kernel
theorem bt_sorted : bootBuiltins "sorted" = some (.builtin "sorted") := by decide +kernel
theorem bt_repr : bootBuiltins "repr" = some (.builtin "repr") := by decide +kernel

/-- a def of the text, where it stands behind the top -/
def Df (K : PySem.W.Frag) (mg : Str → Option Value) (x : Str) (st : Stmt) (ps : List Str) : Prop :=
  ∃ f fd, Fun K x x st f fd ∧ mg x = some (.ref f) ∧ Binds K fd ps []
/-- a def that keeps its promise, as a global name -/
def Cl (P : Program) (w : World) (K : PySem.W.Frag) (mg : Str → Option Value) (base : Heap) (k : Nat) (x : Str) (sp : Sp) : Prop :=
  ∃ f fd ps, FnOk P w K mg base CX0 k f fd ps sp ∧ mg x = some (.ref f) ∧ PySem.W.keepIn K (.ref f) = true ∧ Binds K fd ps []
section
variable {P : Program} {w : World} {K : PySem.W.Frag} {mg : Str → Option Value} {base : Heap}
theorem cl_of {x : Str} {st : Stmt} {N ps : List Str} {k : Nat} {sp : Sp} (D : Df K mg x st ps) (S : FnScope N ps (defScope st)) (len : ∀ vs H Q E, sp vs H Q E → vs.length = ps.length)
    (hbody : ∀ (f : Addr) (cdv : Value) (A : Around) (outer : List Env) (s : Shared) (H : Hp) (vs : List V) (Q : VK) (E : XK), Room k (A.deeper (envOfC x (defScope st) s.heap.objs.size f cdv)) → sp vs H Q E →
      ∃ t, PSs (cxOf CX0 P w K mg base N x (defScope st) f cdv A outer s H E).nox (defBody st) t ∧ t { nx := fun _ H' => Q .non H', rt := Q } (start N vs) H) : Cl P w K mg base (k + 1) x sp := by
  obtain ⟨f, fd, F, g, b⟩ := D
  exact ⟨f, fd, ps, F.ok S len (hbody f), g, F.kp, b⟩
theorem Cl.imp {k : Nat} {x : Str} {sp sp' : Sp} (c : Cl P w K mg base k x sp) (h : ∀ vs H Q E, sp' vs H Q E → sp vs H Q E) : Cl P w K mg base k x sp' := by
  obtain ⟨f, fd, ps, F, g, kp, b⟩ := c
  exact ⟨f, fd, ps, F.imp h, g, kp, b⟩
end
section
variable {X : Cx} {k j : Nat} {x : Str} {sp : Sp} {p pos : Pos} {e : Expr} {es : List Expr} {t : TA}
theorem pcal (c : Cl X.prog X.w X.K X.mg X.base k x sp) (hr : Room j X.A) (ha : PA X (e :: es) t) (hk : k ≤ j := by decide) (hg : Gl X x := by rfl)
    (hdb : (x == ("__debug__" : Str)) = false := by decide) (he : starEach (e :: es) X.env = (false, eval e X.env) :: starEach es X.env := by rfl) (hpl : (backTo pos (starEach es X.env)).any (·.1) = false := by rfl) :
    PE X (.Call (.Name x p) (e :: es) [] pos) (tCall sp [] E0 t) := by
  obtain ⟨f, fd, ps, F, hm, kp, b⟩ := c
  exact pe_call F (hr.mono hk) hg hm kp b .nil pass0 ha hdb he hpl
theorem pcal0 (c : Cl X.prog X.w X.K X.mg X.base k x sp) (hr : Room j X.A) (hk : k ≤ j := by decide) (hg : Gl X x := by rfl)
    (hdb : (x == ("__debug__" : Str)) = false := by decide) :
    PE X (.Call (.Name x p) [] [] pos) (tCall sp [] E0 tNil) := by
  obtain ⟨f, fd, ps, F, hm, kp, b⟩ := c
  exact pe_call0 F (hr.mono hk) hg hm kp b .nil pass0 hdb
/-- a constant of the module -/
theorem pe_gc2 {v : V} (hg : Gl X x) (h : ∃ u, X.mg x = some u ∧ RelV v u) (hd : (x == ("__debug__" : Str)) = false := by decide) : PE X (.Name x pos) (tC v) := by
  obtain ⟨u, h1, h2⟩ := h
  exact pe_glob hg h1 h2 hd
end

/-! repr of data -/
/-- a text of data that stands -/
def rReprD (K : PySem.W.Frag) : List V → Hp → VK → Prop := fun xs H Q => ∃ x d, xs = [x] ∧ Dp K H x d ∧ PyData.showable d = true ∧ PyData.hasDict d = false ∧ PyData.depth d ≤ 20 ∧ (PyData.shown d).length ≤ sizeLine ∧ Q (.str (PyData.shown d)) H
end Ck

/-! defs whose callers know that no text of a container is being written (repr needs it) -/
namespace Ck
open PySem PySem.Spec PyProof.Rows L2
/-- what a def promises where nothing is being shown -/
structure FnG (P : Program) (w : World) (K : PySem.W.Frag) (mg : Str → Option Value) (base : Heap) (C : CXT) (k : Nat)
    (f : Addr) (fd : FuncData) (ps : List Str) (sp : Sp) : Prop where
  len : ∀ vs H Q E, sp vs H Q E → vs.length = ps.length
  run : ∀ (A : Around) (fr : List Env) (s : Shared) (H : Hp) (args : Args) (us : List Value) (vs : List V) (Q : VK) (E : XK),
    Room k A → A.guards = some [] → Env0 P w K mg base A fr s H → BindsTo s fd args (ps.zip us) → Vals vs us →
    sp vs H Q E → codeAny (model P w) A (.call (.ref f) args) (CR C fr P w H s Q E) s
section
variable {P : Program} {w : World} {K : PySem.W.Frag} {mg : Str → Option Value} {base : Heap} {C : CXT} {k : Nat}
  {f : Addr} {fd : FuncData} {ps : List Str} {sp : Sp}
theorem FnG.of (F : FnOk P w K mg base C k f fd ps sp) : FnG P w K mg base C k f fd ps sp :=
  ⟨F.len, fun A fr s H args us vs Q E r _ e b v h => F.run A fr s H args us vs Q E r e b v h⟩
theorem FnG.mono {j : Nat} (F : FnG P w K mg base C j f fd ps sp) (h : j ≤ k) : FnG P w K mg base C k f fd ps sp :=
  ⟨F.len, fun A fr s H args us vs Q E r g e b v q => F.run A fr s H args us vs Q E (r.mono h) g e b v q⟩

theorem Fun.okG {x qual : Str} {st : Stmt} {N : List Str} (F : Fun K x qual st f fd) (S : FnScope N ps (defScope st))
    (len : ∀ vs H Q E, sp vs H Q E → vs.length = ps.length)
    (hbody : ∀ (cdv : Value) (A : Around) (fr : List Env) (s : Shared) (H : Hp) (vs : List V) (Q : VK) (E : XK),
      Room k (A.deeper (envOfC qual (defScope st) s.heap.objs.size f cdv)) → A.guards = some [] → sp vs H Q E →
      ∃ t, PSs (cxOf C P w K mg base N qual (defScope st) f cdv A fr s H E) (defBody st) t ∧
        t { nx := fun _ H' => Q .non H', rt := Q } (start N vs) H) : FnG P w K mg base C (k + 1) f fd ps sp := by
  obtain ⟨oc, od, kV, doc, pm, an, cdv, ct, osl, rfl, lk, hcd⟩ := F.ex
  constructor
  case len => exact len
  case run =>
    intro A fr s H args us vs Q E r g e b rv h
    have KX : K.In s.heap := e.mod.kin.keeps (fun c o q => (e.bs c o q).1)
    have lim : s.heap.NoLimit := e.mod.nolimit.keeps (fun c o q => (e.bs c o q).1)
    have hl := len vs H Q E h
    have knd : ∀ y ∈ ps.zip us, (defScope st).names.lookup y.1 = some .local ∨
        ((defScope st).names.lookup y.1 = some .cell ∧ ((cellsFrom (s.heap.objs.size + 1) (defScope st).names []).lookup y.1).isSome = true) := by
      intro y hy
      have hp := (List.of_mem_zip (a := y.1) (b := y.2) hy).1
      cases S.par y.1 hp with
      | inl q => exact Or.inl q
      | inr q => exact Or.inr ⟨q, PySem.W.cellsFrom_some _ _ _ (Or.inl q)⟩
    refine codeAny_call_function r.depth (KX f _ lk) rfl S.co S.gen rfl
      (PySem.W.codeRec_of KX hcd) (b _ _ _ _ (wpAny_newFunctionEnv_cells S.kind knd (fun env he s1 x => ?_)))
    cases he
    refine ⟨lim.keeps x.toInCall.keep, codeAny_func ?_⟩
    obtain ⟨t, ht, hq⟩ := hbody cdv A fr s H vs Q E (r.deeper _) g h
    have I := inv_start (CX := C) (E := E) S r.hd e hl rv x
    refine wpAny_mono (ht.run [] s1 (start N vs) H _ I hq) ?_ (fun _ _ z => z)
    intro fl s' hs
    cases fl with
    | brk => obtain ⟨_, _, _, z⟩ := hs; exact z.elim
    | cont => obtain ⟨_, _, _, z⟩ := hs; exact z.elim
    | ret u =>
      obtain ⟨v, σ', H', J, rr, z⟩ := hs
      exact ⟨v, H', J.os, J.bare, J.base, J.hok, rr, z⟩
    | next =>
      obtain ⟨σ', H', J, z⟩ := hs
      exact ⟨V.non, H', J.os, J.bare, J.base, J.hok, rfl, z⟩
end

/-- a def that keeps its promise, as a global name -/
def Cg (P : Program) (w : World) (K : PySem.W.Frag) (mg : Str → Option Value) (base : Heap) (C : CXT) (k : Nat) (x : Str) (sp : Sp) : Prop :=
  ∃ f fd ps, FnG P w K mg base C k f fd ps sp ∧ mg x = some (.ref f) ∧ PySem.W.keepIn K (.ref f) = true ∧ Binds K fd ps []
section
variable {P : Program} {w : World} {K : PySem.W.Frag} {mg : Str → Option Value} {base : Heap}
theorem cg_of {x : Str} {st : Stmt} {N ps : List Str} {k : Nat} {sp : Sp} (D : Df K mg x st ps) (S : FnScope N ps (defScope st))
    (len : ∀ vs H Q E, sp vs H Q E → vs.length = ps.length)
    (hbody : ∀ (f : Addr) (cdv : Value) (A : Around) (fr : List Env) (s : Shared) (H : Hp) (vs : List V) (Q : VK) (E : XK),
      Room k (A.deeper (envOfC x (defScope st) s.heap.objs.size f cdv)) → A.guards = some [] → sp vs H Q E →
      ∃ t, PSs (cxOf CX0 P w K mg base N x (defScope st) f cdv A fr s H E).nox (defBody st) t ∧
        t { nx := fun _ H' => Q .non H', rt := Q } (start N vs) H) : Cg P w K mg base CX0 (k + 1) x sp := by
  obtain ⟨f, fd, F, g, b⟩ := D
  refine ⟨f, fd, ps, Fun.okG F S len fun cdv A fr s H vs Q E r gd h => ?_, g, F.kp, b⟩
  obtain ⟨t, h1, h2⟩ := hbody f cdv A fr s H vs Q E r gd h
  exact ⟨t, h1.nox, h2⟩
end
section
variable {X : Cx} {C : CXT} {k j : Nat} {x : Str} {f : Addr} {fd : FuncData} {ps : List Str} {sp : Sp} {E : XK} {p pos : Pos} {e : Expr} {es : List Expr} {t : TA}
theorem run_fng {pins : List (Addr × Obj)} {σ : L2.St} {H : Hp} {s : Shared} {Q : VK} {us : List Value} {vs : List V}
    (F : FnG X.prog X.w X.K X.mg X.base C k f fd ps sp) (hr : Room k X.A) (hg : X.A.guards = some []) (hb : Binds X.K fd ps []) (hx : Passes C X E)
    (I : Inv X pins σ H s) (r : Vals vs us) (h : sp vs H Q E) :
    wpAny (model X.prog X.w) X.A (call (.ref f) us) (EP X pins σ Q) X.xe s := by
  have hl : us.length = ps.length := r.length.symm.trans (F.len vs H Q E h)
  have bd : BindsTo s fd ⟨us, []⟩ (ps.zip us) := by
    have z := hb s us I.kIn (by rw [List.append_nil]; exact hl)
    rw [List.append_nil] at z
    exact z
  refine wpAny_call (codeAny_mono (F.run X.A X.stack s H ⟨us, []⟩ us vs Q E hr hg I.env0 bd r h) ?_)
  intro res s' hq
  match res, hq with
  | .ok (.ret u), hq => exact I.after hq
  | .ok .next, hq => exact hq.elim
  | .ok .brk, hq => exact hq.elim
  | .ok .cont, hq => exact hq.elim
  | .error e, hq => exact hx pins σ H s e s' I hq
theorem pcg (c : Cg X.prog X.w X.K X.mg X.base CX0 k x sp) (hr : Room j X.A) (hgd : X.A.guards = some []) (ha : PA X (e :: es) t) (hk : k ≤ j := by decide) (hg : Gl X x := by rfl)
    (hdb : (x == ("__debug__" : Str)) = false := by decide) (he : starEach (e :: es) X.env = (false, eval e X.env) :: starEach es X.env := by rfl) (hpl : (backTo pos (starEach es X.env)).any (·.1) = false := by rfl) :
    PE X (.Call (.Name x p) (e :: es) [] pos) (tCall sp [] E0 t) := by
  obtain ⟨f, fd, ps, F, hm, kp, b⟩ := c
  constructor
  intro pins s σ H Q I h
  refine wpAny_Call_Name_kw (ld_glob I hg hm ?_ hdb)
  refine PySem.W.callWith_K (h₀ := X.base) I.ok.mod.kin kp (thn (ha.run pos pins s σ H _ I h) ?_) he hpl
  rintro us s1 ⟨vs, H1, I1, r, q⟩
  refine ⟨I1.kIn, run_fng F (hr.mono hk) hgd b pass0 I1 r ?_⟩
  have z : sp (vs ++ []) H1 Q E0 := q
  rw [List.append_nil] at z
  exact z
theorem pcg0 (c : Cg X.prog X.w X.K X.mg X.base CX0 k x sp) (hr : Room j X.A) (hgd : X.A.guards = some []) (hk : k ≤ j := by decide) (hg : Gl X x := by rfl)
    (hdb : (x == ("__debug__" : Str)) = false := by decide) :
    PE X (.Call (.Name x p) [] [] pos) (tCall sp [] E0 tNil) := by
  obtain ⟨f, fd, ps, F, hm, kp, b⟩ := c
  constructor
  intro pins s σ H Q I h
  refine wpAny_Call_Name_kw (ld_glob I hg hm ?_ hdb)
  exact PySem.W.callWith_K0 I.kIn kp (run_fng (us := []) F (hr.mono hk) hgd b pass0 I .nil h)
/-- repr(e), e data, where nothing is being shown -/
theorem call_reprD (hr : Room j X.A) (hg : X.A.guards = some []) : CallR X (.builtin "repr") (rReprD X.K) := by
  intro pins s σ H xs us Q I r h
  obtain ⟨x, d, rfl, hd, hs, hn, hp, hz, q⟩ := h
  obtain ⟨u, rfl, ru⟩ := vals1 r
  obtain ⟨as, rd⟩ := Dp.reads I d x u hd ru
  have un := hr.un
  cases u with
  | ref a =>
    refine repr_of_reads' rd hs (PyData.noDict_hsm hn) hg (by omega) (fun _ _ e => e) (fun h' u tk hk => ?_) hz
    exact ⟨.str _, H, I.kept (t' := tk) hk, ⟨_, rfl⟩, q⟩
  | none =>
    cases rd
    exact PySem.P.repr_of_none ⟨.str _, H, I.tok _, ⟨_, rfl⟩, q⟩
  | bool b =>
    cases rd
    exact PySem.P.repr_of_bool ⟨.str _, H, I.tok _, ⟨_, rfl⟩, q⟩
  | int i t =>
    cases rd
    exact PySem.P.repr_of_int (of_decide_eq_true (by simpa only [PyData.showable] using hs)) ⟨.str _, H, I.tok _, ⟨_, rfl⟩, q⟩
  | str x t =>
    cases rd
    exact PySem.P.repr_of_str ⟨.str _, H, I.tok _, ⟨_, rfl⟩, q⟩ hz
  | _ => cases rd
end
end Ck

/-! the law's end, for a promise made where nothing is being shown -/
namespace Ck
open PySem PySem.Spec PyProof.Rows L2
/-- what the machine has behind the law's call -/
abbrev Fine (s₁ : Shared) (r : Result) (s' : Shared) : Prop := r = .ok (.ret (.bool true)) ∧ OldK s₁.heap s'.heap ∧ s'.os = s₁.os ∧ AllBare s'.gens
section
variable {P : Program} {w : World} {K : PySem.W.Frag} {mg mb : Str → Option Value} {k : Nat} {fa a : Addr} {fd : FuncData} {x : Str} {sp : Sp} {s₁ : Shared} {vs : List Value} {ns : List Int}
theorem law_run (KX : K.In s₁.heap) (hns : s₁.heap.Ns mainGlobals mg) (hb : s₁.heap.Ns builtinsNs mb) (hbb : ∀ x : Str, x ≠ "__name__" → mb x = bootBuiltins x)
    (hlim : s₁.heap.NoLimit) (hg : s₁.gens = #[]) (ha : s₁.heap.get? a = some { cls := .type "list", data := .seq vs.toArray }) (hr : Room k callerA)
    (F : ∀ base : Heap, K.In base → base.Ns mainGlobals mg → FnG P w K mg base CX0 k fa fd [x] sp) (hbind : ∀ (s : Shared) (u : Value), BindsTo s fd ⟨[u], []⟩ [(x, u)])
    (hsp : ∀ H : Hp, Only H → SqL K H a (ns.map V.int) → sp [.ref a] H (fun v _ => v = .bl true) fun _ _ _ => False)
    (H : Hp) (hO : Only H) (hS : SqL K H a (ns.map V.int)) (hok : HOk P w H s₁.heap) (only : ∀ b u, H b = some u → b = a) (off : ∀ u, H a = some u → K.lookup a = none) :
    codeAny (model P w) callerA (.call (.ref fa) ⟨[.ref a], []⟩) (Fine s₁) s₁ := by
  -- a dict is not the script: it stays in the base
  have dictOff : ∀ (b : Addr) (o : Obj) (es : Array DictEntry) (ep : Nat), s₁.heap.get? b = some o → o.data = .dict es ep → H b = none := by
    intro b o es ep e d
    match q : H b with
    | none => rfl
    | some u =>
      rw [only b u q, ha] at e
      obtain rfl := Option.some.inj e
      cases d
  have nsOff : ∀ (b : Addr) (m : Str → Option Value), s₁.heap.Ns b m → (hidT s₁.heap H).Ns b m := by
    rintro b m ⟨o, es, ep, e, d, r⟩
    exact ⟨o, es, ep, hidT_get e (dictOff b o es ep e d), d, r⟩
  have inB : K.In (hidT s₁.heap H) := by
    intro b o e
    refine hidT_get (KX b o e) ?_
    match q : H b with
    | none => rfl
    | some u =>
      have z := only b u q
      rw [z] at q e
      rw [off u q] at e
      cases e
  have M : Mod K mg (hidT s₁.heap H) := by
    obtain ⟨mc, h1, h2⟩ := hlim
    exact ⟨inB, nsOff _ _ hns, ⟨mb, nsOff _ _ hb, hbb⟩, ⟨mc, nsOff _ _ h1, h2⟩⟩
  have no : ∀ (b : Addr), b ∉ frs [] := fun b z => by cases z
  have E0' : Env0 P w K mg (hidT s₁.heap H) callerA [] s₁ H :=
    ⟨rfl, M, fun b o e => of_hidT e, Nat.le_of_eq (hidT_size s₁.heap H), trivial, fun b z => (no b z).elim, hok, .of_eq hg⟩
  have run := (F (hidT s₁.heap H) inB (nsOff _ _ hns)).run callerA [] s₁ H ⟨[.ref a], []⟩ [.ref a] [.ref a] (fun v _ => v = .bl true) (fun _ _ _ => False) hr rfl E0' (hbind s₁ (.ref a)) (.cons rfl .nil) (hsp H hO hS)
  refine codeAny_mono run ?_
  intro r s' h
  match r, h with
  | .error _, h => exact h.elim
  | .ok .next, h => exact h.elim
  | .ok .brk, h => exact h.elim
  | .ok .cont, h => exact h.elim
  | .ok (.ret u), h =>
    obtain ⟨v, H', os, bare, un, hok', rv, q⟩ := h
    cases q
    cases rv
    refine ⟨rfl, OldK.of_keep ?_, os, bare⟩
    intro b o e
    match q : H b with
    | none => exact un.keep b o e q (no b) (List.not_mem_nil)
    | some u =>
      cases hO b with
      | inl z => rw [q] at z; cases z
      | inr z =>
        obtain ⟨ob, xs, z⟩ := z
        have e1 := (hok b _ z).1
        rw [e] at e1
        obtain rfl := Option.some.inj e1
        exact (hok' b _ (un.frzs b _ _ z)).1
theorem law_done (KX : K.In s₁.heap) (hns : s₁.heap.Ns mainGlobals mg) (hb : s₁.heap.Ns builtinsNs mb) (hbb : ∀ x : Str, x ≠ "__name__" → mb x = bootBuiltins x)
    (hlim : s₁.heap.NoLimit) (hg : s₁.gens = #[]) (ha : s₁.heap.get? a = some { cls := .type "list", data := .seq vs.toArray }) (hi : IntsAre vs ns) (hl : ns.length ≤ sizeLine) (hr : Room k callerA)
    (F : ∀ base : Heap, K.In base → base.Ns mainGlobals mg → FnG P w K mg base CX0 k fa fd [x] sp) (hbind : ∀ (s : Shared) (u : Value), BindsTo s fd ⟨[u], []⟩ [(x, u)])
    (hsp : ∀ H : Hp, Only H → SqL K H a (ns.map V.int) → sp [.ref a] H (fun v _ => v = .bl true) fun _ _ _ => False) :
    codeAny (model P w) callerA (.call (.ref fa) ⟨[.ref a], []⟩) (Fine s₁) s₁ := by
  have rv : Vals (ns.map V.int) vs := vals_ints hi
  have sz : vs.length ≤ sizeLine := by rw [← rv.length, List.length_map]; exact hl
  match hk : K.lookup a with
  | some o =>
    have e := KX a o hk
    rw [ha] at e
    obtain rfl := Option.some.inj e
    exact law_run KX hns hb hbb hlim hg ha hr F hbind hsp (fun _ => none) (fun _ => .inl rfl) (.inr ⟨_, vs.toArray, _, hk, rfl, rfl, rfl, by simpa using sz, by simpa using rv⟩)
      (fun b u z => nomatch z) (fun b u z => nomatch z) (fun u z => nomatch z)
  | none =>
    let o : Obj := { cls := .type "list", data := .seq vs.toArray }
    let H : Hp := fun b => if b = a then some (.frz o (.lst (ns.map V.int))) else none
    have hA : H a = some (.frz o (.lst (ns.map V.int))) := if_pos rfl
    have hN : ∀ b, b ≠ a → H b = none := fun b z => if_neg z
    refine law_run KX hns hb hbb hlim hg ha hr F hbind hsp H (fun b => ?_) (.inl (.inr ⟨o, hA⟩)) (fun b u z => ?_) (fun b u z => ?_) (fun _ _ => hk)
    · by_cases q : b = a
      · rw [q]; exact .inr ⟨_, _, hA⟩
      · exact .inl (hN b q)
    · by_cases q : b = a
      · rw [q] at z ⊢
        rw [hA] at z
        obtain rfl := Option.some.inj z
        exact ⟨ha, by rw [List.length_map]; exact hl, vs, _, rv, ha⟩
      · rw [hN b q] at z; cases z
    · by_cases q : b = a
      · exact q
      · rw [hN b q] at z; cases z
end
/-- the goal that k_head leaves, from the law's promise -/
theorem walk_g {l : PySem.W.OpenLaw} {n k : Nat} {q : Program} {loose : List Str} {XP : (Str → Option Value) → Heap → Prop} {YP : World → Heap → Prop} {d : DefRec} {K : Params → PySem.W.Frag} {sp : World → Sp} {x : Str}
    (hn : l.most = some n) (hn2 : n ≤ sizeLine) (hdf : d.params.defaults = []) (hr : Room k callerA)
    (hY : ∀ (w : World) (h : Heap), YP w h → (K w.params).In h)
    (F : ∀ (w : World) (mg : Str → Option Value) (fa : Addr) (h : Heap), (K w.params).In h → h.Ns mainGlobals mg → mg d.name = some (.ref fa) →
      ∃ fd : FuncData, (∀ (s : Shared) (u : Value), BindsTo s fd ⟨[u], []⟩ [(x, u)]) ∧
        ∀ base : Heap, (K w.params).In base → base.Ns mainGlobals mg → FnG l.prog w (K w.params) mg base CX0 k fa fd [x] (sp w))
    (hsp : ∀ (w : World) (H : Hp) (a : Addr) (ns : List Int), ns.length ≤ n → Only H → SqL (K w.params) H a (ns.map V.int) → sp w [.ref a] H (fun v _ => v = .bl true) fun _ _ _ => False) :
    PySem.W.WalkO q loose XP YP l.row.toRowW d [] (fun f vs => PySem.call f vs) := by
  refine Att.attach_call hn hdf ?_
  intro w s₀ s₁ mg mb fa o pm cd doc a vs ns G Y ho hd hcd hmg hobj hints hlen hg
  have KX := hY w s₁.heap Y
  obtain ⟨fd, hb, hF⟩ := F w mg fa s₁.heap KX G.T.g hmg
  exact law_done KX G.T.g G.T.b G.T.builtins G.T.nolimit hg hobj hints (Nat.le_trans hlen hn2) hr hF hb (fun H hO hS => hsp w H a ns hlen hO hS)
end Ck

/-! the laws' dice: three ints in a list; what is rolled lies in its bounds -/
namespace Ck
open PySem PySem.Spec PyProof.Rows L2
def Dice (H : Hp) (d : Addr) : Prop := ∃ a b c : Int, H d = some (.lst [.int a, .int b, .int c])
/-- only the object at d may be another one -/
def But (d : Addr) (H H' : Hp) : Prop := ∀ b, b ≠ d → H' b = H b
/-- all that stood stands, but for d; there may be more -/
def Kp (d : Addr) (H H' : Hp) : Prop := ∀ b o, b ≠ d → H b = some o → H' b = some o
theorem But.kp {d : Addr} {H H' : Hp} (h : But d H H') : Kp d H H' := fun b o n e => (h b n).trans e
theorem Kp.refl (d : Addr) (H : Hp) : Kp d H H := fun _ _ _ e => e
theorem Kp.trans {d : Addr} {H H1 H2 : Hp} (a : Kp d H H1) (b : Kp d H1 H2) : Kp d H H2 := fun c o n e => b c o n (a c o n e)
theorem Kp.new {d p : Addr} {H : Hp} {o : HO} (h : H p = none) : Kp d H (upd H p o) := fun b u _ e => by
  rw [upd_ne (ne_of_none e h)]; exact e
theorem Kp.put {d : Addr} {H : Hp} {o : HO} : Kp d H (upd H d o) := fun b u n e => by
  rw [upd_ne n]; exact e
/-- a change of what H does not know -/
theorem Kp.mut {d p : Addr} {H H' : Hp} {o : HO} (k : Kp d H H') (h : H p = none) : Kp d H (upd H' p o) := fun b u n e => by
  rw [upd_ne (ne_of_none e h)]; exact k b u n e
theorem Dice.ne {d p : Addr} {H : Hp} (h : Dice H d) (n : H p = none) : p ≠ d := by
  obtain ⟨a, b, c, e⟩ := h
  exact fun z => by rw [z, e] at n; cases n
theorem Dice.new {d p : Addr} {H : Hp} {o : HO} (h : Dice H d) (n : H p = none) : Dice (upd H p o) d := by
  have z := h.ne n
  obtain ⟨a, b, c, e⟩ := h
  exact ⟨a, b, c, by rw [upd_ne z.symm]; exact e⟩
theorem Dice.put {d p : Addr} {H : Hp} {o : HO} (h : Dice H d) (n : p ≠ d) : Dice (upd H p o) d := by
  obtain ⟨a, b, c, e⟩ := h
  exact ⟨a, b, c, by rw [upd_ne n.symm]; exact e⟩
theorem Dice.at {d : Addr} {H : Hp} {a b c : Int} : Dice (upd H d (.lst [.int a, .int b, .int c])) d := ⟨a, b, c, upd_same⟩
theorem But.put {d : Addr} {H : Hp} {o : HO} : But d H (upd H d o) := fun b n => upd_ne n
theorem But.put2 {d : Addr} {H : Hp} {o u : HO} : But d H (upd (upd H d o) d u) := fun b n => by rw [upd_ne n, upd_ne n]
theorem But.sqL {K : PySem.W.Frag} {d a : Addr} {H H' : Hp} {xs : List V} (k : But d H H') (n : a ≠ d) (h : SqL K H a xs) : SqL K H' a xs := by
  rcases h with (h | ⟨o, h⟩) | h
  · exact .inl (.inl ((k a n).trans h))
  · exact .inl (.inr ⟨o, (k a n).trans h⟩)
  · exact .inr h
theorem Kp.sqL {K : PySem.W.Frag} {d a : Addr} {H H' : Hp} {xs : List V} (k : Kp d H H') (n : a ≠ d) (h : SqL K H a xs) : SqL K H' a xs := by
  rcases h with (h | ⟨o, h⟩) | h
  · exact .inl (.inl (k a _ n h))
  · exact .inl (.inr ⟨o, k a _ n h⟩)
  · exact .inr h
theorem Kp.sqT {K : PySem.W.Frag} {d a : Addr} {H H' : Hp} {xs : List V} (k : Kp d H H') (n : a ≠ d) (h : SqT K H a xs) : SqT K H' a xs := by
  rcases h with (h | ⟨o, h⟩) | h
  · exact .inl (.inl (k a _ n h))
  · exact .inl (.inr ⟨o, k a _ n h⟩)
  · exact .inr h
def spRoll : Sp := fun vs H Q _ => ∃ d t, vs = [.ref d, .int t] ∧ 0 < t ∧ t < 1073741824 ∧ Dice H d ∧
  ∀ r H', 0 ≤ r → r < t → Dice H' d → But d H H' → Q (.int r) H'
def spPick (K : PySem.W.Frag) : Sp := fun vs H Q _ => ∃ d p xs, vs = [.ref d, .ref p] ∧ Dice H d ∧ SqL K H p xs ∧ p ≠ d ∧ xs ≠ [] ∧ xs.length < 1073741824 ∧
  ∀ x ∈ xs, ∀ H', Dice H' d → But d H H' → Q x H'
def spDice (K : PySem.W.Frag) : Sp := fun vs H Q _ => ∃ (a : Addr) (k : Nat) (ns : List Int), vs = [.ref a, .int (k : Int)] ∧ SqL K H a (ns.map V.int) ∧
  ∀ d, H d = none → ∀ H', Dice H' d → But d H H' → Q (.ref d) H'
theorem at_int {ns : List Int} {k : Nat} (h : ((k : Nat) : Int) < ((ns.map V.int).length : Int)) : ∃ i, atI (ns.map V.int) (k : Int) = some (.int i) := by
  have h1 : k < ns.length := by rw [List.length_map] at h; omega
  exact ⟨ns[k], atI_nat (by rw [List.getElem?_map, List.getElem?_eq_getElem h1]; rfl)⟩
theorem ten60 : CMulW ((10 : Int) ^ (60 : Int).toNat) ((10 : Int) ^ (60 : Int).toNat) := by unfold CMulW; decide +kernel
theorem pow_ok {i j : Int} (h : (decide (0 ≤ j) && decide (j ≤ 1000000) && decide (i.natAbs < 2 ^ 64)) = true) : CPow i j := by
  simp only [Bool.and_eq_true, decide_eq_true_eq] at h
  exact ⟨h.1.1, h.1.2, h.2⟩
/-- % by a positive number: what lies in its bounds -/
theorem r_mod {Q : VK} {H : Hp} {i j : Int} (hj : 0 < j) (h : ∀ r, 0 ≤ r → r < j → Q (.int r) H) : rI (fun _ j => 0 < j) (fun i j => .int (i % j)) (.int i) (.int j) H Q :=
  ⟨i, j, rfl, rfl, hj, h _ (Int.emod_nonneg _ (by omega)) (Int.emod_lt_of_pos _ hj)⟩
theorem r_modC {Q : VK} {σ : L2.St} {H : Hp} {i j : Int} (hj : 0 < j) (h : ∀ r, 0 ≤ r → r < j → Q (.int r) H) :
    tC (.int j) σ H (fun y H2 => rI (fun _ j => 0 < j) (fun i j => .int (i % j)) (.int i) y H2 Q) := r_mod hj h
/-- a if c else b, told once what comes of it -/
theorem join {c : Prop} [Decidable c] {ta tb : TE} {σ : L2.St} {H : Hp} {Q : VK} (p : V → Prop) (hq : ∀ v, p v → Q v H) (h1 : c → ∀ Q' : VK, (∀ v, p v → Q' v H) → ta σ H Q')
    (h2 : ¬ c → ∀ Q' : VK, (∀ v, p v → Q' v H) → tb σ H Q') : if decide c = true then ta σ H Q else tb σ H Q := by
  by_cases h : c
  · rw [decide_eq_true h]; exact iteT (h1 h Q hq)
  · rw [decide_eq_false h]; exact iteF (h2 h Q hq)
abbrev IsI (v : V) : Prop := ∃ i : Int, v = .int i
theorem at_in {α : Type} {xs : List α} {r : Int} (h0 : 0 ≤ r) (h : r < (xs.length : Int)) : ∃ x, x ∈ xs ∧ atI xs r = some x := by
  have hr : r.toNat < xs.length := by omega
  refine ⟨xs[r.toNat], List.getElem_mem hr, ?_⟩
  have z := atI_nat (xs := xs) (j := r.toNat) (List.getElem?_eq_getElem hr)
  rwa [show ((r.toNat : Nat) : Int) = r by omega] at z
/-- a test whose outcome is open -/
theorem ifd {c : Prop} [Decidable c] {A B : Prop} (h1 : c → A) (h2 : ¬ c → B) : if decide c = true then A else B := by
  by_cases h : c
  · rw [decide_eq_true h]; exact iteT (h1 h)
  · rw [decide_eq_false h]; exact iteF (h2 h)
theorem ifn {c : Prop} [Decidable c] {A B : Prop} (h1 : ¬ c → A) (h2 : c → B) : if (!decide c) = true then A else B := by
  by_cases h : c
  · rw [decide_eq_true h]; exact iteF (h2 h)
  · rw [decide_eq_false h]; exact iteT (h1 h)
end Ck

/-! expressions that leave the heap as it is -/
namespace Ck
open PySem PySem.Spec PyProof.Rows L2
def Pu (te : TE) (σ : L2.St) (H : Hp) (v : V) : Prop := ∀ Q : VK, Q v H → te σ H Q
def PuT (tt : TT) (σ : L2.St) (H : Hp) (b : Bool) : Prop := ∀ Q : Bool → Hp → Prop, Q b H → tt σ H Q
def PuA (ta : TA) (σ : L2.St) (H : Hp) (vs : List V) : Prop := ∀ Q : List V → Hp → Prop, Q vs H → ta σ H Q
section
variable {σ : L2.St} {H : Hp} {ta tb tc : TE} {t u : TT} {x y v : V} {K : PySem.W.Frag} {a b c : Int} {p q : Bool}
theorem pu_var {i : Nat} (h : σ[i]? = some (some v)) : Pu (tVar i) σ H v := fun _ q => ⟨v, h, q⟩
theorem pu_c : Pu (tC v) σ H v := fun _ q => q
theorem pu_is {w : V} (h : Pu ta σ H v) (e : v = w) : Pu ta σ H w := e ▸ h
theorem put_is {r : Bool} (h : PuT t σ H p) (e : p = r) : PuT t σ H r := e ▸ h
theorem pu_i0 {g : Int → Int → V} (ha : Pu ta σ H (.int a)) (hb : Pu tb σ H (.int b)) : Pu (tOp (rI0 g) ta tb) σ H (g a b) :=
  fun _ q => ha _ (hb _ ⟨a, b, rfl, rfl, q⟩)
theorem pu_i {C : Int → Int → Prop} {g : Int → Int → V} (ha : Pu ta σ H (.int a)) (hb : Pu tb σ H (.int b)) (hc : C a b) : Pu (tOp (rI C g) ta tb) σ H (g a b) :=
  fun _ q => ha _ (hb _ ⟨a, b, rfl, rfl, hc, q⟩)
theorem pu_neg (ha : Pu ta σ H (.int a)) : Pu (tUn (rU fun i => .int (-i)) ta) σ H (.int (-a)) := fun _ q => ha _ ⟨a, rfl, q⟩
theorem pu_eq (ha : Pu ta σ H x) (hb : Pu tb σ H y) (hs : scal x y = true) : Pu (tOp rEq ta tb) σ H (.bl (decide (x = y))) := fun _ q => ha _ (hb _ ⟨hs, q⟩)
theorem pu_ne (ha : Pu ta σ H x) (hb : Pu tb σ H y) (hs : scal x y = true) : Pu (tOp rNe ta tb) σ H (.bl (!decide (x = y))) := fun _ q => ha _ (hb _ ⟨hs, q⟩)
theorem pu_chain {f g : Int → Int → Bool} (ha : Pu ta σ H (.int a)) (hb : Pu tb σ H (.int b)) (hc : Pu tc σ H (.int c)) :
    Pu (tChain (rI0 fun i j => .bl (f i j)) (rI0 fun i j => .bl (g i j)) ta tb tc) σ H (.bl (f a b && g b c)) := fun Q q => ha _ (hb _ ⟨a, b, rfl, rfl, f a b, rfl, by
  revert q
  cases f a b with
  | true => exact fun q => iteT (hc _ ⟨b, c, rfl, rfl, q⟩)
  | false => exact fun q => iteF q⟩)
theorem pu_chainR {r r' : R2} {z : V} (ha : Pu ta σ H x) (hb : Pu tb σ H y) (hc : Pu tc σ H z) (h1 : ∀ Q : VK, Q (.bl p) H → r x y H Q) (h2 : ∀ Q : VK, Q (.bl q) H → r' y z H Q) :
    Pu (tChain r r' ta tb tc) σ H (.bl (p && q)) := fun Q k => ha _ (hb _ (h1 _ ⟨p, rfl, by
  cases p with
  | true => exact iteT (hc _ (h2 _ k))
  | false => exact iteF k⟩))
theorem pu_ixL {l : Addr} {xs : List V} {i : Int} (ha : Pu ta σ H (.ref l)) (hb : Pu tb σ H (.int i)) (hl : SqL K H l xs) (hi : atI xs i = some v) : Pu (tOp (rIxL K) ta tb) σ H v :=
  fun _ q => ha _ (hb _ ⟨l, xs, i, v, rfl, rfl, hl, hi, q⟩)
theorem pu_ixT {l : Addr} {xs : List V} {i : Int} (ha : Pu ta σ H (.ref l)) (hb : Pu tb σ H (.int i)) (hl : SqT K H l xs) (hi : atI xs i = some v) : Pu (tOp (rIxT K) ta tb) σ H v :=
  fun _ q => ha _ (hb _ ⟨l, xs, i, v, rfl, rfl, hl, hi, q⟩)
theorem pu_lenL {l : Addr} {xs : List V} (ha : Pu ta σ H (.ref l)) (hl : SqL K H l xs) :
    Pu (tCB (fun xs H Q => ∃ p ys, xs = [.ref p] ∧ (SqL K H p ys ∨ SqT K H p ys) ∧ Q (.int ys.length) H) (tCons ta tNil)) σ H (.int (xs.length : Int)) := fun _ q => ha _ ⟨l, xs, rfl, .inl hl, q⟩
theorem pu_lenT {l : Addr} {xs : List V} (ha : Pu ta σ H (.ref l)) (hl : SqT K H l xs) :
    Pu (tCB (fun xs H Q => ∃ p ys, xs = [.ref p] ∧ (SqL K H p ys ∨ SqT K H p ys) ∧ Q (.int ys.length) H) (tCons ta tNil)) σ H (.int (xs.length : Int)) := fun _ q => ha _ ⟨l, xs, rfl, .inr hl, q⟩
theorem pu_lenS {z : Str} (ha : Pu ta σ H (.str z)) (hz : z.length ≤ sizeLine) :
    Pu (tCB (fun xs H Q => ∃ z, xs = [.str z] ∧ z.length ≤ sizeLine ∧ Q (.int z.length) H) (tCons ta tNil)) σ H (.int (z.length : Int)) := fun _ q => ha _ ⟨z, rfl, hz, q⟩
theorem pu_abs (ha : Pu ta σ H (.int a)) : Pu (tCB (fun xs H Q => ∃ i, xs = [.int i] ∧ Q (.int (if i < 0 then -i else i)) H) (tCons ta tNil)) σ H (.int (if a < 0 then -a else a)) := fun _ q => ha _ ⟨a, rfl, q⟩
theorem pu_max (ha : Pu ta σ H (.int a)) (hb : Pu tb σ H (.int b)) : Pu (tCB (fun xs H Q => ∃ i j, xs = [.int i, .int j] ∧ Q (.int (if j > i then j else i)) H) (tCons ta (tCons tb tNil))) σ H (.int (if b > a then b else a)) := fun _ q => ha _ (hb _ ⟨a, b, rfl, q⟩)
theorem pu_min (ha : Pu ta σ H (.int a)) (hb : Pu tb σ H (.int b)) : Pu (tCB (fun xs H Q => ∃ i j, xs = [.int i, .int j] ∧ Q (.int (if j < i then j else i)) H) (tCons ta (tCons tb tNil))) σ H (.int (if b < a then b else a)) := fun _ q => ha _ (hb _ ⟨a, b, rfl, q⟩)
theorem pu_strI (ha : Pu ta σ H (.int a)) (hz : a.natAbs.log2 < 1920) : Pu (tCB (fun xs H Q => ∃ i, xs = [.int i] ∧ i.natAbs.log2 < 1920 ∧ Q (.str (toString i)) H) (tCons ta tNil)) σ H (.str (toString a)) := fun _ q => ha _ ⟨a, rfl, hz, q⟩
theorem pu_isi {k : V} {tt uu : Value} {r : Bool} (ha : Pu ta σ H x) (hb : Pu tb σ H k) (h1 : ClsV k uu) (h2 : TyX K H x tt) (h3 : PySem.W.kitOne K tt uu = some r) :
    Pu (tCB (rIsi K) (tCons ta (tCons tb tNil))) σ H (.bl r) := fun _ q => ha _ (hb _ ⟨x, k, tt, uu, r, rfl, h1, h2, h3, q⟩)
theorem pu_bits (ha : Pu ta σ H (.int a)) : Pu (tBits ta) σ H (.int (Builtin.Int.intBits a : Nat)) := fun _ q => ha _ ⟨a, rfl, q⟩
theorem pu_isN (ha : Pu ta σ H x) : Pu (tOp (fun x y H Q => y = .non ∧ Q (.bl (decide (x = .non))) H) ta (tC .non)) σ H (.bl (decide (x = .non))) := fun _ q => ha _ ⟨rfl, q⟩
theorem pu_notN (ha : Pu ta σ H x) : Pu (tOp (fun x y H Q => y = .non ∧ Q (.bl (!decide (x = .non))) H) ta (tC .non)) σ H (.bl (!decide (x = .non))) := fun _ q => ha _ ⟨rfl, q⟩
theorem pu_andV (ha : Pu ta σ H (.bl p)) (hb : p = true → Pu tb σ H (.bl q)) : Pu (tAndV ta tb) σ H (.bl (p && q)) := fun Q k => ha _ ⟨p, rfl, by
  cases p with
  | true => exact iteT (hb rfl _ k)
  | false => exact iteF k⟩
theorem pu_orV (ha : Pu ta σ H (.bl p)) (hb : p = false → Pu tb σ H (.bl q)) : Pu (tOrV ta tb) σ H (.bl (p || q)) := fun Q k => ha _ ⟨p, rfl, by
  cases p with
  | true => exact iteT k
  | false => exact iteF (hb rfl _ k)⟩
theorem pu_notV (ha : Pu ta σ H (.bl p)) : Pu (tNotV ta) σ H (.bl (!p)) := fun _ k => ha _ ⟨p, rfl, k⟩
theorem put_test (h : Pu ta σ H (.bl p)) : PuT (tTest ta) σ H p := fun _ k => h _ ⟨p, rfl, k⟩
theorem put_B (h : Pu ta σ H (.bl p)) : PuT (tB ta) σ H p := fun _ k => h _ ⟨p, rfl, k⟩
theorem put_and (h1 : PuT t σ H p) (h2 : p = true → PuT u σ H q) : PuT (tAnd t u) σ H (p && q) := fun Q k => h1 _ (by
  cases p with
  | true => exact iteT (h2 rfl _ k)
  | false => exact iteF k)
theorem put_or (h1 : PuT t σ H p) (h2 : p = false → PuT u σ H q) : PuT (tOr t u) σ H (p || q) := fun Q k => h1 _ (by
  cases p with
  | true => exact iteT k
  | false => exact iteF (h2 rfl _ k))
theorem put_not (h : PuT t σ H p) : PuT (tNot t) σ H (!p) := fun _ k => h _ k
theorem pu_if (hc : PuT t σ H p) (h1 : p = true → Pu ta σ H v) (h2 : p = false → Pu tb σ H v) : Pu (tIf t ta tb) σ H v := fun Q k => hc _ (by
  cases p with
  | true => exact iteT (h1 rfl _ k)
  | false => exact iteF (h2 rfl _ k))
theorem pua_nil : PuA tNil σ H [] := fun _ q => q
theorem pua_cons {tr : TA} {vs : List V} (h : Pu ta σ H x) (hr : PuA tr σ H vs) : PuA (tCons ta tr) σ H (x :: vs) := fun _ q => h _ (hr _ q)
variable {D : Ends} {s r z : TS}
theorem st_if (h : PuT t σ H p) (k : if p = true then s D σ H else r D σ H) : tIfS t s r D σ H := h _ k
theorem sq_if (h : PuT t σ H p) (k1 : p = true → s { D with nx := z D } σ H) (k2 : p = false → r { D with nx := z D } σ H) : tSeq (tIfS t s r) z D σ H := h _ (by
  cases p with
  | true => exact iteT (k1 rfl)
  | false => exact iteF (k2 rfl))
/-- an if without else whose body returns -/
theorem sq_when (h : PuT t σ H p) (k1 : p = true → s { D with nx := z D } σ H) (k2 : p = false → z D σ H) : tSeq (tIfS t s tNext) z D σ H := h _ (by
  cases p with
  | true => exact iteT (k1 rfl)
  | false => exact iteF (k2 rfl))
/-- a test that does not hold -/
theorem sq_skip (h : PuT t σ H false) (k2 : z D σ H) : tSeq (tIfS t s tNext) z D σ H := h _ (iteF k2)
theorem sq_asg {i : Nat} (h : Pu ta σ H v) (k : z D (σ.set i (some v)) H) : tSeq (tAsg ta (gName i)) z D σ H := h _ k
theorem st_ret (h : Pu ta σ H v) (k : D.rt v H) : tRet ta D σ H := h _ k
theorem st_asg {i : Nat} (h : Pu ta σ H v) (k : D.nx (σ.set i (some v)) H) : tAsg ta (gName i) D σ H := h _ k
theorem nt {b : Bool} (h : (!b) = true) : b = false := by cases b with | true => cases h | false => rfl
theorem nf {b : Bool} (h : (!b) = false) : b = true := by cases b with | true => rfl | false => cases h
theorem yes_go {Q : Bool → Hp → Prop} (h : Q true H) : tYes σ H Q := h
/-- any test of a bool -/
theorem if_b {A B : Prop} (p : Bool) (h1 : p = true → A) (h2 : p = false → B) : if p = true then A else B := by
  cases p with
  | true => exact iteT (h1 rfl)
  | false => exact iteF (h2 rfl)
end
end Ck

/-! what comes of an expression as data; the laws' outer loops -/
namespace Ck
open PySem PySem.Spec PyProof.Rows L2 Evl
section
variable {K : PySem.W.Frag} {H H' : Hp}
mutual
theorem dpM (e : Ex H H') : ∀ {v : V} {d : PyData}, Dp K H v d → Dp K H' v d
  | _, _, .non => .non
  | _, _, .bl b => .bl b
  | _, _, .int i => .int i
  | _, _, .str x => .str x
  | _, _, .lst h a => .lst (ex_l e h) (dpaM e a)
  | _, _, .tup h a => .tup (ex_t e h) (dpaM e a)
theorem dpaM (e : Ex H H') : ∀ {vs : List V} {ds : List PyData}, DpAll K H vs ds → DpAll K H' vs ds
  | _, _, .nil => .nil
  | _, _, .cons h t => .cons (dpM e h) (dpaM e t)
end
end
def Ed (K : PySem.W.Frag) (te : TE) (σ : L2.St) (H : Hp) (d : PyData) : Prop := ∀ H1, Ex H H1 → ∀ Q : VK, (∀ v H2, Ex H1 H2 → Dp K H2 v d → Q v H2) → te σ H1 Q
def EdA (K : PySem.W.Frag) (ta : TA) (σ : L2.St) (H : Hp) (ds : List PyData) : Prop := ∀ H1, Ex H H1 → ∀ Q : List V → Hp → Prop, (∀ vs H2, Ex H1 H2 → DpAll K H2 vs ds → Q vs H2) → ta σ H1 Q
/-- what may be shown -/
structure Sh (d : PyData) : Prop where
  sh : PyData.showable d = true
  nd : PyData.hasDict d = false
  dp : PyData.depth d ≤ 20
  ln : (PyData.shown d).length ≤ sizeLine
section
variable {K : PySem.W.Frag} {σ : L2.St} {H H' : Hp} {ta tb te tc : TE} {tr : TA} {t u : TT} {x y z v : V} {d e : PyData} {ds : List PyData} {a b c : Int} {p q : Bool}
theorem Ed.mono (e1 : Ex H H') (h : Ed K te σ H d) : Ed K te σ H' d := fun H1 e Q q => h H1 (e1.trans e) Q q
theorem ed_of (h : Ev te σ H v) (hd : Dp K H v d) : Ed K te σ H d := fun H1 e Q q => h H1 e Q fun H2 e2 => q v H2 e2 (dpM (e.trans e2) hd)
theorem ed_bl (h : Ev te σ H (.bl p)) : Ed K te σ H (.bool p) := ed_of h (.bl p)
theorem ed_int (h : Ev te σ H (.int a)) : Ed K te σ H (.int a) := ed_of h (.int a)
theorem ed_non (h : Ev te σ H .non) : Ed K te σ H .none := ed_of h .non
theorem ed_str {s : Str} (h : Ev te σ H (.str s)) : Ed K te σ H (.str s) := ed_of h (.str s)
theorem ed_nil : EdA K tNil σ H [] := fun H1 _ _ q => q [] H1 (Ex.refl H1) .nil
theorem ed_cons (h : Ed K te σ H d) (hr : EdA K tr σ H ds) : EdA K (tCons te tr) σ H (d :: ds) := fun H1 e Q q =>
  h H1 e _ fun v H2 e2 hd => hr H2 (e.trans e2) _ fun vs H3 e3 ha => q (v :: vs) H3 (e2.trans e3) (.cons (dpM e3 hd) ha)
theorem dpa_len : ∀ {vs : List V} {ds : List PyData}, DpAll K H vs ds → vs.length = ds.length
  | _, _, .nil => rfl
  | _, _, .cons _ t => congrArg (· + 1) (dpa_len t)
theorem ed_lst (h : EdA K tr σ H ds) (hl : ds.length ≤ 100000 := by exact Nat.le_of_ble_eq_true rfl) : Ed K (tLst tr) σ H (.list ds) := fun H1 e Q q =>
  h H1 e _ fun vs H2 e2 ha => ⟨sz_of (by rw [dpa_len ha]; exact hl), fun p hp => q (.ref p) _ (e2.trans (Ex.new hp)) (.lst (sq_of upd_same) (dpaM (Ex.new hp) ha))⟩
theorem ed_tup (h : EdA K tr σ H ds) (hl : ds.length ≤ 100000 := by exact Nat.le_of_ble_eq_true rfl) : Ed K (tTup tr) σ H (.tuple ds) := fun H1 e Q q =>
  h H1 e _ fun vs H2 e2 ha => ⟨sz_of (by rw [dpa_len ha]; exact hl), fun p hp => q (.ref p) _ (e2.trans (Ex.new hp)) (.tup (st_of upd_same) (dpaM (Ex.new hp) ha))⟩
theorem ev_repr (h : Ed K te σ H d) (s : Sh d) : Ev (tCB (rReprD K) (tCons te tNil)) σ H (.str (PyData.shown d)) := fun H1 e Q q =>
  h H1 e _ fun v H2 e2 hd => ⟨v, d, rfl, hd, s.sh, s.nd, s.dp, s.ln, q H2 e2⟩
theorem ev_eqD (h : Ed K ta σ H d) (h' : Ed K tb σ H e) (s : SeqAt.shaped d = true) (s' : SeqAt.shaped e = true) : Ev (tOp (rEqD K) ta tb) σ H (.bl (PyData.eqv d e)) := fun H1 e1 Q q =>
  h H1 e1 _ fun v H2 e2 hd => h' H2 (e1.trans e2) _ fun u H3 e3 hd' => ⟨_, _, dpM e3 hd, hd', s, s', q H3 (e2.trans e3)⟩
theorem ev_neD (h : Ed K ta σ H d) (h' : Ed K tb σ H e) (s : SeqAt.shaped d = true) (s' : SeqAt.shaped e = true) : Ev (tOp (rNeD K) ta tb) σ H (.bl (!PyData.eqv d e)) := fun H1 e1 Q q =>
  h H1 e1 _ fun v H2 e2 hd => h' H2 (e1.trans e2) _ fun u H3 e3 hd' => ⟨_, _, dpM e3 hd, hd', s, s', q H3 (e2.trans e3)⟩
/-- what leaves the heap as it is, at every greater heap -/
theorem ev_pu (h : ∀ H1, Ex H H1 → Pu te σ H1 v) : Ev te σ H v := fun H1 e Q q => h H1 e Q (q H1 (Ex.refl H1))
theorem ev_i0 {g : Int → Int → V} (ha : Ev ta σ H (.int a)) (hb : Ev tb σ H (.int b)) : Ev (tOp (rI0 g) ta tb) σ H (g a b) := ev_op ha hb rv_I0
theorem ev_i {C : Int → Int → Prop} {g : Int → Int → V} (ha : Ev ta σ H (.int a)) (hb : Ev tb σ H (.int b)) (hc : C a b) : Ev (tOp (rI C g) ta tb) σ H (g a b) := ev_op ha hb (rv_I hc)
theorem ev_eq (ha : Ev ta σ H x) (hb : Ev tb σ H y) (hs : scal x y = true) : Ev (tOp rEq ta tb) σ H (.bl (decide (x = y))) := ev_op ha hb (rv_eq hs)
theorem ev_ne (ha : Ev ta σ H x) (hb : Ev tb σ H y) (hs : scal x y = true) : Ev (tOp rNe ta tb) σ H (.bl (!decide (x = y))) := ev_op ha hb (rv_ne hs)
theorem ev_addS {s r : Str} (ha : Ev ta σ H (.str s)) (hb : Ev tb σ H (.str r)) (hl : s.length + r.length ≤ sizeLine) :
    Ev (tOp (fun x y H Q => ∃ i j, x = .str i ∧ y = .str j ∧ i.length + j.length ≤ sizeLine ∧ Q (.str (i ++ j)) H) ta tb) σ H (.str (s ++ r)) := ev_op ha hb fun H1 _ _ q => ⟨s, r, rfl, rfl, hl, q H1 (Ex.refl H1)⟩
theorem ev_chain {f g : Int → Int → Bool} (ha : Ev ta σ H (.int a)) (hb : Ev tb σ H (.int b)) (hc : Ev tc σ H (.int c)) :
    Ev (tChain (rI0 fun i j => .bl (f i j)) (rI0 fun i j => .bl (g i j)) ta tb tc) σ H (.bl (f a b && g b c)) := fun H1 e Q q =>
  ha H1 e _ fun H2 e2 => hb H2 (e.trans e2) _ fun H3 e3 => ⟨a, b, rfl, rfl, f a b, rfl, by
    cases h : f a b with
    | true =>
      rw [h] at q
      exact iteT (hc H3 ((e.trans e2).trans e3) _ fun H4 e4 => ⟨b, c, rfl, rfl, q H4 ((e2.trans e3).trans e4)⟩)
    | false =>
      rw [h] at q
      exact iteF (q H3 (e2.trans e3))⟩
theorem ev_isB {p q : Bool} (ha : Ev ta σ H (.bl p)) (hb : Ev tb σ H (.bl q)) : Ev (tOp (fun x y H Q => ∃ a b, x = .bl a ∧ y = .bl b ∧ Q (.bl (decide (a = b))) H) ta tb) σ H (.bl (decide (p = q))) :=
  ev_op ha hb fun H1 _ _ k => ⟨p, q, rfl, rfl, k H1 (Ex.refl H1)⟩
theorem ev_notB {p q : Bool} (ha : Ev ta σ H (.bl p)) (hb : Ev tb σ H (.bl q)) : Ev (tOp (fun x y H Q => ∃ a b, x = .bl a ∧ y = .bl b ∧ Q (.bl (!decide (a = b))) H) ta tb) σ H (.bl (!decide (p = q))) :=
  ev_op ha hb fun H1 _ _ k => ⟨p, q, rfl, rfl, k H1 (Ex.refl H1)⟩
theorem ev_isi {k : V} {tt uu : Value} {r : Bool} (ha : Ev ta σ H x) (hb : Ev tb σ H k) (h1 : ClsV k uu) (h2 : ∀ H1, Ex H H1 → TyX K H1 x tt) (h3 : PySem.W.kitOne K tt uu = some r) :
    Ev (tCB (rIsi K) (tCons ta (tCons tb tNil))) σ H (.bl r) := fun H1 e Q q => ha H1 e _ fun H2 e2 => hb H2 (e.trans e2) _ fun H3 e3 => ⟨x, k, tt, uu, r, rfl, h1, h2 H3 ((e.trans e2).trans e3), h3, q H3 (e2.trans e3)⟩
theorem ev_lenS {s : Str} (ha : Ev ta σ H (.str s)) (hz : s.length ≤ sizeLine) :
    Ev (tCB (fun xs H Q => ∃ z, xs = [.str z] ∧ z.length ≤ sizeLine ∧ Q (.int z.length) H) (tCons ta tNil)) σ H (.int (s.length : Int)) := fun H1 e Q q => ha H1 e _ fun H2 e2 => ⟨s, rfl, hz, q H2 e2⟩
theorem ev_lenL {l : Addr} {xs : List V} (ha : Ev ta σ H (.ref l)) (hl : SqL K H l xs) :
    Ev (tCB (fun xs H Q => ∃ p ys, xs = [.ref p] ∧ (SqL K H p ys ∨ SqT K H p ys) ∧ Q (.int ys.length) H) (tCons ta tNil)) σ H (.int (xs.length : Int)) := fun H1 e Q q => ha H1 e _ fun H2 e2 => ⟨l, xs, rfl, .inl (ex_l (e.trans e2) hl), q H2 e2⟩
theorem ev_lenT {l : Addr} {xs : List V} (ha : Ev ta σ H (.ref l)) (hl : SqT K H l xs) :
    Ev (tCB (fun xs H Q => ∃ p ys, xs = [.ref p] ∧ (SqL K H p ys ∨ SqT K H p ys) ∧ Q (.int ys.length) H) (tCons ta tNil)) σ H (.int (xs.length : Int)) := fun H1 e Q q => ha H1 e _ fun H2 e2 => ⟨l, xs, rfl, .inr (ex_t (e.trans e2) hl), q H2 e2⟩
theorem ev_abs (ha : Ev ta σ H (.int a)) : Ev (tCB (fun xs H Q => ∃ i, xs = [.int i] ∧ Q (.int (if i < 0 then -i else i)) H) (tCons ta tNil)) σ H (.int (if a < 0 then -a else a)) := fun H1 e Q q => ha H1 e _ fun H2 e2 => ⟨a, rfl, q H2 e2⟩
theorem ev_min (ha : Ev ta σ H (.int a)) (hb : Ev tb σ H (.int b)) : Ev (tCB (fun xs H Q => ∃ i j, xs = [.int i, .int j] ∧ Q (.int (if j < i then j else i)) H) (tCons ta (tCons tb tNil))) σ H (.int (if b < a then b else a)) := fun H1 e Q q => ha H1 e _ fun H2 e2 => hb H2 (e.trans e2) _ fun H3 e3 => ⟨a, b, rfl, q H3 (e2.trans e3)⟩
theorem ev_strI (ha : Ev ta σ H (.int a)) (hz : a.natAbs.log2 < 1920) : Ev (tCB (fun xs H Q => ∃ i, xs = [.int i] ∧ i.natAbs.log2 < 1920 ∧ Q (.str (toString i)) H) (tCons ta tNil)) σ H (.str (toString a)) := fun H1 e Q q => ha H1 e _ fun H2 e2 => ⟨a, rfl, hz, q H2 e2⟩
theorem ev_bits (ha : Ev ta σ H (.int a)) : Ev (tBits ta) σ H (.int (Builtin.Int.intBits a : Nat)) := fun H1 e Q q => ha H1 e _ fun H2 e2 => ⟨a, rfl, q H2 e2⟩
theorem ev_isN (ha : Ev ta σ H x) : Ev (tOp (fun x y H Q => y = .non ∧ Q (.bl (decide (x = .non))) H) ta (tC .non)) σ H (.bl (decide (x = .non))) := fun H1 e Q q => ha H1 e _ fun H2 e2 => ⟨rfl, q H2 e2⟩
theorem ev_notN (ha : Ev ta σ H x) : Ev (tOp (fun x y H Q => y = .non ∧ Q (.bl (!decide (x = .non))) H) ta (tC .non)) σ H (.bl (!decide (x = .non))) := fun H1 e Q q => ha H1 e _ fun H2 e2 => ⟨rfl, q H2 e2⟩
theorem ev_ixL {l : Addr} {xs : List V} {i : Int} (ha : Ev ta σ H (.ref l)) (hb : Ev tb σ H (.int i)) (hl : SqL K H l xs) (hi : atI xs i = some v) : Ev (tOp (rIxL K) ta tb) σ H v := ev_op ha hb (rv_ixL hl hi)
theorem ev_ixT {l : Addr} {xs : List V} {i : Int} (ha : Ev ta σ H (.ref l)) (hb : Ev tb σ H (.int i)) (hl : SqT K H l xs) (hi : atI xs i = some v) : Ev (tOp (rIxT K) ta tb) σ H v := ev_op ha hb (rv_ixT hl hi)
/-- a truth of a bool -/
theorem et_tru (h : Ev te σ H (.bl p)) : EvT (fun σ H Q => te σ H fun x H' => ∃ k, TruV K x H' k ∧ Q k H') σ H p := fun H1 e _ q => h H1 e _ fun H2 e2 => ⟨p, rfl, q H2 e2⟩
/-- a call of an own def of one argument, a value -/
theorem ev_call1 {sp : Sp} {E : XK} (h : Ev te σ H x) (hs : SpV sp [x] H z) : Ev (tCall sp [] E (tCons te tNil)) σ H z := ev_call (vs := [x]) (ea_cons h ea_nil) hs
end

/-! comprehensions over a text; lists as data -/
section
variable {K : PySem.W.Frag} {σ : L2.St} {H : Hp} {te tl : TE} {t : TT} {xs : List V} {ds : List PyData}
theorem el_lcS {z : Str} {j : Nat} {vs : List Nat} (f : Nat → Bool) (v : Nat → V) (h : Ev tl σ H (.str z)) (hz : z.cps.size ≤ 40000) (hw : ∀ x, wipe ((wipe σ vs).set j (some x)) vs = wipe σ vs)
    (ht : ∀ (i c : Nat) H1, Ex H H1 → z.cps[i]? = some c → EvT t ((wipe σ vs).set j (some (.str ⟨#[c]⟩))) H1 (f i)) (he : ∀ (i c : Nat) H1, Ex H H1 → z.cps[i]? = some c → f i = true → Ev te ((wipe σ vs).set j (some (.str ⟨#[c]⟩))) H1 (v i)) :
    EvL (tLc (iStr tl) (gName j) t te vs) σ H (given z.cps.size f v) := fun H0 e Q q => h H0 e _ fun H1 e1 => ⟨z, rfl, fun Dl hD => by
  refine lc_it walk_str (Cw H1 f v Dl) ⟨hD, Ex.new hD, upd_same⟩ (fun _ _ _ _ => trivial) ?_ (fun H' p => q Dl H' (fresh_back e1 p.1) (e1.trans p.2.1) p.2.2)
  rintro i _ H' _ hi p ⟨rfl, c, hc, rfl⟩
  exact ⟨hw _, cw_turn p (by omega) (ht i c H1 (e.trans e1) hc) (fun hf => he i c H1 (e.trans e1) hc hf)⟩⟩
theorem ed_ofL (h : EvL te σ H xs) (hd : ∀ H1, Ex H H1 → DpAll K H1 xs ds) : Ed K te σ H (.list ds) := fun H1 e Q q =>
  h H1 e _ fun p H2 _ e2 hp => q (.ref p) H2 e2 (.lst (sq_of hp) (hd H2 (e.trans e2)))
theorem dpa_map {α : Type} {f : α → V} {g : α → PyData} (h : ∀ x, Dp K H (f x) (g x)) : ∀ l : List α, DpAll K H (l.map f) (l.map g)
  | [] => .nil
  | x :: r => .cons (h x) (dpa_map h r)
end
theorem shaped_flat {ds : List PyData} (h : ∀ d ∈ ds, PyData.canLay0 d = true ∧ PyData.depth d = 0) : SeqAt.shaped (.list ds) = true := by
  have e : PyData.canLayAll0 ds = true ∧ PyData.depthAll ds = 0 := by
    induction ds with
    | nil => exact ⟨rfl, rfl⟩
    | cons x r ih =>
      obtain ⟨h1, h2⟩ := h x List.mem_cons_self
      obtain ⟨g1, g2⟩ := ih fun d hd => h d (List.mem_cons_of_mem _ hd)
      exact ⟨by simp only [PyData.canLayAll0, h1, g1]; rfl, by simp only [PyData.depthAll, h2, g2]; rfl⟩
  unfold SeqAt.shaped
  simp only [PyData.canLay0, PyData.depth, e.1, e.2]
  rfl
/-! the laws' loops -/
section
variable {K : PySem.W.Frag} {σ : L2.St} {H : Hp} {D : Ends} {body rest : TS} {a : Addr} {ns : List Int}
/-- at a turn of the outer loop: the script stands in slot 0, all that stood stands -/
def Out (a : Addr) (m : Nat) (H0 : Hp) (σ : L2.St) (H : Hp) : Prop := (∃ r, σ = some (.ref a) :: r ∧ r.length = m) ∧ Same H0 H
/-- for spot in range(max(1, min(k, len(script)))) -/
theorem spots {m : Nat} {k : Int} (hk : 0 ≤ k ∧ k ≤ 100) (hv : σ = some (.ref a) :: List.replicate m none) (hm : 0 < m) (hS : SqL K H a (ns.map V.int))
    (step : ∀ (s : Nat) (r : L2.St) (H1 : Hp), r.length + 1 = m → Same H H1 → body { D with nx := Out a m H, ct := Out a m H, bk := rest D } (some (.ref a) :: some (.int (s : Int)) :: r) H1)
    (done : ∀ (r : L2.St) (H1 : Hp), r.length = m → Same H H1 → rest D (some (.ref a) :: r) H1) :
    tSeq (tFor (iRng1 (tCons (tCB (fun xs H Q => ∃ i j, xs = [.int i, .int j] ∧ Q (.int (if j > i then j else i)) H) (tCons (tC (.int 1)) (tCons (tCB (fun xs H Q => ∃ i j, xs = [.int i, .int j] ∧ Q (.int (if j < i then j else i)) H) (tCons (tC (.int k))
      (tCons (tCB (fun xs H Q => ∃ p ys, xs = [.ref p] ∧ (SqL K H p ys ∨ SqT K H p ys) ∧ Q (.int ys.length) H) (tCons (tVar 0) tNil)) tNil))) tNil))) tNil)) (gName 1) body) rest D σ H := by
  subst hv
  have e0 : (some (V.ref a) :: List.replicate m none : L2.St)[0]? = some (some (.ref a)) := rfl
  refine ⟨.ref a, e0, a, _, rfl, .inl hS, k, _, rfl, 1, _, rfl, _, rfl, ?_, ?_, ?_⟩
  · split <;> split <;> omega
  · split <;> split <;> omega
  refine for_range (fun _ => Out a m H) ⟨⟨_, rfl, List.length_replicate⟩, Same.refl H⟩ ?_ ?_
  · rintro i σ' H' hi ⟨⟨r, rfl, hr⟩, hs⟩
    match r, hr with
    | x :: r, hr =>
      have z := step i r H' hr hs
      show body _ (some (.ref a) :: some (.int (0 + (i : Int))) :: r) H'
      rw [Int.zero_add]
      exact z
    | [], hr => exact absurd hr (by show ¬ 0 = m; omega)
  · rintro σ' H' ⟨⟨r, rfl, hr⟩, hs⟩
    exact done r H' hr hs
/-- at a turn of the inner loop: dice in slot 2 -/
def Inn (a d : Addr) (m : Nat) (H0 : Hp) (σ : L2.St) (H : Hp) : Prop := (∃ s r, σ = some (.ref a) :: s :: some (.ref d) :: r ∧ r.length = m) ∧ Same H0 H ∧ Dice H d
theorem turns {m : Nat} {n : Int} {d : Addr} {H0 : Hp} (hn : 0 ≤ n ∧ n ≤ 100) (hi : Inn a d (m + 1) H0 σ H)
    (step : ∀ (t s : Option V) (r : L2.St) (H1 : Hp), r.length = m → Same H0 H1 → Dice H1 d → body { D with nx := Inn a d (m + 1) H0, ct := Inn a d (m + 1) H0, bk := rest D } (some (.ref a) :: s :: some (.ref d) :: t :: r) H1)
    (done : ∀ (s : Option V) (r : L2.St) (H1 : Hp), r.length = m + 1 → Same H0 H1 → Dice H1 d → rest D (some (.ref a) :: s :: some (.ref d) :: r) H1) :
    tSeq (tFor (iRng1 (tCons (tC (.int n)) tNil)) (gName 3) body) rest D σ H := by
  refine ⟨n, rfl, by omega, by omega, ?_⟩
  refine for_range (fun _ => Inn a d (m + 1) H0) hi ?_ ?_
  · rintro i σ' H' _ ⟨⟨s, r, rfl, hr⟩, hs, hd⟩
    match r, hr with
    | x :: r, hr => exact step _ s r H' (Nat.succ.inj hr) hs hd
  · rintro σ' H' ⟨⟨s, r, rfl, hr⟩, hs, hd⟩
    exact done s r H' hr hs hd
end

/-! what comes of an expression, by a word that lasts -/
def Es (Pr : V → Hp → Prop) (te : TE) (σ : L2.St) (H : Hp) : Prop := ∀ H1, Ex H H1 → ∀ Q : VK, (∀ v H2, Ex H1 H2 → Pr v H2 → Q v H2) → te σ H1 Q
def EsA (Pr : V → Hp → Prop) (ta : TA) (σ : L2.St) (H : Hp) (n : Nat) : Prop := ∀ H1, Ex H H1 → ∀ Q : List V → Hp → Prop, (∀ vs H2, Ex H1 H2 → vs.length = n → (∀ v ∈ vs, Pr v H2) → Q vs H2) → ta σ H1 Q
/-- it lasts while the heap grows -/
def Lasts (Pr : V → Hp → Prop) : Prop := ∀ v H H', Ex H H' → Pr v H → Pr v H'
section
variable {K : PySem.W.Frag} {σ : L2.St} {H H' : Hp} {te ta : TE} {tr : TA} {Pr Pr' : V → Hp → Prop} {n : Nat} {v : V}
theorem es_ev (h : Ev te σ H v) (hp : ∀ H1, Ex H H1 → Pr v H1) : Es Pr te σ H := fun H1 e Q q => h H1 e Q fun H2 e2 => q v H2 e2 (hp H2 (e.trans e2))
theorem es_imp (h : Es Pr' te σ H) (hp : ∀ v H1, Pr' v H1 → Pr v H1) : Es Pr te σ H := fun H1 e Q q => h H1 e Q fun v H2 e2 p => q v H2 e2 (hp v H2 p)
theorem es_nil : EsA Pr tNil σ H 0 := fun H1 _ _ q => q [] H1 (Ex.refl H1) rfl fun _ z => nomatch z
theorem es_cons (L : Lasts Pr) (h : Es Pr te σ H) (hr : EsA Pr tr σ H n) : EsA Pr (tCons te tr) σ H (n + 1) := fun H1 e Q q =>
  h H1 e _ fun v H2 e2 hv => hr H2 (e.trans e2) _ fun vs H3 e3 hl ha => q (v :: vs) H3 (e2.trans e3) (congrArg (· + 1) hl) fun x hx => by
    rcases List.mem_cons.mp hx with rfl | hx
    · exact L _ _ _ e3 hv
    · exact ha x hx
/-- a new list of such -/
theorem es_lst (L : Lasts Pr) (h : EsA Pr tr σ H n) (hn : n ≤ 100000) : ∀ H1, Ex H H1 → ∀ Q : VK, (∀ p xs H2, H1 p = none → Ex H1 H2 → H2 p = some (.lst xs) → xs.length = n → (∀ x ∈ xs, Pr x H2) → Q (.ref p) H2) → tLst tr σ H1 Q := fun H1 e Q q =>
  h H1 e _ fun vs H2 e2 hl ha => ⟨sz_of (by omega), fun p hp => q p vs _ (fresh_back e2 hp) (e2.trans (Ex.new hp)) upd_same hl fun x hx => L _ _ _ (Ex.new hp) (ha x hx)⟩
/-- name = [..] -/
theorem sq_lst {D : Ends} {z : TS} {i : Nat} (L : Lasts Pr) (h : EsA Pr tr σ H n) (hn : n ≤ 100000) (k : ∀ p xs H2, H p = none → Ex H H2 → H2 p = some (.lst xs) → xs.length = n → (∀ x ∈ xs, Pr x H2) → z D (σ.set i (some (.ref p))) H2) :
    tSeq (tAsg (tLst tr) (gName i)) z D σ H := es_lst L h hn H (Ex.refl H) (fun x H1 => gName i x σ H1 (z D)) fun p xs H2 h1 h2 h3 h4 h5 => k p xs H2 h1 h2 h3 h4 h5
theorem es_newL {xs : List V} (h : EvL te σ H xs) (hp : ∀ p H1, H1 p = some (.lst xs) → Pr (.ref p) H1) : Es Pr te σ H := fun H1 e Q q => h H1 e Q fun p H2 _ e2 k => q (.ref p) H2 e2 (hp p H2 k)
theorem es_newU {xs : List V} (h : EvU te σ H xs) (hp : ∀ p H1, H1 p = some (.tup xs) → Pr (.ref p) H1) : Es Pr te σ H := fun H1 e Q q => h H1 e Q fun p H2 _ e2 k => q (.ref p) H2 e2 (hp p H2 k)
/-- a written dict of one pair of constants -/
theorem es_dict1 {k : Key} {v : V} (hp : ∀ p kvs H1, H1 p = some (.dK kvs) → Pr (.ref p) H1) : Es Pr (tDisp [(tC (kV k), tC v)]) σ H := fun H1 e Q q p hp0 => by
  refine ⟨upd_same, [(k, v)], rfl, (show 1 ≤ 15 by decide), ?_⟩
  refine q (.ref p) _ (fun b o z => ?_) (hp p _ _ upd_same)
  have n := ne_of_none z hp0
  rw [upd_ne n, upd_ne n]
  exact z
theorem tyM (e : Ex H H') {x : V} {t : Value} (h : TyX K H x t) : TyX K H' x t := by
  cases h with
  | base b =>
    refine .base ?_
    cases b with
    | non => exact .non
    | bl y => exact .bl y
    | int i => exact .int i
    | str y => exact .str y
    | flt y => exact .flt y
    | lst ea => exact .lst (e _ _ ea)
    | frz ea => exact .frz (e _ _ ea)
    | tup ea => exact .tup (e _ _ ea)
    | dK ea => exact .dK (e _ _ ea)
    | dT ea => exact .dT (e _ _ ea)
    | ins ea cl ha hn htk hm => exact .ins (e _ _ ea) cl ha hn htk hm
  | byt b => exact .byt b
  | set ea => exact .set (e _ _ ea)
  | kList a c => exact .kList a c
  | kTuple a c => exact .kTuple a c
  | kDict a c => exact .kDict a c
  | fTuple ea => exact .fTuple (e _ _ ea)
  | fDict ea => exact .fDict (e _ _ ea)
/-- only the dice have changed: each value has its type -/
theorem tyD {d : Addr} (h1 : Dice H d) (h2 : Dice H' d) (k : But d H H') {x : V} {t : Value} (h : TyX K H x t) : TyX K H' x t := by
  obtain ⟨a1, a2, a3, e1⟩ := h1
  obtain ⟨b1, b2, b3, e2⟩ := h2
  have go : ∀ (a : Addr) (o : HO), H a = some o → (∀ xs, o ≠ .lst xs) → H' a = some o := fun a o e n => by
    by_cases z : a = d
    · rw [z, e1] at e
      exact absurd (Option.some.inj e).symm (n _)
    · exact (k a z).trans e
  cases h with
  | base b =>
    refine .base ?_
    cases b with
    | non => exact .non
    | bl y => exact .bl y
    | int i => exact .int i
    | str y => exact .str y
    | flt y => exact .flt y
    | @lst a xs ea =>
      by_cases z : a = d
      · rw [z]; exact .lst e2
      · exact .lst ((k a z).trans ea)
    | frz ea => exact .frz (go _ _ ea fun _ z => nomatch z)
    | tup ea => exact .tup (go _ _ ea fun _ z => nomatch z)
    | dK ea => exact .dK (go _ _ ea fun _ z => nomatch z)
    | dT ea => exact .dT (go _ _ ea fun _ z => nomatch z)
    | ins ea cl ha hn htk hm => exact .ins (go _ _ ea fun _ z => nomatch z) cl ha hn htk hm
  | byt b => exact .byt b
  | set ea => exact .set (go _ _ ea fun _ z => nomatch z)
  | kList a c => exact .kList a c
  | kTuple a c => exact .kTuple a c
  | kDict a c => exact .kDict a c
  | fTuple ea => exact .fTuple (go _ _ ea fun _ z => nomatch z)
  | fDict ea => exact .fDict (go _ _ ea fun _ z => nomatch z)
end
end Ck

/-! integers of at most 200 figures -/
namespace Ck
open PySem PySem.Spec PyProof.Rows L2 Evl
def CPowW (i j : Int) : Prop := 0 ≤ j ∧ (Builtin.Int.intBits i : Int) * j ≤ 2 ^ 27
theorem op_powW {X : Cx} : OpR X (binaryOp .Pow) (rI CPowW fun i j => .int (i ^ j.toNat)) := opI fun _ _ _ _ _ _ _ hc q => pow_int hc.1 hc.2 q
theorem powW_ok {i j : Int} (h : (decide (0 ≤ j) && decide ((Builtin.Int.intBits i : Int) * j ≤ 2 ^ 27)) = true) : CPowW i j := by
  simp only [Bool.and_eq_true, decide_eq_true_eq] at h
  exact h
theorem mulW_ok {i j : Int} (h : decide (i.natAbs.log2 + j.natAbs.log2 < 1000000) = true) : CMulW i j := by unfold CMulW; exact of_decide_eq_true h
/-- an integer of at most 200 figures -/
def intB (i : Int) : Bool := decide (i.natAbs < 10 ^ 200)
theorem num_len (n k : Nat) (hk : 0 < k) : (Str.ofString (toString ((n : Nat) : Int))).length ≤ k ↔ n < 10 ^ k := by
  have h := congrArg List.length (TL.tl_num n)
  unfold TL.numL at h
  rw [List.length_map] at h
  rw [← Nat.length_toDigits_le_iff (b := 10) (n := n) (k := k) (by decide) hk, ← h]
  show (Str.ofString (toString (n : Int))).cps.size ≤ k ↔ (Str.ofString (toString (n : Int))).cps.toList.length ≤ k
  rw [Array.length_toList]
theorem abs_if (i : Int) : (if i < 0 then -i else i) = (i.natAbs : Int) := by
  split <;> omega
theorem short_eq (i : Int) : decide (((Str.ofString (toString (if i < 0 then -i else i))).length : Int) ≤ 200) = intB i := by
  rw [abs_if]
  unfold intB
  refine decide_eq_decide.mpr ?_
  rw [← num_len i.natAbs 200 (by decide)]
  omega
theorem bits_big {i : Int} (h : (800 : Int) < ((Builtin.Int.intBits i : Nat) : Int)) : intB i = false := by
  refine decide_eq_false fun z => ?_
  have z2 : i.natAbs < 2 ^ 800 := Nat.lt_trans z (by decide +kernel)
  unfold Builtin.Int.intBits at h
  split at h
  · omega
  · have := PySem.Flt.log2_lt_of (by decide : 0 < 800) z2
    omega
theorem bits_small {i : Int} (h : ¬ (800 : Int) < ((Builtin.Int.intBits i : Nat) : Int)) : i.natAbs.log2 < 1920 := by
  unfold Builtin.Int.intBits at h
  split at h
  · rename_i z
    have : i = 0 := by simpa using z
    rw [this]
    decide
  · omega
/-- a value that is no integer -/
inductive OddI (K : PySem.W.Frag) (H : Hp) (x : V) : Prop where
  | no (n : String) (h : TyX K H x (.type n)) (k : kitB n "int" = some false)
  | bl (b : Bool) (h : x = .bl b)
theorem OddI.lasts {K : PySem.W.Frag} : Lasts fun x H => OddI K H x := fun v H H' e h => by
  cases h with
  | no n h k => exact .no n (tyM e h) k
  | bl b h => exact .bl b h
theorem OddI.dice {K : PySem.W.Frag} {H H' : Hp} {d : Addr} (h1 : Dice H d) (h2 : Dice H' d) (k : But d H H') {x : V} (h : OddI K H x) : OddI K H' x := by
  cases h with
  | no n h z => exact .no n (tyD h1 h2 k h) z
  | bl b h => exact .bl b h
/-- x is an integer of which p holds, just if b -/
def NumV (K : PySem.W.Frag) (p : Int → Bool) (H : Hp) (x : V) (b : Bool) : Prop := (∃ i, x = .int i ∧ b = p i) ∨ (OddI K H x ∧ b = false)
def spNum (K : PySem.W.Frag) (p : Int → Bool) : Sp := fun vs H Q _ => ∃ x b, vs = [x] ∧ NumV K p H x b ∧ ∀ H', Ex H H' → Q (.bl b) H'
def cntB (i : Int) : Bool := intB i && decide (0 ≤ i)
def sizB (i : Int) : Bool := intB i && decide (1 ≤ i)
theorem num_i {K : PySem.W.Frag} {p : Int → Bool} {H : Hp} {i : Int} : SpV (spNum K p) [.int i] H (.bl (p i)) := fun H1 _ Q q E => ⟨.int i, _, rfl, .inl ⟨i, rfl, rfl⟩, q⟩
theorem num_o {K : PySem.W.Frag} {p : Int → Bool} {H : Hp} {x : V} (h : OddI K H x) : SpV (spNum K p) [x] H (.bl false) := fun H1 e Q q E => ⟨x, _, rfl, .inr ⟨OddI.lasts _ _ _ e h, rfl⟩, q⟩
end Ck

namespace Lk00
open PySem PySem.Spec PyProof.Rows L2 Ck
def topS (i : Nat) : Stmt := PySem.Challenge.pw_chainpacks_k00_integers_of_all_sizes.main.body.getD i (.Pass ⟨0, 0, 0, 0⟩)
abbrev s_is_integer : Stmt := topS 2
abbrev n_is_integer : List Str := ["value"]
theorem sc_is_integer : FnScope n_is_integer ["value"] (defScope s_is_integer) := ⟨rfl, rfl, rfl, by decide +kernel, rfl, by decide +kernel, by decide +kernel⟩
abbrev s_is_count : Stmt := topS 3
abbrev n_is_count : List Str := ["value"]
theorem sc_is_count : FnScope n_is_count ["value"] (defScope s_is_count) := ⟨rfl, rfl, rfl, by decide +kernel, rfl, by decide +kernel, by decide +kernel⟩
abbrev s_is_size : Stmt := topS 4
abbrev n_is_size : List Str := ["value"]
theorem sc_is_size : FnScope n_is_size ["value"] (defScope s_is_size) := ⟨rfl, rfl, rfl, by decide +kernel, rfl, by decide +kernel, by decide +kernel⟩
abbrev s__law_dice : Stmt := topS 6
abbrev n__law_dice : List Str := ["script", "spot", "cell", "left"]
theorem sc__law_dice : FnScope n__law_dice ["script", "spot"] (defScope s__law_dice) := ⟨rfl, rfl, rfl, by decide +kernel, rfl, by decide +kernel, by decide +kernel⟩
abbrev s__law_roll : Stmt := topS 7
abbrev n__law_roll : List Str := ["dice", "total", "found", "one", "two"]
theorem sc__law_roll : FnScope n__law_roll ["dice", "total"] (defScope s__law_roll) := ⟨rfl, rfl, rfl, by decide +kernel, rfl, by decide +kernel, by decide +kernel⟩
abbrev s__law_pick : Stmt := topS 8
abbrev n__law_pick : List Str := ["dice", "items"]
theorem sc__law_pick : FnScope n__law_pick ["dice", "items"] (defScope s__law_pick) := ⟨rfl, rfl, rfl, by decide +kernel, rfl, by decide +kernel, by decide +kernel⟩
abbrev s__law_limit : Stmt := topS 9
abbrev n__law_limit : List Str := []
theorem sc__law_limit : FnScope n__law_limit [] (defScope s__law_limit) := ⟨rfl, rfl, rfl, by decide +kernel, rfl, by decide +kernel, by decide +kernel⟩
abbrev s__law_drawn_number : Stmt := topS 10
abbrev n__law_drawn_number : List Str := ["dice", "near", "number"]
theorem sc__law_drawn_number : FnScope n__law_drawn_number ["dice"] (defScope s__law_drawn_number) := ⟨rfl, rfl, rfl, by decide +kernel, rfl, by decide +kernel, by decide +kernel⟩
abbrev s_law : Stmt := topS 11
abbrev n_law : List Str := ["script", "spot", "dice", "turn", "number", "is_short", "told", "odd"]
theorem sc_law : FnScope n_law ["script"] (defScope s_law) := ⟨rfl, rfl, rfl, by decide +kernel, rfl, by decide +kernel, by decide +kernel⟩
structure Bl (mg : Str → Option Value) : Prop where
  abs : mg "abs" = none
  bool : mg "bool" = none
  int : mg "int" = none
  isinstance : mg "isinstance" = none
  len : mg "len" = none
  max : mg "max" = none
  min : mg "min" = none
  range : mg "range" = none
  repr : mg "repr" = none
  str : mg "str" = none
structure Cs (mg : Str → Option Value) : Prop where
  one : True
  c_MAX_FIGURES : ∃ u, mg "MAX_FIGURES" = some u ∧ RelV (.int 200) u
def spLaw (K : PySem.W.Frag) : Sp := fun vs H Q _ => ∃ (a : Addr) (ns : List Int), vs = [.ref a] ∧ SqL K H a (ns.map V.int) ∧ ns.length ≤ 63 ∧ ∀ H', Q (.bl true) H'
def spLimit : Sp := fun vs H Q _ => vs = [] ∧ Q (.int (10 ^ 200)) H
/-- a drawn number -/
def spDrawn : Sp := fun vs H Q _ => ∃ d, vs = [.ref d] ∧ Dice H d ∧ ∀ (i : Int) H', i.natAbs < 10 ^ 231 → Dice H' d → Kp d H H' → Q (.int i) H'
section
variable {P : Program} {w : World} {K : PySem.W.Frag} {mg : Str → Option Value} {base : Heap}
theorem ok_roll (B : Bl mg) (D : Df K mg "_law_roll" s__law_roll ["dice", "total"]) : Cg P w K mg base CX0 1 "_law_roll" spRoll := by
  refine cg_of D sc__law_roll (fun vs H Q E h => ?_) (fun f cdv A fr s H vs Q E hr hgd h => ?_)
  · obtain ⟨d, t, rfl, _⟩ := h
    rfl
  · obtain ⟨d, t, rfl, ht, ht2, ⟨a, b, c, hd⟩, q⟩ := h
    refine ⟨_, (pss_cons (ps_if (pt_cmpR op_gt (pe_ix ix_list (pv 0) pe_int (fun _ _ => rfl)) pe_int (nomark _)) (pss_cons (ps_set (i := 2) sc__law_roll.nd rfl (by first | exact Or.inl rfl | exact Or.inr rfl) (pe_op op_mod (pe_callTy call_int1 (by rfl) B.int bt_int (pa_cons (pe_ix ix_list (pv 0) pe_int (fun _ _ => rfl)) pa_nil)) (pv 1)))
    (pss_cons (ps_asg (pe_op op_fdiv (pe_ix ix_list (pv 0) pe_int (fun _ _ => rfl)) (pv 1)) (pg_sub (pv 0) pe_int set_list))
     (pss_one (ps_ret (pv 2))))) pss_nil)
    (pss_cons (ps_asg (pe_op op_add (pe_ix ix_list (pv 0) pe_int (fun _ _ => rfl)) pe_int) (pg_sub (pv 0) pe_int set_list))
     (pss_cons (ps_set (i := 3) sc__law_roll.nd rfl (by first | exact Or.inl rfl | exact Or.inr rfl) (pe_op op_mod (pe_callTy call_int1 (by rfl) B.int bt_int (pa_cons (pe_op op_add (pe_ix ix_list (pv 0) pe_int (fun _ _ => rfl)) (pe_op op_mul pe_int (pe_ix ix_list (pv 0) pe_int (fun _ _ => rfl)))) pa_nil)) pe_int))
      (pss_cons (ps_set (i := 4) sc__law_roll.nd rfl (by first | exact Or.inl rfl | exact Or.inr rfl) (pe_op op_add (pe_op op_mul (pe_op op_mod (pe_callTy call_int1 (by rfl) B.int bt_int (pa_cons (pe_op op_add (pe_op op_mul (pv 3) (pv 3)) (pe_op op_mul pe_int (pe_ix ix_list (pv 0) pe_int (fun _ _ => rfl)))) pa_nil)) pe_int) pe_int) (pv 3)))
       (pss_one (ps_ret (pe_op op_mod (pe_callTy call_int1 (by rfl) B.int bt_int (pa_cons (pe_op op_fdiv (pv 4) pe_int) pa_nil)) (pv 1)))))))), ?_⟩
    refine ⟨.ref d, rfl, d, _, 0, _, rfl, rfl, SqL.of hd, atI_nat (j := 0) rfl, a, 0, rfl, rfl, _, rfl, ifd (fun e => ?_) (fun e => ?_)⟩
    · refine ⟨.ref d, rfl, d, _, 0, _, rfl, rfl, SqL.of hd, atI_nat (j := 0) rfl, .inl ⟨a, rfl, .int t, rfl, a, t, rfl, rfl, ht, ?_⟩⟩
      refine ⟨.ref d, rfl, d, _, 0, _, rfl, rfl, SqL.of hd, atI_nat (j := 0) rfl, .int t, rfl, a, t, rfl, rfl, ⟨ht, ht2⟩, ?_⟩
      refine ⟨.ref d, rfl, d, _, 0, 0, rfl, rfl, hd, rfl, ?_⟩
      exact ⟨_, rfl, q _ _ (Int.emod_nonneg _ (by omega)) (Int.emod_lt_of_pos _ ht) Dice.at But.put⟩
    · refine ⟨.ref d, rfl, d, _, 2, _, rfl, rfl, SqL.of hd, atI_nat (j := 2) rfl, c, 1, rfl, rfl, ?_⟩
      refine ⟨.ref d, rfl, d, _, 2, 2, rfl, rfl, hd, rfl, ?_⟩
      generalize hH1 : upd H d _ = H1
      have hd1 : H1 d = some (.lst [.int a, .int b, .int (c + 1)]) := by rw [← hH1]; exact upd_same
      have k1 : But d H H1 := fun b n => by rw [← hH1, upd_ne n]
      refine ⟨.ref d, rfl, d, _, 1, _, rfl, rfl, SqL.of hd1, atI_nat (j := 1) rfl, .ref d, rfl, d, _, 2, _, rfl, rfl, SqL.of hd1, atI_nat (j := 2) rfl, _, _, rfl, rfl, .inl (by decide), _, _, rfl, rfl, .inl ⟨_, rfl, ?_⟩⟩
      refine r_modC (by decide) fun one h0 h1 => ?_
      refine ⟨.int one, rfl, .int one, rfl, one, one, rfl, rfl, .inl (by omega), .ref d, rfl, d, _, 2, _, rfl, rfl, SqL.of hd1, atI_nat (j := 2) rfl, _, _, rfl, rfl, .inl (by decide), _, _, rfl, rfl, .inl ⟨_, rfl, ?_⟩⟩
      refine r_modC (by decide) fun x x0 x1 => ?_
      refine ⟨_, _, rfl, rfl, .inr (by decide), .int one, rfl, _, _, rfl, rfl, ?_⟩
      refine ⟨_, rfl, _, _, rfl, rfl, ⟨by decide, by decide⟩, .inl ⟨_, rfl, .int t, rfl, ?_⟩⟩
      exact r_mod ht fun r r0 r1 => q r H1 r0 r1 ⟨_, _, _, hd1⟩ k1
theorem ok_pick (B : Bl mg) (D : Df K mg "_law_pick" s__law_pick ["dice", "items"]) (C__law_roll : Cg P w K mg base CX0 1 "_law_roll" spRoll) : Cg P w K mg base CX0 2 "_law_pick" (spPick K) := by
  refine cg_of D sc__law_pick (fun vs H Q E h => ?_) (fun f cdv A fr s H vs Q E hr hgd h => ?_)
  · obtain ⟨d, p, xs, rfl, _⟩ := h
    rfl
  · obtain ⟨d, p, xs, rfl, hd, hp, ne, hx, hl, q⟩ := h
    refine ⟨_, (pss_one (ps_ret (pe_ix ix_list (pv 1) (pcg C__law_roll hr hgd (pa_cons (pv 0) (pa_cons (pe_callB call_len_seq (by rfl) B.len bt_len (pa_cons (pv 1) pa_nil)) pa_nil))) (fun _ _ => rfl)))), ?_⟩
    have h0 : 0 < xs.length := List.length_pos_iff.mpr hx
    refine ⟨.ref p, rfl, .ref d, rfl, .ref p, rfl, p, xs, rfl, .inl hp, d, _, rfl, by omega, by omega, hd, fun r H' r0 r1 hd' k => ?_⟩
    obtain ⟨x, hm, hx⟩ := at_in (xs := xs) r0 r1
    exact ⟨p, xs, r, x, rfl, rfl, k.sqL ne hp, hx, q x hm H' hd' k⟩
theorem ok_dice (B : Bl mg) (D : Df K mg "_law_dice" s__law_dice ["script", "spot"]) : Cg P w K mg base CX0 1 "_law_dice" (spDice K) := by
  refine cg_of D sc__law_dice (fun vs H Q E h => ?_) (fun f cdv A fr s H vs Q E hr hgd h => ?_)
  · obtain ⟨a, k, ns, rfl, _⟩ := h
    rfl
  · obtain ⟨a, k, ns, rfl, ha, q⟩ := h
    refine ⟨_, (pss_cons (ps_set (i := 2) sc__law_dice.nd rfl (by first | exact Or.inl rfl | exact Or.inr rfl) (pe_ifExp (pt_cmpR op_lt (pv 1) (pe_callB call_len_seq (by rfl) B.len bt_len (pa_cons (pv 0) pa_nil)) (nomark _)) (pe_callTy call_int1 (by rfl) B.int bt_int (pa_cons (pe_ix ix_list (pv 0) (pv 1) (fun _ _ => rfl)) pa_nil)) (pe_op op_add (pe_op op_mul pe_int (pv 1)) pe_int)))
    (pss_cons (ps_set (i := 3) sc__law_dice.nd rfl (by first | exact Or.inl rfl | exact Or.inr rfl) (pe_op op_mod (pe_callB (call_max2 rfl) (by rfl) B.max bt_max (pa_cons pe_int (pa_cons (pe_op op_sub (pe_callB call_abs (by rfl) B.abs bt_abs (pa_cons (pv 2) pa_nil)) (pe_op op_pow pe_int pe_int)) pa_nil))) (pe_op op_mulW (pe_op op_pow pe_int pe_int) (pe_op op_pow pe_int pe_int))))
     (pss_one (ps_ret (pe_lst (pa_cons (pv 3) (pa_cons (pe_op op_add (pe_op op_add (pe_op op_add (pe_op op_mul (pe_op op_mod (pe_callB call_abs (by rfl) B.abs bt_abs (pa_cons (pv 2) pa_nil)) pe_int) pe_int) (pe_op op_mul pe_int (pv 1))) (pe_op op_mul pe_int (pe_callTy call_int1 (by rfl) B.int bt_int (pa_cons (pe_cmpR op_lt (pv 2) pe_int (nomark _)) pa_nil)))) pe_int) (pa_cons pe_int pa_nil)))))))), ?_⟩
    refine ⟨.int (k : Int), rfl, .ref a, rfl, a, _, rfl, .inl ha, _, _, rfl, rfl, _, rfl, join IsI ?_ (fun e Q' q' => ?_) (fun e Q' q' => ?_)⟩
    · rintro _ ⟨cell, rfl⟩
      refine ⟨.int cell, rfl, cell, rfl, _, _, rfl, rfl, pow_ok (by decide +kernel), _, _, rfl, rfl, _, _, rfl, _, _, rfl, rfl, pow_ok (by decide +kernel), _, _, rfl, rfl, pow_ok (by decide +kernel), _, _, rfl, rfl, ten60, ?_⟩
      refine r_mod (by decide +kernel) fun left _ _ => ?_
      refine ⟨_, rfl, .int cell, rfl, cell, rfl, ?_⟩
      refine r_modC (by decide) fun x _ _ => ?_
      refine ⟨_, _, rfl, rfl, .inr (by decide), .int (k : Int), rfl, _, _, rfl, rfl, .inl (by decide), _, _, rfl, rfl, .int cell, rfl, _, _, rfl, rfl, .inr ⟨_, rfl, _, _, rfl, rfl, .inl (by decide), _, _, rfl, rfl, _, _, rfl, rfl, ?_⟩⟩
      exact ⟨(show 3 ≤ sizeLine by decide), fun p hp => q p hp _ Dice.at But.put⟩
    · obtain ⟨i, hi⟩ := at_int e
      exact ⟨.ref a, rfl, .int (k : Int), rfl, a, _, _, _, rfl, rfl, ha, hi, .inl ⟨i, rfl, q' _ ⟨i, rfl⟩⟩⟩
    · exact ⟨.int (k : Int), rfl, _, _, rfl, rfl, .inl (by decide), _, _, rfl, rfl, q' _ ⟨_, rfl⟩⟩

theorem ok_int (B : Bl mg) (T : Cs mg) (D : Df K mg "is_integer" s_is_integer ["value"]) : Cg P w K mg base CX0 1 "is_integer" (spNum K intB) := by
  refine cg_of D sc_is_integer (fun vs H Q E h => ?_) (fun f cdv A fr s H vs Q E hr hgd h => ?_)
  · obtain ⟨x, b, rfl, _⟩ := h
    rfl
  · obtain ⟨x, b, rfl, hx, q⟩ := h
    refine ⟨_, (pss_cons (ps_if (pw_or (pt_not (pt_val (pe_callB call_isi (by rfl) B.isinstance bt_isinstance (pa_cons (pv 0) (pa_cons (pe_bltn (v := V.ty "int") (by rfl) B.int bt_int rfl) pa_nil))))) (pw_or1 (pt_val (pe_callB call_isi (by rfl) B.isinstance bt_isinstance (pa_cons (pv 0) (pa_cons (pe_bltn (v := V.ty "bool") (by rfl) B.bool bt_bool rfl) pa_nil)))))).pt (pss_one (ps_ret pe_bl)) pss_nil)
    (pss_cons (ps_if (pt_cmpR op_gt (pe_bits (pv 0)) (pe_op op_mul pe_int (pe_gc2 (by rfl) T.c_MAX_FIGURES)) (nomark _)) (pss_one (ps_ret pe_bl)) pss_nil)
     (pss_one (ps_ret (pe_cmpR op_le (pe_callB call_len_str (by rfl) B.len bt_len (pa_cons (pe_callTy call_str_int (by rfl) B.str bt_str (pa_cons (pe_callB call_abs (by rfl) B.abs bt_abs (pa_cons (pv 0) pa_nil)) pa_nil)) pa_nil)) (pe_gc2 (by rfl) T.c_MAX_FIGURES) (nomark _)))))), ?_⟩
    rcases hx with ⟨i, rfl, rfl⟩ | ⟨ho, rfl⟩
    · refine Evl.q_when (b := false) (Evl.et_is (Evl.et_or (Evl.et_not (Evl.et_B (ev_isi (Evl.ev_var rfl) Evl.ev_c (.ty _) (fun _ _ => .base (.int i)) (kit_ty (r := true) (by decide +kernel)))))
        (fun _ => Evl.et_B (ev_isi (Evl.ev_var rfl) Evl.ev_c (.ty _) (fun _ _ => .base (.int i)) (kit_ty (r := false) (by decide +kernel))))) rfl) (fun z => nomatch z) (fun _ H1 e1 => ?_)
      refine Evl.q_when (Evl.et_test (ev_i0 (ev_bits (Evl.ev_var rfl)) (ev_i Evl.ev_c Evl.ev_c (.inl (by decide))))) (fun z H2 e2 => ?_) (fun z H2 e2 => ?_)
      · have z' := bits_big (of_decide_eq_true z)
        rw [z'] at q
        exact q H2 (e1.trans e2)
      · have z' := bits_small (of_decide_eq_false z)
        refine Evl.s_ret (Evl.ev_is (ev_i0 (ev_lenS (ev_strI (ev_abs (Evl.ev_var rfl)) ?_) ?_) Evl.ev_c) (congrArg V.bl (short_eq i))) (fun H3 e3 => q H3 ((e1.trans e2).trans e3))
        · rw [abs_if]
          exact z'
        · rw [abs_if]
          have lt : i.natAbs < 10 ^ 600 := Nat.lt_trans (Nat.lt_of_lt_of_le Nat.lt_log2_self (Nat.pow_le_pow_right (by decide) z')) (by decide +kernel)
          exact Nat.le_trans ((num_len i.natAbs 600 (by decide)).mpr lt) (by decide)
    · cases ho with
      | no n h k =>
        refine Evl.q_when (b := true) (Evl.et_is (Evl.et_or (b := true) (Evl.et_not (Evl.et_B (ev_isi (Evl.ev_var rfl) Evl.ev_c (.ty _) (fun _ e => tyM e h) (kit_ty k)))) (fun z => nomatch z)) rfl) (fun _ H1 e1 => ?_) (fun z => nomatch z)
        exact q H1 e1
      | bl b h =>
        subst h
        refine Evl.q_when (b := true) (Evl.et_is (Evl.et_or (Evl.et_not (Evl.et_B (ev_isi (Evl.ev_var rfl) Evl.ev_c (.ty _) (fun _ _ => .base (.bl b)) (kit_ty (r := true) (by decide +kernel)))))
          (fun _ => Evl.et_B (ev_isi (Evl.ev_var rfl) Evl.ev_c (.ty _) (fun _ _ => .base (.bl b)) (kit_ty (r := true) (by decide +kernel))))) rfl) (fun _ H1 e1 => ?_) (fun z => nomatch z)
        exact q H1 e1
theorem ok_count (B : Bl mg) (D : Df K mg "is_count" s_is_count ["value"]) (C_is_integer : Cg P w K mg base CX0 1 "is_integer" (spNum K intB)) : Cg P w K mg base CX0 2 "is_count" (spNum K cntB) := by
  refine cg_of D sc_is_count (fun vs H Q E h => ?_) (fun f cdv A fr s H vs Q E hr hgd h => ?_)
  · obtain ⟨x, b, rfl, _⟩ := h
    rfl
  · obtain ⟨x, b, rfl, hx, q⟩ := h
    refine ⟨_, (pss_one (ps_ret (pe_and (pcg C_is_integer hr hgd (pa_cons (pv 0) pa_nil)) (pe_one (pe_cmpR op_ge (pv 0) pe_int (nomark _)))))), ?_⟩
    rcases hx with ⟨i, rfl, rfl⟩ | ⟨ho, rfl⟩
    · exact Evl.s_ret (Evl.ev_andV (ev_call1 (Evl.ev_var rfl) num_i) (fun _ => ev_i0 (Evl.ev_var rfl) Evl.ev_c)) q
    · exact Evl.s_ret (Evl.ev_is (Evl.ev_andV (b := true) (ev_call1 (Evl.ev_var rfl) (num_o ho)) (fun z => nomatch z)) rfl) q
theorem ok_size (B : Bl mg) (D : Df K mg "is_size" s_is_size ["value"]) (C_is_integer : Cg P w K mg base CX0 1 "is_integer" (spNum K intB)) : Cg P w K mg base CX0 2 "is_size" (spNum K sizB) := by
  refine cg_of D sc_is_size (fun vs H Q E h => ?_) (fun f cdv A fr s H vs Q E hr hgd h => ?_)
  · obtain ⟨x, b, rfl, _⟩ := h
    rfl
  · obtain ⟨x, b, rfl, hx, q⟩ := h
    refine ⟨_, (pss_one (ps_ret (pe_and (pcg C_is_integer hr hgd (pa_cons (pv 0) pa_nil)) (pe_one (pe_cmpR op_ge (pv 0) pe_int (nomark _)))))), ?_⟩
    rcases hx with ⟨i, rfl, rfl⟩ | ⟨ho, rfl⟩
    · exact Evl.s_ret (Evl.ev_andV (ev_call1 (Evl.ev_var rfl) num_i) (fun _ => ev_i0 (Evl.ev_var rfl) Evl.ev_c)) q
    · exact Evl.s_ret (Evl.ev_is (Evl.ev_andV (b := true) (ev_call1 (Evl.ev_var rfl) (num_o ho)) (fun z => nomatch z)) rfl) q

theorem ok_limit (D : Df K mg "_law_limit" s__law_limit []) : Cg P w K mg base CX0 1 "_law_limit" spLimit := by
  refine cg_of D sc__law_limit (fun vs H Q E h => ?_) (fun f cdv A fr s H vs Q E hr hgd h => ?_)
  · obtain ⟨rfl, _⟩ := h
    rfl
  · obtain ⟨rfl, q⟩ := h
    refine ⟨_, (pss_one (ps_ret (pe_op op_powW (pe_op op_pow pe_int pe_int) pe_int))), ?_⟩
    refine ⟨_, _, rfl, rfl, pow_ok (by decide +kernel), _, _, rfl, rfl, powW_ok (by decide +kernel), ?_⟩
    have e : ((10 : Int) ^ (50 : Int).toNat) ^ (4 : Int).toNat = 10 ^ 200 := by decide +kernel
    show Q (.int (((10 : Int) ^ (50 : Int).toNat) ^ (4 : Int).toNat)) H
    rw [e]
    exact q
abbrev Near (v : V) (_ : Hp) : Prop := ∃ i : Int, v = .int i ∧ i.natAbs ≤ 10 ^ 230
theorem near_lasts : Lasts Near := fun _ _ _ _ h => h
theorem near {H : Hp} {i : Int} (h : decide (i.natAbs ≤ 10 ^ 230) = true) : Near (.int i) H := ⟨i, rfl, of_decide_eq_true h⟩
theorem lim_v {σ : L2.St} {H : Hp} : Evl.Ev (tCall spLimit [] E0 tNil) σ H (.int (10 ^ 200)) := fun H1 _ Q q => ⟨rfl, q H1 (Evl.Ex.refl H1)⟩
theorem ok_drawn (B : Bl mg) (D : Df K mg "_law_drawn_number" s__law_drawn_number ["dice"]) (C__law_roll : Cg P w K mg base CX0 1 "_law_roll" spRoll) (C__law_pick : Cg P w K mg base CX0 2 "_law_pick" (spPick K))
    (C__law_limit : Cg P w K mg base CX0 1 "_law_limit" spLimit) : Cg P w K mg base CX0 3 "_law_drawn_number" spDrawn := by
  refine cg_of D sc__law_drawn_number (fun vs H Q E h => ?_) (fun f cdv A fr s H vs Q E hr hgd h => ?_)
  · obtain ⟨d, rfl, _⟩ := h
    rfl
  · obtain ⟨d, rfl, hd, q⟩ := h
    refine ⟨_, (pss_cons (ps_set (i := 1) sc__law_drawn_number.nd rfl (by first | exact Or.inl rfl | exact Or.inr rfl) (pe_lst (pa_cons pe_int (pa_cons pe_int (pa_cons pe_int (pa_cons (pe_op op_pow pe_int pe_int) (pa_cons (pe_op op_fdiv (pcg0 C__law_limit hr hgd) pe_int) (pa_cons (pcg0 C__law_limit hr hgd) (pa_cons (pcg0 C__law_limit hr hgd) (pa_cons (pe_op op_mulW (pcg0 C__law_limit hr hgd) (pe_op op_pow pe_int pe_int)) pa_nil))))))))))
    (pss_cons (ps_set (i := 2) sc__law_drawn_number.nd rfl (by first | exact Or.inl rfl | exact Or.inr rfl) (pe_op op_sub (pe_op op_add (pcg C__law_pick hr hgd (pa_cons (pv 0) (pa_cons (pv 1) pa_nil))) (pcg C__law_roll hr hgd (pa_cons (pv 0) (pa_cons pe_int pa_nil)))) pe_int))
     (pss_one (ps_ret (pe_ifExp (pt_cmpR op_eq (pcg C__law_roll hr hgd (pa_cons (pv 0) (pa_cons pe_int pa_nil))) pe_int (nomark _)) (pe_op op_sub pe_int (pv 2)) (pv 2)))))), ?_⟩
    have p20 : CPow 10 20 := pow_ok (by decide +kernel)
    have p30 : CPow 10 30 := pow_ok (by decide +kernel)
    have l10 : CDiv (10 ^ 200) 10 := ⟨by decide, by decide⟩
    have m30 : CMulW (10 ^ 200) (10 ^ (30 : Int).toNat) := mulW_ok (by decide +kernel)
    refine sq_lst (Pr := Near) near_lasts (es_cons near_lasts (es_ev Evl.ev_c fun _ _ => near (i := 0) (by decide +kernel)) (es_cons near_lasts (es_ev Evl.ev_c fun _ _ => near (i := 1) (by decide +kernel)) (es_cons near_lasts (es_ev Evl.ev_c fun _ _ => near (i := 10) (by decide +kernel))
      (es_cons near_lasts (es_ev (ev_i (g := fun i j => .int (i ^ j.toNat)) Evl.ev_c Evl.ev_c p20) fun _ _ => near (i := 10 ^ (20 : Int).toNat) (by decide +kernel)) (es_cons near_lasts (es_ev (ev_i (g := fun i j => .int (i / j)) lim_v Evl.ev_c l10) fun _ _ => near (i := 10 ^ 200 / 10) (by decide +kernel))
      (es_cons near_lasts (es_ev lim_v fun _ _ => near (i := 10 ^ 200) (by decide +kernel)) (es_cons near_lasts (es_ev lim_v fun _ _ => near (i := 10 ^ 200) (by decide +kernel))
      (es_cons near_lasts (es_ev (ev_i (g := fun i j => .int (i * j)) lim_v (ev_i (g := fun i j => .int (i ^ j.toNat)) Evl.ev_c Evl.ev_c p30) m30) fun _ _ => near (i := 10 ^ 200 * 10 ^ (30 : Int).toNat) (by decide +kernel)) es_nil))))))))
      (by decide) ?_
    intro p xs H4 hp e4 hx hl ha
    have hd4 : Dice H4 d := by
      obtain ⟨x1, x2, x3, e⟩ := hd
      exact ⟨x1, x2, x3, e4 _ _ e⟩
    have ne : p ≠ d := hd.ne hp
    refine ⟨.ref d, rfl, .ref p, rfl, d, p, xs, rfl, hd4, SqL.of hx, ne, ?_, by omega, fun x hm H5 hd5 k5 => ?_⟩
    · intro z
      rw [z] at hl
      cases hl
    obtain ⟨i, rfl, hi⟩ := ha x hm
    refine ⟨.ref d, rfl, d, 5, rfl, by decide, by decide, hd5, fun r H6 r0 r1 hd6 k6 => ?_⟩
    refine ⟨i, r, rfl, rfl, _, _, rfl, rfl, ?_⟩
    have lt : (10 : Nat) ^ 230 + 7 < 10 ^ 231 := by decide +kernel
    have hn : ∀ A : Nat, i.natAbs ≤ A → (i + r - 2).natAbs ≤ A + 7 := by intro A hA; omega
    have hn := hn _ hi
    refine ⟨.ref d, rfl, d, 3, rfl, by decide, by decide, hd6, fun r' H7 r0' r1' hd7 k7 => ?_⟩
    have k4 : Kp d H H4 := fun b o _ e => e4 b o e
    have kk : Kp d H H7 := (k4.trans k5.kp).trans (k6.kp.trans k7.kp)
    refine ⟨rfl, _, rfl, ifd (fun _ => ?_) (fun _ => ?_)⟩
    · refine ⟨_, rfl, _, _, rfl, rfl, q _ H7 ?_ hd7 kk⟩
      rw [Int.zero_sub, Int.natAbs_neg]
      exact Nat.lt_of_le_of_lt hn lt
    · exact ⟨_, rfl, q _ H7 (Nat.lt_of_le_of_lt hn lt) hd7 kk⟩
theorem sh3 (a b c : Bool) : Sh (.list [.bool a, .bool b, .bool c]) := by
  cases a <;> cases b <;> cases c <;> exact ⟨by decide +kernel, by decide +kernel, by decide +kernel, by decide +kernel⟩
theorem ok_law {f : Addr} {fd : FuncData} (B : Bl mg) (T : Cs mg) (D0 : Df K mg "is_integer" s_is_integer ["value"]) (D1 : Df K mg "is_count" s_is_count ["value"]) (D2 : Df K mg "is_size" s_is_size ["value"]) (D3 : Df K mg "_law_dice" s__law_dice ["script", "spot"]) (D4 : Df K mg "_law_roll" s__law_roll ["dice", "total"])
    (D5 : Df K mg "_law_pick" s__law_pick ["dice", "items"]) (D6 : Df K mg "_law_limit" s__law_limit []) (D7 : Df K mg "_law_drawn_number" s__law_drawn_number ["dice"]) (F : Fun K "law" "law" s_law f fd) : FnG P w K mg base CX0 4 f fd ["script"] (spLaw K) := by
  have C_is_integer := ok_int (P := P) (w := w) (base := base) B T D0
  have C_is_count := ok_count (P := P) (w := w) (base := base) B D1 C_is_integer
  have C_is_size := ok_size (P := P) (w := w) (base := base) B D2 C_is_integer
  have C__law_dice := ok_dice (P := P) (w := w) (base := base) B D3
  have C__law_roll := ok_roll (P := P) (w := w) (base := base) B D4
  have C__law_pick := ok_pick (P := P) (w := w) (base := base) B D5 C__law_roll
  have C__law_limit := ok_limit (P := P) (w := w) (base := base) D6
  have C__law_drawn_number := ok_drawn (P := P) (w := w) (base := base) B D7 C__law_roll C__law_pick C__law_limit
  refine Fun.okG F sc_law (fun vs H Q E h => ?_) (fun cdv A fr s H vs Q E hr hgd h => ?_)
  · obtain ⟨a, ns, rfl, _⟩ := h
    rfl
  · obtain ⟨a, ns, rfl, hS, hlen, q⟩ := h
    refine ⟨_, PSs.nox (pss_cons (ps_for PassesOwn.never rfl (pi_range1 (by rfl) B.range (pa_cons (pe_callB (call_max2 rfl) (by rfl) B.max bt_max (pa_cons pe_int (pa_cons (pe_callB (call_min2 rfl) (by rfl) B.min bt_min (pa_cons pe_int (pa_cons (pe_callB call_len_seq (by rfl) B.len bt_len (pa_cons (pv 0) pa_nil)) pa_nil))) pa_nil))) pa_nil)) (pg_name (i := 1) sc_law.nd rfl (by first | exact Or.inl rfl | exact Or.inr rfl)) (pss_cons (ps_set (i := 2) sc_law.nd rfl (by first | exact Or.inl rfl | exact Or.inr rfl) (pcg C__law_dice hr hgd (pa_cons (pv 0) (pa_cons (pv 1) pa_nil))))
    (pss_cons (ps_for PassesOwn.never rfl (pi_range1 (by rfl) B.range (pa_cons pe_int pa_nil)) (pg_name (i := 3) sc_law.nd rfl (by first | exact Or.inl rfl | exact Or.inr rfl)) (pss_cons (ps_set (i := 4) sc_law.nd rfl (by first | exact Or.inl rfl | exact Or.inr rfl) (pcg C__law_drawn_number hr hgd (pa_cons (pv 2) pa_nil)))
    (pss_cons (ps_set (i := 5) sc_law.nd rfl (by first | exact Or.inl rfl | exact Or.inr rfl) (pe_cmpR op_le (pe_callB call_len_str (by rfl) B.len bt_len (pa_cons (pe_callTy call_str_int (by rfl) B.str bt_str (pa_cons (pe_callB call_abs (by rfl) B.abs bt_abs (pa_cons (pv 4) pa_nil)) pa_nil)) pa_nil)) pe_int (nomark _)))
     (pss_cons (ps_set (i := 6) sc_law.nd rfl (by first | exact Or.inl rfl | exact Or.inr rfl) (pe_lst (pa_cons (pcg C_is_integer hr hgd (pa_cons (pv 4) pa_nil)) (pa_cons (pcg C_is_count hr hgd (pa_cons (pv 4) pa_nil)) (pa_cons (pcg C_is_size hr hgd (pa_cons (pv 4) pa_nil)) pa_nil)))))
      (pss_one (ps_if (pt_cmpR op_ne (pe_callB (call_reprD hr hgd) (by rfl) B.repr bt_repr (pa_cons (pv 6) pa_nil)) (pe_callB (call_reprD hr hgd) (by rfl) B.repr bt_repr (pa_cons (pe_lst (pa_cons (pv 5) (pa_cons (pe_and (pv 5) (pe_one (pe_cmpR op_ge (pv 4) pe_int (nomark _)))) (pa_cons (pe_and (pv 5) (pe_one (pe_cmpR op_gt (pv 4) pe_int (nomark _)))) pa_nil)))) pa_nil)) (nomark _)) (pss_one (ps_ret pe_bl)) pss_nil))))))
     (pss_cons (ps_set (i := 7) sc_law.nd rfl (by first | exact Or.inl rfl | exact Or.inr rfl) (pcg C__law_pick hr hgd (pa_cons (pv 2) (pa_cons (pe_lst (pa_cons pe_non (pa_cons pe_bl (pa_cons pe_bl (pa_cons pe_str (pa_cons (pe_tup pa_nil) (pa_cons (pe_tup (pa_cons pe_int pa_nil)) (pa_cons (pe_lst (pa_cons pe_int pa_nil)) (pa_cons (pe_disp (pps_cons pe_int pe_int pps_nil) (by rfl) (by rfl) (fun z => by cases z) (by decide)) (pa_cons pe_str (pa_cons (pe_lst (pa_cons pe_str pa_nil)) (pa_cons (pe_disp (pps_cons pe_str pe_int pps_nil) (by rfl) (by rfl) (fun z => by cases z) (by decide)) (pa_cons pe_str pa_nil))))))))))))) pa_nil))))
      (pss_one (ps_if (pt_cmpR (op_neD hr.units) (pe_lst (pa_cons (pcg C_is_integer hr hgd (pa_cons (pv 7) pa_nil)) (pa_cons (pcg C_is_count hr hgd (pa_cons (pv 7) pa_nil)) (pa_cons (pcg C_is_size hr hgd (pa_cons (pv 7) pa_nil)) pa_nil)))) (pe_lst (pa_cons pe_bl (pa_cons pe_bl (pa_cons pe_bl pa_nil)))) (nomark _)) (pss_one (ps_ret pe_bl)) pss_nil))))))
    (pss_one (ps_ret (pe_cmpR (op_eqD hr.units) (pe_lst (pa_cons (pcg C_is_count hr hgd (pa_cons pe_int pa_nil)) (pa_cons (pcg C_is_size hr hgd (pa_cons pe_int pa_nil)) (pa_cons (pcg C_is_size hr hgd (pa_cons pe_int pa_nil)) (pa_cons (pe_gc2 (by rfl) T.c_MAX_FIGURES) pa_nil))))) (pe_lst (pa_cons pe_bl (pa_cons pe_bl (pa_cons pe_bl (pa_cons pe_int pa_nil))))) (nomark _))))), ?_⟩
    refine spots (K := K) (m := 7) (k := 5) (by decide) rfl (by decide) hS ?_ ?_
    · rintro sp r H1 hr1 hs
      match r, hr1 with
      | [v2, v3, v4, v5, v6, v7], _ =>
      refine ⟨.ref a, rfl, .int sp, rfl, a, sp, ns, rfl, hs.seq hS, fun d hd H2 hdice k => ?_⟩
      have hd0 : H d = none := hs.free hd
      have hs2 : Same H H2 := fun b o e => (k b (ne_of_none e hd0)).trans (hs b o e)
      refine turns (m := 4) (n := 6) (d := d) (H0 := H) (by decide) ⟨⟨_, _, rfl, rfl⟩, hs2, hdice⟩ ?_ ?_
      · rintro t s' r H3 hr3 hs3 hd3
        match r, hr3 with
        | [w4, w5, w6, w7], _ =>
        refine ⟨.ref d, rfl, d, rfl, hd3, fun i H4 hi hd4 k4 => ?_⟩
        have hs4 : Same H H4 := fun b o e => k4 b o (ne_of_none e hd0) (hs3 b o e)
        have hlog : (if i < 0 then -i else i).natAbs.log2 < 1920 := by
          rw [abs_if]
          exact Nat.lt_trans (PySem.Flt.log2_lt_of (show 0 < 900 by decide) (Nat.lt_trans hi (show 10 ^ 231 < 2 ^ 900 by decide +kernel))) (show 900 < 1920 by decide)
        have hlen : (Str.ofString (toString (if i < 0 then -i else i))).length ≤ sizeLine := by
          rw [abs_if]
          exact Nat.le_trans ((num_len i.natAbs 231 (by decide)).mpr hi) (by decide)
        refine Evl.q_asg (Evl.ev_is (ev_i0 (ev_lenS (ev_strI (ev_abs (Evl.ev_var rfl)) hlog) hlen) Evl.ev_c) (congrArg V.bl (short_eq i))) (fun H5 e5 => ?_)
        refine Evl.q_asgL (Evl.el_lst (Evl.ea_cons (ev_call1 (Evl.ev_var rfl) num_i) (Evl.ea_cons (ev_call1 (Evl.ev_var rfl) num_i) (Evl.ea_cons (ev_call1 (Evl.ev_var rfl) num_i) Evl.ea_nil))) (show 3 ≤ 100000 by decide)) (fun p H6 hp e6 h6 => ?_)
        refine Evl.s_when (b := false) (Evl.et_is (Evl.et_test (ev_ne (ev_repr (K := K) (d := .list [.bool (intB i), .bool (cntB i), .bool (sizB i)]) (ed_of (Evl.ev_var rfl) (.lst (SqL.of h6) (.cons (.bl _) (.cons (.bl _) (.cons (.bl _) .nil))))) (sh3 _ _ _))
          (ev_repr (K := K) (ed_lst (ed_cons (ed_bl (Evl.ev_var rfl)) (ed_cons (ed_bl (Evl.ev_andV (Evl.ev_var rfl) (fun _ => ev_i0 (Evl.ev_var rfl) Evl.ev_c))) (ed_cons (ed_bl (Evl.ev_andV (Evl.ev_var rfl) (fun _ => ev_i0 (Evl.ev_var rfl) Evl.ev_c))) ed_nil)))) (sh3 _ _ _)) rfl)) ?_) (fun z => nomatch z) (fun _ H7 e7 => ?_)
        · have e1 : cntB i = (intB i && decide (0 ≤ i)) := rfl
          have e2 : sizB i = (intB i && decide (0 < i)) := rfl
          rw [e1, e2, decide_eq_true rfl]
          rfl
        · obtain ⟨x1, x2, x3, e⟩ := hd4
          exact ⟨⟨_, _, rfl, rfl⟩, hs4.trans (e5.trans (e6.trans e7)), x1, x2, x3, e7 _ _ (e6 _ _ (e5 _ _ e))⟩
      · intro s' r H3 hr3 hs3 hd3
        match r, hr3 with
        | [w3, w4, w5, w6, w7], _ =>
        refine ⟨.ref d, rfl, ?_⟩
        have one : (1 : Nat) ≤ 100000 := by decide
        refine es_lst (Pr := fun x H => OddI K H x) OddI.lasts (es_cons OddI.lasts (es_ev Evl.ev_c fun _ _ => .no "NoneType" (.base .non) (by decide +kernel)) (es_cons OddI.lasts (es_ev Evl.ev_c fun _ _ => .bl _ rfl) (es_cons OddI.lasts (es_ev Evl.ev_c fun _ _ => .bl _ rfl)
          (es_cons OddI.lasts (es_ev Evl.ev_c fun _ _ => .no "str" (.base (.str _)) (by decide +kernel)) (es_cons OddI.lasts (es_newU (Evl.eu_tup Evl.ea_nil (by decide)) fun p H1 h => .no "tuple" (.base (.tup h)) (by decide +kernel))
          (es_cons OddI.lasts (es_newU (Evl.eu_tup (Evl.ea_cons Evl.ev_c Evl.ea_nil) one) fun p H1 h => .no "tuple" (.base (.tup h)) (by decide +kernel))
          (es_cons OddI.lasts (es_newL (Evl.el_lst (Evl.ea_cons Evl.ev_c Evl.ea_nil) one) fun p H1 h => .no "list" (.base (.lst h)) (by decide +kernel))
          (es_cons OddI.lasts (es_dict1 (k := .inl 7) fun p kvs H1 h => .no "dict" (.base (.dK h)) (by decide +kernel))
          (es_cons OddI.lasts (es_ev Evl.ev_c fun _ _ => .no "str" (.base (.str _)) (by decide +kernel))
          (es_cons OddI.lasts (es_newL (Evl.el_lst (Evl.ea_cons Evl.ev_c Evl.ea_nil) one) fun p H1 h => .no "list" (.base (.lst h)) (by decide +kernel))
          (es_cons OddI.lasts (es_dict1 (k := .inr (PySem.Str.ofString "a")) fun p kvs H1 h => .no "dict" (.base (.dK h)) (by decide +kernel))
          (es_cons OddI.lasts (es_ev Evl.ev_c fun _ _ => .no "str" (.base (.str _)) (by decide +kernel)) es_nil))))))))))))
          (by decide) H3 (Evl.Ex.refl H3) _ ?_
        intro p xs H4 hp e4 hx hl ha
        have hdd4 : Dice H4 d := by
          obtain ⟨x1, x2, x3, e⟩ := hd3
          exact ⟨x1, x2, x3, e4 _ _ e⟩
        have ne : p ≠ d := hd3.ne hp
        refine ⟨d, p, xs, rfl, hdd4, SqL.of hx, ne, ?_, by omega, fun x hm H5 hd5 k5 => ?_⟩
        · intro z
          rw [z] at hl
          cases hl
        have ho : OddI K H5 x := (ha x hm).dice hdd4 hd5 k5
        refine Evl.s_when (b := false) (Evl.et_is (Evl.et_test (ev_neD (K := K) (ed_lst (ed_cons (ed_bl (ev_call1 (Evl.ev_var rfl) (num_o ho))) (ed_cons (ed_bl (ev_call1 (Evl.ev_var rfl) (num_o ho))) (ed_cons (ed_bl (ev_call1 (Evl.ev_var rfl) (num_o ho))) ed_nil))))
          (ed_lst (ed_cons (ed_bl Evl.ev_c) (ed_cons (ed_bl Evl.ev_c) (ed_cons (ed_bl Evl.ev_c) ed_nil)))) (by decide +kernel) (by decide +kernel))) (by rfl)) (fun z => nomatch z) (fun _ H6 e6 => ?_)
        refine ⟨⟨_, rfl, rfl⟩, fun b o e => e6 b o ((k5 b ?_).trans (e4 b o (hs3 b o e)))⟩
        exact ne_of_none e hd0
    · rintro r H1 hr1 hs
      match r, hr1 with
      | [v1, v2, v3, v4, v5, v6, v7], _ =>
      refine Evl.s_ret (ev_eqD (K := K) (ed_lst (ed_cons (ed_bl (ev_call1 Evl.ev_c num_i)) (ed_cons (ed_bl (ev_call1 Evl.ev_c num_i)) (ed_cons (ed_bl (ev_call1 Evl.ev_c num_i)) (ed_cons (ed_int Evl.ev_c) ed_nil)))))
        (ed_lst (ed_cons (ed_bl Evl.ev_c) (ed_cons (ed_bl Evl.ev_c) (ed_cons (ed_bl Evl.ev_c) (ed_cons (ed_int Evl.ev_c) ed_nil))))) (by decide +kernel) (by decide +kernel)) (fun H2 e2 => ?_)
      have e : PyData.eqv (PyData.list [.bool (cntB 0), .bool (sizB 0), .bool (sizB 1), .int 200]) (.list [.bool true, .bool false, .bool true, .int 200]) = true := by decide +kernel
      rw [e]
      exact q H2
theorem start_law {H : Hp} {a : Addr} {ns : List Int} (hl : ns.length ≤ 63) (hS : SqL K H a (ns.map V.int)) : spLaw K [.ref a] H (fun v _ => v = .bl true) fun _ _ _ => False := ⟨a, ns, rfl, hS, hl, fun _ => rfl⟩
end
theorem all_mk {P : Program} {w : World} {K : PySem.W.Frag} {h : Heap} {mg : Str → Option Value} {fa f0 f1 f2 f3 f4 f5 f6 f7 f8 : Addr} (X : K.In h) (G : h.Ns mainGlobals mg) (hfa : mg "law" = some (.ref fa))
    {od0 an0 od1 an1 od2 an2 od3 an3 od4 an4 od5 an5 od6 an6 od7 an7 od8 an8 : Option Addr} {sl0 sl1 sl2 sl3 sl4 sl5 sl6 sl7 sl8 : Array (Option Value)} {oc0 kV0 dc0 pm0 cd0 ct0 oc1 kV1 dc1 pm1 cd1 ct1 oc2 kV2 dc2 pm2 cd2 ct2 oc3 kV3 dc3 pm3 cd3 ct3 oc4 kV4 dc4 pm4 cd4 ct4 oc5 kV5 dc5 pm5 cd5 ct5 oc6 kV6 dc6 pm6 cd6 ct6 oc7 kV7 dc7 pm7 cd7 ct7 oc8 kV8 dc8 pm8 cd8 ct8 : Value} {t_MAX_FIGURES : Tok}
    (a0 : PySem.W.nsIn K mainGlobals "is_integer" = some (some (.ref f0))) (l0 : K.lookup f0 = some ⟨oc0, od0, .func (PySem.W.fnOf "is_integer" "is_integer" (defArgs s_is_integer) (defBody s_is_integer) (defScope s_is_integer) .none kV0 dc0 pm0 an0 cd0 ct0), sl0⟩) (c0 : PySem.W.codeIn K cd0 "is_integer" = true) (k0 : PySem.W.keepIn K (.ref f0) = true)
    (a1 : PySem.W.nsIn K mainGlobals "is_count" = some (some (.ref f1))) (l1 : K.lookup f1 = some ⟨oc1, od1, .func (PySem.W.fnOf "is_count" "is_count" (defArgs s_is_count) (defBody s_is_count) (defScope s_is_count) .none kV1 dc1 pm1 an1 cd1 ct1), sl1⟩) (c1 : PySem.W.codeIn K cd1 "is_count" = true) (k1 : PySem.W.keepIn K (.ref f1) = true)
    (a2 : PySem.W.nsIn K mainGlobals "is_size" = some (some (.ref f2))) (l2 : K.lookup f2 = some ⟨oc2, od2, .func (PySem.W.fnOf "is_size" "is_size" (defArgs s_is_size) (defBody s_is_size) (defScope s_is_size) .none kV2 dc2 pm2 an2 cd2 ct2), sl2⟩) (c2 : PySem.W.codeIn K cd2 "is_size" = true) (k2 : PySem.W.keepIn K (.ref f2) = true)
    (a3 : PySem.W.nsIn K mainGlobals "_law_dice" = some (some (.ref f3))) (l3 : K.lookup f3 = some ⟨oc3, od3, .func (PySem.W.fnOf "_law_dice" "_law_dice" (defArgs s__law_dice) (defBody s__law_dice) (defScope s__law_dice) .none kV3 dc3 pm3 an3 cd3 ct3), sl3⟩) (c3 : PySem.W.codeIn K cd3 "_law_dice" = true) (k3 : PySem.W.keepIn K (.ref f3) = true)
    (a4 : PySem.W.nsIn K mainGlobals "_law_roll" = some (some (.ref f4))) (l4 : K.lookup f4 = some ⟨oc4, od4, .func (PySem.W.fnOf "_law_roll" "_law_roll" (defArgs s__law_roll) (defBody s__law_roll) (defScope s__law_roll) .none kV4 dc4 pm4 an4 cd4 ct4), sl4⟩) (c4 : PySem.W.codeIn K cd4 "_law_roll" = true) (k4 : PySem.W.keepIn K (.ref f4) = true)
    (a5 : PySem.W.nsIn K mainGlobals "_law_pick" = some (some (.ref f5))) (l5 : K.lookup f5 = some ⟨oc5, od5, .func (PySem.W.fnOf "_law_pick" "_law_pick" (defArgs s__law_pick) (defBody s__law_pick) (defScope s__law_pick) .none kV5 dc5 pm5 an5 cd5 ct5), sl5⟩) (c5 : PySem.W.codeIn K cd5 "_law_pick" = true) (k5 : PySem.W.keepIn K (.ref f5) = true)
    (a6 : PySem.W.nsIn K mainGlobals "_law_limit" = some (some (.ref f6))) (l6 : K.lookup f6 = some ⟨oc6, od6, .func (PySem.W.fnOf "_law_limit" "_law_limit" (defArgs s__law_limit) (defBody s__law_limit) (defScope s__law_limit) .none kV6 dc6 pm6 an6 cd6 ct6), sl6⟩) (c6 : PySem.W.codeIn K cd6 "_law_limit" = true) (k6 : PySem.W.keepIn K (.ref f6) = true)
    (a7 : PySem.W.nsIn K mainGlobals "_law_drawn_number" = some (some (.ref f7))) (l7 : K.lookup f7 = some ⟨oc7, od7, .func (PySem.W.fnOf "_law_drawn_number" "_law_drawn_number" (defArgs s__law_drawn_number) (defBody s__law_drawn_number) (defScope s__law_drawn_number) .none kV7 dc7 pm7 an7 cd7 ct7), sl7⟩) (c7 : PySem.W.codeIn K cd7 "_law_drawn_number" = true) (k7 : PySem.W.keepIn K (.ref f7) = true)
    (a8 : PySem.W.nsIn K mainGlobals "law" = some (some (.ref f8))) (l8 : K.lookup f8 = some ⟨oc8, od8, .func (PySem.W.fnOf "law" "law" (defArgs s_law) (defBody s_law) (defScope s_law) .none kV8 dc8 pm8 an8 cd8 ct8), sl8⟩) (c8 : PySem.W.codeIn K cd8 "law" = true) (k8 : PySem.W.keepIn K (.ref f8) = true)
    (z_abs : PySem.W.nsIn K mainGlobals "abs" = some none)
    (z_bool : PySem.W.nsIn K mainGlobals "bool" = some none)
    (z_int : PySem.W.nsIn K mainGlobals "int" = some none)
    (z_isinstance : PySem.W.nsIn K mainGlobals "isinstance" = some none)
    (z_len : PySem.W.nsIn K mainGlobals "len" = some none)
    (z_max : PySem.W.nsIn K mainGlobals "max" = some none)
    (z_min : PySem.W.nsIn K mainGlobals "min" = some none)
    (z_range : PySem.W.nsIn K mainGlobals "range" = some none)
    (z_repr : PySem.W.nsIn K mainGlobals "repr" = some none)
    (z_str : PySem.W.nsIn K mainGlobals "str" = some none)
    (q_MAX_FIGURES : PySem.W.nsIn K mainGlobals "MAX_FIGURES" = some (some (.int 200 t_MAX_FIGURES)))
    : ∃ fd : FuncData, (∀ (s : Shared) (v : Value), BindsTo s fd ⟨[v], []⟩ [("script", v)]) ∧ ∀ base : Heap, K.In base → base.Ns mainGlobals mg → FnG P w K mg base CX0 4 fa fd ["script"] (spLaw K) := by
  have e := hfa.symm.trans (PySem.W.mg_of X G a8)
  cases e
  have B : Bl mg := ⟨PySem.W.mg_none_of X G z_abs, PySem.W.mg_none_of X G z_bool, PySem.W.mg_none_of X G z_int, PySem.W.mg_none_of X G z_isinstance, PySem.W.mg_none_of X G z_len, PySem.W.mg_none_of X G z_max, PySem.W.mg_none_of X G z_min, PySem.W.mg_none_of X G z_range, PySem.W.mg_none_of X G z_repr, PySem.W.mg_none_of X G z_str⟩
  have T : Cs mg := ⟨trivial, ⟨_, PySem.W.mg_of X G q_MAX_FIGURES, ⟨_, rfl⟩⟩⟩
  have F0 := fun_mk (st := s_is_integer) l0 c0 k0
  have D0 : Df K mg "is_integer" s_is_integer ["value"] := ⟨f0, _, F0, PySem.W.mg_of X G a0, F0.binds (ps := ["value"]) fun _ _ _ _ _ _ us hl => match us, hl with | [_], _ => rfl⟩
  have F1 := fun_mk (st := s_is_count) l1 c1 k1
  have D1 : Df K mg "is_count" s_is_count ["value"] := ⟨f1, _, F1, PySem.W.mg_of X G a1, F1.binds (ps := ["value"]) fun _ _ _ _ _ _ us hl => match us, hl with | [_], _ => rfl⟩
  have F2 := fun_mk (st := s_is_size) l2 c2 k2
  have D2 : Df K mg "is_size" s_is_size ["value"] := ⟨f2, _, F2, PySem.W.mg_of X G a2, F2.binds (ps := ["value"]) fun _ _ _ _ _ _ us hl => match us, hl with | [_], _ => rfl⟩
  have F3 := fun_mk (st := s__law_dice) l3 c3 k3
  have D3 : Df K mg "_law_dice" s__law_dice ["script", "spot"] := ⟨f3, _, F3, PySem.W.mg_of X G a3, F3.binds (ps := ["script", "spot"]) fun _ _ _ _ _ _ us hl => match us, hl with | [_, _], _ => rfl⟩
  have F4 := fun_mk (st := s__law_roll) l4 c4 k4
  have D4 : Df K mg "_law_roll" s__law_roll ["dice", "total"] := ⟨f4, _, F4, PySem.W.mg_of X G a4, F4.binds (ps := ["dice", "total"]) fun _ _ _ _ _ _ us hl => match us, hl with | [_, _], _ => rfl⟩
  have F5 := fun_mk (st := s__law_pick) l5 c5 k5
  have D5 : Df K mg "_law_pick" s__law_pick ["dice", "items"] := ⟨f5, _, F5, PySem.W.mg_of X G a5, F5.binds (ps := ["dice", "items"]) fun _ _ _ _ _ _ us hl => match us, hl with | [_, _], _ => rfl⟩
  have F6 := fun_mk (st := s__law_limit) l6 c6 k6
  have D6 : Df K mg "_law_limit" s__law_limit [] := ⟨f6, _, F6, PySem.W.mg_of X G a6, F6.binds (ps := []) fun _ _ _ _ _ _ us hl => match us, hl with | [], _ => rfl⟩
  have F7 := fun_mk (st := s__law_drawn_number) l7 c7 k7
  have D7 : Df K mg "_law_drawn_number" s__law_drawn_number ["dice"] := ⟨f7, _, F7, PySem.W.mg_of X G a7, F7.binds (ps := ["dice"]) fun _ _ _ _ _ _ us hl => match us, hl with | [_], _ => rfl⟩
  exact ⟨PySem.W.fnOf "law" "law" (defArgs s_law) (defBody s_law) (defScope s_law) .none kV8 dc8 pm8 an8 cd8 ct8, fun s v => .of_eq rfl, fun base _ _ => ok_law B T D0 D1 D2 D3 D4 D5 D6 D7 (fun_mk (st := s_law) l8 c8 k8)⟩

end Lk00
open PySem PySem.W PyProof.Rows
set_option maxRecDepth 100000 in
set_option maxHeartbeats 0 in
theorem PySem.Challenge.cw_chainpacks_k00_integers_of_all_sizes_holds : PySem.Challenge.rw_chainpacks_k00_integers_of_all_sizes.Holds := by
  w_on; o_law; k_head; (case hw => w_witness2)
  k_fill
  refine Ck.walk_g (l := PySem.Challenge.rw_chainpacks_k00_integers_of_all_sizes) (n := 63) (k := 4) (x := "script") (sp := fun w => Lk00.spLaw _) rfl (by decide) rfl ⟨rfl, by decide, by decide⟩ (fun w h Y => PySem.W.kIn_of Y) ?F (fun w H a ns hl hO hS => Lk00.start_law hl hS)
  case F =>
    intro w mg fa h KX G hmg
    refine' Lk00.all_mk KX G hmg ?a0 ?l0 ?c0 ?k0 ?a1 ?l1 ?c1 ?k1 ?a2 ?l2 ?c2 ?k2 ?a3 ?l3 ?c3 ?k3 ?a4 ?l4 ?c4 ?k4 ?a5 ?l5 ?c5 ?k5 ?a6 ?l6 ?c6 ?k6 ?a7 ?l7 ?c7 ?k7 ?a8 ?l8 ?c8 ?k8 ?z_abs ?z_bool ?z_int ?z_isinstance ?z_len ?z_max ?z_min ?z_range ?z_repr ?z_str ?q_MAX_FIGURES
    (case a0 => k_is); (case l0 => k_is); (case c0 => k_is); (case k0 => k_is); (case a1 => k_is); (case l1 => k_is); (case c1 => k_is); (case k1 => k_is); (case a2 => k_is); (case l2 => k_is); (case c2 => k_is); (case k2 => k_is); (case a3 => k_is); (case l3 => k_is); (case c3 => k_is); (case k3 => k_is); (case a4 => k_is); (case l4 => k_is); (case c4 => k_is); (case k4 => k_is); (case a5 => k_is); (case l5 => k_is); (case c5 => k_is); (case k5 => k_is); (case a6 => k_is); (case l6 => k_is); (case c6 => k_is); (case k6 => k_is); (case a7 => k_is); (case l7 => k_is); (case c7 => k_is); (case k7 => k_is); (case a8 => k_is); (case l8 => k_is); (case c8 => k_is); (case k8 => k_is); (case z_abs => k_is); (case z_bool => k_is); (case z_int => k_is); (case z_isinstance => k_is); (case z_len => k_is); (case z_max => k_is); (case z_min => k_is); (case z_range => k_is); (case z_repr => k_is); (case z_str => k_is); (case q_MAX_FIGURES => k_is)
