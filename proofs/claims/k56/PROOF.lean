import PyProof.Rows.All
import Wide.All
import OpenK.AllK
import Wide.FinOn
import PyProof.EqAt
import PyProof.EqKinds
import PyProof.TupleCall
import PyProof.ReprRoads
import HandS.ForMost
import HandS.IsInst
import HandS.Wide
import HandS.WideBits
import HandS.TupAny
import HandS.TupLe
import HandS.Walk
import HandS.Codes
import HandS.Evl
import HandS.SetFor
import HandS.Strs
import HandS.Zip
import HandS.Style
import HandS.Conv
import KE.KRevSl
import PyProof.WalksMore
import HandS.ExcInit
import HandS.ExcOwn
import HandS.ExcField
import HandS.TryMany
import HandS.ExcCtx
import KE.KExcInit
import HandS.SortKw
import HandS.TupSets
import HandS.Small
import HandS.Iter
import PyProof.Rows.SumGenD
import KE.KExcIs
import HandS.ExcIs
import HandS.ExcValue
import HandS.HotCalls
import HandS.Star
import HandS.Property
import KE.GoesEnum
import HandS.TupMul
import HandS.NoneIn
import KE.KDictPairs
import HandS.Defaults
import HandS.ListItems
import HandS.SortInts
import HandS.DictComp
import HandS.More
import HandS.OwnEq
import PyProof.DictUpdate
import PyProof.NeKinds
import KE.KEqDict
import KE.KDictZip
import PyProof.ListNew
import HandS.DictTup
import HandS.TryOnly
import KE.DatumOrd
import KE.KOpsOwn
import KE.GoesMore
import KE.KIndexOf
import HandS.SortRule
import KE.KTupSum
import KE.KDictList
import HandS.DeepEq
import KE.KEqNest
import PyProof.DictWalks
import PyProof.WalkInts
import PyProof.MinMaxWalk
import HandS.OwnIter
import KE.KDictIter
import KE.KCallOwn
import HandS.FStr
import HandS.WordsExc
import PyProof.StrLawsRepr
import HandS.ListEq
import PySem.Challenge.RW_chainpacks_k56_whole_great_lots_left_out
set_option Elab.async false
set_option linter.all false
set_option maxRecDepth 100000
set_option maxHeartbeats 4000000
namespace Ck
open PySem PySem.Spec PyProof.Rows L2
theorem bt_abs : bootBuiltins "abs" = some (.builtin "abs") := by decide +kernel
theorem bt_all : bootBuiltins "all" = some (.builtin "all") := by decide +kernel
theorem bt_any : bootBuiltins "any" = some (.builtin "any") := by decide +kernel
theorem bt_bool : bootBuiltins "bool" = some (.type "bool") := by decide +kernel
theorem bt_int : bootBuiltins "int" = some (.type "int") := by decide +kernel
theorem bt_str : bootBuiltins "str" = some (.type "str") := by decide +kernel
theorem bt_list : bootBuiltins "list" = some (.type "list") := by decide +kernel
theorem bt_tuple : bootBuiltins "tuple" = some (.type "tuple") := by decide +kernel
theorem bt_set : bootBuiltins "set" = some (.type "set") := by decide +kernel
theorem bt_isinstance : bootBuiltins "isinstance" = some (.builtin "isinstance") := by decide +kernel
theorem bt_len : bootBuiltins "len" = some (.builtin "len") := by decide +kernel
theorem bt_max : bootBuiltins "max" = some (.builtin "max") := by decide +kernel
theorem bt_min : bootBuiltins "min" = some (.builtin "min") := by decide +kernel
theorem bt_sum : bootBuiltins "sum" = some (.builtin "sum") := by decide +kernel
theorem bt_sorted : bootBuiltins "sorted" = some (.builtin "sorted") := by decide +kernel
def Df (K : PySem.W.Frag) (mg : Str → Option Value) (x : Str) (st : Stmt) (ps : List Str) : Prop :=
  ∃ f fd, Fun K x x st f fd ∧ mg x = some (.ref f) ∧ Binds K fd ps []
def Cl (P : Program) (w : World) (K : PySem.W.Frag) (mg : Str → Option Value) (base : Heap) (k : Nat) (x : Str) (sp : Sp) : Prop :=
  ∃ f fd ps, FnOk P w K mg base CX0 k f fd ps sp ∧ mg x = some (.ref f) ∧ PySem.W.keepIn K (.ref f) = true ∧ Binds K fd ps []
section
variable {P : Program} {w : World} {K : PySem.W.Frag} {mg : Str → Option Value} {base : Heap}
theorem cl_of {x : Str} {st : Stmt} {N ps : List Str} {k : Nat} {sp : Sp} (D : Df K mg x st ps) (S : FnScope N ps (defScope st)) (len : ∀ vs H Q E, sp vs H Q E → vs.length = ps.length)
    (hbody : ∀ (f : Addr) (cdv : Value) (A : Around) (outer : List Env) (s : Shared) (H : Hp) (vs : List V) (Q : VK) (E : XK), Room k (A.deeper (envOfC x (defScope st) s.heap.objs.size f cdv)) → sp vs H Q E →
      ∃ t, PSs (cxOf CX0 P w K mg base N x (defScope st) f cdv A outer s H E).nox (defBody st) t ∧ t { nx := fun _ H' => Q .non H', rt := Q } (start N vs) H) : Cl P w K mg base (k + 1) x sp := by
  obtain ⟨f, fd, F, g, b⟩ := D
  exact ⟨f, fd, ps, F.ok S len (hbody f), g, F.kp, b⟩
end
section
variable {X : Cx} {k j : Nat} {x : Str} {sp : Sp} {p pos : Pos} {e : Expr} {es : List Expr} {t : TA}
theorem pcal (c : Cl X.prog X.w X.K X.mg X.base k x sp) (hr : Room j X.A) (ha : PA X (e :: es) t) (hk : k ≤ j := by decide) (hg : Gl X x := by rfl)
    (hdb : (x == ("__debug__" : Str)) = false := by decide) (he : starEach (e :: es) X.env = (false, eval e X.env) :: starEach es X.env := by rfl) (hpl : (backTo pos (starEach es X.env)).any (·.1) = false := by rfl) :
    PE X (.Call (.Name x p) (e :: es) [] pos) (tCall sp [] E0 t) := by
  obtain ⟨f, fd, ps, F, hm, kp, b⟩ := c
  exact pe_call F (hr.mono hk) hg hm kp b .nil pass0 ha hdb he hpl
theorem pe_gc2 {v : V} (hg : Gl X x) (h : ∃ u, X.mg x = some u ∧ RelV v u) (hd : (x == ("__debug__" : Str)) = false := by decide) : PE X (.Name x pos) (tC v) := by
  obtain ⟨u, h1, h2⟩ := h
  exact pe_glob hg h1 h2 hd
end

end Ck

namespace Ck
open PySem PySem.Spec PyProof.Rows L2
structure FnG (P : Program) (w : World) (K : PySem.W.Frag) (mg : Str → Option Value) (base : Heap) (C : CXT) (k : Nat)
    (f : Addr) (fd : FuncData) (ps : List Str) (sp : Sp) : Prop where
  len : ∀ vs H Q E, sp vs H Q E → vs.length = ps.length
  run : ∀ (A : Around) (fr : List Env) (s : Shared) (H : Hp) (args : Args) (us : List Value) (vs : List V) (Q : VK) (E : XK),
    Room k A → A.guards = some [] → Env0 P w K mg base A fr s H → BindsTo s fd args (ps.zip us) → Vals vs us →
    sp vs H Q E → codeAny (model P w) A (.call (.ref f) args) (CR C fr P w H s Q E) s
section
variable {P : Program} {w : World} {K : PySem.W.Frag} {mg : Str → Option Value} {base : Heap} {C : CXT} {k : Nat}
  {f : Addr} {fd : FuncData} {ps : List Str} {sp : Sp}
theorem FnG.of (F : FnOk P w K mg base C k f fd ps sp) : FnG P w K mg base C k f fd ps sp :=
  ⟨F.len, fun A fr s H args us vs Q E r _ e b v h => F.run A fr s H args us vs Q E r e b v h⟩
theorem Fun.okG {x qual : Str} {st : Stmt} {N : List Str} (F : Fun K x qual st f fd) (S : FnScope N ps (defScope st))
    (len : ∀ vs H Q E, sp vs H Q E → vs.length = ps.length)
    (hbody : ∀ (cdv : Value) (A : Around) (fr : List Env) (s : Shared) (H : Hp) (vs : List V) (Q : VK) (E : XK),
      Room k (A.deeper (envOfC qual (defScope st) s.heap.objs.size f cdv)) → A.guards = some [] → sp vs H Q E →
      ∃ t, PSs (cxOf C P w K mg base N qual (defScope st) f cdv A fr s H E) (defBody st) t ∧
        t { nx := fun _ H' => Q .non H', rt := Q } (start N vs) H) : FnG P w K mg base C (k + 1) f fd ps sp := by
  obtain ⟨oc, od, kV, doc, pm, an, cdv, ct, osl, rfl, lk, hcd⟩ := F.ex
  constructor
  case len => exact len
  case run =>
    intro A fr s H args us vs Q E r g e b rv h
    have KX : K.In s.heap := e.mod.kin.keeps (fun c o q => (e.bs c o q).1)
    have lim : s.heap.NoLimit := e.mod.nolimit.keeps (fun c o q => (e.bs c o q).1)
    have hl := len vs H Q E h
    have knd : ∀ y ∈ ps.zip us, (defScope st).names.lookup y.1 = some .local ∨
        ((defScope st).names.lookup y.1 = some .cell ∧ ((cellsFrom (s.heap.objs.size + 1) (defScope st).names []).lookup y.1).isSome = true) := by
      intro y hy
      have hp := (List.of_mem_zip (a := y.1) (b := y.2) hy).1
      cases S.par y.1 hp with
      | inl q => exact Or.inl q
      | inr q => exact Or.inr ⟨q, PySem.W.cellsFrom_some _ _ _ (Or.inl q)⟩
    refine codeAny_call_function r.depth (KX f _ lk) rfl S.co S.gen rfl
      (PySem.W.codeRec_of KX hcd) (b _ _ _ _ (wpAny_newFunctionEnv_cells S.kind knd (fun env he s1 x => ?_)))
    cases he
    refine ⟨lim.keeps x.toInCall.keep, codeAny_func ?_⟩
    obtain ⟨t, ht, hq⟩ := hbody cdv A fr s H vs Q E (r.deeper _) g h
    have I := inv_start (CX := C) (E := E) S r.hd e hl rv x
    refine wpAny_mono (ht.run [] s1 (start N vs) H _ I hq) ?_ (fun _ _ z => z)
    intro fl s' hs
    cases fl with
    | brk => obtain ⟨_, _, _, z⟩ := hs; exact z.elim
    | cont => obtain ⟨_, _, _, z⟩ := hs; exact z.elim
    | ret u =>
      obtain ⟨v, σ', H', J, rr, z⟩ := hs
      exact ⟨v, H', J.os, J.bare, J.base, J.hok, rr, z⟩
    | next =>
      obtain ⟨σ', H', J, z⟩ := hs
      exact ⟨V.non, H', J.os, J.bare, J.base, J.hok, rfl, z⟩
end

def Cg (P : Program) (w : World) (K : PySem.W.Frag) (mg : Str → Option Value) (base : Heap) (C : CXT) (k : Nat) (x : Str) (sp : Sp) : Prop :=
  ∃ f fd ps, FnG P w K mg base C k f fd ps sp ∧ mg x = some (.ref f) ∧ PySem.W.keepIn K (.ref f) = true ∧ Binds K fd ps []
section
variable {P : Program} {w : World} {K : PySem.W.Frag} {mg : Str → Option Value} {base : Heap}
theorem cg_of {x : Str} {st : Stmt} {N ps : List Str} {k : Nat} {sp : Sp} (D : Df K mg x st ps) (S : FnScope N ps (defScope st))
    (len : ∀ vs H Q E, sp vs H Q E → vs.length = ps.length)
    (hbody : ∀ (f : Addr) (cdv : Value) (A : Around) (fr : List Env) (s : Shared) (H : Hp) (vs : List V) (Q : VK) (E : XK),
      Room k (A.deeper (envOfC x (defScope st) s.heap.objs.size f cdv)) → A.guards = some [] → sp vs H Q E →
      ∃ t, PSs (cxOf CX0 P w K mg base N x (defScope st) f cdv A fr s H E).nox (defBody st) t ∧
        t { nx := fun _ H' => Q .non H', rt := Q } (start N vs) H) : Cg P w K mg base CX0 (k + 1) x sp := by
  obtain ⟨f, fd, F, g, b⟩ := D
  refine ⟨f, fd, ps, Fun.okG F S len fun cdv A fr s H vs Q E r gd h => ?_, g, F.kp, b⟩
  obtain ⟨t, h1, h2⟩ := hbody f cdv A fr s H vs Q E r gd h
  exact ⟨t, h1.nox, h2⟩
end
section
variable {X : Cx} {C : CXT} {k j : Nat} {x : Str} {f : Addr} {fd : FuncData} {ps : List Str} {sp : Sp} {E : XK} {p pos : Pos} {e : Expr} {es : List Expr} {t : TA}
theorem run_fng {pins : List (Addr × Obj)} {σ : L2.St} {H : Hp} {s : Shared} {Q : VK} {us : List Value} {vs : List V}
    (F : FnG X.prog X.w X.K X.mg X.base C k f fd ps sp) (hr : Room k X.A) (hg : X.A.guards = some []) (hb : Binds X.K fd ps []) (hx : Passes C X E)
    (I : Inv X pins σ H s) (r : Vals vs us) (h : sp vs H Q E) :
    wpAny (model X.prog X.w) X.A (call (.ref f) us) (EP X pins σ Q) X.xe s := by
  have hl : us.length = ps.length := r.length.symm.trans (F.len vs H Q E h)
  have bd : BindsTo s fd ⟨us, []⟩ (ps.zip us) := by
    have z := hb s us I.kIn (by rw [List.append_nil]; exact hl)
    rw [List.append_nil] at z
    exact z
  refine wpAny_call (codeAny_mono (F.run X.A X.stack s H ⟨us, []⟩ us vs Q E hr hg I.env0 bd r h) ?_)
  intro res s' hq
  match res, hq with
  | .ok (.ret u), hq => exact I.after hq
  | .ok .next, hq => exact hq.elim
  | .ok .brk, hq => exact hq.elim
  | .ok .cont, hq => exact hq.elim
  | .error e, hq => exact hx pins σ H s e s' I hq
theorem pcg (c : Cg X.prog X.w X.K X.mg X.base CX0 k x sp) (hr : Room j X.A) (hgd : X.A.guards = some []) (ha : PA X (e :: es) t) (hk : k ≤ j := by decide) (hg : Gl X x := by rfl)
    (hdb : (x == ("__debug__" : Str)) = false := by decide) (he : starEach (e :: es) X.env = (false, eval e X.env) :: starEach es X.env := by rfl) (hpl : (backTo pos (starEach es X.env)).any (·.1) = false := by rfl) :
    PE X (.Call (.Name x p) (e :: es) [] pos) (tCall sp [] E0 t) := by
  obtain ⟨f, fd, ps, F, hm, kp, b⟩ := c
  constructor
  intro pins s σ H Q I h
  refine wpAny_Call_Name_kw (ld_glob I hg hm ?_ hdb)
  refine PySem.W.callWith_K (h₀ := X.base) I.ok.mod.kin kp (thn (ha.run pos pins s σ H _ I h) ?_) he hpl
  rintro us s1 ⟨vs, H1, I1, r, q⟩
  refine ⟨I1.kIn, run_fng F (hr.mono hk) hgd b pass0 I1 r ?_⟩
  have z : sp (vs ++ []) H1 Q E0 := q
  rw [List.append_nil] at z
  exact z
end
end Ck

namespace Ck
open PySem PySem.Spec PyProof.Rows L2
abbrev Fine (s₁ : Shared) (r : Result) (s' : Shared) : Prop := r = .ok (.ret (.bool true)) ∧ OldK s₁.heap s'.heap ∧ s'.os = s₁.os ∧ AllBare s'.gens
section
variable {P : Program} {w : World} {K : PySem.W.Frag} {mg mb : Str → Option Value} {k : Nat} {fa a : Addr} {fd : FuncData} {x : Str} {sp : Sp} {s₁ : Shared} {vs : List Value} {ns : List Int}
theorem law_run (KX : K.In s₁.heap) (hns : s₁.heap.Ns mainGlobals mg) (hb : s₁.heap.Ns builtinsNs mb) (hbb : ∀ x : Str, x ≠ "__name__" → mb x = bootBuiltins x)
    (hlim : s₁.heap.NoLimit) (hg : s₁.gens = #[]) (ha : s₁.heap.get? a = some { cls := .type "list", data := .seq vs.toArray }) (hr : Room k callerA)
    (F : ∀ base : Heap, K.In base → base.Ns mainGlobals mg → FnG P w K mg base CX0 k fa fd [x] sp) (hbind : ∀ (s : Shared) (u : Value), BindsTo s fd ⟨[u], []⟩ [(x, u)])
    (hsp : ∀ H : Hp, Only H → SqL K H a (ns.map V.int) → sp [.ref a] H (fun v _ => v = .bl true) fun _ _ _ => False)
    (H : Hp) (hO : Only H) (hS : SqL K H a (ns.map V.int)) (hok : HOk P w H s₁.heap) (only : ∀ b u, H b = some u → b = a) (off : ∀ u, H a = some u → K.lookup a = none) :
    codeAny (model P w) callerA (.call (.ref fa) ⟨[.ref a], []⟩) (Fine s₁) s₁ := by
  -- a dict is not the script: it stays in the base
  have dictOff : ∀ (b : Addr) (o : Obj) (es : Array DictEntry) (ep : Nat), s₁.heap.get? b = some o → o.data = .dict es ep → H b = none := by
    intro b o es ep e d
    match q : H b with
    | none => rfl
    | some u =>
      rw [only b u q, ha] at e
      obtain rfl := Option.some.inj e
      cases d
  have nsOff : ∀ (b : Addr) (m : Str → Option Value), s₁.heap.Ns b m → (hidT s₁.heap H).Ns b m := by
    rintro b m ⟨o, es, ep, e, d, r⟩
    exact ⟨o, es, ep, hidT_get e (dictOff b o es ep e d), d, r⟩
  have inB : K.In (hidT s₁.heap H) := by
    intro b o e
    refine hidT_get (KX b o e) ?_
    match q : H b with
    | none => rfl
    | some u =>
      have z := only b u q
      rw [z] at q e
      rw [off u q] at e
      cases e
  have M : Mod K mg (hidT s₁.heap H) := by
    obtain ⟨mc, h1, h2⟩ := hlim
    exact ⟨inB, nsOff _ _ hns, ⟨mb, nsOff _ _ hb, hbb⟩, ⟨mc, nsOff _ _ h1, h2⟩⟩
  have no : ∀ (b : Addr), b ∉ frs [] := fun b z => by cases z
  have E0' : Env0 P w K mg (hidT s₁.heap H) callerA [] s₁ H :=
    ⟨rfl, M, fun b o e => of_hidT e, Nat.le_of_eq (hidT_size s₁.heap H), trivial, fun b z => (no b z).elim, hok, .of_eq hg⟩
  have run := (F (hidT s₁.heap H) inB (nsOff _ _ hns)).run callerA [] s₁ H ⟨[.ref a], []⟩ [.ref a] [.ref a] (fun v _ => v = .bl true) (fun _ _ _ => False) hr rfl E0' (hbind s₁ (.ref a)) (.cons rfl .nil) (hsp H hO hS)
  refine codeAny_mono run ?_
  intro r s' h
  match r, h with
  | .error _, h => exact h.elim
  | .ok .next, h => exact h.elim
  | .ok .brk, h => exact h.elim
  | .ok .cont, h => exact h.elim
  | .ok (.ret u), h =>
    obtain ⟨v, H', os, bare, un, hok', rv, q⟩ := h
    cases q
    cases rv
    refine ⟨rfl, OldK.of_keep ?_, os, bare⟩
    intro b o e
    match q : H b with
    | none => exact un.keep b o e q (no b) (List.not_mem_nil)
    | some u =>
      cases hO b with
      | inl z => rw [q] at z; cases z
      | inr z =>
        obtain ⟨ob, xs, z⟩ := z
        have e1 := (hok b _ z).1
        rw [e] at e1
        obtain rfl := Option.some.inj e1
        exact (hok' b _ (un.frzs b _ _ z)).1
theorem law_done (KX : K.In s₁.heap) (hns : s₁.heap.Ns mainGlobals mg) (hb : s₁.heap.Ns builtinsNs mb) (hbb : ∀ x : Str, x ≠ "__name__" → mb x = bootBuiltins x)
    (hlim : s₁.heap.NoLimit) (hg : s₁.gens = #[]) (ha : s₁.heap.get? a = some { cls := .type "list", data := .seq vs.toArray }) (hi : IntsAre vs ns) (hl : ns.length ≤ sizeLine) (hr : Room k callerA)
    (F : ∀ base : Heap, K.In base → base.Ns mainGlobals mg → FnG P w K mg base CX0 k fa fd [x] sp) (hbind : ∀ (s : Shared) (u : Value), BindsTo s fd ⟨[u], []⟩ [(x, u)])
    (hsp : ∀ H : Hp, Only H → SqL K H a (ns.map V.int) → sp [.ref a] H (fun v _ => v = .bl true) fun _ _ _ => False) :
    codeAny (model P w) callerA (.call (.ref fa) ⟨[.ref a], []⟩) (Fine s₁) s₁ := by
  have rv : Vals (ns.map V.int) vs := vals_ints hi
  have sz : vs.length ≤ sizeLine := by rw [← rv.length, List.length_map]; exact hl
  match hk : K.lookup a with
  | some o =>
    have e := KX a o hk
    rw [ha] at e
    obtain rfl := Option.some.inj e
    exact law_run KX hns hb hbb hlim hg ha hr F hbind hsp (fun _ => none) (fun _ => .inl rfl) (.inr ⟨_, vs.toArray, _, hk, rfl, rfl, rfl, by simpa using sz, by simpa using rv⟩)
      (fun b u z => nomatch z) (fun b u z => nomatch z) (fun u z => nomatch z)
  | none =>
    let o : Obj := { cls := .type "list", data := .seq vs.toArray }
    let H : Hp := fun b => if b = a then some (.frz o (.lst (ns.map V.int))) else none
    have hA : H a = some (.frz o (.lst (ns.map V.int))) := if_pos rfl
    have hN : ∀ b, b ≠ a → H b = none := fun b z => if_neg z
    refine law_run KX hns hb hbb hlim hg ha hr F hbind hsp H (fun b => ?_) (.inl (.inr ⟨o, hA⟩)) (fun b u z => ?_) (fun b u z => ?_) (fun _ _ => hk)
    · by_cases q : b = a
      · rw [q]; exact .inr ⟨_, _, hA⟩
      · exact .inl (hN b q)
    · by_cases q : b = a
      · rw [q] at z ⊢
        rw [hA] at z
        obtain rfl := Option.some.inj z
        exact ⟨ha, by rw [List.length_map]; exact hl, vs, _, rv, ha⟩
      · rw [hN b q] at z; cases z
    · by_cases q : b = a
      · exact q
      · rw [hN b q] at z; cases z
end
theorem walk_g {l : PySem.W.OpenLaw} {n k : Nat} {q : Program} {loose : List Str} {XP : (Str → Option Value) → Heap → Prop} {YP : World → Heap → Prop} {d : DefRec} {K : Params → PySem.W.Frag} {sp : World → Sp} {x : Str}
    (hn : l.most = some n) (hn2 : n ≤ sizeLine) (hdf : d.params.defaults = []) (hr : Room k callerA)
    (hY : ∀ (w : World) (h : Heap), YP w h → (K w.params).In h)
    (F : ∀ (w : World) (mg : Str → Option Value) (fa : Addr) (h : Heap), (K w.params).In h → h.Ns mainGlobals mg → mg d.name = some (.ref fa) →
      ∃ fd : FuncData, (∀ (s : Shared) (u : Value), BindsTo s fd ⟨[u], []⟩ [(x, u)]) ∧
        ∀ base : Heap, (K w.params).In base → base.Ns mainGlobals mg → FnG l.prog w (K w.params) mg base CX0 k fa fd [x] (sp w))
    (hsp : ∀ (w : World) (H : Hp) (a : Addr) (ns : List Int), ns.length ≤ n → Only H → SqL (K w.params) H a (ns.map V.int) → sp w [.ref a] H (fun v _ => v = .bl true) fun _ _ _ => False) :
    PySem.W.WalkO q loose XP YP l.row.toRowW d [] (fun f vs => PySem.call f vs) := by
  refine Att.attach_call hn hdf ?_
  intro w s₀ s₁ mg mb fa o pm cd doc a vs ns G Y ho hd hcd hmg hobj hints hlen hg
  have KX := hY w s₁.heap Y
  obtain ⟨fd, hb, hF⟩ := F w mg fa s₁.heap KX G.T.g hmg
  exact law_done KX G.T.g G.T.b G.T.builtins G.T.nolimit hg hobj hints (Nat.le_trans hlen hn2) hr hF hb (fun H hO hS => hsp w H a ns hlen hO hS)
end Ck

namespace Ck
open PySem PySem.Spec PyProof.Rows L2
def Dice (H : Hp) (d : Addr) : Prop := ∃ a b c : Int, H d = some (.lst [.int a, .int b, .int c])
def But (d : Addr) (H H' : Hp) : Prop := ∀ b, b ≠ d → H' b = H b
def Kp (d : Addr) (H H' : Hp) : Prop := ∀ b o, b ≠ d → H b = some o → H' b = some o
theorem But.kp {d : Addr} {H H' : Hp} (h : But d H H') : Kp d H H' := fun b o n e => (h b n).trans e
theorem Kp.refl (d : Addr) (H : Hp) : Kp d H H := fun _ _ _ e => e
theorem Kp.trans {d : Addr} {H H1 H2 : Hp} (a : Kp d H H1) (b : Kp d H1 H2) : Kp d H H2 := fun c o n e => b c o n (a c o n e)
theorem Kp.mut {d p : Addr} {H H' : Hp} {o : HO} (k : Kp d H H') (h : H p = none) : Kp d H (upd H' p o) := fun b u n e => by
  rw [upd_ne (ne_of_none e h)]; exact k b u n e
theorem Dice.ne {d p : Addr} {H : Hp} (h : Dice H d) (n : H p = none) : p ≠ d := by
  obtain ⟨a, b, c, e⟩ := h
  exact fun z => by rw [z, e] at n; cases n
theorem Dice.new {d p : Addr} {H : Hp} {o : HO} (h : Dice H d) (n : H p = none) : Dice (upd H p o) d := by
  have z := h.ne n
  obtain ⟨a, b, c, e⟩ := h
  exact ⟨a, b, c, by rw [upd_ne z.symm]; exact e⟩
theorem Dice.put {d p : Addr} {H : Hp} {o : HO} (h : Dice H d) (n : p ≠ d) : Dice (upd H p o) d := by
  obtain ⟨a, b, c, e⟩ := h
  exact ⟨a, b, c, by rw [upd_ne n.symm]; exact e⟩
theorem Dice.at {d : Addr} {H : Hp} {a b c : Int} : Dice (upd H d (.lst [.int a, .int b, .int c])) d := ⟨a, b, c, upd_same⟩
theorem But.put {d : Addr} {H : Hp} {o : HO} : But d H (upd H d o) := fun b n => upd_ne n
theorem But.sqL {K : PySem.W.Frag} {d a : Addr} {H H' : Hp} {xs : List V} (k : But d H H') (n : a ≠ d) (h : SqL K H a xs) : SqL K H' a xs := by
  rcases h with (h | ⟨o, h⟩) | h
  · exact .inl (.inl ((k a n).trans h))
  · exact .inl (.inr ⟨o, (k a n).trans h⟩)
  · exact .inr h
theorem Kp.sqL {K : PySem.W.Frag} {d a : Addr} {H H' : Hp} {xs : List V} (k : Kp d H H') (n : a ≠ d) (h : SqL K H a xs) : SqL K H' a xs := by
  rcases h with (h | ⟨o, h⟩) | h
  · exact .inl (.inl (k a _ n h))
  · exact .inl (.inr ⟨o, k a _ n h⟩)
  · exact .inr h
theorem Kp.sqT {K : PySem.W.Frag} {d a : Addr} {H H' : Hp} {xs : List V} (k : Kp d H H') (n : a ≠ d) (h : SqT K H a xs) : SqT K H' a xs := by
  rcases h with (h | ⟨o, h⟩) | h
  · exact .inl (.inl (k a _ n h))
  · exact .inl (.inr ⟨o, k a _ n h⟩)
  · exact .inr h
def spRoll : Sp := fun vs H Q _ => ∃ d t, vs = [.ref d, .int t] ∧ 0 < t ∧ t < 1073741824 ∧ Dice H d ∧
  ∀ r H', 0 ≤ r → r < t → Dice H' d → But d H H' → Q (.int r) H'
def spDice (K : PySem.W.Frag) : Sp := fun vs H Q _ => ∃ (a : Addr) (k : Nat) (ns : List Int), vs = [.ref a, .int (k : Int)] ∧ SqL K H a (ns.map V.int) ∧
  ∀ d, H d = none → ∀ H', Dice H' d → But d H H' → Q (.ref d) H'
theorem at_int {ns : List Int} {k : Nat} (h : ((k : Nat) : Int) < ((ns.map V.int).length : Int)) : ∃ i, atI (ns.map V.int) (k : Int) = some (.int i) := by
  have h1 : k < ns.length := by rw [List.length_map] at h; omega
  exact ⟨ns[k], atI_nat (by rw [List.getElem?_map, List.getElem?_eq_getElem h1]; rfl)⟩
theorem ten60 : CMulW ((10 : Int) ^ (60 : Int).toNat) ((10 : Int) ^ (60 : Int).toNat) := by unfold CMulW; decide +kernel
theorem pow_ok {i j : Int} (h : (decide (0 ≤ j) && decide (j ≤ 1000000) && decide (i.natAbs < 2 ^ 64)) = true) : CPow i j := by
  simp only [Bool.and_eq_true, decide_eq_true_eq] at h
  exact ⟨h.1.1, h.1.2, h.2⟩
theorem r_mod {Q : VK} {H : Hp} {i j : Int} (hj : 0 < j) (h : ∀ r, 0 ≤ r → r < j → Q (.int r) H) : rI (fun _ j => 0 < j) (fun i j => .int (i % j)) (.int i) (.int j) H Q :=
  ⟨i, j, rfl, rfl, hj, h _ (Int.emod_nonneg _ (by omega)) (Int.emod_lt_of_pos _ hj)⟩
theorem r_modC {Q : VK} {σ : L2.St} {H : Hp} {i j : Int} (hj : 0 < j) (h : ∀ r, 0 ≤ r → r < j → Q (.int r) H) :
    tC (.int j) σ H (fun y H2 => rI (fun _ j => 0 < j) (fun i j => .int (i % j)) (.int i) y H2 Q) := r_mod hj h
theorem join {c : Prop} [Decidable c] {ta tb : TE} {σ : L2.St} {H : Hp} {Q : VK} (p : V → Prop) (hq : ∀ v, p v → Q v H) (h1 : c → ∀ Q' : VK, (∀ v, p v → Q' v H) → ta σ H Q')
    (h2 : ¬ c → ∀ Q' : VK, (∀ v, p v → Q' v H) → tb σ H Q') : if decide c = true then ta σ H Q else tb σ H Q := by
  by_cases h : c
  · rw [decide_eq_true h]; exact iteT (h1 h Q hq)
  · rw [decide_eq_false h]; exact iteF (h2 h Q hq)
abbrev IsI (v : V) : Prop := ∃ i : Int, v = .int i
theorem at_in {α : Type} {xs : List α} {r : Int} (h0 : 0 ≤ r) (h : r < (xs.length : Int)) : ∃ x, x ∈ xs ∧ atI xs r = some x := by
  have hr : r.toNat < xs.length := by omega
  refine ⟨xs[r.toNat], List.getElem_mem hr, ?_⟩
  have z := atI_nat (xs := xs) (j := r.toNat) (List.getElem?_eq_getElem hr)
  rwa [show ((r.toNat : Nat) : Int) = r by omega] at z
theorem ifd {c : Prop} [Decidable c] {A B : Prop} (h1 : c → A) (h2 : ¬ c → B) : if decide c = true then A else B := by
  by_cases h : c
  · rw [decide_eq_true h]; exact iteT (h1 h)
  · rw [decide_eq_false h]; exact iteF (h2 h)
end Ck

namespace Ck
open PySem PySem.Spec PyProof.Rows L2
section
variable {σ : L2.St} {H : Hp} {ta tb tc : TE} {t u : TT} {x y v : V} {K : PySem.W.Frag} {a b c : Int} {p q : Bool}
variable {D : Ends} {s r z : TS}
theorem nt {b : Bool} (h : (!b) = true) : b = false := by cases b with | true => cases h | false => rfl
theorem nf {b : Bool} (h : (!b) = false) : b = true := by cases b with | true => rfl | false => cases h
theorem yes_go {Q : Bool → Hp → Prop} (h : Q true H) : tYes σ H Q := h
theorem if_b {A B : Prop} (p : Bool) (h1 : p = true → A) (h2 : p = false → B) : if p = true then A else B := by
  cases p with
  | true => exact iteT (h1 rfl)
  | false => exact iteF (h2 rfl)
end
end Ck

namespace Ck
open PySem PySem.Spec PyProof.Rows L2 Evl
section
variable {K : PySem.W.Frag} {H H' : Hp}
mutual
theorem dpM (e : Ex H H') : ∀ {v : V} {d : PyData}, Dp K H v d → Dp K H' v d
  | _, _, .non => .non
  | _, _, .bl b => .bl b
  | _, _, .int i => .int i
  | _, _, .str x => .str x
  | _, _, .lst h a => .lst (ex_l e h) (dpaM e a)
  | _, _, .tup h a => .tup (ex_t e h) (dpaM e a)
theorem dpaM (e : Ex H H') : ∀ {vs : List V} {ds : List PyData}, DpAll K H vs ds → DpAll K H' vs ds
  | _, _, .nil => .nil
  | _, _, .cons h t => .cons (dpM e h) (dpaM e t)
end
end
def Ed (K : PySem.W.Frag) (te : TE) (σ : L2.St) (H : Hp) (d : PyData) : Prop := ∀ H1, Ex H H1 → ∀ Q : VK, (∀ v H2, Ex H1 H2 → Dp K H2 v d → Q v H2) → te σ H1 Q
def EdA (K : PySem.W.Frag) (ta : TA) (σ : L2.St) (H : Hp) (ds : List PyData) : Prop := ∀ H1, Ex H H1 → ∀ Q : List V → Hp → Prop, (∀ vs H2, Ex H1 H2 → DpAll K H2 vs ds → Q vs H2) → ta σ H1 Q
section
variable {K : PySem.W.Frag} {σ : L2.St} {H H' : Hp} {ta tb te tc : TE} {tr : TA} {t u : TT} {x y z v : V} {d e : PyData} {ds : List PyData} {a b c : Int} {p q : Bool}
theorem ed_of (h : Ev te σ H v) (hd : Dp K H v d) : Ed K te σ H d := fun H1 e Q q => h H1 e Q fun H2 e2 => q v H2 e2 (dpM (e.trans e2) hd)
theorem ed_int (h : Ev te σ H (.int a)) : Ed K te σ H (.int a) := ed_of h (.int a)
theorem ed_nil : EdA K tNil σ H [] := fun H1 _ _ q => q [] H1 (Ex.refl H1) .nil
theorem ed_cons (h : Ed K te σ H d) (hr : EdA K tr σ H ds) : EdA K (tCons te tr) σ H (d :: ds) := fun H1 e Q q =>
  h H1 e _ fun v H2 e2 hd => hr H2 (e.trans e2) _ fun vs H3 e3 ha => q (v :: vs) H3 (e2.trans e3) (.cons (dpM e3 hd) ha)
theorem dpa_len : ∀ {vs : List V} {ds : List PyData}, DpAll K H vs ds → vs.length = ds.length
  | _, _, .nil => rfl
  | _, _, .cons _ t => congrArg (· + 1) (dpa_len t)
theorem ed_lst (h : EdA K tr σ H ds) (hl : ds.length ≤ 100000 := by exact Nat.le_of_ble_eq_true rfl) : Ed K (tLst tr) σ H (.list ds) := fun H1 e Q q =>
  h H1 e _ fun vs H2 e2 ha => ⟨sz_of (by rw [dpa_len ha]; exact hl), fun p hp => q (.ref p) _ (e2.trans (Ex.new hp)) (.lst (sq_of upd_same) (dpaM (Ex.new hp) ha))⟩
theorem ed_tup (h : EdA K tr σ H ds) (hl : ds.length ≤ 100000 := by exact Nat.le_of_ble_eq_true rfl) : Ed K (tTup tr) σ H (.tuple ds) := fun H1 e Q q =>
  h H1 e _ fun vs H2 e2 ha => ⟨sz_of (by rw [dpa_len ha]; exact hl), fun p hp => q (.ref p) _ (e2.trans (Ex.new hp)) (.tup (st_of upd_same) (dpaM (Ex.new hp) ha))⟩
theorem ev_eqD (h : Ed K ta σ H d) (h' : Ed K tb σ H e) (s : SeqAt.shaped d = true) (s' : SeqAt.shaped e = true) : Ev (tOp (rEqD K) ta tb) σ H (.bl (PyData.eqv d e)) := fun H1 e1 Q q =>
  h H1 e1 _ fun v H2 e2 hd => h' H2 (e1.trans e2) _ fun u H3 e3 hd' => ⟨_, _, dpM e3 hd, hd', s, s', q H3 (e2.trans e3)⟩
theorem ev_neD (h : Ed K ta σ H d) (h' : Ed K tb σ H e) (s : SeqAt.shaped d = true) (s' : SeqAt.shaped e = true) : Ev (tOp (rNeD K) ta tb) σ H (.bl (!PyData.eqv d e)) := fun H1 e1 Q q =>
  h H1 e1 _ fun v H2 e2 hd => h' H2 (e1.trans e2) _ fun u H3 e3 hd' => ⟨_, _, dpM e3 hd, hd', s, s', q H3 (e2.trans e3)⟩
theorem ev_i0 {g : Int → Int → V} (ha : Ev ta σ H (.int a)) (hb : Ev tb σ H (.int b)) : Ev (tOp (rI0 g) ta tb) σ H (g a b) := ev_op ha hb rv_I0
theorem ev_i {C : Int → Int → Prop} {g : Int → Int → V} (ha : Ev ta σ H (.int a)) (hb : Ev tb σ H (.int b)) (hc : C a b) : Ev (tOp (rI C g) ta tb) σ H (g a b) := ev_op ha hb (rv_I hc)
theorem ev_eq (ha : Ev ta σ H x) (hb : Ev tb σ H y) (hs : scal x y = true) : Ev (tOp rEq ta tb) σ H (.bl (decide (x = y))) := ev_op ha hb (rv_eq hs)
theorem ev_ne (ha : Ev ta σ H x) (hb : Ev tb σ H y) (hs : scal x y = true) : Ev (tOp rNe ta tb) σ H (.bl (!decide (x = y))) := ev_op ha hb (rv_ne hs)
theorem ev_isi {k : V} {tt uu : Value} {r : Bool} (ha : Ev ta σ H x) (hb : Ev tb σ H k) (h1 : ClsV k uu) (h2 : ∀ H1, Ex H H1 → TyX K H1 x tt) (h3 : PySem.W.kitOne K tt uu = some r) :
    Ev (tCB (rIsi K) (tCons ta (tCons tb tNil))) σ H (.bl r) := fun H1 e Q q => ha H1 e _ fun H2 e2 => hb H2 (e.trans e2) _ fun H3 e3 => ⟨x, k, tt, uu, r, rfl, h1, h2 H3 ((e.trans e2).trans e3), h3, q H3 (e2.trans e3)⟩
theorem ev_lenS {s : Str} (ha : Ev ta σ H (.str s)) (hz : s.length ≤ sizeLine) :
    Ev (tCB (fun xs H Q => ∃ z, xs = [.str z] ∧ z.length ≤ sizeLine ∧ Q (.int z.length) H) (tCons ta tNil)) σ H (.int (s.length : Int)) := fun H1 e Q q => ha H1 e _ fun H2 e2 => ⟨s, rfl, hz, q H2 e2⟩
theorem ev_lenL {l : Addr} {xs : List V} (ha : Ev ta σ H (.ref l)) (hl : SqL K H l xs) :
    Ev (tCB (fun xs H Q => ∃ p ys, xs = [.ref p] ∧ (SqL K H p ys ∨ SqT K H p ys) ∧ Q (.int ys.length) H) (tCons ta tNil)) σ H (.int (xs.length : Int)) := fun H1 e Q q => ha H1 e _ fun H2 e2 => ⟨l, xs, rfl, .inl (ex_l (e.trans e2) hl), q H2 e2⟩
theorem ev_lenT {l : Addr} {xs : List V} (ha : Ev ta σ H (.ref l)) (hl : SqT K H l xs) :
    Ev (tCB (fun xs H Q => ∃ p ys, xs = [.ref p] ∧ (SqL K H p ys ∨ SqT K H p ys) ∧ Q (.int ys.length) H) (tCons ta tNil)) σ H (.int (xs.length : Int)) := fun H1 e Q q => ha H1 e _ fun H2 e2 => ⟨l, xs, rfl, .inr (ex_t (e.trans e2) hl), q H2 e2⟩
theorem ev_abs (ha : Ev ta σ H (.int a)) : Ev (tCB (fun xs H Q => ∃ i, xs = [.int i] ∧ Q (.int (if i < 0 then -i else i)) H) (tCons ta tNil)) σ H (.int (if a < 0 then -a else a)) := fun H1 e Q q => ha H1 e _ fun H2 e2 => ⟨a, rfl, q H2 e2⟩
theorem ev_strI (ha : Ev ta σ H (.int a)) (hz : a.natAbs.log2 < 1920) : Ev (tCB (fun xs H Q => ∃ i, xs = [.int i] ∧ i.natAbs.log2 < 1920 ∧ Q (.str (toString i)) H) (tCons ta tNil)) σ H (.str (toString a)) := fun H1 e Q q => ha H1 e _ fun H2 e2 => ⟨a, rfl, hz, q H2 e2⟩
theorem ev_bits (ha : Ev ta σ H (.int a)) : Ev (tBits ta) σ H (.int (Builtin.Int.intBits a : Nat)) := fun H1 e Q q => ha H1 e _ fun H2 e2 => ⟨a, rfl, q H2 e2⟩
theorem ev_isN (ha : Ev ta σ H x) : Ev (tOp (fun x y H Q => y = .non ∧ Q (.bl (decide (x = .non))) H) ta (tC .non)) σ H (.bl (decide (x = .non))) := fun H1 e Q q => ha H1 e _ fun H2 e2 => ⟨rfl, q H2 e2⟩
theorem ev_notN (ha : Ev ta σ H x) : Ev (tOp (fun x y H Q => y = .non ∧ Q (.bl (!decide (x = .non))) H) ta (tC .non)) σ H (.bl (!decide (x = .non))) := fun H1 e Q q => ha H1 e _ fun H2 e2 => ⟨rfl, q H2 e2⟩
theorem ev_ixL {l : Addr} {xs : List V} {i : Int} (ha : Ev ta σ H (.ref l)) (hb : Ev tb σ H (.int i)) (hl : SqL K H l xs) (hi : atI xs i = some v) : Ev (tOp (rIxL K) ta tb) σ H v := ev_op ha hb (rv_ixL hl hi)
theorem ev_ixT {l : Addr} {xs : List V} {i : Int} (ha : Ev ta σ H (.ref l)) (hb : Ev tb σ H (.int i)) (hl : SqT K H l xs) (hi : atI xs i = some v) : Ev (tOp (rIxT K) ta tb) σ H v := ev_op ha hb (rv_ixT hl hi)
theorem ev_call1 {sp : Sp} {E : XK} (h : Ev te σ H x) (hs : SpV sp [x] H z) : Ev (tCall sp [] E (tCons te tNil)) σ H z := ev_call (vs := [x]) (ea_cons h ea_nil) hs
end

section
variable {K : PySem.W.Frag} {σ : L2.St} {H : Hp} {te tl : TE} {t : TT} {xs : List V} {ds : List PyData}
theorem ed_ofL (h : EvL te σ H xs) (hd : ∀ H1, Ex H H1 → DpAll K H1 xs ds) : Ed K te σ H (.list ds) := fun H1 e Q q =>
  h H1 e _ fun p H2 _ e2 hp => q (.ref p) H2 e2 (.lst (sq_of hp) (hd H2 (e.trans e2)))
theorem dpa_map {α : Type} {f : α → V} {g : α → PyData} (h : ∀ x, Dp K H (f x) (g x)) : ∀ l : List α, DpAll K H (l.map f) (l.map g)
  | [] => .nil
  | x :: r => .cons (h x) (dpa_map h r)
end
section
variable {K : PySem.W.Frag} {σ : L2.St} {H : Hp} {D : Ends} {body rest : TS} {a : Addr} {ns : List Int}
def Out (a : Addr) (m : Nat) (H0 : Hp) (σ : L2.St) (H : Hp) : Prop := (∃ r, σ = some (.ref a) :: r ∧ r.length = m) ∧ Same H0 H
theorem spots {m : Nat} {k : Int} (hk : 0 ≤ k ∧ k ≤ 100) (hv : σ = some (.ref a) :: List.replicate m none) (hm : 0 < m) (hS : SqL K H a (ns.map V.int))
    (step : ∀ (s : Nat) (r : L2.St) (H1 : Hp), r.length + 1 = m → Same H H1 → body { D with nx := Out a m H, ct := Out a m H, bk := rest D } (some (.ref a) :: some (.int (s : Int)) :: r) H1)
    (done : ∀ (r : L2.St) (H1 : Hp), r.length = m → Same H H1 → rest D (some (.ref a) :: r) H1) :
    tSeq (tFor (iRng1 (tCons (tCB (fun xs H Q => ∃ i j, xs = [.int i, .int j] ∧ Q (.int (if j > i then j else i)) H) (tCons (tC (.int 1)) (tCons (tCB (fun xs H Q => ∃ i j, xs = [.int i, .int j] ∧ Q (.int (if j < i then j else i)) H) (tCons (tC (.int k))
      (tCons (tCB (fun xs H Q => ∃ p ys, xs = [.ref p] ∧ (SqL K H p ys ∨ SqT K H p ys) ∧ Q (.int ys.length) H) (tCons (tVar 0) tNil)) tNil))) tNil))) tNil)) (gName 1) body) rest D σ H := by
  subst hv
  have e0 : (some (V.ref a) :: List.replicate m none : L2.St)[0]? = some (some (.ref a)) := rfl
  refine ⟨.ref a, e0, a, _, rfl, .inl hS, k, _, rfl, 1, _, rfl, _, rfl, ?_, ?_, ?_⟩
  · split <;> split <;> omega
  · split <;> split <;> omega
  refine for_range (fun _ => Out a m H) ⟨⟨_, rfl, List.length_replicate⟩, Same.refl H⟩ ?_ ?_
  · rintro i σ' H' hi ⟨⟨r, rfl, hr⟩, hs⟩
    match r, hr with
    | x :: r, hr =>
      have z := step i r H' hr hs
      show body _ (some (.ref a) :: some (.int (0 + (i : Int))) :: r) H'
      rw [Int.zero_add]
      exact z
    | [], hr => exact absurd hr (by show ¬ 0 = m; omega)
  · rintro σ' H' ⟨⟨r, rfl, hr⟩, hs⟩
    exact done r H' hr hs
def Inn (a d : Addr) (m : Nat) (H0 : Hp) (σ : L2.St) (H : Hp) : Prop := (∃ s r, σ = some (.ref a) :: s :: some (.ref d) :: r ∧ r.length = m) ∧ Same H0 H ∧ Dice H d
end

def Lasts (Pr : V → Hp → Prop) : Prop := ∀ v H H', Ex H H' → Pr v H → Pr v H'
section
variable {K : PySem.W.Frag} {σ : L2.St} {H H' : Hp} {te ta : TE} {tr : TA} {Pr Pr' : V → Hp → Prop} {n : Nat} {v : V}
theorem tyM (e : Ex H H') {x : V} {t : Value} (h : TyX K H x t) : TyX K H' x t := by
  cases h with
  | base b =>
    refine .base ?_
    cases b with
    | non => exact .non
    | bl y => exact .bl y
    | int i => exact .int i
    | str y => exact .str y
    | flt y => exact .flt y
    | lst ea => exact .lst (e _ _ ea)
    | frz ea => exact .frz (e _ _ ea)
    | tup ea => exact .tup (e _ _ ea)
    | dK ea => exact .dK (e _ _ ea)
    | dT ea => exact .dT (e _ _ ea)
    | ins ea cl ha hn htk hm => exact .ins (e _ _ ea) cl ha hn htk hm
  | byt b => exact .byt b
  | set ea => exact .set (e _ _ ea)
  | kList a c => exact .kList a c
  | kTuple a c => exact .kTuple a c
  | kDict a c => exact .kDict a c
  | fTuple ea => exact .fTuple (e _ _ ea)
  | fDict ea => exact .fDict (e _ _ ea)
end
end Ck

namespace Ck
open PySem PySem.Spec PyProof.Rows L2 Evl
def intB (i : Int) : Bool := decide (i.natAbs < 10 ^ 200)
theorem num_len (n k : Nat) (hk : 0 < k) : (Str.ofString (toString ((n : Nat) : Int))).length ≤ k ↔ n < 10 ^ k := by
  have h := congrArg List.length (TL.tl_num n)
  unfold TL.numL at h
  rw [List.length_map] at h
  rw [← Nat.length_toDigits_le_iff (b := 10) (n := n) (k := k) (by decide) hk, ← h]
  show (Str.ofString (toString (n : Int))).cps.size ≤ k ↔ (Str.ofString (toString (n : Int))).cps.toList.length ≤ k
  rw [Array.length_toList]
theorem abs_if (i : Int) : (if i < 0 then -i else i) = (i.natAbs : Int) := by
  split <;> omega
theorem short_eq (i : Int) : decide (((Str.ofString (toString (if i < 0 then -i else i))).length : Int) ≤ 200) = intB i := by
  rw [abs_if]
  unfold intB
  refine decide_eq_decide.mpr ?_
  rw [← num_len i.natAbs 200 (by decide)]
  omega
theorem bits_big {i : Int} (h : (800 : Int) < ((Builtin.Int.intBits i : Nat) : Int)) : intB i = false := by
  refine decide_eq_false fun z => ?_
  have z2 : i.natAbs < 2 ^ 800 := Nat.lt_trans z (by decide +kernel)
  unfold Builtin.Int.intBits at h
  split at h
  · omega
  · have := PySem.Flt.log2_lt_of (by decide : 0 < 800) z2
    omega
theorem bits_small {i : Int} (h : ¬ (800 : Int) < ((Builtin.Int.intBits i : Nat) : Int)) : i.natAbs.log2 < 1920 := by
  unfold Builtin.Int.intBits at h
  split at h
  · rename_i z
    have : i = 0 := by simpa using z
    rw [this]
    decide
  · omega
inductive OddI (K : PySem.W.Frag) (H : Hp) (x : V) : Prop where
  | no (n : String) (h : TyX K H x (.type n)) (k : kitB n "int" = some false) (kb : kitB n "bool" = some false := by decide +kernel)
  | bl (b : Bool) (h : x = .bl b)
theorem OddI.lasts {K : PySem.W.Frag} : Lasts fun x H => OddI K H x := fun v H H' e h => by
  cases h with
  | no n h k kb => exact .no n (tyM e h) k kb
  | bl b h => exact .bl b h
def NumV (K : PySem.W.Frag) (p : Int → Bool) (H : Hp) (x : V) (b : Bool) : Prop := (∃ i, x = .int i ∧ b = p i) ∨ (OddI K H x ∧ b = false)
def spNum (K : PySem.W.Frag) (p : Int → Bool) : Sp := fun vs H Q _ => ∃ x b, vs = [x] ∧ NumV K p H x b ∧ ∀ H', Ex H H' → Q (.bl b) H'
def cntB (i : Int) : Bool := intB i && decide (0 ≤ i)
def sizB (i : Int) : Bool := intB i && decide (1 ≤ i)
theorem num_i {K : PySem.W.Frag} {p : Int → Bool} {H : Hp} {i : Int} : SpV (spNum K p) [.int i] H (.bl (p i)) := fun H1 _ Q q E => ⟨.int i, _, rfl, .inl ⟨i, rfl, rfl⟩, q⟩
theorem num_o {K : PySem.W.Frag} {p : Int → Bool} {H : Hp} {x : V} (h : OddI K H x) : SpV (spNum K p) [x] H (.bl false) := fun H1 e Q q E => ⟨x, _, rfl, .inr ⟨OddI.lasts _ _ _ e h, rfl⟩, q⟩
end Ck

namespace Ck
open PySem PySem.Spec PyProof.Rows L2
section
variable {P : Program} {w : World} {A : Around} {E : Value → Shared → Prop} {s : Shared}
abbrev emptyS (w : World) : Obj :=
  { cls := .type "set", dict := none
    data := .set #[] 0 (.fresh 0 0 (!w.params.followText "set-order")) }
abbrev laidS (w : World) (s : Shared) : Shared := { s with heap := s.heap.push (emptyS w) }
abbrev Full (w : World) (ns : List Int) (s : Shared) (h' : Heap) (c : Nat) : Prop :=
  SetR w h' s.heap.objs.size (fun j => decide (j ∈ ns)) c ∧ c ≤ ns.length ∧ ∀ b o, s.heap.get? b = some o → h'.get? b = some o
end
section
variable {X : Cx}
end
end Ck

namespace Ck
open PySem PySem.Spec PyProof.Rows L2 Evl RZ
def adj {α : Type} (f : Int → Int → α) : List Int → List α
  | x :: y :: r => f x y :: adj f (y :: r)
  | _ => []
theorem adj_range {α : Type} (f : Int → Int → α) : ∀ ns : List Int, adj f ns = (List.range (ns.length - 1)).map fun i => f (ns.getD i 0) (ns.getD (i + 1) 0)
  | [] => rfl
  | [_] => rfl
  | x :: y :: r => by
    have ih := adj_range f (y :: r)
    have e : (x :: y :: r).length - 1 = ((y :: r).length - 1) + 1 := by simp only [List.length_cons]; omega
    rw [e, List.range_succ_eq_map, List.map_cons, List.map_map]
    show f x y :: adj f (y :: r) = _
    rw [ih]
    rfl
def asc (ns : List Int) : Bool := (adj (fun x y => decide (x < y)) ns).all id
def gap (ns : List Int) : Option (Int × Int) := (adj (fun x y => (x, y)) ns).find? fun p => !decide (p.2 % p.1 = 0)
def gapD : Option (Int × Int) → PyData
  | some p => .tuple [.int p.1, .int p.2]
  | none => .none
section
variable {K : PySem.W.Frag} {σ : L2.St} {H H' : Hp} {ta tb te tl : TE} {tr : TA} {t : TT} {vs : List V} {d : PyData} {v : V} {p a b : Addr} {xs ys : List V}
theorem dp_non {v : V} (h : Dp K H v .none) : v = .non := by cases h; rfl
theorem walk_zipT {n : Nat} (hn : n = min xs.length ys.length) : Walk (ItzT K a b) n (fun H => SqT K H a xs ∧ SqT K H b ys) (YPair (fun i => xs[i]?) (fun i => ys[i]?)) where
  goes := by
    intro i H hi q
    have h1 : i < xs.length := by omega
    have h2 : i < ys.length := by omega
    exact ⟨xs, ys, xs[i], ys[i], q.1, q.2, List.getElem?_eq_getElem h1, List.getElem?_eq_getElem h2⟩
  stops := by
    intro H q
    exact ⟨xs, ys, q.1, q.2, by omega⟩
  yields := by
    rintro i H v H' _ q ⟨T, x, y, r1, r2, r3, r4, r5⟩
    exact ⟨T, x, y, r1, r2, r3, r4 xs q.1, r5 ys q.2⟩
theorem ev_all {bs : List Bool} (h : EvL te σ H (bs.map V.bl)) : Ev (tCB (rAll K) (tCons te tNil)) σ H (.bl (bs.all id)) := fun H1 e Q q =>
  h H1 e _ fun l H2 _ e2 hl => ⟨l, bs, rfl, sq_of hl, q H2 e2⟩
theorem given_all (n : Nat) (f : Nat → V) : given n (fun _ => true) f = (List.range n).map f := by
  unfold given
  rw [List.filter_eq_self.mpr fun _ _ => rfl]
theorem cutT1 (xs : List V) : cutV xs (some 1) none = xs.drop 1 := by
  have e : HT.sIx xs.length 0 (some 1) = min 1 xs.length := HT.sIx_nat xs.length 0 1
  show (xs.drop (HT.sIx xs.length 0 (some 1))).take (xs.length - HT.sIx xs.length 0 (some 1)) = _
  rw [e]
  cases xs with
  | nil => rfl
  | cons x r =>
    have e1 : min 1 (x :: r).length = 1 := by rw [List.length_cons]; omega
    rw [e1]
    show r.take (r.length + 1 - 1) = r
    exact List.take_of_length_le (by omega)
theorem min_zip (ns : List Int) : ns.length - 1 = min (ns.map V.int).length ((ns.drop 1).map V.int).length := by
  rw [List.length_map, List.length_map, List.length_drop]; omega
theorem at_zip {ns : List Int} {i : Nat} {x y : V} (hx : (ns.map V.int)[i]? = some x) (hy : ((ns.drop 1).map V.int)[i]? = some y) : x = .int (ns.getD i 0) ∧ y = .int (ns.getD (i + 1) 0) ∧ i + 1 < ns.length := by
  rw [List.getElem?_map] at hx hy
  rw [List.getElem?_drop, Nat.add_comm 1 i] at hy
  rw [List.getD_eq_getElem?_getD, List.getD_eq_getElem?_getD]
  cases h1 : ns[i]? with
  | none => rw [h1] at hx; cases hx
  | some m =>
    cases h2 : ns[i + 1]? with
    | none => rw [h2] at hy; cases hy
    | some n =>
      rw [h1] at hx
      rw [h2] at hy
      cases hx
      cases hy
      exact ⟨rfl, rfl, (List.getElem?_eq_some_iff.mp h2).1⟩
end
theorem ty_tup {K : PySem.W.Frag} {H : Hp} {p : Addr} {xs : List V} (h : SqT K H p xs) : TyX K H (.ref p) (.type "tuple") := by
  rcases h with (h | ⟨o, h⟩) | ⟨o, its, n, h1, h2, _⟩
  · exact .base (.tup h)
  · exact .fTuple h
  · exact .kTuple h1 h2
theorem decI (a b : Int) : V.bl (!decide ((V.int a) = V.int b)) = V.bl (!decide (a = b)) := by
  by_cases h : a = b
  · rw [h, decide_eq_true rfl, decide_eq_true rfl]
  · rw [decide_eq_false h, decide_eq_false fun z => h (V.int.inj z)]
theorem find_first {α : Type} {p : α → Bool} : ∀ {l : List α} {i : Nat} {x : α}, l[i]? = some x → p x = true → (∀ j y, j < i → l[j]? = some y → p y = false) → l.find? p = some x
  | [], _, _, h, _, _ => by cases h
  | a :: r, 0, x, h, hx, _ => by
    cases h
    rw [List.find?_cons, hx]
  | a :: r, i + 1, x, h, hx, hj => by
    rw [List.find?_cons, hj 0 a (Nat.succ_pos i) rfl]
    exact find_first (i := i) h hx fun j y hji hy => hj (j + 1) y (by omega) hy
theorem adj_at {α : Type} (f : Int → Int → α) {ns : List Int} {i : Nat} (h : i + 1 < ns.length) : (adj f ns)[i]? = some (f (ns.getD i 0) (ns.getD (i + 1) 0)) := by
  rw [adj_range, List.getElem?_map, List.getElem?_range (by omega)]
  rfl
theorem adj_len {α : Type} (f : Int → Int → α) (ns : List Int) : (adj f ns).length = ns.length - 1 := by
  rw [adj_range, List.length_map, List.length_range]
theorem gap_some {ns : List Int} {i : Nat} (hi : i + 1 < ns.length) (hj : ∀ j, j < i → ns.getD (j + 1) 0 % ns.getD j 0 = 0) (h : ¬ ns.getD (i + 1) 0 % ns.getD i 0 = 0) : gap ns = some (ns.getD i 0, ns.getD (i + 1) 0) := by
  unfold gap
  refine find_first (adj_at _ hi) (by show (!decide _) = true; rw [decide_eq_false h]; rfl) ?_
  intro j y hji hy
  rw [adj_at _ (show j + 1 < ns.length by omega)] at hy
  cases hy
  show (!decide _) = false
  rw [decide_eq_true (hj j hji)]
  rfl
theorem gap_none {ns : List Int} (hj : ∀ j, j < ns.length - 1 → ns.getD (j + 1) 0 % ns.getD j 0 = 0) : gap ns = none := by
  unfold gap
  rw [List.find?_eq_none]
  intro y hy
  obtain ⟨j, hj1, rfl⟩ := List.mem_iff_getElem.mp hy
  have l : j < ns.length - 1 := by rwa [adj_len] at hj1
  have e : (adj (fun x y => (x, y)) ns)[j] = (ns.getD j 0, ns.getD (j + 1) 0) := by
    have z := adj_at (fun x y => (x, y)) (ns := ns) (i := j) (by omega)
    rw [List.getElem?_eq_getElem hj1] at z
    exact Option.some.inj z
  rw [e]
  show ¬ (!decide _) = true
  rw [decide_eq_true (hj j l)]
  decide
theorem divW {a b : Int} (h : 0 < b) (hb : b.natAbs < 10 ^ 200) : CDivW a b := wide_div (b := 800) h (Nat.lt_trans hb (by decide +kernel)) (by decide) (by decide)
theorem siz_int {a : Int} (h : sizB a = true) : 0 < a ∧ a.natAbs < 10 ^ 200 := by
  unfold sizB intB at h
  rw [Bool.and_eq_true] at h
  exact ⟨by have := of_decide_eq_true h.2; omega, of_decide_eq_true h.1⟩
end Ck

namespace Ck
open PySem PySem.Spec PyProof.Rows L2 HT
section
variable {P : Program} {w : World} {A : Around} {E : Value → Shared → Prop} {s : Shared}
theorem back_n (n : Nat) : Builtin.Slice.slicePlaces ((n : Int) - 1) (-1) (-1) = n := by
  unfold Builtin.Slice.slicePlaces
  have a : ¬ ((-1 : Int) > 0) := by decide
  rw [if_neg a]
  by_cases h : (n : Int) - 1 > -1
  · rw [if_pos h, show (- -1 : Int) = 1 from rfl, Int.ediv_one]; omega
  · rw [if_neg h]; omega
theorem back_pick (xs : Array Value) : ((List.range xs.size).filterMap fun (m : Nat) => xs[(((xs.size : Int) - 1) + (m : Int) * (-1)).toNat]?).toArray = xs.toList.reverse.toArray := by
  have e : (List.range xs.size).filterMap (fun (m : Nat) => xs[(((xs.size : Int) - 1) + (m : Int) * (-1)).toNat]?) = ((List.range xs.size).map fun k => xs.size - 1 - k).filterMap (xs[·]?) := by
    rw [List.filterMap_map]
    congr 1
    funext m
    show xs[_]? = xs[xs.size - 1 - m]?
    congr 1
    omega
  rw [e, PySem.W.krv_range, List.filterMap_reverse, PySem.W.krv_all]
theorem applied_back {sl : Addr} {n : Nat} {v : Value} {Q : Int × Int × Nat → Shared → Prop} (hs : s.heap.IsSliceOf sl .none .none v) (pv : IsPart v (some (-1))) (h : Q ((n : Int) - 1, -1, n) s) :
    wpAny (model P w) A (Builtin.Slice.sliceApplied (.ref sl) (pure (n : Int))) Q E s := by
  obtain ⟨os, hos, _, hds⟩ := id hs
  unfold Builtin.Slice.sliceApplied Builtin.Slice.sliceFields
  refine wpAny_bind (wpAny_bind (wpAny_field hos hds (x := .none) rfl (wpAny_bind (wpAny_field hos hds (x := .none) rfl (wpAny_bind (wpAny_field hos hds (x := v) rfl (wpAny_pure ?_)))))))
  refine wpAny_bind (slicePart_ pv ?_)
  show wpAny _ _ (if ((-1 : Int) == 0) = true then _ else _) _ _ s
  rw [if_neg (by decide)]
  refine wpAny_bind (slicePart_none (wpAny_bind (slicePart_none (wpAny_bind (wpAny_pure ?_)))))
  show wpAny _ _ (pure (((n : Int) - 1), (-1 : Int), Builtin.Slice.slicePlaces ((n : Int) - 1) (-1) (-1))) _ _ s
  rw [back_n]
  exact wpAny_pure h
theorem get_back {t sl : Addr} {its : Array Value} {v : Value} {Q : Value → Shared → Prop} (ht : IsTup s.heap t its) (hs : s.heap.IsSliceOf sl .none .none v) (pv : IsPart v (some (-1)))
    (h : Q (.ref s.heap.objs.size) { s with heap := s.heap.push { cls := .type "tuple", data := .seq its.toList.reverse.toArray } }) (hz : its.size ≤ sizeLine) : wpAny (model P w) A (getItem (.ref t) (.ref sl)) Q E s := by
  have ok : sizeOk (.seq its.toList.reverse.toArray) := by
    show its.toList.reverse.toArray.size ≤ sizeLine
    rw [List.size_toArray, List.length_reverse, Array.length_toList]
    exact hz
  obtain ⟨ob, hob, hcb, hdb⟩ := id hs
  have tS : s.TypeIs (.ref sl) "slice" := ⟨ob, hob, hcb⟩
  have tT := ht.typeIs
  unfold getItem
  try with_reducible refine wpAny_holding ?_
  first | refine wpAny_bind (wpAny_pure ?_) | skip
  refine wpAny_bind (wpAny_sequenceKey tT (by decide) ?_)
  refine wpAny_bind (wpAny_callSpecial?_slot (name := Str.ofString "__getitem__") tT PyProof.Rows.slot_tuple_getitem (wpAny_call_entry PyProof.Rows.slot_tuple_getitem tT entry_tuple_getitem ?_ (args_tuple_getitem _ _)))
  show wpAny _ _ (Builtin.Tuple.tupleItemsOf (.ref t) >>= _) _ _ s
  refine wpAny_bind (tupleItemsOf_ ht ?_)
  refine wpAny_bind (wpAny_typeOf tS ?_)
  rw [if_pos (by decide)]
  refine wpAny_bind (applied_back hs pv ?_)
  have no : ¬ ((((its.size : Int) - 1) == 0 && (-1 : Int) == 1 && its.size == its.size) = true) := by
    intro q
    rw [Bool.and_eq_true, Bool.and_eq_true] at q
    exact absurd q.1.2 (by decide)
  show wpAny _ _ (if (((its.size : Int) - 1) == 0 && (-1 : Int) == 1 && its.size == its.size) = true then _ else _) _ _ s
  rw [if_neg no, back_pick]
  first
    | exact wpAny_bind (m := Builtin.Tuple.tupleExact _) (wpAny_newObj_type (wpAny_pure ⟨_, rfl, wpAny_pure h⟩) ok)
    | exact wpAny_bind (m := Builtin.Tuple.tupleExact _) (wpAny_newObj_type (wpAny_bind (wpAny_pure (wpAny_pure ⟨_, rfl, wpAny_pure h⟩))) ok)
    | exact wpAny_bind (wpAny_bind (m := Builtin.Tuple.tupleExact _) (wpAny_newObj_type (wpAny_pure (wpAny_pure ⟨_, rfl, wpAny_pure h⟩)) ok))
    | exact wpAny_bind (wpAny_bind (m := Builtin.Tuple.tupleExact _) (wpAny_newObj_type (wpAny_pure ⟨_, rfl, wpAny_pure h⟩) ok))
end
section
variable {X : Cx}
def tRevT (K : PySem.W.Frag) (te : TE) : TE := fun σ H Q => te σ H fun x H1 => ∃ a xs, x = .ref a ∧ SqT K H1 a xs ∧ ∀ p, H1 p = none → Q (.ref p) (upd H1 p (.tup xs.reverse))
theorem pe_revT {e : Expr} {te : TE} {k : Nat} {p1 p2 p3 pos : Pos} (he : PE X e te) : PE X (.Subscript e (.Slice none none (some (.UnaryOp .USub (.Constant (.int 1) k p1) p2)) p3) pos) (tRevT X.K te) := by
  refine ⟨fun pins s σ H Q I h => Subscript_ (thn (he.run pins s σ H _ I h) fun v s1 ⟨x, H1, I1, r1, a, xs, ex, hx, q⟩ => ?_)⟩
  subst ex
  cases r1
  have part : PO X (some (.UnaryOp .USub (.Constant (.int 1) k p1) p2)) (tPart (tUn (rU fun i => .int (-i)) (tC (.int 1)))) := po_some (pe_un un_neg pe_int)
  refine wpAny_Slice (thn (po_none.run pins s1 σ H1 (fun o H2 => o = none ∧ H2 = H1) I1 ⟨rfl, rfl⟩) fun vl s2 ⟨l, H2, I2, pl, el, e2⟩ => ?_)
  subst el e2
  refine thn (po_none.run pins s2 σ H2 (fun o H3 => o = none ∧ H3 = H2) I2 ⟨rfl, rfl⟩) fun vu s3 ⟨u, H3, I3, pu, eu, e3⟩ => ?_
  subst eu e3
  refine thn (part.run pins s3 σ H3 (fun o H4 => o = some (-1) ∧ H4 = H3) I3 ⟨1, rfl, -1, rfl, rfl, rfl⟩) fun vs s4 ⟨o, H4, I4, pv, eo, e4⟩ => ?_
  subst eo e4
  cases pl
  cases pu
  have I5 : Inv X pins σ H4 { s4 with heap := s4.heap.push { cls := .type "slice", data := .fields #[.none, .none, vs] } } := I4.kept (t' := s4.toks) fun b ob q => Heap.get?_push_of_some _ q
  obtain ⟨its, r, ht, hz⟩ := I5.tuple hx
  have hlen := r.length
  refine tail_any (ops := [.ref a, .ref s4.heap.objs.size]) ht.typeIs (PyProof.Rows.slot_tuple_getitem.lookup) ?_ (by with_unfolding_all rfl)
  refine get_back ht (Heap.IsSliceOf.new _ .none .none vs) pv ?_ (by rw [List.size_toArray]; omega)
  refine ⟨.ref _, _, I5.laid (t' := s4.toks) (o := .tup xs.reverse) (fun b ob q => Heap.get?_push_of_some _ q) (Nat.le_refl _) ?_, rfl, q _ (I5.hok.fresh (Nat.le_refl _))⟩
  exact ⟨by rw [List.length_reverse]; exact hz, _, r.reverse, IsTup.new _ _⟩
end
end Ck

namespace Ck
open PySem PySem.Spec PyProof.Rows L2 Evl
def Kd (d : Addr) (H H' : Hp) : Prop := Kp d H H' ∧ Dice H' d
theorem Kd.refl {d : Addr} {H : Hp} (h : Dice H d) : Kd d H H := ⟨Kp.refl d H, h⟩
theorem Kd.trans {d : Addr} {H H1 H2 : Hp} (a : Kd d H H1) (b : Kd d H1 H2) : Kd d H H2 := ⟨a.1.trans b.1, b.2⟩
theorem Dice.ex {d : Addr} {H H' : Hp} (h : Dice H d) (e : Ex H H') : Dice H' d := by
  obtain ⟨a, b, c, x⟩ := h
  exact ⟨a, b, c, e _ _ x⟩
theorem Kd.ex {d : Addr} {H H' : Hp} (h : Dice H d) (e : Ex H H') : Kd d H H' := ⟨fun b o _ x => e b o x, h.ex e⟩
theorem Kd.but {d : Addr} {H H' : Hp} (h : Dice H' d) (k : But d H H') : Kd d H H' := ⟨k.kp, h⟩
theorem Kd.to {d : Addr} {H H1 H2 : Hp} (a : Kd d H H1) (e : Ex H1 H2) : Kd d H H2 := a.trans (Kd.ex a.2 e)
section
variable {K : PySem.W.Frag} {H H' : Hp} {d : Addr}
end
section
variable {K : PySem.W.Frag} {d p : Addr} {σ : L2.St} {H : Hp} {ta tb te : TE} {tl th : TO} {n m : Nat} {xs ys : List V} {lo hi : Option Int}
theorem cutV_all (xs : List V) {lo hi : Option Int} (h : HT.sIx xs.length 0 lo = 0 ∧ HT.sIx xs.length xs.length hi = xs.length) : cutV xs lo hi = xs := by
  unfold cutV
  rw [h.1, h.2]
  exact List.take_of_length_le (Nat.le_refl _)
end
section
variable {K : PySem.W.Frag} {σ : L2.St} {H : Hp} {D : Ends} {z : TS} {te tl : TE} {d : PyData} {ds : List PyData} {xs : List V}
abbrev rTupS (K : PySem.W.Frag) : List V → Hp → VK → Prop := fun xs H Q => ∃ p ys, xs = [.ref p] ∧ ((SqL K H p ys ∧ ∀ l, H l = none → Q (.ref l) (upd H l (.tup ys))) ∨ (SqT K H p ys ∧ Q (.ref p) H))
theorem eu_tupleL (h : EvL tl σ H xs) : EvU (tCB (rTupS K) (tCons tl tNil)) σ H xs := fun H1 e Q q =>
  h H1 e _ fun p H2 _ e2 hp => ⟨p, xs, rfl, .inl ⟨SqL.of hp, fun l hl => q l _ (fresh_back e2 hl) (e2.trans (Ex.new hl)) upd_same⟩⟩
theorem dpa_ints {H : Hp} : ∀ ns : List Int, DpAll K H (ns.map V.int) (ns.map PyData.int) := dpa_map fun i => .int i
end
end Ck

namespace Ck
open PySem PySem.Spec PyProof.Rows L2
theorem eu_tup_of {K : PySem.W.Frag} {te : TE} {σ : L2.St} {H : Hp} {p : Addr} {xs : List V} (h : Evl.Ev te σ H (.ref p)) (hp : SqL K H p xs) : Evl.EvU (tCB (rTupS K) (tCons te tNil)) σ H xs := fun H1 e Q q =>
  h H1 e _ fun H2 e2 => ⟨p, xs, rfl, .inl ⟨Evl.ex_l (e.trans e2) hp, fun l hl => q l _ (Evl.fresh_back e2 hl) (e2.trans (Evl.Ex.new hl)) upd_same⟩⟩
def Ek (d : Addr) (Pr : V → Prop) (te : TE) (σ : L2.St) (H : Hp) : Prop := ∀ H1, Kd d H H1 → ∀ Q : VK, (∀ v H2, Kd d H1 H2 → Pr v → Q v H2) → te σ H1 Q
theorem sq_asgK {d : Addr} {Pr : V → Prop} {te : TE} {σ : L2.St} {H : Hp} {D : Ends} {z : TS} {i : Nat} (hd : Dice H d) (h : Ek d Pr te σ H) (k : ∀ v H1, Kd d H H1 → Pr v → z D (σ.set i (some v)) H1) : tSeq (tAsg te (gName i)) z D σ H := h H (Kd.refl hd) (fun x H1 => gName i x σ H1 (z D)) k
end Ck

namespace Ck
open PySem PySem.Spec PyProof.Rows L2
section
variable {X : Cx} {a b c d : Expr} {ta tb tc td : TE} {pos : Pos}
end
section
variable {σ : L2.St} {H : Hp} {ta tb tc td : TE} {a b c d : Int}
end
section
variable {σ : L2.St} {H : Hp} {D : Ends} {body : TS} {a : Addr}
theorem turnsE {m : Nat} {n : Int} {d : Addr} {H0 : Hp} (hn : 0 ≤ n ∧ n ≤ 100) (hi : Inn a d (m + 1) H0 σ H)
    (step : ∀ (t s : Option V) (r : L2.St) (H1 : Hp), r.length = m → Same H0 H1 → Dice H1 d → body { D with nx := Inn a d (m + 1) H0, ct := Inn a d (m + 1) H0, bk := D.nx } (some (.ref a) :: s :: some (.ref d) :: t :: r) H1)
    (done : ∀ (s : Option V) (r : L2.St) (H1 : Hp), r.length = m + 1 → Same H0 H1 → Dice H1 d → D.nx (some (.ref a) :: s :: some (.ref d) :: r) H1) :
    tFor (iRng1 (tCons (tC (.int n)) tNil)) (gName 3) body D σ H := by
  refine ⟨n, rfl, by omega, by omega, ?_⟩
  refine for_range (fun _ => Inn a d (m + 1) H0) hi ?_ ?_
  · rintro i σ' H' _ ⟨⟨s, r, rfl, hr⟩, hs, hd⟩
    match r, hr with
    | x :: r, hr => exact step _ s r H' (Nat.succ.inj hr) hs hd
  · rintro σ' H' ⟨⟨s, r, rfl, hr⟩, hs, hd⟩
    exact done s r H' hr hs hd
end
section
variable {K : PySem.W.Frag} {σ : L2.St} {H : Hp} {te : TE} {xs : List V} {d : PyData} {z : V}
end
end Ck

namespace Ck
open PySem PySem.Spec PyProof.Rows L2
end Ck

namespace Ck
open PySem PySem.Spec PyProof.Rows L2 Evl RZ
section
variable {K : PySem.W.Frag} {H H' : Hp}
def Etu (K : PySem.W.Frag) (te : TE) (σ : L2.St) (H : Hp) (xs : List V) : Prop := ∀ H1, Ex H H1 → ∀ Q : VK, (∀ p H2, Ex H1 H2 → SqT K H2 p xs → Q (.ref p) H2) → te σ H1 Q
theorem etu_ev {te : TE} {σ : L2.St} {p : Addr} {xs : List V} (h : Ev te σ H (.ref p)) (hp : SqT K H p xs) : Etu K te σ H xs := fun H1 e Q q => h H1 e _ fun H2 e2 => q p H2 e2 (ex_t (e.trans e2) hp)
theorem zip_range (f : Int → Int → V) (ms ns : List Int) : (List.range (min ms.length ns.length)).map (fun i => f (ms.getD i 0) (ns.getD i 0)) = List.zipWith f ms ns := by
  apply List.ext_getElem
  · simp
  · intro i h1 h2
    simp only [List.length_map, List.length_range] at h1
    have a : i < ms.length := by omega
    have b : i < ns.length := by omega
    simp [List.getD_eq_getElem?_getD, a, b]
theorem el_zip2 {σ : L2.St} {ta tb te : TE} {ms ns : List Int} {j1 j2 : Nat} {ws : List Nat} (f : Int → Int → V) (h1 : Etu K ta σ H (ms.map V.int)) (h2 : Etu K tb σ H (ns.map V.int)) (hl : ms.length ≤ 40000)
    (hw : ∀ x y, wipe (((wipe σ ws).set j1 (some x)).set j2 (some y)) ws = wipe σ ws)
    (he : ∀ (i : Nat) H1, Ex H H1 → i < ms.length → i < ns.length → Ev te (((wipe σ ws).set j1 (some (.int (ms.getD i 0)))).set j2 (some (.int (ns.getD i 0)))) H1 (f (ms.getD i 0) (ns.getD i 0))) :
    EvL (tLc (iZipA K (tCons ta (tCons tb tNil))) (gTup K 2 (gCons (gName j1) (gCons (gName j2) gNil))) tYes te ws) σ H (List.zipWith f ms ns) := fun H0 e Q q =>
  h1 H0 e _ fun p H2 e2 hp => h2 H2 (e.trans e2) _ fun c H3 e3 hc => ⟨p, c, ms.map V.int, ns.map V.int, rfl, .inr ⟨ex_t e3 hp, hc, fun Dl hD => by
    have hp3 := ex_t e3 hp
    have e0 := (e.trans e2).trans e3
    refine lc_it (walk_zipT (n := min ms.length ns.length) (by rw [List.length_map, List.length_map])) (Cw H3 (fun _ => true) (fun i => f (ms.getD i 0) (ns.getD i 0)) Dl) ⟨hD, Ex.new hD, upd_same⟩ (fun i H' _ p => ⟨ex_t p.2.1 hp3, ex_t p.2.1 hc⟩) ?_ ?_
    · rintro i _ H' _ hi pw ⟨T, x, y, rfl, hT, rfl, hx, hy⟩
      have a : i < ms.length := by omega
      have b : i < ns.length := by omega
      have ex : x = .int (ms.getD i 0) := by
        have hx : (ms.map V.int)[i]? = some x := hx
        rw [List.getElem?_map, List.getElem?_eq_getElem a] at hx
        rw [List.getD_eq_getElem?_getD, List.getElem?_eq_getElem a]
        exact (Option.some.inj hx).symm
      have ey : y = .int (ns.getD i 0) := by
        have hy : (ns.map V.int)[i]? = some y := hy
        rw [List.getElem?_map, List.getElem?_eq_getElem b] at hy
        rw [List.getD_eq_getElem?_getD, List.getElem?_eq_getElem b]
        exact (Option.some.inj hy).symm
      subst ex ey
      have pw' : Cw H3 (fun _ => true) (fun i => f (ms.getD i 0) (ns.getD i 0)) Dl i (upd H' T (.tup [.int (ms.getD i 0), .int (ns.getD i 0)])) := ⟨pw.1, pw.2.1.trans (Ex.new hT), by
        rw [upd_ne (ne_of_none pw.2.2 hT)]
        exact pw.2.2⟩
      refine ⟨T, _, rfl, SqT.of upd_same, rfl, _, _, rfl, _, _, rfl, rfl, hw _ _, ?_⟩
      exact cw_turn pw' (by omega) (fun H2 _ Q q => q H2 (Ex.refl H2)) (fun _ => he i H3 e0 a b)
    · intro H' pw
      have g := pw.2.2
      rw [given_all, zip_range] at g
      exact q Dl H' (fresh_back (e2.trans e3) pw.1) ((e2.trans e3).trans pw.2.1) g⟩⟩
end
section
variable {K : PySem.W.Frag} {H H' : Hp} {l : Addr}
theorem ev_sum {tl : TE} {σ : L2.St} {ns : List Int} (h : Evl.EvL tl σ H (ns.map V.int)) : Evl.Ev (tCB (rSum K) (tCons tl tNil)) σ H (.int ns.sum) := fun H1 e Q q => h H1 e _ fun p H2 _ e2 hp => ⟨p, ns, rfl, SqL.of hp, q H2 e2⟩
end
theorem mul200 {a b : Int} (ha : a.natAbs < 10 ^ 200) (hb : b.natAbs < 10 ^ 200) : CMulW a b := wide_mul (a := 800) (b := 800) (Nat.lt_trans ha (by decide +kernel)) (Nat.lt_trans hb (by decide +kernel)) (by decide) (by decide) (by decide)
end Ck

namespace Ck
open PySem PySem.Spec PyProof.Rows L2 Evl RZ
section
variable {K : PySem.W.Frag} {σ : L2.St} {H : Hp} {ta tb te : TE} {tl th : TO} {xs ys : List V} {lo hi : Option Int} {v : V}
theorem etu_rev (h : Etu K te σ H xs) : Etu K (tRevT K te) σ H xs.reverse := fun H1 e Q q => h H1 e _ fun p H2 e2 hp => ⟨p, xs, rfl, hp, fun b hb => q b _ (e2.trans (Ex.new hb)) (SqT.of upd_same)⟩
theorem etu_sl (h : Etu K te σ H xs) (h1 : EvO tl σ H lo) (h2 : EvO th σ H hi) : Etu K (tSl (rSlA K) te tl th) σ H (cutV xs lo hi) := fun H1 e Q q => h H1 e _ fun p H2 e2 hp =>
  h1 H2 (e.trans e2) _ fun H3 e3 => h2 H3 ((e.trans e2).trans e3) _ fun H4 e4 => by
    have hp4 := ex_t (e3.trans e4) hp
    refine ⟨p, xs, rfl, hp4, fun w => ?_, fun _ b hb => q b _ ((e2.trans (e3.trans e4)).trans (Ex.new hb)) (SqT.of upd_same)⟩
    have z := q p H4 (e2.trans (e3.trans e4))
    rw [cutV_all xs w] at z
    exact z hp4
theorem etu_cat (ha : Etu K ta σ H xs) (hb : Etu K tb σ H ys) (hz : xs.length + ys.length ≤ 100000) : Etu K (tOp (rCatA K) ta tb) σ H (xs ++ ys) := fun H1 e Q q => ha H1 e _ fun a H2 e2 hx => hb H2 (e.trans e2) _ fun b H3 e3 hy => by
  have hx3 := ex_t e3 hx
  refine ⟨a, b, xs, ys, rfl, rfl, hx3, hy, sz_of hz, fun z => ?_, fun _ z => ?_, fun _ _ c hc => q c _ ((e2.trans e3).trans (Ex.new hc)) (SqT.of upd_same)⟩
  · subst z; exact q b H3 (e2.trans e3) hy
  · subst z; exact q a H3 (e2.trans e3) (by rw [List.append_nil]; exact hx3)
theorem etu_is (h : Etu K te σ H xs) (e : xs = ys) : Etu K te σ H ys := e ▸ h
theorem ed_etu {ns : List Int} (h : Etu K te σ H (ns.map V.int)) : Ed K te σ H (.tuple (ns.map PyData.int)) := fun H1 e Q q => h H1 e _ fun p H2 e2 hp => q (.ref p) H2 e2 (.tup hp (dpa_ints ns))
end
end Ck

namespace Ck
open PySem PySem.Spec PyProof.Rows L2
section
variable {P : Program} {w : World} {A : Around} {E : Value → Shared → Prop} {s : Shared}
theorem fill_tup {l : Addr} {items : Array Value} (ns : List Int) (hh : A.handled = none) (hl : s.heap.IsTuple l items) (hit : IntsAre items.toList ns) (hb : ns.length + 1 < scanBound) :
    codeAny (model P w) A (.call (.builtin "set.__init__") ⟨[.ref s.heap.objs.size, .ref l], []⟩)
      (wants (fun r s₂ => r = .none ∧ ∃ h' tk c, s₂ = { s with heap := h', toks := tk } ∧ Full w ns s h' c) E) (laidS w s) := by
  have sz : items.size = ns.length := (Array.length_toList (xs := items)).symm.trans (IntsAre.length hit)
  have at0 : (laidS w s).heap.get? s.heap.objs.size = some (emptyS w) := Heap.get?_push_size _ rfl
  have ty : (laidS w s).TypeIs (.ref s.heap.objs.size) "set" := ⟨emptyS w, at0, rfl⟩
  refine codeAny_call_builtin F.called_set.init.plain F.entry_set_init (check_set_init_1 ty ?_)
  obtain ⟨⟨k1, k2, k3, k4⟩, ho, e1, nl, e3⟩ := hl
  cases e1
  cases e3
  have ho' : (laidS w s).heap.get? l = some ⟨.type "tuple", k2, .seq items nl, k4⟩ := Heap.get?_push_of_some _ ho
  have isl : (laidS w s).heap.IsTuple l items := ⟨_, ho', rfl, nl, rfl⟩
  have q1 := PySem.F.sub_tuple_set
  have q2 := PySem.F.sub_tuple_frozenset
  have q3 : (Value.type "tuple" == Value.type "dict") = false := by decide
  unfold Builtin.«set.__init__» noKeywords Builtin.Frozenset.updateFrom
  generalize hp : pyIter = PI
  wp_walk
  subst hp
  refine wpAny_pyIter_tuple isl (wpAny_bind (wpAny_runValue ?_))
  have l0 : l < s.heap.objs.size := Heap.lt_size ho
  have n1 : (laidS w s).heap.objs.size = s.heap.objs.size + 1 := Heap.size_push ..
  have n2 : l ≠ (laidS w s).heap.objs.size := by rw [n1]; exact Nat.ne_of_lt (Nat.lt_succ_of_lt l0)
  have n3 : s.heap.objs.size ∉ [(laidS w s).heap.objs.size, l] := fun z => by
    rw [n1] at z
    rcases List.mem_cons.mp z with z | z
    · exact absurd z (Nat.ne_of_lt (Nat.lt_succ_self _))
    · exact absurd (List.mem_singleton.mp z) (Nat.ne_of_gt l0)
  have val : ∀ (i : Nat) (v : Value), items[i]? = some v → ∃ k t, ns[i]? = some k ∧ v = .int k t := by
    intro i v hv
    have hi : i < ns.length := sz ▸ (Array.getElem?_eq_some_iff.mp hv).1
    obtain ⟨t, e⟩ := IntsAre.int_at hit i v ((Array.getElem?_toList (xs := items)).trans hv)
    exact ⟨ns[i], t, List.getElem?_eq_getElem hi, by rw [e, List.getD_eq_getElem?_getD, List.getElem?_eq_getElem hi] <;> rfl⟩
  have W := (Walks.tuple (prog := P) (w := w) (show A.in1.in1.handled = none from hh) _ l n2 items).toS
  have start : (∃ c, c ≤ 0 ∧ SetR w ((laidS w s).heap.push { cls := .type "tuple_iterator", data := .fields #[.ref l, .int 0 0] }) s.heap.objs.size (fun j => decide (j ∈ ns.take 0)) c) :=
    ⟨0, Nat.le_refl 0, setR_new_at (Heap.get?_push_of_some _ at0)⟩
  refine set_update_ints W s.heap.objs.size n3 ns sz hb val _ 0 _ rfl (Nat.zero_le _) ?_ ?_ ?_
  · exact ⟨⟨_, Heap.get?_push_size _ rfl, rfl, rfl⟩, isl.push _⟩
  · exact start
  rintro ⟨h', g2, d2, tk, os2⟩ c mv hc hS
  obtain rfl : g2 = s.gens := mv.gens
  obtain rfl : d2 = s.drawn := mv.drawn
  obtain rfl : os2 = s.os := mv.os
  show wpAny _ _ _ _ _ _
  refine wpAny_pure ?_
  show wpAny _ _ (ret Value.none) _ _ _
  refine wpAny_pure ⟨rfl, h', tk, c, rfl, hS, sz ▸ hc, ?_⟩
  intro b o e
  have b0 : b < s.heap.objs.size := Heap.lt_size e
  refine mv.heap b o (fun z => ?_) (Heap.get?_push_of_some _ (Heap.get?_push_of_some _ e))
  rcases List.mem_cons.mp z with z | z
  · exact absurd z (Nat.ne_of_lt b0)
  · have z' := List.mem_singleton.mp z
    rw [n1] at z'
    exact absurd z' (Nat.ne_of_lt (Nat.lt_succ_of_lt b0))
theorem set_of_tup {l : Addr} {items : Array Value} (ns : List Int) {Q : Value → Shared → Prop} (hh : A.handled = none) (hl : s.heap.IsTuple l items) (hit : IntsAre items.toList ns) (hb : ns.length + 1 < scanBound)
    (h : ∀ (h' : Heap) (tk c : Nat), Full w ns s h' c → Q (.ref s.heap.objs.size) { s with heap := h', toks := tk }) :
    wpAny (model P w) A (call (.type "set") [.ref l]) Q E s := by
  obtain ⟨c0, t0, mro⟩ := F.called_set.mro
  have g1 := F.called_set.made
  have g2 := F.called_set.sub
  have g3 := F.called_set.notType
  have g4 := F.called_set.canCreate
  have g5 := F.typeCall_set_1 (.ref l)
  refine wpAny_call (codeAny_of_tree ?_)
  show wpAny _ _ (callAny (.type "set") _) _ _ _
  refine wpAny_pure ⟨Code.quiet_builtin _ (by decide +kernel), codeAny_builtin F.entry_type_call ?_⟩
  rw [Around.under_plain (weight_type_call_type "set" [.ref l] []) rfl]
  repeat (any_goals (first | assumption | wp_step))
  refine codeAny_mono (code_set_led1 (.ref l) (E := E) (Q₁ := fun obj s₁ => obj = .ref s.heap.objs.size ∧ s₁ = laidS w s) ⟨rfl, rfl⟩) ?_
  intro r s₁ hr
  match r, hr with
  | .error e, hr => exact hr
  | .ok .next, hr => exact hr.elim
  | .ok .brk, hr => exact hr.elim
  | .ok .cont, hr => exact hr.elim
  | .ok (.ret obj), hr =>
    obtain ⟨rfl, rfl⟩ := hr
    have ty : (laidS w s).TypeIs (.ref s.heap.objs.size) "set" := ⟨emptyS w, Heap.get?_push_size _ rfl, rfl⟩
    have g6 := F.called_set.init.lookup
    have g7 := F.called_set.init.bind (.ref s.heap.objs.size)
    repeat (any_goals (first | assumption | wp_step))
    refine codeAny_mono (fill_tup (E := E) ns (show A.in1.handled = none from hh) hl hit hb) ?_
    intro r₂ s₂ hr₂
    match r₂, hr₂ with
    | .error e, hr₂ => exact hr₂
    | .ok .next, hr₂ => exact hr₂.elim
    | .ok .brk, hr₂ => exact hr₂.elim
    | .ok .cont, hr₂ => exact hr₂.elim
    | .ok (.ret r), hr₂ =>
      obtain ⟨rfl, h', tk, c, rfl, full⟩ := hr₂
      repeat (any_goals (first | assumption | wp_step))
      exact h h' tk c full
end
section
variable {X : Cx}
def rSetT (K : PySem.W.Frag) (w : World) : List V → Hp → VK → Prop := fun xs H Q => ∃ (a : Addr) (ns : List Int), xs = [V.ref a] ∧ SqT K H a (ns.map V.int) ∧ ns.length < 60 ∧
  ∀ p c, H p = none → c ≤ ns.length → Q (.ref p) (upd H p (SetO w p (fun j => decide (j ∈ ns)) c))
theorem cr_setT (hc : X.calm = true) : CallR X (.type "set") (rSetT X.K X.w) := by
  intro pins s σ H xs us Q I r h
  obtain ⟨a, ns, rfl, hS, hl, q⟩ := h
  obtain ⟨u, rfl, ru⟩ := vals1 r
  cases (show u = Value.ref a from ru)
  obtain ⟨its, rv, pl, hz⟩ := I.tuple hS
  refine set_of_tup ns (I.ok.hd hc) pl (by simpa using rv.ints) (by unfold scanBound; omega) ?_
  rintro h' tk c ⟨hR, hcl, hk⟩
  exact ⟨.ref s.heap.objs.size, _, I.laid (t' := tk) hk (Nat.le_refl _) (setO_new hR), rfl, q _ c (I.hok.fresh (Nat.le_refl _)) hcl⟩
end
end Ck

namespace PySem
namespace CkX
open Builtin Builtin.ObjectAttr HandSPX
section
variable {prog : Program} {w : World} {A : Around} {E : Value → Shared → Prop} {R : Result → Shared → Prop} {hp : Heap} {g : Array GenState} {d : Drawn} {t : Nat} {os : OsState}
end
end CkX
end PySem
namespace Ck
open PySem PySem.Spec PyProof.Rows L2
section
variable {X : Cx} {pins : List (Addr × Obj)} {σ : L2.St} {H : Hp} {s : Shared} {a C : Addr} {f : Str} {y : V} {u : Value} {Q : Unit → Shared → Prop} {E : Value → Shared → Prop} {A : Around} {B newId sa ow : String} {T : List Value}
end
section
variable {X : Cx} {o e : Expr} {to te : TE} {f : Str} {p' pos : Pos} {B newId sa ow : String} {T : List Value}
end
section
variable {X : Cx} {e : Expr} {es : List Expr} {ta : TA} {p pos : Pos} {B newId initId : String} {T : List Value}
end
section
variable {P : Program} {w : World} {K : PySem.W.Frag} {mg : Str → Option Value} {base : Heap}
end
section
variable {X : Cx} {C : CXT} {k j : Nat} {x : Str} {f : Addr} {fd : FuncData} {ps : List Str} {sp : Sp} {E : L2.St → XK} {p pos : Pos} {e : Expr} {es : List Expr} {t : TA} {W : WX}
end
end Ck

namespace Ck
open PySem PySem.Spec PyProof.Rows L2
section
variable {X : Cx} {body : List Stmt} {h₀ : ExceptHandler} {hds : List ExceptHandler} {l : List Cl3} {pos : Pos} {tb : WX → TS} {Wo : WX}
end
end Ck

namespace Ck
open PySem PySem.Spec PyProof.Rows L2
section
variable {X : Cx} {x fld : Str} {B newId initId : String} {T : List Value} {C : Addr} {j : Nat} {e : Expr} {ta : TA} {p pos : Pos}
end
section
variable {P : Program} {w : World} {K : PySem.W.Frag} {mg : Str → Option Value} {base : Heap}
end
end Ck

namespace Ck
open PySem PySem.Spec PyProof.Rows L2
theorem sorted_one : ∀ {as bs : List Int}, as.Pairwise (· < ·) → bs.Pairwise (· < ·) → (∀ k, k ∈ as ↔ k ∈ bs) → as = bs
  | [], [], _, _, _ => rfl
  | [], b :: bs, _, _, h => nomatch (h b).mpr List.mem_cons_self
  | a :: as, [], _, _, h => nomatch (h a).mp List.mem_cons_self
  | a :: as, b :: bs, ha, hb, h => by
    obtain ⟨a1, a2⟩ := List.pairwise_cons.mp ha
    obtain ⟨b1, b2⟩ := List.pairwise_cons.mp hb
    have e : a = b := by
      rcases List.mem_cons.mp ((h a).mp List.mem_cons_self) with e | m1
      · exact e
      rcases List.mem_cons.mp ((h b).mpr List.mem_cons_self) with e | m2
      · exact e.symm
      have := b1 a m1
      have := a1 b m2
      omega
    subst e
    refine congrArg (a :: ·) (sorted_one a2 b2 fun k => ⟨fun hk => ?_, fun hk => ?_⟩)
    · rcases List.mem_cons.mp ((h k).mp (List.mem_cons_of_mem a hk)) with e | m
      · have := a1 k hk; omega
      · exact m
    · rcases List.mem_cons.mp ((h k).mpr (List.mem_cons_of_mem a hk)) with e | m
      · have := b1 k hk; omega
      · exact m
section
variable {K : PySem.W.Frag} {w : World} {σ : L2.St} {H : Hp} {te : TE} {ns us : List Int} {D : Ends} {z : TS} {i : Nat}
end
section
variable {K : PySem.W.Frag} {σ : L2.St} {H : Hp} {ta tb : TE} {t : TT} {d : PyData}
end
end Ck

namespace Ck
open PySem PySem.Spec PyProof.Rows L2 Evl
def insI (k : Int) : List Int → List Int
  | [] => [k]
  | a :: r => if k < a then k :: a :: r else if k = a then a :: r else a :: insI k r
def uni (ns : List Int) : List Int := ns.foldr insI []
theorem insI_mem {k j : Int} : ∀ {ns : List Int}, j ∈ insI k ns ↔ j = k ∨ j ∈ ns
  | [] => by unfold insI; simp
  | a :: r => by
    unfold insI
    split
    · exact List.mem_cons
    · split
      · next h => subst h; simp
      · rw [List.mem_cons, insI_mem, List.mem_cons]
        constructor <;> (intro h; rcases h with h | h | h <;> simp [h])
theorem insI_pw {k : Int} : ∀ {ns : List Int}, ns.Pairwise (· < ·) → (insI k ns).Pairwise (· < ·)
  | [], _ => by unfold insI; simp
  | a :: r, h => by
    obtain ⟨h1, h2⟩ := List.pairwise_cons.mp h
    unfold insI
    split
    · next l => exact List.pairwise_cons.mpr ⟨fun b hb => by
        rcases List.mem_cons.mp hb with rfl | hb
        · exact l
        · exact Int.lt_trans l (h1 b hb), h⟩
    · split
      · exact h
      · refine List.pairwise_cons.mpr ⟨fun b hb => ?_, insI_pw h2⟩
        rcases insI_mem.mp hb with rfl | hb
        · omega
        · exact h1 b hb
theorem uni_mem {k : Int} : ∀ {ns : List Int}, k ∈ uni ns ↔ k ∈ ns
  | [] => Iff.rfl
  | a :: r => by
    show k ∈ insI a (uni r) ↔ _
    rw [insI_mem, uni_mem, List.mem_cons]
theorem uni_pw : ∀ {ns : List Int}, (uni ns).Pairwise (· < ·)
  | [] => .nil
  | _ :: _ => insI_pw uni_pw
theorem uni_one {us ns : List Int} (h1 : us.Pairwise (· < ·)) (h2 : ∀ k, k ∈ us ↔ k ∈ ns) : uni ns = us := sorted_one uni_pw h1 fun k => uni_mem.trans (h2 k).symm
def Dv (a b : Int) : Prop := a < b ∧ b % a = 0
theorem asc_step {x y : Int} {r : List Int} (h : asc (x :: y :: r) = true) : x < y ∧ asc (y :: r) = true := by
  have h' : (decide (x < y) && asc (y :: r)) = true := h
  rw [Bool.and_eq_true] at h'
  exact ⟨of_decide_eq_true h'.1, h'.2⟩
theorem gap_step {x y : Int} {r : List Int} (h : gap (x :: y :: r) = none) : y % x = 0 ∧ gap (y :: r) = none := by
  have h' : ((x, y) :: adj (fun x y => (x, y)) (y :: r)).find? (fun p => !decide (p.2 % p.1 = 0)) = none := h
  rw [List.find?_cons] at h'
  cases z : decide (y % x = 0) with
  | true =>
    rw [z] at h'
    exact ⟨of_decide_eq_true z, h'⟩
  | false =>
    rw [z] at h'
    cases h'
theorem chain_pw : ∀ {ns : List Int}, asc ns = true → gap ns = none → (∀ n ∈ ns, 0 < n) → ns.Pairwise Dv
  | [], _, _, _ => .nil
  | [_], _, _, _ => List.pairwise_singleton _ _
  | x :: y :: r, h1, h2, h3 => by
    obtain ⟨a1, a2⟩ := asc_step h1
    obtain ⟨g1, g2⟩ := gap_step h2
    have ih := chain_pw a2 g2 fun n hn => h3 n (List.mem_cons_of_mem x hn)
    refine List.pairwise_cons.mpr ⟨fun b hb => ?_, ih⟩
    rcases List.mem_cons.mp hb with rfl | hb
    · exact ⟨a1, g1⟩
    · obtain ⟨l, d⟩ := (List.pairwise_cons.mp ih).1 b hb
      refine ⟨Int.lt_trans a1 l, Int.emod_eq_zero_of_dvd (Int.dvd_trans (Int.dvd_of_emod_eq_zero g1) (Int.dvd_of_emod_eq_zero d))⟩
theorem pw_gap : ∀ {ns : List Int}, ns.Pairwise Dv → gap ns = none
  | [], _ => rfl
  | [_], _ => rfl
  | x :: y :: r, h => by
    obtain ⟨h1, h2⟩ := List.pairwise_cons.mp h
    have d := (h1 y List.mem_cons_self).2
    show ((x, y) :: adj (fun x y => (x, y)) (y :: r)).find? (fun p => !decide (p.2 % p.1 = 0)) = none
    rw [List.find?_cons, decide_eq_true d]
    exact pw_gap h2
theorem pw_asc : ∀ {ns : List Int}, ns.Pairwise (· < ·) → asc ns = true
  | [], _ => rfl
  | [_], _ => rfl
  | x :: y :: r, h => by
    obtain ⟨h1, h2⟩ := List.pairwise_cons.mp h
    show (decide (x < y) && asc (y :: r)) = true
    rw [decide_eq_true (h1 y List.mem_cons_self), pw_asc h2]
    rfl
structure IsC (ns : List Int) : Prop where
  ne : ns ≠ []
  le : ns.length ≤ 12
  sz : ∀ n ∈ ns, 0 < n ∧ n.natAbs < 10 ^ 200
  pw : ns.Pairwise Dv
section
variable {K : PySem.W.Frag} {w : World} {σ : L2.St} {H : Hp} {ta tb te tl : TE} {tr : TA} {t : TT} {D : Ends} {body z : TS} {ns us : List Int} {xs : List V} {Pr : V → Hp → Prop} {S : L2.St → Prop} {n j : Nat}
theorem etu_of (h : Evl.EvU te σ H xs) : Etu K te σ H xs := fun H1 e Q q => h H1 e _ fun p H2 _ e2 hp => q p H2 e2 (SqT.of hp)
end
end Ck

namespace PySem
namespace CkM
open PySem PyProof.Rows
section
variable {prog : Program} {w : World} {A : Around} {R : Result → Shared → Prop} {I : Addr} {fp wr : List Addr} {n : Nat} {P : Nat → Value → Prop} {St : Nat → Heap → Prop} -- own
end
section
variable {prog : Program} {w : World} {A : Around} {E : Value → Shared → Prop} {s : Shared} -- own
end
end CkM
end PySem
namespace Ck
open PySem PySem.Spec PyProof.Rows L2
section
variable {X : Cx}
end
end Ck

namespace Ck
open PySem PySem.Spec PyProof.Rows L2 Evl
inductive F2 {α : Type} (R : V → α → Prop) : List V → List α → Prop
  | nil : F2 R [] []
  | cons {x : V} {a : α} {xs : List V} {as : List α} (h : R x a) (t : F2 R xs as) : F2 R (x :: xs) (a :: as)
theorem F2.imp {α : Type} {R S : V → α → Prop} (h : ∀ x a, R x a → S x a) : ∀ {xs : List V} {as : List α}, F2 R xs as → F2 S xs as
  | _, _, .nil => .nil
  | _, _, .cons a t => .cons (h _ _ a) (F2.imp h t)
theorem F2.app {α : Type} {R : V → α → Prop} : ∀ {xs ys : List V} {as bs : List α}, F2 R xs as → F2 R ys bs → F2 R (xs ++ ys) (as ++ bs)
  | _, _, _, _, .nil, h => h
  | _, _, _, _, .cons a t, h => .cons a (F2.app t h)
theorem F2.len {α : Type} {R : V → α → Prop} : ∀ {xs : List V} {as : List α}, F2 R xs as → xs.length = as.length
  | _, _, .nil => rfl
  | _, _, .cons _ t => congrArg (· + 1) (F2.len t)
theorem F2.at {α : Type} {R : V → α → Prop} : ∀ {xs : List V} {as : List α}, F2 R xs as → ∀ {i : Nat} {x : V}, xs[i]? = some x → ∃ a, as[i]? = some a ∧ R x a
  | _, _, .nil, i, x, h => by simp at h
  | _, _, .cons a t, 0, x, h => by
    obtain rfl := Option.some.inj h
    exact ⟨_, rfl, a⟩
  | _, _, .cons a t, i + 1, x, h => F2.at t (i := i) h
section
variable {K : PySem.W.Frag} {H H' : Hp}
theorem sqT_updL {t l : Addr} {xs ys : List V} {o : HO} (h : SqT K H t xs) (hl : H l = some (.lst ys)) : SqT K (upd H l o) t xs := by
  by_cases e : t = l
  · subst e
    rcases h with (z | ⟨o', z⟩) | z
    · rw [hl] at z; cases z
    · rw [hl] at z; cases z
    · exact .inr z
  · rcases h with (z | ⟨o', z⟩) | z
    · exact .inl (.inl (by rw [upd_ne e]; exact z))
    · exact .inl (.inr ⟨o', by rw [upd_ne e]; exact z⟩)
    · exact .inr z
end
section
variable {K : PySem.W.Frag} {σ : L2.St} {H : Hp} {tl te : TE} {tt : TT} {a : Addr} {ns : List Int} {j : Nat} {ws : List Nat} {α : Type} {R : Hp → V → α → Prop} {c : Int → Bool} {e : Int → α}
def EvR (R : Hp → V → α → Prop) (te : TE) (σ : L2.St) (H : Hp) (x : α) : Prop := ∀ H1, Ex H H1 → ∀ Q : VK, (∀ v H2, Ex H1 H2 → R H2 v x → Q v H2) → te σ H1 Q
theorem lc_tupF (L : ∀ H H' x b, Ex H H' → R H x b → R H' x b) (LU : ∀ H l xs ys x b, H l = some (.lst xs) → R H x b → R (upd H l (.lst ys)) x b) (h : Ev tl σ H (.ref a)) (hx : SqT K H a (ns.map V.int)) (hz : ns.length ≤ 40000) (hw : ∀ x, wipe ((wipe σ ws).set j (some x)) ws = wipe σ ws)
    (ht : ∀ n ∈ ns, ∀ H1, Ex H H1 → EvT tt ((wipe σ ws).set j (some (.int n))) H1 (c n)) (he : ∀ n ∈ ns, c n = true → ∀ H1, Ex H H1 → EvR R te ((wipe σ ws).set j (some (.int n))) H1 (e n)) :
    ∀ H1, Ex H H1 → ∀ Q : VK, (∀ D vs H2, H1 D = none → Ex H1 H2 → H2 D = some (.lst vs) → F2 (R H2) vs ((ns.filter c).map e) → Q (.ref D) H2) → tLc (iTup K tl) (gName j) tt te ws σ H1 Q := fun H0 e0 Q q => h H0 e0 _ fun H1 e1 => ⟨a, rfl, ⟨_, ex_t (e0.trans e1) hx⟩, fun D hD => by
  refine lc_it walk_tup (fun i H' => H1 D = none ∧ Ex H1 H' ∧ ∃ vs, H' D = some (.lst vs) ∧ vs.length ≤ i ∧ F2 (R H') vs (((ns.take i).filter c).map e)) ⟨hD, Ex.new hD, [], upd_same, Nat.le_refl _, .nil⟩ (fun i H' _ p => ex_t ((e0.trans e1).trans p.2.1) hx) ?_ ?_
  · rintro i x H2 H3 hi ⟨p1, p2, vs, p3, p4, p5⟩ ⟨e3, hxi⟩
    rw [e3]
    rw [List.length_map] at hi
    rw [List.getElem?_map, List.getElem?_eq_getElem hi] at hxi
    obtain rfl := Option.some.inj hxi
    have m := List.getElem_mem hi
    have e02 := (e0.trans e1).trans p2
    refine ⟨hw _, ht _ m H2 e02 H2 (Ex.refl H2) _ fun H4 e4 => ?_⟩
    have st : ns.take (i + 1) = ns.take i ++ [ns[i]] := by rw [List.take_add_one, List.getElem?_eq_getElem hi]; rfl
    cases hc : c ns[i] with
    | true =>
      refine iteT (he _ m hc H4 (e02.trans e4) H4 (Ex.refl H4) _ fun v H5 e5 hv => ⟨vs, (e4.trans e5) _ _ p3, sz_lt (by omega), p1, Ex.mut (p2.trans (e4.trans e5)) p1, vs ++ [v], upd_same, by rw [List.length_append]; exact Nat.succ_le_succ p4, ?_⟩)
      have hD5 : H5 D = some (.lst vs) := (e4.trans e5) _ _ p3
      rw [st, List.filter_append, List.map_append, show [ns[i]].filter c = [ns[i]] by rw [List.filter_cons, hc]; rfl]
      exact ((p5.imp fun x b r => LU _ _ _ _ _ _ hD5 (L _ _ _ _ (e4.trans e5) r)).app (.cons (LU _ _ _ _ _ _ hD5 hv) .nil))
    | false =>
      refine iteF ⟨p1, p2.trans e4, vs, e4 _ _ p3, Nat.le_succ_of_le p4, ?_⟩
      rw [st, List.filter_append, show [ns[i]].filter c = [] by rw [List.filter_cons, hc]; rfl, List.append_nil]
      exact p5.imp fun x b r => L _ _ _ _ e4 r
  · rintro H2 ⟨p1, p2, vs, p3, _, p5⟩
    rw [List.length_map, List.take_of_length_le (Nat.le_refl _)] at p5
    exact q D vs H2 (fresh_back e1 p1) (e1.trans p2) p3 p5⟩
end
end Ck

namespace PySem
namespace CkM
open PySem PyProof.Rows
section
variable {prog : Program} {w : World} {A : Around} {R : Result → Shared → Prop} {I : Addr} {fp wr : List Addr} {n : Nat} {P : Nat → Value → Prop} {St : Nat → Heap → Prop} {key : Value} {kwd : List (Str × Value)} {val : Nat → Nat} -- own
end
section
variable {prog : Program} {w : World} {A : Around} {E : Value → Shared → Prop} {s : Shared} -- own
end
end CkM
end PySem
namespace Ck
open PySem PySem.Spec PyProof.Rows L2 Evl
section
variable {X : Cx} {e de : Expr} {te td : TE} {p p1 p2 k1 k2 k3 pos : Pos}
theorem eqv_tups : ∀ (ms ns : List Int), PyData.eqvAll (ms.map PyData.int) (ns.map PyData.int) = decide (ms = ns)
  | [], [] => by simp [PyData.eqvAll]
  | [], _ :: _ => by simp [PyData.eqvAll]
  | _ :: _, [] => by simp [PyData.eqvAll]
  | m :: ms, n :: ns => by
    simp only [List.map_cons, PyData.eqvAll, PyData.eqv, eqv_tups ms ns]
    by_cases e : m = n
    · subst e; simp
    · rw [decide_eq_false (show ¬ (m :: ms = n :: ns) from fun z => e (List.cons.inj z).1), show (m == n) = false from by simp [e]]; rfl
end
end Ck

namespace Ck
open PySem PySem.Spec PyProof.Rows L2 Evl
section
variable {X : Cx} {o : Expr} {p pos apos mpos : Pos} {td : TE}
end
end Ck

namespace Ck
open PySem PySem.Spec PyProof.Rows L2
end Ck

namespace Ck
open PySem PySem.Spec PyProof.Rows L2 Evl
section
variable {K : PySem.W.Frag} {σ : L2.St} {H : Hp} {tl te : TE} {tt : TT} {a : Addr} {xs : List V} {j : Nat} {ws : List Nat} {α β : Type} {R : Hp → V → α → Prop} {R' : Hp → V → β → Prop} {as : List α} {c : α → Bool} {e : α → β}
end
end Ck

namespace Ck
open PySem PySem.Spec PyProof.Rows L2
section
variable {X : Cx} {pins : List (Addr × Obj)} {σ : L2.St} {H : Hp} {s : Shared} {D a : Addr} {fs : List (Str × V)}
end
end Ck
namespace Ck
open PySem PySem.Spec PyProof.Rows L2
end Ck
namespace Ck
open PySem PySem.Spec PyProof.Rows L2
def NoSm (base : Heap) : Prop := ∃ mm, base.Ns sysModules mm
section
variable {K : PySem.W.Frag} {H H' : Hp}
end
section
variable {X : Cx} {pins : List (Addr × Obj)} {σ : L2.St} {H : Hp} {s : Shared}
end
end Ck

namespace Ck
open PySem PySem.Spec PyProof.Rows L2
section
variable {P : Program} {w : World} {K : PySem.W.Frag} {mg mb : Str → Option Value} {k : Nat} {fa a : Addr} {fd : FuncData} {x : Str} {sp : Sp} {s₁ : Shared} {vs : List Value} {ns : List Int}
theorem law_runS (KX : K.In s₁.heap) (HM : NoSm s₁.heap) (hns : s₁.heap.Ns mainGlobals mg) (hb : s₁.heap.Ns builtinsNs mb) (hbb : ∀ x : Str, x ≠ "__name__" → mb x = bootBuiltins x)
    (hlim : s₁.heap.NoLimit) (hg : s₁.gens = #[]) (ha : s₁.heap.get? a = some { cls := .type "list", data := .seq vs.toArray }) (hr : Room k callerA)
    (F : ∀ base : Heap, K.In base → base.Ns mainGlobals mg → NoSm base → FnG P w K mg base CX0 k fa fd [x] sp) (hbind : ∀ (s : Shared) (u : Value), BindsTo s fd ⟨[u], []⟩ [(x, u)])
    (hsp : ∀ H : Hp, Only H → SqL K H a (ns.map V.int) → sp [.ref a] H (fun v _ => v = .bl true) fun _ _ _ => False)
    (H : Hp) (hO : Only H) (hS : SqL K H a (ns.map V.int)) (hok : HOk P w H s₁.heap) (only : ∀ b u, H b = some u → b = a) (off : ∀ u, H a = some u → K.lookup a = none) :
    codeAny (model P w) callerA (.call (.ref fa) ⟨[.ref a], []⟩) (Fine s₁) s₁ := by
  -- a dict is not the script: it stays in the base
  have dictOff : ∀ (b : Addr) (o : Obj) (es : Array DictEntry) (ep : Nat), s₁.heap.get? b = some o → o.data = .dict es ep → H b = none := by
    intro b o es ep e d
    match q : H b with
    | none => rfl
    | some u =>
      rw [only b u q, ha] at e
      obtain rfl := Option.some.inj e
      cases d
  have nsOff : ∀ (b : Addr) (m : Str → Option Value), s₁.heap.Ns b m → (hidT s₁.heap H).Ns b m := by
    rintro b m ⟨o, es, ep, e, d, r⟩
    exact ⟨o, es, ep, hidT_get e (dictOff b o es ep e d), d, r⟩
  have inB : K.In (hidT s₁.heap H) := by
    intro b o e
    refine hidT_get (KX b o e) ?_
    match q : H b with
    | none => rfl
    | some u =>
      have z := only b u q
      rw [z] at q e
      rw [off u q] at e
      cases e
  have M : Mod K mg (hidT s₁.heap H) := by
    obtain ⟨mc, h1, h2⟩ := hlim
    exact ⟨inB, nsOff _ _ hns, ⟨mb, nsOff _ _ hb, hbb⟩, ⟨mc, nsOff _ _ h1, h2⟩⟩
  have no : ∀ (b : Addr), b ∉ frs [] := fun b z => by cases z
  have E0' : Env0 P w K mg (hidT s₁.heap H) callerA [] s₁ H :=
    ⟨rfl, M, fun b o e => of_hidT e, Nat.le_of_eq (hidT_size s₁.heap H), trivial, fun b z => (no b z).elim, hok, .of_eq hg⟩
  have run := (F (hidT s₁.heap H) inB (nsOff _ _ hns) (HM.imp fun _ z => nsOff _ _ z)).run callerA [] s₁ H ⟨[.ref a], []⟩ [.ref a] [.ref a] (fun v _ => v = .bl true) (fun _ _ _ => False) hr rfl E0' (hbind s₁ (.ref a)) (.cons rfl .nil) (hsp H hO hS)
  refine codeAny_mono run ?_
  intro r s' h
  match r, h with
  | .error _, h => exact h.elim
  | .ok .next, h => exact h.elim
  | .ok .brk, h => exact h.elim
  | .ok .cont, h => exact h.elim
  | .ok (.ret u), h =>
    obtain ⟨v, H', os, bare, un, hok', rv, q⟩ := h
    cases q
    cases rv
    refine ⟨rfl, OldK.of_keep ?_, os, bare⟩
    intro b o e
    match q : H b with
    | none => exact un.keep b o e q (no b) (List.not_mem_nil)
    | some u =>
      cases hO b with
      | inl z => rw [q] at z; cases z
      | inr z =>
        obtain ⟨ob, xs, z⟩ := z
        have e1 := (hok b _ z).1
        rw [e] at e1
        obtain rfl := Option.some.inj e1
        exact (hok' b _ (un.frzs b _ _ z)).1
theorem law_doneS (KX : K.In s₁.heap) (HM : NoSm s₁.heap) (hns : s₁.heap.Ns mainGlobals mg) (hb : s₁.heap.Ns builtinsNs mb) (hbb : ∀ x : Str, x ≠ "__name__" → mb x = bootBuiltins x)
    (hlim : s₁.heap.NoLimit) (hg : s₁.gens = #[]) (ha : s₁.heap.get? a = some { cls := .type "list", data := .seq vs.toArray }) (hi : IntsAre vs ns) (hl : ns.length ≤ sizeLine) (hr : Room k callerA)
    (F : ∀ base : Heap, K.In base → base.Ns mainGlobals mg → NoSm base → FnG P w K mg base CX0 k fa fd [x] sp) (hbind : ∀ (s : Shared) (u : Value), BindsTo s fd ⟨[u], []⟩ [(x, u)])
    (hsp : ∀ H : Hp, Only H → SqL K H a (ns.map V.int) → sp [.ref a] H (fun v _ => v = .bl true) fun _ _ _ => False) :
    codeAny (model P w) callerA (.call (.ref fa) ⟨[.ref a], []⟩) (Fine s₁) s₁ := by
  have rv : Vals (ns.map V.int) vs := vals_ints hi
  have sz : vs.length ≤ sizeLine := by rw [← rv.length, List.length_map]; exact hl
  match hk : K.lookup a with
  | some o =>
    have e := KX a o hk
    rw [ha] at e
    obtain rfl := Option.some.inj e
    exact law_runS KX HM hns hb hbb hlim hg ha hr F hbind hsp (fun _ => none) (fun _ => .inl rfl) (.inr ⟨_, vs.toArray, _, hk, rfl, rfl, rfl, by simpa using sz, by simpa using rv⟩)
      (fun b u z => nomatch z) (fun b u z => nomatch z) (fun u z => nomatch z)
  | none =>
    let o : Obj := { cls := .type "list", data := .seq vs.toArray }
    let H : Hp := fun b => if b = a then some (.frz o (.lst (ns.map V.int))) else none
    have hA : H a = some (.frz o (.lst (ns.map V.int))) := if_pos rfl
    have hN : ∀ b, b ≠ a → H b = none := fun b z => if_neg z
    refine law_runS KX HM hns hb hbb hlim hg ha hr F hbind hsp H (fun b => ?_) (.inl (.inr ⟨o, hA⟩)) (fun b u z => ?_) (fun b u z => ?_) (fun _ _ => hk)
    · by_cases q : b = a
      · rw [q]; exact .inr ⟨_, _, hA⟩
      · exact .inl (hN b q)
    · by_cases q : b = a
      · rw [q] at z ⊢
        rw [hA] at z
        obtain rfl := Option.some.inj z
        exact ⟨ha, by rw [List.length_map]; exact hl, vs, _, rv, ha⟩
      · rw [hN b q] at z; cases z
    · by_cases q : b = a
      · exact q
      · rw [hN b q] at z; cases z
end
theorem walk_gS {l : PySem.W.OpenLaw} {n k : Nat} {q : Program} {loose : List Str} {XP : (Str → Option Value) → Heap → Prop} {YP : World → Heap → Prop} {d : DefRec} {K : Params → PySem.W.Frag} {sp : World → Sp} {x : Str}
    (hq : importsNone q = true) (hn : l.most = some n) (hn2 : n ≤ sizeLine) (hdf : d.params.defaults = []) (hr : Room k callerA)
    (hY : ∀ (w : World) (h : Heap), YP w h → (K w.params).In h)
    (F : ∀ (w : World) (mg : Str → Option Value) (fa : Addr) (h : Heap), (K w.params).In h → h.Ns mainGlobals mg → mg d.name = some (.ref fa) →
      ∃ fd : FuncData, (∀ (s : Shared) (u : Value), BindsTo s fd ⟨[u], []⟩ [(x, u)]) ∧
        ∀ base : Heap, (K w.params).In base → base.Ns mainGlobals mg → NoSm base → FnG l.prog w (K w.params) mg base CX0 k fa fd [x] (sp w))
    (hsp : ∀ (w : World) (H : Hp) (a : Addr) (ns : List Int), ns.length ≤ n → Only H → SqL (K w.params) H a (ns.map V.int) → sp w [.ref a] H (fun v _ => v = .bl true) fun _ _ _ => False) :
    PySem.W.WalkO q loose XP YP l.row.toRowW d [] (fun f vs => PySem.call f vs) := by
  refine Att.attach_call hn hdf ?_
  intro w s₀ s₁ mg mb fa o pm cd doc a vs ns G Y ho hd hcd hmg hobj hints hlen hg
  have KX := hY w s₁.heap Y
  obtain ⟨fd, hb, hF⟩ := F w mg fa s₁.heap KX G.T.g hmg
  exact law_doneS KX (let ⟨mm, z, _⟩ := (G.T.seer hq).mods; ⟨mm, z⟩) G.T.g G.T.b G.T.builtins G.T.nolimit hg hobj hints (Nat.le_trans hlen hn2) hr hF hb (fun H hO hS => hsp w H a ns hlen hO hS)
end Ck

namespace PySem
namespace CkX
open HandSPX Builtin
section
variable {prog : Program} {w : World} {A : Around} {E : Value → Shared → Prop} {R : Result → Shared → Prop} {h : Heap} {g : Array GenState} {d : Drawn} {t : Nat} {os : OsState}
variable {nm q : Str} {C N : Addr} {bs bm bmB : List Value} {hdct : Bool} {sn : List Str} {sub : List Value} {ab : Bool} {col : Option Bool} {dd : Option Addr} {k0 k1 k2 k3 k5 : Option Value} {B newId initId : String}
end
end CkX
end PySem
namespace Ck
open PySem PySem.Spec PyProof.Rows L2
section
variable {X : Cx} {e : Expr} {es : List Expr} {ta : TA} {p pos : Pos} {B newId initId : String} {T bmB : List Value}
end
section
variable {X : Cx} {x fld : Str} {B newId initId : String} {T bmB : List Value} {C : Addr} {j : Nat} {e : Expr} {ta : TA} {p pos : Pos}
end
end Ck

namespace Ck
open PySem PySem.Spec PyProof.Rows L2 L2H
section
variable {P : Program} {w : World} {K : PySem.W.Frag} {mg : Str → Option Value} {base : Heap}
end
section
variable {X : Cx} {k j : Nat} {x : Str} {sp : Addr → Value → Option Addr → Sp} {p pos : Pos} {e : Expr} {es : List Expr} {t : TA} {a : Addr} {oe : Obj} {pn : List (Addr × Obj)} {cls : Value} {d : Option Addr}
end
end Ck

namespace Ck
open PySem PySem.Spec PyProof.Rows L2 RZ
section
variable {K : PySem.W.Frag} {σ : L2.St} {H H' : Hp} {ta tb te : TE} {tr : TA} {v : V} {d : PyData} {ds es : List PyData}
end
end Ck
namespace Ck
open PySem PySem.Spec PyProof.Rows L2 RZ
section
variable {K : PySem.W.Frag} {d : Addr} {H H' : Hp}
end
end Ck

namespace Ck
open PySem PySem.Spec PyProof.Rows L2 StX
section
variable {P : Program} {w : World} {K : PySem.W.Frag} {mg : Str → Option Value} {base : Heap} {k : Nat} {x : Str} {sp : Sp}
theorem Cl.g (c : Cl P w K mg base k x sp) : Cg P w K mg base CX0 k x sp := by
  obtain ⟨f, fd, ps, F, h1, h2, h3⟩ := c
  exact ⟨f, fd, ps, .of F, h1, h2, h3⟩
end
structure Klass (K : PySem.W.Frag) (mg : Str → Option Value) (x : Str) (C : Addr) : Prop where
  g : mg x = some (.ref C)
  cl : Cls K C
  mks : PySem.W.makesIn K C = true
  kp : PySem.W.keepIn K (.ref C) = true
  ha : PySem.W.findIn K (.ref C) "__class__" = some (some (.builtin "object.__class__"))
  hn : PySem.W.specialIn K (.builtin "object.__class__") "__get__" = some (some (.builtin "getset_descriptor.__get__"))
  ht : PySem.W.takesIn K (.builtin "object.__class__") = some true
theorem Klass.ty {K : PySem.W.Frag} {mg : Str → Option Value} {x : Str} {C a dx : Addr} {fs : List (Str × V)} {H : Hp} (c : Klass K mg x C) (e : H a = some (.ins C dx fs)) : TyX K H (.ref a) (.ref C) :=
  .base (.ins e c.cl c.ha c.hn c.ht (mro_obj c.mks))
section
variable {X : Cx} {CX : CXT} {k n : Nat} {f C : Addr} {fd : FuncData} {ps : List Str} {sp : Sp} {E : XK} {x : Str} {e : Expr} {te : TE} {p sp_ pos : Pos}
theorem pe_makeR0 (M : Mk X.K C f) (F : FnR X.prog X.w X.K X.mg X.base CX k f sp) (hr : Room (k + 1) X.A) (hg : Gl X x) (hm : X.mg x = some (.ref C)) (hx : Passes CX X E) (hdb : (x == ("__debug__" : Str)) = false := by decide) :
    PE X (.Call (.Name x p) [] [] pos) (tMakeR C sp E tNil) := by
  refine ⟨fun pins s σ H Q I h => ?_⟩
  refine wpAny_Call_Name_kw (ld_glob I hg hm ?_ hdb)
  exact PySem.W.callWith_K0 I.kIn M.kp (run_makeR (us := []) (vs := []) M F hr hx I .nil h)
theorem run_ownC {A : Around} {pins : List (Addr × Obj)} {σ : L2.St} {H : Hp} {s : Shared} {us : List Value} {vs : List V} {Q : VK} {R : Result → Shared → Prop}
    (F : FnOk X.prog X.w X.K X.mg X.base CX0 n f fd ps sp) (hb : Binds X.K fd ps []) (hr : Room n A) (hf : A.frames = X.A.frames) (I : Inv X pins σ H s) (r : Vals vs us) (h : sp vs H Q E0)
    (hR : ∀ v u H' s', Inv X pins σ H' s' → RelV v u → Q v H' → R (.ok (.ret u)) s') : codeAny (model X.prog X.w) A (.call (.ref f) ⟨us, []⟩) R s := by
  have hl : us.length = ps.length := r.length.symm.trans (F.len vs H Q E0 h)
  have e0 : Env0 X.prog X.w X.K X.mg X.base A X.stack s H := by
    have e := I.env0
    exact ⟨by rw [hf]; exact e.frames, e.mod, e.bs, e.bsz, e.funs, e.frf, e.hok, e.bare⟩
  refine codeAny_mono (F.run A X.stack s H ⟨us, []⟩ us vs Q E0 hr e0 (by
    have z := hb s us I.kIn (by rw [List.append_nil]; exact hl)
    rw [List.append_nil] at z
    exact z) r h) fun r' s' hq => ?_
  cases r' with
  | error e => exact hq.elim
  | ok fl =>
    cases fl with
    | ret u =>
      obtain ⟨v, H', I', rv, q⟩ := I.after hq
      exact hR v u H' s' I' rv q
    | next => exact hq.elim
    | brk => exact hq.elim
    | cont => exact hq.elim
theorem run_own {A : Around} {pins : List (Addr × Obj)} {σ : L2.St} {H : Hp} {s : Shared} {us : List Value} {vs : List V} {Q : VK} {R : Value → Shared → Prop} {Er : Value → Shared → Prop}
    (F : FnOk X.prog X.w X.K X.mg X.base CX0 n f fd ps sp) (hb : Binds X.K fd ps []) (hr : Room n A) (hf : A.frames = X.A.frames) (I : Inv X pins σ H s) (r : Vals vs us) (h : sp vs H Q E0)
    (hR : ∀ v u H' s', Inv X pins σ H' s' → RelV v u → Q v H' → R u s') : wpAny (model X.prog X.w) A (call (.ref f) us) R Er s :=
  wpAny_call (run_ownC F hb hr hf I r h hR)
abbrev isB (Q : VK) : VK := fun v H' => ∃ b, v = .bl b ∧ Q (.bl b) H'
theorem op_inO (F : FnOk X.prog X.w X.K X.mg X.base CX0 n f fd ps sp) (hs : PySem.W.findIn X.K (.ref C) "__contains__" = some (some (.ref f))) (hf : PySem.W.isFn X.K (.ref f) = true) (hb : Binds X.K fd ps []) (hr : Room n X.A) :
    OpR X (compareOp .In) (fun x y H Q => ∃ a dx fs, y = .ref a ∧ H a = some (.ins C dx fs) ∧ sp [.ref a, x] H (isB Q) E0) := by
  intro pins s σ H x y v u Q I rx ry h
  obtain ⟨a, dx, fs, rfl, ha, hsp⟩ := h
  cases ry
  obtain ⟨mA, J, _⟩ := ins_get I.hok ha
  obtain ⟨od, J, _⟩ := J.look
  obtain ⟨m, hF⟩ := I.fr
  refine PySem.W.in_K hF I.ok.mod.kin J hs hf (run_own (vs := [.ref a, x]) F hb hr rfl I (.cons rfl (.cons rx .nil)) hsp fun v u H' s' I' rv q => ?_)
  obtain ⟨b, rfl, q⟩ := q
  cases rv
  exact wpAny_truthy_bool ⟨.bl b, H', I', rfl, q⟩
end
section
variable {M : Model} {prog : Program} {w : World} {A : Around} {E : Value → Shared → Prop} {s : Shared} {K : PySem.W.Frag} {x C : Addr} {ox : Obj} {od : Option Obj}
end
section
variable {X : Cx} {n : Nat} {f C : Addr} {fd : FuncData} {ps : List Str} {sp : Sp}
end
end Ck

namespace Ck
open PySem PySem.Spec PyProof.Rows L2
def ItM (K : PySem.W.Frag) (a b : Addr) : It :=
  ⟨fun i H => ∃ (xs ys : List V) (x y : V), (SqT K H a xs ∧ SqL K H b ys) ∧ xs[i]? = some x ∧ ys[i]? = some y,
    fun i H v H' => ∃ T x y, v = .ref T ∧ H T = none ∧ H' = upd H T (.tup [x, y]) ∧ (∀ us, SqT K H a us → us[i]? = some x) ∧ ∀ us, SqL K H b us → us[i]? = some y,
    fun i H => ∃ xs ys : List V, (SqT K H a xs ∧ SqL K H b ys) ∧ (i = xs.length ∧ i ≤ ys.length ∨ i ≤ xs.length ∧ i = ys.length)⟩
abbrev cells5 (z ti to i1 i2 : Addr) : List Addr := [z, ti, to, i1, i2]
theorem in5 {z ti to i1 i2 c : Addr} (h : c ∈ cells5 z ti to i1 i2) : c = z ∨ c = ti ∨ c = to ∨ c = i1 ∨ c = i2 := by simpa using h
theorem no5 {z ti to i1 i2 c : Addr} (h : c ∉ cells5 z ti to i1 i2) : c ≠ z ∧ c ≠ to ∧ c ≠ i1 ∧ c ≠ i2 :=
  ⟨fun e => h (by simp [e]), fun e => h (by simp [e]), fun e => h (by simp [e]), fun e => h (by simp [e])⟩
def ZipS (a b z ti to i1 i2 : Addr) (i : Nat) (h : Heap) : Prop :=
  IsZip h z ti to .none ∧ IsTupOf2 h ti (.ref i1) (.ref i2) ∧ (∃ x y, IsTupOf2 h to x y) ∧ h.IsTupleIter i1 a i ∧ h.IsListIter i2 b i
theorem turnM {P : Program} {w : World} {K : PySem.W.Frag} {es : List Expr} {kk : Nat} {tp : Pos} {a b z ti to i1 i2 : Addr} (D : ZipSep2 z ti to i1 i2 [i1, a] [i2, b]) (na : a ≠ i1) (nb : b ≠ i2) :
    Turn P w K (.Tuple es kk tp) (ItM K a b) (cells5 z ti to i1 i2) z (ZipS a b z ti to i1 i2) where
  mem := List.mem_cons_self
  obj := by
    rintro i h ⟨s1, s2, ⟨x, y, s3⟩, ⟨o1, e1, _, d1⟩, ⟨o2, e2, _, d2⟩⟩ c hc
    rcases in5 hc with rfl | rfl | rfl | rfl | rfl
    · exact ⟨_, s1, fun v => Data.noConfusion⟩
    · exact ⟨_, s2, fun v => Data.noConfusion⟩
    · exact ⟨_, s3, fun v => Data.noConfusion⟩
    · exact ⟨o1, e1, fun v => by rw [d1]; exact Data.noConfusion⟩
    · exact ⟨o2, e2, fun v => by rw [d2]; exact Data.noConfusion⟩
  keep := by
    rintro i h h' ⟨s1, s2, ⟨x, y, s3⟩, s4, s5⟩ k
    have q : ∀ c, c ∈ cells5 z ti to i1 i2 → ∀ o, h.get? c = some o → h'.get? c = some o := k
    exact ⟨q z (by simp) _ s1, q ti (by simp) _ s2, ⟨x, y, q to (by simp) _ s3⟩, s4.at (q i1 (by simp)), s5.at (q i2 (by simp))⟩
  item := by
    intro X e1 e2 e3 hc i pins s σ H E I hf st hg
    subst e1 e2 e3
    obtain ⟨s1, s2, ⟨x0, y0, s3⟩, s4, s5⟩ := st
    obtain ⟨xs, ys, x, y, ⟨qx, qy⟩, gx, gy⟩ := hg
    obtain ⟨us, ru, pu, _⟩ := I.tuple qx
    obtain ⟨ws, rw', pw, _⟩ := I.list qy
    obtain ⟨u, hu, rxu⟩ := ru.get gx
    obtain ⟨v, hv, ryv⟩ := rw'.get gy
    have hh : X.A.in1.handled = none := I.ok.hd hc
    have lu := (List.getElem?_eq_some_iff.mp hu).1
    have lv := (List.getElem?_eq_some_iff.mp hv).1
    have zl := Heap.lt_size s1
    refine wpAny_pyNext_zipD2_item D (Draws.tuple hh i1 a na us.toArray) (Draws.list hh i2 b nb ws.toArray) s1 s2 s3 ⟨s4, pu⟩ ⟨s5, pw.isList⟩ (by simpa using lu) (by simpa using lv) ?_
    intro u' v' h' tk eu ev z' to' i1' i2' nt sz kp
    obtain rfl : u = u' := Option.some.inj (hu.symm.trans (by simpa using eu))
    obtain rfl : v = v' := Option.some.inj (hv.symm.trans (by simpa using ev))
    refine ⟨_, rfl, wpAny_letOwnedTupleGo_zip (s := { s with heap := h', toks := tk }) z' fun h2 z2 sb => ?_⟩
    have stay : ∀ c o, c ∉ cells5 z ti to i1 i2 → s.heap.get? c = some o → h2.get? c = some o := fun c o n e => by
      obtain ⟨n1, n2, n3, n4⟩ := no5 n
      exact (sb.2 c n1).trans (kp c o n1 n2 n3 n4 e)
    have new : ObjOk X.prog X.w (upd H s.heap.objs.size (.tup [x, y])) h2 s.heap.objs.size (.tup [x, y]) :=
      ⟨(show 2 ≤ sizeLine by decide), [u, v], .cons rxu (.cons ryv .nil), ⟨_, (sb.2 _ (Nat.ne_of_gt zl)).trans nt, rfl, _, rfl⟩⟩
    have J := I.turnedNew (t' := tk) (ch := cells5 z ti to i1 i2) stay hf (Nat.le_refl _) new
    have fr := I.hok.fresh (Nat.le_refl s.heap.objs.size)
    refine ⟨.ref s.heap.objs.size, _, J, rfl, ⟨_, x, y, rfl, fr, rfl, fun l hl => ?_, fun l hl => ?_⟩, ⟨z2, ?_, ⟨u, v, ?_⟩, ?_, ?_⟩, fun c hcm => ?_⟩
    · rw [I.tuple_inj hl qx]; exact gx
    · rw [I.list_inj hl qy]; exact gy
    · exact (sb.2 ti D.TIz).trans (kp ti _ D.TIz D.TITO D.TIi1 D.TIi2 s2)
    · exact (sb.2 to D.TOz).trans to'
    · exact i1'.1.at fun o q => (sb.2 i1 D.zi1.symm).trans q
    · exact i2'.1.at fun o q => (sb.2 i2 D.zi2.symm).trans q
    · have lt : c < s.heap.objs.size := by
        rcases in5 hcm with e | e | e | e | e
        · exact e ▸ zl
        · exact e ▸ Heap.lt_size s2
        · exact e ▸ Heap.lt_size s3
        · obtain ⟨_, q, _⟩ := s4
          exact e ▸ Heap.lt_size q
        · obtain ⟨_, q, _⟩ := s5
          exact e ▸ Heap.lt_size q
      rw [upd_ne (Nat.ne_of_lt lt)]
      exact (hf c hcm).1
  done := by
    intro X e1 e2 e3 hc i pins s σ H E I hf st hg
    subst e1 e2 e3
    obtain ⟨s1, s2, ⟨x0, y0, s3⟩, s4, s5⟩ := st
    obtain ⟨xs, ys, ⟨qx, qy⟩, hend⟩ := hg
    obtain ⟨us, ru, pu, _⟩ := I.tuple qx
    obtain ⟨ws, rw', pw, _⟩ := I.list qy
    have hh : X.A.in1.handled = none := I.ok.hd hc
    have l1 := ru.length
    have l2 := rw'.length
    refine wpAny_pyNext_zipD2_end D (Draws.tuple hh i1 a na us.toArray) (Draws.list hh i2 b nb ws.toArray) s1 s2 s3 ⟨s4, pu⟩ ⟨s5, pw.isList⟩ (by simp; omega) (by simp; omega) (by simp; omega) fun h' tk kp => ⟨rfl, ?_⟩
    refine I.turnedL (t' := tk) (ch := cells5 z ti to i1 i2) (fun c o n e => ?_) hf
    obtain ⟨n1, n2, n3, n4⟩ := no5 n
    exact kp c o n1 n2 n3 n4 e
  self := fun A i s Q E st h => wpAny_pyIter_zip st.1 h
end Ck

namespace Ck
open PySem PySem.Spec PyProof.Rows L2 Evl
def cnt : List (Int × Int) → Int → Option Int
  | [], _ => none
  | p :: r, s => if p.1 = s then some p.2 else cnt r s
def kc (p : Int × Int) : Key × V := (Sum.inl p.1, V.int p.2)
theorem valV_kc (s : Int) : ∀ ps : List (Int × Int), valV (ps.map kc) (Sum.inl s : Key) = (cnt ps s).map V.int
  | [] => rfl
  | p :: r => by
    by_cases e : p.1 = s
    · rw [List.map_cons, valV_pos (show (kc p).1 = Sum.inl s from congrArg Sum.inl e)]
      unfold cnt
      rw [if_pos e]
      rfl
    · rw [List.map_cons, valV_neg (show ¬ (kc p).1 = Sum.inl s from fun z => e (Sum.inl.inj z)), valV_kc s r]
      conv => rhs; unfold cnt
      rw [if_neg e]
theorem cnt_none {s : Int} : ∀ {ps : List (Int × Int)}, cnt ps s = none ↔ s ∉ ps.map Prod.fst
  | [] => by simp [cnt]
  | p :: r => by
    unfold cnt
    by_cases e : p.1 = s
    · simp [e]
    · rw [if_neg e, cnt_none (ps := r)]
      simp [Ne.symm e]
theorem cnt_mem {s c : Int} : ∀ {ps : List (Int × Int)}, (ps.map Prod.fst).Nodup → ((s, c) ∈ ps ↔ cnt ps s = some c)
  | [], _ => by simp [cnt]
  | p :: r, h => by
    obtain ⟨h1, h2⟩ := List.nodup_cons.mp h
    unfold cnt
    by_cases e : p.1 = s
    · rw [if_pos e]
      constructor
      · intro m
        rcases List.mem_cons.mp m with z | z
        · rw [← z]
        · exact absurd (List.mem_map.mpr ⟨_, z, e.symm⟩) h1
      · intro z
        rw [← Option.some.inj z, ← e]
        exact List.mem_cons_self
    · rw [if_neg e, ← cnt_mem (ps := r) h2]
      constructor
      · intro m
        rcases List.mem_cons.mp m with z | z
        · exact absurd (by rw [← z]) e
        · exact z
      · exact fun z => List.mem_cons_of_mem _ z
abbrev Dk (H : Hp) (d : Addr) (ps : List (Int × Int)) : Prop := Rd H d (.dK (ps.map kc))
theorem Dk.get {H : Hp} {d : Addr} {ps : List (Int × Int)} {s : Int} (h : Dk H d ps) : DGet H d (.int s) ((cnt ps s).map V.int) := .inl ⟨_, Sum.inl s, h, rfl, (valV_kc s ps).symm⟩
def Fz (d : Addr) (u : HO) (H H1 : Hp) : Prop := (∀ a o, a ≠ d → H a = some o → H1 a = some o) ∧ ∃ od, H1 d = some (.frz od u)
theorem Fz.to {d : Addr} {u : HO} {H H1 H2 : Hp} (h : Fz d u H H1) (e : Ex H1 H2) : Fz d u H H2 := ⟨fun a o n k => e _ _ (h.1 a o n k), h.2.imp fun _ k => e _ _ k⟩
theorem Fz.of {d : Addr} {u : HO} {H H0 H1 : Hp} (h : Fz d u H0 H1) (e : Ex H H0) : Fz d u H H1 := ⟨fun a o n k => h.1 a o n (e _ _ k), h.2⟩
theorem Fz.back {d : Addr} {u : HO} {H H1 : Hp} (h : Fz d u H H1) (hd : H d = some u) : Ex H (upd H1 d u) := fun a o k => by
  by_cases z : a = d
  · rw [z, hd] at k
    rw [z, upd_same]
    exact k
  · rw [upd_ne z]
    exact h.1 a o z k
theorem Fz.new {d p : Addr} {u : HO} {H H1 : Hp} (h : Fz d u H H1) (hd : H d = some u) (hp : H1 p = none) : H p = none ∧ p ≠ d := by
  obtain ⟨k, od, e⟩ := h
  have n : p ≠ d := fun z => by rw [z, e] at hp; cases hp
  refine ⟨?_, n⟩
  cases q : H p with
  | none => rfl
  | some o =>
    rw [k p o n q] at hp
    cases hp
theorem Fz.dk {d : Addr} {kvs : List (Key × V)} {H H1 : Hp} (h : Fz d (.dK kvs) H H1) : Rd H1 d (.dK kvs) := h.2.elim fun od e => .inr ⟨od, e⟩
theorem Fz.t {K : PySem.W.Frag} {d a : Addr} {kvs : List (Key × V)} {xs : List V} {H H1 : Hp} (h : Fz d (.dK kvs) H H1) (hd : H d = some (.dK kvs)) (t : SqT K H a xs) : SqT K H1 a xs := by
  rcases t with (t | ⟨o, t⟩) | t
  · exact .inl (.inl (h.1 a _ (fun z => by rw [z, hd] at t; cases t) t))
  · exact .inl (.inr ⟨o, h.1 a _ (fun z => by rw [z, hd] at t; cases t) t⟩)
  · exact .inr t
theorem fz_of {d : Addr} {u : HO} {od : Obj} {H : Hp} : Fz d u H (upd H d (.frz od u)) := ⟨fun a o n k => by rw [upd_ne n]; exact k, od, upd_same⟩
theorem sqT_back {K : PySem.W.Frag} {d t : Addr} {kvs : List (Key × V)} {u : HO} {od : Obj} {xs : List V} {H : Hp} (hd : H d = some (.frz od (.dK kvs))) (h : SqT K H t xs) : SqT K (upd H d u) t xs := by
  rcases h with (h | ⟨o, h⟩) | h
  · exact .inl (.inl (by rw [upd_ne (fun z => by rw [z, hd] at h; cases h)]; exact h))
  · exact .inl (.inr ⟨o, by rw [upd_ne (fun z => by rw [z, hd] at h; cases h)]; exact h⟩)
  · exact .inr h
section
variable {K : PySem.W.Frag} {σ : L2.St} {H : Hp} {td te ty tx : TE} {tt : TT} {d : Addr} {kvs : List (Key × V)} {j j2 : Nat} {ws : List Nat} {ps : List (Int × Int)} {s c : Int}
theorem ev_dget (h : Ev td σ H (.ref d)) (hs : Ev ty σ H (.int s)) (hd : ∀ H1, Ex H H1 → Dk H1 d ps) (hc : cnt ps s = some c) : Ev (tDGet td ty) σ H (.int c) := fun H1 e Q q =>
  h H1 e _ fun H2 e2 => hs H2 (e.trans e2) _ fun H3 e3 => ⟨d, .int c, rfl, by
    have g := (hd H3 ((e.trans e2).trans e3)).get (s := s)
    rw [hc] at g
    exact g, q H3 (e2.trans e3)⟩
theorem Dk.up {H H' : Hp} (h : Dk H d ps) (e : Ex H H') : Dk H' d ps := ex_rd e h
theorem ev_dget2 (h : Ev td σ H (.ref d)) (hs : Ev ty σ H (.int s)) (hx : Ev tx σ H (.int c)) (hd : Dk H d ps) : Ev (tDGet2 td ty tx) σ H (.int ((cnt ps s).getD c)) := fun H1 e Q q =>
  h H1 e _ fun H2 e2 => ⟨d, rfl, .inl ⟨_, hd.up (e.trans e2)⟩, hs H2 (e.trans e2) _ fun H3 e3 => hx H3 ((e.trans e2).trans e3) _ fun H4 e4 => ⟨_, (hd.up (((e.trans e2).trans e3).trans e4)).get, by
    have z := q H4 ((e2.trans e3).trans e4)
    cases h : cnt ps s with
    | none => rw [h] at z; exact z
    | some y => rw [h] at z; exact z⟩⟩
theorem ev_din (h : Ev td σ H (.ref d)) (hs : Ev ty σ H (.int s)) (hd : Dk H d ps) : Ev (tDIn ty td) σ H (.bl (cnt ps s).isSome) := fun H1 e Q q =>
  hs H1 e _ fun H2 e2 => h H2 (e.trans e2) _ fun H3 e3 => ⟨d, _, rfl, (hd.up ((e.trans e2).trans e3)).get, by
    have z := q H3 (e2.trans e3)
    cases h : cnt ps s with
    | none => rw [h] at z; exact z
    | some y => rw [h] at z; exact z⟩
theorem el_lcK (f : Nat → Bool) (v : Nat → V) (hv : ∀ H1, Ev td σ H1 (.ref d)) (hd : H d = some (.dK kvs)) (hl : kvs.length ≤ 40000) (hw : ∀ x, wipe ((wipe σ ws).set j (some x)) ws = wipe σ ws)
    (ht : ∀ i k x H1, kvs[i]? = some (k, x) → Fz d (.dK kvs) H H1 → EvT tt ((wipe σ ws).set j (some (kV k))) H1 (f i)) (he : ∀ i k x H1, kvs[i]? = some (k, x) → Fz d (.dK kvs) H H1 → f i = true → Ev te ((wipe σ ws).set j (some (kV k))) H1 (v i)) :
    EvL (tLockE (tLc (iKeys td) (gName j) tt te ws)) σ H (given kvs.length f v) := fun H0 e Q q => by
  have hd0 := e _ _ hd
  refine ⟨d, _, hd0, trivial, fun od => hv _ _ (Ex.refl _) _ fun H2 e2 => ?_⟩
  have z : Fz d (.dK kvs) H0 H2 := (fz_of (od := od)).to e2
  have hd2 : H2 d = some (.frz od (.dK kvs)) := e2 _ _ upd_same
  refine ⟨d, od, rfl, .inl ⟨kvs, hd2, fun D hD => ?_⟩⟩
  refine lc_it walk_keys (Cw H2 f v D) ⟨hD, Ex.new hD, upd_same⟩ (fun _ _ _ p => p.2.1 _ _ hd2) ?_ (fun H' p => ?_)
  · rintro i _ H' _ hi p ⟨rfl, k, x, hk, rfl⟩
    exact ⟨hw _, cw_turn p (by omega) (ht i k x H2 hk (z.of e)) (fun hf => he i k x H2 hk (z.of e) hf)⟩
  · obtain ⟨p1, p2, p3⟩ := p
    obtain ⟨n1, n2⟩ := z.new hd0 hD
    exact ⟨p2 _ _ hd2, q D _ n1 ((z.to p2).back hd0) (by rw [upd_ne n2]; exact p3)⟩
theorem el_lcI (f : Nat → Bool) (v : Nat → V) (hv : ∀ H1, Ev td σ H1 (.ref d)) (hd : H d = some (.dK kvs)) (hl : kvs.length ≤ 40000) (hw : ∀ x y, wipe (((wipe σ ws).set j (some x)).set j2 (some y)) ws = wipe σ ws)
    (ht : ∀ i k x H1, kvs[i]? = some (k, x) → Fz d (.dK kvs) H H1 → EvT tt (((wipe σ ws).set j (some (kV k))).set j2 (some x)) H1 (f i)) (he : ∀ i k x H1, kvs[i]? = some (k, x) → Fz d (.dK kvs) H H1 → f i = true → Ev te (((wipe σ ws).set j (some (kV k))).set j2 (some x)) H1 (v i)) :
    EvL (tLockE (tLc (iItems td) (gTup K 2 (gCons (gName j) (gCons (gName j2) gNil))) tt te ws)) σ H (given kvs.length f v) := fun H0 e Q q => by
  have hd0 := e _ _ hd
  refine ⟨d, _, hd0, trivial, fun od => hv _ _ (Ex.refl _) _ fun H2 e2 => ?_⟩
  have z : Fz d (.dK kvs) H0 H2 := (fz_of (od := od)).to e2
  have hd2 : H2 d = some (.frz od (.dK kvs)) := e2 _ _ upd_same
  refine ⟨d, od, kvs, rfl, hd2, fun D hD => ?_⟩
  refine lc_it walk_items (Cw H2 f v D) ⟨hD, Ex.new hD, upd_same⟩ (fun _ _ _ p => p.2.1 _ _ hd2) ?_ (fun H' p => ?_)
  · rintro i _ H' _ hi p ⟨T, x, y, rfl, hT, rfl, hx, hy⟩
    obtain ⟨⟨k, w⟩, hk, rfl⟩ := Option.map_eq_some_iff.mp hx
    have hy : (kvs[i]?.map Prod.snd) = some y := hy
    rw [hk] at hy
    obtain rfl : w = y := Option.some.inj hy
    have p' : Cw H2 f v D i (upd H' T (.tup [kV k, w])) := ⟨p.1, p.2.1.trans (Ex.new hT), by rw [upd_ne (ne_of_none p.2.2 hT)]; exact p.2.2⟩
    exact ⟨T, _, rfl, SqT.of upd_same, rfl, _, _, rfl, _, _, rfl, rfl, ⟨hw _ _, cw_turn p' (by omega) (ht i k w H2 hk (z.of e)) (fun hf => he i k w H2 hk (z.of e) hf)⟩⟩
  · obtain ⟨p1, p2, p3⟩ := p
    obtain ⟨n1, n2⟩ := z.new hd0 hD
    exact ⟨p2 _ _ hd2, q D _ n1 ((z.to p2).back hd0) (by rw [upd_ne n2]; exact p3)⟩
end
end Ck

namespace Ck
open PySem PySem.Spec PyProof.Rows L2 Evl
def RP (K : PySem.W.Frag) (H : Hp) (x : V) (p : Int × Int) : Prop := ∃ t, x = .ref t ∧ SqT K H t [.int p.1, .int p.2]
section
variable {K : PySem.W.Frag} {σ : L2.St} {H H' : Hp} {td te : TE} {d l : Addr} {kvs : List (Key × V)} {j : Nat} {ws : List Nat} {ps : List (Int × Int)} {x : V} {p : Int × Int}
theorem RP.ex (e : Ex H H') (h : RP K H x p) : RP K H' x p := h.imp fun t h => ⟨h.1, ex_t e h.2⟩
theorem RP.upd {xs ys : List V} (hl : H l = some (.lst xs)) (h : RP K H x p) : RP K (L2.upd H l (.lst ys)) x p := h.imp fun t h => ⟨h.1, sqT_updL h.2 hl⟩
theorem RP.back {od : Obj} {u : HO} (hd : H d = some (.frz od (.dK kvs))) (h : RP K H x p) : RP K (L2.upd H d u) x p := h.imp fun t h => ⟨h.1, sqT_back hd h.2⟩
theorem lc_keysP (e : Nat → Int × Int) (hv : ∀ H1, Ev td σ H1 (.ref d)) (hd : H d = some (.dK kvs)) (hl : kvs.length ≤ 40000) (hw : ∀ x, wipe ((wipe σ ws).set j (some x)) ws = wipe σ ws)
    (he : ∀ i k x H1, kvs[i]? = some (k, x) → Fz d (.dK kvs) H H1 → EvR (RP K) te ((wipe σ ws).set j (some (kV k))) H1 (e i)) :
    ∀ H0, Ex H H0 → ∀ Q : VK, (∀ D vs H2, H0 D = none → Ex H0 H2 → H2 D = some (.lst vs) → F2 (RP K H2) vs ((List.range kvs.length).map e) → Q (.ref D) H2) → tLockE (tLc (iKeys td) (gName j) tYes te ws) σ H0 Q := fun H0 e0 Q q => by
  have hd0 := e0 _ _ hd
  refine ⟨d, _, hd0, trivial, fun od => hv _ _ (Ex.refl _) _ fun H2 e2 => ?_⟩
  have z : Fz d (.dK kvs) H0 H2 := (fz_of (od := od)).to e2
  have hd2 : H2 d = some (.frz od (.dK kvs)) := e2 _ _ upd_same
  refine ⟨d, od, rfl, .inl ⟨kvs, hd2, fun D hD => ?_⟩⟩
  refine lc_it walk_keys (fun i H' => H2 D = none ∧ Ex H2 H' ∧ ∃ vs, H' D = some (.lst vs) ∧ vs.length ≤ i ∧ F2 (RP K H') vs ((List.range i).map e)) ⟨hD, Ex.new hD, [], upd_same, Nat.le_refl _, .nil⟩ (fun _ _ _ p => p.2.1 _ _ hd2) ?_ ?_
  · rintro i _ H' H6 hi ⟨p1, p2, vs, p3, p4, p5⟩ ⟨rfl, k, x, hk, rfl⟩
    refine ⟨hw _, yes_go (iteT (he i k x H6 hk ((z.to p2).of e0) _ (Ex.refl _) _ fun v H5 e5 hv5 => ⟨vs, e5 _ _ p3, sz_lt (by omega), p1, Ex.mut (p2.trans e5) p1, vs ++ [v], upd_same, by rw [List.length_append]; exact Nat.succ_le_succ p4, ?_⟩))⟩
    have hD5 := e5 _ _ p3
    rw [List.range_succ, List.map_append]
    exact (p5.imp fun x b r => (r.ex e5).upd hD5).app (.cons (hv5.upd hD5) .nil)
  · rintro H' ⟨p1, p2, vs, p3, _, p5⟩
    obtain ⟨n1, n2⟩ := z.new hd0 hD
    have hd3 := p2 _ _ hd2
    exact ⟨hd3, q D vs _ n1 ((z.to p2).back hd0) (by rw [upd_ne n2]; exact p3) (p5.imp fun x b r => r.back hd3)⟩
theorem evr_pair {ta tb : TE} {a b : Int} (ha : Ev ta σ H (.int a)) (hb : Ev tb σ H (.int b)) : EvR (RP K) (tTup (tCons ta (tCons tb tNil))) σ H (a, b) := fun H1 e Q q =>
  ha H1 e _ fun H2 e2 => hb H2 (e.trans e2) _ fun H3 e3 => ⟨(show 2 ≤ sizeLine by decide), fun t ht => q _ _ ((e2.trans e3).trans (Ex.new ht)) ⟨t, rfl, SqT.of upd_same⟩⟩
end
theorem mergeK_nodup : ∀ {more acc : List (Key × V)}, ((acc ++ more).map Prod.fst).Nodup → mergeK acc more = acc ++ more
  | [], acc, _ => by rw [List.append_nil]; rfl
  | p :: r, acc, h => by
    have n : (acc.any fun kv => decide (kv.1 = p.1)) = false := by
      rw [List.any_eq_false]
      intro kv hkv z
      rw [List.map_append, List.map_cons, List.nodup_append] at h
      exact h.2.2 _ (List.mem_map_of_mem hkv) _ List.mem_cons_self (of_decide_eq_true z)
    have e : putK acc p.1 p.2 = acc ++ [p] := by
      unfold putK
      rw [if_neg (by rw [n]; exact Bool.false_ne_true)]
    show mergeK (putK acc p.1 p.2) r = _
    rw [e, mergeK_nodup (acc := acc ++ [p]) (by rw [List.append_assoc]; exact h), List.append_assoc]
    rfl
theorem merge_kc {ps : List (Int × Int)} (h : (ps.map Prod.fst).Nodup) : mergeK [] (ps.map kc) = ps.map kc := by
  refine mergeK_nodup (acc := []) ?_
  rw [List.nil_append, List.map_map]
  show (ps.map fun p => (Sum.inl p.1 : Key)).Nodup
  have := h
  rw [show (ps.map fun p => (Sum.inl p.1 : Key)) = (ps.map Prod.fst).map Sum.inl by rw [List.map_map]; rfl]
  exact List.Pairwise.map _ (fun a b n z => n (Sum.inl.inj z)) h
def TupZ (H : Hp) (a : Addr) (xs : List V) : Prop := ∃ o, H a = some (.frz o (.tup xs)) ∧ o.cls = .type "tuple" ∧ o.dict = none
theorem TupZ.t {K : PySem.W.Frag} {H : Hp} {a : Addr} {xs : List V} (h : TupZ H a xs) : SqT K H a xs := h.elim fun o h => .inl (.inr ⟨o, h.1⟩)
theorem TupZ.ex {H H' : Hp} {a : Addr} {xs : List V} (h : TupZ H a xs) (e : Ex H H') : TupZ H' a xs := h.imp fun o h => ⟨e _ _ h.1, h.2⟩
section
variable {X : Cx}
def rTupZ (K : PySem.W.Frag) : List V → Hp → VK → Prop := fun xs H Q => ∃ p ys, xs = [.ref p] ∧ SqL K H p ys ∧ ∀ l o, H l = none → o.cls = .type "tuple" → o.dict = none → Q (.ref l) (upd H l (.frz o (.tup ys)))
theorem call_tupleZ : CallR X (.type "tuple") (rTupZ X.K) := by
  rintro pins s σ H _ us Q I r ⟨p, ys, rfl, hq, q⟩
  obtain ⟨u, rfl, rx⟩ := vals1 r
  cases rx
  obtain ⟨its, rv, pl, hz⟩ := I.list hq
  have hlen := rv.length
  refine call_tuple_list pl.isList (fun h' kp => ?_) (by rw [List.size_toArray, ← hlen]; exact hz)
  have I1 : Inv X pins σ H { s with heap := h' } := I.kept (t' := s.toks) kp
  have at_ : (h'.push { cls := .type "tuple", data := .seq its.toArray }).get? h'.objs.size = some { cls := .type "tuple", data := .seq its.toArray } := Heap.get?_push_size _ rfl
  have J := I1.laid (t' := s.toks) (a := h'.objs.size) (o := .frz { cls := .type "tuple", data := .seq its.toArray } (.tup ys)) (fun b o e => Heap.get?_push_of_some _ e) (Nat.le_refl _) ⟨at_, hz, its, rv, IsTup.new _ _⟩
  exact ⟨.ref _, _, J, rfl, q _ _ (I1.hok.fresh (Nat.le_refl _)) rfl rfl⟩
theorem pairs_at {pins : List (Addr × Obj)} {σ : L2.St} {H : Hp} {s : Shared} (I : Inv X pins σ H s) : ∀ {ts : List Addr} {kvs : List (Key × V)}, Paired (fun t kv => SqT X.K H t [kV kv.1, kv.2]) ts kvs →
    ∃ (prs : List (Key × Value)) (ps : List (Value × Value)), KV kvs prs ∧ ps.length = ts.length ∧ prs.length = ts.length ∧ ∀ (j : Nat) (k v : Value), ps[j]? = some (k, v) → ∃ (b : Addr) (c : Key), ts[j]? = some b ∧ IsTup s.heap b #[k, v] ∧ prs[j]? = some (c, v) ∧ (mixKind X.prog X.w).is c k = true
  | _, _, .nil => ⟨[], [], .nil, rfl, rfl, fun j k v e => by simp at e⟩
  | _, _, .cons (a := t) (b := kv) h tl => by
    obtain ⟨prs, ps, r, l1, l2, hp⟩ := pairs_at I tl
    obtain ⟨its, rv, ht, _⟩ := I.tuple h
    obtain ⟨u, y, rfl, ru, ry⟩ := vals2 rv
    refine ⟨(kv.1, y) :: prs, (u, y) :: ps, .cons ⟨rfl, ry⟩ r, congrArg Nat.succ l1, congrArg Nat.succ l2, fun j k v e => ?_⟩
    cases j with
    | zero =>
      obtain ⟨rfl, rfl⟩ := Prod.mk.inj (Option.some.inj e)
      exact ⟨t, kv.1, rfl, ht, rfl, kV_is (P := X.prog) (w := X.w) ru⟩
    | succ j =>
      obtain ⟨b, c, e1, e2, e3, e4⟩ := hp j k v (by simpa using e)
      exact ⟨b, c, by simpa using e1, e2, by simpa using e3, e4⟩
def rDictZ (K : PySem.W.Frag) : List V → Hp → VK → Prop := fun xs H Q => ∃ (a : Addr) (ts : List Addr) (kvs : List (Key × V)), xs = [.ref a] ∧ TupZ H a (ts.map V.ref) ∧ Paired (fun t kv => SqT K H t [kV kv.1, kv.2]) ts kvs ∧ ∀ p, H p = none → Q (.ref p) (upd H p (.dK (mergeK [] kvs)))
theorem call_dictZ (hc : X.calm = true) : CallR X (.type "dict") (rDictZ X.K) := by
  rintro pins s σ H _ us Q I r ⟨a, ts, kvs, rfl, hz, hp, q⟩
  obtain ⟨u, rfl, rx⟩ := vals1 r
  cases rx
  obtain ⟨o, ho, oc, od⟩ := id hz
  obtain ⟨hget, _⟩ := I.hok a _ ho
  obtain ⟨its, rv, ⟨o', hget', _, n, hdat⟩, hsz⟩ := I.tuple (hz.t (K := X.K))
  obtain rfl : o = o' := Option.some.inj (hget.symm.trans hget')
  have ei := refs_at rv
  subst ei
  rw [List.length_map] at hsz
  obtain ⟨prs, ps, rel, l1, l2, hps⟩ := pairs_at I hp
  have P := PairArg.tuple (prog := X.prog) (w := X.w) a (ts.map Value.ref).toArray (fun j => ts.getD j 0) ps
  refine _root_.PySem.call_dict_pairs (knd := mixKind X.prog X.w) (kvs := prs) P (I.ok.hd hc) ⟨⟨o, n, hget, oc, od, hdat⟩, by rw [List.size_toArray, List.length_map, l1], fun j k v e => ?_⟩ ⟨by rw [l1, l2], fun j k v e => ?_⟩ (by rw [l1]; exact hsz) fun h' tk hd' kp => ?_
  · obtain ⟨b, c, e1, e2, _⟩ := hps j k v e
    have eb : ts.getD j 0 = b := by rw [List.getD_eq_getElem?_getD, e1]; rfl
    refine ⟨?_, .inl ?_⟩
    · show _ = some (Value.ref (ts.getD j 0))
      rw [eb]
      simp [e1]
    · show s.heap.IsTuple (ts.getD j 0) _
      rw [eb]
      exact e2
  · obtain ⟨b, c, _, _, e3, e4⟩ := hps j k v e
    exact ⟨c, e3, e4⟩
  · have big : (s.heap.objs.size == sysModules) = false := beq_eq_false_iff_ne.mpr (Nat.ne_of_gt I.big)
    have len : (mergeK [] kvs).length ≤ sizeLine := by
      have z := length_mergeK kvs []
      have z2 := rel.length
      rw [List.length_nil, Nat.zero_add] at z
      omega
    have J := I.laid (t' := tk) (a := s.heap.objs.size) (o := .dK (mergeK [] kvs)) (fun b ob e => kp b ob (fun hm => nomatch hm) e) (Nat.le_refl _) ⟨len, big, merged [] prs, KV.merge rel .nil, hd'⟩
    exact ⟨.ref _, _, J, rfl, q _ (I.hok.fresh (Nat.le_refl _))⟩
end
end Ck

namespace Ck
open PySem PySem.Spec PyProof.Rows L2 StX Evl
def Mkc (P : Program) (w : World) (K : PySem.W.Frag) (mg : Str → Option Value) (base : Heap) (k : Nat) (x : Str) (C : Addr) (sp : Sp) : Prop :=
  ∃ f, Mk K C f ∧ mg x = some (.ref C) ∧ FnR P w K mg base CX0 k f sp
def Pg (P : Program) (w : World) (K : PySem.W.Frag) (mg : Str → Option Value) (base : Heap) (k : Nat) (C : Addr) (x : Str) (sp : Sp) : Prop :=
  Cls K C ∧ ∃ p g fd, PropOf K C x p g ∧ FnOk P w K mg base CX0 k g fd ["self"] sp ∧ Binds K fd ["self"] []
def Og (P : Program) (w : World) (K : PySem.W.Frag) (mg : Str → Option Value) (base : Heap) (k : Nat) (C : Addr) (x : Str) (ps : List Str) (sp : Sp) : Prop :=
  Cls K C ∧ ∃ g fd, PySem.W.findIn K (.ref C) x = some (some (.ref g)) ∧ PySem.W.isFn K (.ref g) = true ∧ PySem.W.fnIn K g = true ∧ PySem.W.keepIn K (.ref g) = true ∧ FnOk P w K mg base CX0 k g fd ps sp ∧ Binds K fd ps []
section
variable {X : Cx} {k j : Nat} {C : Addr} {x : Str} {sp : Sp} {ps : List Str} {e : Expr} {es : List Expr} {te ti : TE} {t : TA} {p pos : Pos}
theorem pmk (c : Mkc X.prog X.w X.K X.mg X.base k x C sp) (hr : Room j X.A) (ha : PA X (e :: es) t) (hk : k + 1 ≤ j := by decide) (hg : Gl X x := by rfl) (hdb : (x == ("__debug__" : Str)) = false := by decide)
    (he : starEach (e :: es) X.env = (false, eval e X.env) :: starEach es X.env := by rfl) (hpl : (backTo pos (starEach es X.env)).any (·.1) = false := by rfl) : PE X (.Call (.Name x p) (e :: es) [] pos) (tMakeR C sp E0 t) := by
  obtain ⟨f, M, hm, F⟩ := c
  exact pe_makeR M F (hr.mono hk) hg hm pass0 ha hdb he hpl
theorem pmk0 (c : Mkc X.prog X.w X.K X.mg X.base k x C sp) (hr : Room j X.A) (hk : k + 1 ≤ j := by decide) (hg : Gl X x := by rfl) (hdb : (x == ("__debug__" : Str)) = false := by decide) : PE X (.Call (.Name x p) [] [] pos) (tMakeR C sp E0 tNil) := by
  obtain ⟨f, M, hm, F⟩ := c
  exact pe_makeR0 M F (hr.mono hk) hg hm pass0 hdb
theorem pprop (c : Pg X.prog X.w X.K X.mg X.base k C x sp) (hr : Room j X.A) (he : PE X e te) (hk : k + 1 ≤ j := by decide) (hab : attributeBase e x X.env (eval e X.env) = eval e X.env := by rfl) : PE X (.Attribute e x pos) (tProp C sp [] E0 te) := by
  obtain ⟨hc, p, g, fd, hp, F, b⟩ := c
  exact pe_prop he hc hp F (hr.mono hk) b .nil pass0 hab
def tGetO (C : Addr) (sp : Sp) (te ti : TE) : TE := fun σ H Q => te σ H fun x H1 => ti σ H1 fun y H2 => ∃ a dx fs, x = .ref a ∧ H2 a = some (.ins C dx fs) ∧ sp [.ref a, y] H2 Q E0
theorem pgetO {i : Expr} (c : Og X.prog X.w X.K X.mg X.base k C "__getitem__" ps sp) (hr : Room j X.A) (he : PE X e te) (hi : PE X i ti) (hk : k + 1 ≤ j := by decide)
    (hsl : ∀ x v, subscripted i true (.ref x) v = runValue (.builtin "lifetime.subscript" ⟨[.ref x, v], []⟩) := by intro _ _; with_unfolding_all rfl) : PE X (.Subscript e i pos) (tGetO C sp te ti) := by
  obtain ⟨hc, g, fd, hs, hfn, hf, kp, F, b⟩ := c
  refine ⟨fun pins s σ H Q I h => Subscript_ (thn (he.run pins s σ H _ I h) ?_)⟩
  rintro u s1 ⟨x, H1, I1, rx, q1⟩
  refine thn (hi.run pins s1 σ H1 _ I1 q1) ?_
  rintro v s2 ⟨y, H2, I2, ry, a, dx, fs, rfl, ha, q⟩
  cases rx
  obtain ⟨mA, J, _⟩ := ins_get I2.hok ha
  obtain ⟨od, J, _⟩ := J.look
  obtain ⟨m, hF⟩ := I2.fr
  refine PySem.W.sub_K hF I2.ok.mod.kin J hs hf hfn ?_ (hsl a v)
  exact run_own (vs := [.ref a, y]) F b (hr.mono hk).in1 rfl I2 (.cons rfl (.cons ry .nil)) q fun v u H' s' I' rv q => ⟨v, H', I', rv, q⟩
theorem oinO (c : Og X.prog X.w X.K X.mg X.base k C "__contains__" ps sp) (hr : Room j X.A) (hk : k ≤ j := by decide) : OpR X (compareOp .In) (fun x y H Q => ∃ a dx fs, y = .ref a ∧ H a = some (.ins C dx fs) ∧ sp [.ref a, x] H (isB Q) E0) := by
  obtain ⟨hc, g, fd, hs, hfn, hf, kp, F, b⟩ := c
  exact op_inO F hs hfn b (hr.mono hk)
end
def lotF (t1 t2 d : Addr) : List (Str × V) := putF "_counts" (.ref d) (putF "_pairs" (.ref t2) (putF "_sizes" (.ref t1) []))
structure LotAt (K : PySem.W.Frag) (C : Addr) (H : Hp) (a : Addr) (ps : List (Int × Int)) : Prop where
  ex : ∃ dx t1 t2 d ts, H a = some (.ins C dx (lotF t1 t2 d)) ∧ SqT K H t1 ((ps.map Prod.fst).map V.int) ∧ SqT K H t2 ts ∧ F2 (RP K H) ts ps ∧ Dk H d ps
theorem LotAt.up {K : PySem.W.Frag} {C a : Addr} {H H' : Hp} {ps : List (Int × Int)} (h : LotAt K C H a ps) (e : Ex H H') : LotAt K C H' a ps := by
  obtain ⟨dx, t1, t2, d, ts, h1, h2, h3, h4, h5⟩ := h
  exact ⟨dx, t1, t2, d, ts, e _ _ h1, ex_t e h2, ex_t e h3, h4.imp fun x b r => r.ex e, h5.up e⟩
theorem lot_sizes (t1 t2 d : Addr) : (lotF t1 t2 d).lookup ("_sizes" : Str) = some (.ref t1) := by
  unfold lotF
  rw [lookup_putF, if_neg (by decide +kernel), lookup_putF, if_neg (by decide +kernel), lookup_putF, if_pos rfl]
theorem lot_pairs (t1 t2 d : Addr) : (lotF t1 t2 d).lookup ("_pairs" : Str) = some (.ref t2) := by
  unfold lotF
  rw [lookup_putF, if_neg (by decide +kernel), lookup_putF, if_pos rfl]
theorem lot_counts (t1 t2 d : Addr) : (lotF t1 t2 d).lookup ("_counts" : Str) = some (.ref d) := by
  unfold lotF
  rw [lookup_putF, if_pos rfl]
end Ck

namespace Ck
open PySem PySem.Spec PyProof.Rows L2 StX Evl
def Dpr (K : PySem.W.Frag) (C : Addr) (x qual : Str) (st : Stmt) : Prop := ∃ p g fd, PropOf K C x p g ∧ Fun K x qual st g fd ∧ Binds K fd ["self"] []
def Dop (K : PySem.W.Frag) (C : Addr) (x qual : Str) (st : Stmt) (ps : List Str) : Prop :=
  ∃ g fd, PySem.W.findIn K (.ref C) x = some (some (.ref g)) ∧ PySem.W.isFn K (.ref g) = true ∧ PySem.W.fnIn K g = true ∧ PySem.W.keepIn K (.ref g) = true ∧ Fun K x qual st g fd ∧ Binds K fd ps []
def Din (K : PySem.W.Frag) (mg : Str → Option Value) (x : Str) (C : Addr) (qual : Str) (st : Stmt) (ps : List Str) : Prop :=
  ∃ f fd, Mk K C f ∧ mg x = some (.ref C) ∧ FunD K "__init__" qual (defArgs st) (defBody st) (defScope st) [V.non] [] f fd ∧ Binds K fd ps [] ∧ ∃ ds, Vals [V.non] ds ∧ Binds K fd ps ds
section
variable {P : Program} {w : World} {K : PySem.W.Frag} {mg : Str → Option Value} {base : Heap} {k : Nat} {C : Addr} {x qual : Str} {st : Stmt} {N ps : List Str} {sp : Sp}
theorem pg_of (c : Cls K C) (D : Dpr K C x qual st) (S : FnScope N ["self"] (defScope st)) (len : ∀ vs H Q E, sp vs H Q E → vs.length = 1)
    (hbody : ∀ (f : Addr) (cdv : Value) (A : Around) (outer : List Env) (s : Shared) (H : Hp) (vs : List V) (Q : VK) (E : XK), Room k (A.deeper (envOfC qual (defScope st) s.heap.objs.size f cdv)) → sp vs H Q E →
      ∃ t, PSs (cxOf CX0 P w K mg base N qual (defScope st) f cdv A outer s H E).nox (defBody st) t ∧ t { nx := fun _ H' => Q .non H', rt := Q } (start N vs) H) : Pg P w K mg base (k + 1) C x sp := by
  obtain ⟨p, g, fd, hp, F, b⟩ := D
  exact ⟨c, p, g, fd, hp, F.ok S len (hbody g), b⟩
theorem og_of (c : Cls K C) (D : Dop K C x qual st ps) (S : FnScope N ps (defScope st)) (len : ∀ vs H Q E, sp vs H Q E → vs.length = ps.length)
    (hbody : ∀ (f : Addr) (cdv : Value) (A : Around) (outer : List Env) (s : Shared) (H : Hp) (vs : List V) (Q : VK) (E : XK), Room k (A.deeper (envOfC qual (defScope st) s.heap.objs.size f cdv)) → sp vs H Q E →
      ∃ t, PSs (cxOf CX0 P w K mg base N qual (defScope st) f cdv A outer s H E).nox (defBody st) t ∧ t { nx := fun _ H' => Q .non H', rt := Q } (start N vs) H) : Og P w K mg base (k + 1) C x ps sp := by
  obtain ⟨g, fd, h1, h2, h3, h4, F, b⟩ := D
  exact ⟨c, g, fd, h1, h2, h3, h4, F.ok S len (hbody g), b⟩
theorem mkc_of (D : Din K mg x C qual st ps) (S : FnScope N ps (defScope st)) (len : ∀ vs H Q E, sp vs H Q E → vs.length = ps.length)
    (hbody : ∀ (f : Addr) (cdv : Value) (A : Around) (outer : List Env) (s : Shared) (H : Hp) (vs : List V) (Q : VK) (E : XK), Room k (A.deeper (envOfC qual (defScope st) s.heap.objs.size f cdv)) → sp vs H Q E →
      ∃ t, PSs (cxOf CX0 P w K mg base N qual (defScope st) f cdv A outer s H E).nox (defBody st) t ∧ t { nx := fun _ H' => Q .non H', rt := Q } (start N vs) H) :
    Mkc P w K mg base (k + 1) x C sp ∧ Mkc P w K mg base (k + 1) x C fun vs H Q E => sp (vs ++ [.non]) H Q E := by
  obtain ⟨f, fd, M, hm, F, b, ds, hd, b2⟩ := D
  have G : FnOk P w K mg base CX0 (k + 1) f fd ps sp := F.ok S len fun cdv A outer s H vs Q E hr h => by
    obtain ⟨t, h1, h2⟩ := hbody f cdv A outer s H vs Q E hr h
    exact ⟨t, h1.nox, h2⟩
  exact ⟨⟨f, M, hm, (G.raw b .nil).imp fun vs H Q E h => by rw [List.append_nil]; exact h⟩, ⟨f, M, hm, G.raw b2 hd⟩⟩
end
structure LotT (K : PySem.W.Frag) (mg : Str → Option Value) (CL : Addr) : Prop where
  k : Klass K mg "Lot" CL
  n1 : NoAttr K CL "_sizes"
  n2 : NoAttr K CL "_pairs"
  n3 : NoAttr K CL "_counts"
structure Cts (ps : List (Int × Int)) : Prop where
  nd : (ps.map Prod.fst).Nodup
  ln : ps.length ≤ 12
  ok : ∀ p ∈ ps, sizB p.1 = true ∧ sizB p.2 = true
def Asc (ps : List (Int × Int)) : Prop := (ps.map Prod.fst).Pairwise (· < ·)
def spLotI (K : PySem.W.Frag) (C : Addr) : Sp := fun vs H Q _ => ∃ (x dx : Addr) (v : V) (ps : List (Int × Int)) (H0 : Hp), vs = [.ref x, v] ∧ Ex H0 H ∧ H0 x = none ∧ H x = some (.ins C dx []) ∧ Cts ps ∧
  ((v = .non ∧ ps = []) ∨ ∃ d, v = .ref d ∧ H0 d = some (.dK (ps.map kc))) ∧ ∀ qs H', Ex H0 H' → qs.Perm ps → Asc qs → LotAt K C H' x qs → Q .non H'
def spSizes (K : PySem.W.Frag) (C : Addr) : Sp := fun vs H Q _ => ∃ a ps, vs = [.ref a] ∧ LotAt K C H a ps ∧ ∀ t H', Ex H H' → SqT K H' t ((ps.map Prod.fst).map V.int) → Q (.ref t) H'
def tot (ps : List (Int × Int)) : Int := (ps.map fun p => p.1 * p.2).sum
def spTotal (K : PySem.W.Frag) (C : Addr) : Sp := fun vs H Q _ => ∃ a ps, vs = [.ref a] ∧ LotAt K C H a ps ∧ Cts ps ∧ ∀ H', Ex H H' → Q (.int (tot ps)) H'
def spItem (K : PySem.W.Frag) (C : Addr) : Sp := fun vs H Q _ => ∃ a s ps, vs = [.ref a, .int s] ∧ LotAt K C H a ps ∧ sizB s = true ∧ ∀ H', Ex H H' → Q (.int ((cnt ps s).getD 0)) H'
def spIsLot (K : PySem.W.Frag) (C : Addr) : Sp := fun vs H Q _ => ∃ a ps, vs = [.ref a] ∧ LotAt K C H a ps ∧ ∀ H', Ex H H' → Q .non H'
def spAreC (K : PySem.W.Frag) : Sp := fun vs H Q _ => ∃ d ps, vs = [.ref d] ∧ H d = some (.dK (ps.map kc)) ∧ Cts ps ∧ ∀ H', Ex H H' → Q (.bl true) H'
theorem kit_self {K : PySem.W.Frag} {C : Addr} : PySem.W.kitOne K (.ref C) (.ref C) = some true := by
  unfold PySem.W.kitOne
  rw [if_pos (by simp)]
theorem ev_lenD {te : TE} {σ : L2.St} {H : Hp} {d : Addr} {kvs : List (Key × V)} (h : Ev te σ H (.ref d)) (hd : H d = some (.dK kvs)) :
    Ev (tCB (fun xs H Q => ∃ a kvs, xs = [V.ref a] ∧ H a = some (.dK kvs) ∧ Q (.int kvs.length) H) (tCons te tNil)) σ H (.int (kvs.length : Int)) := fun H1 e Q q => h H1 e _ fun H2 e2 => ⟨d, kvs, rfl, e2 _ _ (e _ _ hd), q H2 e2⟩
theorem el_is {te : TE} {σ : L2.St} {H : Hp} {xs ys : List V} (h : EvL te σ H xs) (e : xs = ys) : EvL te σ H ys := e ▸ h
theorem ev_fldL {K : PySem.W.Frag} {te : TE} {σ : L2.St} {H : Hp} {a C dx : Addr} {fs : List (Str × V)} {f : Str} {v : V} (h : Ev te σ H (.ref a)) (ha : H a = some (.ins C dx fs)) (c : Cls K C) (n : NoAttr K C f) (l : fs.lookup f = some v) :
    Ev (tFld K te f) σ H v := fun H1 e Q q => h H1 e _ fun H2 e2 => ⟨a, C, dx, fs, v, rfl, (e.trans e2) _ _ ha, c, n, l, q H2 e2⟩
theorem el_lcP {K : PySem.W.Frag} {tl te : TE} {σ : L2.St} {H : Hp} {a : Addr} {ts : List V} {ps : List (Int × Int)} {j j2 : Nat} {ws : List Nat} (f : Int × Int → V) (h : Ev tl σ H (.ref a)) (ht : SqT K H a ts) (hf : F2 (RP K H) ts ps) (hz : ps.length ≤ 40000)
    (hw : ∀ x y, wipe (((wipe σ ws).set j (some x)).set j2 (some y)) ws = wipe σ ws) (he : ∀ p ∈ ps, ∀ H1, Ex H H1 → Ev te (((wipe σ ws).set j (some (.int p.1))).set j2 (some (.int p.2))) H1 (f p)) :
    EvL (tLc (iTup K tl) (gTup K 2 (gCons (gName j) (gCons (gName j2) gNil))) tYes te ws) σ H (ps.map f) := fun H0 e0 Q q => h H0 e0 _ fun H1 e1 => ⟨a, rfl, ⟨ts, ex_t (e0.trans e1) ht⟩, fun D hD => by
  have e01 := e0.trans e1
  refine lc_it walk_tup (fun i H' => H1 D = none ∧ Ex H1 H' ∧ H' D = some (.lst ((ps.take i).map f))) ⟨hD, Ex.new hD, upd_same⟩ (fun i H' _ p => ex_t (e01.trans p.2.1) ht) ?_ ?_
  · rintro i x H' H2 hi ⟨p1, p2, p3⟩ ⟨rfl, hxi⟩
    obtain ⟨p, hp, t, rfl, hpt⟩ := hf.at hxi
    have m := List.mem_of_getElem? hp
    have st : ps.take (i + 1) = ps.take i ++ [p] := by rw [List.take_add_one, hp]; rfl
    have i12 : i < ps.length := (List.getElem?_eq_some_iff.mp hp).1
    refine ⟨t, _, rfl, ex_t (e01.trans p2) hpt, rfl, _, _, rfl, _, _, rfl, rfl, hw _ _, yes_go (iteT (he p m H2 (e01.trans p2) H2 (Ex.refl _) _ fun H5 e5 => ⟨_, e5 _ _ p3, sz_lt (by rw [List.length_map, List.length_take]; omega), p1, Ex.mut (p2.trans e5) p1, by rw [upd_same, st, List.map_append]; rfl⟩))⟩
  · rintro H' ⟨p1, p2, p3⟩
    rw [hf.len, List.take_of_length_le (Nat.le_refl _)] at p3
    exact q D H' (fresh_back e1 p1) (e1.trans p2) p3⟩
theorem siz_nat {i : Int} (h : sizB i = true) : i.natAbs < 10 ^ 200 := (siz_int h).2
theorem bt_dict : bootBuiltins "dict" = some (.type "dict") := by decide +kernel
end Ck

namespace Ck
open PySem PySem.Spec PyProof.Rows L2 StX Evl
def srt (ps : List (Int × Int)) : List (Int × Int) := ps.mergeSort fun p q => decide (p.1 ≤ q.1)
theorem srt_perm (ps : List (Int × Int)) : (srt ps).Perm ps := List.mergeSort_perm ps _
theorem srt_asc {ps : List (Int × Int)} (h : (ps.map Prod.fst).Nodup) : Asc (srt ps) := by
  have h1 : (srt ps).Pairwise fun p q => decide (p.1 ≤ q.1) = true := List.pairwise_mergeSort (fun a b c x y => by simp only [decide_eq_true_eq] at *; omega) (fun a b => by simp only [Bool.or_eq_true, decide_eq_true_eq]; omega) ps
  have h2 : ((srt ps).map Prod.fst).Nodup := (List.Perm.nodup_iff ((srt_perm ps).map Prod.fst)).mpr h
  unfold Asc
  rw [List.pairwise_map]
  have h3 : (srt ps).Pairwise fun p q => p.1 ≠ q.1 := by
    rw [List.nodup_iff_pairwise_ne, List.pairwise_map] at h2
    exact h2
  exact (h1.and h3).imp fun ⟨a, b⟩ => by simp only [decide_eq_true_eq] at a; omega
theorem asc_nodup {ps : List (Int × Int)} (h : Asc ps) : (ps.map Prod.fst).Nodup := List.Pairwise.imp (fun h => by omega) h
theorem cnt_perm {ps qs : List (Int × Int)} (h : (ps.map Prod.fst).Nodup) (p : qs.Perm ps) (s : Int) : cnt qs s = cnt ps s := by
  have h2 : (qs.map Prod.fst).Nodup := (List.Perm.nodup_iff (p.map Prod.fst)).mpr h
  cases e : cnt ps s with
  | none =>
    rw [cnt_none] at e ⊢
    exact fun m => e ((p.map Prod.fst).mem_iff.mp m)
  | some c =>
    rw [← cnt_mem h] at e
    exact (cnt_mem h2).mp (p.mem_iff.mpr e)
theorem Cts.perm {ps qs : List (Int × Int)} (h : Cts ps) (p : qs.Perm ps) : Cts qs := ⟨(List.Perm.nodup_iff (p.map Prod.fst)).mpr h.nd, by rw [p.length_eq]; exact h.ln, fun x hx => h.ok x (p.mem_iff.mp hx)⟩
section
variable {K : PySem.W.Frag} {σ : L2.St} {H : Hp} {te : TE} {d : Addr} {ps : List (Int × Int)}
abbrev rSortD : List V → Hp → VK → Prop := fun xs H Q => ∃ (a : Addr) (kvs : List (Key × V)) (ks : List Int), xs = [.ref a] ∧ Rd H a (.dK kvs) ∧ kvs.map (·.1) = ks.map Sum.inl ∧ ks.length < 64 ∧
  ∀ (ys : List Int) (p : Addr), ys.Perm ks → ys.Pairwise (· ≤ ·) → H p = none → Q (.ref p) (upd H p (.lst (ys.map V.int)))
theorem el_sortD (h : Ev te σ H (.ref d)) (hd : Dk H d ps) (hn : (ps.map Prod.fst).Nodup) (hl : ps.length < 64) : EvL (tCB rSortD (tCons te tNil)) σ H (((srt ps).map Prod.fst).map V.int) := fun H0 e0 Q q =>
  h H0 e0 _ fun H1 e1 => ⟨d, _, ps.map Prod.fst, rfl, hd.up (e0.trans e1), by rw [List.map_map, List.map_map]; rfl, by rw [List.length_map]; exact hl, fun ys p hp hs hn2 => by
    have nd : ys.Nodup := (List.Perm.nodup_iff hp).mpr hn
    have lt : ys.Pairwise (· < ·) := (hs.and (List.nodup_iff_pairwise_ne.mp nd)).imp fun ⟨a, b⟩ => by omega
    have e : ys = (srt ps).map Prod.fst := sorted_one lt (srt_asc hn) fun k => hp.mem_iff.trans ((srt_perm ps).map Prod.fst).mem_iff.symm
    rw [e]
    exact q p _ (fresh_back e1 hn2) (e1.trans (Ex.new hn2)) upd_same⟩
theorem f2_refs {H : Hp} : ∀ {vs : List V} {qs : List (Int × Int)}, F2 (RP K H) vs qs → ∃ ts : List Addr, vs = ts.map V.ref ∧ Paired (fun t (kv : Key × V) => SqT K H t [kV kv.1, kv.2]) ts (qs.map kc)
  | _, _, .nil => ⟨[], rfl, .nil⟩
  | _, _, .cons ⟨t, e, h⟩ tl => by
    obtain ⟨ts, rfl, r⟩ := f2_refs tl
    exact ⟨t :: ts, by rw [e]; rfl, .cons h r⟩
theorem pairs_srt (hn : (ps.map Prod.fst).Nodup) : ((srt ps).map Prod.fst).map (fun n => (n, (cnt ps n).getD 0)) = srt ps := by
  rw [List.map_map]
  have key : ∀ p ∈ srt ps, ((fun n => (n, (cnt ps n).getD 0)) ∘ Prod.fst) p = p := fun p hp => by
    have m := (srt_perm ps).mem_iff.mp hp
    have e := (cnt_mem hn).mp (show (p.1, p.2) ∈ ps from m)
    show (p.1, (cnt ps p.1).getD 0) = p
    rw [e]
    rfl
  rw [List.map_congr_left key, List.map_id']
end
end Ck
namespace Ck
open PySem PySem.Spec PyProof.Rows L2 StX Evl
section
variable {K : PySem.W.Frag} {σ : L2.St} {H : Hp} {D : Ends} {z : TS} {v : V} {ps : List (Int × Int)}
theorem asg_told (h1 : σ[1]? = some (some v)) (hv : (v = .non ∧ ps = []) ∨ ∃ d, v = .ref d ∧ H d = some (.dK (ps.map kc))) (k : ∀ d H1, Ex H H1 → H1 d = some (.dK (ps.map kc)) → z D (σ.set 2 (some (.ref d))) H1) :
    tSeq (tAsg (tIf (tTest (tOp (fun x y H Q => y = .non ∧ Q (.bl (decide (x = .non))) H) (tVar 1) (tC .non))) tDNewK (tVar 1)) (gName 2)) z D σ H := by
  refine ⟨v, h1, rfl, _, rfl, ?_⟩
  rcases hv with ⟨rfl, rfl⟩ | ⟨d, rfl, hd⟩
  · exact iteT fun p hp => k p _ (Ex.new hp) upd_same
  · exact iteF ⟨_, h1, k d H (Ex.refl H) hd⟩
theorem sq_fld {ta tv : TE} {f : Str} (h : tv σ H fun y H1 => ta σ H1 fun x H2 => ∃ a C dx fs, x = .ref a ∧ H2 a = some (.ins C dx fs) ∧ Cls K C ∧ NoAttr K C f ∧ fs.length < 1000 ∧ z D σ (upd H2 a (.ins C dx (putF f y fs)))) : tSeq (sFld K ta tv f) z D σ H := h
theorem one_fld {ta tv : TE} {f : Str} (h : tv σ H fun y H1 => ta σ H1 fun x H2 => ∃ a C dx fs, x = .ref a ∧ H2 a = some (.ins C dx fs) ∧ Cls K C ∧ NoAttr K C f ∧ fs.length < 1000 ∧ D.nx σ (upd H2 a (.ins C dx (putF f y fs)))) : sFld K ta tv f D σ H := h
theorem arec_v {d : Addr} (hd : H d = some (.dK (ps.map kc))) (hc : Cts ps) : SpV (spAreC K) [.ref d] H (.bl true) := fun H1 e Q q E => ⟨d, ps, rfl, e _ _ hd, hc, q⟩
end
theorem up_x {H : Hp} {x b : Addr} {o u : HO} (h : H b = some o) (n : b ≠ x) : upd H x u b = some o := by rw [upd_ne n]; exact h
theorem sqT_x {K : PySem.W.Frag} {H : Hp} {x t C dx : Addr} {fs : List (Str × V)} {u : HO} {xs : List V} (h : SqT K H t xs) (hx : H x = some (.ins C dx fs)) : SqT K (upd H x u) t xs := by
  rcases h with (h | ⟨o, h⟩) | h
  · exact .inl (.inl (up_x h fun e => by rw [e, hx] at h; cases h))
  · exact .inl (.inr ⟨o, up_x h fun e => by rw [e, hx] at h; cases h⟩)
  · exact .inr h
end Ck
namespace Ck
open PySem PySem.Spec PyProof.Rows L2 StX Evl
section
variable {K : PySem.W.Frag} {σ : L2.St} {H : Hp} {tl te : TE} {α : Type} {R : Hp → V → α → Prop} {bs : List α} {a : Addr} {qs : List (Int × Int)}
theorem tz_of (L : ∀ H H' x b, Ex H H' → R H x b → R H' x b) (h : ∀ H1, Ex H H1 → ∀ Q : VK, (∀ D vs H2, H1 D = none → Ex H1 H2 → H2 D = some (.lst vs) → F2 (R H2) vs bs → Q (.ref D) H2) → tl σ H1 Q) :
    ∀ H1, Ex H H1 → ∀ Q : VK, (∀ l vs H2, H1 l = none → Ex H1 H2 → TupZ H2 l vs → F2 (R H2) vs bs → Q (.ref l) H2) → tCB (rTupZ K) (tCons tl tNil) σ H1 Q := fun H1 e1 Q q =>
  h H1 e1 _ fun D vs H2 nD e2 hD hf => ⟨D, vs, rfl, SqL.of hD, fun l o hl oc od => q l vs _ (fresh_back e2 hl) (e2.trans (Ex.new hl)) ⟨o, upd_same, oc, od⟩ (hf.imp fun x b r => L _ _ _ _ (Ex.new hl) r)⟩
theorem dz_of {vs : List V} (h : Ev te σ H (.ref a)) (hz : TupZ H a vs) (hf : F2 (RP K H) vs qs) (hn : (qs.map Prod.fst).Nodup) :
    ∀ H1, Ex H H1 → ∀ Q : VK, (∀ p H2, H1 p = none → Ex H1 H2 → H2 p = some (.dK (qs.map kc)) → Q (.ref p) H2) → tCB (rDictZ K) (tCons te tNil) σ H1 Q := fun H1 e1 Q q =>
  h H1 e1 _ fun H2 e2 => by
    obtain ⟨ts, rfl, hp⟩ := f2_refs (K := K) (hf.imp fun x b r => r.ex (e1.trans e2))
    exact ⟨a, ts, qs.map kc, rfl, hz.ex (e1.trans e2), hp, fun p hp2 => by
      rw [merge_kc hn]
      exact q p _ (fresh_back e2 hp2) (e2.trans (Ex.new hp2)) upd_same⟩
theorem TupZ.x {H : Hp} {x t C dx : Addr} {fs : List (Str × V)} {u : HO} {xs : List V} (h : TupZ H t xs) (hx : H x = some (.ins C dx fs)) : TupZ (L2.upd H x u) t xs := h.imp fun o h => ⟨up_x h.1 (fun e => by rw [e, hx] at h; exact (nomatch h.1)), h.2⟩
theorem RP.x {H : Hp} {x C dx : Addr} {fs : List (Str × V)} {u : HO} {v : V} {p : Int × Int} (hx : H x = some (.ins C dx fs)) (h : RP K H v p) : RP K (L2.upd H x u) v p := h.imp fun t h => ⟨h.1, sqT_x h.2 hx⟩
end
end Ck

namespace Ck
open PySem PySem.Spec PyProof.Rows L2 StX Evl RZ
section
variable {K : PySem.W.Frag} {w : World} {σ : L2.St} {H : Hp} {p : Addr} {te : TE} {ns us : List Int}
theorem el_tss (h : Etu K te σ H (ns.map V.int)) (hl : ns.length < 60) (h1 : us.Pairwise (· < ·)) (h2 : ∀ k, k ∈ us ↔ k ∈ ns) :
    EvL (tCB (rSortedSet w) (tCons (tCB (rSetT K w) (tCons te tNil)) tNil)) σ H (us.map V.int) := fun H0 e0 Q q => h H0 e0 _ fun p H1 e1 hp => ⟨p, ns, rfl, hp, hl, fun b c hb hc =>
  ⟨b, _, c, rfl, upd_same, Nat.lt_of_le_of_lt hc (Nat.lt_trans hl (by decide)), fun vs p2 hpw hmem hlen hp2 => by
    have e : vs = us := sorted_one hpw h1 fun k => ⟨fun hk => (h2 k).mpr (of_decide_eq_true ((hmem k).mp hk)), fun hk => (hmem k).mpr (decide_eq_true ((h2 k).mp hk))⟩
    subst e
    have e2 := (Ex.new (o := SetO w b (fun j => decide (j ∈ ns)) c) hb).trans (Ex.new (o := .lst (vs.map V.int)) hp2)
    exact q p2 _ (fresh_back e1 (fresh_back (Ex.new (o := SetO w b (fun j => decide (j ∈ ns)) c) hb) hp2)) (e1.trans e2) upd_same⟩⟩
end
end Ck
namespace Ck
open PySem PySem.Spec PyProof.Rows L2 StX Evl RZ
section
variable {K : PySem.W.Frag} {σ : L2.St} {H : Hp} {C a : Addr} {te ti tl ta tb : TE} {tt : TT} {ps : List (Int × Int)} {ns : List Int} {s n : Int} {j : Nat} {ws : List Nat}
theorem etu_sizes (h : Ev te σ H (.ref a)) (hl : LotAt K C H a ps) : Etu K (tProp C (spSizes K C) [] E0 te) σ H ((ps.map Prod.fst).map V.int) := fun H1 e Q q => h H1 e _ fun H2 e2 => by
  obtain ⟨dx, t1, t2, d, ts, h1, _⟩ := (hl.up (e.trans e2)).ex
  exact ⟨a, dx, _, rfl, h1, a, ps, rfl, hl.up (e.trans e2), fun t H' e3 ht => q t H' (e2.trans e3) ht⟩
theorem ev_total (h : Ev te σ H (.ref a)) (hl : LotAt K C H a ps) (hc : Cts ps) : Ev (tProp C (spTotal K C) [] E0 te) σ H (.int (tot ps)) := fun H1 e Q q => h H1 e _ fun H2 e2 => by
  obtain ⟨dx, t1, t2, d, ts, h1, _⟩ := (hl.up (e.trans e2)).ex
  exact ⟨a, dx, _, rfl, h1, a, ps, rfl, hl.up (e.trans e2), hc, fun H' e3 => q H' (e2.trans e3)⟩
theorem ev_item (h : Ev te σ H (.ref a)) (hi : Ev ti σ H (.int s)) (hl : LotAt K C H a ps) (hs : sizB s = true) : Ev (tGetO C (spItem K C) te ti) σ H (.int ((cnt ps s).getD 0)) := fun H1 e Q q => h H1 e _ fun H2 e2 => hi H2 (e.trans e2) _ fun H3 e3 => by
  obtain ⟨dx, t1, t2, d, ts, h1, _⟩ := (hl.up ((e.trans e2).trans e3)).ex
  exact ⟨a, dx, _, rfl, h1, a, s, ps, rfl, hl.up ((e.trans e2).trans e3), hs, fun H' e4 => q H' ((e2.trans e3).trans e4)⟩
theorem el_lcN (c : Int → Bool) (f : Int → V) (h : Etu K tl σ H (ns.map V.int)) (hz : ns.length ≤ 40000) (hw : ∀ x, wipe ((wipe σ ws).set j (some x)) ws = wipe σ ws)
    (ht : ∀ n ∈ ns, ∀ H1, Ex H H1 → EvT tt ((wipe σ ws).set j (some (.int n))) H1 (c n)) (he : ∀ n ∈ ns, c n = true → ∀ H1, Ex H H1 → Ev te ((wipe σ ws).set j (some (.int n))) H1 (f n)) :
    EvL (tLc (iTup K tl) (gName j) tt te ws) σ H ((ns.filter c).map f) := fun H0 e0 Q q => h H0 e0 _ fun a H1 e1 hx => ⟨a, rfl, ⟨_, hx⟩, fun D hD => by
  refine lc_it walk_tup (fun i H' => H1 D = none ∧ Ex H1 H' ∧ ∃ vs, H' D = some (.lst vs) ∧ vs.length ≤ i ∧ vs = ((ns.take i).filter c).map f) ⟨hD, Ex.new hD, [], upd_same, Nat.le_refl _, rfl⟩ (fun i H' _ p => ex_t p.2.1 hx) ?_ ?_
  · rintro i x H2 H3 hi ⟨p1, p2, vs, p3, p4, p5⟩ ⟨e3, hxi⟩
    rw [e3]
    rw [List.length_map] at hi
    rw [List.getElem?_map, List.getElem?_eq_getElem hi] at hxi
    obtain rfl := Option.some.inj hxi
    have m := List.getElem_mem hi
    have e02 := (e0.trans e1).trans p2
    refine ⟨hw _, ht _ m H2 e02 H2 (Ex.refl H2) _ fun H4 e4 => ?_⟩
    have st : ns.take (i + 1) = ns.take i ++ [ns[i]] := by rw [List.take_add_one, List.getElem?_eq_getElem hi]; rfl
    cases hc : c ns[i] with
    | true =>
      refine iteT (he _ m hc H4 (e02.trans e4) H4 (Ex.refl H4) _ fun H5 e5 => ⟨vs, (e4.trans e5) _ _ p3, sz_lt (by omega), p1, Ex.mut (p2.trans (e4.trans e5)) p1, vs ++ [f ns[i]], upd_same, by rw [List.length_append]; exact Nat.succ_le_succ p4, ?_⟩)
      rw [st, List.filter_append, List.map_append, show [ns[i]].filter c = [ns[i]] by rw [List.filter_cons, hc]; rfl, p5]
      rfl
    | false =>
      refine iteF ⟨p1, p2.trans e4, vs, e4 _ _ p3, Nat.le_succ_of_le p4, ?_⟩
      rw [st, List.filter_append, show [ns[i]].filter c = [] by rw [List.filter_cons, hc]; rfl, List.append_nil]
      exact p5
  · rintro H2 ⟨p1, p2, vs, p3, _, p5⟩
    rw [List.length_map, List.take_of_length_le (Nat.le_refl _)] at p5
    rw [p5] at p3
    exact q D H2 (fresh_back e1 p1) (e1.trans p2) p3⟩
theorem chklot_v (hl : LotAt K C H a ps) : SpV (spIsLot K C) [.ref a] H .non := fun H1 e Q q E => ⟨a, ps, rfl, hl.up e, q⟩
end
theorem cts_pos {ps : List (Int × Int)} (h : Cts ps) : ∀ n ∈ ps.map Prod.fst, 0 < n ∧ n.natAbs < 10 ^ 200 ∧ sizB n = true := fun n hn => by
  obtain ⟨p, hp, rfl⟩ := List.mem_map.mp hn
  obtain ⟨s1, _⟩ := h.ok p hp
  exact ⟨(siz_int s1).1, (siz_int s1).2, s1⟩
end Ck
namespace Ck
open PySem PySem.Spec PyProof.Rows L2 Evl
theorem lay_ints : ∀ ns : List Int, PyData.canLayAll0 (ns.map PyData.int) = true ∧ PyData.depthAll (ns.map PyData.int) = 0
  | [] => ⟨rfl, rfl⟩
  | x :: r => by
    obtain ⟨a, b⟩ := lay_ints r
    exact ⟨by rw [List.map_cons]; simp only [PyData.canLayAll0, a]; rfl, by rw [List.map_cons]; simp only [PyData.depthAll, b]; rfl⟩
theorem shaped_tints (ns : List Int) : SeqAt.shaped (.tuple (ns.map PyData.int)) = true := by
  obtain ⟨a, b⟩ := lay_ints ns
  unfold SeqAt.shaped
  simp only [PyData.canLay0, PyData.depth, a, b]
  rfl
theorem eqv_tnil (ns : List Int) : PyData.eqv (.tuple (ns.map PyData.int)) (.tuple []) = decide (ns = []) := by
  cases ns with
  | nil => rfl
  | cons a r => rfl
end Ck

namespace Ck
open PySem PySem.Spec PyProof.Rows L2 Evl
def ext1 (p : Int × Int) (q : List (Int × Int)) : List (List (Int × Int)) := q :: ((List.range p.2.toNat).map fun k => q ++ [(p.1, ((k + 1 : Nat) : Int))])
def partsOf (qs : List (Int × Int)) : List (List (Int × Int)) := qs.foldl (fun acc p => acc.flatMap (ext1 p)) [[]]
theorem parts_snoc (qs : List (Int × Int)) (p : Int × Int) : partsOf (qs ++ [p]) = (partsOf qs).flatMap (ext1 p) := by
  unfold partsOf
  rw [List.foldl_append]
  rfl
end Ck

namespace Ck
open PySem PySem.Spec PyProof.Rows L2 Evl
structure Chd (ns : List Int) (L : Int) : Prop where
  last : ∃ r, ns = r ++ [L]
  pw : ns.Pairwise fun a b => a < b ∧ a ∣ b
  pos : ∀ n ∈ ns, 0 < n ∧ n ≤ L ∧ n ∣ L
theorem Chd.one {L : Int} (h : 0 < L) : Chd [L] L := ⟨⟨[], rfl⟩, List.pairwise_singleton _ _, fun n hn => by cases List.mem_singleton.mp hn; exact ⟨h, Int.le_refl _, Int.dvd_refl _⟩⟩
theorem Chd.posL {ns : List Int} {L : Int} (h : Chd ns L) : 0 < L := by
  obtain ⟨r, e⟩ := h.last
  exact (h.pos L (by rw [e]; exact List.mem_append_right _ (List.mem_singleton.mpr rfl))).1
theorem Chd.at {ns : List Int} {L : Int} (h : Chd ns L) : atI (ns.map V.int) (-1) = some (.int L) := by
  obtain ⟨r, rfl⟩ := h.last
  rw [List.map_append]
  exact atI_last _ _
theorem Chd.snoc {ns : List Int} {L s : Int} (h : Chd ns L) (hs : 2 ≤ s) : Chd (ns ++ [L * s]) (L * s) := by
  have l0 := h.posL
  have lt : L < L * s := by
    have : L * 2 ≤ L * s := Int.mul_le_mul_of_nonneg_left hs (by omega)
    omega
  have dv : L ∣ L * s := Int.dvd_mul_right L s
  refine ⟨⟨ns, rfl⟩, List.pairwise_append.mpr ⟨h.pw, List.pairwise_singleton _ _, fun a ha b hb => ?_⟩, fun n hn => ?_⟩
  · cases List.mem_singleton.mp hb
    obtain ⟨_, h2, h3⟩ := h.pos a ha
    exact ⟨by omega, Int.dvd_trans h3 dv⟩
  · rcases List.mem_append.mp hn with m | m
    · obtain ⟨h1, h2, h3⟩ := h.pos n m
      exact ⟨h1, by omega, Int.dvd_trans h3 dv⟩
    · cases List.mem_singleton.mp m
      exact ⟨by omega, Int.le_refl _, Int.dvd_refl _⟩
def spMade (K : PySem.W.Frag) (C : Addr) : Sp := fun vs H Q _ => ∃ d ps, vs = [.ref d] ∧ H d = some (.dK (ps.map kc)) ∧ Cts ps ∧ ∀ a qs H', Ex H H' → qs.Perm ps → Asc qs → LotAt K C H' a qs → Q (.ref a) H'
def spTot : Sp := fun vs H Q _ => ∃ d ps, vs = [.ref d] ∧ H d = some (.dK (ps.map kc)) ∧ Cts ps ∧ ∀ H', Ex H H' → Q (.int (tot ps)) H'
def RD (H : Hp) (x : V) (ps : List (Int × Int)) : Prop := ∃ d, x = .ref d ∧ H d = some (.dK (ps.map kc))
end Ck
namespace Ck
open PySem PySem.Spec PyProof.Rows L2 Evl
theorem putK_new {ps : List (Int × Int)} {s c : Int} (h : s ∉ ps.map Prod.fst) : putK (ps.map kc) (Sum.inl s : Key) (.int c) = (ps ++ [(s, c)]).map kc := by
  unfold putK
  rw [valV_any, valV_kc, cnt_none.mpr h]
  show (if false = true then _ else _) = _
  rw [if_neg Bool.false_ne_true, List.map_append]
  rfl
end Ck
namespace Ck
open PySem PySem.Spec PyProof.Rows L2 StX Evl
theorem range_getD (ps : List (Int × Int)) : (List.range ps.length).map (fun i => ps.getD i (0, 0)) = ps := by
  refine List.ext_getElem (by rw [List.length_map, List.length_range]) fun i h1 h2 => ?_
  rw [List.getElem_map, List.getElem_range, List.getD_eq_getElem?_getD, List.getElem?_eq_getElem h2]
  rfl
theorem kc_at {ps : List (Int × Int)} {i : Nat} {k : Key} {x : V} (h : (ps.map kc)[i]? = some (k, x)) : ∃ p ∈ ps, ps.getD i (0, 0) = p ∧ k = Sum.inl p.1 ∧ x = V.int p.2 := by
  rw [List.getElem?_map] at h
  obtain ⟨p, hp, e⟩ := Option.map_eq_some_iff.mp h
  obtain ⟨rfl, rfl⟩ := Prod.mk.inj e
  exact ⟨p, List.mem_of_getElem? hp, by rw [List.getD_eq_getElem?_getD, hp]; rfl, rfl, rfl⟩
section
variable {K : PySem.W.Frag} {σ : L2.St} {H : Hp} {tl te : TE} {tt : TT} {ta : TA} {C d : Addr} {ps qs : List (Int × Int)} {j : Nat} {ws : List Nat}
abbrev rDictP (K : PySem.W.Frag) : List V → Hp → VK → Prop := fun xs H Q => ∃ (a : Addr) (ps : List Addr) (kvs : List (Key × V)), xs = [.ref a] ∧ SqL K H a (ps.map V.ref) ∧ Paired (fun p kv => SqT K H p [kV kv.1, kv.2]) ps kvs ∧
  ∀ p, H p = none → Q (.ref p) (upd H p (.dK (mergeK [] kvs)))
theorem dl_of (h : ∀ H1, Ex H H1 → ∀ Q : VK, (∀ D vs H2, H1 D = none → Ex H1 H2 → H2 D = some (.lst vs) → F2 (RP K H2) vs qs → Q (.ref D) H2) → tl σ H1 Q) (hn : (qs.map Prod.fst).Nodup) :
    ∀ H1, Ex H H1 → ∀ Q : VK, (∀ p H2, H1 p = none → Ex H1 H2 → H2 p = some (.dK (qs.map kc)) → Q (.ref p) H2) → tCB (rDictP K) (tCons tl tNil) σ H1 Q := fun H1 e1 Q q =>
  h H1 e1 _ fun D vs H2 nD e2 hD hf => by
    obtain ⟨ts, rfl, hp⟩ := f2_refs hf
    exact ⟨D, ts, qs.map kc, rfl, SqL.of hD, hp, fun p hp2 => by
      rw [merge_kc hn]
      exact q p _ (fresh_back e2 hp2) (e2.trans (Ex.new hp2)) upd_same⟩
theorem lc_self (hv : ∀ H1, Ev te σ H1 (.ref d)) (hv2 : ∀ x H1, Ev te ((wipe σ ws).set j x) H1 (.ref d)) (hj : ∀ x : V, ((wipe σ ws).set j (some x))[j]? = some (some x)) (hd : H d = some (.dK (ps.map kc))) (hn : (ps.map Prod.fst).Nodup) (hl : ps.length ≤ 40000) (hw : ∀ x, wipe ((wipe σ ws).set j (some x)) ws = wipe σ ws) :
    ∀ H1, Ex H H1 → ∀ Q : VK, (∀ D vs H2, H1 D = none → Ex H1 H2 → H2 D = some (.lst vs) → F2 (RP K H2) vs ps → Q (.ref D) H2) → tLockE (tLc (iKeys te) (gName j) tYes (tTup (tCons (tVar j) (tCons (tDGet te (tVar j)) tNil))) ws) σ H1 Q := by
  have z := lc_keysP (K := K) (H := H) (td := te) (te := tTup (tCons (tVar j) (tCons (tDGet te (tVar j)) tNil))) (fun i => ps.getD i (0, 0)) hv hd (by rw [List.length_map]; exact hl) hw (fun i k x H1 hk hf => by
    obtain ⟨p, hp, e, rfl, rfl⟩ := kc_at hk
    rw [e]
    exact evr_pair (ev_var (hj _)) (ev_dget (hv2 _ H1) (ev_var (hj _)) (fun H2 e2 => (hf.to e2).dk) ((cnt_mem hn).mp hp)))
  rw [List.length_map, range_getD] at z
  exact z
theorem lot_make (h : ∀ Q : VK, (∀ p H1, Ex H H1 → H1 p = some (.dK (ps.map kc)) → Q (.ref p) H1) → te σ H Q) (hc : Cts ps) (Q : VK) (q : ∀ a qs H', Ex H H' → qs.Perm ps → Asc qs → LotAt K C H' a qs → Q (.ref a) H') :
    tMakeR C (spLotI K C) E0 (tCons te tNil) σ H Q := h _ fun p H1 e1 h1 x dx nx ndx ne => by
  have e2 : Ex H1 (upd (upd H1 dx (.own x)) x (.ins C dx [])) := Ex.mut (Ex.new ndx) nx
  exact ⟨x, dx, .ref p, ps, H1, rfl, e2, nx, upd_same, hc, .inr ⟨p, rfl, h1⟩, fun qs H' e3 hp ha hl => ⟨rfl, q x qs H' (e1.trans e3) hp ha hl⟩⟩
theorem cts_nil : Cts [] := ⟨List.nodup_nil, Nat.zero_le _, fun p hp => (nomatch hp)⟩
theorem lot_make0 (Q : VK) (q : ∀ a H', Ex H H' → LotAt K C H' a [] → Q (.ref a) H') : tMakeR C (fun vs H Q E => spLotI K C (vs ++ [.non]) H Q E) E0 tNil σ H Q := fun x dx nx ndx ne => by
  have e2 : Ex H (upd (upd H dx (.own x)) x (.ins C dx [])) := Ex.mut (Ex.new ndx) nx
  exact ⟨x, dx, .non, [], H, rfl, e2, nx, upd_same, cts_nil, .inl ⟨rfl, rfl⟩, fun qs H' e3 hp ha hl => ⟨rfl, q x H' e3 (by rw [← List.perm_nil.mp hp]; exact hl)⟩⟩
end
theorem given_if (ps : List (Int × Int)) (c : Int × Int → Bool) (g : Int × Int → Int) : given ps.length (fun i => c (ps.getD i (0, 0))) (fun i => V.int (g (ps.getD i (0, 0)))) = ((ps.filter c).map g).map V.int := by
  unfold given
  conv => rhs; rw [← range_getD ps, List.filter_map, List.map_map, List.map_map]
  rfl
end Ck

namespace Ck
open PySem PySem.Spec PyProof.Rows L2 StX Evl
def EvP (K : PySem.W.Frag) (te : TE) (σ : L2.St) (H : Hp) (qs : List (Int × Int)) : Prop := ∀ H1, Ex H H1 → ∀ Q : VK, (∀ D vs H2, H1 D = none → Ex H1 H2 → H2 D = some (.lst vs) → F2 (RP K H2) vs qs → Q (.ref D) H2) → te σ H1 Q
section
variable {K : PySem.W.Frag} {σ : L2.St} {H : Hp} {ta tb te : TE} {d : Addr} {qs rs : List (Int × Int)} {a b : Int}
theorem f2_of_paired {H' : Hp} : ∀ {ts : List Addr} {qs : List (Int × Int)}, Paired (fun (t : Addr) (q : Key × V) => H' t = some (.tup [kV q.1, q.2])) ts (qs.map kc) → F2 (RP K H') (ts.map V.ref) qs
  | [], [], _ => .nil
  | t :: ts, q :: qs, .cons h r => .cons ⟨t, rfl, SqT.of h⟩ (f2_of_paired r)
theorem evp_one (ha : Ev ta σ H (.int a)) (hb : Ev tb σ H (.int b)) : EvP K (tLst (tCons (tTup (tCons ta (tCons tb tNil))) tNil)) σ H [(a, b)] := fun H1 e Q q =>
  evr_pair (K := K) ha hb H1 e (fun x H2 => tNil σ H2 fun xs H3 => (x :: xs).length ≤ sizeLine ∧ ∀ p, H3 p = none → Q (.ref p) (L2.upd H3 p (.lst (x :: xs)))) fun v H2 e2 hv => ⟨(show 1 ≤ sizeLine by decide), fun p hp => q p [v] _ (fresh_back e2 hp) (e2.trans (Ex.new hp)) upd_same (.cons (hv.ex (Ex.new hp)) .nil)⟩
theorem evp_cat (ha : EvP K ta σ H qs) (hb : EvP K tb σ H rs) (hl : qs.length + rs.length ≤ 100000) : EvP K (tOp rCat ta tb) σ H (qs ++ rs) := fun H1 e Q q =>
  ha H1 e _ fun D vs H2 nD e2 hD hf => hb H2 (e.trans e2) _ fun D' us H3 nD' e3 hD' hf' => ⟨D, D', vs, us, rfl, rfl, e3 _ _ hD, hD', sz_of (by rw [hf.len, hf'.len]; exact hl), fun p hp => q p _ _ (fresh_back (e2.trans e3) hp) ((e2.trans e3).trans (Ex.new hp)) upd_same
    (((hf.imp fun x b r => r.ex (e3.trans (Ex.new hp))).app (hf'.imp fun x b r => r.ex (Ex.new hp))))⟩
theorem evr_dict (h : EvP K te σ H qs) (hn : (qs.map Prod.fst).Nodup) : EvR RD (tCB (rDictP K) (tCons te tNil)) σ H qs := fun H1 e Q q => dl_of h hn H1 e _ fun p H2 _ e2 h2 => q (.ref p) H2 e2 ⟨p, rfl, h2⟩
end
end Ck
namespace Ck
open PySem PySem.Spec PyProof.Rows L2 StX Evl
theorem parts_keys : ∀ (n : Nat) (ws : List (Int × Int)), ws.length = n → ∀ q ∈ partsOf ws, (q.map Prod.fst).Sublist (ws.map Prod.fst)
  | 0, ws, hn, q, hq => by
    rw [List.eq_nil_of_length_eq_zero hn] at hq ⊢
    cases List.mem_singleton.mp hq
    exact List.Sublist.refl _
  | n + 1, ws, hn, q, hq => by
    have hne : ws ≠ [] := fun e => by rw [e] at hn; cases hn
    have e : ws = ws.dropLast ++ [ws.getLast hne] := (List.dropLast_concat_getLast hne).symm
    have ih := parts_keys n ws.dropLast (by rw [List.length_dropLast, hn]; rfl)
    generalize ws.getLast hne = p at e
    generalize ws.dropLast = us at e ih
    subst e
    rw [parts_snoc] at hq
    obtain ⟨r, hr, hm⟩ := List.mem_flatMap.mp hq
    rw [List.map_append]
    rcases List.mem_cons.mp hm with rfl | hm
    · exact (ih q hr).trans (List.sublist_append_left _ _)
    · obtain ⟨k, _, rfl⟩ := List.mem_map.mp hm
      rw [List.map_append]
      exact List.Sublist.append (ih r hr) (List.Sublist.refl _)
theorem sum_of_perm {a b : List Int} (h : a.Perm b) : a.sum = b.sum := by
  induction h with
  | nil => rfl
  | cons x _ ih => rw [List.sum_cons, List.sum_cons, ih]
  | swap x y l => rw [List.sum_cons, List.sum_cons, List.sum_cons, List.sum_cons]; omega
  | trans _ _ a b => rw [a, b]
end Ck

namespace Ck
open PySem PySem.Spec PyProof.Rows L2 StX Evl RZ
theorem self_cnt {ps : List (Int × Int)} (h : (ps.map Prod.fst).Nodup) : (ps.map Prod.fst).map (fun n => (n, (cnt ps n).getD 0)) = ps := by
  rw [List.map_map]
  have key : ∀ p ∈ ps, ((fun n => (n, (cnt ps n).getD 0)) ∘ Prod.fst) p = p := fun p hp => by
    show (p.1, (cnt ps p.1).getD 0) = p
    rw [(cnt_mem h).mp (show (p.1, p.2) ∈ ps from hp)]
    rfl
  rw [List.map_congr_left key, List.map_id']
theorem asc_unique {a b : List (Int × Int)} (ha : Asc a) (hb : Asc b) (p : a.Perm b) : a = b := by
  have k : a.map Prod.fst = b.map Prod.fst := sorted_one ha hb fun k => (p.map Prod.fst).mem_iff
  rw [← self_cnt (asc_nodup ha), ← self_cnt (asc_nodup hb), k]
  exact List.map_congr_left fun n _ => by rw [cnt_perm (asc_nodup hb) p]
theorem siz_of {i : Int} (h : 0 < i) (h2 : i.natAbs < 10 ^ 200) : sizB i = true := by
  unfold sizB intB
  rw [decide_eq_true h2, decide_eq_true (show 1 ≤ i by omega)]
  rfl
theorem parts_ok : ∀ (n : Nat) (ws : List (Int × Int)), ws.length = n → ∀ q ∈ partsOf ws, ∀ x ∈ q, ∃ y ∈ ws, x.1 = y.1 ∧ 0 < x.2 ∧ x.2 ≤ y.2
  | 0, ws, hn, q, hq => by
    rw [List.eq_nil_of_length_eq_zero hn] at hq
    cases List.mem_singleton.mp hq
    exact fun x hx => nomatch hx
  | n + 1, ws, hn, q, hq => by
    have hne : ws ≠ [] := fun e => by rw [e] at hn; cases hn
    have e : ws = ws.dropLast ++ [ws.getLast hne] := (List.dropLast_concat_getLast hne).symm
    have ih := parts_ok n ws.dropLast (by rw [List.length_dropLast, hn]; rfl)
    generalize ws.getLast hne = p at e
    generalize ws.dropLast = us at e ih
    subst e
    rw [parts_snoc] at hq
    obtain ⟨r, hr, hm⟩ := List.mem_flatMap.mp hq
    intro x hx
    have old : x ∈ r → ∃ y ∈ us ++ [p], x.1 = y.1 ∧ 0 < x.2 ∧ x.2 ≤ y.2 := fun m => by
      obtain ⟨y, h1, h2⟩ := ih r hr x m
      exact ⟨y, List.mem_append_left _ h1, h2⟩
    rcases List.mem_cons.mp hm with rfl | hm
    · exact old hx
    · obtain ⟨k, hk, rfl⟩ := List.mem_map.mp hm
      have := List.mem_range.mp hk
      rcases List.mem_append.mp hx with m | m
      · exact old m
      · rw [List.mem_singleton.mp m]
        exact ⟨p, List.mem_append_right _ (List.mem_singleton.mpr rfl), rfl, by show (0 : Int) < ((k + 1 : Nat) : Int); omega, by show ((k + 1 : Nat) : Int) ≤ p.2; omega⟩
theorem parts_cts {ws q : List (Int × Int)} (hc : Cts ws) (hq : q ∈ partsOf ws) : Cts q := by
  have sb := parts_keys _ _ rfl q hq
  have l := sb.length_le
  rw [List.length_map, List.length_map] at l
  refine ⟨List.Nodup.sublist sb hc.nd, Nat.le_trans l hc.ln, fun x hx => ?_⟩
  obtain ⟨y, hy, e, h1, h2⟩ := parts_ok _ _ rfl q hq x hx
  obtain ⟨s1, s2⟩ := hc.ok y hy
  have z := siz_int s2
  exact ⟨by rw [e]; exact s1, siz_of h1 (by omega)⟩
section
variable {K : PySem.W.Frag} {σ : L2.St} {H : Hp} {tl te ty td : TE} {tt : TT} {a p : Addr} {ns : List Int} {n : Int} {j : Nat} {ws : List Nat}
theorem el_lcNL (c : Int → Bool) (f : Int → V) (h : EvL tl σ H (ns.map V.int)) (hz : ns.length ≤ 40000) (hw : ∀ x, wipe ((wipe σ ws).set j (some x)) ws = wipe σ ws)
    (ht : ∀ n ∈ ns, ∀ H1, Ex H H1 → EvT tt ((wipe σ ws).set j (some (.int n))) H1 (c n)) (he : ∀ n ∈ ns, c n = true → ∀ H1, Ex H H1 → Ev te ((wipe σ ws).set j (some (.int n))) H1 (f n)) :
    EvL (tLc (iList K tl) (gName j) tt te ws) σ H ((ns.filter c).map f) := fun H0 e0 Q q => h H0 e0 _ fun a H1 _ e1 hx => ⟨a, rfl, ⟨_, SqL.of hx⟩, fun D hD => by
  refine lc_it walk_list (fun i H' => H1 D = none ∧ Ex H1 H' ∧ ∃ vs, H' D = some (.lst vs) ∧ vs.length ≤ i ∧ vs = ((ns.take i).filter c).map f) ⟨hD, Ex.new hD, [], upd_same, Nat.le_refl _, rfl⟩ (fun i H' _ p => SqL.of (p.2.1 _ _ hx)) ?_ ?_
  · rintro i x H2 H3 hi ⟨p1, p2, vs, p3, p4, p5⟩ ⟨e3, hxi⟩
    rw [e3]
    rw [List.length_map] at hi
    rw [List.getElem?_map, List.getElem?_eq_getElem hi] at hxi
    obtain rfl := Option.some.inj hxi
    have m := List.getElem_mem hi
    have e02 := (e0.trans e1).trans p2
    refine ⟨hw _, ht _ m H2 e02 H2 (Ex.refl H2) _ fun H4 e4 => ?_⟩
    have st : ns.take (i + 1) = ns.take i ++ [ns[i]] := by rw [List.take_add_one, List.getElem?_eq_getElem hi]; rfl
    cases hc : c ns[i] with
    | true =>
      refine iteT (he _ m hc H4 (e02.trans e4) H4 (Ex.refl H4) _ fun H5 e5 => ⟨vs, (e4.trans e5) _ _ p3, sz_lt (by omega), p1, Ex.mut (p2.trans (e4.trans e5)) p1, vs ++ [f ns[i]], upd_same, by rw [List.length_append]; exact Nat.succ_le_succ p4, ?_⟩)
      rw [st, List.filter_append, List.map_append, show [ns[i]].filter c = [ns[i]] by rw [List.filter_cons, hc]; rfl, p5]
      rfl
    | false =>
      refine iteF ⟨p1, p2.trans e4, vs, e4 _ _ p3, Nat.le_succ_of_le p4, ?_⟩
      rw [st, List.filter_append, show [ns[i]].filter c = [] by rw [List.filter_cons, hc]; rfl, List.append_nil]
      exact p5
  · rintro H2 ⟨p1, p2, vs, p3, _, p5⟩
    rw [List.length_map, List.take_of_length_le (Nat.le_refl _)] at p5
    rw [p5] at p3
    exact q D H2 (fresh_back e1 p1) (e1.trans p2) p3⟩
end
end Ck
namespace Ck
open PySem PySem.Spec PyProof.Rows L2
theorem Chd.nodup {ns : List Int} {L : Int} (h : Chd ns L) : ns.Nodup := List.Pairwise.imp (fun {a b} (x : a < b ∧ a ∣ b) (e : a = b) => by omega) h.pw
end Ck
namespace Ck
open PySem PySem.Spec PyProof.Rows L2 StX Evl
section
variable {K : PySem.W.Frag} {σ : L2.St} {H : Hp} {ta tb te : TE} {tr : TA} {C a : Addr} {ds es : List PyData}
abbrev tLot0 (K : PySem.W.Frag) (C : Addr) : TE := tMakeR C (fun vs H Q E => spLotI K C (vs ++ [.non]) H Q E) E0 tNil
end
end Ck

namespace Ck
open PySem PySem.Spec PyProof.Rows L2 StX Evl
section
variable {K : PySem.W.Frag} {mg : Str → Option Value} {x qual : Str} {C f p g T : Addr} {st : Stmt} {ps : List Str} {oc kV dc pm cd ct oT : Value} {od an dT : Option Addr} {sl sT : Array (Option Value)} {nT : Nat} {rest : List Value}
theorem dpr_mk (a : PySem.W.findIn K (.ref C) x = some (some (.ref p))) (gt : PySem.W.specialIn K (.ref p) "__get__" = some (some (.builtin "property.__get__"))) (tk : PySem.W.takesIn K (.ref p) = some true) (rc : PySem.W.recIn K p "property" = some (.ref g :: rest))
    (l : K.lookup g = some ⟨oc, od, .func (PySem.W.fnOf x qual (defArgs st) (defBody st) (defScope st) .none kV dc pm an cd ct), sl⟩) (c : PySem.W.codeIn K cd qual = true) (k : PySem.W.keepIn K (.ref g) = true)
    (h : ∀ (kV doc pm : Value) (an : Option Addr) (cdv ct : Value) (us : List Value), us.length = (["self"] : List Str).length → bindArgs (PySem.W.fnOf x qual (defArgs st) (defBody st) (defScope st) .none kV doc pm an cdv ct) ⟨us, []⟩ = pure ((["self"] : List Str).zip us)) : Dpr K C x qual st :=
  ⟨p, g, _, ⟨a, gt, tk, rest, rc⟩, fun_mk l c k, (fun_mk (st := st) l c k).binds h⟩
theorem dop_mk (a : PySem.W.findIn K (.ref C) x = some (some (.ref g))) (i : PySem.W.isFn K (.ref g) = true) (fi : PySem.W.fnIn K g = true)
    (l : K.lookup g = some ⟨oc, od, .func (PySem.W.fnOf x qual (defArgs st) (defBody st) (defScope st) .none kV dc pm an cd ct), sl⟩) (c : PySem.W.codeIn K cd qual = true) (k : PySem.W.keepIn K (.ref g) = true)
    (h : ∀ (kV doc pm : Value) (an : Option Addr) (cdv ct : Value) (us : List Value), us.length = ps.length → bindArgs (PySem.W.fnOf x qual (defArgs st) (defBody st) (defScope st) .none kV doc pm an cdv ct) ⟨us, []⟩ = pure (ps.zip us)) : Dop K C x qual st ps :=
  ⟨g, _, a, i, fi, k, fun_mk l c k, (fun_mk (st := st) l c k).binds h⟩
theorem din_mk (gc : mg x = some (.ref C)) (mks : PySem.W.makesIn K C = true) (a : PySem.W.findIn K (.ref C) "__init__" = some (some (.ref f))) (i : PySem.W.isFn K (.ref f) = true) (kc : PySem.W.keepIn K (.ref C) = true)
    (l : K.lookup f = some ⟨oc, od, .func (PySem.W.fnOf "__init__" qual (defArgs st) (defBody st) (defScope st) (.ref T) kV dc pm an cd ct), sl⟩) (lT : K.lookup T = some ⟨oT, dT, .seq #[.none] nT, sT⟩) (c : PySem.W.codeIn K cd qual = true) (k : PySem.W.keepIn K (.ref f) = true) (h2 : ps.length = 2)
    (b2 : ∀ (T : Addr) (kV doc pm : Value) (an : Option Addr) (cdv ct : Value) (us its : List Value), us.length = 2 → its.length = 1 →
      ∃ k, bindArgs (PySem.W.fnOf "__init__" qual (defArgs st) (defBody st) (defScope st) (.ref T) kV doc pm an cdv ct) ⟨us, []⟩ = seqItems? (.ref T) >>= k ∧ k (some its.toArray) = pure (ps.zip (us ++ its.drop 1)))
    (b1 : ∀ (T : Addr) (kV doc pm : Value) (an : Option Addr) (cdv ct : Value) (us its : List Value), us.length = 1 → its.length = 1 →
      ∃ k, bindArgs (PySem.W.fnOf "__init__" qual (defArgs st) (defBody st) (defScope st) (.ref T) kV doc pm an cdv ct) ⟨us, []⟩ = seqItems? (.ref T) >>= k ∧ k (some its.toArray) = pure (ps.zip (us ++ its.drop 0))) : Din K mg x C qual st ps := by
  have F : FunD K "__init__" qual (defArgs st) (defBody st) (defScope st) [V.non] [] f (PySem.W.fnOf "__init__" qual (defArgs st) (defBody st) (defScope st) (.ref T) kV dc pm an cd ct) :=
    ⟨⟨oc, od, .ref T, kV, dc, pm, an, cd, ct, sl, rfl, l, c, .inr ⟨List.cons_ne_nil _ _, T, _, [.none], nT, rfl, lT, rfl, .cons rfl .nil⟩, .inl rfl⟩, k⟩
  refine ⟨f, _, ⟨mks, a, i, kc⟩, gc, F, ?_, F.binds1 1 0 (List.cons_ne_nil _ _) (by rw [h2]; rfl) b1⟩
  obtain ⟨ds, v, b⟩ := F.binds1 2 1 (List.cons_ne_nil _ _) (by rw [h2]; rfl) b2
  cases v
  exact b
end
end Ck

namespace Ck
open PySem PySem.Spec PyProof.Rows L2 Evl
theorem bool_iff {a b : Bool} (h : a = true ↔ b = true) : a = b := by
  cases a <;> cases b <;> simp at h <;> rfl
section
variable {us : List (Int × Int)} {p : Int × Int}
end
end Ck

namespace Ck
open PySem PySem.Spec PyProof.Rows L2 Evl
end Ck

namespace Ck
open PySem PySem.Spec PyProof.Rows L2
section
variable {P : Program} {w : World} {A : Around} {E : Value → Shared → Prop} {s : Shared} {a : Addr}
end
section
variable {X : Cx}
end
section
variable {X : Cx} {k j : Nat} {C : Addr} {sp : Sp} {ps : List Str}
end
end Ck
namespace Ck
open PySem PySem.Spec PyProof.Rows L2
section
variable {X : Cx}
end
end Ck

namespace Ck
open PySem PySem.Spec PyProof.Rows L2 StX Evl
section
variable {K : PySem.W.Frag} {σ : L2.St} {H : Hp} {C a l : Addr} {te tl : TE} {ta : TA} {ps : List (Int × Int)} {ns us : List Int} {xs : List V} {ts : List (Int × Int × Int)} {b n : Int} {w : World}
end
end Ck
namespace Ck
open PySem PySem.Spec PyProof.Rows L2 StX Evl
theorem atI_0 (x : V) (xs : List V) : atI (x :: xs) 0 = some x := atI_nat (xs := x :: xs) (j := 0) rfl
section
variable {K : PySem.W.Frag} {σ : L2.St} {H : Hp} {C a : Addr} {te tb : TE} {ps : List (Int × Int)} {xs : List V} {i : Int} {v : V}
end
end Ck
namespace Ck
open PySem PySem.Spec PyProof.Rows L2 StX Evl
section
variable {K : PySem.W.Frag} {σ : L2.St} {H : Hp} {C a d p : Addr} {ta te tb tl : TE} {tr : TA} {ps : List (Int × Int)} {xs : List V} {i n : Int} {v : V} {j : Nat} {ws : List Nat} {kvs : List (Key × V)}
end
theorem eqv_lints (ms ns : List Int) : PyData.eqv (.list (ms.map PyData.int)) (.list (ns.map PyData.int)) = decide (ms = ns) := by
  simp only [PyData.eqv, eqv_tups]
theorem shaped_lints (ns : List Int) : SeqAt.shaped (.list (ns.map PyData.int)) = true := by
  obtain ⟨a, b⟩ := lay_ints ns
  unfold SeqAt.shaped
  simp only [PyData.canLay0, PyData.depth, a, b]
  rfl
theorem dpa_lints {K : PySem.W.Frag} {H : Hp} (ns : List Int) : DpAll K H (ns.map V.int) (ns.map PyData.int) := dpa_ints ns
end Ck
namespace Ck
end Ck
namespace Ck
open PySem PySem.Spec PyProof.Rows L2 StX Evl
theorem ev_neg {σ : L2.St} {H : Hp} {te : TE} {i : Int} (h : Ev te σ H (.int i)) : Ev (tUn (rU fun i => .int (-i)) te) σ H (.int (-i)) := ev_un h fun H1 _ _ q => ⟨i, rfl, q H1 (Ex.refl H1)⟩
end Ck
namespace Ck
open PySem PySem.Spec PyProof.Rows L2 StX Evl
section
variable {K : PySem.W.Frag} {σ : L2.St} {H : Hp} {C a : Addr} {te : TE}
end
end Ck

namespace Ck
open PySem PySem.Spec PyProof.Rows L2 Evl
end Ck
namespace Ck
open PySem PySem.Spec PyProof.Rows L2 StX Evl
section
variable {K : PySem.W.Frag} {σ : L2.St} {H : Hp} {td te : TE} {tt : TT} {d : Addr} {od : Obj} {kvs : List (Key × V)} {j : Nat} {ws : List Nat}
end
end Ck
namespace Ck
open PySem PySem.Spec PyProof.Rows L2 StX Evl
section
variable {K : PySem.W.Frag} {σ : L2.St} {H : Hp} {ta tb te tl : TE} {d : Addr} {ps : List (Int × Int)} {ns : List Int} {xs ys : List V}
theorem el_catL (ha : EvL ta σ H xs) (hb : EvL tb σ H ys) (hz : xs.length + ys.length ≤ 100000) : EvL (tOp rCat ta tb) σ H (xs ++ ys) := fun H1 e Q q => ha H1 e _ fun a H2 n2 e2 hx => hb H2 (e.trans e2) _ fun b H3 n3 e3 hy =>
  ⟨a, b, xs, ys, rfl, rfl, e3 _ _ hx, hy, sz_of hz, fun p hp => q p _ (fresh_back (e2.trans e3) hp) ((e2.trans e3).trans (Ex.new hp)) upd_same⟩
end
end Ck
namespace Ck
open PySem PySem.Spec PyProof.Rows L2 StX Evl
end Ck
namespace Ck
open PySem PySem.Spec PyProof.Rows L2 StX Evl
section
variable {K : PySem.W.Frag} {H H' : Hp} {d : Addr}
theorem dice_ne {b : Addr} {o : HO} (hd : Dice H d) (h : H b = some o) (n : ∀ xs, o ≠ .lst xs) : b ≠ d := fun e => by
  obtain ⟨x, y, z, q⟩ := hd
  rw [e, q] at h
  exact n _ (Option.some.inj h).symm
theorem sqT_kp {t : Addr} {xs : List V} (hd : Dice H d) (k : Kp d H H') (h : SqT K H t xs) : SqT K H' t xs := by
  rcases h with (h | ⟨o, h⟩) | h
  · exact .inl (.inl (k _ _ (dice_ne hd h fun _ z => by cases z) h))
  · exact .inl (.inr ⟨o, k _ _ (dice_ne hd h fun _ z => by cases z) h⟩)
  · exact .inr h
end
end Ck
namespace Ck
open PySem PySem.Spec PyProof.Rows L2 StX Evl
section
variable {K : PySem.W.Frag} {σ : L2.St} {H : Hp} {ta tb : TE}
end
end Ck

namespace Ck
open PySem PySem.Spec PyProof.Rows L2
section
variable {X : Cx}
end
section
variable {X : Cx} {k j : Nat} {C : Addr} {m : Str} {sp : Sp} {ps : List Str} {e o : Expr} {es : List Expr} {ta : TE} {t : TA} {apos pos : Pos} {pl : Sem Bool}
theorem pmeth (c : Og X.prog X.w X.K X.mg X.base k C m ps sp) (hr : Room j X.A) (he : PE X o ta) (ha : PA X (e :: es) t) (hk : k ≤ j := by decide)
    (hst : starEach (e :: es) X.env = (false, eval e X.env) :: starEach es X.env := by rfl) (hpl : (backTo pos (starEach es X.env)).any (·.1) = false := by rfl)
    (ht : eval (.Call (.Attribute o m apos) (e :: es) [] pos) X.env = (do
      let ov ← eval o X.env
      standAt apos.atName
      let (f, first) ← holding [ov] (getMethod ov m pl)
      callWith pos f first (backTo pos (starEach (e :: es) X.env)) (backToKw pos (keywordEach [] X.env))) := by rfl) :
    PE X (.Call (.Attribute o m apos) (e :: es) [] pos) (tMeth C m sp [] E0 ta t) := by
  obtain ⟨hc, g, fd, hs, hfn, hf, kp, F, b⟩ := c
  exact pe_meth (pl := pl) he hc ⟨hs, hfn, kp⟩ F (hr.mono hk) b .nil pass0 ha hst hpl ht
end
end Ck

namespace Ck
open PySem PySem.Spec PyProof.Rows L2 StX Evl
def partB (qs ps : List (Int × Int)) : Bool := qs.all fun q => decide (q.2 ≤ (cnt ps q.1).getD 0)
def spCounts (K : PySem.W.Frag) (C : Addr) : Sp := fun vs H Q _ => ∃ a ps, vs = [.ref a] ∧ LotAt K C H a ps ∧ ∀ p H', Ex H H' → H p = none → H' p = some (.dK (ps.map kc)) → Q (.ref p) H'
def spPartOf (K : PySem.W.Frag) (C : Addr) : Sp := fun vs H Q _ => ∃ a b qs ps, vs = [.ref a, .ref b] ∧ LotAt K C H a qs ∧ LotAt K C H b ps ∧ Cts qs ∧ ∀ H', Ex H H' → Q (.bl (partB qs ps)) H'
end Ck
namespace Ck
open PySem PySem.Spec PyProof.Rows L2 StX Evl
end Ck
namespace Ck
open PySem PySem.Spec PyProof.Rows L2 StX Evl
section
variable {K : PySem.W.Frag}
theorem kit_ofT {T : String} {C : Addr} {b : Bool} (h : PySem.W.subIn K (.type T) (.ref C) = some b) (hc : PySem.W.isClsIn K C = true) (ht : PySem.W.typeIn K (.ref C) = some (.type "type")) : PySem.W.kitOne K (.type T) (.ref C) = some b := by
  unfold PySem.W.kitOne
  rw [if_neg (by simp)]
  show (if ((PySem.W.clsIn K C).isSome && PySem.W.typeIn K (.ref C) == some (.type "type")) = true then PySem.W.subIn K (.type T) (.ref C) else none) = some b
  rw [if_pos (by rw [show (PySem.W.clsIn K C).isSome = true from hc, ht]; rfl), h]
theorem kit_toT {D : Addr} {T : String} {b : Bool} (h : PySem.W.subIn K (.ref D) (.type T) = some b) (hm : PySem.W.kitMeta T = true) : PySem.W.kitOne K (.ref D) (.type T) = some b := by
  show (if PySem.W.kitMeta T = true then PySem.W.subIn K (.ref D) (.type T) else none) = some b
  rw [if_pos hm, h]
end
section
variable {K : PySem.W.Frag} {C : Addr} {p : Int → Bool} {H : Hp} {i : Int} {x : V}
end
theorem lot_meth (t1 t2 d : Addr) : (lotF t1 t2 d).lookup ("is_part_of" : Str) = none := by
  unfold lotF
  rw [lookup_putF, if_neg (by decide +kernel), lookup_putF, if_neg (by decide +kernel), lookup_putF, if_neg (by decide +kernel)]
  rfl
end Ck
namespace Ck
open PySem PySem.Spec PyProof.Rows L2 StX Evl
section
variable {K : PySem.W.Frag} {σ : L2.St} {H : Hp} {ta tb : TE} {t : Addr} {xs : List V} {i : Int} {ns : List Int}
end
end Ck
namespace Ck
open PySem PySem.Spec PyProof.Rows L2 StX Evl
theorem part_bad (qs ps : List (Int × Int)) : decide ((qs.filter fun p => decide ((cnt ps p.1).getD 0 < p.2)).map Prod.fst = []) = partB qs ps := by
  refine bool_iff ?_
  unfold partB
  rw [decide_eq_true_eq, List.map_eq_nil_iff, List.filter_eq_nil_iff, List.all_eq_true]
  constructor
  · intro k p hp
    have := k p hp
    rw [decide_eq_true_eq] at this
    exact decide_eq_true (by omega)
  · intro k p hp
    have := of_decide_eq_true (k p hp)
    rw [decide_eq_true_eq]
    omega
def spLip : Sp := fun vs H Q _ => ∃ d g qs ps, vs = [.ref d, .ref g] ∧ H d = some (.dK (qs.map kc)) ∧ H g = some (.dK (ps.map kc)) ∧ Cts qs ∧ ∀ H', Ex H H' → Q (.bl (partB qs ps)) H'
end Ck
namespace Ck
open PySem PySem.Spec PyProof.Rows L2 StX Evl
theorem s_retIfT {t : TT} {ta tb : TE} {D : Ends} {σ : L2.St} {H : Hp} (h : EvT t σ H true) (k : ∀ H1, Ex H H1 → ta σ H1 D.rt) : tRet (tIf t ta tb) D σ H := h H (Ex.refl H) _ fun H1 e1 => iteT (k H1 e1)
end Ck

namespace Ck
open PySem PySem.Spec PyProof.Rows L2 StX Evl
section
variable {K : PySem.W.Frag} {σ : L2.St} {H : Hp} {d g : Addr} {td te tk : TE} {tt : TT} {ta : TA} {j : Nat} {ws : List Nat} {kvs : List (Key × V)} {s c : Int}
theorem RP.kd {H' : Hp} {x : V} {p : Int × Int} (hd : Dice H d) (k : Kd d H H') (h : RP K H x p) : RP K H' x p := h.imp fun t h => ⟨h.1, sqT_kp hd k.1 h.2⟩
theorem lc_keysPF (cnd : Nat → Bool) (e : Nat → Int × Int) (hv : ∀ H1, Ev td σ H1 (.ref g)) (hd : H g = some (.dK kvs)) (hl : kvs.length ≤ 40000) (hw : ∀ x, wipe ((wipe σ ws).set j (some x)) ws = wipe σ ws)
    (ht : ∀ i k x H1, kvs[i]? = some (k, x) → Fz g (.dK kvs) H H1 → EvT tt ((wipe σ ws).set j (some (kV k))) H1 (cnd i)) (he : ∀ i k x H1, kvs[i]? = some (k, x) → Fz g (.dK kvs) H H1 → EvR (RP K) te ((wipe σ ws).set j (some (kV k))) H1 (e i)) :
    ∀ H0, Ex H H0 → ∀ Q : VK, (∀ D vs H2, H0 D = none → Ex H0 H2 → H2 D = some (.lst vs) → F2 (RP K H2) vs (((List.range kvs.length).filter cnd).map e) → Q (.ref D) H2) → tLockE (tLc (iKeys td) (gName j) tt te ws) σ H0 Q := fun H0 e0 Q q => by
  have hd0 := e0 _ _ hd
  refine ⟨g, _, hd0, trivial, fun od => hv _ _ (Ex.refl _) _ fun H2 e2 => ?_⟩
  have z : Fz g (.dK kvs) H0 H2 := (fz_of (od := od)).to e2
  have hd2 : H2 g = some (.frz od (.dK kvs)) := e2 _ _ upd_same
  refine ⟨g, od, rfl, .inl ⟨kvs, hd2, fun D hD => ?_⟩⟩
  refine lc_it walk_keys (fun i H' => H2 D = none ∧ Ex H2 H' ∧ ∃ vs, H' D = some (.lst vs) ∧ vs.length ≤ i ∧ F2 (RP K H') vs (((List.range i).filter cnd).map e)) ⟨hD, Ex.new hD, [], upd_same, Nat.le_refl _, .nil⟩ (fun _ _ _ p => p.2.1 _ _ hd2) ?_ ?_
  · rintro i _ H' H6 hi ⟨p1, p2, vs, p3, p4, p5⟩ ⟨rfl, k, x, hk, rfl⟩
    refine ⟨hw _, ht i k x H6 hk ((z.to p2).of e0) H6 (Ex.refl _) _ fun H7 e7 => ?_⟩
    cases hc : cnd i with
    | true =>
      refine iteT (he i k x H7 hk ((z.to (p2.trans e7)).of e0) _ (Ex.refl _) _ fun v H5 e5 hv5 => ⟨vs, (e7.trans e5) _ _ p3, sz_lt (by omega), p1, Ex.mut (p2.trans (e7.trans e5)) p1, vs ++ [v], upd_same, by rw [List.length_append]; exact Nat.succ_le_succ p4, ?_⟩)
      have hD5 := (e7.trans e5) _ _ p3
      rw [List.range_succ, List.filter_append, List.map_append, show [i].filter cnd = [i] by rw [List.filter_cons, hc]; rfl]
      exact (p5.imp fun x b r => (r.ex (e7.trans e5)).upd hD5).app (.cons (hv5.upd hD5) .nil)
    | false =>
      refine iteF ⟨p1, p2.trans e7, vs, e7 _ _ p3, Nat.le_succ_of_le p4, ?_⟩
      rw [List.range_succ, List.filter_append, show [i].filter cnd = [] by rw [List.filter_cons, hc]; rfl, List.append_nil]
      exact p5.imp fun x b r => r.ex e7
  · rintro H' ⟨p1, p2, vs, p3, _, p5⟩
    obtain ⟨n1, n2⟩ := z.new hd0 hD
    have hd3 := p2 _ _ hd2
    exact ⟨hd3, q D vs _ n1 ((z.to p2).back hd0) (by rw [upd_ne n2]; exact p3) (p5.imp fun x b r => r.back hd3)⟩
end
section
variable {K : PySem.W.Frag} {σ : L2.St} {H : Hp} {ta tb : TE} {α : Type} {R : Hp → V → α → Prop} {as bs : List α} {x y : α}
end
end Ck
namespace Ck
open PySem PySem.Spec PyProof.Rows L2 StX Evl
theorem cnt_ext {as bs : List (Int × Int)} {s : Int} (ha : (as.map Prod.fst).Nodup) (hb : (bs.map Prod.fst).Nodup) (h : ∀ c, (s, c) ∈ as ↔ (s, c) ∈ bs) : cnt as s = cnt bs s := by
  cases e : cnt as s with
  | some c => exact ((cnt_mem hb).mp ((h c).mp ((cnt_mem ha).mpr e))).symm
  | none =>
    cases e2 : cnt bs s with
    | none => rfl
    | some c =>
      have := (cnt_mem ha).mp ((h c).mpr ((cnt_mem hb).mpr e2))
      rw [e] at this
      cases this
end Ck
namespace Ck
open PySem PySem.Spec PyProof.Rows L2 StX Evl
section
variable {K : PySem.W.Frag} {σ : L2.St} {H : Hp} {C a t : Addr} {te : TE} {ps qs : List (Int × Int)} {n : Int}
end
end Ck
namespace Ck
open PySem PySem.Spec PyProof.Rows L2 StX Evl
end Ck

namespace Ck
open PySem PySem.Spec PyProof.Rows L2 StX Evl
section
variable {K : PySem.W.Frag} {σ : L2.St} {H : Hp} {d g : Addr} {te td tk : TE} {j i : Nat} {ws : List Nat} {ps : List (Int × Int)} {D : Ends} {z : TS}
end
end Ck
namespace Ck
open PySem PySem.Spec PyProof.Rows L2 StX Evl
section
variable {K : PySem.W.Frag} {σ : L2.St} {H : Hp} {te tl : TE} {tr : TA} {tt : TT} {Pr : V → Hp → Prop} {n i i' j : Nat} {l : Addr} {xs : List V} {D : Ends} {z : TS} {ws : List Nat}
theorem q_forU {K : PySem.W.Frag} {g : TG} {body : TS} (h : EvU tl σ H xs) (k : ∀ u H1, Ex H H1 → H1 u = some (.tup xs) → tFor (iTup K (tC (.ref u))) g body { D with nx := z D } σ H1) : tSeq (tFor (iTup K tl) g body) z D σ H := h H (Ex.refl H) _ fun u H1 _ e h1 => by
  obtain ⟨a, e, hx, hw⟩ := k u H1 e h1
  cases e
  exact ⟨u, rfl, hx, hw⟩
end
end Ck
namespace Ck
open PySem PySem.Spec PyProof.Rows L2 StX Evl
section
variable {K : PySem.W.Frag} {σ : L2.St} {H : Hp} {te tl : TE} {tt : TT} {i j : Nat} {d l : Addr} {xs : List V} {D : Ends} {z : TS} {ws : List Nat}
theorem q_asgP (P : V → Hp → Prop) (h : ∀ Q : VK, (∀ v H1, P v H1 → Q v H1) → te σ H Q) (k : ∀ v H1, P v H1 → z D (σ.set i (some v)) H1) : tSeq (tAsg te (gName i)) z D σ H := h (fun x H1 => gName i x σ H1 (z D)) k
end
end Ck

namespace Ck
open PySem PySem.Spec PyProof.Rows L2 StX Evl
section
variable {J : It} {n : Nat} {G : Hp → Prop} {Y : Nat → Hp → V → Hp → Prop}
theorem dc_it (w : Walk J n G Y) {g : TG} {tt : TT} {tk tv : TE} {vs : List Nat} {σ : L2.St} {H1 : Hp} {D : Addr} {Qd : Hp → Prop} (Pv : Nat → Hp → Prop) (h0 : Pv 0 (upd H1 D (.dK []))) (hG : ∀ i H, i ≤ n → Pv i H → G H)
    (hs : ∀ i x H H', i < n → Pv i H → Y i H x H' → g x (wipe σ vs) H' fun σ2 H2 => wipe σ2 vs = wipe σ vs ∧ tt σ2 H2 fun b H3 =>
      if b = true then tk σ2 H3 fun y H4 => tv σ2 H4 fun z H5 => ∃ kvs k, y = kV k ∧ H5 D = some (.dK kvs) ∧ kvs.length < sizeLine ∧ Pv (i + 1) (upd H5 D (.dK (putK kvs k z))) else Pv (i + 1) H3) (hd : ∀ H, Pv n H → Qd H) :
    ∃ W : Nat → Nat → Hp → Prop, (∃ m, W 0 m (upd H1 D (.dK []))) ∧ ∀ i m H, W i m H →
      (J.stop i H ∧ Qd H) ∨ (J.go i H ∧ ∃ Nx : Hp → Prop, (∀ H', Nx H' → ∃ m', m' < m ∧ W (i + 1) m' H') ∧ ∀ x H', J.yld i H x H' → g x (wipe σ vs) H' fun σ2 H2 => wipe σ2 vs = wipe σ vs ∧ tt σ2 H2 fun b H3 =>
        if b = true then tk σ2 H3 fun y H4 => tv σ2 H4 fun z H5 => ∃ kvs k, y = kV k ∧ H5 D = some (.dK kvs) ∧ kvs.length < sizeLine ∧ Nx (upd H5 D (.dK (putK kvs k z))) else Nx H3) := by
  refine ⟨fun i m H => m = n - i ∧ i ≤ n ∧ Pv i H, ⟨n, by simp, Nat.zero_le _, h0⟩, ?_⟩
  rintro i m H ⟨rfl, hi, p⟩
  have q := hG i H hi p
  by_cases hlt : i < n
  · refine .inr ⟨w.goes i H hlt q, Pv (i + 1), fun H' p' => ⟨n - (i + 1), by omega, rfl, hlt, p'⟩, fun x H' y => hs i x H H' hlt p (w.yields i H x H' hlt q y)⟩
  · have e : i = n := by omega
    subst e
    exact .inl ⟨w.stops H q, hd H p⟩
end
def putP (acc : List (Int × Int)) (p : Int × Int) : List (Int × Int) := if p.1 ∈ acc.map Prod.fst then acc.map (fun q => if q.1 = p.1 then p else q) else acc ++ [p]
def merP (acc more : List (Int × Int)) : List (Int × Int) := more.foldl putP acc
theorem putP_kc (acc : List (Int × Int)) (p : Int × Int) : putK (acc.map kc) (Sum.inl p.1 : Key) (.int p.2) = (putP acc p).map kc := by
  unfold putK putP
  have e : ((acc.map kc).any fun kv => decide (kv.1 = (Sum.inl p.1 : Key))) = decide (p.1 ∈ acc.map Prod.fst) := by
    rw [List.any_map]
    refine bool_iff ?_
    rw [List.any_eq_true, decide_eq_true_eq, List.mem_map]
    constructor
    · rintro ⟨x, hx, e⟩
      exact ⟨x, hx, Sum.inl.inj (of_decide_eq_true e)⟩
    · rintro ⟨x, hx, e⟩
      exact ⟨x, hx, decide_eq_true (congrArg Sum.inl e)⟩
  rw [e]
  by_cases h : p.1 ∈ acc.map Prod.fst
  · rw [decide_eq_true h, if_pos rfl, if_pos h, List.map_map, List.map_map]
    refine List.map_congr_left fun q _ => ?_
    show (if (kc q).1 = (Sum.inl p.1 : Key) then ((kc q).1, V.int p.2) else kc q) = kc (if q.1 = p.1 then p else q)
    by_cases z : q.1 = p.1
    · rw [if_pos (show (kc q).1 = (Sum.inl p.1 : Key) from congrArg Sum.inl z), if_pos z]
      show ((Sum.inl q.1 : Key), V.int p.2) = ((Sum.inl p.1 : Key), V.int p.2)
      rw [z]
    · rw [if_neg (show ¬ (kc q).1 = (Sum.inl p.1 : Key) from fun e => z (Sum.inl.inj e)), if_neg z]
  · rw [decide_eq_false h, if_neg Bool.false_ne_true, if_neg h, List.map_append]
    rfl
theorem putP_fst (acc : List (Int × Int)) (p : Int × Int) : (putP acc p).map Prod.fst = if p.1 ∈ acc.map Prod.fst then acc.map Prod.fst else acc.map Prod.fst ++ [p.1] := by
  unfold putP
  split
  · rw [List.map_map]
    refine List.map_congr_left fun q _ => ?_
    show (if q.1 = p.1 then p else q).1 = q.1
    split
    · next z => exact z.symm
    · rfl
  · rw [List.map_append]
    rfl
theorem putP_nodup {acc : List (Int × Int)} {p : Int × Int} (h : (acc.map Prod.fst).Nodup) : ((putP acc p).map Prod.fst).Nodup := by
  rw [putP_fst]
  split
  · exact h
  · next n => exact List.nodup_append.mpr ⟨h, List.nodup_cons.mpr ⟨List.not_mem_nil, List.nodup_nil⟩, fun a ha b hb => by rw [List.mem_singleton.mp hb]; exact fun e => n (e ▸ ha)⟩
theorem putP_mem {acc : List (Int × Int)} {p : Int × Int} (s : Int) : s ∈ (putP acc p).map Prod.fst ↔ s ∈ acc.map Prod.fst ∨ s = p.1 := by
  rw [putP_fst]
  split
  · next h => exact ⟨.inl, fun z => z.elim id fun e => e ▸ h⟩
  · rw [List.mem_append, List.mem_singleton]
theorem putP_cnt {acc : List (Int × Int)} {p : Int × Int} (h : (acc.map Prod.fst).Nodup) (s : Int) : cnt (putP acc p) s = if s = p.1 then some p.2 else cnt acc s := by
  have nd := putP_nodup (p := p) h
  by_cases z : s = p.1
  · rw [if_pos z]
    refine (cnt_mem nd).mp ?_
    subst z
    unfold putP
    split
    · next m =>
      obtain ⟨q, hq, e⟩ := List.mem_map.mp m
      exact List.mem_map.mpr ⟨q, hq, by rw [if_pos e]⟩
    · exact List.mem_append_right _ (List.mem_singleton.mpr rfl)
  · rw [if_neg z]
    refine cnt_ext nd h fun c => ?_
    unfold putP
    split
    · rw [List.mem_map]
      constructor
      · rintro ⟨q, hq, e⟩
        by_cases y : q.1 = p.1
        · rw [if_pos y] at e
          rw [e] at z
          exact absurd rfl z
        · rw [if_neg y] at e
          rw [← e]
          exact hq
      · intro m
        exact ⟨_, m, if_neg z⟩
    · rw [List.mem_append, List.mem_singleton]
      exact ⟨fun m => m.elim id fun e => absurd (congrArg Prod.fst e) z, .inl⟩
theorem putP_len (acc : List (Int × Int)) (p : Int × Int) : (putP acc p).length ≤ acc.length + 1 := by
  unfold putP
  split
  · rw [List.length_map]
    omega
  · rw [List.length_append]
    exact Nat.le_refl _
theorem merP_snoc (acc more : List (Int × Int)) (p : Int × Int) : merP acc (more ++ [p]) = putP (merP acc more) p := by
  unfold merP
  rw [List.foldl_append]
  rfl
theorem merP_new : ∀ {more acc : List (Int × Int)}, ((acc ++ more).map Prod.fst).Nodup → merP acc more = acc ++ more
  | [], acc, _ => (List.append_nil acc).symm
  | p :: r, acc, h => by
    have n : p.1 ∉ acc.map Prod.fst := fun m => by
      rw [List.map_append, List.map_cons, List.nodup_append] at h
      exact h.2.2 _ m _ List.mem_cons_self rfl
    have e : putP acc p = acc ++ [p] := if_neg n
    show merP (putP acc p) r = _
    rw [e, merP_new (acc := acc ++ [p]) (by rw [List.append_assoc]; exact h), List.append_assoc]
    rfl
theorem merP_self {more : List (Int × Int)} (h : (more.map Prod.fst).Nodup) : merP [] more = more := merP_new (acc := []) h
def EvD (te : TE) (σ : L2.St) (H : Hp) (ps : List (Int × Int)) : Prop := ∀ H1, Ex H H1 → ∀ Q : VK, (∀ p H2, H1 p = none → Ex H1 H2 → H2 p = some (.dK (ps.map kc)) → Q (.ref p) H2) → te σ H1 Q
section
variable {K : PySem.W.Frag} {σ : L2.St} {H : Hp} {td tl tk tv : TE} {tt : TT} {a d : Addr} {ts : List V} {ps : List (Int × Int)} {ns : List Int} {j j2 : Nat} {ws : List Nat}
theorem EvD.is {te : TE} {qs : List (Int × Int)} (h : EvD te σ H ps) (e : ps = qs) : EvD te σ H qs := e ▸ h
theorem dc_turn {H1 H2 : Hp} {D : Addr} {i : Nat} {p : Int × Int} {acc : List (Int × Int)} {σ2 : L2.St} {H3 : Hp} {Pv : Hp → Prop} (p1 : H1 D = none) (p2 : Ex H1 H3) (p3 : H3 D = some (.dK (acc.map kc))) (p4 : acc.length ≤ 40000)
    (hk : Ev tk σ2 H3 (.int p.1)) (hv : Ev tv σ2 H3 (.int p.2)) (k : ∀ H5, Ex H1 H5 → H5 D = some (.dK ((putP acc p).map kc)) → Pv H5) :
    tk σ2 H3 fun y H4 => tv σ2 H4 fun z H5 => ∃ kvs k, y = kV k ∧ H5 D = some (.dK kvs) ∧ kvs.length < sizeLine ∧ Pv (upd H5 D (.dK (putK kvs k z))) :=
  hk H3 (Ex.refl H3) _ fun H4 e4 => hv H4 e4 _ fun H5 e5 => ⟨acc.map kc, Sum.inl p.1, rfl, (e4.trans e5) _ _ p3, sz_lt (by rw [List.length_map]; omega), k _ (Ex.mut (p2.trans (e4.trans e5)) p1) (by rw [upd_same, putP_kc])⟩
theorem dc_tupN (c : Int → Bool) (g : Int → Int × Int) (h : Etu K tl σ H (ns.map V.int)) (hz : ns.length ≤ 40000) (hw : ∀ x, wipe ((wipe σ ws).set j (some x)) ws = wipe σ ws)
    (ht : ∀ n ∈ ns, ∀ H1, Ex H H1 → EvT tt ((wipe σ ws).set j (some (.int n))) H1 (c n)) (hk : ∀ n ∈ ns, c n = true → ∀ H1, Ex H H1 → Ev tk ((wipe σ ws).set j (some (.int n))) H1 (.int (g n).1)) (hv : ∀ n ∈ ns, c n = true → ∀ H1, Ex H H1 → Ev tv ((wipe σ ws).set j (some (.int n))) H1 (.int (g n).2)) :
    EvD (tDc (iTup K tl) (gName j) tt tk tv ws) σ H (merP [] ((ns.filter c).map g)) := fun H0 e0 Q q => h H0 e0 _ fun a H1 e1 hx => ⟨a, rfl, ⟨_, hx⟩, fun D hD => by
  refine dc_it walk_tup (fun i H' => H1 D = none ∧ Ex H1 H' ∧ ∃ acc, H' D = some (.dK (acc.map kc)) ∧ acc.length ≤ i ∧ acc = merP [] (((ns.take i).filter c).map g)) ⟨hD, Ex.new hD, [], upd_same, Nat.le_refl _, rfl⟩ (fun i H' _ p => ex_t p.2.1 hx) ?_ ?_
  · rintro i x H2 H3 hi ⟨p1, p2, acc, p3, p4, p5⟩ ⟨e3, hxi⟩
    rw [e3]
    rw [List.length_map] at hi
    rw [List.getElem?_map, List.getElem?_eq_getElem hi] at hxi
    obtain rfl := Option.some.inj hxi
    have m := List.getElem_mem hi
    have e02 := (e0.trans e1).trans p2
    refine ⟨hw _, ht _ m H2 e02 H2 (Ex.refl H2) _ fun H4 e4 => ?_⟩
    have st : ns.take (i + 1) = ns.take i ++ [ns[i]] := by rw [List.take_add_one, List.getElem?_eq_getElem hi]; rfl
    cases hc : c ns[i] with
    | true =>
      refine iteT (dc_turn (H2 := H4) (i := i) (p := g ns[i]) (Pv := fun H' => H1 D = none ∧ Ex H1 H' ∧ ∃ acc, H' D = some (.dK (acc.map kc)) ∧ acc.length ≤ i + 1 ∧ acc = merP [] (((ns.take (i + 1)).filter c).map g)) p1 (p2.trans e4) (e4 _ _ p3) (by omega) (hk _ m hc H4 (e02.trans e4)) (hv _ m hc H4 (e02.trans e4)) fun H5 e5 h5 => ⟨p1, e5, _, h5, Nat.le_trans (putP_len _ _) (Nat.succ_le_succ p4), ?_⟩)
      rw [st, List.filter_append, List.map_append, show [ns[i]].filter c = [ns[i]] by rw [List.filter_cons, hc]; rfl, p5]
      exact (merP_snoc _ _ _).symm
    | false =>
      refine iteF ⟨p1, p2.trans e4, acc, e4 _ _ p3, Nat.le_succ_of_le p4, ?_⟩
      rw [st, List.filter_append, show [ns[i]].filter c = [] by rw [List.filter_cons, hc]; rfl, List.append_nil]
      exact p5
  · rintro H2 ⟨p1, p2, acc, p3, _, p5⟩
    rw [List.length_map, List.take_of_length_le (Nat.le_refl _)] at p5
    rw [p5] at p3
    exact q D H2 (fresh_back e1 p1) (e1.trans p2) p3⟩
theorem dc_tupP (c : Int × Int → Bool) (g : Int × Int → Int × Int) (h : Ev tl σ H (.ref a)) (ht0 : SqT K H a ts) (hf : F2 (RP K H) ts ps) (hz : ps.length ≤ 40000)
    (hw : ∀ x y, wipe (((wipe σ ws).set j (some x)).set j2 (some y)) ws = wipe σ ws) (ht : ∀ p ∈ ps, ∀ H1, Ex H H1 → EvT tt (((wipe σ ws).set j (some (.int p.1))).set j2 (some (.int p.2))) H1 (c p))
    (hk : ∀ p ∈ ps, c p = true → ∀ H1, Ex H H1 → Ev tk (((wipe σ ws).set j (some (.int p.1))).set j2 (some (.int p.2))) H1 (.int (g p).1)) (hv : ∀ p ∈ ps, c p = true → ∀ H1, Ex H H1 → Ev tv (((wipe σ ws).set j (some (.int p.1))).set j2 (some (.int p.2))) H1 (.int (g p).2)) :
    EvD (tDc (iTup K tl) (gTup K 2 (gCons (gName j) (gCons (gName j2) gNil))) tt tk tv ws) σ H (merP [] ((ps.filter c).map g)) := fun H0 e0 Q q => h H0 e0 _ fun H1 e1 => ⟨a, rfl, ⟨ts, ex_t (e0.trans e1) ht0⟩, fun D hD => by
  have e01 := e0.trans e1
  refine dc_it walk_tup (fun i H' => H1 D = none ∧ Ex H1 H' ∧ ∃ acc, H' D = some (.dK (acc.map kc)) ∧ acc.length ≤ i ∧ acc = merP [] (((ps.take i).filter c).map g)) ⟨hD, Ex.new hD, [], upd_same, Nat.le_refl _, rfl⟩ (fun i H' _ p => ex_t (e01.trans p.2.1) ht0) ?_ ?_
  · rintro i x H' H2 hi ⟨p1, p2, acc, p3, p4, p5⟩ ⟨rfl, hxi⟩
    obtain ⟨p, hp, t, rfl, hpt⟩ := hf.at hxi
    have m := List.mem_of_getElem? hp
    have st : ps.take (i + 1) = ps.take i ++ [p] := by rw [List.take_add_one, hp]; rfl
    have i12 : i < ps.length := (List.getElem?_eq_some_iff.mp hp).1
    refine ⟨t, _, rfl, ex_t (e01.trans p2) hpt, rfl, _, _, rfl, _, _, rfl, rfl, hw _ _, ht p m H2 (e01.trans p2) H2 (Ex.refl _) _ fun H4 e4 => ?_⟩
    cases hc : c p with
    | true =>
      refine iteT (dc_turn (H2 := H4) (i := i) (p := g p) (Pv := fun H' => H1 D = none ∧ Ex H1 H' ∧ ∃ acc, H' D = some (.dK (acc.map kc)) ∧ acc.length ≤ i + 1 ∧ acc = merP [] (((ps.take (i + 1)).filter c).map g)) p1 (p2.trans e4) (e4 _ _ p3) (by omega) (hk p m hc H4 (e01.trans (p2.trans e4))) (hv p m hc H4 (e01.trans (p2.trans e4))) fun H5 e5 h5 => ⟨p1, e5, _, h5, Nat.le_trans (putP_len _ _) (Nat.succ_le_succ p4), ?_⟩)
      rw [st, List.filter_append, List.map_append, show [p].filter c = [p] by rw [List.filter_cons, hc]; rfl, p5]
      exact (merP_snoc _ _ _).symm
    | false =>
      refine iteF ⟨p1, p2.trans e4, acc, e4 _ _ p3, Nat.le_succ_of_le p4, ?_⟩
      rw [st, List.filter_append, show [p].filter c = [] by rw [List.filter_cons, hc]; rfl, List.append_nil]
      exact p5
  · rintro H2 ⟨p1, p2, acc, p3, _, p5⟩
    rw [hf.len, List.take_of_length_le (Nat.le_refl _)] at p5
    rw [p5] at p3
    exact q D H2 (fresh_back e1 p1) (e1.trans p2) p3⟩
end
end Ck

namespace Ck
open PySem PySem.Spec PyProof.Rows L2 StX Evl
section
variable {X : Cx}
end
end Ck

namespace Ck
open PySem PySem.Spec PyProof.Rows L2 StX Evl
theorem sum_cons2 {α : Type} (a : α) (r : List α) (f : α → Int) : ((a :: r).map f).sum = f a + (r.map f).sum := by rw [List.map_cons, List.sum_cons]
theorem len_sub : ∀ {as bs : List Int}, as.Nodup → (∀ a ∈ as, a ∈ bs) → as.length ≤ bs.length
  | [], _, _, _ => Nat.zero_le _
  | a :: r, bs, h, sub => by
    obtain ⟨n, h2⟩ := List.nodup_cons.mp h
    have m := sub a List.mem_cons_self
    have := len_sub (bs := bs.erase a) h2 fun b hb => (List.mem_erase_of_ne (fun e : b = a => n (by rw [← e]; exact hb))).mpr (sub b (List.mem_cons_of_mem a hb))
    rw [List.length_erase_of_mem m] at this
    have := List.length_pos_of_mem m
    rw [List.length_cons]
    omega
end Ck

namespace Ck
open PySem PySem.Spec PyProof.Rows L2 StX Evl
def eqP (as bs : List (Int × Int)) : Bool := (as.length == bs.length) && as.all fun p => decide (cnt bs p.1 = some p.2)
section
variable {X : Cx}
theorem hits_kc {A : Around} {s : Shared} {bs : List (Int × Int)} {vb : List (Key × Value)} (rb : KV (bs.map kc) vb) : ∀ {as : List (Int × Int)} {va : List (Key × Value)}, KV (as.map kc) va → ∃ r, r = (as.all fun p => decide (cnt bs p.1 = some p.2)) ∧ PySem.W.KeqHits A s vb va r
  | [], va, ra => by
    unfold KV at ra
    cases ra
    exact ⟨_, rfl, .nil⟩
  | p :: as, va, ra => by
    unfold KV at ra
    cases ra with
    | @cons _ q _ qs h t =>
    obtain ⟨h1, h2⟩ := h
    obtain ⟨k, v⟩ := q
    have h1' : (Sum.inl p.1 : Key) = k := h1
    subst h1'
    obtain ⟨tv, rfl⟩ : ∃ t, v = Value.int p.2 t := h2
    have rr : RelO (valV (bs.map kc) (Sum.inl p.1 : Key)) (valueAt vb (Sum.inl p.1 : Key)) := rb.val _
    rw [valV_kc] at rr
    cases e : cnt bs p.1 with
    | none =>
      refine ⟨false, ?_, ?_⟩
      · rw [List.all_cons, e, decide_eq_false (fun z => nomatch z)]
        rfl
      · rw [e] at rr
        cases e2 : valueAt vb (Sum.inl p.1 : Key) with
        | none => exact .miss e2
        | some y =>
          rw [e2] at rr
          exact (show False from rr).elim
    | some c =>
      rw [e] at rr
      obtain ⟨y, hy, ry⟩ := RelO.some_of rr
      obtain ⟨ty, rfl⟩ : ∃ t, y = Value.int c t := ry
      obtain ⟨r, er, hh⟩ := hits_kc (A := A) (s := s) rb t
      refine ⟨_, ?_, .hit hy (PySem.SeqAt.EqAt.int_int p.2 tv c ty) hh⟩
      rw [List.all_cons, e, ← er]
      refine congrArg (· && r) ?_
      refine bool_iff ?_
      rw [beq_iff_eq, decide_eq_true_eq]
      exact ⟨fun z => by rw [z], fun z => (Option.some.inj z).symm⟩
theorem op_eqDk (hu : X.A.units < cLine) : OpR X (compareOp .Eq) (fun x y H Q => ∃ a b as bs, x = .ref a ∧ y = .ref b ∧ Dk H a as ∧ Dk H b bs ∧ Q (.bl (eqP as bs)) H) := by
  intro pins s σ H x y v u Q I rx ry h
  obtain ⟨a, b, as, bs, rfl, rfl, ea, eb, q⟩ := h
  obtain rfl : v = Value.ref a := rx
  obtain rfl : u = Value.ref b := ry
  obtain ⟨_, ya, va, ra, da⟩ := dk_rd I.hok ea
  obtain ⟨_, yb, vb, rb, db⟩ := dk_rd I.hok eb
  obtain ⟨r, er, hh⟩ := hits_kc (A := X.A.in1) (s := s) rb ra
  have l1 : as.length = va.length := by rw [← ra.length, List.length_map]
  have l2 : bs.length = vb.length := by rw [← rb.length, List.length_map]
  exact PySem.W.keq_eq (knd := mixKind X.prog X.w) ya yb da db hu (fun _ => hh) (fin_bl I q (by unfold eqP; rw [er, l1, l2]))
end
theorem eqP_iff {as bs : List (Int × Int)} (ha : (as.map Prod.fst).Nodup) (hb : (bs.map Prod.fst).Nodup) : eqP as bs = true ↔ as.Perm bs := by
  unfold eqP
  rw [Bool.and_eq_true, beq_iff_eq, List.all_eq_true]
  have na : as.Nodup := List.Pairwise.imp (fun {a b} (h : a.1 ≠ b.1) (e : a = b) => h (congrArg Prod.fst e)) (List.pairwise_map.mp (List.nodup_iff_pairwise_ne.mp ha))
  constructor
  · rintro ⟨h1, h2⟩
    have sub : ∀ x ∈ as, x ∈ bs := fun x hx => (cnt_mem hb).mpr (of_decide_eq_true (h2 x hx))
    have : ∀ {xs ys : List (Int × Int)}, xs.Nodup → (∀ x ∈ xs, x ∈ ys) → ys.length ≤ xs.length → xs.Perm ys := by
      intro xs
      induction xs with
      | nil =>
        intro ys _ _ l
        rw [List.eq_nil_of_length_eq_zero (Nat.le_zero.mp l)]
      | cons x r ih =>
        intro ys n s l
        obtain ⟨n1, n2⟩ := List.nodup_cons.mp n
        have m := s x List.mem_cons_self
        have p := List.perm_cons_erase m
        have le := List.length_erase_of_mem m
        have pos := List.length_pos_of_mem m
        refine (List.Perm.cons x (ih n2 (fun y hy => (List.mem_erase_of_ne (fun e : y = x => n1 (by rw [← e]; exact hy))).mpr (s y (List.mem_cons_of_mem x hy))) (by rw [le]; rw [List.length_cons] at l; omega))).trans p.symm
    exact this na sub (by omega)
  · intro p
    exact ⟨p.length_eq, fun x hx => decide_eq_true ((cnt_mem hb).mp (p.mem_iff.mp hx))⟩
section
variable {X : Cx} {k j : Nat} {C : Addr}
end
theorem isC_gap {ns : List Int} (hp : ns.Pairwise fun a b => b % a = 0) : gap ns = none := by
  refine gap_none fun j hj => ?_
  have h1 : j < ns.length := by omega
  have h2 : j + 1 < ns.length := by omega
  rw [List.getD_eq_getElem?_getD, List.getElem?_eq_getElem h2, List.getD_eq_getElem?_getD, List.getElem?_eq_getElem h1]
  exact List.pairwise_iff_getElem.mp hp j (j + 1) h1 h2 (Nat.lt_succ_self j)
end Ck
namespace Ck
open PySem PySem.Spec PyProof.Rows L2 StX Evl
theorem sw_trueD {kx vx : Expr} {gs : List Comprehension} {scope : Scope} {pos py : Pos} {y : Str} {l : Nat} {env : Env} (hk : env.scope.kind = .function) (hy : env.scope.names.lookup y = some .local) (hl : (py.line == pos.line) = true)
    (ha : (scope.names.any fun (n, k) => n == y && (k == .local || k == .cell)) = false) : swapsWith (.DictComp kx vx gs scope pos) (some (.Name y py)) l env = pure true := by
  have ky : env.kindOf y = some .local := hy
  have hb : env.blockKind = .function := by unfold Env.blockKind; rw [hk]; rfl
  unfold swapsWith
  simp only [hb, ky, ha, Expr.pos, hl]
  rfl
section
variable {X : Cx}
theorem ps_setDc {i : Nat} {y : Str} {py : Pos} {kx vx tg iter : Expr} {ifs : List Expr} {scope : Scope} {own : List (Str × Nat)} {pos spos : Pos} {wi : TI} {g : TG} {tt : TT} {tk tv : TE} (hc : X.calm = true) (hN : X.N.Nodup) (hy : X.N[i]? = some y) (hyl : X.env.scope.names.lookup y = some .local)
    (hsw : swapsWith (.DictComp kx vx [⟨tg, iter, ifs, 0⟩] scope pos) (some (.Name y py)) spos.line X.env = pure true) (hi : PI X tg iter wi) (ok : BlkOk X.N X.env.scope scope own)
    (hg : ∀ (s : Shared) (H : Hp) (C : Addr) (cl : List (Str × Addr)) (fp : List Addr), PG (X.blk s H scope (compEnvC scope cl C X.env) fp) tg g) (ht : ∀ (s : Shared) (H : Hp) (C : Addr) (cl : List (Str × Addr)) (fp : List Addr), PTs (X.blk s H scope (compEnvC scope cl C X.env) fp) ifs tt)
    (hk : ∀ (s : Shared) (H : Hp) (C : Addr) (cl : List (Str × Addr)) (fp : List Addr), PE (X.blk s H scope (compEnvC scope cl C X.env) fp) kx tk) (he : ∀ (s : Shared) (H : Hp) (C : Addr) (cl : List (Str × Addr)) (fp : List Addr), PE (X.blk s H scope (compEnvC scope cl C X.env) fp) vx tv) (hs : ∀ x, foldedSetIterable iter X.env x = pure x := by intro _; rfl) :
    PS X (.Assign [.Name y py] (.DictComp kx vx [⟨tg, iter, ifs, 0⟩] scope pos) spos) (tAsg (tDc wi g tt tk tv (own.map (·.2))) (gName i)) := by
  refine ⟨fun pins s σ H D I h => ?_⟩
  rw [exec_Assign_Name_used _ _ _ _ hsw]
  refine wpAny_bind (wpAny_standAt (wpAny_bind ?_))
  show wpAny _ X.A (do let _ ← comprehension (.DictComp kx vx [⟨tg, iter, ifs, 0⟩] scope pos) scope X.env (firstIterPos [⟨tg, iter, ifs, 0⟩] pos) newDict false (eval iter X.env) (some (assign (.Name y py) X.env))) _ _ s
  have h : tDc wi g tt tk tv (own.map (·.2)) σ H (fun x H1 => gName i x σ H1 D.nx) := h
  refine wpAny_bind (thn (dc_core (Qf := fun _ s' => SP X pins D .next s') hc hN I hi ok hg ht hk he hs h fun L C s' m H' I' q hn f => ?_) fun _ s' hq => wpAny_pure (wpAny_pure hq))
  show wpAny _ _ (assign (.Name y py) X.env (.ref L)) _ _ _
  refine wpAny_assign_Name (store_ok2 (v := V.ref L) I' hN hy (.inl hyl) rfl (fun s2 I2 ⟨a, sb, ha⟩ => ?_) (.inr hyl))
  obtain ⟨f0, f1, f2, f3, f4, f5⟩ := f
  have haC : C ≠ a := by
    rcases ha with z | z
    · rw [z]; exact f1
    · exact fun e => f4 y a z e.symm
  refine ⟨m, hn.sameBut sb haC, fun h3 sb3 => ?_⟩
  exact ⟨_, H', I2.turned (t' := s2.toks) (fun b o hb e => (sb3.2 b hb).trans e) f0 f1 f3 f4 f5, q⟩
end
section
variable {σ : L2.St} {H : Hp} {te : TE} {ps : List (Int × Int)} {i : Nat} {D : Ends} {z : TS}
end
section
variable {K : PySem.W.Frag} {σ : L2.St} {H : Hp} {td ty : TE} {d : Addr} {kvs : List (Key × V)} {s : Int}
end
structure LotNK (K : PySem.W.Frag) (C : Addr) : Prop where
  int : PySem.W.kitOne K (.ref C) (.type "int") = some false
  dict : PySem.W.kitOne K (.type "dict") (.ref C) = some false
  num : PySem.W.kitOne K (.type "int") (.ref C) = some false
  none : PySem.W.kitOne K (.type "NoneType") (.ref C) = some false
end Ck

namespace Ck
open PySem PySem.Spec PyProof.Rows L2 StX Evl
section
variable {K : PySem.W.Frag} {σ : L2.St} {H H' : Hp} {tl te : TE} {l p0 : Addr} {x : V} {k : Int} {ks : List Int} {xs : List V} {D : Ends} {z : TS} {i : Nat}
end
section
variable {K : PySem.W.Frag} {σ : L2.St} {H : Hp} {te : TE} {i j l : Nat} {D : Ends} {z : TS}
theorem q_parP {ta tb : TE} (P : V → V → Hp → Prop) (h : ∀ Q : V → V → Hp → Prop, (∀ x y H1, P x y H1 → Q x y H1) → ta σ H fun x H1 => tb σ H1 fun y H2 => Q x y H2) (k : ∀ x y H1, P x y H1 → z D ((σ.set i (some x)).set j (some y)) H1) : tSeq (tPar i j (tCons ta (tCons tb tNil))) z D σ H :=
  h (fun x y H2 => ∃ x' y', [x, y] = [x', y'] ∧ z D ((σ.set i (some x')).set j (some y')) H2) fun x y H1 p => ⟨x, y, rfl, k x y H1 p⟩
end
section
variable {K : PySem.W.Frag} {σ : L2.St} {H : Hp} {C : Addr} {ta tb tc : TE} {y z : V} {sp : Sp} {E : XK} {Q : VK}
end
end Ck

namespace Ck
open PySem PySem.Spec PyProof.Rows L2 StX Evl
def Dis (K : PySem.W.Frag) (mg : Str → Option Value) (x : Str) (C : Addr) (qual : Str) (st : Stmt) (pv : Str) : Prop :=
  ∃ (f : Addr), Mk K C f ∧ mg x = some (.ref C) ∧ ∃ (oc : Value) (od : Option Addr) (dV kV doc pm : Value) (an : Option Addr) (cdv ct : Value) (osl : Array (Option Value)),
    K.lookup f = some ⟨oc, od, .func (PySem.W.fnOf "__init__" qual (defArgs st) (defBody st) (defScope st) dV kV doc pm an cdv ct), osl⟩ ∧ PySem.W.codeIn K cdv qual = true ∧
    ∀ us rest : List Value, us.length = (["self"] : List Str).length → bindArgs (PySem.W.fnOf "__init__" qual (defArgs st) (defBody st) (defScope st) dV kV doc pm an cdv ct) ⟨us ++ rest, []⟩ = (newTuple rest >>= fun t => pure ((["self"] : List Str).zip us ++ [(pv, t)]))
section
variable {P : Program} {w : World} {K : PySem.W.Frag} {mg : Str → Option Value} {base : Heap} {k : Nat} {C : Addr} {x qual pv : Str} {st : Stmt} {N : List Str} {sp : Sp}
theorem mks_of (D : Dis K mg x C qual st pv) (S : FnScope N ["self", pv] (defScope st))
    (hbody : ∀ (f : Addr) (cdv : Value) (A : Around) (outer : List Env) (s : Shared) (H : Hp) (vs : List V) (Q : VK) (E : XK), Room k (A.deeper (envOfC qual (defScope st) s.heap.objs.size f cdv)) → sp vs H Q E →
      ∃ t, PSs (cxOf CX0 P w K mg base N qual (defScope st) f cdv A outer s H E).nox (defBody st) t ∧ t { nx := fun _ H' => Q .non H', rt := Q } (start N vs) H) :
    Mkc P w K mg base (k + 1) x C fun vs H Q E => ∃ ws rest, vs = ws ++ rest ∧ ws.length = 1 ∧ rest.length ≤ sizeLine ∧ ∀ p, H p = Option.none → sp (ws ++ [V.ref p]) (upd H p (.tup rest)) Q E := by
  obtain ⟨f, M, hm, oc, od, dV, kV, doc, pm, an, cdv, ct, osl, lk, hcd, hb⟩ := D
  exact ⟨f, M, hm, fn_star (ps := ["self"]) lk hcd S cxUp_none hb fun A outer s H vs Q E hr h => by
    obtain ⟨t, h1, h2⟩ := hbody f cdv A outer s H vs Q E hr h
    exact ⟨t, h1.nox, h2⟩⟩
theorem dis_mk {oc dV kV dc pm cd ct : Value} {od an : Option Addr} {sl : Array (Option Value)} {f : Addr} (gc : mg x = some (.ref C)) (mks : PySem.W.makesIn K C = true) (a : PySem.W.findIn K (.ref C) "__init__" = some (some (.ref f))) (i : PySem.W.isFn K (.ref f) = true) (kc : PySem.W.keepIn K (.ref C) = true)
    (l : K.lookup f = some ⟨oc, od, .func (PySem.W.fnOf "__init__" qual (defArgs st) (defBody st) (defScope st) dV kV dc pm an cd ct), sl⟩) (c : PySem.W.codeIn K cd qual = true)
    (h0 : ∀ a, bindArgs (PySem.W.fnOf "__init__" qual (defArgs st) (defBody st) (defScope st) dV kV dc pm an cd ct) ⟨[a], []⟩ = (newTuple [] >>= fun t => pure [(("self" : Str), a), (pv, t)]))
    (h1 : ∀ a r rs, bindArgs (PySem.W.fnOf "__init__" qual (defArgs st) (defBody st) (defScope st) dV kV dc pm an cd ct) ⟨a :: r :: rs, []⟩ = (newTuple (r :: rs) >>= fun t => pure [(("self" : Str), a), (pv, t)])) : Dis K mg x C qual st pv :=
  ⟨f, ⟨mks, a, i, kc⟩, gc, oc, od, dV, kV, dc, pm, an, cd, ct, sl, l, c, bind_star1 (B := fun us => bindArgs (PySem.W.fnOf "__init__" qual (defArgs st) (defBody st) (defScope st) dV kV dc pm an cd ct) ⟨us, []⟩) h0 h1⟩
end
theorem f2_snoc {α : Type} {R : V → α → Prop} {z : α} : ∀ {as : List α} {vs : List V}, F2 R vs (as ++ [z]) → ∃ ys y, vs = ys ++ [y] ∧ F2 R ys as ∧ R y z
  | [], _, .cons h .nil => ⟨[], _, rfl, .nil, h⟩
  | a :: as, _, .cons h t => by
    obtain ⟨ys, y, rfl, h1, h2⟩ := f2_snoc (as := as) t
    exact ⟨_ :: ys, y, rfl, .cons h h1, h2⟩
theorem nil_or_snoc {α : Type} (l : List α) : l = [] ∨ ∃ as z, l = as ++ [z] := by
  by_cases h : l = []
  · exact .inl h
  · exact .inr ⟨l.dropLast, l.getLast h, (List.dropLast_concat_getLast h).symm⟩
theorem ixN_last (n : Nat) : ixN (n + 1) (-1) = some n := by
  unfold ixN
  rw [if_neg (show ¬ (0 : Int) ≤ -1 by decide), if_pos (by omega)]
  exact congrArg some (by omega)
theorem ix_tupK {X : Cx} {K : PySem.W.Frag} (h : X.K = K) : IxR X (rIxT K) := h ▸ ix_tup
theorem el_lcP1 {K : PySem.W.Frag} {tl te : TE} {σ : L2.St} {H : Hp} {a : Addr} {ts : List V} {ps : List (Int × Int)} {j : Nat} {ws : List Nat} (f : Int × Int → V) (h : Ev tl σ H (.ref a)) (ht : SqT K H a ts) (hf : F2 (RP K H) ts ps) (hz : ps.length ≤ 40000)
    (hw : ∀ x, wipe ((wipe σ ws).set j (some x)) ws = wipe σ ws) (he : ∀ p ∈ ps, ∀ x H1, Ex H H1 → RP K H1 x p → Ev te ((wipe σ ws).set j (some x)) H1 (f p)) :
    EvL (tLc (iTup K tl) (gName j) tYes te ws) σ H (ps.map f) := fun H0 e0 Q q => h H0 e0 _ fun H1 e1 => ⟨a, rfl, ⟨ts, ex_t (e0.trans e1) ht⟩, fun D hD => by
  have e01 := e0.trans e1
  refine lc_it walk_tup (fun i H' => H1 D = none ∧ Ex H1 H' ∧ H' D = some (.lst ((ps.take i).map f))) ⟨hD, Ex.new hD, upd_same⟩ (fun i H' _ p => ex_t (e01.trans p.2.1) ht) ?_ ?_
  · rintro i x H' H2 hi ⟨p1, p2, p3⟩ ⟨rfl, hxi⟩
    obtain ⟨p, hp, hpt⟩ := hf.at hxi
    have m := List.mem_of_getElem? hp
    have st : ps.take (i + 1) = ps.take i ++ [p] := by rw [List.take_add_one, hp]; rfl
    have i12 : i < ps.length := (List.getElem?_eq_some_iff.mp hp).1
    refine ⟨hw _, yes_go (iteT (he p m x H2 (e01.trans p2) (hpt.ex (e01.trans p2)) H2 (Ex.refl _) _ fun H5 e5 => ⟨_, e5 _ _ p3, sz_lt (by rw [List.length_map, List.length_take]; omega), p1, Ex.mut (p2.trans e5) p1, by rw [upd_same, st, List.map_append]; rfl⟩))⟩
  · rintro H' ⟨p1, p2, p3⟩
    rw [hf.len, List.take_of_length_le (Nat.le_refl _)] at p3
    exact q D H' (fresh_back e1 p1) (e1.trans p2) p3⟩
def jn1 (acc : List (Int × Int)) (r : Int × Int) : List (Int × Int) := match acc.getLast? with
  | some l => if l.1 = r.1 then acc.dropLast ++ [(r.1, l.2 + r.2)] else acc ++ [r]
  | none => acc ++ [r]
def jr (rs : List (Int × Int)) : List (Int × Int) := rs.foldl jn1 []
theorem jr_snoc (rs : List (Int × Int)) (r : Int × Int) : jr (rs ++ [r]) = jn1 (jr rs) r := by
  unfold jr
  rw [List.foldl_append]
  rfl
theorem jn1_len (acc : List (Int × Int)) (r : Int × Int) : (jn1 acc r).length ≤ acc.length + 1 := by
  unfold jn1
  split
  · next l e =>
    split
    · rw [List.length_append, List.length_dropLast]
      show _ + 1 ≤ _
      omega
    · rw [List.length_append]
      exact Nat.le_refl _
  · rw [List.length_append]
    exact Nat.le_refl _
theorem jr_len (rs : List (Int × Int)) : (jr rs).length ≤ rs.length := by
  have : ∀ (rs acc : List (Int × Int)), (rs.foldl jn1 acc).length ≤ acc.length + rs.length := fun rs => by
    induction rs with
    | nil => exact fun acc => Nat.le_refl _
    | cons r t ih =>
      intro acc
      have := ih (jn1 acc r)
      have := jn1_len acc r
      rw [List.foldl_cons, List.length_cons]
      omega
  have := this rs []
  rw [List.length_nil] at this
  unfold jr
  omega
theorem jr_all {P : Int × Int → Prop} (add : ∀ a b c, P (a, b) → P (a, c) → P (a, b + c)) {rs : List (Int × Int)} (h : ∀ r ∈ rs, P r) : ∀ r ∈ jr rs, P r := by
  have : ∀ (rs acc : List (Int × Int)), (∀ r ∈ rs, P r) → (∀ r ∈ acc, P r) → ∀ r ∈ rs.foldl jn1 acc, P r := fun rs => by
    induction rs with
    | nil => exact fun acc _ h => h
    | cons r t ih =>
      intro acc h1 h2
      refine ih (jn1 acc r) (fun x hx => h1 x (List.mem_cons_of_mem r hx)) fun x hx => ?_
      have hr := h1 r List.mem_cons_self
      unfold jn1 at hx
      split at hx
      · next l e =>
        have ml : l ∈ acc := List.mem_of_getLast? e
        split at hx
        · next el =>
          rcases List.mem_append.mp hx with m | m
          · exact h2 x (List.dropLast_subset acc m)
          · rw [List.mem_singleton.mp m]
            have pl := h2 l ml
            exact add r.1 l.2 r.2 (by rw [← el]; exact pl) hr
        · rcases List.mem_append.mp hx with m | m
          · exact h2 x m
          · rw [List.mem_singleton.mp m]
            exact hr
      · rcases List.mem_append.mp hx with m | m
        · exact h2 x m
        · rw [List.mem_singleton.mp m]
          exact hr
  exact this rs [] h fun r hr => nomatch hr
theorem jr_sum {g : Int × Int → Int} (add : ∀ a b c, g (a, b + c) = g (a, b) + g (a, c)) (rs : List (Int × Int)) : ((jr rs).map g).sum = (rs.map g).sum := by
  have : ∀ (rs acc : List (Int × Int)), ((rs.foldl jn1 acc).map g).sum = (acc.map g).sum + (rs.map g).sum := fun rs => by
    induction rs with
    | nil => exact fun acc => (Int.add_zero _).symm
    | cons r t ih =>
      intro acc
      rw [List.foldl_cons, ih, sum_cons2]
      have e : ((jn1 acc r).map g).sum = (acc.map g).sum + g r := by
        unfold jn1
        split
        · next l e =>
          obtain ⟨ys, rfl⟩ := List.getLast?_eq_some_iff.mp e
          split
          · next el =>
            rw [List.dropLast_concat, List.map_append, List.map_append, List.sum_append, List.sum_append]
            show _ + (g (r.1, l.2 + r.2) + 0) = _ + (g l + 0) + g r
            rw [add, ← el]
            show _ + (g l + g (l.1, r.2) + 0) = _
            rw [show (l.1, r.2) = r by rw [el]]
            omega
          · rw [List.map_append, List.sum_append]
            show _ + (g r + 0) = _
            omega
        · rw [List.map_append, List.sum_append]
          show _ + (g r + 0) = _
          omega
      rw [e]
      omega
  have := this rs []
  rw [List.map_nil, List.sum_nil, Int.zero_add] at this
  exact this
theorem jr_self : ∀ {rs : List (Int × Int)}, (∀ i a b, rs[i]? = some a → rs[i + 1]? = some b → a.1 ≠ b.1) → jr rs = rs := by
  have : ∀ (n : Nat) (rs : List (Int × Int)), rs.length = n → (∀ i a b, rs[i]? = some a → rs[i + 1]? = some b → a.1 ≠ b.1) → jr rs = rs := fun n => by
    induction n with
    | zero =>
      intro rs h _
      rw [List.eq_nil_of_length_eq_zero h]
      rfl
    | succ n ih =>
      intro rs h hj
      obtain ⟨ys, r, rfl⟩ : ∃ ys r, rs = ys ++ [r] := by
        refine ⟨rs.dropLast, rs.getLast (fun e => by rw [e] at h; cases h), (List.dropLast_concat_getLast _).symm⟩
      rw [List.length_append] at h
      have ln : ys.length = n := Nat.succ.inj h
      rw [jr_snoc, ih ys ln fun i a b h1 h2 => hj i a b (by rw [List.getElem?_append_left (List.getElem?_eq_some_iff.mp h1).1]; exact h1) (by rw [List.getElem?_append_left (List.getElem?_eq_some_iff.mp h2).1]; exact h2)]
      unfold jn1
      split
      · next l e =>
        obtain ⟨zs, rfl⟩ := List.getLast?_eq_some_iff.mp e
        rw [if_neg]
        refine hj zs.length l r ?_ ?_
        · rw [List.append_assoc, List.getElem?_append_right (Nat.le_refl _), Nat.sub_self]
          rfl
        · rw [List.getElem?_append_right (by rw [List.length_append]; exact Nat.le_refl _), List.length_append]
          show [r][zs.length + 1 - (zs.length + 1)]? = _
          rw [Nat.sub_self]
          rfl
      · rfl
  exact fun {rs} h => this rs.length rs rfl h
def unt (rs : List (Int × Int)) (s : Int) : Int := (rs.map fun r => r.2 * (r.1 / s)).sum
theorem unt_jr (rs : List (Int × Int)) (s : Int) : unt (jr rs) s = unt rs s := jr_sum (g := fun r => r.2 * (r.1 / s)) (fun a b c => Int.add_mul b c (a / s)) rs
def stoF (t : Addr) : List (Str × V) := putF "_runs" (.ref t) []
structure StoAt (K : PySem.W.Frag) (C : Addr) (H : Hp) (a : Addr) (rs : List (Int × Int)) : Prop where
  ex : ∃ dx t ts, H a = some (.ins C dx (stoF t)) ∧ SqT K H t ts ∧ F2 (RP K H) ts rs
theorem StoAt.up {K : PySem.W.Frag} {C a : Addr} {H H' : Hp} {rs : List (Int × Int)} (h : StoAt K C H a rs) (e : Ex H H') : StoAt K C H' a rs := by
  obtain ⟨dx, t, ts, h1, h2, h3⟩ := h.ex
  exact ⟨dx, t, ts, e _ _ h1, ex_t e h2, h3.imp fun x b r => r.ex e⟩
theorem sto_runs (t : Addr) : (stoF t).lookup ("_runs" : Str) = some (.ref t) := by
  unfold stoF
  rw [lookup_putF, if_pos rfl]
structure StoreT (K : PySem.W.Frag) (mg : Str → Option Value) (CS : Addr) : Prop where
  k : Klass K mg "Store" CS
  n1 : NoAttr K CS "_runs"
structure Rns (rs : List (Int × Int)) : Prop where
  ok : ∀ r ∈ rs, sizB r.1 = true ∧ sizB r.2 = true
  ln : rs.length ≤ 1000
  jl : (jr rs).length ≤ 40
def spStoI (K : PySem.W.Frag) (C : Addr) : Sp := fun vs H Q _ => ∃ (x dx : Addr) (xs : List V) (rs : List (Int × Int)) (H0 : Hp), vs = .ref x :: xs ∧ Ex H0 H ∧ H0 x = none ∧ H x = some (.ins C dx []) ∧ F2 (RP K H0) xs rs ∧ Rns rs ∧ ∀ H', Ex H0 H' → StoAt K C H' x (jr rs) → Q .non H'
def spStoB (K : PySem.W.Frag) (C : Addr) : Sp := fun vs H Q _ => ∃ (x dx p : Addr) (xs : List V) (rs : List (Int × Int)) (H0 : Hp), vs = [.ref x, .ref p] ∧ Ex H0 H ∧ H0 x = none ∧ H x = some (.ins C dx []) ∧ SqT K H p xs ∧ F2 (RP K H0) xs rs ∧ Rns rs ∧ ∀ H', Ex H0 H' → StoAt K C H' x (jr rs) → Q .non H'
def spIsRun (K : PySem.W.Frag) : Sp := fun vs H Q _ => ∃ t a b, vs = [.ref t] ∧ SqT K H t [.int a, .int b] ∧ ∀ H', Ex H H' → Q (.bl (sizB a && sizB b)) H'
def spJoinR (K : PySem.W.Frag) : Sp := fun vs H Q _ => ∃ t xs rs, vs = [.ref t] ∧ SqT K H t xs ∧ F2 (RP K H) xs rs ∧ rs.length ≤ 2000 ∧ ∀ u ys H', Ex H H' → SqT K H' u ys → F2 (RP K H') ys (jr rs) → Q (.ref u) H'
def spUnitsOf (K : PySem.W.Frag) : Sp := fun vs H Q _ => ∃ t s xs rs, vs = [.ref t, .int s] ∧ SqT K H t xs ∧ F2 (RP K H) xs rs ∧ rs.length ≤ 2000 ∧ (∀ r ∈ rs, 0 ≤ r.1 ∧ r.1.natAbs < 10 ^ 200 ∧ r.2.natAbs < 10 ^ 200) ∧ 0 < s ∧ s.natAbs < 10 ^ 200 ∧ ∀ H', Ex H H' → Q (.int (unt rs s)) H'
def spIsSto (K : PySem.W.Frag) (C : Addr) : Sp := fun vs H Q _ => ∃ a rs, vs = [.ref a] ∧ StoAt K C H a rs ∧ ∀ H', Ex H H' → Q .non H'
structure StoOk (rs : List (Int × Int)) : Prop where
  ok : ∀ r ∈ rs, sizB r.1 = true ∧ 0 < r.2 ∧ r.2.natAbs < 10 ^ 200
  ln : rs.length ≤ 40
def spUnits (K : PySem.W.Frag) (C : Addr) : Sp := fun vs H Q _ => ∃ a s rs, vs = [.ref a, .int s] ∧ StoAt K C H a rs ∧ StoOk rs ∧ sizB s = true ∧ ∀ H', Ex H H' → Q (.int (unt rs s)) H'
theorem sto_mk {P : Program} {w : World} {K : PySem.W.Frag} {mg : Str → Option Value} {base : Heap} {k : Nat} {x : Str} {C : Addr}
    (h : Mkc P w K mg base k x C fun vs H Q E => ∃ ws rest, vs = ws ++ rest ∧ ws.length = 1 ∧ rest.length ≤ sizeLine ∧ ∀ p, H p = Option.none → spStoB K C (ws ++ [V.ref p]) (upd H p (.tup rest)) Q E) : Mkc P w K mg base k x C (spStoI K C) := by
  obtain ⟨f, M, hm, F⟩ := h
  refine ⟨f, M, hm, F.imp ?_⟩
  rintro vs H Q E ⟨x, dx, xs, rs, H0, rfl, e0, x0, hx, hf, hr, q⟩
  refine ⟨[.ref x], xs, rfl, rfl, ?_, fun p np => ?_⟩
  · rw [hf.len]
    exact Nat.le_trans hr.ln (show 1000 ≤ sizeLine by decide)
  · exact ⟨x, dx, p, xs, rs, H0, rfl, e0.trans (Evl.Ex.new np), x0, (Evl.Ex.new np) _ _ hx, SqT.of upd_same, hf, hr, q⟩
section
variable {X : Cx} {k j : Nat} {C : Addr} {x : Str} {sp : Sp} {e : Expr} {te : TE} {p sp_ pos : Pos}
end
def prD (p : Int × Int) : PyData := .tuple [.int p.1, .int p.2]
def rnD (rs : List (Int × Int)) : PyData := .tuple (rs.map prD)
theorem lay_prs : ∀ rs : List (Int × Int), PyData.canLayAll0 (rs.map prD) = true ∧ PyData.depthAll (rs.map prD) ≤ 1
  | [] => ⟨rfl, Nat.zero_le _⟩
  | x :: r => by
    obtain ⟨a, b⟩ := lay_prs r
    refine ⟨by rw [List.map_cons]; simp only [PyData.canLayAll0, a]; rfl, ?_⟩
    rw [List.map_cons]
    simp only [PyData.depthAll]
    exact Nat.max_le.mpr ⟨(show PyData.depth (.tuple ([x.1, x.2].map PyData.int)) ≤ 1 by simp only [PyData.depth, (lay_ints [x.1, x.2]).2]; exact Nat.le_refl _), b⟩
theorem shaped_rns (rs : List (Int × Int)) : SeqAt.shaped (rnD rs) = true := by
  obtain ⟨a, b⟩ := lay_prs rs
  unfold SeqAt.shaped rnD
  simp only [PyData.canLay0, PyData.depth, a]
  exact decide_eq_true (by omega)
theorem eqv_prs : ∀ rs ss : List (Int × Int), PyData.eqvAll (rs.map prD) (ss.map prD) = decide (rs = ss)
  | [], [] => by simp [PyData.eqvAll]
  | [], _ :: _ => by simp [PyData.eqvAll]
  | _ :: _, [] => by simp [PyData.eqvAll]
  | m :: ms, n :: ns => by
    have e : PyData.eqv (prD m) (prD n) = decide (m = n) := by
      have z := eqv_tups [m.1, m.2] [n.1, n.2]
      unfold prD
      simp only [PyData.eqv]
      refine z.trans (decide_eq_decide.mpr ⟨fun h => ?_, fun h => by rw [h]⟩)
      have h1 := (List.cons.inj h).1
      have h2 := (List.cons.inj (List.cons.inj h).2).1
      exact Prod.ext h1 h2
    simp only [List.map_cons, PyData.eqvAll, e, eqv_prs ms ns]
    by_cases h : m = n
    · subst h; simp
    · rw [decide_eq_false h, decide_eq_false (show ¬ (m :: ms = n :: ns) from fun z => h (List.cons.inj z).1)]; rfl
theorem eqv_rns (rs ss : List (Int × Int)) : PyData.eqv (rnD rs) (rnD ss) = decide (rs = ss) := by
  unfold rnD
  simp only [PyData.eqv, eqv_prs]
theorem dpa_rns {K : PySem.W.Frag} {H : Hp} : ∀ {ts : List V} {rs : List (Int × Int)}, F2 (RP K H) ts rs → DpAll K H ts (rs.map prD)
  | _, _, .nil => .nil
  | _, _, .cons ⟨t, e, h⟩ r => by
    subst e
    exact .cons (.tup h (.cons (.int _) (.cons (.int _) .nil))) (dpa_rns r)
end Ck

namespace Ck
open PySem PySem.Spec PyProof.Rows L2 StX Evl
section
variable {K : PySem.W.Frag} {σ : L2.St} {H H' : Hp} {ta tb te tl : TE} {tt : TT} {p a b : Addr} {xs ys : List V} {ms ns : List Int} {j1 j2 : Nat} {ws : List Nat} {ps : List (Int × Int)}
end
section
variable {K : PySem.W.Frag} {C : Addr} {σ : L2.St} {H : Hp} {tl te ti : TE} {a : Addr} {s : Int} {ns : List Int} {rs : List (Int × Int)} {j : Nat} {ws : List Nat}
theorem el_lcY (f : Int → V) (h : Etu K tl σ H (ns.map V.int)) (hz : ns.length ≤ 40000) (hw : ∀ x, wipe ((wipe σ ws).set j (some x)) ws = wipe σ ws)
    (he : ∀ n ∈ ns, ∀ H1, Ex H H1 → Ev te ((wipe σ ws).set j (some (.int n))) H1 (f n)) : EvL (tLc (iTup K tl) (gName j) tYes te ws) σ H (ns.map f) := by
  have z := el_lcN (K := K) (te := te) (tt := tYes) (fun _ => true) f h hz hw (fun n _ H1 _ H2 _ Q q => q H2 (Ex.refl H2)) (fun n hn _ H1 e => he n hn H1 e)
  rw [List.filter_eq_self.mpr fun _ _ => rfl] at z
  exact z
theorem sto_units (t : Addr) : (stoF t).lookup ("units" : Str) = none := by
  unfold stoF
  rw [lookup_putF, if_neg (by decide +kernel)]
  rfl
theorem ev_units (h : Ev te σ H (.ref a)) (hb : Ev ti σ H (.int s)) (hs : StoAt K C H a rs) (ho : StoOk rs) (hz : sizB s = true) : Ev (tMeth C "units" (spUnits K C) [] E0 te (tCons ti tNil)) σ H (.int (unt rs s)) := fun H1 e Q q => h H1 e _ fun H2 e2 => by
  obtain ⟨dx, t, ts, h1, _⟩ := (hs.up (e.trans e2)).ex
  exact ⟨a, dx, _, rfl, h1, sto_units t, hb H2 (e.trans e2) _ fun H3 e3 => ⟨a, s, rs, rfl, hs.up ((e.trans e2).trans e3), ho, hz, fun H' e4 => q H' ((e2.trans e3).trans e4)⟩⟩
end
end Ck

namespace CZ
open PySem
open PySem.Sem (wp)
open RZ
section
variable {prog : Program} {w : World} {A : Around} {E : Value → Shared → Prop} {s : Shared} {z TI TO T i1 i2 l1 l2 : Addr} {f : Bool} {oT : Obj} {k1 k2 : Nat} {xs ys : Array Value} {x y : Value}
end
section
variable {prog : Program} {w : World} {A : Around} {s : Shared} {R : Result → Shared → Prop} {z TI TO i1 i2 l1 l2 S : Addr} {xs ys : Array Value} {n N : Nat}
end
section
variable {prog : Program} {w : World} {A : Around} {E : Value → Shared → Prop} {s : Shared} {z TI TO i1 i2 l1 l2 : Addr} {xs ys : Array Value} {n : Nat}
end
end CZ
namespace Ck
open PySem PySem.Spec PyProof.Rows L2 StX RZ
end Ck

namespace Ck
open PySem PySem.Spec PyProof.Rows L2 Evl
structure Pws (ns : List Int) : Prop where
  pw : ns.Pairwise fun a b => a < b ∧ a ∣ b
  pos : ∀ n ∈ ns, 0 < n
theorem unt_cons (r : Int × Int) (rs : List (Int × Int)) (s : Int) : unt (r :: rs) s = r.2 * (r.1 / s) + unt rs s := by
  unfold unt
  rw [List.map_cons, List.sum_cons]
theorem unt_step {a b : Int} (ha : 0 < a) (hb : 0 < b) (d : a ∣ b) : ∀ {rs : List (Int × Int)}, (∀ r ∈ rs, 0 ≤ r.1 ∧ 0 ≤ r.2) → unt rs b * (b / a) ≤ unt rs a
  | [], _ => by unfold unt; rw [List.map_nil, List.map_nil, List.sum_nil, Int.zero_mul]; exact Int.le_refl 0
  | r :: rs, h => by
    have ih := unt_step ha hb d (rs := rs) fun x hx => h x (List.mem_cons_of_mem _ hx)
    obtain ⟨r1, r2⟩ := h r List.mem_cons_self
    rw [unt_cons, unt_cons, Int.add_mul]
    refine Int.add_le_add ?_ ih
    rw [Int.mul_assoc]
    refine Int.mul_le_mul_of_nonneg_left ?_ r2
    refine (Int.le_ediv_iff_mul_le ha).mpr ?_
    rw [Int.mul_assoc, Int.ediv_mul_cancel d]
    exact Int.ediv_mul_le _ (by omega)
theorem unt_nn {s : Int} (hs : 0 < s) : ∀ {rs : List (Int × Int)}, (∀ r ∈ rs, 0 ≤ r.1 ∧ 0 ≤ r.2) → 0 ≤ unt rs s
  | [], _ => Int.le_refl 0
  | r :: rs, h => by
    have ih := unt_nn hs (rs := rs) fun x hx => h x (List.mem_cons_of_mem _ hx)
    obtain ⟨r1, r2⟩ := h r List.mem_cons_self
    rw [unt_cons]
    have := Int.mul_nonneg r2 (Int.ediv_nonneg r1 (Int.le_of_lt hs))
    omega
theorem all_same {α : Type} {p q : α → Bool} : ∀ {l : List α}, (∀ x ∈ l, p x = q x) → l.all p = l.all q
  | [], _ => rfl
  | x :: l, h => by rw [List.all_cons, List.all_cons, h x List.mem_cons_self, all_same fun y hy => h y (List.mem_cons_of_mem _ hy)]
section
variable {K : PySem.W.Frag} {d : Addr} {σ : L2.St} {H : Hp} {te ta tb : TE} {P R S : Int → Prop} {i : Nat} {n t : Int}
def Ei (d : Addr) (P : Int → Prop) (te : TE) (σ : L2.St) (H : Hp) : Prop := Ek d (fun v => ∃ y, v = .int y ∧ P y) te σ H
theorem Ei.mono {P R : Int → Prop} (h : Ei d P te σ H) (k : ∀ y, P y → R y) : Ei d R te σ H := fun H1 e Q q => h H1 e Q fun v H2 e2 ⟨y, r, p⟩ => q v H2 e2 ⟨y, r, k y p⟩
theorem ei_c (h : P n) : Ei d P (tC (.int n)) σ H := fun H1 e Q q => q _ H1 (Kd.refl e.2) ⟨n, rfl, h⟩
theorem ei_v (hv : σ[i]? = some (some (.int n))) (h : P n) : Ei d P (tVar i) σ H := fun H1 e Q q => ⟨_, hv, q _ H1 (Kd.refl e.2) ⟨n, rfl, h⟩⟩
theorem ei_rollV (hv : σ[i]? = some (some (.ref d))) {B : Int} (h : Ei d (fun t => 0 < t ∧ t ≤ B) te σ H) (hB : B < 1073741824) : Ei d (fun y => 0 ≤ y ∧ y < B) (tCall spRoll [] E0 (tCons (tVar i) (tCons te tNil))) σ H := fun H1 e Q q =>
  ⟨_, hv, h H1 e _ fun v H2 e2 ⟨t, r, t0, t1⟩ => by
    subst r
    exact ⟨d, t, rfl, t0, by omega, e2.2, fun y H3 y0 y1 hd k => q _ H3 (e2.trans (Kd.but hd k)) ⟨y, rfl, y0, by omega⟩⟩⟩
theorem ei_roll (hv : σ[i]? = some (some (.ref d))) (t0 : 0 < t) (t1 : t < 1073741824) : Ei d (fun y => 0 ≤ y ∧ y < t) (tCall spRoll [] E0 (tCons (tVar i) (tCons (tC (.int t)) tNil))) σ H := ei_rollV hv (ei_c ⟨t0, Int.le_refl t⟩) t1
theorem ei_0 {g : Int → Int → Int} (ha : Ei d P ta σ H) (hb : Ei d R tb σ H) (k : ∀ a b, P a → R b → S (g a b)) : Ei d S (tOp (rI0 fun i j => .int (g i j)) ta tb) σ H := fun H1 e Q q => ha H1 e _ fun v H2 e2 ⟨a, r, pa⟩ => hb H2 (e.trans e2) _ fun w H3 e3 ⟨b, r2, pb⟩ => by
  subst r r2
  exact ⟨a, b, rfl, rfl, q _ H3 (e2.trans e3) ⟨_, rfl, k a b pa pb⟩⟩
theorem ei_C {C : Int → Int → Prop} {g : Int → Int → Int} (ha : Ei d P ta σ H) (hb : Ei d R tb σ H) (c : ∀ a b, P a → R b → C a b) (k : ∀ a b, P a → R b → S (g a b)) : Ei d S (tOp (rI C fun i j => .int (g i j)) ta tb) σ H := fun H1 e Q q => ha H1 e _ fun v H2 e2 ⟨a, r, pa⟩ => hb H2 (e.trans e2) _ fun w H3 e3 ⟨b, r2, pb⟩ => by
  subst r r2
  exact ⟨a, b, rfl, rfl, c a b pa pb, q _ H3 (e2.trans e3) ⟨_, rfl, k a b pa pb⟩⟩
def spPickS (K : PySem.W.Frag) : Sp := fun vs H Q _ => ∃ (d p : Addr) (xs : List V), vs = [.ref d, .ref p] ∧ Dice H d ∧ (SqL K H p xs ∨ SqT K H p xs) ∧ p ≠ d ∧ xs ≠ [] ∧ xs.length < 1073741824 ∧
  ∀ x ∈ xs, ∀ H', Dice H' d → But d H H' → Q x H'
theorem ei_pick (hv : σ[i]? = some (some (.ref d))) {ns : List Int} (h : ∀ H1, Kd d H H1 → ∀ Q : VK, (∀ g H2, Kd d H1 H2 → g ≠ d → (SqL K H2 g (ns.map V.int) ∨ SqT K H2 g (ns.map V.int)) → Q (.ref g) H2) → te σ H1 Q) (h0 : ns ≠ []) (hl : ns.length < 1073741824) : Ei d (fun y => y ∈ ns) (tCall (spPickS K) [] E0 (tCons (tVar i) (tCons te tNil))) σ H := fun H1 e Q q =>
  ⟨_, hv, h H1 e _ fun g H2 e2 gd hg => ⟨d, g, _, rfl, e2.2, hg, gd, by simpa using h0, by rw [List.length_map]; exact hl, fun x hx H3 hd k => by
    obtain ⟨y, hy, rfl⟩ := List.mem_map.mp hx
    exact q _ H3 (e2.trans (Kd.but hd k)) ⟨y, rfl, hy⟩⟩⟩
theorem pick_tup {p : Addr} {ns : List Int} (hv : σ[i]? = some (some (.ref p))) (hp : SqT K H p (ns.map V.int)) (pd : p ≠ d) : ∀ H1, Kd d H H1 → ∀ Q : VK, (∀ g H2, Kd d H1 H2 → g ≠ d → (SqL K H2 g (ns.map V.int) ∨ SqT K H2 g (ns.map V.int)) → Q (.ref g) H2) → (tVar i) σ H1 Q := fun H1 e Q q => ⟨_, hv, q p H1 (Kd.refl e.2) pd (.inr (e.1.sqT pd hp))⟩
theorem pick_lst {tr : TA} {xs : List Int} (h : ∀ H1, Kd d H H1 → EvA tr σ H1 (xs.map V.int)) (hl : xs.length ≤ 1000) : ∀ H1, Kd d H H1 → ∀ Q : VK, (∀ g H2, Kd d H1 H2 → g ≠ d → (SqL K H2 g (xs.map V.int) ∨ SqT K H2 g (xs.map V.int)) → Q (.ref g) H2) → (tLst tr) σ H1 Q := fun H1 e Q q =>
  h H1 e H1 (Ex.refl H1) _ fun H2 e2 => ⟨by rw [List.length_map]; exact Nat.le_trans hl (show 1000 ≤ sizeLine by decide), fun g ng => q g _ ((Kd.ex e.2 e2).to (Ex.new ng)) ((e.2.ex e2).ne ng) (.inl (SqL.of upd_same))⟩
end
structure GrR (rs : List (Int × Int)) : Prop where
  ln : rs.length ≤ 5
  ok : ∀ r ∈ rs, (0 < r.1 ∧ r.1 < 10 ^ 28) ∧ 0 < r.2 ∧ r.2 < 10 ^ 32
end Ck

namespace L2
open PySem PySem.Spec PyProof.Rows
end L2

namespace Ck
open PySem PySem.Spec PyProof.Rows L2 StX Evl
section
variable {K : PySem.W.Frag} {C : Addr} {σ : L2.St} {H : Hp} {ta tb te : TE} {xs : List V}
theorem el_copy {l : Addr} (h : Ev te σ H (.ref l)) (hl : SqL K H l xs) : EvL (tCB (fun xs H Q => ∃ p ys, xs = [V.ref p] ∧ (SqL K H p ys ∨ SqT K H p ys) ∧ ∀ l, H l = none → Q (.ref l) (upd H l (.lst ys))) (tCons te tNil)) σ H xs := fun H1 e Q q =>
  h H1 e _ fun H2 e2 => ⟨l, xs, rfl, .inl (ex_l (e.trans e2) hl), fun p hp => q p _ (fresh_back e2 hp) (e2.trans (Ex.new hp)) upd_same⟩
theorem el_rep (h : EvL ta σ H xs) {n : Int} (hb : Ev tb σ H (.int n)) (h0 : 0 ≤ n) (h1 : n ≤ 100) (hl : xs.length ≤ 100) : EvL (tOp rRep ta tb) σ H (List.replicate n.toNat xs).flatten := fun H1 e Q q =>
  h H1 e _ fun p H2 n2 e2 hp => hb H2 (e.trans e2) _ fun H3 e3 => ⟨p, n, xs, rfl, rfl, e3 _ _ hp, by omega, by omega, Nat.le_trans (Nat.mul_le_mul hl (show n.toNat ≤ 100 by omega)) (show 100 * 100 ≤ sizeLine by decide), fun t nt => q t _ (fresh_back (e2.trans e3) nt) ((e2.trans e3).trans (Ex.new nt)) upd_same⟩
end
theorem shaped_lrs (rs : List (Int × Int)) : SeqAt.shaped (.list (rs.map prD)) = true := by
  obtain ⟨a, b⟩ := lay_prs rs
  unfold SeqAt.shaped
  simp only [PyData.canLay0, PyData.depth, a]
  exact decide_eq_true (by omega)
theorem mk_stoR {K : PySem.W.Frag} {C : Addr} {σ : L2.St} {H : Hp} {tr : TA} {vs : List V} {rs : List (Int × Int)} {Q : VK} (h : EvA tr σ H vs) (hf : F2 (RP K H) vs rs) (hr : Rns rs) (q : ∀ a H', Ex H H' → StoAt K C H' a (jr rs) → Q (.ref a) H') : tMakeR C (spStoI K C) E0 tr σ H Q :=
  h H (Ex.refl H) _ fun H1 e1 => fun x dx nx nd ne => by
    have n2 : (upd H1 dx (.own x)) x = none := by rw [upd_ne ne.symm]; exact nx
    exact ⟨x, dx, vs, rs, H1, rfl, (Ex.new nd).trans (Ex.new n2), nx, upd_same, hf.imp fun y b r => r.ex e1, hr, fun H' e' hst => ⟨rfl, q x H' (e1.trans e') hst⟩⟩
end Ck

namespace Ck
open PySem PySem.Spec PyProof.Rows L2 StX Evl
section
variable {K : PySem.W.Frag} {σ : L2.St} {H : Hp} {ta tb te tl : TE} {tt : TT} {tr : TA} {l : Addr} {ts : List V} {ps : List (Int × Int)} {j j1 j2 : Nat} {ws : List Nat}
theorem el_lcPV (f : Int × Int → V) (h : Ev tl σ H (.ref l)) (hl : SqL K H l ts) (hf : F2 (RP K H) ts ps) (hz : ps.length ≤ 40000)
    (hw : ∀ x y, wipe (((wipe σ ws).set j1 (some x)).set j2 (some y)) ws = wipe σ ws) (he : ∀ p ∈ ps, ∀ H1, Ex H H1 → Ev te (((wipe σ ws).set j1 (some (.int p.1))).set j2 (some (.int p.2))) H1 (f p)) :
    EvL (tLc (iList K tl) (gTup K 2 (gCons (gName j1) (gCons (gName j2) gNil))) tYes te ws) σ H (ps.map f) := fun H0 e0 Q q => h H0 e0 _ fun H1 e1 => ⟨l, rfl, ⟨ts, ex_l (e0.trans e1) hl⟩, fun D hD => by
  have e01 := e0.trans e1
  refine lc_it walk_list (fun i H' => H1 D = none ∧ Ex H1 H' ∧ H' D = some (.lst ((ps.take i).map f))) ⟨hD, Ex.new hD, upd_same⟩ (fun i H' _ p => ex_l (e01.trans p.2.1) hl) ?_ ?_
  · rintro i x H' H2 hi ⟨p1, p2, p3⟩ ⟨rfl, hxi⟩
    obtain ⟨p, hp, t, rfl, hpt⟩ := hf.at hxi
    have m := List.mem_of_getElem? hp
    have st : ps.take (i + 1) = ps.take i ++ [p] := by rw [List.take_add_one, hp]; rfl
    have i12 : i < ps.length := (List.getElem?_eq_some_iff.mp hp).1
    refine ⟨t, _, rfl, ex_t (e01.trans p2) hpt, rfl, _, _, rfl, _, _, rfl, rfl, hw _ _, yes_go (iteT (he p m H2 (e01.trans p2) H2 (Ex.refl _) _ fun H5 e5 => ⟨_, e5 _ _ p3, sz_lt (by rw [List.length_map, List.length_take]; omega), p1, Ex.mut (p2.trans e5) p1, by rw [upd_same, st, List.map_append]; rfl⟩))⟩
  · rintro H' ⟨p1, p2, p3⟩
    rw [hf.len, List.take_of_length_le (Nat.le_refl _)] at p3
    exact q D H' (fresh_back e1 p1) (e1.trans p2) p3⟩
end
def spSpace (K : PySem.W.Frag) : Sp := fun vs H Q _ => ∃ (l : Addr) (s : Int) (ts : List V) (rs : List (Int × Int)), vs = [.ref l, .int s] ∧ SqL K H l ts ∧ F2 (RP K H) ts rs ∧ rs.length ≤ 1000 ∧ (∀ r ∈ rs, 0 ≤ r.1 ∧ r.1.natAbs < 10 ^ 200 ∧ r.2.natAbs < 10 ^ 200) ∧ 0 < s ∧ s.natAbs < 10 ^ 200 ∧ ∀ H', Ex H H' → Q (.int (unt rs s)) H'
theorem natAbs_div {a b : Int} (ha : 0 ≤ a) (hb : 0 < b) : (a / b).natAbs ≤ a.natAbs := by
  obtain ⟨n, hn⟩ := Int.eq_ofNat_of_zero_le ha
  obtain ⟨m, hm⟩ := Int.eq_ofNat_of_zero_le (show 0 ≤ b by omega)
  have e : (a / b).natAbs = a.natAbs / b.natAbs := by rw [hn, hm]; rfl
  rw [e]
  exact Nat.div_le_self _ _
theorem fil_nil {α : Type} {c : α → Bool} : ∀ (l : List α), decide (l.filter c = []) = l.all fun x => !c x
  | [] => rfl
  | x :: l => by
    have ih := fil_nil (c := c) l
    rw [List.filter_cons, List.all_cons, ← ih]
    cases h : c x with
    | true => rfl
    | false => rfl
end Ck

namespace Ck
open PySem PySem.Spec PyProof.Rows L2 StX Evl
theorem chd_isc {ns : List Int} {L : Int} (h : Chd ns L) (hl : ns.length ≤ 6) (hL : L < 10 ^ 27) : IsC ns := by
  have big : (10 : Int) ^ 27 < 10 ^ 200 := by decide +kernel
  refine ⟨fun e => ?_, by omega, fun n hn => ?_, h.pw.imp fun h => ⟨h.1, Int.emod_eq_zero_of_dvd h.2⟩⟩
  · obtain ⟨r, e2⟩ := h.last
    rw [e] at e2
    exact nomatch (List.append_eq_nil_iff.mp e2.symm).2
  · obtain ⟨a, b, _⟩ := h.pos n hn
    exact ⟨a, by omega⟩
theorem gr_rns {rs : List (Int × Int)} (h : GrR rs) : Rns rs := by
  have big : (10 : Int) ^ 28 < 10 ^ 200 := by decide +kernel
  have big2 : (10 : Int) ^ 32 < 10 ^ 200 := by decide +kernel
  have ln := h.ln
  refine ⟨fun r hr => ?_, by omega, by have := jr_len rs; omega⟩
  obtain ⟨⟨a, b⟩, c, d⟩ := h.ok r hr
  exact ⟨siz_of a (by omega), siz_of c (by omega)⟩
theorem sum_bound {rs : List (Int × Int)} {g : Int × Int → Int} {B : Int} (h : ∀ r ∈ rs, 0 ≤ g r ∧ g r ≤ B) : 0 ≤ (rs.map g).sum ∧ (rs.map g).sum ≤ rs.length * B ∧ ∀ r ∈ rs, g r ≤ (rs.map g).sum := by
  induction rs with
  | nil => exact ⟨Int.le_refl 0, by rw [List.length_nil]; show (0 : Int) ≤ 0 * B; rw [Int.zero_mul]; exact Int.le_refl 0, fun r hr => nomatch hr⟩
  | cons x t ih =>
    obtain ⟨i1, i2, i3⟩ := ih fun r hr => h r (List.mem_cons_of_mem _ hr)
    obtain ⟨x1, x2⟩ := h x List.mem_cons_self
    rw [List.map_cons, List.sum_cons, List.length_cons]
    have e : (((t.length + 1 : Nat) : Int)) * B = t.length * B + B := by rw [Int.natCast_add, Int.add_mul]; show _ + 1 * B = _; rw [Int.one_mul]
    refine ⟨by omega, by rw [e]; omega, fun r hr => ?_⟩
    rcases List.mem_cons.mp hr with rfl | hr
    · omega
    · have := i3 r hr
      omega
theorem snd_each : ∀ {l : List (Int × Int)}, (∀ r ∈ l, 0 < r.2) → 0 ≤ (l.map fun r => r.2).sum ∧ ∀ r ∈ l, r.2 ≤ (l.map fun r => r.2).sum
  | [], _ => ⟨Int.le_refl 0, fun r hr => nomatch hr⟩
  | x :: t, h => by
    obtain ⟨i1, i2⟩ := snd_each fun r hr => h r (List.mem_cons_of_mem _ hr)
    have x0 := h x List.mem_cons_self
    rw [List.map_cons, List.sum_cons]
    refine ⟨by omega, fun r hr => ?_⟩
    rcases List.mem_cons.mp hr with rfl | hr
    · omega
    · have := i2 r hr
      omega
theorem gr_sto {rs : List (Int × Int)} (h : GrR rs) : StoOk (jr rs) := by
  have big : (5 : Int) * 10 ^ 32 < 10 ^ 200 := by decide +kernel
  have big2 : (10 : Int) ^ 28 < 10 ^ 200 := by decide +kernel
  have ln := h.ln
  have pos : ∀ r ∈ jr rs, sizB r.1 = true ∧ 0 < r.2 := jr_all (P := fun r => sizB r.1 = true ∧ 0 < r.2) (fun a b c h1 h2 => ⟨h1.1, by have := h1.2; have := h2.2; show 0 < b + c; omega⟩) fun r hr => by
    obtain ⟨⟨a, b⟩, c, d⟩ := h.ok r hr
    exact ⟨siz_of a (by omega), c⟩
  have e := jr_sum (g := fun r => r.2) (fun a b c => rfl) rs
  obtain ⟨t0, t1, _⟩ := sum_bound (rs := rs) (g := fun r => r.2) (B := 10 ^ 32) fun r hr => by
    obtain ⟨_, c, d⟩ := h.ok r hr
    exact ⟨by show 0 ≤ r.2; omega, by show r.2 ≤ _; omega⟩
  have top : (rs.map fun r => r.2).sum ≤ 5 * 10 ^ 32 := Int.le_trans t1 (Int.mul_le_mul_of_nonneg_right (by omega) (by decide))
  refine ⟨fun r hr => ⟨(pos r hr).1, (pos r hr).2, ?_⟩, by have := jr_len rs; omega⟩
  have := (snd_each fun r hr => (pos r hr).2).2 r hr
  have := (pos r hr).2
  rw [e] at *
  omega
section
variable {K : PySem.W.Frag} {C : Addr} {σ : L2.St} {H H' : Hp} {ta tb te tl : TE} {a p u d : Addr} {ns us : List Int} {rs : List (Int × Int)} {j1 j2 : Nat} {ws : List Nat}
theorem StoAt.kd (hd : Dice H d) (k : Kd d H H') (h : StoAt K C H a rs) : StoAt K C H' a rs := by
  obtain ⟨dx, t, ts, h1, h2, h3⟩ := h.ex
  obtain ⟨x, y, z, e⟩ := hd
  exact ⟨dx, t, ts, k.1 _ _ (fun z => by rw [z, e] at h1; cases h1) h1, sqT_kp ⟨x, y, z, e⟩ k.1 h2, h3.imp fun x b r => r.kd ⟨_, _, _, e⟩ k⟩
end
section
variable {K : PySem.W.Frag} {σ : L2.St} {H : Hp} {ta tb te : TE} {p d l : Addr} {ns zs : List Int} {xs ys : List V} {i j n : Nat} {P : Int → Prop}
end
section
variable {K : PySem.W.Frag} {σ : L2.St} {H : Hp} {ta tb te : TE} {xs : List V} {Pr : V → Hp → Prop} {u : Addr} {z : V}
end
section
variable {K : PySem.W.Frag} {CS : Addr} {σ : L2.St} {H : Hp} {Q : VK}
theorem mk_stoV {vs : List V} {rs : List (Int × Int)} (hf : F2 (RP K H) vs rs) (hr : Rns rs) (q : ∀ a H', Ex H H' → StoAt K CS H' a (jr rs) → Q (.ref a) H') : ∀ x dx, H x = Option.none → H dx = Option.none → dx ≠ x → spStoI K CS (V.ref x :: vs) (upd (upd H dx (.own x)) x (.ins CS dx [])) (fun v H2 => v = .non ∧ Q (.ref x) H2) E0 := fun x dx nx nd ne => by
  have n2 : (upd H dx (.own x)) x = none := by rw [upd_ne ne.symm]; exact nx
  exact ⟨x, dx, vs, rs, H, rfl, (Ex.new nd).trans (Ex.new n2), nx, upd_same, hf, hr, fun H' e' hst => ⟨rfl, q x H' e' hst⟩⟩
theorem mk_sto0 (q : ∀ x H', Ex H H' → StoAt K CS H' x [] → Q (.ref x) H') : tMakeR CS (spStoI K CS) E0 tNil σ H Q := mk_stoV (rs := []) .nil ⟨(fun r h => nomatch h), by decide, by decide⟩ q
theorem etu_t {tr : TA} {xs : List V} (h : EvA tr σ H xs) (hl : xs.length ≤ 100000) : Etu K (tTup tr) σ H xs := etu_of (eu_tup h hl)
end
end Ck

namespace Ck
open PySem PySem.Spec PyProof.Rows L2 RZ
def ItN (K : PySem.W.Frag) (a b : Addr) : It :=
  ⟨fun i H => ∃ (xs ys : List V) (x y : V), (SqL K H a xs ∧ SqT K H b ys) ∧ xs[i]? = some x ∧ ys[i]? = some y,
    fun i H v H' => ∃ T x y, v = .ref T ∧ H T = none ∧ H' = upd H T (.tup [x, y]) ∧ (∀ us, SqL K H a us → us[i]? = some x) ∧ ∀ us, SqT K H b us → us[i]? = some y,
    fun i H => ∃ xs ys : List V, (SqL K H a xs ∧ SqT K H b ys) ∧ (i = xs.length ∧ i ≤ ys.length ∨ i ≤ xs.length ∧ i = ys.length)⟩
def ZipN (a b z ti to i1 i2 : Addr) (i : Nat) (h : Heap) : Prop :=
  IsZip h z ti to .none ∧ IsTupOf2 h ti (.ref i1) (.ref i2) ∧ (∃ x y, IsTupOf2 h to x y) ∧ h.IsListIter i1 a i ∧ h.IsTupleIter i2 b i
theorem turnN {P : Program} {w : World} {K : PySem.W.Frag} {es : List Expr} {kk : Nat} {tp : Pos} {a b z ti to i1 i2 : Addr} (D : ZipSep2 z ti to i1 i2 [i1, a] [i2, b]) (na : a ≠ i1) (nb : b ≠ i2) :
    Turn P w K (.Tuple es kk tp) (ItN K a b) (cells5 z ti to i1 i2) z (ZipN a b z ti to i1 i2) where
  mem := List.mem_cons_self
  obj := by
    rintro i h ⟨s1, s2, ⟨x, y, s3⟩, ⟨o1, e1, _, d1⟩, ⟨o2, e2, _, d2⟩⟩ c hc
    rcases in5 hc with rfl | rfl | rfl | rfl | rfl
    · exact ⟨_, s1, fun v => Data.noConfusion⟩
    · exact ⟨_, s2, fun v => Data.noConfusion⟩
    · exact ⟨_, s3, fun v => Data.noConfusion⟩
    · exact ⟨o1, e1, fun v => by rw [d1]; exact Data.noConfusion⟩
    · exact ⟨o2, e2, fun v => by rw [d2]; exact Data.noConfusion⟩
  keep := by
    rintro i h h' ⟨s1, s2, ⟨x, y, s3⟩, s4, s5⟩ k
    have q : ∀ c, c ∈ cells5 z ti to i1 i2 → ∀ o, h.get? c = some o → h'.get? c = some o := k
    exact ⟨q z (by simp) _ s1, q ti (by simp) _ s2, ⟨x, y, q to (by simp) _ s3⟩, s4.at (q i1 (by simp)), s5.at (q i2 (by simp))⟩
  item := by
    intro X e1 e2 e3 hc i pins s σ H E I hf st hg
    subst e1 e2 e3
    obtain ⟨s1, s2, ⟨x0, y0, s3⟩, s4, s5⟩ := st
    obtain ⟨xs, ys, x, y, ⟨qx, qy⟩, gx, gy⟩ := hg
    obtain ⟨us, ru, pu, _⟩ := I.list qx
    obtain ⟨ws, rw', pw, _⟩ := I.tuple qy
    obtain ⟨u, hu, rxu⟩ := ru.get gx
    obtain ⟨v, hv, ryv⟩ := rw'.get gy
    have hh : X.A.in1.handled = none := I.ok.hd hc
    have lu := (List.getElem?_eq_some_iff.mp hu).1
    have lv := (List.getElem?_eq_some_iff.mp hv).1
    have zl := Heap.lt_size s1
    refine wpAny_pyNext_zipD2_item D (Draws.list hh i1 a na us.toArray) (Draws.tuple hh i2 b nb ws.toArray) s1 s2 s3 ⟨s4, pu.isList⟩ ⟨s5, pw⟩ (by simpa using lu) (by simpa using lv) ?_
    intro u' v' h' tk eu ev z' to' i1' i2' nt sz kp
    obtain rfl : u = u' := Option.some.inj (hu.symm.trans (by simpa using eu))
    obtain rfl : v = v' := Option.some.inj (hv.symm.trans (by simpa using ev))
    refine ⟨_, rfl, wpAny_letOwnedTupleGo_zip (s := { s with heap := h', toks := tk }) z' fun h2 z2 sb => ?_⟩
    have stay : ∀ c o, c ∉ cells5 z ti to i1 i2 → s.heap.get? c = some o → h2.get? c = some o := fun c o n e => by
      obtain ⟨n1, n2, n3, n4⟩ := no5 n
      exact (sb.2 c n1).trans (kp c o n1 n2 n3 n4 e)
    have new : ObjOk X.prog X.w (upd H s.heap.objs.size (.tup [x, y])) h2 s.heap.objs.size (.tup [x, y]) :=
      ⟨(show 2 ≤ sizeLine by decide), [u, v], .cons rxu (.cons ryv .nil), ⟨_, (sb.2 _ (Nat.ne_of_gt zl)).trans nt, rfl, _, rfl⟩⟩
    have J := I.turnedNew (t' := tk) (ch := cells5 z ti to i1 i2) stay hf (Nat.le_refl _) new
    have fr := I.hok.fresh (Nat.le_refl s.heap.objs.size)
    refine ⟨.ref s.heap.objs.size, _, J, rfl, ⟨_, x, y, rfl, fr, rfl, fun l hl => ?_, fun l hl => ?_⟩, ⟨z2, ?_, ⟨u, v, ?_⟩, ?_, ?_⟩, fun c hcm => ?_⟩
    · rw [I.list_inj hl qx]; exact gx
    · rw [I.tuple_inj hl qy]; exact gy
    · exact (sb.2 ti D.TIz).trans (kp ti _ D.TIz D.TITO D.TIi1 D.TIi2 s2)
    · exact (sb.2 to D.TOz).trans to'
    · exact i1'.1.at fun o q => (sb.2 i1 D.zi1.symm).trans q
    · exact i2'.1.at fun o q => (sb.2 i2 D.zi2.symm).trans q
    · have lt : c < s.heap.objs.size := by
        rcases in5 hcm with e | e | e | e | e
        · exact e ▸ zl
        · exact e ▸ Heap.lt_size s2
        · exact e ▸ Heap.lt_size s3
        · obtain ⟨_, q, _⟩ := s4
          exact e ▸ Heap.lt_size q
        · obtain ⟨_, q, _⟩ := s5
          exact e ▸ Heap.lt_size q
      rw [upd_ne (Nat.ne_of_lt lt)]
      exact (hf c hcm).1
  done := by
    intro X e1 e2 e3 hc i pins s σ H E I hf st hg
    subst e1 e2 e3
    obtain ⟨s1, s2, ⟨x0, y0, s3⟩, s4, s5⟩ := st
    obtain ⟨xs, ys, ⟨qx, qy⟩, hend⟩ := hg
    obtain ⟨us, ru, pu, _⟩ := I.list qx
    obtain ⟨ws, rw', pw, _⟩ := I.tuple qy
    have hh : X.A.in1.handled = none := I.ok.hd hc
    have l1 := ru.length
    have l2 := rw'.length
    refine wpAny_pyNext_zipD2_end D (Draws.list hh i1 a na us.toArray) (Draws.tuple hh i2 b nb ws.toArray) s1 s2 s3 ⟨s4, pu.isList⟩ ⟨s5, pw⟩ (by simp; omega) (by simp; omega) (by simp; omega) fun h' tk kp => ⟨rfl, ?_⟩
    refine I.turnedL (t' := tk) (ch := cells5 z ti to i1 i2) (fun c o n e => ?_) hf
    obtain ⟨n1, n2, n3, n4⟩ := no5 n
    exact kp c o n1 n2 n3 n4 e
  self := fun A i s Q E st h => wpAny_pyIter_zip st.1 h

def iZipX (K : PySem.W.Frag) (ta : TA) : TI := fun σ H R => ta σ H fun vs H1 => ∃ a b xs ys, vs = [.ref a, .ref b] ∧ ((SqL K H1 a xs ∧ SqL K H1 b ys ∧ R (Itz K a b) H1) ∨ (SqT K H1 a xs ∧ SqT K H1 b ys ∧ R (ItzT K a b) H1) ∨ (SqT K H1 a xs ∧ SqL K H1 b ys ∧ R (ItM K a b) H1) ∨ (SqL K H1 a xs ∧ SqT K H1 b ys ∧ R (ItN K a b) H1))
theorem pi_zipX {X : Cx} {e e2 : Expr} {ta : TA} {p pos tp : Pos} {es : List Expr} {kk : Nat} (hg : Gl X "zip") (hm : X.mg "zip" = none) (ha : PA X [e, e2] ta)
    (hs : starEach [e, e2] X.env = (false, eval e X.env) :: starEach [e2] X.env := by rfl) (hpl : (backTo pos (starEach [e2] X.env)).any (·.1) = false := by rfl) :
    PI X (.Tuple es kk tp) (.Call (.Name "zip" p) [e, e2] [] pos) (iZipX X.K ta) := by
  refine ⟨fun pins s σ H R I h => Call_ (ld_blt I hg hm PyProof.Rows.boot_zip (PyProof.Rows.callWith_type1 (thn (ha.run pos pins s σ H _ I h) ?_) hs hpl))⟩
  rintro us s1 ⟨vs, H1, I1, r, a, b, xs, ys, rfl, q⟩
  obtain ⟨u, v, rfl, ra, rb⟩ := vals2 r
  cases ra
  cases rb
  have fr : ∀ c, c ∈ cells5 (s1.heap.objs.size + 4) (s1.heap.objs.size + 2) (s1.heap.objs.size + 3) s1.heap.objs.size (s1.heap.objs.size + 1) → FpOk X pins H1 c := fun c hcm => by
    have le : s1.heap.objs.size ≤ c := by
      rcases in5 hcm with e | e | e | e | e
      · rw [e]; exact Nat.le_add_right _ _
      · rw [e]; exact Nat.le_add_right _ _
      · rw [e]; exact Nat.le_add_right _ _
      · rw [e]; exact Nat.le_refl _
      · rw [e]; exact Nat.le_add_right _ _
    exact I1.fpOk le (I1.hok.fresh le)
  rcases q with ⟨qx, qy, q⟩ | ⟨qx, qy, q⟩ | ⟨qx, qy, q⟩ | ⟨qx, qy, q⟩
  · obtain ⟨its, rv, p1, _⟩ := I1.list qx
    obtain ⟨its2, rv2, p2, _⟩ := I1.list qy
    refine call_zip_2 p1.isList p2.isList fun h' hz hTI hTO h1 h2 hsz hk => wpAny_pyIter_zip hz ?_
    exact ⟨s1.heap.objs.size + 4, _, _, _, H1, rfl, I1.kept (t' := s1.toks) hk, turn_zip (PySem.W.ktu_apart s1.heap.objs.size a b p1.lt p2.lt), ⟨hz, hTI, ⟨_, _, hTO⟩, h1, h2⟩, fr, q⟩
  · obtain ⟨its, rv, p1, _⟩ := I1.tuple qx
    obtain ⟨its2, rv2, p2, _⟩ := I1.tuple qy
    obtain ⟨o1, ho1, _⟩ := id p1
    obtain ⟨o2, ho2, _⟩ := id p2
    refine call_zipT (show s1.heap.IsTuple a its.toArray from p1) (show s1.heap.IsTuple b its2.toArray from p2) fun h' hz hTI hTO h1 h2 hsz hk => wpAny_pyIter_zip hz ?_
    exact ⟨s1.heap.objs.size + 4, _, _, _, H1, rfl, I1.kept (t' := s1.toks) hk, turn_zipT (PySem.W.ktu_apart s1.heap.objs.size a b (Heap.lt_size ho1) (Heap.lt_size ho2)), ⟨hz, hTI, ⟨_, _, hTO⟩, h1, h2⟩, fr, q⟩
  · obtain ⟨its, _, p1, _⟩ := I1.tuple qx
    obtain ⟨its2, _, p2, _⟩ := I1.list qy
    have la : a < s1.heap.objs.size := by
      obtain ⟨_, e, _⟩ := id p1
      exact Heap.lt_size e
    have lb := p2.lt
    refine zip_begins2 (begins_tuple a its.toArray) (begins_list b its2.toArray) p1 p2.isList fun h' z ti to g1 g2 sz kp => wpAny_pyIter_zip z ?_
    have D := zip_sep2 (N := s1.heap.objs.size) (fp1 := [a]) (fp2 := [b]) (fun c hc => by cases List.mem_singleton.mp hc; exact la) (fun c hc => by cases List.mem_singleton.mp hc; exact lb)
    exact ⟨_, _, _, _, H1, rfl, I1.kept (t' := s1.toks) kp, turnM D (Nat.ne_of_lt la) (Nat.ne_of_lt (Nat.lt_succ_of_lt lb)), ⟨z, ti, ⟨_, _, to⟩, ⟨_, g1, rfl, rfl⟩, ⟨_, g2, rfl, rfl⟩⟩, fr, q⟩
  · obtain ⟨its, _, p1, _⟩ := I1.list qx
    obtain ⟨its2, _, p2, _⟩ := I1.tuple qy
    have la := p1.lt
    have lb : b < s1.heap.objs.size := by
      obtain ⟨_, e, _⟩ := id p2
      exact Heap.lt_size e
    refine zip_begins2 (begins_list a its.toArray) (begins_tuple b its2.toArray) p1.isList p2 fun h' z ti to g1 g2 sz kp => wpAny_pyIter_zip z ?_
    have D := zip_sep2 (N := s1.heap.objs.size) (fp1 := [a]) (fp2 := [b]) (fun c hc => by cases List.mem_singleton.mp hc; exact la) (fun c hc => by cases List.mem_singleton.mp hc; exact lb)
    exact ⟨_, _, _, _, H1, rfl, I1.kept (t' := s1.toks) kp, turnN D (Nat.ne_of_lt la) (Nat.ne_of_lt (Nat.lt_succ_of_lt lb)), ⟨z, ti, ⟨_, _, to⟩, ⟨_, g1, rfl, rfl⟩, ⟨_, g2, rfl, rfl⟩⟩, fr, q⟩
end Ck

namespace Ck
open PySem PySem.Spec PyProof.Rows L2 StX RZ
section
variable {X : Cx}
end
def rSlB (K : PySem.W.Frag) : V → Option Int → Option Int → Hp → VK → Prop := fun x lo hi H Q => rSlL K x lo hi H Q ∨ rSlA K x lo hi H Q
theorem sl_both {X : Cx} : SlR X (rSlB X.K) := sl_list.or sl_tupA
def spGapB (K : PySem.W.Frag) : Sp := fun vs H Q _ => ∃ (p : Addr) (ns : List Int), vs = [.ref p] ∧ (SqL K H p (ns.map V.int) ∨ (SqT K H p (ns.map V.int) ∧ ns ≠ [])) ∧ (∀ n ∈ ns, 0 < n) ∧ ∀ v H', Evl.Ex H H' → Dp K H' v (gapD (gap ns)) → Q v H'
section
variable {K : PySem.W.Frag} {σ : L2.St} {H : Hp} {p : Addr} {ns : List Int}
def tZipB (K : PySem.W.Frag) : TI := iZipX K (tCons (tVar 0) (tCons (tSl (rSlB K) (tVar 0) (tPart (tC (.int 1))) tNoPart) tNil))
theorem zip_goBL (hv : σ[0]? = some (some (.ref p))) (hp : SqL K H p (ns.map V.int)) {R : It → Hp → Prop} (k : ∀ c, H c = none → R (Itz K p c) (upd H c (.lst ((ns.drop 1).map V.int)))) : tZipB K σ H R := by
  refine ⟨.ref p, hv, .ref p, hv, 1, rfl, .inl ⟨p, _, rfl, hp, fun c hc => ⟨p, c, ns.map V.int, (ns.drop 1).map V.int, rfl, .inl ⟨Evl.ex_l (Evl.Ex.new hc) hp, ?_, ?_⟩⟩⟩⟩
  · rw [cutT1, ← List.map_drop]
    exact SqL.of upd_same
  · rw [cutT1, ← List.map_drop]
    exact k c hc
theorem zip_goBT (hv : σ[0]? = some (some (.ref p))) (hp : SqT K H p (ns.map V.int)) (hne : ns ≠ []) {R : It → Hp → Prop} (k : ∀ c, H c = none → R (ItzT K p c) (upd H c (.tup ((ns.drop 1).map V.int)))) : tZipB K σ H R := by
  refine ⟨.ref p, hv, .ref p, hv, 1, rfl, .inr ⟨p, _, rfl, hp, fun z => ?_, fun _ c hc => ?_⟩⟩
  · have e : HT.sIx (ns.map V.int).length 0 (some 1) = min 1 (ns.map V.int).length := HT.sIx_nat _ 0 1
    rw [e, List.length_map] at z
    have l : 0 < ns.length := List.length_pos_iff.mpr hne
    omega
  · refine ⟨p, c, ns.map V.int, (ns.drop 1).map V.int, rfl, .inr (.inl ⟨?_, ?_, ?_⟩)⟩
    · exact Evl.ex_t (Evl.Ex.new hc) hp
    · rw [cutT1, ← List.map_drop]
      exact SqT.of upd_same
    · rw [cutT1, ← List.map_drop]
      exact k c hc
end
end Ck

namespace Ck
open PySem PySem.Spec PyProof.Rows L2 StX Evl
structure LotC (ps : List (Int × Int)) : Prop where
  ct : Cts ps
  asc : Asc ps
  ch : gap (ps.map Prod.fst) = none
def spTogN (K : PySem.W.Frag) : Sp := fun vs H Q _ => ∃ (p : Addr) (ns : List Int), vs = [.ref p] ∧ SqT K H p (ns.map V.int) ∧ ns.length < 60 ∧ (∀ n ∈ ns, 0 < n) ∧ gap (uni ns) = none ∧ ∀ H', Ex H H' → Q .non H'
def spLotU (K : PySem.W.Frag) (C : Addr) : Sp := fun vs H Q _ => ∃ (a : Addr) (s : Int) (ps : List (Int × Int)), vs = [.ref a, .int s] ∧ LotAt K C H a ps ∧ Cts ps ∧ sizB s = true ∧ (∀ p ∈ ps, s < p.1 → s ∣ p.1) ∧ ∀ H', Ex H H' → Q (.int (unt ps s)) H'
def spChkL (K : PySem.W.Frag) (CL CS : Addr) : Sp := fun vs H Q _ => ∃ (a b : Addr) (ps rs : List (Int × Int)), vs = [.ref a, .ref b] ∧ LotAt K CL H a ps ∧ LotC ps ∧ StoAt K CS H b rs ∧ ∀ H', Ex H H' → Q .non H'
def RT3 (K : PySem.W.Frag) (H : Hp) (x : V) (q : Int × Int × Int) : Prop := ∃ t, x = .ref t ∧ SqT K H t [.int q.1, .int q.2.1, .int q.2.2]
def lvs (ps rs : List (Int × Int)) : List (Int × Int × Int) := (ps.map Prod.fst).map fun s => (s, unt ps s, unt rs s)
def brs (ps rs : List (Int × Int)) : List Int := (ps.map Prod.fst).filter fun s => decide (unt rs s < unt ps s)
def spLvs (K : PySem.W.Frag) (CL CS : Addr) : Sp := fun vs H Q _ => ∃ (a b : Addr) (ps rs : List (Int × Int)), vs = [.ref a, .ref b] ∧ LotAt K CL H a ps ∧ LotC ps ∧ StoAt K CS H b rs ∧ StoOk rs ∧ ∀ t ts H', Ex H H' → SqT K H' t ts → F2 (RT3 K H') ts (lvs ps rs) → Q (.ref t) H'
def spBrs (K : PySem.W.Frag) (CL CS : Addr) : Sp := fun vs H Q _ => ∃ (a b : Addr) (ps rs : List (Int × Int)), vs = [.ref a, .ref b] ∧ LotAt K CL H a ps ∧ LotC ps ∧ StoAt K CS H b rs ∧ StoOk rs ∧ ∀ t H', Ex H H' → SqT K H' t ((brs ps rs).map V.int) → Q (.ref t) H'
def fitB (ps rs : List (Int × Int)) : Bool := (ps.map Prod.fst).all fun s => decide (unt ps s ≤ unt rs s)
def spFits (K : PySem.W.Frag) (CL CS : Addr) : Sp := fun vs H Q _ => ∃ (a b : Addr) (ps rs : List (Int × Int)), vs = [.ref a, .ref b] ∧ LotAt K CL H a ps ∧ LotC ps ∧ StoAt K CS H b rs ∧ StoOk rs ∧ ∀ H', Ex H H' → Q (.bl (fitB ps rs)) H'
theorem RT3.ex {K : PySem.W.Frag} {H H' : Hp} {x : V} {q : Int × Int × Int} (e : Ex H H') (h : RT3 K H x q) : RT3 K H' x q := h.imp fun t h => ⟨h.1, ex_t e h.2⟩
theorem RT3.upd {K : PySem.W.Frag} {H : Hp} {l : Addr} {xs ys : List V} {x : V} {q : Int × Int × Int} (hl : H l = some (.lst xs)) (h : RT3 K H x q) : RT3 K (L2.upd H l (.lst ys)) x q := h.imp fun t h => ⟨h.1, sqT_updL h.2 hl⟩
theorem lot_m (t1 t2 d : Addr) : (lotF t1 t2 d).lookup ("units" : Str) = none := by
  unfold lotF
  rw [lookup_putF, if_neg (by decide +kernel), lookup_putF, if_neg (by decide +kernel), lookup_putF, if_neg (by decide +kernel)]
  rfl
theorem ev_lotU {K : PySem.W.Frag} {C : Addr} {σ : L2.St} {H : Hp} {te ti : TE} {a : Addr} {s : Int} {ps : List (Int × Int)} (h : Ev te σ H (.ref a)) (hb : Ev ti σ H (.int s)) (hs : LotAt K C H a ps) (hc : Cts ps) (hz : sizB s = true) (hd : ∀ p ∈ ps, s < p.1 → s ∣ p.1) : Ev (tMeth C "units" (spLotU K C) [] E0 te (tCons ti tNil)) σ H (.int (unt ps s)) := fun H1 e Q q => h H1 e _ fun H2 e2 => by
  obtain ⟨dx, t1, t2, d, ts, h1, _⟩ := (hs.up (e.trans e2)).ex
  exact ⟨a, dx, _, rfl, h1, lot_m t1 t2 d, hb H2 (e.trans e2) _ fun H3 e3 => ⟨a, s, ps, rfl, hs.up ((e.trans e2).trans e3), hc, hz, hd, fun H' e4 => q H' ((e2.trans e3).trans e4)⟩⟩
theorem ev_any {K : PySem.W.Frag} {σ : L2.St} {H : Hp} {te : TE} {bs : List Bool} (h : EvL te σ H (bs.map V.bl)) : Ev (tCB (rAny K) (tCons te tNil)) σ H (.bl (bs.any id)) := fun H1 e Q q =>
  h H1 e _ fun l H2 _ e2 hl => ⟨l, bs, rfl, sq_of hl, q H2 e2⟩
theorem fit_brs (ps rs : List (Int × Int)) : decide (brs ps rs = []) = fitB ps rs := by
  unfold brs fitB
  rw [fil_nil]
  refine all_same fun s _ => ?_
  by_cases c : unt rs s < unt ps s
  · rw [decide_eq_true c, decide_eq_false (by omega)]; rfl
  · rw [decide_eq_false c, decide_eq_true (by omega)]; rfl
theorem LotC.dv {ps : List (Int × Int)} (h : LotC ps) : ∀ s ∈ ps.map Prod.fst, ∀ p ∈ ps, s < p.1 → s ∣ p.1 := by
  have pos : ∀ n ∈ ps.map Prod.fst, 0 < n := fun n hn => (cts_pos h.ct n hn).1
  have pw : (ps.map Prod.fst).Pairwise Dv := chain_pw (pw_asc h.asc) h.ch pos
  intro s hs p hp lt
  have hm : p.1 ∈ ps.map Prod.fst := List.mem_map_of_mem hp
  obtain ⟨i, hi, ei⟩ := List.mem_iff_getElem.mp hs
  obtain ⟨j, hj, ej⟩ := List.mem_iff_getElem.mp hm
  have r := List.pairwise_iff_getElem.mp pw
  rcases Nat.lt_trichotomy i j with h1 | h1 | h1
  · have z := (r i j hi hj h1).2
    rw [ei, ej] at z
    exact Int.dvd_of_emod_eq_zero z
  · subst h1
    rw [ei] at ej
    omega
  · have z := (r j i hj hi h1).1
    rw [ei, ej] at z
    omega
section
variable {K : PySem.W.Frag} {σ : L2.St} {H : Hp} {tl te ta tb tc : TE} {tt : TT} {ns : List Int} {qs : List (Int × Int × Int)} {j j1 j2 j3 : Nat} {ws : List Nat}
theorem lc_tupE {α : Type} {R : Hp → V → α → Prop} {e : Int → α} (L : ∀ H H' x b, Ex H H' → R H x b → R H' x b) (LU : ∀ H l xs ys x b, H l = some (.lst xs) → R H x b → R (upd H l (.lst ys)) x b) (h : Etu K tl σ H (ns.map V.int)) (hz : ns.length ≤ 40000) (hw : ∀ x, wipe ((wipe σ ws).set j (some x)) ws = wipe σ ws)
    (he : ∀ n ∈ ns, ∀ H1, Ex H H1 → EvR R te ((wipe σ ws).set j (some (.int n))) H1 (e n)) :
    ∀ H1, Ex H H1 → ∀ Q : VK, (∀ D vs H2, H1 D = none → Ex H1 H2 → H2 D = some (.lst vs) → F2 (R H2) vs (ns.map e) → Q (.ref D) H2) → tLc (iTup K tl) (gName j) tYes te ws σ H1 Q := fun H0 e0 Q q => h H0 e0 _ fun a H1 e1 hx => by
  have z := lc_tupF (K := K) (σ := σ) (tl := tC (.ref a)) (te := te) (tt := tYes) (ws := ws) (j := j) (R := R) (c := fun _ => true) (e := e) L LU (H := H1) (ev_c) hx hz hw (fun n _ H2 _ H3 _ Q q => q H3 (Ex.refl H3)) (fun n hn _ H2 e2 => he n hn H2 ((e0.trans e1).trans e2)) H1 (Ex.refl H1) Q (fun D vs H2 nD e2 hD hf => by
    rw [List.filter_eq_self.mpr fun _ _ => rfl] at hf
    exact q D vs H2 (fresh_back e1 nD) (e1.trans e2) hD hf)
  exact z
theorem evr_t3 {a b c : Int} (ha : Ev ta σ H (.int a)) (hb : Ev tb σ H (.int b)) (hc : Ev tc σ H (.int c)) : EvR (RT3 K) (tTup (tCons ta (tCons tb (tCons tc tNil)))) σ H (a, b, c) := fun H1 e Q q =>
  ha H1 e _ fun H2 e2 => hb H2 (e.trans e2) _ fun H3 e3 => hc H3 ((e.trans e2).trans e3) _ fun H4 e4 => ⟨(show 3 ≤ sizeLine by decide), fun p hp => q _ _ (((e2.trans e3).trans e4).trans (Ex.new hp)) ⟨p, rfl, SqT.of upd_same⟩⟩
theorem el_lcT3 (c : Int × Int × Int → Bool) (f : Int × Int × Int → V) (h : ∀ H1, Ex H H1 → ∀ Q : VK, (∀ t ts H2, Ex H1 H2 → SqT K H2 t ts → F2 (RT3 K H2) ts qs → Q (.ref t) H2) → tl σ H1 Q) (hz : qs.length ≤ 40000)
    (hw : ∀ x y z, wipe ((((wipe σ ws).set j1 (some x)).set j2 (some y)).set j3 (some z)) ws = wipe σ ws)
    (ht : ∀ q ∈ qs, ∀ H1, Ex H H1 → EvT tt ((((wipe σ ws).set j1 (some (.int q.1))).set j2 (some (.int q.2.1))).set j3 (some (.int q.2.2))) H1 (c q))
    (he : ∀ q ∈ qs, ∀ H1, Ex H H1 → Ev te ((((wipe σ ws).set j1 (some (.int q.1))).set j2 (some (.int q.2.1))).set j3 (some (.int q.2.2))) H1 (f q)) :
    EvL (tLc (iTup K tl) (gTup K 3 (gCons (gName j1) (gCons (gName j2) (gCons (gName j3) gNil)))) tt te ws) σ H ((qs.filter c).map f) := fun H0 e0 Q q => h H0 e0 _ fun l ts H1 e1 hl hf => ⟨l, rfl, ⟨ts, hl⟩, fun D hD => by
  have e01 := e0.trans e1
  refine lc_it walk_tup (fun i H' => H1 D = none ∧ Ex H1 H' ∧ H' D = some (.lst (((qs.take i).filter c).map f))) ⟨hD, Ex.new hD, upd_same⟩ (fun i H' _ p => ex_t p.2.1 hl) ?_ ?_
  · rintro i x H' H2 hi ⟨p1, p2, p3⟩ ⟨rfl, hxi⟩
    obtain ⟨p, hp, t, rfl, hpt⟩ := hf.at hxi
    have m := List.mem_of_getElem? hp
    have st : qs.take (i + 1) = qs.take i ++ [p] := by rw [List.take_add_one, hp]; rfl
    have i12 : i < qs.length := (List.getElem?_eq_some_iff.mp hp).1
    refine ⟨t, _, rfl, ex_t p2 hpt, rfl, _, _, rfl, _, _, rfl, _, _, rfl, rfl, hw _ _ _, ht p m H2 (e01.trans p2) H2 (Ex.refl H2) _ fun H4 e4 => ?_⟩
    cases hc : c p with
    | true =>
      refine iteT (he p m H4 ((e01.trans p2).trans e4) H4 (Ex.refl _) _ fun H5 e5 => ⟨_, e5 _ _ (e4 _ _ p3), sz_lt ?_, p1, Ex.mut (p2.trans (e4.trans e5)) p1, ?_⟩)
      · rw [List.length_map]
        have := List.length_filter_le c (qs.take i)
        rw [List.length_take] at this
        omega
      · rw [upd_same, st, List.filter_append, List.map_append, show [p].filter c = [p] by rw [List.filter_cons, hc]; rfl]
        rfl
    | false =>
      refine iteF ⟨p1, p2.trans e4, ?_⟩
      rw [e4 _ _ p3, st, List.filter_append, show [p].filter c = [] by rw [List.filter_cons, hc]; rfl, List.append_nil]
  · rintro H' ⟨p1, p2, p3⟩
    rw [hf.len, List.take_of_length_le (Nat.le_refl _)] at p3
    exact q D H' (fresh_back e1 p1) (e1.trans p2) p3⟩
end
theorem brs_lvs (ps rs : List (Int × Int)) : ((lvs ps rs).filter fun q => decide (q.2.1 > q.2.2)).map Prod.fst = brs ps rs := by
  unfold lvs brs
  generalize ps.map Prod.fst = ns
  induction ns with
  | nil => rfl
  | cons n r ih =>
    rw [List.map_cons, List.filter_cons, List.filter_cons]
    show List.map Prod.fst (if decide (unt ps n > unt rs n) = true then _ else _) = if decide (unt rs n < unt ps n) = true then _ else _
    by_cases c : unt rs n < unt ps n
    · rw [if_pos (decide_eq_true c), if_pos (decide_eq_true c), List.map_cons, ih]
    · rw [if_neg (by rw [decide_eq_false c]; exact Bool.false_ne_true), if_neg (by rw [decide_eq_false c]; exact Bool.false_ne_true), ih]
theorem LotC.uni {ps : List (Int × Int)} (h : LotC ps) : gap (uni (ps.map Prod.fst)) = none := by
  rw [uni_one h.asc fun k => Iff.rfl]
  exact h.ch
theorem st_retTF {K : PySem.W.Frag} {σ : L2.St} {H : Hp} {tl : TE} {D : Ends} {α : Type} {R : Hp → V → α → Prop} {as : List α} (RE : ∀ H H' x b, Ex H H' → R H x b → R H' x b) (h : ∀ Q : VK, (∀ p vs H2, H p = none → Ex H H2 → H2 p = some (.lst vs) → F2 (R H2) vs as → Q (.ref p) H2) → tl σ H Q)
    (k : ∀ l vs H2, Ex H H2 → SqT K H2 l vs → F2 (R H2) vs as → D.rt (.ref l) H2) : tRet (tCB (rTupS K) (tCons tl tNil)) D σ H := h _ fun p vs H2 np e hp hf => ⟨p, vs, rfl, .inl ⟨SqL.of hp, fun l nl => k l vs _ (e.trans (Ex.new nl)) (SqT.of upd_same) (hf.imp fun x b r => RE _ _ _ _ (Ex.new nl) r)⟩⟩
end Ck

namespace Ck
open PySem PySem.Spec PyProof.Rows L2 StX Evl RZ
section
variable {K : PySem.W.Frag} {σ : L2.St} {H H3 : Hp} {ta tb te tl : TE} {p a b : Addr} {xs ys : List V} {ms ns : List Int} {j1 j2 : Nat} {ws : List Nat}
end
end Ck

namespace Ck
open PySem PySem.Spec PyProof.Rows L2 StX Evl RZ
section
variable {K : PySem.W.Frag} {σ : L2.St} {H H' : Hp} {d : Addr} {te : TE} {j : Nat} {ws : List Nat}
end
section
variable {K : PySem.W.Frag} {CL CS : Addr} {σ : L2.St} {H : Hp} {ta tb tc : TE} {p a b : Addr} {ns : List Int} {ps rs ss : List (Int × Int)}
def Esto (K : PySem.W.Frag) (C : Addr) (te : TE) (σ : L2.St) (H : Hp) (rs : List (Int × Int)) : Prop := ∀ H1, Ex H H1 → ∀ Q : VK, (∀ c H2, Ex H1 H2 → StoAt K C H2 c rs → Q (.ref c) H2) → te σ H1 Q
end
end Ck
namespace Ck
open PySem PySem.Spec PyProof.Rows L2 StX Evl RZ
section
variable {K : PySem.W.Frag} {C : Addr} {σ : L2.St} {H : Hp} {ta tb : TE} {a : Addr} {ms ns : List Int} {rs : List (Int × Int)}
end
theorem cut_lotC {ns : List Int} {ps qs : List (Int × Int)} (ic : IsC ns) (hc : Cts ps) (hm : ∀ x ∈ ps, x.1 ∈ ns) (hp : qs.Perm ps) (ha : Asc qs) : LotC qs ∧ ∀ s ∈ qs.map Prod.fst, s ∈ ns := by
  have sub : ∀ s ∈ qs.map Prod.fst, s ∈ ns := fun s hs => by
    obtain ⟨x, hx, rfl⟩ := List.mem_map.mp hs
    exact hm x (hp.mem_iff.mp hx)
  refine ⟨⟨hc.perm hp, ha, pw_gap ?_⟩, sub⟩
  refine List.Pairwise.imp_of_mem (fun {a b} ha hb (lt : a < b) => ⟨lt, ?_⟩) ha
  obtain ⟨i, hi, ei⟩ := List.mem_iff_getElem.mp (sub a ha)
  obtain ⟨j, hj, ej⟩ := List.mem_iff_getElem.mp (sub b hb)
  have r := List.pairwise_iff_getElem.mp ic.pw
  rcases Nat.lt_trichotomy i j with h | h | h
  · have z := (r i j hi hj h).2
    rw [ei, ej] at z
    exact z
  · subst h
    rw [ei] at ej
    omega
  · have z := (r j i hj hi h).1
    rw [ei, ej] at z
    omega
section
variable {K : PySem.W.Frag} {C : Addr} {σ : L2.St} {H : Hp} {te : TE} {i j l : Nat} {z : TS} {D : Ends}
end
end Ck
namespace Ck
open PySem PySem.Spec PyProof.Rows L2 StX Evl RZ
section
variable {K : PySem.W.Frag} {C : Addr} {σ : L2.St} {H : Hp} {tl te : TE} {D : Addr} {i j : Nat} {ws : List Nat} {l1 l2 l3 : Addr} {r1 r2 r3 : List (Int × Int)}
end
end Ck

namespace Ck
open PySem PySem.Spec PyProof.Rows L2 StX Evl RZ
theorem units_eq {s : Int} (s0 : 0 < s) : ∀ {ps : List (Int × Int)}, (∀ p ∈ ps, 0 < p.1) → (∀ p ∈ ps, s < p.1 → s ∣ p.1) → ((ps.filter fun p => decide (p.1 ≥ s)).map fun p => p.1 * p.2).sum = s * unt ps s
  | [], _, _ => by
    show (0 : Int) = s * 0
    rw [Int.mul_zero]
  | p :: r, h, d => by
    have ih := units_eq s0 (ps := r) (fun q hq => h q (List.mem_cons_of_mem _ hq)) (fun q hq => d q (List.mem_cons_of_mem _ hq))
    have p0 := h p List.mem_cons_self
    rw [List.filter_cons, unt_cons, Int.mul_add]
    by_cases c : s ≤ p.1
    · rw [if_pos (decide_eq_true c), sum_cons2, ih]
      have dv : s ∣ p.1 := by
        rcases Int.lt_or_eq_of_le c with h1 | h1
        · exact d p List.mem_cons_self h1
        · rw [← h1]; exact Int.dvd_refl s
      have e : p.1 = s * (p.1 / s) := (Int.mul_ediv_cancel' dv).symm
      generalize p.1 / s = k at e ⊢
      rw [e, Int.mul_assoc, Int.mul_comm k]
    · rw [if_neg (by rw [decide_eq_false c]; exact Bool.false_ne_true), ih, Int.ediv_eq_zero_of_lt (Int.le_of_lt p0) (by omega), Int.mul_zero, Int.mul_zero, Int.zero_add]
theorem unt_perm {a b : List (Int × Int)} (p : a.Perm b) (s : Int) : unt a s = unt b s := sum_of_perm (p.map _)
def spUnL : Sp := fun vs H Q _ => ∃ (g : Addr) (s : Int) (ps : List (Int × Int)), vs = [.ref g, .int s] ∧ H g = some (.dK (ps.map kc)) ∧ Cts ps ∧ 0 < s ∧ s.natAbs < 10 ^ 200 ∧ (∀ p ∈ ps, s < p.1 → s ∣ p.1) ∧ ∀ H', Ex H H' → Q (.int (unt ps s)) H'
theorem unl_v {H : Hp} {g : Addr} {s : Int} {ps : List (Int × Int)} (hg : H g = some (.dK (ps.map kc))) (hc : Cts ps) (s0 : 0 < s) (s1 : s.natAbs < 10 ^ 200) (hd : ∀ p ∈ ps, s < p.1 → s ∣ p.1) : SpV spUnL [.ref g, .int s] H (.int (unt ps s)) := fun H1 e Q q E => ⟨g, s, ps, rfl, e _ _ hg, hc, s0, s1, hd, q⟩
section
variable {K : PySem.W.Frag} {σ : L2.St} {H : Hp} {tl te ta tb tc : TE} {tt : TT} {ns : List Int} {qs : List (Int × Int × Int)} {j j1 j2 j3 : Nat} {ws : List Nat}
end
section
variable {K : PySem.W.Frag} {CL CS : Addr} {σ : L2.St} {H : Hp} {te ta tb tc : TE} {tr : TA} {a b : Addr} {ps rs : List (Int × Int)}
def Elot (K : PySem.W.Frag) (C : Addr) (te : TE) (σ : L2.St) (H : Hp) (ps : List (Int × Int)) : Prop := ∀ H1, Ex H H1 → ∀ Q : VK, (∀ a H2, Ex H1 H2 → LotAt K C H2 a ps → Q (.ref a) H2) → te σ H1 Q
theorem elot_v (h : Ev te σ H (.ref a)) (hl : LotAt K CL H a ps) : Elot K CL te σ H ps := fun H1 e Q q => h H1 e _ fun H2 e2 => q a H2 e2 (hl.up (e.trans e2))
theorem elot_mk (h : ∀ H1, Ex H H1 → ∀ Q : VK, (∀ p H2, Ex H1 H2 → H2 p = some (.dK (ps.map kc)) → Q (.ref p) H2) → te σ H1 Q) (hc : Cts ps) (ha : Asc ps) : Elot K CL (tMakeR CL (spLotI K CL) E0 (tCons te tNil)) σ H ps := fun H1 e Q q =>
  lot_make (K := K) (ps := ps) (fun Q2 q2 => h H1 e Q2 q2) hc Q fun x qs H2 e2 hp hq hl => q x H2 e2 (by rw [← asc_unique hq ha hp]; exact hl)
theorem elot_0 : Elot K CL (tLot0 K CL) σ H [] := fun H1 e Q q => lot_make0 (K := K) (C := CL) Q q
theorem esto_v (h : Ev te σ H (.ref a)) (hl : StoAt K CS H a rs) : Esto K CS te σ H rs := fun H1 e Q q => h H1 e _ fun H2 e2 => q a H2 e2 (hl.up (e.trans e2))
theorem fits_e (ha : Elot K CL ta σ H ps) (hb : Esto K CS tb σ H rs) (hc : LotC ps) (ho : StoOk rs) : Ev (tCall (spFits K CL CS) [] E0 (tCons ta (tCons tb tNil))) σ H (.bl (fitB ps rs)) := fun H1 e Q q => ha H1 e _ fun a H2 e2 hl => hb H2 (e.trans e2) _ fun b H3 e3 hs =>
  ⟨a, b, ps, rs, rfl, hl.up e3, hc, hs, ho, fun H4 e4 => q H4 ((e2.trans e3).trans e4)⟩
end
end Ck

namespace Ck
open PySem PySem.Spec PyProof.Rows L2 StX Evl RZ
section
variable {X : Cx} {n k j : Nat} {f C : Addr} {fd : FuncData} {ps : List Str} {sp : Sp} {op : Operator} {x : Str}
end
def AdjI (ns : List Int) : Prop := ∀ i a b, ns[i]? = some a → ns[i + 1]? = some b → a ≠ b
theorem jn1_adj {acc : List (Int × Int)} (r : Int × Int) (h : AdjI (acc.map Prod.fst)) : AdjI ((jn1 acc r).map Prod.fst) := by
  unfold jn1
  split
  · next l e =>
    obtain ⟨ys, rfl⟩ := List.getLast?_eq_some_iff.mp e
    split
    · next el =>
      rw [List.dropLast_concat, List.map_append]
      rw [List.map_append] at h
      show AdjI (ys.map Prod.fst ++ [r.1])
      rw [← el]
      exact h
    · next ne =>
      rw [List.map_append]
      intro i a b ha hb
      by_cases c : i + 1 < ((ys ++ [l]).map Prod.fst).length
      · rw [List.getElem?_append_left c] at hb
        rw [List.getElem?_append_left (by omega)] at ha
        exact h i a b ha hb
      · have hi : i + 1 = ((ys ++ [l]).map Prod.fst).length := by
          have := (List.getElem?_eq_some_iff.mp hb).1
          rw [List.length_append, List.length_map (as := [r])] at this
          have : i + 1 < ((ys ++ [l]).map Prod.fst).length + 1 := this
          omega
        rw [List.getElem?_append_right (by omega), hi, Nat.sub_self] at hb
        rw [List.getElem?_append_left (by omega), List.map_append] at ha
        have hy : i = (ys.map Prod.fst).length := by
          rw [List.map_append, List.length_append] at hi
          have : i + 1 = (ys.map Prod.fst).length + 1 := hi
          omega
        rw [List.getElem?_append_right (by omega), hy, Nat.sub_self] at ha
        have e1 : l.1 = a := Option.some.inj ha
        have e2 : r.1 = b := Option.some.inj hb
        rw [← e1, ← e2]
        exact ne
  · next e =>
    rw [List.getLast?_eq_none_iff.mp e]
    intro i a b ha hb
    have := (List.getElem?_eq_some_iff.mp hb).1
    have : i + 1 < 1 := this
    omega
theorem jr_adj (rs : List (Int × Int)) : AdjI ((jr rs).map Prod.fst) := by
  have : ∀ (rs acc : List (Int × Int)), AdjI (acc.map Prod.fst) → AdjI ((rs.foldl jn1 acc).map Prod.fst) := fun rs => by
    induction rs with
    | nil => exact fun acc h => h
    | cons r t ih => exact fun acc h => ih (jn1 acc r) (jn1_adj r h)
  exact this rs [] fun i a b ha _ => by cases ha
theorem jr_jr (rs : List (Int × Int)) : jr (jr rs) = jr rs := jr_self fun i a b ha hb => jr_adj rs i a.1 b.1 (by rw [List.getElem?_map, ha]; rfl) (by rw [List.getElem?_map, hb]; rfl)
theorem unt_app (a b : List (Int × Int)) (s : Int) : unt (a ++ b) s = unt a s + unt b s := by
  unfold unt
  rw [List.map_append, List.sum_append]
section
variable {K : PySem.W.Frag} {C l : Addr} {σ : L2.St} {H : Hp} {te ta tb : TE} {vs : List V} {rs ss : List (Int × Int)} {Q : VK}
end
end Ck

namespace Ck
open PySem PySem.Spec PyProof.Rows L2 StX Evl RZ
def spBars (K : PySem.W.Frag) : Sp := fun vs0 H Q _ => ∃ (g l : Addr) (ps qs rs : List (Int × Int)) (vs : List V), vs0 = [.ref g, .ref l] ∧ H g = some (.dK (ps.map kc)) ∧ Cts ps ∧ qs.Perm ps ∧ LotC qs ∧ SqL K H l vs ∧ F2 (RP K H) vs rs ∧ rs.length ≤ 1000 ∧ (∀ r ∈ rs, 0 ≤ r.1 ∧ r.1.natAbs < 10 ^ 200 ∧ r.2.natAbs < 10 ^ 200) ∧ ∀ t H', Ex H H' → H' t = some (.lst ((brs qs rs).map V.int)) → Q (.ref t) H'
theorem brs_nil {ps rs : List (Int × Int)} : brs ps rs = [] ↔ ∀ s ∈ ps.map Prod.fst, unt ps s ≤ unt rs s := by
  unfold brs
  rw [List.filter_eq_nil_iff]
  constructor
  · intro h s hs
    have := h s hs
    rw [decide_eq_true_eq] at this
    omega
  · intro h s hs
    have := h s hs
    rw [decide_eq_true_eq]
    omega
theorem fit_true {ps rs : List (Int × Int)} (h : ∀ s ∈ ps.map Prod.fst, unt ps s ≤ unt rs s) : fitB ps rs = true := List.all_eq_true.mpr fun s hs => decide_eq_true (h s hs)
theorem LotAt.kd {K : PySem.W.Frag} {C a d : Addr} {H H' : Hp} {ps : List (Int × Int)} (hd : Dice H d) (k : Kd d H H') (h : LotAt K C H a ps) : LotAt K C H' a ps := by
  obtain ⟨dx, t1, t2, g, ts, h1, h2, h3, h4, h5⟩ := h.ex
  obtain ⟨x, y, z, e⟩ := hd
  exact ⟨dx, t1, t2, g, ts, k.1 _ _ (fun z => by rw [z, e] at h1; cases h1) h1, sqT_kp ⟨x, y, z, e⟩ k.1 h2, sqT_kp ⟨x, y, z, e⟩ k.1 h3, h4.imp fun x b r => r.kd ⟨_, _, _, e⟩ k, h5.imp (fun h => k.1 _ _ (fun z => by rw [z, e] at h; cases h) h) (fun ⟨o, h⟩ => ⟨o, k.1 _ _ (fun z => by rw [z, e] at h; cases h) h⟩)⟩
theorem jr_bnd {rs : List (Int × Int)} (h : ∀ r ∈ rs, sizB r.1 = true ∧ 0 < r.2) : ∀ r ∈ jr rs, (sizB r.1 = true ∧ 0 < r.2) ∧ r.2 ≤ (rs.map fun r => r.2).sum := fun r hr => by
  have pos : ∀ r ∈ jr rs, sizB r.1 = true ∧ 0 < r.2 := jr_all (P := fun r => sizB r.1 = true ∧ 0 < r.2) (fun a b c h1 h2 => ⟨h1.1, by have := h1.2; have := h2.2; show 0 < b + c; omega⟩) h
  have e := jr_sum (g := fun r => r.2) (fun a b c => rfl) rs
  have := (snd_each fun r hr => (pos r hr).2).2 r hr
  rw [e] at this
  exact ⟨pos r hr, this⟩
section
variable {K : PySem.W.Frag} {σ : L2.St} {H : Hp} {tl te : TE} {tt : TT} {ns : List Int} {xs : List V} {a : Addr} {j : Nat} {ws : List Nat}
def Elv (K : PySem.W.Frag) (te : TE) (σ : L2.St) (H : Hp) (xs : List V) : Prop := ∀ H1, Ex H H1 → ∀ Q : VK, (∀ p H2, Ex H1 H2 → SqL K H2 p xs → Q (.ref p) H2) → te σ H1 Q
theorem elv_v (h : Ev tl σ H (.ref a)) (hl : SqL K H a xs) : Elv K tl σ H xs := fun H1 e Q q => h H1 e _ fun H2 e2 => q a H2 e2 (ex_l (e.trans e2) hl)
theorem el_lcVN (c : Int → Bool) (f : Int → V) (h : Elv K tl σ H (ns.map V.int)) (hz : ns.length ≤ 40000) (hw : ∀ x, wipe ((wipe σ ws).set j (some x)) ws = wipe σ ws)
    (ht : ∀ n ∈ ns, ∀ H1, Ex H H1 → EvT tt ((wipe σ ws).set j (some (.int n))) H1 (c n)) (he : ∀ n ∈ ns, c n = true → ∀ H1, Ex H H1 → Ev te ((wipe σ ws).set j (some (.int n))) H1 (f n)) :
    EvL (tLc (iList K tl) (gName j) tt te ws) σ H ((ns.filter c).map f) := fun H0 e0 Q q => h H0 e0 _ fun a H1 e1 hx => ⟨a, rfl, ⟨_, hx⟩, fun D hD => by
  refine lc_it walk_list (fun i H' => H1 D = none ∧ Ex H1 H' ∧ ∃ vs, H' D = some (.lst vs) ∧ vs.length ≤ i ∧ vs = ((ns.take i).filter c).map f) ⟨hD, Ex.new hD, [], upd_same, Nat.le_refl _, rfl⟩ (fun i H' _ p => ex_l p.2.1 hx) ?_ ?_
  · rintro i x H2 H3 hi ⟨p1, p2, vs, p3, p4, p5⟩ ⟨e3, hxi⟩
    rw [e3]
    rw [List.length_map] at hi
    rw [List.getElem?_map, List.getElem?_eq_getElem hi] at hxi
    obtain rfl := Option.some.inj hxi
    have m := List.getElem_mem hi
    have e02 := (e0.trans e1).trans p2
    refine ⟨hw _, ht _ m H2 e02 H2 (Ex.refl H2) _ fun H4 e4 => ?_⟩
    have st : ns.take (i + 1) = ns.take i ++ [ns[i]] := by rw [List.take_add_one, List.getElem?_eq_getElem hi]; rfl
    cases hc : c ns[i] with
    | true =>
      refine iteT (he _ m hc H4 (e02.trans e4) H4 (Ex.refl H4) _ fun H5 e5 => ⟨vs, (e4.trans e5) _ _ p3, sz_lt (by omega), p1, Ex.mut (p2.trans (e4.trans e5)) p1, vs ++ [f ns[i]], upd_same, by rw [List.length_append]; exact Nat.succ_le_succ p4, ?_⟩)
      rw [st, List.filter_append, List.map_append, show [ns[i]].filter c = [ns[i]] by rw [List.filter_cons, hc]; rfl, p5]
      rfl
    | false =>
      refine iteF ⟨p1, p2.trans e4, vs, e4 _ _ p3, Nat.le_succ_of_le p4, ?_⟩
      rw [st, List.filter_append, show [ns[i]].filter c = [] by rw [List.filter_cons, hc]; rfl, List.append_nil]
      exact p5
  · rintro H2 ⟨p1, p2, vs, p3, _, p5⟩
    rw [List.length_map, List.take_of_length_le (Nat.le_refl _)] at p5
    rw [p5] at p3
    exact q D H2 (fresh_back e1 p1) (e1.trans p2) p3⟩
end
section
variable {K : PySem.W.Frag} {CL CS : Addr} {σ : L2.St} {H : Hp} {te ta tb tc : TE} {tr : TA} {tt : TT} {a b g : Addr} {ps qs rs : List (Int × Int)} {room : Int}
end
end Ck

namespace Ck
open PySem PySem.Spec PyProof.Rows L2 StX Evl RZ
end Ck

namespace Ck
open PySem PySem.Spec PyProof.Rows L2 StX Evl RZ
section
variable {K : PySem.W.Frag} {σ : L2.St} {H : Hp} {te ta tb : TE} {xs ys : List V} {ns : List Int}
end
section
variable {K : PySem.W.Frag} {σ : L2.St} {H : Hp} {te : TE} {xs : List V}
end
section
variable {K : PySem.W.Frag} {σ : L2.St} {H : Hp} {ta te : TE} {xs ys : List V} {D : Ends} {z : TS} {l : Addr}
end
section
variable {K : PySem.W.Frag} {σ : L2.St} {H : Hp} {td ty : TE} {xs ys : List V} {D : Ends} {g : Addr} {ks : List (List Int)} {u : List Int}
end
section
variable {K : PySem.W.Frag} {σ : L2.St} {H : Hp} {te : TE} {l : Addr} {vs : List V} {rs : List (Int × Int)}
end
def spMadeG (K : PySem.W.Frag) (C : Addr) : Sp := fun vs H Q _ => ∃ (l : Addr) (vs' : List V) (rs : List (Int × Int)), vs = [.ref l] ∧ SqL K H l vs' ∧ F2 (RP K H) vs' rs ∧ rs.length ≤ 8 ∧ Rns rs ∧ ∀ a H', Ex H H' → StoAt K C H' a (jr rs) → Q (.ref a) H'
section
variable {K : PySem.W.Frag} {CL CS : Addr} {σ : L2.St} {H : Hp} {te ta tb : TE} {a g l d : Addr} {ps qs rs : List (Int × Int)} {vs : List V} {i : Nat} {Q : VK}
theorem esto_made (h : Ev te σ H (.ref l)) (hl : SqL K H l vs) (hf : F2 (RP K H) vs rs) (hn : rs.length ≤ 8) (hr : Rns rs) : Esto K CS (tCall (spMadeG K CS) [] E0 (tCons te tNil)) σ H (jr rs) := fun H1 e Q q => h H1 e _ fun H2 e2 =>
  ⟨l, vs, rs, rfl, ex_l (e.trans e2) hl, hf.imp fun x b r => r.ex (e.trans e2), hn, hr, fun b H3 e3 hs => q b H3 (e2.trans e3) hs⟩
theorem fit_jr (ps rs : List (Int × Int)) : fitB ps (jr rs) = fitB ps rs := by
  unfold fitB
  exact all_same fun s _ => by rw [unt_jr]
end
end Ck

namespace Ck
open PySem PySem.Spec PyProof.Rows L2 StX Evl RZ
theorem unt_up {ps : List (Int × Int)} {s u : Int} (s0 : 0 < s) (u0 : 0 < u) (su : s ∣ u) (hp : ∀ p ∈ ps, 0 < p.1 ∧ (s ≤ p.1 → u ∣ p.1)) : unt ps s = unt ps u * (u / s) := by
  induction ps with
  | nil => show (0 : Int) = 0 * _; rw [Int.zero_mul]
  | cons p r ih =>
    rw [unt_cons, unt_cons, Int.add_mul, ih fun q hq => hp q (List.mem_cons_of_mem p hq)]
    obtain ⟨p0, h⟩ := hp p List.mem_cons_self
    congr 1
    obtain ⟨k, rfl⟩ := su
    rw [Int.mul_ediv_cancel_left k (by omega)]
    by_cases c : s ≤ p.1
    · obtain ⟨m, e⟩ := h c
      rw [e, Int.mul_ediv_cancel_left m (by omega), Int.mul_assoc s k m, Int.mul_ediv_cancel_left _ (by omega), Int.mul_comm k m, Int.mul_assoc]
    · have k0 : 0 < k := by
        rcases Int.lt_or_le 0 k with h | h
        · exact h
        · have : s * k ≤ s * 0 := Int.mul_le_mul_of_nonneg_left h (by omega)
          rw [Int.mul_zero] at this
          omega
      have le : s * 1 ≤ s * k := Int.mul_le_mul_of_nonneg_left (by omega) (by omega)
      rw [Int.mul_one] at le
      rw [Int.ediv_eq_zero_of_lt (by omega) (by omega), Int.ediv_eq_zero_of_lt (by omega) (by omega), Int.mul_zero, Int.zero_mul]
theorem key_full {ns : List Int} (hn : Pws ns) {ps rs : List (Int × Int)} (hp : ∀ p ∈ ps, p.1 ∈ ns) (hr : ∀ r ∈ rs, 0 ≤ r.1 ∧ 0 ≤ r.2) : (∀ s ∈ ps.map Prod.fst, unt ps s ≤ unt rs s) ↔ ∀ s ∈ ns, unt ps s ≤ unt rs s := by
  refine ⟨fun h s hs => ?_, fun h s hs => ?_⟩
  · have s0 := hn.pos s hs
    by_cases e : ∃ p ∈ ps, s ≤ p.1
    · obtain ⟨u, hu, su, least⟩ : ∃ u ∈ ps.map Prod.fst, s ≤ u ∧ ∀ p ∈ ps, s ≤ p.1 → u ≤ p.1 := by
        have : ∀ l : List (Int × Int), (∃ p ∈ l, s ≤ p.1) → ∃ u ∈ l.map Prod.fst, s ≤ u ∧ ∀ p ∈ l, s ≤ p.1 → u ≤ p.1 := fun l => by
          induction l with
          | nil => rintro ⟨p, hp, _⟩; cases hp
          | cons q r ih =>
            rintro ⟨p, hp, le⟩
            by_cases c : ∃ p ∈ r, s ≤ p.1
            · obtain ⟨u, h1, h2, h3⟩ := ih c
              by_cases d : s ≤ q.1 ∧ q.1 < u
              · refine ⟨q.1, List.mem_cons_self, d.1, fun x hx le => ?_⟩
                rcases List.mem_cons.mp hx with rfl | hx
                · exact Int.le_refl _
                · have := h3 x hx le
                  omega
              · refine ⟨u, List.mem_cons_of_mem _ h1, h2, fun x hx le => ?_⟩
                rcases List.mem_cons.mp hx with rfl | hx
                · omega
                · exact h3 x hx le
            · rcases List.mem_cons.mp hp with rfl | hp
              · refine ⟨p.1, List.mem_cons_self, le, fun x hx le => ?_⟩
                rcases List.mem_cons.mp hx with rfl | hx
                · exact Int.le_refl _
                · exact absurd ⟨x, hx, le⟩ c
              · exact absurd ⟨p, hp, le⟩ c
        exact this ps e
      obtain ⟨q, hq, rfl⟩ := List.mem_map.mp hu
      have um := hp q hq
      have u0 := hn.pos _ um
      have dv : ∀ a ∈ ns, ∀ b ∈ ns, a ≤ b → a ∣ b := fun a ha b hb le => by
        obtain ⟨i, hi, ei⟩ := List.mem_iff_getElem.mp ha
        obtain ⟨j, hj, ej⟩ := List.mem_iff_getElem.mp hb
        have r := List.pairwise_iff_getElem.mp hn.pw
        rcases Nat.lt_trichotomy i j with h1 | h1 | h1
        · have z := (r i j hi hj h1).2
          rw [ei, ej] at z
          exact z
        · subst h1
          rw [ei] at ej
          rw [ej]
          exact Int.dvd_refl _
        · have z := (r j i hj hi h1).1
          rw [ei, ej] at z
          omega
      rw [unt_up s0 u0 (dv s hs _ um su) fun p hpp => ⟨hn.pos _ (hp p hpp), fun le => dv _ um _ (hp p hpp) (least p hpp le)⟩]
      exact Int.le_trans (Int.mul_le_mul_of_nonneg_right (h _ hu) (Int.ediv_nonneg (by omega) (by omega))) (unt_step s0 u0 (dv s hs _ um su) hr)
    · have z : unt ps s = 0 := by
        have : ∀ l : List (Int × Int), (∀ p ∈ l, 0 ≤ p.1 ∧ p.1 < s) → unt l s = 0 := fun l => by
          induction l with
          | nil => exact fun _ => rfl
          | cons p r ih =>
            intro h
            obtain ⟨a, b⟩ := h p List.mem_cons_self
            rw [unt_cons, ih fun q hq => h q (List.mem_cons_of_mem p hq), Int.ediv_eq_zero_of_lt a b, Int.mul_zero]
            rfl
        refine this ps fun p hpp => ⟨Int.le_of_lt (hn.pos _ (hp p hpp)), ?_⟩
        rcases Int.lt_or_le p.1 s with h | h
        · exact h
        · exact absurd ⟨p, hpp, h⟩ e
      rw [z]
      exact unt_nn s0 hr
  · obtain ⟨p, hpp, rfl⟩ := List.mem_map.mp hs
    exact h _ (hp p hpp)
def sprL (ps rs : List (Int × Int)) (z : Int) : List Int := (((ps.map Prod.fst ++ [z]).filter fun e => decide (e ≤ z)).map fun e => (unt rs e - unt ps e) / (z / e))
def spSpare (K : PySem.W.Frag) (CL CS : Addr) : Sp := fun vs H Q _ => ∃ (a b : Addr) (z : Int) (ps rs : List (Int × Int)), vs = [.ref a, .ref b, .int z] ∧ LotAt K CL H a ps ∧ LotC ps ∧ StoAt K CS H b rs ∧ StoOk rs ∧ sizB z = true ∧ (∀ p ∈ ps, z < p.1 → z ∣ p.1) ∧ gap (uni (ps.map Prod.fst ++ [z])) = none ∧
  (fitB ps rs = false → ∀ H', Ex H H' → Q .non H') ∧ (fitB ps rs = true → ∀ t H', t ∈ sprL ps rs z → (∀ x ∈ sprL ps rs z, t ≤ x) → Ex H H' → Q (.int t) H')
def Spr (ns : List Int) (ps rs : List (Int × Int)) (z t : Int) : Prop := ∀ s ∈ ns, unt ps s + t * (z / s) ≤ unt rs s
theorem spr_iff {ns : List Int} (hn : Pws ns) {ps rs : List (Int × Int)} {z told : Int} (hz : z ∈ ns) (hp : ∀ p ∈ ps, p.1 ∈ ns) (hr : ∀ r ∈ rs, 0 ≤ r.1 ∧ 0 ≤ r.2) (hf : fitB ps rs = true) (m : told ∈ sprL ps rs z) (l : ∀ x ∈ sprL ps rs z, told ≤ x) : 0 ≤ told ∧ ∀ t, 0 ≤ t → (Spr ns ps rs z t ↔ t ≤ told) := by
  have z0 := hn.pos z hz
  have keys : ∀ t, 0 ≤ t → (Spr ns ps rs z t ↔ ∀ e ∈ ps.map Prod.fst ++ [z], unt ps e + t * (z / e) ≤ unt rs e) := fun t ht => by
    have e1 : ∀ s, unt ((z, t) :: ps) s = unt ps s + t * (z / s) := fun s => by rw [unt_cons]; show t * (z / s) + _ = _; omega
    have k := key_full hn (ps := (z, t) :: ps) (rs := rs) (fun p h => by
      rcases List.mem_cons.mp h with rfl | h
      · exact hz
      · exact hp p h) hr
    unfold Spr
    constructor
    · intro h e he
      rcases List.mem_append.mp he with he | he
      · obtain ⟨p, hpp, rfl⟩ := List.mem_map.mp he
        exact h _ (hp p hpp)
      · rw [List.mem_singleton.mp he]
        exact h z hz
    · intro h s hs
      rw [← e1]
      refine k.mp (fun e he => ?_) s hs
      rw [e1]
      rcases List.mem_cons.mp he with rfl | he
      · exact h _ (List.mem_append_right _ (List.mem_singleton.mpr rfl))
      · exact h _ (List.mem_append_left _ he)
  have fit0 : ∀ e ∈ ps.map Prod.fst ++ [z], unt ps e ≤ unt rs e := fun e he => by
    have f : ∀ s ∈ ps.map Prod.fst, unt ps s ≤ unt rs s := fun s hs => of_decide_eq_true (List.all_eq_true.mp hf s hs)
    have full := (key_full hn hp hr).mp f
    rcases List.mem_append.mp he with he | he
    · exact f e he
    · rw [List.mem_singleton.mp he]
      exact full z hz
  have pos : ∀ e ∈ ps.map Prod.fst ++ [z], 0 < e := fun e he => by
    rcases List.mem_append.mp he with he | he
    · obtain ⟨p, hpp, rfl⟩ := List.mem_map.mp he
      exact hn.pos _ (hp p hpp)
    · rw [List.mem_singleton.mp he]
      exact z0
  have one : ∀ e ∈ ps.map Prod.fst ++ [z], e ≤ z → ∀ t : Int, unt ps e + t * (z / e) ≤ unt rs e ↔ t ≤ (unt rs e - unt ps e) / (z / e) := fun e he le t => by
    have k0 : 0 < z / e := Int.lt_of_lt_of_le (show (0 : Int) < 1 by decide) ((Int.le_ediv_iff_mul_le (pos e he)).mpr (by rw [Int.one_mul]; exact le))
    rw [Int.le_ediv_iff_mul_le k0]
    constructor <;> intro h <;> omega
  have iff : ∀ t, 0 ≤ t → (Spr ns ps rs z t ↔ t ≤ told) := fun t ht => by
    rw [keys t ht]
    constructor
    · intro h
      obtain ⟨e, he, rfl⟩ := List.mem_map.mp m
      obtain ⟨m1, c⟩ := List.mem_filter.mp he
      exact (one e m1 (of_decide_eq_true c) t).mp (h e m1)
    · intro h e he
      by_cases c : e ≤ z
      · refine (one e he c t).mpr (Int.le_trans h (l _ ?_))
        exact List.mem_map_of_mem (List.mem_filter.mpr ⟨he, decide_eq_true c⟩)
      · rw [Int.ediv_eq_zero_of_lt (Int.le_of_lt z0) (by omega), Int.mul_zero, Int.add_zero]
        exact fit0 e he
  refine ⟨?_, iff⟩
  refine (iff 0 (Int.le_refl 0)).mp ((keys 0 (Int.le_refl 0)).mpr fun e he => ?_)
  rw [Int.zero_mul, Int.add_zero]
  exact fit0 e he
theorem gap_uni {ns l : List Int} (hn : Pws ns) (h : ∀ x ∈ l, x ∈ ns) : gap (uni l) = none := by
  refine pw_gap (List.Pairwise.imp_of_mem (fun {a b} ha hb (lt : a < b) => ⟨lt, ?_⟩) uni_pw)
  have ma := h a (uni_mem.mp ha)
  have mb := h b (uni_mem.mp hb)
  obtain ⟨i, hi, ei⟩ := List.mem_iff_getElem.mp ma
  obtain ⟨j, hj, ej⟩ := List.mem_iff_getElem.mp mb
  have r := List.pairwise_iff_getElem.mp hn.pw
  rcases Nat.lt_trichotomy i j with h | h | h
  · have z := (r i j hi hj h).2
    rw [ei, ej] at z
    exact Int.emod_eq_zero_of_dvd z
  · subst h
    rw [ei] at ej
    omega
  · have z := (r j i hj hi h).1
    rw [ei, ej] at z
    omega
theorem pws_dvd {ns : List Int} (hn : Pws ns) {a b : Int} (ha : a ∈ ns) (hb : b ∈ ns) (lt : a < b) : a ∣ b := by
  obtain ⟨i, hi, ei⟩ := List.mem_iff_getElem.mp ha
  obtain ⟨j, hj, ej⟩ := List.mem_iff_getElem.mp hb
  have r := List.pairwise_iff_getElem.mp hn.pw
  rcases Nat.lt_trichotomy i j with h | h | h
  · have z := (r i j hi hj h).2
    rw [ei, ej] at z
    exact z
  · subst h
    rw [ei] at ej
    omega
  · have z := (r j i hj hi h).1
    rw [ei, ej] at z
    omega
section
variable {K : PySem.W.Frag} {CL CS : Addr} {σ : L2.St} {H : Hp} {te ta tb tc : TE} {a b g : Addr} {ps qs rs : List (Int × Int)} {z : Int} {Q : VK}
theorem spare_c (ha : Elot K CL ta σ H ps) (hb : Esto K CS tb σ H rs) (hc : LotC ps) (ho : StoOk rs) (h3 : Ev tc σ H (.int z)) (hz : sizB z = true) (hd : ∀ p ∈ ps, z < p.1 → z ∣ p.1) (hg : gap (uni (ps.map Prod.fst ++ [z])) = none)
    (q1 : fitB ps rs = false → ∀ H', Ex H H' → Q .non H') (q2 : fitB ps rs = true → ∀ t H', t ∈ sprL ps rs z → (∀ x ∈ sprL ps rs z, t ≤ x) → Ex H H' → Q (.int t) H') : tCall (spSpare K CL CS) [] E0 (tCons ta (tCons tb (tCons tc tNil))) σ H Q := ha H (Ex.refl H) _ fun a H2 e2 hl => hb H2 e2 _ fun b H3 e3 hs => h3 H3 (e2.trans e3) _ fun H4 e4 =>
  have e0 := (e2.trans e3).trans e4
  ⟨a, b, z, ps, rs, rfl, hl.up (e3.trans e4), hc, hs.up e4, ho, hz, hd, hg, fun f H' e => q1 f H' (e0.trans e), fun f t H' m l e => q2 f t H' m l (e0.trans e)⟩
theorem min_ret {tl : TE} {ns : List Int} {D : Ends} (h : EvL tl σ H (ns.map V.int)) (h0 : 0 < ns.length) (k : ∀ m H1, Ex H H1 → m ∈ ns → (∀ y, y ∈ ns → m ≤ y) → D.rt (.int m) H1) : tRet (tCB (rMin K) (tCons tl tNil)) D σ H := h H (Ex.refl H) _ fun p H1 _ e1 hp => ⟨p, ns, rfl, SqL.of hp, h0, fun m hm hl => k m H1 e1 hm hl⟩
end
section
variable {K : PySem.W.Frag} {CL CS : Addr} {σ : L2.St} {H : Hp} {te ta tb tc : TE} {a b g : Addr} {ps qs rs : List (Int × Int)} {z : Int}
end
section
variable {K : PySem.W.Frag} {CL CS : Addr} {σ : L2.St} {H : Hp} {te tl ta tb tc : TE} {ps rs : List (Int × Int)} {z : Int} {ns : List Int} {j : Nat} {ws : List Nat}
end
end Ck

namespace Ck
open PySem PySem.Spec PyProof.Rows L2 StX Evl RZ
section
variable {X : Cx} {K : PySem.W.Frag} {e : Expr} {f : Str} {ta : TE} {pos : Pos}
end
theorem sum_if {f : Int → Int} {k v : Int} : ∀ {D : List Int}, D.Nodup → k ∈ D → (D.map fun n => if k = n then v else f n).sum = (D.map f).sum + (v - f k)
  | n :: D, nd, m => by
    obtain ⟨n1, n2⟩ := List.nodup_cons.mp nd
    rw [List.map_cons, List.sum_cons, List.map_cons, List.sum_cons]
    by_cases c : k = n
    · subst c
      rw [if_pos rfl]
      have e : (D.map fun n => if k = n then v else f n) = D.map f := List.map_congr_left fun x hx => if_neg fun e => n1 (by rw [e]; exact hx)
      rw [e]
      omega
    · rw [if_neg c, sum_if n2 ((List.mem_cons.mp m).resolve_left c)]
      omega
theorem sum_zero {f : Int → Int} : ∀ {D : List Int}, (∀ n ∈ D, f n = 0) → (D.map f).sum = 0
  | [], _ => rfl
  | n :: D, h => by
    rw [List.map_cons, List.sum_cons, h n List.mem_cons_self, sum_zero fun x hx => h x (List.mem_cons_of_mem n hx)]
    rfl
theorem unt_cnt {D : List Int} (hD : D.Nodup) (s : Int) : ∀ {ps : List (Int × Int)}, (ps.map Prod.fst).Nodup → (∀ p ∈ ps, p.1 ∈ D) → unt ps s = (D.map fun n => (cnt ps n).getD 0 * (n / s)).sum
  | [], _, _ => (sum_zero fun n _ => Int.zero_mul _).symm
  | p :: r, nd, h => by
    obtain ⟨n1, n2⟩ := List.nodup_cons.mp nd
    have ih := unt_cnt hD s n2 fun q hq => h q (List.mem_cons_of_mem p hq)
    have cz : cnt r p.1 = none := Ck.cnt_none.mpr n1
    have e : (fun n => (cnt (p :: r) n).getD 0 * (n / s)) = fun n => if p.1 = n then p.2 * (p.1 / s) else (cnt r n).getD 0 * (n / s) := by
      funext n
      show (if p.1 = n then some p.2 else cnt r n).getD 0 * (n / s) = _
      by_cases c : p.1 = n
      · rw [if_pos c, if_pos c, c]
        rfl
      · rw [if_neg c, if_neg c]
    rw [unt_cons, e, sum_if hD (h p List.mem_cons_self), ← ih, cz]
    show _ = _ + (_ - 0 * _)
    rw [Int.zero_mul]
    omega
theorem rd_up {H H' : Hp} {g : Addr} {u : HO} (e : Ex H H') (h : Rd H g u) : Rd H' g u := h.elim (fun k => .inl (e _ _ k)) fun ⟨od, k⟩ => .inr ⟨od, e _ _ k⟩
section
variable {K : PySem.W.Frag} {CL CS : Addr} {σ : L2.St} {H : Hp} {te ta tb : TE} {ps qs ts : List (Int × Int)} {a g : Addr} {Q : VK}
end
section
variable {K : PySem.W.Frag} {σ : L2.St} {H : Hp} {tl te : TE} {tt : TT} {a : Addr} {xs : List V} {j : Nat} {ws : List Nat} {α β : Type} {R : Hp → V → α → Prop} {R' : Hp → V → β → Prop} {as : List α} {c : α → Bool} {e : α → β}
end
section
variable {K : PySem.W.Frag} {CL CS : Addr} {σ : L2.St} {H : Hp} {te ta tb : TE} {ps qs rs : List (Int × Int)} {g g' : Addr} {ns : List Int}
end
end Ck

namespace CZM
open PySem
open PySem.Sem (wp)
open RZ
section
variable {prog : Program} {w : World} {A : Around} {E : Value → Shared → Prop} {s : Shared} {z TI TO T i1 i2 l1 l2 : Addr} {f : Bool} {oT : Obj} {k1 k2 : Nat} {xs ys : Array Value} {x y : Value}
end
section
variable {prog : Program} {w : World} {A : Around} {s : Shared} {R : Result → Shared → Prop} {z TI TO i1 i2 l1 l2 S : Addr} {xs ys : Array Value} {n N : Nat}
end
section
variable {prog : Program} {w : World} {A : Around} {E : Value → Shared → Prop} {s : Shared} {z TI TO i1 i2 l1 l2 : Addr} {xs ys : Array Value} {n : Nat}
end
end CZM
namespace Ck
open PySem PySem.Spec PyProof.Rows L2 StX RZ
end Ck

namespace Ck
open PySem PySem.Spec PyProof.Rows L2 StX Evl RZ
def spNoa (K : PySem.W.Frag) : Sp := fun vs H Q _ => ∃ (t : Addr) (xs : List V) (rs : List (Int × Int)), vs = [.ref t] ∧ SqT K H t xs ∧ F2 (RP K H) xs rs ∧ rs.length ≤ 2000 ∧ ∀ H', Ex H H' → Q (.int (rs.map fun r => r.2).sum) H'
def spLNum (K : PySem.W.Frag) (C : Addr) : Sp := fun vs H Q _ => ∃ a ps, vs = [.ref a] ∧ LotAt K C H a ps ∧ ps.length ≤ 2000 ∧ ∀ H', Ex H H' → Q (.int (ps.map fun r => r.2).sum) H'
section
variable {K : PySem.W.Frag} {CL CS : Addr} {σ : L2.St} {H : Hp} {te ta tb tl : TE} {α : Type} {R : Hp → V → α → Prop} {as : List α} {D : Ends} {z : TS}
theorem ev_lnum {a : Addr} {ps : List (Int × Int)} (h : Ev te σ H (.ref a)) (hl : LotAt K CL H a ps) (hz : ps.length ≤ 2000) : Ev (tProp CL (spLNum K CL) [] E0 te) σ H (.int (ps.map fun r => r.2).sum) := fun H1 e Q q => h H1 e _ fun H2 e2 => by
  obtain ⟨dx, t1, t2, d, ts, h1, _⟩ := (hl.up (e.trans e2)).ex
  exact ⟨a, dx, _, rfl, h1, a, ps, rfl, hl.up (e.trans e2), hz, fun H' e3 => q H' (e2.trans e3)⟩
end
section
variable {K : PySem.W.Frag} {CL CS : Addr} {σ : L2.St} {H : Hp} {te ta tb tc tl : TE} {tt : TT} {ns : List Int} {rs ss : List (Int × Int)} {p a b l : Addr} {j : Nat} {ws : List Nat} {i s m : Int}
theorem ev_ninTI (ha : Ev ta σ H (.int i)) (hb : Ev tb σ H (.ref p)) (ht : SqT K H p (ns.map V.int)) : Ev (tOp (rIn K true) ta tb) σ H (.bl (!decide (i ∈ ns))) := fun H1 e Q q => ha H1 e _ fun H2 e2 => hb H2 (e.trans e2) _ fun H3 e3 => ⟨p, ns.map V.int, rfl, .inr (ex_t ((e.trans e2).trans e3) ht), rfl, by
  rw [List.all_map]
  exact List.all_eq_true.mpr fun _ _ => rfl, by
  have z := q H3 (e2.trans e3)
  have e : inV (.int i) (ns.map V.int) = decide (i ∈ ns) := by
    unfold inV
    rw [List.any_map]
    refine bool_iff ?_
    rw [List.any_eq_true, decide_eq_true_eq]
    constructor
    · rintro ⟨x, hx, e⟩
      have e : (x == i) = true := e
      rw [← beq_iff_eq.mp e]
      exact hx
    · exact fun h => ⟨i, h, show (i == i) = true from beq_self_eq_true i⟩
  show Q (.bl (if true = true then !inV (.int i) (ns.map V.int) else _)) H3
  rw [if_pos rfl, e]
  exact z⟩
end
section
variable {K : PySem.W.Frag} {CL CS : Addr} {σ : L2.St} {H : Hp} {ta tb tc : TE} {ns : List Int} {rs ss : List (Int × Int)} {s0 : Int}
end
end Ck

namespace SrtO
open PySem PySem.Spec PyProof.Rows
section
variable {prog : Program} {w : World} {A : Around} {E : Value → Shared → Prop} {s : Shared}
end
end SrtO
namespace Ck
open PySem PySem.Spec PyProof.Rows L2 StX RZ
section
variable {X : Cx}
end
end Ck

namespace Ck
open PySem PySem.Spec PyProof.Rows L2 StX Evl RZ
section
variable {K : PySem.W.Frag} {CL CS : Addr} {σ : L2.St} {H : Hp} {tl te ta tb tc : TE} {tt : TT} {a p : Addr} {ts : List V} {ps rs ss : List (Int × Int)} {j j2 : Nat} {ws : List Nat} {ns us : List Int}
end
theorem sto_of {ss : List (Int × Int)} (h : ∀ r ∈ ss, sizB r.1 = true ∧ 0 < r.2) (hs : (ss.map fun r => r.2).sum < 10 ^ 199) (hl : ss.length ≤ 40) : Rns ss ∧ StoOk (jr ss) := by
  have big : (10 : Int) ^ 199 < 10 ^ 200 := by decide +kernel
  have e := (snd_each fun r hr => (h r hr).2).2
  refine ⟨⟨fun r hr => ⟨(h r hr).1, siz_of (h r hr).2 (by have := e r hr; have := (h r hr).2; omega)⟩, by omega, Nat.le_trans (jr_len ss) hl⟩, ⟨fun r hr => ?_, Nat.le_trans (jr_len ss) hl⟩⟩
  obtain ⟨⟨x1, x2⟩, x3⟩ := jr_bnd h r hr
  exact ⟨x1, x2, by omega⟩
end Ck

namespace Ck
open PySem PySem.Spec PyProof.Rows L2 StX RZ
section
variable {K : PySem.W.Frag} {CL CS : Addr} {σ : L2.St} {H : Hp} {te ta tb : TE} {ps qs rs : List (Int × Int)} {ns : List Int}
end
section
variable {X : Cx} {k j : Nat} {C : Addr} {m : Str} {sp : Sp} {ps : List Str} {o : Expr} {ta : TE} {apos pos : Pos} {pl : Sem Bool}
end
section
variable {K : PySem.W.Frag} {σ : L2.St} {H : Hp} {td : TE} {g : Addr} {ps : List (Int × Int)} {j : Nat} {ws : List Nat}
end
end Ck

namespace Ck
open PySem PySem.Spec PyProof.Rows L2 StX RZ
theorem kv_vals {kvs : List (Key × V)} {vs : List (Key × Value)} (h : KV kvs vs) : Vals (kvs.map (·.2)) (vs.map (·.2)) := by
  refine vals_of_at (by rw [List.length_map, List.length_map]; exact Paired.length h) fun j x u h1 h2 => ?_
  rw [List.getElem?_map] at h1 h2
  obtain ⟨p, hp, rfl⟩ := Option.map_eq_some_iff.mp h1
  obtain ⟨q, hq, rfl⟩ := Option.map_eq_some_iff.mp h2
  obtain ⟨y, hy, r⟩ := LiI.paired_get h hp
  rw [hq] at hy
  obtain rfl := Option.some.inj hy
  exact r.2
def tListVals (te : TE) : TE := fun σ H Q => te σ H fun x H1 => ∃ (d : Addr) (kvs : List (Key × V)), x = .ref d ∧ H1 d = some (.dK kvs) ∧ ∀ p, H1 p = none → Q (.ref p) (upd H1 p (.lst (kvs.map (·.2))))
theorem pe_listVals {X : Cx} {e : Expr} {te : TE} {p pos apos cpos : Pos} (hc : X.calm = true) (he : PE X e te) (hg : Gl X "list") (hm : X.mg "list" = none) (hv : bootBuiltins "list" = some (.type "list") := by exact PyProof.Rows.boot_list) (hbase : attributeBase e "values" X.env (eval e X.env) = eval e X.env := by rfl) (hline : (apos.endLine == cpos.line) = true := by rfl)
    (hs : starEach [.Call (.Attribute e "values" apos) [] [] cpos] X.env = (false, eval (.Call (.Attribute e "values" apos) [] [] cpos) X.env) :: starEach [] X.env := by rfl) :
    PE X (.Call (.Name "list" p) [.Call (.Attribute e "values" apos) [] [] cpos] [] pos) (tListVals te) := by
  refine ⟨fun pins s σ H Q I hq => ?_⟩
  refine wpAny_Call_Name_kw (ld_blt I hg hm hv ?_)
  refine PyProof.Rows.callWith_type1 ?_ hs rfl
  rw [hs]
  show wpAny _ _ (spliced ((false, eval (.Call (.Attribute e "values" apos) [] [] cpos) X.env) :: backTo pos (starEach [] X.env))) _ _ s
  refine Calls.spliced_cons ?_
  refine wpAny_Call_method (T := "dict") (id := "dict.values") hbase rfl hline F.plainAttrs_dict F.slot_dict_values F.type_dict_values (thn (he.run pins s σ H _ I hq) fun u s1 ⟨x, H1, I1, rx, d, kvs, ex, hd, q⟩ => ?_)
  subst ex
  obtain rfl : u = Value.ref d := rx
  obtain ⟨hz, hs0, vs, kv, hdo⟩ := I1.hok d _ hd
  obtain ⟨ep, hat⟩ := hdo.dictAt
  have lk : kvs.length = vs.length := Paired.length kv
  have I2 : Inv X pins σ H1 { s1 with heap := s1.heap.push { cls := .type "dict_values", data := .fields #[.ref d] } } := I1.kept (t' := s1.toks) fun b ob q => Heap.get?_push_of_some _ q
  refine ⟨hdo.typeIs, hdo.mapOf.noDict, ?_⟩
  show wpAny _ _ (callWith cpos (.builtin "dict.values") [.ref d] [] []) _ X.xe s1
  refine method_meetsIn F.slot_dict_values F.entry_dict_values rfl (PySem.evalArgs_none ⟨rfl, hdo.typeIs, F.args_dict_values_1 _, _, meets_dict_values (mixKind X.prog X.w) d hs0, ⟨vs, hdo⟩, ?_⟩)
  refine Calls.spliced_nil ?_
  refine PySem.W.kdl_call (PySem.W.kdl_values (knd := mixKind X.prog X.w) (kvs := vs) (ep := ep)) (I1.ok.hd hc) ⟨⟨_, Heap.get?_push_size _ rfl, rfl, rfl⟩, hat.push _⟩ (by rw [← lk]; exact hz) fun h' tk acc' c' hk hS hacc => ?_
  have ev : acc'.toList = vs.map (·.2) := PySem.W.kdl_vals_eq acc'.toList (by rw [Array.length_toList]; exact hacc.1) fun j v e => hacc.2 j v (by rw [← Array.getElem?_toList]; exact e)
  have up : ∀ b o, s1.heap.get? b = some o → h'.get? b = some o := fun b o e => hk b o (Heap.get?_push_of_some _ e)
  have sz := Heap.size_push s1.heap { cls := .type "dict_values", data := .fields #[.ref d] }
  refine ⟨.ref _, upd H1 _ (.lst (kvs.map (·.2))), I2.laid (t' := tk) hk (Nat.le_refl _) (show ObjOk X.prog X.w _ _ _ (.lst (kvs.map (·.2))) from ⟨by rw [List.length_map]; exact hz, acc'.toList, c', by rw [ev]; exact kv_vals kv, by rw [Array.toArray_toList]; exact hS⟩), rfl, q _ (I2.hok.fresh (Nat.le_refl _))⟩
end Ck

namespace Ck
open PySem PySem.Spec PyProof.Rows L2 StX RZ
section
variable {X : Cx} {pins : List (Addr × Obj)} {σ : L2.St} {H : Hp} {s : Shared}
end
end Ck

namespace Ck
open PySem PySem.Spec PyProof.Rows L2 StX Evl RZ
def numR (rs : List (Int × Int)) : Int := (rs.map fun r => r.2).sum
end Ck

namespace Ck
open PySem PySem.Spec PyProof.Rows L2 StX Evl RZ
end Ck

namespace Ck
open PySem PySem.Spec PyProof.Rows L2 RZ
section
variable {X : Cx} {pins : List (Addr × Obj)} {σ : L2.St} {H : Hp} {s : Shared}
end
section
variable {K : PySem.W.Frag} {H H' : Hp}
end
section
variable {K : PySem.W.Frag} {σ : L2.St} {H H' : Hp} {ta tb te : TE} {tr : TA} {v : V} {d : PyData} {ds es : List PyData} {ps : List (Int × Int)}
end
end Ck

namespace Ck
open PySem PySem.Spec PyProof.Rows L2 RZ Evl
theorem cnt_fil {c : Int × Int → Bool} {s : Int} : ∀ {L : List (Int × Int)}, (L.map Prod.fst).Nodup → cnt (L.filter c) s = (cnt L s).bind fun v => if c (s, v) = true then some v else none
  | [], _ => rfl
  | p :: r, h => by
    obtain ⟨h1, h2⟩ := List.nodup_cons.mp h
    have ih := cnt_fil (c := c) (s := s) h2
    by_cases e : p.1 = s
    · have cr : cnt r s = none := cnt_none.mpr (by rw [← e]; exact h1)
      rw [List.filter_cons]
      conv => rhs; unfold cnt
      rw [if_pos e]
      have ep : (s, p.2) = p := by rw [← e]
      show _ = if c (s, p.2) = true then some p.2 else none
      rw [ep]
      by_cases k : c p = true
      · rw [if_pos k, if_pos k]
        unfold cnt
        rw [if_pos e]
      · rw [if_neg k, if_neg k, ih, cr]
        rfl
    · rw [List.filter_cons]
      conv => rhs; unfold cnt
      rw [if_neg e, ← ih]
      split
      · conv => lhs; unfold cnt
        rw [if_neg e]
      · rfl
theorem cnt_key {L : List (Int × Int)} {s : Int} : s ∈ L.map Prod.fst ↔ (cnt L s).isSome = true := by
  cases h : cnt L s with
  | none =>
    have := cnt_none.mp h
    exact ⟨fun m => absurd m this, fun z => nomatch z⟩
  | some v =>
    refine ⟨fun _ => rfl, fun _ => ?_⟩
    by_cases m : s ∈ L.map Prod.fst
    · exact m
    · rw [cnt_none.mpr m] at h
      cases h
theorem sum_cnt {g : Int → Int} {D : List Int} (hD : D.Nodup) : ∀ {ps : List (Int × Int)}, (ps.map Prod.fst).Nodup → (∀ p ∈ ps, p.1 ∈ D) → (ps.map fun p => p.2 * g p.1).sum = (D.map fun n => (cnt ps n).getD 0 * g n).sum
  | [], _, _ => (sum_zero fun n _ => Int.zero_mul _).symm
  | p :: r, nd, h => by
    obtain ⟨n1, n2⟩ := List.nodup_cons.mp nd
    have ih := sum_cnt (g := g) hD n2 fun q hq => h q (List.mem_cons_of_mem p hq)
    have cz : cnt r p.1 = none := Ck.cnt_none.mpr n1
    have e : (fun n => (cnt (p :: r) n).getD 0 * g n) = fun n => if p.1 = n then p.2 * g p.1 else (cnt r n).getD 0 * g n := by
      funext n
      unfold cnt
      by_cases c : p.1 = n
      · rw [if_pos c, if_pos c, c]; rfl
      · rw [if_neg c, if_neg c]
        cases r <;> rfl
    rw [e, sum_if hD (h p List.mem_cons_self), ← ih, List.map_cons, List.sum_cons, cz]
    show _ = _ + (_ - 0 * _)
    rw [Int.zero_mul]
    omega
section
variable {K : PySem.W.Frag} {σ : L2.St} {H : Hp} {tl te td : TE} {tt : TT} {d : Addr} {ns : List Int} {ps : List (Int × Int)} {j : Nat} {ws : List Nat}
end
end Ck

namespace Ck
open PySem PySem.Spec PyProof.Rows L2 RZ Evl
section
variable {X : Cx}
end
end Ck

namespace Ck
open PySem PySem.Spec PyProof.Rows L2 StX RZ
section
variable {P : Program} {w : World} {K : PySem.W.Frag} {mg : Str → Option Value} {base : Heap}
theorem evr_rd {te : TE} {σ : L2.St} {H : Hp} {d : Addr} {ps : List (Int × Int)} (h : Evl.Ev te σ H (.ref d)) (hd : H d = some (.dK (ps.map kc))) : EvR RD te σ H ps := fun H1 e Q q => h H1 e _ fun H2 e2 => q _ H2 e2 ⟨d, rfl, (e.trans e2) _ _ hd⟩
theorem numR_perm {a b : List (Int × Int)} (h : a.Perm b) : numR a = numR b := by
  unfold numR
  exact sum_of_perm (h.map _)
theorem nod_of {l : List (Int × Int)} (h : (l.map Prod.fst).Nodup) : l.Nodup := List.Pairwise.of_map Prod.fst (fun a b h e => h (congrArg _ e)) h
theorem q_lotE {CL : Addr} {te : TE} {σ : L2.St} {H : Hp} {D : Ends} {z : TS} {i : Nat} {ps : List (Int × Int)} (h : Elot K CL te σ H ps) (k : ∀ a H1, Evl.Ex H H1 → LotAt K CL H1 a ps → z D (σ.set i (some (.ref a))) H1) : tSeq (tAsg te (gName i)) z D σ H := h H (Evl.Ex.refl H) (fun x H1 => gName i x σ H1 (z D)) k
theorem q_rdE {te : TE} {σ : L2.St} {H : Hp} {D : Ends} {z : TS} {i : Nat} {ps : List (Int × Int)} (h : EvR RD te σ H ps) (k : ∀ a H1, Evl.Ex H H1 → H1 a = some (.dK (ps.map kc)) → z D (σ.set i (some (.ref a))) H1) : tSeq (tAsg te (gName i)) z D σ H := h H (Evl.Ex.refl H) (fun x H1 => gName i x σ H1 (z D)) fun v H1 e hv => by
  obtain ⟨d, rfl, hd⟩ := hv
  exact k d H1 e hd
theorem q_fall {S z : TS} {D : Ends} {σ : L2.St} {H : Hp} (I : L2.St → Hp → Prop) (hz : ∀ σ' H', I σ' H' → z D σ' H') (h : (∀ σ' H', I σ' H' → z D σ' H') → tSeq S z D σ H) : tSeq S z D σ H := h hz
theorem elot_madeR {CL : Addr} {te : TE} {σ : L2.St} {H : Hp} {ps : List (Int × Int)} (h : EvR RD te σ H ps) (ct : Cts ps) : Elot K CL (tCall (spMade K CL) [] E0 (tCons te tNil)) σ H (srt ps) := fun H1 e Q q => h H1 e _ fun x H2 e2 hx => by
  obtain ⟨g, rfl, hg⟩ := hx
  exact ⟨g, ps, rfl, hg, ct, fun a qs H3 e3 hp ha hl => q a H3 (e2.trans e3) (by rw [← asc_unique ha (srt_asc ct.nd) (hp.trans (srt_perm ps).symm)]; exact hl)⟩
theorem range_fm (ps : List (Int × Int)) (c : Int × Int → Bool) (g : Int × Int → Int × Int) : ((List.range ps.length).filter fun i => c (ps.getD i (0, 0))).map (fun i => g (ps.getD i (0, 0))) = (ps.filter c).map g := by
  conv => rhs; rw [← range_getD ps, List.filter_map, List.map_map]
  rfl
theorem evd_keysF {td te : TE} {tt : TT} {σ : L2.St} {H : Hp} {d : Addr} {ps : List (Int × Int)} {j : Nat} {ws : List Nat} (c : Int × Int → Bool) (g : Int × Int → Int × Int) (hv : ∀ H1, Evl.Ev td σ H1 (.ref d)) (hd : H d = some (.dK (ps.map kc))) (hl : ps.length ≤ 40000) (hw : ∀ x, wipe ((wipe σ ws).set j (some x)) ws = wipe σ ws)
    (ht : ∀ p ∈ ps, ∀ H1, Fz d (.dK (ps.map kc)) H H1 → Evl.EvT tt ((wipe σ ws).set j (some (.int p.1))) H1 (c p)) (he : ∀ p ∈ ps, ∀ H1, Fz d (.dK (ps.map kc)) H H1 → EvR (RP K) te ((wipe σ ws).set j (some (.int p.1))) H1 (g p)) (nd : (((ps.filter c).map g).map Prod.fst).Nodup) :
    EvD (tCB (rDictP K) (tCons (tLockE (tLc (iKeys td) (gName j) tt te ws)) tNil)) σ H ((ps.filter c).map g) :=
  dl_of (K := K) (fun H1 e1 Q q => lc_keysPF (K := K) (fun i => c (ps.getD i (0, 0))) (fun i => g (ps.getD i (0, 0))) hv hd (by rw [List.length_map]; exact hl) hw
    (fun i k x H2 hk hf => by obtain ⟨p, hp, e, rfl, rfl⟩ := kc_at hk; rw [e]; exact ht p hp H2 hf) (fun i k x H2 hk hf => by obtain ⟨p, hp, e, rfl, rfl⟩ := kc_at hk; rw [e]; exact he p hp H2 hf) H1 e1 Q (fun D vs H2 n e2 hD hF => q D vs H2 n e2 hD (by rw [List.length_map, range_fm] at hF; exact hF))) nd
theorem elot_mkD {CL : Addr} {te : TE} {σ : L2.St} {H : Hp} {ps : List (Int × Int)} (h : EvD te σ H ps) (hc : Cts ps) (ha : Asc ps) : Elot K CL (tMakeR CL (spLotI K CL) E0 (tCons te tNil)) σ H ps := elot_mk (fun H1 e1 Q q => h H1 e1 Q fun p H2 _ e2 hp => q p H2 e2 hp) hc ha
theorem max_ex : ∀ ns : List Int, ∃ M, ns ≠ [] → M ∈ ns ∧ ∀ y ∈ ns, y ≤ M
  | [] => ⟨0, fun h => absurd rfl h⟩
  | n :: r => by
    obtain ⟨M, hM⟩ := max_ex r
    cases r with
    | nil => exact ⟨n, fun _ => ⟨List.mem_cons_self, fun y hy => by rw [List.mem_singleton.mp hy]; exact Int.le_refl _⟩⟩
    | cons m t =>
      obtain ⟨h1, h2⟩ := hM (fun e => by cases e)
      by_cases c : n ≤ M
      · exact ⟨M, fun _ => ⟨List.mem_cons_of_mem _ h1, fun y hy => (List.mem_cons.mp hy).elim (fun e => e ▸ c) (h2 y)⟩⟩
      · exact ⟨n, fun _ => ⟨List.mem_cons_self, fun y hy => (List.mem_cons.mp hy).elim (fun e => by rw [e]; exact Int.le_refl _) (fun m => by have := h2 y m; omega)⟩⟩
end
end Ck

namespace Ck
open PySem PySem.Spec PyProof.Rows L2
section
variable {prog : Program} {w : World} {A : Around} {E : Value → Shared → Prop} {s : Shared} {it t : Addr} {i : Nat} {items : Array Value}
end
section
variable {X : Cx} {pins : List (Addr × Obj)} {σ : L2.St} {H : Hp} {s : Shared}
variable {C fi fl a q : Addr} {fdI fdL : FuncData} {psI psL : List Str} {spI spL : Sp} {n : Nat} {A1 : Around}
end
end Ck

namespace Ck
open PySem PySem.Spec PyProof.Rows L2 RZ
section
variable {P : Program} {w : World} {K : PySem.W.Frag} {mg : Str → Option Value} {base : Heap} {k : Nat} {C : Addr} {x qual : Str} {st : Stmt} {N ps : List Str} {sp : Sp}
end
section
variable {X : Cx} {k j : Nat} {C : Addr} {m : Str} {sp : Sp} {ps : List Str} {e o : Expr} {es : List Expr} {ta : TE} {t : TA} {apos pos : Pos} {pl : Sem Bool} {W : WX}
end
section
variable {X : Cx} {n k j : Nat} {f C : Addr} {fd : FuncData} {ps : List Str} {sp : Sp}
end
section
variable {X : Cx} {pins : List (Addr × Obj)} {σ : L2.St} {H : Hp} {s : Shared}
end
section
variable {K : PySem.W.Frag} {σ : L2.St} {H : Hp} {te ta : TE} {d : PyData}
end
end Ck

namespace Ck
open PySem PySem.Spec PyProof.Rows L2 StX Evl RZ
section
variable {K : PySem.W.Frag} {σ : L2.St} {H H3 : Hp} {ta tb te tl : TE} {tt : TT} {p a b : Addr} {xs ys : List V} {ms ns : List Int} {j j1 j2 : Nat} {ws : List Nat}
section
variable {K : PySem.W.Frag} {σ : L2.St} {H : Hp} {tl te : TE} {tt : TT} {xs : List V} {ns : List Int} {j : Nat} {ws : List Nat}
end
end
end Ck

namespace Ck
open PySem PySem.Spec PyProof.Rows L2 StX Evl RZ
section
variable {X : Cx}
end
section
variable {X : Cx}
end
section
variable {K : PySem.W.Frag} {σ : L2.St} {H : Hp} {te : TE} {rs : List (Int × Int)}
end
section
variable {K : PySem.W.Frag} {C : Addr} {p : Int → Bool} {H : Hp} {i : Int} {x : V}
end
end Ck

namespace Ck
def Wsum (ns : List Int) (p f : Int → Int) : Int := (ns.map fun t => p t * f t).sum
def adC (p : Int → Int) (z d : Int) : Int → Int := fun t => if t = z then p t + d else p t
theorem adC_no {ns : List Int} {p f : Int → Int} {z d : Int} (h : z ∉ ns) : Wsum ns (adC p z d) f = Wsum ns p f := by
  unfold Wsum
  refine congrArg List.sum (List.map_congr_left fun t ht => ?_)
  unfold adC
  rw [if_neg (show ¬ t = z from fun e => h (e ▸ ht))]
theorem adC_sum {p f : Int → Int} {z d : Int} : ∀ {ns : List Int}, ns.Nodup → z ∈ ns → Wsum ns (adC p z d) f = Wsum ns p f + d * f z
  | [], _, h => nomatch h
  | t :: r, nd, h => by
    obtain ⟨n1, n2⟩ := List.nodup_cons.mp nd
    have e : ∀ q : Int → Int, Wsum (t :: r) q f = q t * f t + Wsum r q f := fun q => by
      unfold Wsum
      rw [List.map_cons, List.sum_cons]
    rw [e, e]
    by_cases tz : t = z
    · subst tz
      rw [adC_no n1]
      show (if t = t then p t + d else p t) * f t + _ = _
      rw [if_pos rfl, Int.add_mul]
      omega
    · have zr : z ∈ r := (List.mem_cons.mp h).resolve_left fun x => tz x.symm
      rw [adC_sum n2 zr]
      show (if t = z then p t + d else p t) * f t + _ = _
      rw [if_neg tz]
      omega
theorem ws_mono {p q f : Int → Int} : ∀ {ns : List Int}, (∀ t ∈ ns, p t ≤ q t ∧ 0 ≤ f t) → Wsum ns p f ≤ Wsum ns q f
  | [], _ => Int.le_refl _
  | t :: r, h => by
    have ih := ws_mono (ns := r) fun x hx => h x (List.mem_cons_of_mem t hx)
    obtain ⟨a, b⟩ := h t List.mem_cons_self
    have c := Int.mul_le_mul_of_nonneg_right a b
    have e : ∀ q : Int → Int, Wsum (t :: r) q f = q t * f t + Wsum r q f := fun q => by
      unfold Wsum
      rw [List.map_cons, List.sum_cons]
    rw [e, e]
    omega
def Fe (ns : List Int) (U p : Int → Int) : Prop := ∀ s ∈ ns, Wsum ns p (fun t => t / s) ≤ U s
section
variable {ns : List Int} {U c g : Int → Int}
theorem fe_mono (pos : ∀ n ∈ ns, 0 < n) {p q : Int → Int} (h : ∀ t ∈ ns, p t ≤ q t) (hq : Fe ns U q) : Fe ns U p := fun s hs =>
  Int.le_trans (ws_mono fun t ht => ⟨h t ht, Int.ediv_nonneg (Int.le_of_lt (pos t ht)) (Int.le_of_lt (pos s hs))⟩) (hq s hs)
theorem most_step (nd : ns.Nodup) (pos : ∀ n ∈ ns, 0 < n) {z : Int} (hz : z ∈ ns) (gz : g z ≤ c z) (hfe : Fe ns U fun t => if t ≤ z then g t else 0) :
    ∀ (n : Nat) (p : Int → Int), (g z - p z).toNat = n → p z ≤ g z → (∀ t ∈ ns, 0 ≤ p t ∧ p t ≤ c t) → Fe ns U p → (∀ t ∈ ns, t < z → p t = g t) →
      ∃ p' : Int → Int, (∀ t ∈ ns, 0 ≤ p' t ∧ p' t ≤ c t) ∧ Fe ns U p' ∧ (∀ t ∈ ns, t < z → p' t = g t) ∧ p' z = g z ∧ Wsum ns p (fun _ => 1) ≤ Wsum ns p' fun _ => 1 := by
  intro n
  induction n with
  | zero => exact fun p h le b f a => ⟨p, b, f, a, by omega, Int.le_refl _⟩
  | succ n ih =>
    intro p h le b f a
    have lt : p z < g z := by omega
    by_cases ex : ∃ y ∈ ns, z < y ∧ 0 < p y
    · obtain ⟨y, hy, zy, py⟩ := ex
      have az : adC (adC p z 1) y (-1) z = p z + 1 := by
        unfold adC
        rw [if_neg (by omega), if_pos rfl]
      have ao : ∀ t, t ≠ z → t ≠ y → adC (adC p z 1) y (-1) t = p t := fun t h1 h2 => by
        unfold adC
        rw [if_neg h2, if_neg h1]
      have ay : adC (adC p z 1) y (-1) y = p y - 1 := by
        unfold adC
        rw [if_pos rfl, if_neg (by omega)]
        omega
      have sm : ∀ f : Int → Int, Wsum ns (adC (adC p z 1) y (-1)) f = Wsum ns p f + f z - f y := fun f => by
        rw [adC_sum nd hy, adC_sum nd hz]
        omega
      obtain ⟨p', b', f', a', e', s'⟩ := ih (adC (adC p z 1) y (-1)) (by rw [az]; omega) (by rw [az]; omega) (fun t ht => by
        by_cases t1 : t = z
        · subst t1
          rw [az]
          have := b t ht
          omega
        · by_cases t2 : t = y
          · subst t2
            rw [ay]
            have := b t ht
            omega
          · rw [ao t t1 t2]
            exact b t ht) (fun s hs => by
        rw [sm]
        have d := Int.ediv_le_ediv (pos s hs) (Int.le_of_lt zy)
        have := f s hs
        omega) (fun t ht l => by
        rw [ao t (by omega) (by omega)]
        exact a t ht l)
      refine ⟨p', b', f', a', e', ?_⟩
      rw [sm] at s'
      omega
    · have az : adC p z 1 z = p z + 1 := by
        unfold adC
        rw [if_pos rfl]
      have ao : ∀ t, t ≠ z → adC p z 1 t = p t := fun t h1 => by
        unfold adC
        rw [if_neg h1]
      obtain ⟨p', b', f', a', e', s'⟩ := ih (adC p z 1) (by rw [az]; omega) (by rw [az]; omega) (fun t ht => by
        by_cases t1 : t = z
        · subst t1
          rw [az]
          have := b t ht
          omega
        · rw [ao t t1]
          exact b t ht) (fe_mono pos (fun t ht => by
        by_cases t1 : t = z
        · subst t1
          rw [az, if_pos (Int.le_refl _)]
          omega
        · rw [ao t t1]
          by_cases t2 : t < z
          · rw [if_pos (by omega), a t ht t2]
            exact Int.le_refl _
          · rw [if_neg (by omega)]
            have : ¬ 0 < p t := fun x => ex ⟨t, ht, by omega, x⟩
            omega) hfe) (fun t ht l => by
        rw [ao t (by omega)]
        exact a t ht l)
      refine ⟨p', b', f', a', e', Int.le_trans ?_ s'⟩
      rw [adC_sum nd hz]
      omega
theorem most_things_le (asc : ns.Pairwise (· < ·)) (pos : ∀ n ∈ ns, 0 < n) (hg : ∀ z ∈ ns, 0 ≤ g z ∧ g z ≤ c z) (hfe : ∀ z ∈ ns, Fe ns U fun t => if t ≤ z then g t else 0)
    (hmax : ∀ z ∈ ns, g z < c z → ¬ Fe ns U fun t => if t < z then g t else if t = z then g z + 1 else 0) {p : Int → Int} (hb : ∀ t ∈ ns, 0 ≤ p t ∧ p t ≤ c t) (hf : Fe ns U p) :
    Wsum ns p (fun _ => 1) ≤ Wsum ns g fun _ => 1 := by
  have nd : ns.Nodup := asc.imp fun {a b} (h : a < b) (e : a = b) => by omega
  have key : ∀ k, k ≤ ns.length → ∃ p' : Int → Int, (∀ t ∈ ns, 0 ≤ p' t ∧ p' t ≤ c t) ∧ Fe ns U p' ∧ (∀ t ∈ ns.take k, p' t = g t) ∧ Wsum ns p (fun _ => 1) ≤ Wsum ns p' fun _ => 1 := by
    intro k
    induction k with
    | zero => exact fun _ => ⟨p, hb, hf, fun t h => by simp at h, Int.le_refl _⟩
    | succ k ih =>
      intro hk
      obtain ⟨q, b, f, a, s⟩ := ih (by omega)
      have hk' : k < ns.length := by omega
      have hz := List.getElem_mem hk'
      have below : ∀ t ∈ ns, t < ns[k] → t ∈ ns.take k := fun t ht lt => by
        obtain ⟨i, hi, rfl⟩ := List.mem_iff_getElem.mp ht
        have ik : i < k := by
          rcases Nat.lt_or_ge i k with h | h
          · exact h
          · rcases Nat.lt_or_ge k i with h' | h'
            · have := List.pairwise_iff_getElem.mp asc k i hk' hi h'
              omega
            · have e : i = k := by omega
              subst e
              omega
        exact List.mem_take_iff_getElem.mpr ⟨i, by omega, rfl⟩
      have ag : ∀ t ∈ ns, t < ns[k] → q t = g t := fun t ht lt => a t (below t ht lt)
      have le : q ns[k] ≤ g ns[k] := by
        rcases Int.lt_or_le (g ns[k]) (q ns[k]) with h | h
        · have h1 := (b _ hz).2
          refine absurd (fe_mono pos (fun t ht => ?_) f) (hmax _ hz (by omega))
          show (if t < ns[k] then g t else if t = ns[k] then g ns[k] + 1 else 0) ≤ q t
          split
          · rename_i lt
            rw [ag t ht lt]
            exact Int.le_refl _
          · split
            · rename_i e
              rw [e]
              omega
            · exact (b t ht).1
        · exact h
      obtain ⟨p', b', f', a', e', s'⟩ := most_step nd pos hz (hg _ hz).2 (hfe _ hz) _ q rfl le b f ag
      refine ⟨p', b', f', fun t ht => ?_, Int.le_trans s s'⟩
      rw [List.take_add_one, List.getElem?_eq_getElem hk'] at ht
      rcases List.mem_append.mp ht with h | h
      · obtain ⟨i, hi, rfl⟩ := List.mem_take_iff_getElem.mp h
        have lt := List.pairwise_iff_getElem.mp asc i k (by omega) hk' (by omega)
        exact a' _ (List.getElem_mem _) lt
      · have e : t = ns[k] := by simpa using h
        rw [e]
        exact e'
  obtain ⟨p', b', f', a', s'⟩ := key ns.length (Nat.le_refl _)
  rw [List.take_length] at a'
  refine Int.le_trans s' (Int.le_of_eq ?_)
  unfold Wsum
  exact congrArg List.sum (List.map_congr_left fun t ht => by rw [a' t ht])
theorem ws_add {p a b f : Int → Int} (h : ∀ t, p t = a t + b t) : ∀ {ns : List Int}, Wsum ns p f = Wsum ns a f + Wsum ns b f
  | [] => rfl
  | t :: r => by
    have ih := ws_add (f := f) h (ns := r)
    have e : ∀ q : Int → Int, Wsum (t :: r) q f = q t * f t + Wsum r q f := fun q => by
      unfold Wsum
      rw [List.map_cons, List.sum_cons]
    rw [e, e, e, ih, h t, Int.add_mul]
    omega
theorem ws_scale {p f f' : Int → Int} {k : Int} : ∀ {ns : List Int}, (∀ t ∈ ns, p t * f t = k * (p t * f' t)) → Wsum ns p f = k * Wsum ns p f'
  | [], _ => (Int.mul_zero k).symm
  | t :: r, h => by
    have ih := ws_scale (ns := r) fun x hx => h x (List.mem_cons_of_mem t hx)
    have e : ∀ f : Int → Int, Wsum (t :: r) p f = p t * f t + Wsum r p f := fun f => by
      unfold Wsum
      rw [List.map_cons, List.sum_cons]
    rw [e, e, ih, h t List.mem_cons_self, Int.mul_add]
theorem most_total_le (asc : ns.Pairwise (· < ·)) (pos : ∀ n ∈ ns, 0 < n) (dv : ∀ a ∈ ns, ∀ b ∈ ns, a < b → a ∣ b) (hg : ∀ z ∈ ns, 0 ≤ g z ∧ g z ≤ c z) (hfe : ∀ z ∈ ns, Fe ns U fun t => if z ≤ t then g t else 0)
    (hmax : ∀ z ∈ ns, g z < c z → ¬ Fe ns U fun t => if z < t then g t else if t = z then g z + 1 else 0) {p : Int → Int} (hb : ∀ t ∈ ns, 0 ≤ p t ∧ p t ≤ c t) (hf : Fe ns U p) :
    Wsum ns p (fun t => t) ≤ Wsum ns g fun t => t := by
  have nd : ns.Nodup := asc.imp fun {a b} (h : a < b) (e : a = b) => by omega
  cases h : ns.find? (fun z => decide (g z < c z)) with
  | none =>
    have h' := List.find?_eq_none.mp h
    refine ws_mono fun t ht => ⟨?_, Int.le_of_lt (pos t ht)⟩
    have := h' t ht
    have := (hb t ht).2
    simp only [decide_eq_true_eq] at *
    omega
  | some z =>
    obtain ⟨lz, as, bs, e, hl⟩ := List.find?_eq_some_iff_append.mp h
    have lz : g z < c z := of_decide_eq_true lz
    have hz : z ∈ ns := by rw [e]; simp
    have below : ∀ t ∈ ns, t < z → p t ≤ g t := fun t ht lt => by
      have ha : t ∈ as := by
        rw [e] at ht asc
        rcases List.mem_append.mp ht with h | h
        · exact h
        · rcases List.mem_cons.mp h with h | h
          · omega
          · have := (List.pairwise_cons.mp (List.pairwise_append.mp asc).2.1).1 t h
            omega
      have a := hl t ha
      have b := (hb t ht).2
      have a : ¬ g t < c t := by simpa using a
      omega
    have z0 := pos z hz
    obtain ⟨s, hs, hv⟩ : ∃ s ∈ ns, U s < Wsum ns (fun t => if z < t then g t else if t = z then g z + 1 else 0) fun t => t / s := by
      refine Classical.byContradiction fun no => hmax z hz lz fun s hs => ?_
      rcases Int.lt_or_le (U s) (Wsum ns (fun t => if z < t then g t else if t = z then g z + 1 else 0) fun t => t / s) with h | h
      · exact absurd ⟨s, hs, h⟩ no
      · exact h
    have s0 := pos s hs
    -- one more of z
    have one : Wsum ns (fun t => if z < t then g t else if t = z then g z + 1 else 0) (fun t => t / s) = Wsum ns (fun t => if z ≤ t then g t else 0) (fun t => t / s) + z / s := by
      have q : (fun t => if z < t then g t else if t = z then g z + 1 else 0) = adC (fun t => if z ≤ t then g t else 0) z 1 := by
        funext t
        show (if z < t then g t else if t = z then g z + 1 else 0) = if t = z then (if z ≤ t then g t else 0) + 1 else (if z ≤ t then g t else 0)
        by_cases t1 : z < t
        · rw [if_pos t1, if_neg (by omega), if_pos (by omega)]
        · rw [if_neg t1]
          by_cases t2 : t = z
          · rw [if_pos t2, if_pos t2, if_pos (by omega), t2]
          · rw [if_neg t2, if_neg t2, if_neg (by omega)]
      rw [q, adC_sum nd hz]
      omega
    rw [one] at hv
    have gf := hfe z hz s hs
    have sz : s ∣ z := by
      rcases Int.lt_or_le z s with h | h
      · rw [Int.ediv_eq_zero_of_lt (Int.le_of_lt z0) h] at hv
        omega
      · rcases Int.lt_or_eq_of_le h with h | h
        · exact dv s hs z hz h
        · exact h ▸ Int.dvd_refl s
    obtain ⟨m, hm⟩ := sz
    have m0 : 0 < m := by
      rcases Int.lt_or_le 0 m with h | h
      · exact h
      · have := Int.mul_nonneg (Int.le_of_lt s0) (show 0 ≤ -m by omega)
        rw [Int.mul_neg] at this
        omega
    have zm : z / s = m := by rw [hm]; exact Int.mul_ediv_cancel_left m (by omega)
    have sc : ∀ q : Int → Int, Wsum ns (fun t => if z ≤ t then q t else 0) (fun t => t / s) = m * Wsum ns (fun t => if z ≤ t then q t else 0) fun t => t / z := fun q => ws_scale fun t ht => by
      show (if z ≤ t then q t else 0) * (t / s) = m * ((if z ≤ t then q t else 0) * (t / z))
      by_cases le : z ≤ t
      · rw [if_pos le]
        obtain ⟨k, hk⟩ : z ∣ t := by
          rcases Int.lt_or_eq_of_le le with h | h
          · exact dv z hz t ht h
          · exact h ▸ Int.dvd_refl z
        rw [show t / z = k by rw [hk]; exact Int.mul_ediv_cancel_left k (by omega), show t / s = m * k by rw [hk, hm, Int.mul_assoc]; exact Int.mul_ediv_cancel_left _ (by omega), ← Int.mul_assoc, ← Int.mul_assoc, Int.mul_comm (q t) m]
      · rw [if_neg le, Int.zero_mul, Int.zero_mul, Int.mul_zero]
    have pf : Wsum ns (fun t => if z ≤ t then p t else 0) (fun t => t / s) ≤ U s := fe_mono pos (fun t ht => by
      show (if z ≤ t then p t else 0) ≤ p t
      split
      · exact Int.le_refl _
      · exact (hb t ht).1) hf s hs
    rw [sc] at pf
    rw [sc, zm] at hv
    have ba : Wsum ns (fun t => if z ≤ t then p t else 0) (fun t => t / z) ≤ Wsum ns (fun t => if z ≤ t then g t else 0) fun t => t / z := by
      generalize Wsum ns (fun t => if z ≤ t then p t else 0) (fun t => t / z) = B at pf ⊢
      generalize Wsum ns (fun t => if z ≤ t then g t else 0) (fun t => t / z) = A at hv ⊢
      have x : m * B < m * (A + 1) := by rw [Int.mul_add, Int.mul_one]; omega
      have := Int.lt_of_mul_lt_mul_left x (Int.le_of_lt m0)
      omega
    have tz : ∀ q : Int → Int, Wsum ns (fun t => if z ≤ t then q t else 0) (fun t => t) = z * Wsum ns (fun t => if z ≤ t then q t else 0) fun t => t / z := fun q => ws_scale fun t ht => by
      show (if z ≤ t then q t else 0) * t = z * ((if z ≤ t then q t else 0) * (t / z))
      by_cases le : z ≤ t
      · rw [if_pos le]
        obtain ⟨k, hk⟩ : z ∣ t := by
          rcases Int.lt_or_eq_of_le le with h | h
          · exact dv z hz t ht h
          · exact h ▸ Int.dvd_refl z
        rw [show t / z = k by rw [hk]; exact Int.mul_ediv_cancel_left k (by omega), hk, ← Int.mul_assoc, ← Int.mul_assoc, Int.mul_comm (q (z * k)) z]
      · rw [if_neg le, Int.zero_mul, Int.zero_mul, Int.mul_zero]
    have sp : ∀ q : Int → Int, Wsum ns q (fun t => t) = Wsum ns (fun t => if z ≤ t then q t else 0) (fun t => t) + Wsum ns (fun t => if z ≤ t then 0 else q t) fun t => t := fun q => ws_add fun t => by
      show q t = (if z ≤ t then q t else 0) + if z ≤ t then 0 else q t
      split <;> omega
    rw [sp p, sp g, tz, tz]
    have hi := Int.mul_le_mul_of_nonneg_left ba (Int.le_of_lt z0)
    have lo : Wsum ns (fun t => if z ≤ t then 0 else p t) (fun t => t) ≤ Wsum ns (fun t => if z ≤ t then 0 else g t) fun t => t := ws_mono fun t ht => ⟨by
      show (if z ≤ t then 0 else p t) ≤ if z ≤ t then 0 else g t
      split
      · exact Int.le_refl _
      · exact below t ht (by omega), Int.le_of_lt (pos t ht)⟩
    omega
end
def cf (ps : List (Int × Int)) : Int → Int := fun t => (cnt ps t).getD 0
theorem unt_cf {N : List Int} (nd : N.Nodup) {ps : List (Int × Int)} (np : (ps.map Prod.fst).Nodup) (hp : ∀ p ∈ ps, p.1 ∈ N) (s : Int) : unt ps s = Wsum N (cf ps) fun t => t / s := unt_cnt nd s np hp
theorem fe_fit {N : List Int} (hN : Pws N) (nd : N.Nodup) {ps rs : List (Int × Int)} (np : (ps.map Prod.fst).Nodup) (hp : ∀ p ∈ ps, p.1 ∈ N) (hr : ∀ r ∈ rs, 0 ≤ r.1 ∧ 0 ≤ r.2) : fitB ps rs = true ↔ Fe N (unt rs) (cf ps) := by
  have k := key_full hN hp hr
  constructor
  · intro h s hs
    rw [← unt_cf nd np hp]
    exact k.mp (fun s hs => of_decide_eq_true (List.all_eq_true.mp h s hs)) s hs
  · intro h
    refine fit_true (k.mpr fun s hs => ?_)
    rw [unt_cf nd np hp]
    exact h s hs
theorem spr_fe {N : List Int} (nd : N.Nodup) {ps rs : List (Int × Int)} (np : (ps.map Prod.fst).Nodup) (hp : ∀ p ∈ ps, p.1 ∈ N) {z t : Int} (hz : z ∈ N) : Spr N ps rs z t ↔ Fe N (unt rs) (adC (cf ps) z t) := by
  unfold Spr Fe
  refine forall_congr' fun s => forall_congr' fun hs => ?_
  rw [adC_sum nd hz, unt_cf nd np hp]
theorem num_cf {N : List Int} (nd : N.Nodup) {ps : List (Int × Int)} (np : (ps.map Prod.fst).Nodup) (hp : ∀ p ∈ ps, p.1 ∈ N) : (ps.map fun (p : Int × Int) => p.2).sum = Wsum N (cf ps) fun _ => 1 := by
  have z := sum_cnt (g := fun _ => 1) nd np hp
  unfold Wsum cf
  rw [← z]
  exact congrArg List.sum (List.map_congr_left fun p _ => (Int.mul_one p.2).symm)
theorem tot_cf {N : List Int} (nd : N.Nodup) {ps : List (Int × Int)} (np : (ps.map Prod.fst).Nodup) (hp : ∀ p ∈ ps, p.1 ∈ N) : tot ps = Wsum N (cf ps) fun t => t := by
  have z := sum_cnt (g := fun t => t) nd np hp
  unfold Wsum cf
  rw [← z]
  exact congrArg List.sum (List.map_congr_left fun p _ => Int.mul_comm p.1 p.2)
inductive Fil (N : List Int) (c U : Int → Int) : (Int → Int) → List Int → (Int → Int) → Prop
  | nil {g : Int → Int} : Fil N c U g [] g
  | cons {g h : Int → Int} {z : Int} {L : List Int} (d : Int) (d0 : 0 ≤ d) (dc : d ≤ c z) (fe : Fe N U (adC g z d)) (mx : d < c z → ¬ Fe N U (adC g z (d + 1))) (r : Fil N c U (adC g z d) L h) : Fil N c U g (z :: L) h
section
variable {N : List Int} {c U g h : Int → Int}
theorem Fil.snoc {z d : Int} {L : List Int} (f : Fil N c U g L h) (d0 : 0 ≤ d) (dc : d ≤ c z) (fe : Fe N U (adC h z d)) (mx : d < c z → ¬ Fe N U (adC h z (d + 1))) : Fil N c U g (L ++ [z]) (adC h z d) := by
  induction f with
  | nil => exact .cons d d0 dc fe mx .nil
  | cons d1 a b f1 m r ih => exact .cons d1 a b f1 m (ih fe mx)
theorem Fil.keep {L : List Int} (f : Fil N c U g L h) {t : Int} (ht : t ∉ L) : h t = g t := by
  induction f with
  | nil => rfl
  | cons d1 a b f1 m r ih =>
    rw [ih fun x => ht (List.mem_cons_of_mem _ x)]
    unfold adC
    exact if_neg (fun e => ht (by rw [e]; exact List.mem_cons_self))
theorem Fil.at {L : List Int} (f : Fil N c U g L h) : L.Nodup → (∀ t ∈ L, g t = 0) → ∀ as z bs, L = as ++ z :: bs →
    0 ≤ h z ∧ h z ≤ c z ∧ Fe N U (adC (fun t => if t ∈ as then h t else g t) z (h z)) ∧ (h z < c z → ¬ Fe N U (adC (fun t => if t ∈ as then h t else g t) z (h z + 1))) := by
  induction f with
  | nil => exact fun _ _ as z bs e => by cases as <;> cases e
  | @cons g h z0 L d d0 dc fe mx r ih =>
    intro nd hz as z bs e
    obtain ⟨n1, n2⟩ := List.nodup_cons.mp nd
    have h0 : h z0 = d := by
      rw [r.keep n1]
      show (if z0 = z0 then g z0 + d else g z0) = d
      rw [if_pos rfl, hz z0 List.mem_cons_self]
      omega
    cases as with
    | nil =>
      cases e
      have q : (fun t => if t ∈ ([] : List Int) then h t else g t) = g := by
        funext t
        exact if_neg List.not_mem_nil
      rw [q, h0]
      exact ⟨d0, dc, fe, mx⟩
    | cons a as' =>
      cases e
      have q : (fun t => if t ∈ z0 :: as' then h t else g t) = fun t => if t ∈ as' then h t else adC g z0 d t := by
        funext t
        show (if t ∈ z0 :: as' then h t else g t) = if t ∈ as' then h t else if t = z0 then g t + d else g t
        by_cases t1 : t ∈ as'
        · rw [if_pos t1, if_pos (List.mem_cons_of_mem _ t1)]
        · rw [if_neg t1]
          by_cases t2 : t = z0
          · subst t2
            rw [if_pos List.mem_cons_self, if_pos rfl, h0, hz t List.mem_cons_self]
            omega
          · rw [if_neg t2, if_neg fun x => (List.mem_cons.mp x).elim t2 t1]
      rw [q]
      exact ih n2 (fun t ht => by
        show (if t = z0 then g t + d else g t) = 0
        rw [if_neg (show ¬ t = z0 from fun e => n1 (by rw [← e]; exact ht))]
        exact hz t (List.mem_cons_of_mem _ ht)) as' z bs rfl
theorem fe_congr {p q : Int → Int} (pos : ∀ n ∈ N, 0 < n) (e : ∀ t ∈ N, p t = q t) : Fe N U p ↔ Fe N U q :=
  ⟨fe_mono pos fun t ht => Int.le_of_eq (e t ht).symm, fe_mono pos fun t ht => Int.le_of_eq (e t ht)⟩
theorem fil_things (asc : N.Pairwise (· < ·)) (pos : ∀ n ∈ N, 0 < n) (f : Fil N c U (fun _ => 0) N h) {p : Int → Int} (hb : ∀ t ∈ N, 0 ≤ p t ∧ p t ≤ c t) (hf : Fe N U p) :
    Wsum N p (fun _ => 1) ≤ Wsum N h fun _ => 1 := by
  have nd : N.Nodup := asc.imp fun {a b} (h : a < b) (e : a = b) => by omega
  have key : ∀ z ∈ N, ∃ as, (∀ t ∈ N, t ∈ as ↔ t < z) ∧ 0 ≤ h z ∧ h z ≤ c z ∧ Fe N U (adC (fun t => if t ∈ as then h t else 0) z (h z)) ∧ (h z < c z → ¬ Fe N U (adC (fun t => if t ∈ as then h t else 0) z (h z + 1))) := fun z hz => by
    obtain ⟨as, bs, e⟩ := List.append_of_mem hz
    refine ⟨as, fun t ht => ?_, f.at nd (fun _ _ => rfl) as z bs e⟩
    rw [e] at asc ht
    obtain ⟨a1, a2, a3⟩ := List.pairwise_append.mp asc
    constructor
    · exact fun h => a3 t h z List.mem_cons_self
    · intro lt
      rcases List.mem_append.mp ht with h | h
      · exact h
      · rcases List.mem_cons.mp h with h | h
        · omega
        · have := (List.pairwise_cons.mp a2).1 t h
          omega
  refine most_things_le asc pos (fun z hz => ?_) (fun z hz => ?_) (fun z hz lt => ?_) hb hf
  · obtain ⟨as, _, a, b, _⟩ := key z hz
    exact ⟨a, b⟩
  · obtain ⟨as, ha, _, _, fe, _⟩ := key z hz
    refine (fe_congr pos fun t ht => ?_).mp fe
    show (if t = z then (if t ∈ as then h t else 0) + h z else if t ∈ as then h t else 0) = if t ≤ z then h t else 0
    by_cases t1 : t = z
    · rw [if_pos t1, if_neg fun x => by have := (ha t ht).mp x; omega, if_pos (by omega), t1]
      omega
    · rw [if_neg t1]
      by_cases t2 : t < z
      · rw [if_pos ((ha t ht).mpr t2), if_pos (by omega)]
      · rw [if_neg fun x => t2 ((ha t ht).mp x), if_neg (by omega)]
  · obtain ⟨as, ha, _, _, _, mx⟩ := key z hz
    refine fun fe => mx lt ((fe_congr pos fun t ht => ?_).mp fe)
    show (if t < z then h t else if t = z then h z + 1 else 0) = if t = z then (if t ∈ as then h t else 0) + (h z + 1) else if t ∈ as then h t else 0
    by_cases t1 : t = z
    · rw [if_pos t1, if_neg (by omega), if_pos t1, if_neg fun x => by have := (ha t ht).mp x; omega]
      omega
    · rw [if_neg t1, if_neg t1]
      by_cases t2 : t < z
      · rw [if_pos t2, if_pos ((ha t ht).mpr t2)]
      · rw [if_neg t2, if_neg fun x => t2 ((ha t ht).mp x)]
theorem fil_total (asc : N.Pairwise (· < ·)) (pos : ∀ n ∈ N, 0 < n) (dv : ∀ a ∈ N, ∀ b ∈ N, a < b → a ∣ b) (f : Fil N c U (fun _ => 0) N.reverse h) {p : Int → Int} (hb : ∀ t ∈ N, 0 ≤ p t ∧ p t ≤ c t) (hf : Fe N U p) :
    Wsum N p (fun t => t) ≤ Wsum N h fun t => t := by
  have nd : N.Nodup := asc.imp fun {a b} (h : a < b) (e : a = b) => by omega
  have des : N.reverse.Pairwise (· > ·) := List.pairwise_reverse.mpr asc
  have ndr : N.reverse.Nodup := des.imp fun {a b} (h : a > b) (e : a = b) => by omega
  have key : ∀ z ∈ N, ∃ as, (∀ t ∈ N, t ∈ as ↔ z < t) ∧ 0 ≤ h z ∧ h z ≤ c z ∧ Fe N U (adC (fun t => if t ∈ as then h t else 0) z (h z)) ∧ (h z < c z → ¬ Fe N U (adC (fun t => if t ∈ as then h t else 0) z (h z + 1))) := fun z hz => by
    obtain ⟨as, bs, e⟩ := List.append_of_mem (List.mem_reverse.mpr hz)
    refine ⟨as, fun t ht => ?_, f.at ndr (fun _ _ => rfl) as z bs e⟩
    have ht := List.mem_reverse.mpr ht
    rw [e] at des ht
    obtain ⟨a1, a2, a3⟩ := List.pairwise_append.mp des
    constructor
    · exact fun h => a3 t h z List.mem_cons_self
    · intro lt
      rcases List.mem_append.mp ht with h | h
      · exact h
      · rcases List.mem_cons.mp h with h | h
        · omega
        · have := (List.pairwise_cons.mp a2).1 t h
          omega
  refine most_total_le asc pos dv (fun z hz => ?_) (fun z hz => ?_) (fun z hz lt => ?_) hb hf
  · obtain ⟨as, _, a, b, _⟩ := key z hz
    exact ⟨a, b⟩
  · obtain ⟨as, ha, _, _, fe, _⟩ := key z hz
    refine (fe_congr pos fun t ht => ?_).mp fe
    show (if t = z then (if t ∈ as then h t else 0) + h z else if t ∈ as then h t else 0) = if z ≤ t then h t else 0
    by_cases t1 : t = z
    · rw [if_pos t1, if_neg fun x => by have := (ha t ht).mp x; omega, if_pos (by omega), t1]
      omega
    · rw [if_neg t1]
      by_cases t2 : z < t
      · rw [if_pos ((ha t ht).mpr t2), if_pos (by omega)]
      · rw [if_neg fun x => t2 ((ha t ht).mp x), if_neg (by omega)]
  · obtain ⟨as, ha, _, _, _, mx⟩ := key z hz
    refine fun fe => mx lt ((fe_congr pos fun t ht => ?_).mp fe)
    show (if z < t then h t else if t = z then h z + 1 else 0) = if t = z then (if t ∈ as then h t else 0) + (h z + 1) else if t ∈ as then h t else 0
    by_cases t1 : t = z
    · rw [if_pos t1, if_neg (by omega), if_pos t1, if_neg fun x => by have := (ha t ht).mp x; omega]
      omega
    · rw [if_neg t1, if_neg t1]
      by_cases t2 : z < t
      · rw [if_pos t2, if_pos ((ha t ht).mpr t2)]
      · rw [if_neg t2, if_neg fun x => t2 ((ha t ht).mp x)]
end
end Ck

namespace Ck
open PySem PySem.Spec PyProof.Rows L2
def Dfa (K : PySem.W.Frag) (mg : Str → Option Value) (x y : Str) (st : Stmt) (ps : List Str) : Prop :=
  ∃ f fd, Fun K y y st f fd ∧ mg x = some (.ref f) ∧ Binds K fd ps []
section
variable {P : Program} {w : World} {K : PySem.W.Frag} {mg : Str → Option Value} {base : Heap}
theorem cg_ofA {x y : Str} {st : Stmt} {N ps : List Str} {k : Nat} {sp : Sp} (D : Dfa K mg x y st ps) (S : FnScope N ps (defScope st))
    (len : ∀ vs H Q E, sp vs H Q E → vs.length = ps.length)
    (hbody : ∀ (f : Addr) (cdv : Value) (A : Around) (fr : List Env) (s : Shared) (H : Hp) (vs : List V) (Q : VK) (E : XK),
      Room k (A.deeper (envOfC y (defScope st) s.heap.objs.size f cdv)) → A.guards = some [] → sp vs H Q E →
      ∃ t, PSs (cxOf CX0 P w K mg base N y (defScope st) f cdv A fr s H E).nox (defBody st) t ∧
        t { nx := fun _ H' => Q .non H', rt := Q } (start N vs) H) : Cg P w K mg base CX0 (k + 1) x sp := by
  obtain ⟨f, fd, F, g, b⟩ := D
  refine ⟨f, fd, ps, Fun.okG F S len fun cdv A fr s H vs Q E r gd h => ?_, g, F.kp, b⟩
  obtain ⟨t, h1, h2⟩ := hbody f cdv A fr s H vs Q E r gd h
  exact ⟨t, h1.nox, h2⟩
end
end Ck

namespace Ck
theorem fil_rest {N S L : List Int} {c U h g0 : Int → Int} (asc : N.Pairwise (· < ·)) (pos : ∀ n ∈ N, 0 < n) (hL : L = N.filter fun z => !decide (z ∈ S)) (g0e : ∀ t ∈ N, g0 t = if t ∈ S then c t else 0) (f : Fil N c U g0 L h) (feh : Fe N U h) {p : Int → Int} (hb : ∀ t ∈ N, 0 ≤ p t ∧ p t ≤ c t) (hs : ∀ t ∈ N, t ∈ S → p t = c t) (hf : Fe N U p) :
    Wsum N p (fun _ => 1) ≤ Wsum N h fun _ => 1 := by
  have ascL : L.Pairwise (· < ·) := hL ▸ asc.filter _
  have ndL : L.Nodup := ascL.imp fun {a b} (h : a < b) (e : a = b) => by omega
  have mL : ∀ t ∈ N, t ∈ L ↔ t ∉ S := fun t ht => by
    rw [hL, List.mem_filter]
    constructor
    · rintro ⟨_, h⟩ hs
      rw [decide_eq_true hs] at h
      cases h
    · intro h
      exact ⟨ht, by rw [decide_eq_false h]; rfl⟩
  have LN : ∀ t ∈ L, t ∈ N := fun t ht => by
    rw [hL] at ht
    exact (List.mem_filter.mp ht).1
  have gL : ∀ t ∈ L, g0 t = 0 := fun t ht => by rw [g0e t (LN t ht), if_neg ((mL t (LN t ht)).mp ht)]
  have sh : ∀ q r : Int → Int, (∀ t, q t = r t + g0 t) → (Fe N U q ↔ Fe N (fun s => U s - Wsum N g0 fun t => t / s) r) := fun q r e => by
    unfold Fe
    refine forall_congr' fun s => forall_congr' fun hs => ?_
    rw [ws_add e]
    show Wsum N r (fun t => t / s) + Wsum N g0 (fun t => t / s) ≤ U s ↔ Wsum N r (fun t => t / s) ≤ U s - Wsum N g0 (fun t => t / s)
    constructor <;> omega
  have key : ∀ z ∈ L, ∃ as, (∀ t ∈ L, t ∈ as ↔ t < z) ∧ (∀ t ∈ as, t ∈ L) ∧ 0 ≤ h z ∧ h z ≤ c z ∧ (h z < c z → ¬ Fe N U (adC (fun t => if t ∈ as then h t else g0 t) z (h z + 1))) := fun z hz => by
    obtain ⟨as, bs, e⟩ := List.append_of_mem hz
    have k := f.at ndL gL as z bs e
    refine ⟨as, fun t ht => ?_, fun t ht => by rw [e]; exact List.mem_append_left _ ht, k.1, k.2.1, k.2.2.2⟩
    rw [e] at ascL ht
    obtain ⟨a1, a2, a3⟩ := List.pairwise_append.mp ascL
    constructor
    · exact fun h => a3 t h z List.mem_cons_self
    · intro lt
      rcases List.mem_append.mp ht with h | h
      · exact h
      · rcases List.mem_cons.mp h with h | h
        · omega
        · have := (List.pairwise_cons.mp a2).1 t h
          omega
  have kp : ∀ t ∈ N, t ∈ S → h t = g0 t := fun t ht hS => f.keep fun x => (mL t ht).mp x hS
  have hg : ∀ z ∈ N, 0 ≤ h z - g0 z ∧ h z - g0 z ≤ if z ∈ S then 0 else c z := fun z hz => by
    by_cases hS : z ∈ S
    · rw [if_pos hS, kp z hz hS]
      omega
    · rw [if_neg hS, gL z ((mL z hz).mpr hS)]
      obtain ⟨_, _, _, a, b, _⟩ := key z ((mL z hz).mpr hS)
      omega
  have m := most_things_le (ns := N) (U := fun s => U s - Wsum N g0 fun t => t / s) (g := fun t => h t - g0 t) (c := fun t => if t ∈ S then 0 else c t) (p := fun t => p t - g0 t) asc pos hg (fun z hz => ?_) (fun z hz lt => ?_) (fun t ht => ?_) ((sh p _ fun t => by omega).mp hf)
  · rw [ws_add (p := p) (a := fun t => p t - g0 t) (b := g0) (fun t => by omega), ws_add (p := h) (a := fun t => h t - g0 t) (b := g0) (fun t => by omega)]
    omega
  · refine fe_mono pos (fun t ht => ?_) ((sh h (fun t => h t - g0 t) fun t => by omega).mp feh)
    show (if t ≤ z then h t - g0 t else 0) ≤ h t - g0 t
    split
    · exact Int.le_refl _
    · exact (hg t ht).1
  · have lt : h z - g0 z < if z ∈ S then 0 else c z := lt
    have hS : z ∉ S := fun hS => by
      rw [if_pos hS, kp z hz hS] at lt
      omega
    have zL := (mL z hz).mpr hS
    obtain ⟨as, ha, hal, a, b, mx⟩ := key z zL
    rw [if_neg hS, gL z zL] at lt
    intro fe
    refine mx (by omega) ((fe_congr pos fun t ht => ?_).mp ((sh (fun t => (if t < z then h t - g0 t else if t = z then h z - g0 z + 1 else 0) + g0 t) _ fun t => rfl).mpr fe))
    show (if t < z then h t - g0 t else if t = z then h z - g0 z + 1 else 0) + g0 t = if t = z then (if t ∈ as then h t else g0 t) + (h z + 1) else if t ∈ as then h t else g0 t
    by_cases t1 : t = z
    · rw [if_neg (by omega), if_pos t1, if_pos t1, t1, if_neg fun x => by have := (ha z zL).mp x; omega]
      have := gL z zL
      omega
    · rw [if_neg t1, if_neg t1]
      by_cases tS : t ∈ S
      · rw [if_neg fun x => (mL t ht).mp (hal t x) tS, kp t ht tS]
        split <;> omega
      · have tL := (mL t ht).mpr tS
        by_cases t2 : t < z
        · rw [if_pos t2, if_pos ((ha t tL).mpr t2)]
          omega
        · rw [if_neg t2, if_neg fun x => t2 ((ha t tL).mp x)]
          omega
  · show 0 ≤ p t - g0 t ∧ p t - g0 t ≤ if t ∈ S then 0 else c t
    rw [g0e t ht]
    have := hb t ht
    by_cases tS : t ∈ S
    · rw [if_pos tS, if_pos tS, hs t ht tS]
      omega
    · rw [if_neg tS, if_neg tS]
      omega
section
open PySem PySem.Spec PyProof.Rows L2 StX Evl
def iSeq (K : PySem.W.Frag) (tl : TE) : TI := fun σ H R => tl σ H fun x H1 => ∃ a, x = .ref a ∧ (((∃ xs, SqT K H1 a xs) ∧ R (Itt K a) H1) ∨ ((∃ xs, SqL K H1 a xs) ∧ R (Itl K a) H1))
theorem pi_seq {X : Cx} {tg : Expr} {l : Expr} {tl : TE} (hl : PE X l tl) : PI X tg l (iSeq X.K tl) := by
  refine ⟨fun pins s σ H R I h => ?_⟩
  refine thn (hl.run pins s σ H _ I h) fun v s1 ⟨x, H1, I1, r1, q1⟩ => ?_
  obtain ⟨a, e, q⟩ := q1
  subst e
  cases r1
  rcases q with ⟨⟨xs, hq⟩, q⟩ | ⟨⟨xs, hq⟩, q⟩
  · obtain ⟨its, rv, p, hz⟩ := I1.tuple hq
    refine wpAny_pyIter_tuple (show s1.heap.IsTuple a its.toArray from p) ?_
    refine ⟨s1.heap.objs.size, [s1.heap.objs.size], _, _, H1, rfl, I1.kept (t' := s1.toks) fun b o e => Heap.get?_push_of_some _ e, turn_tuple a _, ⟨_, Heap.get?_push_size _ rfl, rfl, rfl⟩, fun b hb => ?_, q⟩
    have e : b = s1.heap.objs.size := by simpa using hb
    subst e
    exact I1.fpOk (Nat.le_refl _) (I1.hok.fresh (Nat.le_refl _))
  · obtain ⟨its, rv, p, hz⟩ := I1.list hq
    refine wpAny_pyIter_list p.isList ?_
    refine ⟨s1.heap.objs.size, [s1.heap.objs.size], _, _, H1, rfl, I1.kept (t' := s1.toks) fun b o e => Heap.get?_push_of_some _ e, turn_list a _, ⟨_, Heap.get?_push_size _ rfl, rfl, rfl⟩, fun b hb => ?_, q⟩
    have e : b = s1.heap.objs.size := by simpa using hb
    subst e
    exact I1.fpOk (Nat.le_refl _) (I1.hok.fresh (Nat.le_refl _))
theorem s_forQ {K : PySem.W.Frag} {σ : L2.St} {H0 H : Hp} {D : Ends} {g : TG} {tu : TS} {a : Addr} {xs : List V} {tl : TE} (h : Ev tl σ H (.ref a)) (e0 : Ex H0 H) (hx : SqT K H0 a xs ∨ SqL K H0 a xs) (Pv : Nat → L2.St → Hp → Prop) (h0 : ∀ H1, Ex H H1 → Pv 0 σ H1) (hl : ∀ i σ' H', Pv i σ' H' → Ex H0 H')
    (hs : ∀ i x σ' H', xs[i]? = some x → Pv i σ' H' → g x σ' H' fun σ2 H2 => tu { D with nx := Pv (i + 1), ct := Pv (i + 1), bk := D.nx } σ2 H2) (hd : ∀ σ' H', Pv xs.length σ' H' → D.nx σ' H') : tFor (iSeq K tl) g tu D σ H :=
  h H (Ex.refl H) _ fun H1 e => ⟨a, rfl, hx.elim (fun hx => .inl ⟨⟨xs, ex_t (e0.trans e) hx⟩, for_tup Pv (h0 H1 e) (fun i s H' _ p => ex_t (hl i s H' p) hx) hs hd⟩) fun hx => .inr ⟨⟨xs, ex_l (e0.trans e) hx⟩, for_list Pv (h0 H1 e) (fun i s H' _ p => ex_l (hl i s H' p) hx) hs hd⟩⟩
theorem op_notInK {X : Cx} {K : PySem.W.Frag} (h : X.K = K) : OpR X (compareOp .NotIn) (rIn K true) := h ▸ op_notIn_seq
end
end Ck

namespace Ck
section
open PySem PySem.Spec PySem.SeqAt
open PySem.AutoSeq1 (wpAny_loadPart')
open PySem.MeetsSeq PySem.MeetsSeq2 PySem.MeetsSeq3 PySem.SeqRoads2
variable {prog : Program} {w : World}
variable {A : Around} {E : Value → Shared → Prop} {s : Shared}
end
open PySem PySem.Spec PyProof.Rows L2 StX Evl
section
variable {X : Cx}
end
section
variable {K : PySem.W.Frag} {σ : L2.St} {H : Hp} {ta tb : TE} {l : Addr} {qs : List (Int × Int)} {L : List (List (Int × Int))} {xs : List V}
end
end Ck

namespace Ck
open PySem PySem.Spec PyProof.Rows L2 StX Evl
theorem cf_perm {ps qs : List (Int × Int)} (h : (ps.map Prod.fst).Nodup) (p : qs.Perm ps) : cf qs = cf ps := by
  funext t
  unfold cf
  rw [cnt_perm h p]
theorem lotc_pws {qs : List (Int × Int)} (h : LotC qs) : Pws (qs.map Prod.fst) := by
  refine ⟨List.Pairwise.imp_of_mem (fun {a b} ha hb lt => ⟨lt, ?_⟩) h.asc, fun n hn => (cts_pos h.ct n hn).1⟩
  obtain ⟨p, hp, rfl⟩ := List.mem_map.mp hb
  exact h.dv a ha p hp lt
theorem lotc_sub {N : List Int} (hN : Pws N) {ts : List (Int × Int)} (hc : Cts ts) (ha : Asc ts) (hk : ∀ p ∈ ts, p.1 ∈ N) : LotC ts := by
  have key : ∀ x ∈ ts.map Prod.fst, x ∈ N := fun x hx => by
    obtain ⟨p, hp, rfl⟩ := List.mem_map.mp hx
    exact hk p hp
  exact ⟨hc, ha, isC_gap (List.Pairwise.imp_of_mem (fun {a b} h1 h2 lt => Int.emod_eq_zero_of_dvd (pws_dvd hN (key a h1) (key b h2) lt)) ha)⟩
def kept (qs : List (Int × Int)) (S : List Int) : List (Int × Int) := S.map fun s => (s, (cnt qs s).getD 0)
theorem kept_fst (qs : List (Int × Int)) (S : List Int) : (kept qs S).map Prod.fst = S := by
  unfold kept
  rw [List.map_map]
  exact (List.map_congr_left fun s _ => rfl).trans (List.map_id S)
theorem kept_lotc {qs : List (Int × Int)} {S : List Int} (hq : LotC qs) (asc : S.Pairwise (· < ·)) (sub : ∀ z ∈ S, z ∈ qs.map Prod.fst) : LotC (kept qs S) := by
  have hk : ∀ p ∈ kept qs S, p ∈ qs := fun p hp => by
    obtain ⟨s, hs, rfl⟩ := List.mem_map.mp hp
    obtain ⟨r, hr, e⟩ := List.mem_map.mp (sub s hs)
    have k := (cnt_mem hq.ct.nd).mp (show (r.1, r.2) ∈ qs from hr)
    rw [e] at k
    show (s, (cnt qs s).getD 0) ∈ qs
    rw [k, ← e]
    exact hr
  have nd : S.Nodup := asc.imp fun {a b} (h : a < b) (e : a = b) => by omega
  have ln := len_sub nd sub
  rw [List.length_map] at ln
  have l12 := hq.ct.ln
  refine lotc_sub (lotc_pws hq) ⟨by rw [kept_fst]; exact nd, by unfold kept; rw [List.length_map]; omega, fun p hp => hq.ct.ok p (hk p hp)⟩ (by unfold Asc; rw [kept_fst]; exact asc) fun p hp => List.mem_map_of_mem (hk p hp)
theorem kept_none {qs : List (Int × Int)} {S : List Int} {z : Int} (h : z ∉ S) : cnt (kept qs S) z = none := by
  cases e : cnt (kept qs S) z with
  | none => rfl
  | some m =>
    have k := cnt_key.mpr (show (cnt (kept qs S) z).isSome = true by rw [e]; rfl)
    rw [kept_fst] at k
    exact absurd k h
theorem cf_mem {qs : List (Int × Int)} (nd : (qs.map Prod.fst).Nodup) {p : Int × Int} (hp : p ∈ qs) : cf qs p.1 = p.2 := by
  unfold cf
  rw [(cnt_mem nd).mp (show (p.1, p.2) ∈ qs from hp)]
  rfl
theorem cf_nn {qs : List (Int × Int)} (hq : Cts qs) (t : Int) : 0 ≤ cf qs t := by
  unfold cf
  cases e : cnt qs t with
  | none => exact Int.le_refl 0
  | some v => exact Int.le_of_lt (siz_int (hq.ok _ ((cnt_mem hq.nd).mpr e)).2).1
theorem parts_mem : ∀ (n : Nat) (ws : List (Int × Int)), ws.length = n → Asc ws → ∀ X : List (Int × Int), Asc X → (∀ x ∈ X, ∃ y ∈ ws, x.1 = y.1 ∧ 0 < x.2 ∧ x.2 ≤ y.2) → X ∈ partsOf ws
  | 0, ws, hn, hw, X, hX, h => by
    rw [List.eq_nil_of_length_eq_zero hn] at h ⊢
    cases X with
    | nil => exact List.mem_singleton.mpr rfl
    | cons x r =>
      obtain ⟨y, hy, _⟩ := h x List.mem_cons_self
      cases hy
  | n + 1, ws, hn, hw, X, hX, h => by
    have hne : ws ≠ [] := fun e => by rw [e] at hn; cases hn
    have e : ws = ws.dropLast ++ [ws.getLast hne] := (List.dropLast_concat_getLast hne).symm
    have ih := parts_mem n ws.dropLast (by rw [List.length_dropLast, hn]; rfl)
    generalize ws.getLast hne = p at e
    generalize ws.dropLast = us at e ih
    subst e
    unfold Asc at hw
    rw [List.map_append, List.pairwise_append] at hw
    obtain ⟨w1, _, w3⟩ := hw
    have lt : ∀ y ∈ us, y.1 < p.1 := fun y hy => w3 y.1 (List.mem_map_of_mem hy) p.1 (List.mem_singleton.mpr rfl)
    rw [parts_snoc, List.mem_flatMap]
    by_cases ex : ∃ x ∈ X, x.1 = p.1
    · obtain ⟨x, hx, hxp⟩ := ex
      obtain ⟨A, B, rfl⟩ := List.append_of_mem hx
      unfold Asc at hX
      rw [List.map_append, List.pairwise_append] at hX
      obtain ⟨a1, a2, a3⟩ := hX
      have bn : B = [] := by
        cases B with
        | nil => rfl
        | cons z t =>
          have l := (List.pairwise_cons.mp a2).1 z.1 List.mem_cons_self
          obtain ⟨y, hy, hzy, _⟩ := h z (List.mem_append_right _ (List.mem_cons_of_mem _ List.mem_cons_self))
          rcases List.mem_append.mp hy with m | m
          · have := lt y m
            omega
          · rw [List.mem_singleton.mp m] at hzy
            omega
      subst bn
      obtain ⟨y, hy, hxy, x0, x1⟩ := h x hx
      have yp : y = p := by
        rcases List.mem_append.mp hy with m | m
        · have := lt y m
          omega
        · exact List.mem_singleton.mp m
      subst yp
      refine ⟨A, ih w1 A a1 fun a ha => ?_, ?_⟩
      · obtain ⟨b, hb, hab, k⟩ := h a (List.mem_append_left _ ha)
        rcases List.mem_append.mp hb with m | m
        · exact ⟨b, m, hab, k⟩
        · rw [List.mem_singleton.mp m] at hab
          have := a3 a.1 (List.mem_map_of_mem ha) x.1 List.mem_cons_self
          omega
      · refine List.mem_cons_of_mem _ (List.mem_map.mpr ⟨(x.2 - 1).toNat, List.mem_range.mpr (by omega), ?_⟩)
        rw [show (((x.2 - 1).toNat + 1 : Nat) : Int) = x.2 by omega, ← hxy]
    · refine ⟨X, ih w1 X hX fun x hx => ?_, List.mem_cons_self⟩
      obtain ⟨b, hb, hab, k⟩ := h x hx
      rcases List.mem_append.mp hb with m | m
      · exact ⟨b, m, hab, k⟩
      · rw [List.mem_singleton.mp m] at hab
        exact absurd ⟨x, hx, hab⟩ ex
theorem part_of {qs X : List (Int × Int)} (hq : LotC qs) (hX : X ∈ partsOf qs) : LotC X ∧ (∀ p ∈ X, p.1 ∈ qs.map Prod.fst) ∧ ∀ t, 0 ≤ cf X t ∧ cf X t ≤ cf qs t := by
  have sb := parts_keys _ _ rfl X hX
  have hk : ∀ p ∈ X, p.1 ∈ qs.map Prod.fst := fun p hp => sb.subset (List.mem_map_of_mem hp)
  have cx := parts_cts hq.ct hX
  refine ⟨lotc_sub (lotc_pws hq) cx (List.Pairwise.sublist sb hq.asc) hk, hk, fun t => ⟨cf_nn cx t, ?_⟩⟩
  cases e : cnt X t with
  | none =>
    have z := cf_nn hq.ct t
    show (cnt X t).getD 0 ≤ _
    rw [e]
    exact z
  | some v =>
    obtain ⟨y, hy, h1, h2, h3⟩ := parts_ok _ _ rfl X hX (t, v) ((cnt_mem cx.nd).mpr e)
    have h1 : t = y.1 := h1
    show (cnt X t).getD 0 ≤ _
    rw [e, h1, cf_mem hq.ct.nd hy]
    exact h3
theorem of_part {qs fs : List (Int × Int)} (hq : LotC qs) (hf : LotC fs) (hk : ∀ p ∈ fs, p.1 ∈ qs.map Prod.fst) (hb : ∀ t ∈ qs.map Prod.fst, cf fs t ≤ cf qs t) : fs ∈ partsOf qs := by
  refine parts_mem _ _ rfl hq.asc fs hf.asc fun x hx => ?_
  obtain ⟨y, hy, e⟩ := List.mem_map.mp (hk x hx)
  have k := hb x.1 (hk x hx)
  rw [cf_mem hf.ct.nd hx, ← e, cf_mem hq.ct.nd hy] at k
  exact ⟨y, hy, e.symm, (siz_int (hf.ct.ok x hx).2).1, k⟩
theorem fil_le {N L : List Int} {c U g h : Int → Int} (f : Fil N c U g L h) (nd : L.Nodup) (hz : ∀ t ∈ L, g t = 0) : ∀ t ∈ L, h t ≤ c t := fun t ht => by
  obtain ⟨as, bs, e⟩ := List.append_of_mem ht
  exact (f.at nd hz as t bs e).2.1
section
variable {qs rs fs X : List (Int × Int)}
theorem sto_nn (hr : StoOk rs) : ∀ r ∈ rs, 0 ≤ r.1 ∧ 0 ≤ r.2 := fun r h => by
  obtain ⟨x, y, z⟩ := hr.ok r h
  have := (siz_int x).1
  omega
theorem part_fe (hq : LotC qs) (hr : StoOk rs) (hX : LotC X) (hk : ∀ p ∈ X, p.1 ∈ qs.map Prod.fst) (fx : fitB X rs = true) : Fe (qs.map Prod.fst) (unt rs) (cf X) := (fe_fit (lotc_pws hq) hq.ct.nd hX.ct.nd hk (sto_nn hr)).mp fx
theorem lot_asc (hq : LotC qs) : (qs.map Prod.fst).Pairwise (· < ·) := hq.asc
theorem lot_pos (hq : LotC qs) : ∀ n ∈ qs.map Prod.fst, 0 < n := fun n hn => (cts_pos hq.ct n hn).1
theorem num_of (hq : LotC qs) (hX : LotC X) (hk : ∀ p ∈ X, p.1 ∈ qs.map Prod.fst) : numR X = Wsum (qs.map Prod.fst) (cf X) fun _ => 1 := num_cf hq.ct.nd hX.ct.nd hk
theorem best_things (hq : LotC qs) (hr : StoOk rs) (hf : LotC fs) (hk : ∀ p ∈ fs, p.1 ∈ qs.map Prod.fst) (f : Fil (qs.map Prod.fst) (cf qs) (unt rs) (fun _ => 0) (qs.map Prod.fst) (cf fs)) :
    fs ∈ partsOf qs ∧ ∀ X ∈ partsOf qs, fitB X rs = true → numR X ≤ numR fs := by
  refine ⟨of_part hq hf hk (fil_le f hq.ct.nd fun _ _ => rfl), fun X hX fx => ?_⟩
  obtain ⟨lx, kx, bx⟩ := part_of hq hX
  rw [num_of hq lx kx, num_of hq hf hk]
  exact fil_things (lot_asc hq) (lot_pos hq) f (fun t _ => bx t) (part_fe hq hr lx kx fx)
theorem best_total (hq : LotC qs) (hr : StoOk rs) (hf : LotC fs) (hk : ∀ p ∈ fs, p.1 ∈ qs.map Prod.fst) (f : Fil (qs.map Prod.fst) (cf qs) (unt rs) (fun _ => 0) (qs.map Prod.fst).reverse (cf fs)) :
    fs ∈ partsOf qs ∧ ∀ X ∈ partsOf qs, fitB X rs = true → tot X ≤ tot fs := by
  refine ⟨of_part hq hf hk fun t ht => fil_le f ((List.Perm.nodup_iff (List.reverse_perm _)).mpr hq.ct.nd) (fun _ _ => rfl) t (List.mem_reverse.mpr ht), fun X hX fx => ?_⟩
  obtain ⟨lx, kx, bx⟩ := part_of hq hX
  rw [tot_cf hq.ct.nd lx.ct.nd kx, tot_cf hq.ct.nd hf.ct.nd hk]
  exact fil_total (lot_asc hq) (lot_pos hq) (fun a ha b hb lt => pws_dvd (lotc_pws hq) ha hb lt) f (fun t _ => bx t) (part_fe hq hr lx kx fx)
theorem kept_cf {S : List Int} (hq : LotC qs) (asc : S.Pairwise (· < ·)) (sub : ∀ z ∈ S, z ∈ qs.map Prod.fst) (t : Int) : cf (kept qs S) t = if t ∈ S then cf qs t else 0 := by
  by_cases h : t ∈ S
  · rw [if_pos h]
    have m : (t, (cnt qs t).getD 0) ∈ kept qs S := List.mem_map.mpr ⟨t, h, rfl⟩
    exact cf_mem (kept_lotc hq asc sub).ct.nd m
  · rw [if_neg h]
    show (cnt (kept qs S) t).getD 0 = 0
    rw [kept_none h]
    rfl
theorem best_kept {S : List Int} (hq : LotC qs) (hr : StoOk rs) (asc : S.Pairwise (· < ·)) (sub : ∀ z ∈ S, z ∈ qs.map Prod.fst) (hf : LotC fs) (hk : ∀ p ∈ fs, p.1 ∈ qs.map Prod.fst) (ff : fitB fs rs = true)
    (f : Fil (qs.map Prod.fst) (cf qs) (unt rs) (cf (kept qs S)) ((qs.map Prod.fst).filter fun z => !decide (z ∈ S)) (cf fs)) :
    fs ∈ partsOf qs ∧ (∀ s ∈ S, cf fs s = cf qs s) ∧ ∀ X ∈ partsOf qs, fitB X rs = true → (∀ s ∈ S, cf X s = cf qs s) → numR X ≤ numR fs := by
  have nS : ∀ t, t ∈ (qs.map Prod.fst).filter (fun z => !decide (z ∈ S)) → t ∉ S := fun t ht hs => by
    have := (List.mem_filter.mp ht).2
    rw [decide_eq_true hs] at this
    cases this
  have hS : ∀ s ∈ S, cf fs s = cf qs s := fun s hs => by
    rw [f.keep fun x => nS s x hs, kept_cf hq asc sub, if_pos hs]
  have z0 : ∀ t ∈ (qs.map Prod.fst).filter (fun z => !decide (z ∈ S)), cf (kept qs S) t = 0 := fun t ht => by rw [kept_cf hq asc sub, if_neg (nS t ht)]
  refine ⟨of_part hq hf hk fun t ht => ?_, hS, fun X hX fx hx => ?_⟩
  · by_cases h : t ∈ S
    · rw [hS t h]
      exact Int.le_refl _
    · exact fil_le f (hq.ct.nd.filter _) z0 t (List.mem_filter.mpr ⟨ht, by rw [decide_eq_false h]; rfl⟩)
  · obtain ⟨lx, kx, bx⟩ := part_of hq hX
    rw [num_of hq lx kx, num_of hq hf hk]
    exact fil_rest (S := S) (lot_asc hq) (lot_pos hq) rfl (fun t _ => kept_cf hq asc sub t) f (part_fe hq hr hf hk ff) (fun t _ => bx t) (fun t _ h => hx t h) (part_fe hq hr lx kx fx)
theorem none_kept {S : List Int} (hq : LotC qs) (hr : StoOk rs) (asc : S.Pairwise (· < ·)) (sub : ∀ z ∈ S, z ∈ qs.map Prod.fst) (hX : X ∈ partsOf qs) (fx : fitB X rs = true) (hx : ∀ s ∈ S, cf X s = cf qs s) : fitB (kept qs S) rs = true := by
  obtain ⟨lx, kx, bx⟩ := part_of hq hX
  have kl := kept_lotc hq asc sub
  refine (fe_fit (lotc_pws hq) hq.ct.nd kl.ct.nd (fun p hp => ?_) (sto_nn hr)).mpr (fe_mono (lot_pos hq) (fun t _ => ?_) (part_fe hq hr lx kx fx))
  · have : p.1 ∈ (kept qs S).map Prod.fst := List.mem_map_of_mem hp
    rw [kept_fst] at this
    exact sub _ this
  · rw [kept_cf hq asc sub]
    split
    · rename_i h
      rw [hx t h]
      exact Int.le_refl _
    · exact (bx t).1
theorem lot_cf (h1 : LotC fs) (h2 : LotC X) (e : ∀ t, cf fs t = cf X t) : fs = X := by
  have key : ∀ {a b : List (Int × Int)}, LotC a → LotC b → (∀ t, cf a t = cf b t) → ∀ p ∈ a, p ∈ b := fun {a b} ha hb e p hp => by
    have k := e p.1
    rw [cf_mem ha.ct.nd hp] at k
    have p0 := (siz_int (ha.ct.ok p hp).2).1
    unfold cf at k
    cases hc : cnt b p.1 with
    | none =>
      rw [hc] at k
      have k : p.2 = 0 := k
      omega
    | some v =>
      rw [hc] at k
      have k : p.2 = v := k
      have m := (cnt_mem hb.ct.nd).mpr hc
      rw [← k] at m
      exact m
  refine asc_unique h1.asc h2.asc ((List.perm_ext_iff_of_nodup (nod_of h1.ct.nd) (nod_of h2.ct.nd)).mpr fun p => ⟨key h1 h2 e p, key h2 h1 (fun t => (e t).symm) p⟩)
end
end Ck

namespace Ck
open PySem PySem.Spec PyProof.Rows L2 StX Evl RZ
section
variable {K : PySem.W.Frag} {σ : L2.St} {H : Hp} {d : Addr} {tl te : TE} {tt : TT} {ns : List Int} {j : Nat} {ws : List Nat}
theorem lc_rollL (h : EvL tl σ H (ns.map V.int)) (hd : Dice H d) (hz : ns.length ≤ 40000) (hw : ∀ x, wipe ((wipe σ ws).set j (some x)) ws = wipe σ ws)
    (ht : ∀ n ∈ ns, ∀ H1, Kd d H H1 → ∀ Q : Bool → Hp → Prop, (∀ b H2, Kd d H1 H2 → Q b H2) → tt ((wipe σ ws).set j (some (.int n))) H1 Q) (hv : ∀ n H1, Ev te ((wipe σ ws).set j (some (.int n))) H1 (.int n))
    (Q : VK) (q : ∀ (D : Addr) (S : List Int) (H' : Hp), H D = none → D ≠ d → Kd d H H' → H' D = some (.lst (S.map V.int)) → S.Sublist ns → Q (.ref D) H') : tLc (iList K tl) (gName j) tt te ws σ H Q :=
  h H (Ex.refl H) _ fun l H1 nl e1 hl => ⟨l, rfl, ⟨_, SqL.of hl⟩, fun D hD => by
    have hd1 := hd.ex e1
    have ld := hd.ne nl
    have Dd := hd1.ne hD
    refine lc_it walk_list (fun k H' => Kd d H1 H' ∧ ∃ S : List Int, H' D = some (.lst (S.map V.int)) ∧ S.Sublist (ns.take k)) ⟨Kd.ex hd1 (Ex.new hD), [], upd_same, List.nil_sublist _⟩ (fun k H' _ p => SqL.of (p.1.1 _ _ ld hl)) ?_ (fun H' p => ?_)
    · rintro k x H2 H3 hk ⟨p1, S, p2, p3⟩ ⟨e3, hxi⟩
      rw [e3]
      rw [List.length_map] at hk
      rw [List.getElem?_map, List.getElem?_eq_getElem hk] at hxi
      obtain rfl := Option.some.inj hxi
      have st : ns.take (k + 1) = ns.take k ++ [ns[k]] := by rw [List.take_add_one, List.getElem?_eq_getElem hk]; rfl
      refine ⟨hw _, ht _ (List.getElem_mem hk) H2 ((Kd.ex hd e1).trans p1) _ fun b H4 k4 => ?_⟩
      have p4 := k4.1 _ _ Dd p2
      cases b with
      | true =>
        refine iteT (hv _ H4 H4 (Ex.refl H4) _ fun H5 e5 => ⟨_, e5 _ _ p4, sz_lt ?_, ⟨Kp.mut ((p1.trans k4).to e5).1 hD, ((p1.trans k4).to e5).2.put Dd⟩, S ++ [ns[k]], ?_, ?_⟩)
        · rw [List.length_map]
          have := p3.length_le
          rw [List.length_take] at this
          omega
        · rw [upd_same, List.map_append]
          rfl
        · rw [st]
          exact List.Sublist.append p3 (List.Sublist.refl _)
      | false =>
        refine iteF ⟨p1.trans k4, S, p4, ?_⟩
        rw [st]
        exact p3.trans (List.sublist_append_left _ _)
    · obtain ⟨p1, S, p2, p3⟩ := p
      rw [List.length_map, List.take_of_length_le (Nat.le_refl _)] at p3
      exact q D S H' (fresh_back e1 hD) Dd ((Kd.ex hd e1).trans p1) p2 p3⟩
theorem tup_rollL (h : EvL tl σ H (ns.map V.int)) (hd : Dice H d) (hz : ns.length ≤ 40000) (hw : ∀ x, wipe ((wipe σ ws).set j (some x)) ws = wipe σ ws)
    (ht : ∀ n ∈ ns, ∀ H1, Kd d H H1 → ∀ Q : Bool → Hp → Prop, (∀ b H2, Kd d H1 H2 → Q b H2) → tt ((wipe σ ws).set j (some (.int n))) H1 Q) (hv : ∀ n H1, Ev te ((wipe σ ws).set j (some (.int n))) H1 (.int n))
    (Q : VK) (q : ∀ (t : Addr) (S : List Int) (H' : Hp), Kd d H H' → SqT K H' t (S.map V.int) → S.Sublist ns → Q (.ref t) H') : tCB (rTupS K) (tCons (tLc (iList K tl) (gName j) tt te ws) tNil) σ H Q :=
  show tLc (iList K tl) (gName j) tt te ws σ H (fun v H1 => rTupS K [v] H1 Q) from lc_rollL (K := K) h hd hz hw ht hv _ fun D S H1 nD Dd k1 hD sb => ⟨D, _, rfl, .inl ⟨SqL.of hD, fun l nl => q l S _ (k1.to (Ex.new nl)) (SqT.of upd_same) sb⟩⟩
end
section
variable {X : Cx}
def rEqLE (K : PySem.W.Frag) : R2 := fun x y H Q => ∃ (a b : Addr) (xs : List V), x = .ref a ∧ y = .ref b ∧ SqL K H a xs ∧ SqL K H b [] ∧ Q (.bl (decide (xs.length = 0))) H
theorem op_eqLE (hu : X.A.units < cLine) : OpR X (compareOp .Eq) (rEqLE X.K) := by
  intro pins s σ H x y v u Q I rx ry h
  obtain ⟨a, b, xs, rfl, rfl, ha, hb, q⟩ := h
  cases (show v = Value.ref a from rx)
  cases (show u = Value.ref b from ry)
  obtain ⟨us, r1, p1, _⟩ := I.list ha
  obtain ⟨ws, r2, p2, _⟩ := I.list hb
  cases r2
  cases r1 with
  | nil => exact SeqAt.eq_listAt (e := fun _ => true) p1.isList p2.isList rfl hu (fun j h1 h2 => absurd h2 (Nat.not_lt_zero j)) ⟨.bl _, H, I, rfl, q⟩
  | cons r t =>
    refine SeqAt.eq_list_lengthsAt p1.isList p2.isList ?_ hu ⟨.bl _, H, I, rfl, q⟩
    simp
end
section
variable {X : Cx}
variable {K : PySem.W.Frag} {σ : L2.St} {H : Hp} {tl te : TE} {l : Addr} {xs : List V} {j : Nat} {ws : List Nat}
end
def Fit (qs ss : List (Int × Int)) : List (List (Int × Int)) := (partsOf qs).filter fun X => fitB X ss
def TopN (ns : List Int) (n : Int) : Prop := n ∈ ns ∧ ∀ y ∈ ns, y ≤ n
section
variable {qs ss fs X : List (Int × Int)} {n : Int}
theorem fit_mem : X ∈ Fit qs ss ↔ X ∈ partsOf qs ∧ fitB X ss = true := List.mem_filter
theorem nil_part : ∀ qs : List (Int × Int), [] ∈ partsOf qs := fun qs => by
  have key : ∀ (qs : List (Int × Int)) (acc : List (List (Int × Int))), [] ∈ acc → [] ∈ qs.foldl (fun acc p => acc.flatMap (ext1 p)) acc := by
    intro qs
    induction qs with
    | nil => exact fun acc h => h
    | cons p r ih => exact fun acc h => ih _ (List.mem_flatMap.mpr ⟨[], h, List.mem_cons_self⟩)
  exact key qs [[]] (List.mem_singleton.mpr rfl)
theorem fit_nil' : [] ∈ Fit qs ss := fit_mem.mpr ⟨nil_part qs, rfl⟩
theorem top_ex (f : List (Int × Int) → Int) : ∃ n, TopN ((Fit qs ss).map f) n := by
  obtain ⟨M, h⟩ := max_ex ((Fit qs ss).map f)
  exact ⟨M, h fun e => by
    have := List.map_eq_nil_iff.mp e
    have k := fit_nil' (qs := qs) (ss := ss)
    rw [this] at k
    cases k⟩
theorem top_eq (f : List (Int × Int) → Int) (h : TopN ((Fit qs ss).map f) n) (hf : fs ∈ Fit qs ss) (hb : ∀ X ∈ partsOf qs, fitB X ss = true → f X ≤ f fs) : f fs = n := by
  obtain ⟨h1, h2⟩ := h
  obtain ⟨X, hX, e⟩ := List.mem_map.mp h1
  have a := hb X (fit_mem.mp hX).1 (fit_mem.mp hX).2
  have b := h2 (f fs) (List.mem_map_of_mem hf)
  omega
theorem part_partB (hq : LotC qs) (hX : X ∈ partsOf qs) : partB X qs = true := by
  unfold partB
  refine List.all_eq_true.mpr fun x hx => decide_eq_true ?_
  obtain ⟨lx, kx, bx⟩ := part_of hq hX
  have := (bx x.1).2
  rw [cf_mem lx.ct.nd hx] at this
  exact this
end
end Ck

namespace Ck
open PySem PySem.Spec PyProof.Rows L2 StX Evl
section
variable {N : List Int} {c U h : Int → Int}
theorem wsum_pt {p q f : Int → Int} : ∀ {ns : List Int}, (∀ t ∈ ns, p t ≤ q t ∧ 0 < f t) → Wsum ns q f ≤ Wsum ns p f → ∀ t ∈ ns, p t = q t
  | [], _, _, t, ht => nomatch ht
  | x :: r, h, le, t, ht => by
    have e : ∀ q : Int → Int, Wsum (x :: r) q f = q x * f x + Wsum r q f := fun q => by
      unfold Wsum
      rw [List.map_cons, List.sum_cons]
    rw [e, e] at le
    have m : Wsum r p f ≤ Wsum r q f := ws_mono fun y hy => ⟨(h y (List.mem_cons_of_mem _ hy)).1, Int.le_of_lt (h y (List.mem_cons_of_mem _ hy)).2⟩
    obtain ⟨a, b⟩ := h x List.mem_cons_self
    have k := Int.mul_le_mul_of_nonneg_right a (Int.le_of_lt b)
    have ex : p x = q x := by
      have z : q x * f x ≤ p x * f x := by omega
      have := Int.le_of_mul_le_mul_right z b
      omega
    rcases List.mem_cons.mp ht with rfl | ht
    · exact ex
    · rw [ex] at le
      exact wsum_pt (fun y hy => h y (List.mem_cons_of_mem _ hy)) (by omega) t ht
theorem no_more {w : Int → Int} (nd : N.Nodup) (wp : ∀ t ∈ N, 0 < w t) (hb : ∀ t ∈ N, 0 ≤ h t ∧ h t ≤ c t) (best : ∀ p : Int → Int, (∀ t ∈ N, 0 ≤ p t ∧ p t ≤ c t) → Fe N U p → Wsum N p w ≤ Wsum N h w) {z : Int} (hz : z ∈ N) (lt : h z < c z) : ¬ Fe N U (adC h z 1) := fun fe => by
  have k := best (adC h z 1) (fun t ht => by
    have := hb t ht
    unfold adC
    by_cases e : t = z
    · subst e
      rw [if_pos rfl]
      omega
    · rw [if_neg e]
      exact this) fe
  rw [adC_sum nd hz] at k
  have := wp z hz
  omega
theorem no_swap {w : Int → Int} (nd : N.Nodup) (hb : ∀ t ∈ N, 0 ≤ h t ∧ h t ≤ c t) (best : ∀ p : Int → Int, (∀ t ∈ N, 0 ≤ p t ∧ p t ≤ c t) → Fe N U p → Wsum N p w ≤ Wsum N h w) {z o : Int} (hz : z ∈ N) (ho : o ∈ N) (ne : o ≠ z) (h0 : 0 < h o) (wl : w o < w z) (lt : h z < c z) : ¬ Fe N U (adC (adC h z 1) o (-1)) := fun fe => by
  have k := best (adC (adC h z 1) o (-1)) (fun t ht => by
    have b1 := hb t ht
    unfold adC
    by_cases e : t = o
    · subst e
      rw [if_pos rfl, if_neg ne]
      omega
    · rw [if_neg e]
      by_cases e2 : t = z
      · subst e2
        rw [if_pos rfl]
        omega
      · rw [if_neg e2]
        exact b1) fe
  rw [adC_sum nd ho, adC_sum nd hz] at k
  omega
end
section
variable {ps qs ss X : List (Int × Int)} {N : List Int} {z n : Int}
def withC (ps : List (Int × Int)) (z n : Int) : List (Int × Int) := (putP ps (z, n)).filter fun p => decide (0 < p.2)
theorem withC_nd (nd : (ps.map Prod.fst).Nodup) : ((withC ps z n).map Prod.fst).Nodup := (List.filter_sublist.map Prod.fst).nodup (putP_nodup nd)
theorem withC_cf (hc : Cts ps) (n0 : 0 ≤ n) (t : Int) : cf (withC ps z n) t = if t = z then n else cf ps t := by
  show (cnt (withC ps z n) t).getD 0 = _
  unfold withC
  rw [cnt_fil (putP_nodup hc.nd), putP_cnt hc.nd]
  by_cases e : t = z
  · rw [if_pos e, if_pos e]
    show (if decide (0 < n) = true then some n else none).getD 0 = n
    by_cases k : 0 < n
    · rw [decide_eq_true k]
      rfl
    · rw [decide_eq_false k]
      show (0 : Int) = n
      omega
  · rw [if_neg e, if_neg e]
    show _ = (cnt ps t).getD 0
    cases hn : cnt ps t with
    | none => rfl
    | some v =>
      have := (siz_int (hc.ok _ ((cnt_mem hc.nd).mpr hn)).2).1
      have : 0 < v := this
      show (if decide (0 < v) = true then some v else none).getD 0 = v
      rw [decide_eq_true this]
      rfl
theorem withC_ok (hN : Pws N) (sN : ∀ x ∈ N, sizB x = true) (lN : N.length ≤ 12) (hc : Cts ps) (hk : ∀ p ∈ ps, p.1 ∈ N) (hz : z ∈ N) (hn : n.natAbs < 10 ^ 200) : Cts (withC ps z n) ∧ ∀ p ∈ withC ps z n, p.1 ∈ N := by
  have wm : ∀ p ∈ withC ps z n, p.1 ∈ N := fun p hp => by
    rcases (putP_mem p.1).mp (List.mem_map_of_mem (List.mem_filter.mp hp).1) with h | h
    · obtain ⟨r, hr, e⟩ := List.mem_map.mp h
      rw [← e]
      exact hk r hr
    · rw [h]
      exact hz
  have nd := withC_nd (z := z) (n := n) hc.nd
  refine ⟨⟨nd, ?_, fun p hp => ?_⟩, wm⟩
  · have l := len_sub nd (bs := N) fun x hx => by
      obtain ⟨p, hp, rfl⟩ := List.mem_map.mp hx
      exact wm p hp
    rw [List.length_map] at l
    omega
  · have p0 : 0 < p.2 := of_decide_eq_true (List.mem_filter.mp hp).2
    refine ⟨sN _ (wm p hp), ?_⟩
    have k := (cnt_mem (putP_nodup (p := (z, n)) hc.nd)).mp (show (p.1, p.2) ∈ putP ps (z, n) from (List.mem_filter.mp hp).1)
    rw [putP_cnt hc.nd] at k
    by_cases e : p.1 = z
    · rw [if_pos e] at k
      have k : n = p.2 := Option.some.inj k
      exact siz_of p0 (by rw [← k]; exact hn)
    · rw [if_neg e] at k
      exact (hc.ok _ ((cnt_mem hc.nd).mpr k)).2
theorem withC_lot (hN : Pws N) (hc : Cts X) (hk : ∀ p ∈ X, p.1 ∈ N) : LotC (srt X) := lotc_sub hN (hc.perm (srt_perm X)) (srt_asc hc.nd) fun p hp => hk p ((srt_perm X).mem_iff.mp hp)
theorem fit_srt (hN : Pws N) (nN : N.Nodup) (hr : ∀ r ∈ ss, 0 ≤ r.1 ∧ 0 ≤ r.2) (hc : Cts X) (hk : ∀ p ∈ X, p.1 ∈ N) : fitB (srt X) ss = true ↔ Fe N (unt ss) (cf X) := by
  have k := fe_fit hN nN (withC_lot hN hc hk).ct.nd (fun p hp => hk p ((srt_perm X).mem_iff.mp hp)) hr
  rw [k, cf_perm hc.nd (srt_perm X)]
theorem withC_fit (hN : Pws N) (nN : N.Nodup) (sN : ∀ x ∈ N, sizB x = true) (lN : N.length ≤ 12) (hr : ∀ r ∈ ss, 0 ≤ r.1 ∧ 0 ≤ r.2) (hc : Cts ps) (hk : ∀ p ∈ ps, p.1 ∈ N) (hz : z ∈ N) {d : Int} (h0 : 0 ≤ cf ps z + d) (hn : (cf ps z + d).natAbs < 10 ^ 200) : fitB (srt (withC ps z (cf ps z + d))) ss = true ↔ Fe N (unt ss) (adC (cf ps) z d) := by
  obtain ⟨a, b⟩ := withC_ok hN sN lN hc hk hz hn
  rw [fit_srt hN nN hr a b]
  have e : cf (withC ps z (cf ps z + d)) = adC (cf ps) z d := by
    funext t
    rw [withC_cf hc h0]
    unfold adC
    by_cases e : t = z
    · subst e
      rw [if_pos rfl]
    · rw [if_neg e, if_neg e]
  rw [e]
end
section
variable {X : Cx} {e : Expr} {te : TE} {p apos cpos pos : Pos}
open LiI
def rItemsR : V → Hp → VK → Prop := fun x H Q => ∃ (d : Addr) (kvs : List (Key × V)), x = .ref d ∧ Rd H d (.dK kvs) ∧
  ∀ (H' : Hp) (p : Addr) (ts : List Addr), (∀ b o, H b = some o → H' b = some o) → H p = none → (∀ t ∈ ts, H t = none) → p ∉ ts → H' p = some (.lst (ts.map V.ref)) → Paired (fun (t : Addr) (q : Key × V) => H' t = some (.tup [kV q.1, q.2])) ts kvs → Q (.ref p) H'
def tListItemsR (te : TE) : TE := fun σ H Q => te σ H fun x H1 => rItemsR x H1 Q
theorem pe_listItemsR (hc : X.calm = true) (he : PE X e te) (hg : Gl X "list") (hm : X.mg "list" = none) (hv : bootBuiltins "list" = some (.type "list")) (hbase : attributeBase e "items" X.env (eval e X.env) = eval e X.env := by rfl) (hline : (apos.endLine == cpos.line) = true := by rfl)
    (hs : starEach [.Call (.Attribute e "items" apos) [] [] cpos] X.env = (false, eval (.Call (.Attribute e "items" apos) [] [] cpos) X.env) :: starEach [] X.env := by rfl) :
    PE X (.Call (.Name "list" p) [.Call (.Attribute e "items" apos) [] [] cpos] [] pos) (tListItemsR te) := by
  refine ⟨fun pins s σ H Q I hq => ?_⟩
  refine wpAny_Call_Name_kw (ld_blt I hg hm hv ?_)
  refine PyProof.Rows.callWith_type1 ?_ hs rfl
  rw [hs]
  show wpAny _ _ (spliced ((false, eval (.Call (.Attribute e "items" apos) [] [] cpos) X.env) :: backTo pos (starEach [] X.env))) _ _ s
  refine Calls.spliced_cons ?_
  refine wpAny_Call_method (T := "dict") (id := "dict.items") hbase rfl hline F.plainAttrs_dict F.slot_dict_items F.type_dict_items (thn (he.run pins s σ H _ I hq) fun u s1 ⟨x, H1, I1, rx, d, kvs, ex, hd, q⟩ => ?_)
  subst ex
  obtain rfl : u = Value.ref d := rx
  obtain ⟨hz, hs0, vs, kv, hdo⟩ := dk_rd I1.hok hd
  obtain ⟨ep, hat⟩ := hdo.dictAt
  have lk : kvs.length = vs.length := Paired.length kv
  have I2 : Inv X pins σ H1 { s1 with heap := s1.heap.push { cls := .type "dict_items", data := .fields #[.ref d] } } := I1.kept (t' := s1.toks) fun b ob q => Heap.get?_push_of_some _ q
  refine ⟨hdo.typeIs, hdo.mapOf.noDict, ?_⟩
  show wpAny _ _ (callWith cpos (.builtin "dict.items") [.ref d] [] []) _ X.xe s1
  refine method_meetsIn F.slot_dict_items F.entry_dict_items rfl (PySem.evalArgs_none ⟨rfl, hdo.typeIs, F.args_dict_items_1 _, _, meets_dict_items (mixKind X.prog X.w) d hs0, ⟨vs, hdo⟩, ?_⟩)
  refine Calls.spliced_nil ?_
  refine PySem.W.kdx_call (knd := mixKind X.prog X.w) (kvs := vs) (ep := ep) (I1.ok.hd hc) ⟨_, Heap.get?_push_size _ rfl, rfl, rfl⟩ (hat.push _) (by omega) fun h' tk acc c as hk hS hl hG hacc => ?_
  obtain ⟨H', k1, k2, k3, k4, k5, k6, J⟩ := items_laid (tk := tk) I2 hz kv hk hS hl hG hacc
  exact ⟨.ref _, H', J, rfl, q H' _ as k1 k2 k3 k4 k5 k6⟩
end
section
variable {K : PySem.W.Frag} {σ : L2.St} {H : Hp} {te tl : TE} {d : Addr} {qs : List (Int × Int)}
theorem evp_itemsR (h : Ev te σ H (.ref d)) (hd : Rd H d (.dK (qs.map kc))) : EvP K (tListItemsR te) σ H qs := fun H1 e Q q => h H1 e _ fun H2 e2 => ⟨d, _, rfl, rd_up (e.trans e2) hd, fun H' p ts e3 hp _ _ hl hr => q p _ H' (fresh_back e2 hp) (e2.trans e3) hl (f2_of_paired hr)⟩
theorem merge_kcP : ∀ (more acc : List (Int × Int)), mergeK (acc.map kc) (more.map kc) = (merP acc more).map kc
  | [], acc => rfl
  | p :: r, acc => by
    show mergeK (putK (acc.map kc) (Sum.inl p.1 : Key) (.int p.2)) (r.map kc) = _
    rw [putP_kc, merge_kcP r (putP acc p)]
    rfl
theorem evd_dictM (h : EvP K tl σ H qs) : EvD (tCB (rDictP K) (tCons tl tNil)) σ H (merP [] qs) := fun H1 e1 Q q => h H1 e1 _ fun D vs H2 nD e2 hD hf => by
    obtain ⟨ts, rfl, hp⟩ := f2_refs hf
    exact ⟨D, ts, qs.map kc, rfl, SqL.of hD, hp, fun p hp2 => by
      have z := merge_kcP qs []
      rw [show ([] : List (Key × V)) = ([] : List (Int × Int)).map kc from rfl, z]
      exact q p _ (fresh_back e2 hp2) (e2.trans (Ex.new hp2)) upd_same⟩
end
section
theorem keys_loop {ps : List (Int × Int)} {g : Addr} {td : TE} {tb : TS} {j : Nat} {D : Ends} {σ : L2.St} {H : Hp} (hg : H g = some (.dK (ps.map kc))) (hv : ∀ H1, Ev td σ H1 (.ref g)) (S : L2.St → Prop) (hS : S σ)
    (hs : ∀ p ∈ ps, ∀ σ' H', Fz g (.dK (ps.map kc)) H H' → S σ' → ∀ D' : Ends, (∀ σ3 H3, S σ3 → Ex H' H3 → D'.nx σ3 H3) → tb D' (σ'.set j (some (.int p.1))) H')
    (hd : ∀ σ' H', S σ' → Ex H H' → D.nx σ' H') : tLock (tFor (iKeys td) (gName j) tb) D σ H := by
  refine ⟨g, _, hg, trivial, fun od => ?_⟩
  have z0 : Fz g (.dK (ps.map kc)) H (upd H g (.frz od (.dK (ps.map kc)))) := fz_of (od := od)
  have hf0 : upd H g (.frz od (.dK (ps.map kc))) g = some (.frz od (.dK (ps.map kc))) := upd_same
  refine hv _ _ (Ex.refl _) _ fun H2 e2 => ⟨g, od, rfl, .inl ⟨_, e2 _ _ hf0, ?_⟩⟩
  refine for_it walk_keys (fun i σ' H' => S σ' ∧ Ex H2 H') ⟨hS, Ex.refl _⟩ (fun i σ' H' _ h => h.2 _ _ (e2 _ _ hf0)) ?_ ?_
  · rintro i x σ' H3' H3 hi ⟨h1, h2⟩ ⟨rfl, k, v, hk, rfl⟩
    obtain ⟨p, hp, e, rfl, rfl⟩ := kc_at hk
    exact hs p hp σ' H3 ((z0.to e2).to h2) h1 _ fun σ3 H4 h3 e4 => ⟨h3, h2.trans e4⟩
  · rintro σ' H3 ⟨h1, h2⟩
    exact ⟨h2 _ _ (e2 _ _ hf0), hd _ _ h1 (((z0.to e2).to h2).back hg)⟩
end
end Ck

namespace Ck
open PySem PySem.Spec PyProof.Rows L2 StX Evl RZ
theorem fnb1 {x qual : Str} {st : Stmt} {ps : List Str} (e : ps.length = 1) (h : ∀ (kV doc pm : Value) (an : Option Addr) (cdv ct : Value) (a0 : Value), bindArgs (PySem.W.fnOf x qual (defArgs st) (defBody st) (defScope st) .none kV doc pm an cdv ct) ⟨[a0], []⟩ = pure (ps.zip [a0])) : ∀ (kV doc pm : Value) (an : Option Addr) (cdv ct : Value) (us : List Value), us.length = ps.length → bindArgs (PySem.W.fnOf x qual (defArgs st) (defBody st) (defScope st) .none kV doc pm an cdv ct) ⟨us, []⟩ = pure (ps.zip us) := by
  intro kV doc pm an cdv ct us hl
  rw [e] at hl
  match us, hl with
  | [a0], _ => exact h kV doc pm an cdv ct a0
theorem fnb2 {x qual : Str} {st : Stmt} {ps : List Str} (e : ps.length = 2) (h : ∀ (kV doc pm : Value) (an : Option Addr) (cdv ct : Value) (a0 a1 : Value), bindArgs (PySem.W.fnOf x qual (defArgs st) (defBody st) (defScope st) .none kV doc pm an cdv ct) ⟨[a0, a1], []⟩ = pure (ps.zip [a0, a1])) : ∀ (kV doc pm : Value) (an : Option Addr) (cdv ct : Value) (us : List Value), us.length = ps.length → bindArgs (PySem.W.fnOf x qual (defArgs st) (defBody st) (defScope st) .none kV doc pm an cdv ct) ⟨us, []⟩ = pure (ps.zip us) := by
  intro kV doc pm an cdv ct us hl
  rw [e] at hl
  match us, hl with
  | [a0, a1], _ => exact h kV doc pm an cdv ct a0 a1
theorem fnb3 {x qual : Str} {st : Stmt} {ps : List Str} (e : ps.length = 3) (h : ∀ (kV doc pm : Value) (an : Option Addr) (cdv ct : Value) (a0 a1 a2 : Value), bindArgs (PySem.W.fnOf x qual (defArgs st) (defBody st) (defScope st) .none kV doc pm an cdv ct) ⟨[a0, a1, a2], []⟩ = pure (ps.zip [a0, a1, a2])) : ∀ (kV doc pm : Value) (an : Option Addr) (cdv ct : Value) (us : List Value), us.length = ps.length → bindArgs (PySem.W.fnOf x qual (defArgs st) (defBody st) (defScope st) .none kV doc pm an cdv ct) ⟨us, []⟩ = pure (ps.zip us) := by
  intro kV doc pm an cdv ct us hl
  rw [e] at hl
  match us, hl with
  | [a0, a1, a2], _ => exact h kV doc pm an cdv ct a0 a1 a2
theorem fnb4 {x qual : Str} {st : Stmt} {ps : List Str} (e : ps.length = 4) (h : ∀ (kV doc pm : Value) (an : Option Addr) (cdv ct : Value) (a0 a1 a2 a3 : Value), bindArgs (PySem.W.fnOf x qual (defArgs st) (defBody st) (defScope st) .none kV doc pm an cdv ct) ⟨[a0, a1, a2, a3], []⟩ = pure (ps.zip [a0, a1, a2, a3])) : ∀ (kV doc pm : Value) (an : Option Addr) (cdv ct : Value) (us : List Value), us.length = ps.length → bindArgs (PySem.W.fnOf x qual (defArgs st) (defBody st) (defScope st) .none kV doc pm an cdv ct) ⟨us, []⟩ = pure (ps.zip us) := by
  intro kV doc pm an cdv ct us hl
  rw [e] at hl
  match us, hl with
  | [a0, a1, a2, a3], _ => exact h kV doc pm an cdv ct a0 a1 a2 a3
theorem fnb5 {x qual : Str} {st : Stmt} {ps : List Str} (e : ps.length = 5) (h : ∀ (kV doc pm : Value) (an : Option Addr) (cdv ct : Value) (a0 a1 a2 a3 a4 : Value), bindArgs (PySem.W.fnOf x qual (defArgs st) (defBody st) (defScope st) .none kV doc pm an cdv ct) ⟨[a0, a1, a2, a3, a4], []⟩ = pure (ps.zip [a0, a1, a2, a3, a4])) : ∀ (kV doc pm : Value) (an : Option Addr) (cdv ct : Value) (us : List Value), us.length = ps.length → bindArgs (PySem.W.fnOf x qual (defArgs st) (defBody st) (defScope st) .none kV doc pm an cdv ct) ⟨us, []⟩ = pure (ps.zip us) := by
  intro kV doc pm an cdv ct us hl
  rw [e] at hl
  match us, hl with
  | [a0, a1, a2, a3, a4], _ => exact h kV doc pm an cdv ct a0 a1 a2 a3 a4
end Ck

namespace Lk56
open PySem PySem.Spec PyProof.Rows L2 Ck RZ
def topS (i : Nat) : Stmt := PySem.Challenge.pw_chainpacks_k56_whole_great_lots_left_out.main.body.getD i (.Pass ⟨0, 0, 0, 0⟩)
abbrev s_is_integer : Stmt := topS 3
abbrev n_is_integer : List Str := ["value"]
theorem sc_is_integer : FnScope n_is_integer ["value"] (defScope s_is_integer) := ⟨rfl, rfl, rfl, by decide +kernel, rfl, by decide +kernel, by decide +kernel⟩
abbrev s_is_count : Stmt := topS 4
abbrev n_is_count : List Str := ["value"]
theorem sc_is_count : FnScope n_is_count ["value"] (defScope s_is_count) := ⟨rfl, rfl, rfl, by decide +kernel, rfl, by decide +kernel, by decide +kernel⟩
abbrev s_is_size : Stmt := topS 5
abbrev n_is_size : List Str := ["value"]
theorem sc_is_size : FnScope n_is_size ["value"] (defScope s_is_size) := ⟨rfl, rfl, rfl, by decide +kernel, rfl, by decide +kernel, by decide +kernel⟩
abbrev s_is_run : Stmt := topS 7
abbrev n_is_run : List Str := ["value"]
theorem sc_is_run : FnScope n_is_run ["value"] (defScope s_is_run) := ⟨rfl, rfl, rfl, by decide +kernel, rfl, by decide +kernel, by decide +kernel⟩
abbrev s_number_of_all : Stmt := topS 8
abbrev n_number_of_all : List Str := ["runs", "run"]
theorem sc_number_of_all : FnScope n_number_of_all ["runs"] (defScope s_number_of_all) := ⟨rfl, rfl, rfl, by decide +kernel, rfl, by decide +kernel, by decide +kernel⟩
abbrev s_units_of : Stmt := topS 9
abbrev n_units_of : List Str := ["runs", "size", "run"]
theorem sc_units_of : FnScope n_units_of ["runs", "size"] (defScope s_units_of) := ⟨rfl, rfl, rfl, by decide +kernel, rfl, by decide +kernel, by decide +kernel⟩
abbrev s_joined_runs : Stmt := topS 10
abbrev n_joined_runs : List Str := ["runs", "joined", "run"]
theorem sc_joined_runs : FnScope n_joined_runs ["runs"] (defScope s_joined_runs) := ⟨rfl, rfl, rfl, by decide +kernel, rfl, by decide +kernel, by decide +kernel⟩
abbrev s_check_size : Stmt := topS 21
abbrev n_check_size : List Str := ["value"]
theorem sc_check_size : FnScope n_check_size ["value"] (defScope s_check_size) := ⟨rfl, rfl, rfl, by decide +kernel, rfl, by decide +kernel, by decide +kernel⟩
abbrev s_check_count : Stmt := topS 22
abbrev n_check_count : List Str := ["value"]
theorem sc_check_count : FnScope n_check_count ["value"] (defScope s_check_count) := ⟨rfl, rfl, rfl, by decide +kernel, rfl, by decide +kernel, by decide +kernel⟩
abbrev s_first_gap : Stmt := topS 25
abbrev n_first_gap : List Str := ["sizes", "low", "high"]
theorem sc_first_gap : FnScope n_first_gap ["sizes"] (defScope s_first_gap) := ⟨rfl, rfl, rfl, by decide +kernel, rfl, by decide +kernel, by decide +kernel⟩
abbrev s_check_lot : Stmt := topS 28
abbrev n_check_lot : List Str := ["value"]
theorem sc_check_lot : FnScope n_check_lot ["value"] (defScope s_check_lot) := ⟨rfl, rfl, rfl, by decide +kernel, rfl, by decide +kernel, by decide +kernel⟩
abbrev s__are_counts : Stmt := topS 29
abbrev n__are_counts : List Str := ["value", "size", "count"]
theorem sc__are_counts : FnScope n__are_counts ["value"] (defScope s__are_counts) := ⟨rfl, rfl, rfl, by decide +kernel, rfl, by decide +kernel, by decide +kernel⟩
abbrev s_check_store : Stmt := topS 33
abbrev n_check_store : List Str := ["value"]
theorem sc_check_store : FnScope n_check_store ["value"] (defScope s_check_store) := ⟨rfl, rfl, rfl, by decide +kernel, rfl, by decide +kernel, by decide +kernel⟩
abbrev s_check_together : Stmt := topS 37
abbrev n_check_together : List Str := ["sizes", "gap"]
theorem sc_check_together : FnScope n_check_together ["sizes"] (defScope s_check_together) := ⟨rfl, rfl, rfl, by decide +kernel, rfl, by decide +kernel, by decide +kernel⟩
abbrev s_check_levels : Stmt := topS 38
abbrev n_check_levels : List Str := ["lot", "store"]
theorem sc_check_levels : FnScope n_check_levels ["lot", "store"] (defScope s_check_levels) := ⟨rfl, rfl, rfl, by decide +kernel, rfl, by decide +kernel, by decide +kernel⟩
abbrev s_levels_of : Stmt := topS 40
abbrev n_levels_of : List Str := ["lot", "store", "size"]
theorem sc_levels_of : FnScope n_levels_of ["lot", "store"] (defScope s_levels_of) := ⟨rfl, rfl, rfl, by decide +kernel, rfl, by decide +kernel, by decide +kernel⟩
abbrev s_fits : Stmt := topS 41
abbrev n_fits : List Str := ["lot", "store"]
theorem sc_fits : FnScope n_fits ["lot", "store"] (defScope s_fits) := ⟨rfl, rfl, rfl, by decide +kernel, rfl, by decide +kernel, by decide +kernel⟩
abbrev s_barring_sizes : Stmt := topS 42
abbrev n_barring_sizes : List Str := ["lot", "store", "size", "needed", "given"]
theorem sc_barring_sizes : FnScope n_barring_sizes ["lot", "store"] (defScope s_barring_sizes) := ⟨rfl, rfl, rfl, by decide +kernel, rfl, by decide +kernel, by decide +kernel⟩
abbrev s_spare : Stmt := topS 43
abbrev n_spare : List Str := ["lot", "store", "size", "levels", "each"]
theorem sc_spare : FnScope n_spare ["lot", "store", "size"] (defScope s_spare) := ⟨rfl, rfl, rfl, by decide +kernel, rfl, by decide +kernel, by decide +kernel⟩
abbrev s_check_most : Stmt := topS 45
abbrev n_check_most : List Str := ["lot", "store"]
theorem sc_check_most : FnScope n_check_most ["lot", "store"] (defScope s_check_most) := ⟨rfl, rfl, rfl, by decide +kernel, rfl, by decide +kernel, by decide +kernel⟩
abbrev s_most_things : Stmt := topS 47
abbrev n_most_things : List Str := ["lot", "store"]
theorem sc_most_things : FnScope n_most_things ["lot", "store"] (defScope s_most_things) := ⟨rfl, rfl, rfl, by decide +kernel, rfl, by decide +kernel, by decide +kernel⟩
abbrev s_most_total : Stmt := topS 48
abbrev n_most_total : List Str := ["lot", "store"]
theorem sc_most_total : FnScope n_most_total ["lot", "store"] (defScope s_most_total) := ⟨rfl, rfl, rfl, by decide +kernel, rfl, by decide +kernel, by decide +kernel⟩
abbrev s_keep_things : Stmt := topS 49
abbrev n_keep_things : List Str := ["lot", "store"]
theorem sc_keep_things : FnScope n_keep_things ["lot", "store"] (defScope s_keep_things) := ⟨rfl, rfl, rfl, by decide +kernel, rfl, by decide +kernel, by decide +kernel⟩
abbrev s_keep_total : Stmt := topS 50
abbrev n_keep_total : List Str := ["lot", "store"]
theorem sc_keep_total : FnScope n_keep_total ["lot", "store"] (defScope s_keep_total) := ⟨rfl, rfl, rfl, by decide +kernel, rfl, by decide +kernel, by decide +kernel⟩
abbrev s__filled : Stmt := topS 51
abbrev n__filled : List Str := ["part", "lot", "store", "sizes", "filled", "size"]
theorem sc__filled : FnScope n__filled ["part", "lot", "store", "sizes"] (defScope s__filled) := ⟨rfl, rfl, rfl, by decide +kernel, rfl, by decide +kernel, by decide +kernel⟩
abbrev s__is_fitting_part : Stmt := topS 52
abbrev n__is_fitting_part : List Str := ["lot", "store", "value"]
theorem sc__is_fitting_part : FnScope n__is_fitting_part ["lot", "store", "value"] (defScope s__is_fitting_part) := ⟨rfl, rfl, rfl, by decide +kernel, rfl, by decide +kernel, by decide +kernel⟩
abbrev s_is_kept_things : Stmt := topS 53
abbrev n_is_kept_things : List Str := ["lot", "store", "value", "most"]
theorem sc_is_kept_things : FnScope n_is_kept_things ["lot", "store", "value"] (defScope s_is_kept_things) := ⟨rfl, rfl, rfl, by decide +kernel, rfl, by decide +kernel, by decide +kernel⟩
abbrev s_is_kept_total : Stmt := topS 54
abbrev n_is_kept_total : List Str := ["lot", "store", "value", "most"]
theorem sc_is_kept_total : FnScope n_is_kept_total ["lot", "store", "value"] (defScope s_is_kept_total) := ⟨rfl, rfl, rfl, by decide +kernel, rfl, by decide +kernel, by decide +kernel⟩
abbrev s_keep_all_of : Stmt := topS 55
abbrev n_keep_all_of : List Str := ["lot", "store", "sizes", "part", "size"]
theorem sc_keep_all_of : FnScope n_keep_all_of ["lot", "store", "sizes"] (defScope s_keep_all_of) := ⟨rfl, rfl, rfl, by decide +kernel, rfl, by decide +kernel, by decide +kernel⟩
abbrev s__are_sizes_of : Stmt := topS 56
abbrev n__are_sizes_of : List Str := ["lot", "value", "size", "low", "high"]
theorem sc__are_sizes_of : FnScope n__are_sizes_of ["lot", "value"] (defScope s__are_sizes_of) := ⟨rfl, rfl, rfl, by decide +kernel, rfl, by decide +kernel, by decide +kernel⟩
abbrev s__law_dice : Stmt := topS 58
abbrev n__law_dice : List Str := ["script", "spot", "cell", "left"]
theorem sc__law_dice : FnScope n__law_dice ["script", "spot"] (defScope s__law_dice) := ⟨rfl, rfl, rfl, by decide +kernel, rfl, by decide +kernel, by decide +kernel⟩
abbrev s__law_roll : Stmt := topS 59
abbrev n__law_roll : List Str := ["dice", "total", "found", "one", "two"]
theorem sc__law_roll : FnScope n__law_roll ["dice", "total"] (defScope s__law_roll) := ⟨rfl, rfl, rfl, by decide +kernel, rfl, by decide +kernel, by decide +kernel⟩
abbrev s__law_pick : Stmt := topS 60
abbrev n__law_pick : List Str := ["dice", "items"]
theorem sc__law_pick : FnScope n__law_pick ["dice", "items"] (defScope s__law_pick) := ⟨rfl, rfl, rfl, by decide +kernel, rfl, by decide +kernel, by decide +kernel⟩
abbrev s__law_great : Stmt := topS 61
abbrev n__law_great : List Str := ["dice", "least", "way", "found", "turn"]
theorem sc__law_great : FnScope n__law_great ["dice", "least"] (defScope s__law_great) := ⟨rfl, rfl, rfl, by decide +kernel, rfl, by decide +kernel, by decide +kernel⟩
abbrev s__law_long_chain : Stmt := topS 62
abbrev n__law_long_chain : List Str := ["dice", "found", "turn", "step"]
theorem sc__law_long_chain : FnScope n__law_long_chain ["dice"] (defScope s__law_long_chain) := ⟨rfl, rfl, rfl, by decide +kernel, rfl, by decide +kernel, by decide +kernel⟩
abbrev s__law_great_lot : Stmt := topS 63
abbrev n__law_great_lot : List Str := ["dice", "sizes", "found", "size"]
theorem sc__law_great_lot : FnScope n__law_great_lot ["dice", "sizes"] (defScope s__law_great_lot) := ⟨rfl, rfl, rfl, by decide +kernel, rfl, by decide +kernel, by decide +kernel⟩
abbrev s__law_great_store : Stmt := topS 64
abbrev n__law_great_store : List Str := ["dice", "sizes", "found", "turn", "room"]
theorem sc__law_great_store : FnScope n__law_great_store ["dice", "sizes"] (defScope s__law_great_store) := ⟨rfl, rfl, rfl, by decide +kernel, rfl, by decide +kernel, by decide +kernel⟩
abbrev s__law_merged : Stmt := topS 65
abbrev n__law_merged : List Str := ["runs", "found", "room", "number"]
theorem sc__law_merged : FnScope n__law_merged ["runs"] (defScope s__law_merged) := ⟨rfl, rfl, rfl, by decide +kernel, rfl, by decide +kernel, by decide +kernel⟩
abbrev s__law_made_lot : Stmt := topS 66
abbrev n__law_made_lot : List Str := ["plain", "size"]
theorem sc__law_made_lot : FnScope n__law_made_lot ["plain"] (defScope s__law_made_lot) := ⟨rfl, rfl, rfl, by decide +kernel, rfl, by decide +kernel, by decide +kernel⟩
abbrev s__law_made_store : Stmt := topS 67
abbrev n__law_made_store : List Str := ["runs", "rest", "one", "two", "three", "four", "five", "six", "seven", "eight"]
theorem sc__law_made_store : FnScope n__law_made_store ["runs"] (defScope s__law_made_store) := ⟨rfl, rfl, rfl, by decide +kernel, rfl, by decide +kernel, by decide +kernel⟩
abbrev s__law_total : Stmt := topS 68
abbrev n__law_total : List Str := ["plain", "size"]
theorem sc__law_total : FnScope n__law_total ["plain"] (defScope s__law_total) := ⟨rfl, rfl, rfl, by decide +kernel, rfl, by decide +kernel, by decide +kernel⟩
abbrev s__law_units : Stmt := topS 69
abbrev n__law_units : List Str := ["plain", "size", "other"]
theorem sc__law_units : FnScope n__law_units ["plain", "size"] (defScope s__law_units) := ⟨rfl, rfl, rfl, by decide +kernel, rfl, by decide +kernel, by decide +kernel⟩
abbrev s__law_space : Stmt := topS 70
abbrev n__law_space : List Str := ["runs", "size", "room", "number"]
theorem sc__law_space : FnScope n__law_space ["runs", "size"] (defScope s__law_space) := ⟨rfl, rfl, rfl, by decide +kernel, rfl, by decide +kernel, by decide +kernel⟩
abbrev s__law_bars : Stmt := topS 71
abbrev n__law_bars : List Str := ["plain", "runs", "size"]
theorem sc__law_bars : FnScope n__law_bars ["plain", "runs"] (defScope s__law_bars) := ⟨rfl, rfl, rfl, by decide +kernel, rfl, by decide +kernel, by decide +kernel⟩
abbrev s__law_number : Stmt := topS 72
abbrev n__law_number : List Str := ["plain"]
theorem sc__law_number : FnScope n__law_number ["plain"] (defScope s__law_number) := ⟨rfl, rfl, rfl, by decide +kernel, rfl, by decide +kernel, by decide +kernel⟩
abbrev s__law_is_part : Stmt := topS 73
abbrev n__law_is_part : List Str := ["part", "plain", "size"]
theorem sc__law_is_part : FnScope n__law_is_part ["part", "plain"] (defScope s__law_is_part) := ⟨rfl, rfl, rfl, by decide +kernel, rfl, by decide +kernel, by decide +kernel⟩
abbrev s__law_counts_of : Stmt := topS 74
abbrev n__law_counts_of : List Str := ["lot"]
theorem sc__law_counts_of : FnScope n__law_counts_of ["lot"] (defScope s__law_counts_of) := ⟨rfl, rfl, rfl, by decide +kernel, rfl, by decide +kernel, by decide +kernel⟩
abbrev s__law_fits : Stmt := topS 75
abbrev n__law_fits : List Str := ["part", "runs"]
theorem sc__law_fits : FnScope n__law_fits ["part", "runs"] (defScope s__law_fits) := ⟨rfl, rfl, rfl, by decide +kernel, rfl, by decide +kernel, by decide +kernel⟩
abbrev s__law_with : Stmt := topS 76
abbrev n__law_with : List Str := ["part", "size", "count", "found", "one"]
theorem sc__law_with : FnScope n__law_with ["part", "size", "count"] (defScope s__law_with) := ⟨rfl, rfl, rfl, by decide +kernel, rfl, by decide +kernel, by decide +kernel⟩
abbrev s__law_are_best : Stmt := topS 77
abbrev n__law_are_best : List Str := ["plain", "runs", "most", "total", "size", "other"]
theorem sc__law_are_best : FnScope n__law_are_best ["plain", "runs", "most", "total"] (defScope s__law_are_best) := ⟨rfl, rfl, rfl, by decide +kernel, rfl, by decide +kernel, by decide +kernel⟩
abbrev s__law_most_of : Stmt := topS 78
abbrev n__law_most_of : List Str := ["plain", "runs", "kept", "size", "low", "high", "turn", "middle"]
theorem sc__law_most_of : FnScope n__law_most_of ["plain", "runs", "kept", "size"] (defScope s__law_most_of) := ⟨rfl, rfl, rfl, by decide +kernel, rfl, by decide +kernel, by decide +kernel⟩
abbrev s__law_wanted_right : Stmt := topS 79
abbrev n__law_wanted_right : List Str := ["dice", "plain", "runs", "lot", "store", "sizes", "kept", "told", "size"]
theorem sc__law_wanted_right : FnScope n__law_wanted_right ["dice", "plain", "runs", "lot", "store"] (defScope s__law_wanted_right) := ⟨rfl, rfl, rfl, by decide +kernel, rfl, by decide +kernel, by decide +kernel⟩
abbrev s__law_right : Stmt := topS 80
abbrev n__law_right : List Str := ["dice", "chain", "plain", "runs", "lot", "store", "most", "total", "part", "one", "other", "room", "wider"]
theorem sc__law_right : FnScope n__law_right ["dice"] (defScope s__law_right) := ⟨rfl, rfl, rfl, by decide +kernel, rfl, by decide +kernel, by decide +kernel⟩
abbrev s_law : Stmt := topS 81
abbrev n_law : List Str := ["script", "spot", "dice", "turn"]
theorem sc_law : FnScope n_law ["script"] (defScope s_law) := ⟨rfl, rfl, rfl, by decide +kernel, rfl, by decide +kernel, by decide +kernel⟩
abbrev s_Lot_init : Stmt := inClass (topS 30) 0
abbrev n_Lot_init : List Str := ["self", "counts", "told", "size"]
theorem sc_Lot_init : FnScope n_Lot_init ["self", "counts"] (defScope s_Lot_init) := ⟨rfl, rfl, rfl, by decide +kernel, rfl, by decide +kernel, by decide +kernel⟩
abbrev s_Lot_counts : Stmt := inClass (topS 30) 2
abbrev n_Lot_counts : List Str := ["self"]
theorem sc_Lot_counts : FnScope n_Lot_counts ["self"] (defScope s_Lot_counts) := ⟨rfl, rfl, rfl, by decide +kernel, rfl, by decide +kernel, by decide +kernel⟩
abbrev s_Lot_sizes : Stmt := inClass (topS 30) 3
abbrev n_Lot_sizes : List Str := ["self"]
theorem sc_Lot_sizes : FnScope n_Lot_sizes ["self"] (defScope s_Lot_sizes) := ⟨rfl, rfl, rfl, by decide +kernel, rfl, by decide +kernel, by decide +kernel⟩
abbrev s_Lot_number : Stmt := inClass (topS 30) 5
abbrev n_Lot_number : List Str := ["self"]
theorem sc_Lot_number : FnScope n_Lot_number ["self"] (defScope s_Lot_number) := ⟨rfl, rfl, rfl, by decide +kernel, rfl, by decide +kernel, by decide +kernel⟩
abbrev s_Lot_total : Stmt := inClass (topS 30) 6
abbrev n_Lot_total : List Str := ["self", "size", "count"]
theorem sc_Lot_total : FnScope n_Lot_total ["self"] (defScope s_Lot_total) := ⟨rfl, rfl, rfl, by decide +kernel, rfl, by decide +kernel, by decide +kernel⟩
abbrev s_Lot_units : Stmt := inClass (topS 30) 8
abbrev n_Lot_units : List Str := ["self", "size", "each"]
theorem sc_Lot_units : FnScope n_Lot_units ["self", "size"] (defScope s_Lot_units) := ⟨rfl, rfl, rfl, by decide +kernel, rfl, by decide +kernel, by decide +kernel⟩
abbrev s_Lot_is_part_of : Stmt := inClass (topS 30) 12
abbrev n_Lot_is_part_of : List Str := ["self", "value", "size", "count"]
theorem sc_Lot_is_part_of : FnScope n_Lot_is_part_of ["self", "value"] (defScope s_Lot_is_part_of) := ⟨rfl, rfl, rfl, by decide +kernel, rfl, by decide +kernel, by decide +kernel⟩
abbrev s_Lot_with_count : Stmt := inClass (topS 30) 13
abbrev n_Lot_with_count : List Str := ["self", "size", "number", "counts", "each", "count"]
theorem sc_Lot_with_count : FnScope n_Lot_with_count ["self", "size", "number"] (defScope s_Lot_with_count) := ⟨rfl, rfl, rfl, by decide +kernel, rfl, by decide +kernel, by decide +kernel⟩
abbrev s_Lot_getitem : Stmt := inClass (topS 30) 18
abbrev n_Lot_getitem : List Str := ["self", "at"]
theorem sc_Lot_getitem : FnScope n_Lot_getitem ["self", "at"] (defScope s_Lot_getitem) := ⟨rfl, rfl, rfl, by decide +kernel, rfl, by decide +kernel, by decide +kernel⟩
abbrev s_Lot_contains : Stmt := inClass (topS 30) 19
abbrev n_Lot_contains : List Str := ["self", "x"]
theorem sc_Lot_contains : FnScope n_Lot_contains ["self", "x"] (defScope s_Lot_contains) := ⟨rfl, rfl, rfl, by decide +kernel, rfl, by decide +kernel, by decide +kernel⟩
abbrev s_Lot_len : Stmt := inClass (topS 30) 21
abbrev s_Lot_eq : Stmt := inClass (topS 30) 22
abbrev s_Store_init : Stmt := inClass (topS 35) 0
abbrev n_Store_init : List Str := ["self", "runs", "run", "joined"]
theorem sc_Store_init : FnScope n_Store_init ["self", "runs"] (defScope s_Store_init) := ⟨rfl, rfl, rfl, by decide +kernel, rfl, by decide +kernel, by decide +kernel⟩
abbrev s_Store_units : Stmt := inClass (topS 35) 8
abbrev n_Store_units : List Str := ["self", "size"]
theorem sc_Store_units : FnScope n_Store_units ["self", "size"] (defScope s_Store_units) := ⟨rfl, rfl, rfl, by decide +kernel, rfl, by decide +kernel, by decide +kernel⟩
structure Bl (mg : Str → Option Value) : Prop where
  abs : mg "abs" = none
  all : mg "all" = none
  any : mg "any" = none
  bool : mg "bool" = none
  dict : mg "dict" = none
  int : mg "int" = none
  isinstance : mg "isinstance" = none
  len : mg "len" = none
  list : mg "list" = none
  max : mg "max" = none
  min : mg "min" = none
  range : mg "range" = none
  set : mg "set" = none
  sorted : mg "sorted" = none
  str : mg "str" = none
  sum : mg "sum" = none
  tuple : mg "tuple" = none
  zip : mg "zip" = none
structure Cs (mg : Str → Option Value) : Prop where
  one : True
  c_MAX_FIGURES : ∃ u, mg "MAX_FIGURES" = some u ∧ RelV (.int 200) u
  c_MAX_RUNS : ∃ u, mg "MAX_RUNS" = some u ∧ RelV (.int 40) u
  c_MAX_SIZES : ∃ u, mg "MAX_SIZES" = some u ∧ RelV (.int 12) u
def spLaw (K : PySem.W.Frag) : Sp := fun vs H Q _ => ∃ (a : Addr) (ns : List Int), vs = [.ref a] ∧ SqL K H a (ns.map V.int) ∧ ns.length ≤ 63 ∧ ∀ H', Q (.bl true) H'
section
variable {P : Program} {w : World} {K : PySem.W.Frag} {mg : Str → Option Value} {base : Heap}
theorem ok_int (B : Bl mg) (T : Cs mg) (D : Df K mg "is_integer" s_is_integer ["value"]) : Cl P w K mg base 1 "is_integer" (spNum K intB) := by
  refine cl_of D sc_is_integer (fun vs H Q E h => ?_) (fun f cdv A fr s H vs Q E hr h => ?_)
  · obtain ⟨x, b, rfl, _⟩ := h
    rfl
  · obtain ⟨x, b, rfl, hx, q⟩ := h
    refine ⟨_, (pss_cons (ps_if (pw_or (pt_not (pt_val (pe_callB call_isi (by rfl) B.isinstance bt_isinstance (pa_cons (pv 0) (pa_cons (pe_bltn (v := V.ty "int") (by rfl) B.int bt_int rfl) pa_nil))))) (pw_or1 (pt_val (pe_callB call_isi (by rfl) B.isinstance bt_isinstance (pa_cons (pv 0) (pa_cons (pe_bltn (v := V.ty "bool") (by rfl) B.bool bt_bool rfl) pa_nil)))))).pt (pss_one (ps_ret pe_bl)) pss_nil)
    (pss_cons (ps_if (pt_cmpR op_gt (pe_bits (pv 0)) (pe_op op_mul pe_int (pe_gc2 (by rfl) T.c_MAX_FIGURES)) (nomark _)) (pss_one (ps_ret pe_bl)) pss_nil)
     (pss_one (ps_ret (pe_cmpR op_le (pe_callB call_len_str (by rfl) B.len bt_len (pa_cons (pe_callTy call_str_int (by rfl) B.str bt_str (pa_cons (pe_callB call_abs (by rfl) B.abs bt_abs (pa_cons (pv 0) pa_nil)) pa_nil)) pa_nil)) (pe_gc2 (by rfl) T.c_MAX_FIGURES) (nomark _)))))), ?_⟩
    rcases hx with ⟨i, rfl, rfl⟩ | ⟨ho, rfl⟩
    · refine Evl.q_when (b := false) (Evl.et_is (Evl.et_or (Evl.et_not (Evl.et_B (ev_isi (Evl.ev_var rfl) Evl.ev_c (.ty _) (fun _ _ => .base (.int i)) (kit_ty (r := true) (by decide +kernel)))))
        (fun _ => Evl.et_B (ev_isi (Evl.ev_var rfl) Evl.ev_c (.ty _) (fun _ _ => .base (.int i)) (kit_ty (r := false) (by decide +kernel))))) rfl) (fun z => nomatch z) (fun _ H1 e1 => ?_)
      refine Evl.q_when (Evl.et_test (ev_i0 (ev_bits (Evl.ev_var rfl)) (ev_i Evl.ev_c Evl.ev_c (.inl (by decide))))) (fun z H2 e2 => ?_) (fun z H2 e2 => ?_)
      · have z' := bits_big (of_decide_eq_true z)
        rw [z'] at q
        exact q H2 (e1.trans e2)
      · have z' := bits_small (of_decide_eq_false z)
        refine Evl.s_ret (Evl.ev_is (ev_i0 (ev_lenS (ev_strI (ev_abs (Evl.ev_var rfl)) ?_) ?_) Evl.ev_c) (congrArg V.bl (short_eq i))) (fun H3 e3 => q H3 ((e1.trans e2).trans e3))
        · rw [abs_if]
          exact z'
        · rw [abs_if]
          have lt : i.natAbs < 10 ^ 600 := Nat.lt_trans (Nat.lt_of_lt_of_le Nat.lt_log2_self (Nat.pow_le_pow_right (by decide) z')) (by decide +kernel)
          exact Nat.le_trans ((num_len i.natAbs 600 (by decide)).mpr lt) (by decide)
    · cases ho with
      | no n h k =>
        refine Evl.q_when (b := true) (Evl.et_is (Evl.et_or (b := true) (Evl.et_not (Evl.et_B (ev_isi (Evl.ev_var rfl) Evl.ev_c (.ty _) (fun _ e => tyM e h) (kit_ty k)))) (fun z => nomatch z)) rfl) (fun _ H1 e1 => ?_) (fun z => nomatch z)
        exact q H1 e1
      | bl b h =>
        subst h
        refine Evl.q_when (b := true) (Evl.et_is (Evl.et_or (Evl.et_not (Evl.et_B (ev_isi (Evl.ev_var rfl) Evl.ev_c (.ty _) (fun _ _ => .base (.bl b)) (kit_ty (r := true) (by decide +kernel)))))
          (fun _ => Evl.et_B (ev_isi (Evl.ev_var rfl) Evl.ev_c (.ty _) (fun _ _ => .base (.bl b)) (kit_ty (r := true) (by decide +kernel))))) rfl) (fun _ H1 e1 => ?_) (fun z => nomatch z)
        exact q H1 e1
theorem ok_count (B : Bl mg) (D : Df K mg "is_count" s_is_count ["value"]) (C_is_integer : Cl P w K mg base 1 "is_integer" (spNum K intB)) : Cl P w K mg base 2 "is_count" (spNum K cntB) := by
  refine cl_of D sc_is_count (fun vs H Q E h => ?_) (fun f cdv A fr s H vs Q E hr h => ?_)
  · obtain ⟨x, b, rfl, _⟩ := h
    rfl
  · obtain ⟨x, b, rfl, hx, q⟩ := h
    refine ⟨_, (pss_one (ps_ret (pe_and (pcal C_is_integer hr (pa_cons (pv 0) pa_nil)) (pe_one (pe_cmpR op_ge (pv 0) pe_int (nomark _)))))), ?_⟩
    rcases hx with ⟨i, rfl, rfl⟩ | ⟨ho, rfl⟩
    · exact Evl.s_ret (Evl.ev_andV (ev_call1 (Evl.ev_var rfl) num_i) (fun _ => ev_i0 (Evl.ev_var rfl) Evl.ev_c)) q
    · exact Evl.s_ret (Evl.ev_is (Evl.ev_andV (b := true) (ev_call1 (Evl.ev_var rfl) (num_o ho)) (fun z => nomatch z)) rfl) q
theorem ok_size (B : Bl mg) (D : Df K mg "is_size" s_is_size ["value"]) (C_is_integer : Cl P w K mg base 1 "is_integer" (spNum K intB)) : Cl P w K mg base 2 "is_size" (spNum K sizB) := by
  refine cl_of D sc_is_size (fun vs H Q E h => ?_) (fun f cdv A fr s H vs Q E hr h => ?_)
  · obtain ⟨x, b, rfl, _⟩ := h
    rfl
  · obtain ⟨x, b, rfl, hx, q⟩ := h
    refine ⟨_, (pss_one (ps_ret (pe_and (pcal C_is_integer hr (pa_cons (pv 0) pa_nil)) (pe_one (pe_cmpR op_ge (pv 0) pe_int (nomark _)))))), ?_⟩
    rcases hx with ⟨i, rfl, rfl⟩ | ⟨ho, rfl⟩
    · exact Evl.s_ret (Evl.ev_andV (ev_call1 (Evl.ev_var rfl) num_i) (fun _ => ev_i0 (Evl.ev_var rfl) Evl.ev_c)) q
    · exact Evl.s_ret (Evl.ev_is (Evl.ev_andV (b := true) (ev_call1 (Evl.ev_var rfl) (num_o ho)) (fun z => nomatch z)) rfl) q

theorem ok_gapB (B : Bl mg) (D : Df K mg "first_gap" s_first_gap ["sizes"]) : Cg P w K mg base CX0 1 "first_gap" (spGapB K) := by
  refine cg_of D sc_first_gap (fun vs H Q E h => ?_) (fun f cdv A fr s H vs Q E hr hgd h => ?_)
  · obtain ⟨p, ns, rfl, _⟩ := h
    rfl
  · obtain ⟨p, ns, rfl, hp, hpos, q⟩ := h
    refine ⟨_, (pss_cons (ps_for PassesOwn.never rfl (pi_zipX (by rfl) B.zip (pa_cons (pv 0) (pa_cons (pe_slice sl_both (pv 0) (po_some pe_int) po_none) pa_nil))) (pg_tup (n := 2) rfl (pgs_cons (pg_name (i := 1) sc_first_gap.nd rfl (by first | exact Or.inl rfl | exact Or.inr rfl)) (pgs_cons (pg_name (i := 2) sc_first_gap.nd rfl (by first | exact Or.inl rfl | exact Or.inr rfl)) pgs_nil))) (pss_one (ps_if (pt_cmpR op_ne (pe_op op_mod (pv 2) (pv 1)) pe_int (nomark _)) (pss_one (ps_ret (pe_tup (pa_cons (pv 1) (pa_cons (pv 2) pa_nil))))) pss_nil)))
    (pss_one (ps_ret pe_non))), ?_⟩
    rcases hp with hp | ⟨hp, hne⟩
    · refine zip_goBL (K := K) rfl hp fun c hc => ?_
      have hp1 := Evl.ex_l (Evl.Ex.new (o := .lst ((ns.drop 1).map V.int)) hc) hp
      have hc1 : SqL K (upd H c (.lst ((ns.drop 1).map V.int))) c ((ns.drop 1).map V.int) := SqL.of upd_same
      have e0 : Evl.Ex H (upd H c (.lst ((ns.drop 1).map V.int))) := Evl.Ex.new hc
      generalize upd H c (.lst ((ns.drop 1).map V.int)) = H1 at hp1 hc1 e0 ⊢
      refine for_it (walk_zip (min_zip ns)) (fun i σ H' => Evl.Ex H1 H' ∧ (∃ y z, σ = [some (.ref p), y, z]) ∧ ∀ j, j < i → ns.getD (j + 1) 0 % ns.getD j 0 = 0) ⟨Evl.Ex.refl _, ⟨_, _, rfl⟩, fun j hj => absurd hj (Nat.not_lt_zero j)⟩
        (fun i σ H' _ h => ⟨Evl.ex_l h.1 hp1, Evl.ex_l h.1 hc1⟩) ?_ ?_
      · rintro i _ σ H' _ hi ⟨e1, ⟨y0, z0, rfl⟩, hj⟩ ⟨t, x, y, rfl, ht, rfl, hx, hy⟩
        obtain ⟨rfl, rfl, hi2⟩ := at_zip hx hy
        have lp : 0 < ns.getD i 0 := by
          rw [List.getD_eq_getElem?_getD, List.getElem?_eq_getElem (show i < ns.length by omega)]
          exact hpos _ (List.getElem_mem _)
        refine ⟨t, _, rfl, SqT.of upd_same, rfl, _, _, rfl, _, _, rfl, rfl, ?_⟩
        refine Evl.s_if (b := !decide (ns.getD (i + 1) 0 % ns.getD i 0 = 0)) (Evl.et_test (Evl.ev_is (ev_ne (ev_i (Evl.ev_var rfl) (Evl.ev_var rfl) lp) Evl.ev_c rfl) ?_)) (fun z H2 e2 => ?_) (fun z H2 e2 => ?_)
        · exact decI _ _
        · have e : gap ns = some (ns.getD i 0, ns.getD (i + 1) 0) := gap_some hi2 hj (by have z' := nt z; exact of_decide_eq_false z')
          rw [e] at q
          refine ed_tup (K := K) (ed_cons (ed_int (Evl.ev_var rfl)) (ed_cons (ed_int (Evl.ev_var rfl)) ed_nil)) (show 2 ≤ 100000 by decide) H2 (Evl.Ex.refl H2) _ (fun v H3 e3 hd => ?_)
          exact q v H3 (((e0.trans e1).trans (Evl.Ex.new ht)).trans (e2.trans e3)) hd
        · refine ⟨(e1.trans (Evl.Ex.new ht)).trans e2, ⟨_, _, rfl⟩, fun j hj2 => ?_⟩
          by_cases ej : j = i
          · rw [ej]; exact of_decide_eq_true (nf z)
          · exact hj j (by omega)
      · rintro σ H' ⟨e1, ⟨y0, z0, rfl⟩, hj⟩
        have e : gap ns = none := gap_none hj
        rw [e] at q
        exact q .non H' (e0.trans e1) .non
    · refine zip_goBT (K := K) rfl hp hne fun c hc => ?_
      have hp1 := Evl.ex_t (Evl.Ex.new (o := .tup ((ns.drop 1).map V.int)) hc) hp
      have hc1 : SqT K (upd H c (.tup ((ns.drop 1).map V.int))) c ((ns.drop 1).map V.int) := SqT.of upd_same
      have e0 : Evl.Ex H (upd H c (.tup ((ns.drop 1).map V.int))) := Evl.Ex.new hc
      generalize upd H c (.tup ((ns.drop 1).map V.int)) = H1 at hp1 hc1 e0 ⊢
      refine for_it (walk_zipT (min_zip ns)) (fun i σ H' => Evl.Ex H1 H' ∧ (∃ y z, σ = [some (.ref p), y, z]) ∧ ∀ j, j < i → ns.getD (j + 1) 0 % ns.getD j 0 = 0) ⟨Evl.Ex.refl _, ⟨_, _, rfl⟩, fun j hj => absurd hj (Nat.not_lt_zero j)⟩
        (fun i σ H' _ h => ⟨Evl.ex_t h.1 hp1, Evl.ex_t h.1 hc1⟩) ?_ ?_
      · rintro i _ σ H' _ hi ⟨e1, ⟨y0, z0, rfl⟩, hj⟩ ⟨t, x, y, rfl, ht, rfl, hx, hy⟩
        obtain ⟨rfl, rfl, hi2⟩ := at_zip hx hy
        have lp : 0 < ns.getD i 0 := by
          rw [List.getD_eq_getElem?_getD, List.getElem?_eq_getElem (show i < ns.length by omega)]
          exact hpos _ (List.getElem_mem _)
        refine ⟨t, _, rfl, SqT.of upd_same, rfl, _, _, rfl, _, _, rfl, rfl, ?_⟩
        refine Evl.s_if (b := !decide (ns.getD (i + 1) 0 % ns.getD i 0 = 0)) (Evl.et_test (Evl.ev_is (ev_ne (ev_i (Evl.ev_var rfl) (Evl.ev_var rfl) lp) Evl.ev_c rfl) ?_)) (fun z H2 e2 => ?_) (fun z H2 e2 => ?_)
        · exact decI _ _
        · have e : gap ns = some (ns.getD i 0, ns.getD (i + 1) 0) := gap_some hi2 hj (by have z' := nt z; exact of_decide_eq_false z')
          rw [e] at q
          refine ed_tup (K := K) (ed_cons (ed_int (Evl.ev_var rfl)) (ed_cons (ed_int (Evl.ev_var rfl)) ed_nil)) (show 2 ≤ 100000 by decide) H2 (Evl.Ex.refl H2) _ (fun v H3 e3 hd => ?_)
          exact q v H3 (((e0.trans e1).trans (Evl.Ex.new ht)).trans (e2.trans e3)) hd
        · refine ⟨(e1.trans (Evl.Ex.new ht)).trans e2, ⟨_, _, rfl⟩, fun j hj2 => ?_⟩
          by_cases ej : j = i
          · rw [ej]; exact of_decide_eq_true (nf z)
          · exact hj j (by omega)
      · rintro σ H' ⟨e1, ⟨y0, z0, rfl⟩, hj⟩
        have e : gap ns = none := gap_none hj
        rw [e] at q
        exact q .non H' (e0.trans e1) .non

def spChkN (f : Int → Bool) : Sp := fun vs H Q _ => ∃ a : Int, vs = [.int a] ∧ f a = true ∧ ∀ H', Evl.Ex H H' → Q .non H'
theorem ok_chks (B : Bl mg) (D : Df K mg "check_size" s_check_size ["value"]) (C_is_size : Cl P w K mg base 2 "is_size" (spNum K sizB)) : Cl P w K mg base 3 "check_size" (spChkN sizB) := by
  refine cl_of D sc_check_size (fun vs H Q E h => ?_) (fun f cdv A fr s H vs Q E hr h => ?_)
  · obtain ⟨a, rfl, _⟩ := h
    rfl
  · obtain ⟨a, rfl, ha, q⟩ := h
    refine ⟨_, (pss_one (ps_if (pt_not (pt_val (pcal C_is_size hr (pa_cons (pv 0) pa_nil)))) (pss_one ps_never) pss_nil)), ?_⟩
    exact Evl.s_when (b := false) (Evl.et_is (Evl.et_not (Evl.et_B (ev_call1 (Evl.ev_var rfl) num_i))) (by rw [ha]; rfl)) (fun z => nomatch z) (fun _ H1 e1 => q H1 e1)
theorem ok_chkn (B : Bl mg) (D : Df K mg "check_count" s_check_count ["value"]) (C_is_count : Cl P w K mg base 2 "is_count" (spNum K cntB)) : Cg P w K mg base CX0 3 "check_count" (spChkN cntB) := by
  refine cg_of D sc_check_count (fun vs H Q E h => ?_) (fun f cdv A fr s H vs Q E hr hgd h => ?_)
  · obtain ⟨a, rfl, _⟩ := h
    rfl
  · obtain ⟨a, rfl, ha, q⟩ := h
    refine ⟨_, (pss_one (ps_if (pt_not (pt_val (pcal C_is_count hr (pa_cons (pv 0) pa_nil)))) (pss_one ps_never) pss_nil)), ?_⟩
    exact Evl.s_when (b := false) (Evl.et_is (Evl.et_not (Evl.et_B (ev_call1 (Evl.ev_var rfl) num_i))) (by rw [ha]; rfl)) (fun z => nomatch z) (fun _ H1 e1 => q H1 e1)
theorem chkn_v {f : Int → Bool} {H : Hp} {a : Int} (h : f a = true) : Evl.SpV (spChkN f) [.int a] H .non := fun H1 e Q q E => ⟨a, rfl, h, q⟩
theorem ok_chklot (B : Bl mg) {CL : Addr} (LT_Lot : LotT K mg CL) (D : Df K mg "check_lot" s_check_lot ["value"]) : Cl P w K mg base 1 "check_lot" (spIsLot K CL) := by
  refine cl_of D sc_check_lot (fun vs H Q E h => ?_) (fun f cdv A fr s H vs Q E hr h => ?_)
  · obtain ⟨a, ps, rfl, _⟩ := h
    rfl
  · obtain ⟨a, ps, rfl, hl, q⟩ := h
    refine ⟨_, (pss_one (ps_if (pt_not (pt_val (pe_callB call_isi (by rfl) B.isinstance bt_isinstance (pa_cons (pv 0) (pa_cons (pe_glob (v := V.ref _) (by rfl) LT_Lot.k.g rfl) pa_nil))))) (pss_one ps_never) pss_nil)), ?_⟩
    obtain ⟨dx, t1, t2, d, ts, h1, _⟩ := hl.ex
    exact Evl.s_when (b := false) (Evl.et_is (Evl.et_not (Evl.et_B (ev_isi (Evl.ev_var rfl) Evl.ev_c (.own CL) (fun H1 e => LT_Lot.k.ty (e _ _ h1)) kit_self))) rfl) (fun z => nomatch z) (fun _ H1 e1 => q H1 e1)
theorem ok_arec (B : Bl mg) (T : Cs mg) (D : Df K mg "_are_counts" s__are_counts ["value"]) (C_is_size : Cl P w K mg base 2 "is_size" (spNum K sizB)) : Cl P w K mg base 3 "_are_counts" (spAreC K) := by
  refine cl_of D sc__are_counts (fun vs H Q E h => ?_) (fun f cdv A fr s H vs Q E hr h => ?_)
  · obtain ⟨d, ps, rfl, _⟩ := h
    rfl
  · obtain ⟨d, ps, rfl, hd, hc, q⟩ := h
    refine ⟨_, (pss_cons (ps_if (pw_or (pt_not (pt_val (pe_callB call_isi (by rfl) B.isinstance bt_isinstance (pa_cons (pv 0) (pa_cons (pe_bltn (v := V.ty "dict") (by rfl) B.dict bt_dict rfl) pa_nil))))) (pw_or1 (pt_cmpR op_gt (pe_callB call_lenD (by rfl) B.len bt_len (pa_cons (pv 0) pa_nil)) (pe_gc2 (by rfl) T.c_MAX_SIZES) (nomark _)))).pt (pss_one (ps_ret pe_bl)) pss_nil)
    (pss_one (ps_ret (pe_callB (cr_all rfl) (by rfl) B.all bt_all (pa_cons (pe_lock (pe_lc (own := [("size", 1), ("count", 2)]) (g := (gTup K 2 (gCons (gName 1) (gCons (gName 2) gNil)))) rfl sc__are_counts.nd (pi_items (pv 0)) (blkOk_by (own := [("size", 1), ("count", 2)]) (N := n__are_counts) (sc := defScope s__are_counts) (by decide +kernel)) (fun _ _ _ _ _ => (pg_tup (n := 2) rfl (pgs_cons (pg_name (i := 1) sc__are_counts.nd rfl (by first | exact Or.inl rfl | exact Or.inr rfl)) (pgs_cons (pg_name (i := 2) sc__are_counts.nd rfl (by first | exact Or.inl rfl | exact Or.inr rfl)) pgs_nil)))) (fun _ _ _ _ _ => pts_nil) (fun _ _ _ _ _ => (pe_and (pcal C_is_size hr (pa_cons (pv 1) pa_nil)) (pe_one (pcal C_is_size hr (pa_cons (pv 2) pa_nil))))))) pa_nil))))), ?_⟩
    have hl := hc.ln
    refine Evl.q_when (b := false) (Evl.et_is (Evl.et_or (Evl.et_not (Evl.et_B (ev_isi (Evl.ev_var rfl) Evl.ev_c (.ty _) (fun H1 e => .base (.dK (e _ _ hd))) (kit_ty (r := true) (by decide +kernel)))))
      (fun _ => Evl.et_test (ev_i0 (ev_lenD (Evl.ev_var rfl) hd) Evl.ev_c))) ?_) (fun z => nomatch z) (fun _ H1 e1 => ?_)
    · rw [List.length_map]
      exact decide_eq_false (by omega)
    refine Evl.s_ret (Evl.ev_is (ev_all (K := K) (bs := (List.range (ps.map kc).length).map fun _ => true) (Ck.el_is (el_lcI (fun _ => true) (fun _ => .bl true) (fun _ => Evl.ev_var rfl) (e1 _ _ hd) (by rw [List.length_map]; omega) (fun _ _ => rfl) (fun _ _ _ H2 _ _ H3 _ Q q => q H3 (Evl.Ex.refl H3)) (fun i k x H2 hk _ _ => ?_)) ?_)) ?_) (fun H2 e2 => q H2 (e1.trans e2))
    · rw [List.getElem?_map] at hk
      obtain ⟨p, hp, e⟩ := Option.map_eq_some_iff.mp hk
      obtain ⟨rfl, rfl⟩ := Prod.mk.inj e
      obtain ⟨s1, s2⟩ := hc.ok p (List.mem_of_getElem? hp)
      exact Evl.ev_is (Evl.ev_andV (ev_call1 (Evl.ev_var rfl) num_i) (fun _ => ev_call1 (Evl.ev_var rfl) num_i)) (by rw [s1, s2]; rfl)
    · rw [given_all, List.map_map]
      rfl
    · rw [List.all_map]
      exact congrArg V.bl (List.all_eq_true.mpr fun _ _ => rfl)
theorem ok_lotsizes {CL : Addr} (LT_Lot : LotT K mg CL) (D : Dpr K CL "sizes" "Lot.sizes" s_Lot_sizes) : Pg P w K mg base 1 CL "sizes" (spSizes K CL) := by
  refine pg_of LT_Lot.k.cl D sc_Lot_sizes (fun vs H Q E h => ?_) (fun f cdv A fr s H vs Q E hr h => ?_)
  · obtain ⟨a, ps, rfl, _⟩ := h
    rfl
  · obtain ⟨a, ps, rfl, hl, q⟩ := h
    refine ⟨_, (pss_one (ps_ret (pe_fld (pv 0) rfl))), ?_⟩
    obtain ⟨dx, t1, t2, d, ts, h1, h2, _⟩ := hl.ex
    exact ⟨_, rfl, a, CL, dx, _, _, rfl, h1, LT_Lot.k.cl, LT_Lot.n1, lot_sizes t1 t2 d, q t1 H (Evl.Ex.refl H) h2⟩
theorem ok_lottotal (B : Bl mg) {CL : Addr} (LT_Lot : LotT K mg CL) (D : Dpr K CL "total" "Lot.total" s_Lot_total) : Pg P w K mg base 1 CL "total" (spTotal K CL) := by
  refine pg_of LT_Lot.k.cl D sc_Lot_total (fun vs H Q E h => ?_) (fun f cdv A fr s H vs Q E hr h => ?_)
  · obtain ⟨a, ps, rfl, _⟩ := h
    rfl
  · obtain ⟨a, ps, rfl, hl, hc, q⟩ := h
    refine ⟨_, (pss_one (ps_ret (pe_callB (cr_sum rfl) (by rfl) B.sum bt_sum (pa_cons (pe_lc (own := [("size", 1), ("count", 2)]) (g := (gTup K 2 (gCons (gName 1) (gCons (gName 2) gNil)))) rfl sc_Lot_total.nd (pi_tup (pe_fld (pv 0) rfl)) (blkOk_by (own := [("size", 1), ("count", 2)]) (N := n_Lot_total) (sc := defScope s_Lot_total) (by decide +kernel)) (fun _ _ _ _ _ => (pg_tup (n := 2) rfl (pgs_cons (pg_name (i := 1) sc_Lot_total.nd rfl (by first | exact Or.inl rfl | exact Or.inr rfl)) (pgs_cons (pg_name (i := 2) sc_Lot_total.nd rfl (by first | exact Or.inl rfl | exact Or.inr rfl)) pgs_nil)))) (fun _ _ _ _ _ => pts_nil) (fun _ _ _ _ _ => (pe_op op_mulW (pv 1) (pv 2)))) pa_nil)))), ?_⟩
    obtain ⟨dx, t1, t2, d, ts, h1, h2, h3, h4, h5⟩ := hl.ex
    refine Evl.s_ret (Evl.ev_is (ev_sum (K := K) (ns := ps.map fun p => p.1 * p.2) (Ck.el_is (el_lcP (fun p => .int (p.1 * p.2)) (ev_fldL (Evl.ev_var rfl) h1 LT_Lot.k.cl LT_Lot.n2 (lot_pairs t1 t2 d)) h3 h4 (by have := hc.ln; omega) (fun _ _ => rfl) (fun p hp H1 _ => ?_)) ?_)) rfl) q
    · obtain ⟨s1, s2⟩ := hc.ok p hp
      exact ev_i (g := fun i j => .int (i * j)) (Evl.ev_var rfl) (Evl.ev_var rfl) (mul200 (siz_nat s1) (siz_nat s2))
    · rw [List.map_map]
      rfl
theorem ok_lotitem {CL : Addr} (LT_Lot : LotT K mg CL) (D : Dop K CL "__getitem__" "Lot.__getitem__" s_Lot_getitem ["self", "at"]) (C_check_size : Cl P w K mg base 3 "check_size" (spChkN sizB)) : Og P w K mg base 4 CL "__getitem__" ["self", "at"] (spItem K CL) := by
  refine og_of LT_Lot.k.cl D sc_Lot_getitem (fun vs H Q E h => ?_) (fun f cdv A fr s H vs Q E hr h => ?_)
  · obtain ⟨a, z, ps, rfl, _⟩ := h
    rfl
  · obtain ⟨a, z, ps, rfl, hl, hz, q⟩ := h
    refine ⟨_, (pss_cons (ps_expr (pcal C_check_size hr (pa_cons (pv 1) pa_nil)))
    (pss_one (ps_ret (pe_dget2 (hu_of hr) (pe_fld (pv 0) rfl) (pv 1) pe_int ⟨rfl, rfl, rfl, rfl⟩)))), ?_⟩
    refine Evl.q_drop (ev_call1 (Evl.ev_var rfl) (chkn_v hz)) (fun H1 e1 => ?_)
    obtain ⟨dx, t1, t2, d, ts, h1, h2, h3, h4, h5⟩ := (hl.up e1).ex
    exact Evl.s_ret (ev_dget2 (c := 0) (ev_fldL (Evl.ev_var rfl) h1 LT_Lot.k.cl LT_Lot.n3 (lot_counts t1 t2 d)) (Evl.ev_var rfl) Evl.ev_c h5) (fun H2 e2 => q H2 (e1.trans e2))
theorem ok_lotinit (B : Bl mg) {CL : Addr} (LT_Lot : LotT K mg CL) (D : Din K mg "Lot" CL "Lot.__init__" s_Lot_init ["self", "counts"]) (C__are_counts : Cl P w K mg base 3 "_are_counts" (spAreC K)) :
    Mkc P w K mg base 4 "Lot" CL (spLotI K CL) ∧ Mkc P w K mg base 4 "Lot" CL fun vs H Q E => spLotI K CL (vs ++ [.non]) H Q E := by
  refine mkc_of D sc_Lot_init (fun vs H Q E h => ?_) (fun f cdv A fr s H vs Q E hr h => ?_)
  · obtain ⟨x, dx, v, ps, H0, rfl, _⟩ := h
    rfl
  · obtain ⟨x, dx, v, ps, H0, rfl, e0, x0, hx, hc, hv, q⟩ := h
    refine ⟨_, (pss_cons (ps_set (i := 2) sc_Lot_init.nd rfl (by first | exact Or.inl rfl | exact Or.inr rfl) (pe_ifExp (pt_cmpR op_isN (pv 1) pe_non (nomark _)) pe_dnewK (pv 1)))
    (pss_cons (ps_if (pt_not (pt_val (pcal C__are_counts hr (pa_cons (pv 2) pa_nil)))) (pss_one ps_never) pss_nil)
     (pss_cons (ps_fld (pv 0) (pe_callTy call_tuple_of (by rfl) B.tuple bt_tuple (pa_cons (pe_callB (call_sortedDI rfl) (by rfl) B.sorted bt_sorted (pa_cons (pv 2) pa_nil)) pa_nil)) rfl)
      (pss_cons (ps_fld (pv 0) (pe_callTy call_tupleZ (by rfl) B.tuple bt_tuple (pa_cons (pe_lc (own := [("size", 3)]) (g := (gName 3)) rfl sc_Lot_init.nd (pi_tup (pe_fld (pv 0) rfl)) (blkOk_by (own := [("size", 3)]) (N := n_Lot_init) (sc := defScope s_Lot_init) (by decide +kernel)) (fun _ _ _ _ _ => (pg_name (i := 3) sc_Lot_init.nd rfl (by first | exact Or.inl rfl | exact Or.inr rfl))) (fun _ _ _ _ _ => pts_nil) (fun _ _ _ _ _ => (pe_tup (pa_cons (pv 3) (pa_cons (pe_dget (hu_of hr) (pv 2) (pv 3) (fun _ _ => rfl)) pa_nil))))) pa_nil)) rfl)
       (pss_one (ps_fld (pv 0) (pe_callTy (call_dictZ rfl) (by rfl) B.dict bt_dict (pa_cons (pe_fld (pv 0) rfl) pa_nil)) rfl)))))), ?_⟩
    refine asg_told (ps := ps) rfl (hv.imp id fun ⟨d, h1, h2⟩ => ⟨d, h1, e0 _ _ h2⟩) (fun d H1 e1 hd => ?_)
    refine Evl.q_when (b := false) (Evl.et_is (Evl.et_not (Evl.et_B (ev_call1 (Evl.ev_var rfl) (arec_v hd hc)))) rfl) (fun z => nomatch z) (fun _ H2 e2 => ?_)
    have E2 := e0.trans (e1.trans e2)
    have hx2 := (e1.trans e2) _ _ hx
    have hd2 := e2 _ _ hd
    generalize H2 = H3 at E2 hx2 hd2 ⊢
    clear e2 hd hv hx e1 e0
    have ln := hc.ln
    have xd : d ≠ x := fun z => by rw [z, hx2] at hd2; cases hd2
    refine sq_fld (eu_tupleL (K := K) (el_sortD (Evl.ev_var rfl) (.inl hd2) hc.nd (by omega)) H3 (Evl.Ex.refl H3) _ fun t1 H5 f1 e5 h1' => ?_)
    have E4 := E2.trans e5
    have h1 : SqT K H5 t1 (((srt ps).map Prod.fst).map V.int) := SqT.of h1'
    have hx4 := e5 _ _ hx2
    have hd4 := e5 _ _ hd2
    refine ⟨.ref x, rfl, x, CL, dx, [], rfl, hx4, LT_Lot.k.cl, LT_Lot.n1, by decide, ?_⟩
    have E5 : Evl.Ex H0 (upd H5 x (.ins CL dx (putF "_sizes" (.ref t1) []))) := Evl.Ex.mut E4 x0
    have h15 := sqT_x (u := .ins CL dx (putF "_sizes" (.ref t1) [])) h1 hx4
    have hd5 := up_x (u := .ins CL dx (putF "_sizes" (.ref t1) [])) hd4 xd
    have hx5 : upd H5 x (.ins CL dx (putF "_sizes" (.ref t1) [])) x = some (.ins CL dx (putF "_sizes" (.ref t1) [])) := upd_same
    generalize upd H5 x (.ins CL dx (putF "_sizes" (.ref t1) [])) = H6 at E5 h15 hd5 hx5 ⊢
    clear E4 h1 h1' hx4 hd4 f1 e5
    refine sq_fld (tz_of (K := K) (R := RP K) (fun _ _ _ _ e r => r.ex e) (lc_tupF (K := K) (R := RP K) (c := fun _ => true) (e := fun n => (n, (cnt ps n).getD 0)) (fun _ _ _ _ e r => r.ex e) (fun _ _ _ _ _ _ hl r => r.upd hl) (ev_fldL (v := .ref t1) (Evl.ev_var rfl) hx5 LT_Lot.k.cl LT_Lot.n1 rfl) h15 (by rw [List.length_map, (srt_perm ps).length_eq]; omega) (fun _ => rfl) (fun n _ H7 _ H8 _ Q q => q H8 (Evl.Ex.refl H8)) (fun n hn _ H7 e7 => ?_)) H6 (Evl.Ex.refl H6) _ fun t2 vs H7 f2 e7 hz hf => ?_)
    · obtain ⟨p, hp, rfl⟩ := List.mem_map.mp hn
      have m := (cnt_mem hc.nd).mp (show (p.1, p.2) ∈ ps from (srt_perm ps).mem_iff.mp hp)
      rw [m]
      exact evr_pair (Evl.ev_var rfl) (ev_dget (Evl.ev_var rfl) (Evl.ev_var rfl) (fun H8 e8 => .inl (e8 _ _ (e7 _ _ hd5))) m)
    · rw [List.filter_eq_self.mpr fun _ _ => rfl, pairs_srt hc.nd] at hf
      have E7 := E5.trans e7
      have hx7 := e7 _ _ hx5
      have h17 := Evl.ex_t e7 h15
      refine ⟨.ref x, rfl, x, CL, dx, _, rfl, hx7, LT_Lot.k.cl, LT_Lot.n2, Nat.lt_of_le_of_lt (length_putF "_sizes" (.ref t1) []) (by decide), ?_⟩
      have E8 : Evl.Ex H0 (upd H7 x (.ins CL dx (putF "_pairs" (.ref t2) (putF "_sizes" (.ref t1) [])))) := Evl.Ex.mut E7 x0
      have h18 := sqT_x (u := .ins CL dx (putF "_pairs" (.ref t2) (putF "_sizes" (.ref t1) []))) h17 hx7
      have hz8 := hz.x (u := .ins CL dx (putF "_pairs" (.ref t2) (putF "_sizes" (.ref t1) []))) hx7
      have hf8 := hf.imp fun y b r => RP.x (u := .ins CL dx (putF "_pairs" (.ref t2) (putF "_sizes" (.ref t1) []))) hx7 r
      have hx8 : upd H7 x (.ins CL dx (putF "_pairs" (.ref t2) (putF "_sizes" (.ref t1) []))) x = some (.ins CL dx (putF "_pairs" (.ref t2) (putF "_sizes" (.ref t1) []))) := upd_same
      generalize upd H7 x (.ins CL dx (putF "_pairs" (.ref t2) (putF "_sizes" (.ref t1) []))) = H8 at E8 h18 hz8 hf8 hx8 ⊢
      have lk : (putF "_pairs" (.ref t2) (putF "_sizes" (.ref t1) [])).lookup ("_pairs" : Str) = some (V.ref t2) := by rw [lookup_putF, if_pos rfl]
      have nd := asc_nodup (srt_asc hc.nd)
      refine one_fld (dz_of (K := K) (ev_fldL (Evl.ev_var rfl) hx8 LT_Lot.k.cl LT_Lot.n2 lk) hz8 hf8 nd H8 (Evl.Ex.refl H8) _ fun t3 H9 f3 e9 h9 => ?_)
      have hx9 := e9 _ _ hx8
      have n3 : t3 ≠ x := fun e => by rw [e, hx9] at h9; cases h9
      have le := Nat.le_trans (length_putF "_pairs" (.ref t2) (putF "_sizes" (V.ref t1) [])) (Nat.succ_le_succ (length_putF "_sizes" (.ref t1) []))
      refine ⟨.ref x, rfl, x, CL, dx, _, rfl, hx9, LT_Lot.k.cl, LT_Lot.n3, Nat.lt_of_le_of_lt le (by decide), ?_⟩
      refine q (srt ps) _ (Evl.Ex.mut (E8.trans e9) x0) (srt_perm ps) (srt_asc hc.nd) ⟨dx, t1, t2, t3, vs, upd_same, sqT_x (Evl.ex_t e9 h18) hx9, sqT_x (Evl.ex_t e9 hz8.t) hx9, hf8.imp fun y b r => (r.ex e9).x hx9, .inl (up_x h9 n3)⟩

theorem ok_noa (B : Bl mg) (D : Df K mg "number_of_all" s_number_of_all ["runs"]) : Cl P w K mg base 1 "number_of_all" (spNoa K) := by
  refine cl_of D sc_number_of_all (fun vs H Q E h => ?_) (fun f cdv A fr s H vs Q E hr h => ?_)
  · obtain ⟨t, xs, rs, rfl, _⟩ := h
    rfl
  · obtain ⟨t, xs, rs, rfl, ht, hf, hl, q⟩ := h
    refine ⟨_, (pss_one (ps_ret (pe_callB (cr_sum rfl) (by rfl) B.sum bt_sum (pa_cons (pe_lc (own := [("run", 1)]) (g := (gName 1)) rfl sc_number_of_all.nd (pi_tup (pv 0)) (blkOk_by (own := [("run", 1)]) (N := n_number_of_all) (sc := defScope s_number_of_all) (by decide +kernel)) (fun _ _ _ _ _ => (pg_name (i := 1) sc_number_of_all.nd rfl (by first | exact Or.inl rfl | exact Or.inr rfl))) (fun _ _ _ _ _ => pts_nil) (fun _ _ _ _ _ => (pe_ix (ix_tupK (K := K) rfl) (pv 1) pe_int (fun _ _ => rfl)))) pa_nil)))), ?_⟩
    refine Evl.s_ret (Evl.ev_is (ev_sum (K := K) (ns := rs.map fun r => r.2) (Ck.el_is (el_lcP1 (fun r => .int r.2) (Evl.ev_var rfl) ht hf (by omega) (fun _ => rfl) (fun r hr x H1 e1 hx => ?_)) (by rw [List.map_map]; rfl))) rfl) q
    obtain ⟨t1, rfl, h1⟩ := hx
    exact ev_ixT (Evl.ev_var rfl) Evl.ev_c h1 (atI_nat (j := 1) rfl)
theorem ok_lotnum {CL : Addr} (LT_Lot : LotT K mg CL) (D : Dpr K CL "number" "Lot.number" s_Lot_number) (C_number_of_all : Cl P w K mg base 1 "number_of_all" (spNoa K)) : Pg P w K mg base 2 CL "number" (spLNum K CL) := by
  refine pg_of LT_Lot.k.cl D sc_Lot_number (fun vs H Q E h => ?_) (fun f cdv A fr s H vs Q E hr h => ?_)
  · obtain ⟨a, ps, rfl, _⟩ := h
    rfl
  · obtain ⟨a, ps, rfl, hl, hz, q⟩ := h
    refine ⟨_, (pss_one (ps_ret (pcal C_number_of_all hr (pa_cons (pe_fld (pv 0) rfl) pa_nil)))), ?_⟩
    obtain ⟨dx, t1, t2, d, ts, h1, h2, h3, h4, h5⟩ := hl.ex
    refine ev_fldL (Evl.ev_var rfl) h1 LT_Lot.k.cl LT_Lot.n2 (lot_pairs t1 t2 d) H (Evl.Ex.refl H) _ fun H1 e1 => ⟨t2, ts, ps, rfl, Evl.ex_t e1 h3, h4.imp fun x b r => r.ex e1, hz, fun H2 e2 => q H2 (e1.trans e2)⟩

theorem ok_lotcounts (B : Bl mg) {CL : Addr} (LT_Lot : LotT K mg CL) (D : Dpr K CL "counts" "Lot.counts" s_Lot_counts) : Pg P w K mg base 1 CL "counts" (spCounts K CL) := by
  refine pg_of LT_Lot.k.cl D sc_Lot_counts (fun vs H Q E h => ?_) (fun f cdv A fr s H vs Q E hr h => ?_)
  · obtain ⟨a, ps, rfl, _⟩ := h
    rfl
  · obtain ⟨a, ps, rfl, hl, q⟩ := h
    refine ⟨_, (pss_one (ps_ret (pe_callTy call_dictD (by rfl) B.dict bt_dict (pa_cons (pe_fld (pv 0) rfl) pa_nil)))), ?_⟩
    obtain ⟨dx, t1, t2, d, ts, h1, h2, h3, h4, h5⟩ := hl.ex
    exact ⟨_, rfl, a, CL, dx, _, _, rfl, h1, LT_Lot.k.cl, LT_Lot.n3, lot_counts t1 t2 d, d, ps.map kc, rfl, h5, fun p hp => q p _ (Evl.Ex.new hp) hp upd_same⟩
theorem ok_partof (B : Bl mg) {CL : Addr} (LT_Lot : LotT K mg CL) (D : Dop K CL "is_part_of" "Lot.is_part_of" s_Lot_is_part_of ["self", "value"]) (O_Lot_getitem : Og P w K mg base 4 CL "__getitem__" ["self", "at"] (spItem K CL)) : Og P w K mg base 6 CL "is_part_of" ["self", "value"] (spPartOf K CL) := by
  refine og_of LT_Lot.k.cl D sc_Lot_is_part_of (fun vs H Q E h => ?_) (fun f cdv A fr s H vs Q E hr h => ?_)
  · obtain ⟨a, b, qs, ps, rfl, _⟩ := h
    rfl
  · obtain ⟨a, b, qs, ps, rfl, hl, hb, hc, q⟩ := h
    refine ⟨_, (pss_cons (ps_if (pt_not (pt_val (pe_callB call_isi (by rfl) B.isinstance bt_isinstance (pa_cons (pv 1) (pa_cons (pe_glob (v := V.ref _) (by rfl) LT_Lot.k.g rfl) pa_nil))))) (pss_one (ps_ret pe_bl)) pss_nil)
    (pss_one (ps_ret (pe_callB (cr_all rfl) (by rfl) B.all bt_all (pa_cons (pe_lc (own := [("size", 2), ("count", 3)]) (g := (gTup K 2 (gCons (gName 2) (gCons (gName 3) gNil)))) rfl sc_Lot_is_part_of.nd (pi_tup (pe_fld (pv 0) rfl)) (blkOk_by (own := [("size", 2), ("count", 3)]) (N := n_Lot_is_part_of) (sc := defScope s_Lot_is_part_of) (by decide +kernel)) (fun _ _ _ _ _ => (pg_tup (n := 2) rfl (pgs_cons (pg_name (i := 2) sc_Lot_is_part_of.nd rfl (by first | exact Or.inl rfl | exact Or.inr rfl)) (pgs_cons (pg_name (i := 3) sc_Lot_is_part_of.nd rfl (by first | exact Or.inl rfl | exact Or.inr rfl)) pgs_nil)))) (fun _ _ _ _ _ => pts_nil) (fun _ _ _ _ _ => (pe_cmpR op_le (pv 3) (pgetO O_Lot_getitem hr (pv 1) (pv 2)) (nomark _)))) pa_nil))))), ?_⟩
    obtain ⟨bx, u1, u2, bd, bs, b1, _⟩ := hb.ex
    refine Evl.q_when (b := false) (Evl.et_is (Evl.et_not (Evl.et_B (ev_isi (Evl.ev_var rfl) Evl.ev_c (.own CL) (fun H1 e => LT_Lot.k.ty (e _ _ b1)) kit_self))) rfl) (fun z => nomatch z) (fun _ H1 e1 => ?_)
    obtain ⟨dx, t1, t2, d, ts, h1, h2, h3, h4, h5⟩ := (hl.up e1).ex
    have ln := hc.ln
    refine Evl.s_ret (Evl.ev_is (ev_all (K := K) (bs := qs.map fun p => decide (p.2 ≤ (cnt ps p.1).getD 0)) (Ck.el_is (el_lcP (fun p => .bl (decide (p.2 ≤ (cnt ps p.1).getD 0))) (ev_fldL (Evl.ev_var rfl) h1 LT_Lot.k.cl LT_Lot.n2 (lot_pairs t1 t2 d)) h3 h4 (by omega) (fun _ _ => rfl) (fun p hp H2 e2 => ?_)) (by rw [List.map_map]; rfl))) ?_) (fun H2 e2 => q H2 (e1.trans e2))
    · exact ev_i0 (g := fun i j => .bl (decide (i ≤ j))) (Evl.ev_var rfl) (ev_item (Evl.ev_var rfl) (Evl.ev_var rfl) ((hb.up e1).up e2) (hc.ok p hp).1)
    · rw [List.all_map]
      rfl
theorem et_lst {te : TE} {σ : L2.St} {H : Hp} {l : Addr} {xs : List V} (h : Evl.Ev te σ H (.ref l)) (hl : H l = some (.lst xs)) : Evl.EvT (fun σ H Q => te σ H fun x H' => ∃ k, TruV K x H' k ∧ Q k H') σ H (!xs.isEmpty) := fun H1 e _ q => h H1 e _ fun H2 e2 => ⟨_, .inl ⟨xs, SqL.of ((e.trans e2) _ _ hl), rfl⟩, q H2 e2⟩
theorem ok_isrun (B : Bl mg) (D : Df K mg "is_run" s_is_run ["value"]) (C_is_size : Cl P w K mg base 2 "is_size" (spNum K sizB)) : Cl P w K mg base 3 "is_run" (spIsRun K) := by
  refine cl_of D sc_is_run (fun vs H Q E h => ?_) (fun f cdv A fr s H vs Q E hr h => ?_)
  · obtain ⟨t, a, b, rfl, _⟩ := h
    rfl
  · obtain ⟨t, a, b, rfl, ht, q⟩ := h
    refine ⟨_, (pss_one (ps_ret (pe_and (pe_callB call_isi (by rfl) B.isinstance bt_isinstance (pa_cons (pv 0) (pa_cons (pe_bltn (v := V.ty "tuple") (by rfl) B.tuple bt_tuple rfl) pa_nil))) (pe_and (pe_cmpR op_eq (pe_callB call_len_seq (by rfl) B.len bt_len (pa_cons (pv 0) pa_nil)) pe_int (nomark _)) (pe_and (pcal C_is_size hr (pa_cons (pe_ix ix_tup (pv 0) pe_int (fun _ _ => rfl)) pa_nil)) (pe_one (pcal C_is_size hr (pa_cons (pe_ix ix_tup (pv 0) pe_int (fun _ _ => rfl)) pa_nil)))))))), ?_⟩
    exact Evl.s_ret (Evl.ev_is (Evl.ev_andV (a := true) (ev_isi (Evl.ev_var rfl) Evl.ev_c (.ty _) (fun H1 e => ty_tup (Evl.ex_t e ht)) (kit_ty (r := true) (by decide +kernel))) (fun _ => Evl.ev_andV (a := true) (Evl.ev_is (ev_eq (ev_lenT (Evl.ev_var rfl) ht) Evl.ev_c rfl) rfl) (fun _ => Evl.ev_andV (ev_call1 (ev_ixT (Evl.ev_var rfl) Evl.ev_c ht (atI_0 _ _)) num_i) (fun _ => ev_call1 (ev_ixT (Evl.ev_var rfl) Evl.ev_c ht (atI_nat (j := 1) rfl)) num_i)))) rfl) q
theorem isrun_v {H : Hp} {x : V} {a b : Int} (h : RP K H x (a, b)) : Evl.SpV (spIsRun K) [x] H (.bl (sizB a && sizB b)) := fun H1 e Q q E => by
  obtain ⟨t, rfl, ht⟩ := h
  exact ⟨t, a, b, rfl, Evl.ex_t e ht, q⟩
theorem ok_unitsof (B : Bl mg) (D : Df K mg "units_of" s_units_of ["runs", "size"]) : Cl P w K mg base 1 "units_of" (spUnitsOf K) := by
  refine cl_of D sc_units_of (fun vs H Q E h => ?_) (fun f cdv A fr s H vs Q E hr h => ?_)
  · obtain ⟨t, s, xs, rs, rfl, _⟩ := h
    rfl
  · obtain ⟨t, sz, xs, rs, rfl, ht, hf, hl, hp, s0, s1, q⟩ := h
    refine ⟨_, (pss_one (ps_ret (pe_callB (cr_sum rfl) (by rfl) B.sum bt_sum (pa_cons (pe_lc (own := [("run", 2)]) (g := (gName 2)) rfl sc_units_of.nd (pi_tup (pv 0)) (blkOk_by (own := [("run", 2)]) (N := n_units_of) (sc := defScope s_units_of) (by decide +kernel)) (fun _ _ _ _ _ => (pg_name (i := 2) sc_units_of.nd rfl (by first | exact Or.inl rfl | exact Or.inr rfl))) (fun _ _ _ _ _ => pts_nil) (fun _ _ _ _ _ => (pe_op op_mulW (pe_ix (ix_tupK (K := K) rfl) (pv 2) pe_int (fun _ _ => rfl)) (pe_op op_fdivW (pe_ix (ix_tupK (K := K) rfl) (pv 2) pe_int (fun _ _ => rfl)) (pv 1))))) pa_nil)))), ?_⟩
    refine Evl.s_ret (Evl.ev_is (ev_sum (K := K) (ns := rs.map fun r => r.2 * (r.1 / sz)) (Ck.el_is (el_lcP1 (fun r => .int (r.2 * (r.1 / sz))) (Evl.ev_var rfl) ht hf (by omega) (fun _ => rfl) (fun r hr x H1 e1 hx => ?_)) (by rw [List.map_map]; rfl))) rfl) q
    obtain ⟨t1, rfl, h1⟩ := hx
    obtain ⟨p0, p1, p2⟩ := hp r hr
    exact ev_i (g := fun i j => .int (i * j)) (ev_ixT (Evl.ev_var rfl) Evl.ev_c h1 (atI_nat (j := 1) rfl)) (ev_i (g := fun i j => .int (i / j)) (ev_ixT (Evl.ev_var rfl) Evl.ev_c h1 (atI_0 _ _)) (Evl.ev_var rfl) (divW s0 s1)) (mul200 p2 (Nat.lt_of_le_of_lt (by
      have e : (r.1 / sz).natAbs = r.1.natAbs / sz.natAbs := by
        obtain ⟨n, hn⟩ := Int.eq_ofNat_of_zero_le p0
        obtain ⟨m, hm⟩ := Int.eq_ofNat_of_zero_le (show 0 ≤ sz by omega)
        rw [hn, hm]
        rfl
      rw [e]
      exact Nat.div_le_self _ _) p1))
theorem ok_joinr (B : Bl mg) (D : Df K mg "joined_runs" s_joined_runs ["runs"]) : Cl P w K mg base 1 "joined_runs" (spJoinR K) := by
  refine cl_of D sc_joined_runs (fun vs H Q E h => ?_) (fun f cdv A fr s H vs Q E hr h => ?_)
  · obtain ⟨t, xs, rs, rfl, _⟩ := h
    rfl
  · obtain ⟨t, xs, rs, rfl, ht, hf, hl, q⟩ := h
    refine ⟨_, (pss_cons (ps_set (i := 1) sc_joined_runs.nd rfl (by first | exact Or.inl rfl | exact Or.inr rfl) (pe_lst pa_nil))
    (pss_cons (ps_for PassesOwn.never rfl (pi_tup (pv 0)) (pg_name (i := 2) sc_joined_runs.nd rfl (by first | exact Or.inl rfl | exact Or.inr rfl)) (pss_one (ps_if (pw_and (pt_truth (pv 1) (fun _ => rfl)) (pw_and (pt_cmpR op_eq (pe_ix ix_tup (pe_ix ix_list (pv 1) (pe_un un_neg pe_int) (fun _ _ => rfl)) pe_int (fun _ _ => rfl)) (pe_ix ix_tup (pv 2) pe_int (fun _ _ => rfl)) (nomark _)) (pw_and1 (pt_cmpR (op_eqD hr.units) (pe_slice sl_tupA (pe_ix ix_list (pv 1) (pe_un un_neg pe_int) (fun _ _ => rfl)) (po_some pe_int) po_none) (pe_slice sl_tupA (pv 2) (po_some pe_int) po_none) (nomark _))))).pt (pss_one (ps_asg (pe_op op_catA (pe_tup (pa_cons (pe_ix ix_tup (pv 2) pe_int (fun _ _ => rfl)) (pa_cons (pe_op op_add (pe_ix ix_tup (pe_ix ix_list (pv 1) (pe_un un_neg pe_int) (fun _ _ => rfl)) pe_int (fun _ _ => rfl)) (pe_ix ix_tup (pv 2) pe_int (fun _ _ => rfl))) pa_nil))) (pe_slice sl_tupA (pv 2) (po_some pe_int) po_none)) (pg_sub (pv 1) (pe_un un_neg pe_int) set_list))) (pss_one (ps_expr (pe_bm PySem.F.plainAttrs_list PySem.F.slot_list_append PySem.F.type_list_append mt_append (pv 1) (pa_cons (pv 2) pa_nil)))))))
     (pss_one (ps_ret (pe_callTy call_tuple_of (by rfl) B.tuple bt_tuple (pa_cons (pv 1) pa_nil)))))), ?_⟩
    refine ⟨(show 0 ≤ sizeLine by decide), fun l nl => ?_⟩
    have E1 : Evl.Ex H (upd H l (.lst [])) := Evl.Ex.new nl
    have h1 : upd H l (.lst []) l = some (.lst []) := upd_same
    generalize upd H l (.lst []) = H1 at E1 h1 ⊢
    refine ⟨.ref t, rfl, t, rfl, ⟨_, Evl.ex_t E1 ht⟩, ?_⟩
    refine for_it walk_tup (fun i σ H' => Evl.Ex H H' ∧ SqT K H' t xs ∧ ∃ (vs : List V) (t2 : Option V), σ = [some (.ref t), some (.ref l), t2] ∧ H' l = some (.lst vs) ∧ F2 (RP K H') vs (jr (rs.take i))) ⟨E1, Evl.ex_t E1 ht, [], none, rfl, h1, .nil⟩ (fun i σ H' _ h => h.2.1) ?_ ?_
    · rintro i x σ H3' H3 hi ⟨e3, ht3, vs, t2, rfl, hl3, hf3⟩ ⟨rfl, hxi⟩
      obtain ⟨r, hri, hx⟩ := F2.at (hf.imp fun x b r => r.ex e3) hxi
      obtain ⟨hi2, rfl⟩ := List.getElem?_eq_some_iff.mp hri
      have tk : jr (rs.take (i + 1)) = jn1 (jr (rs.take i)) rs[i] := by rw [List.take_add_one, List.getElem?_eq_getElem hi2]; exact jr_snoc _ _
      have ll : vs.length ≤ 2000 := by rw [hf3.len]; refine Nat.le_trans (jr_len _) ?_; rw [List.length_take]; omega
      obtain ⟨u, rfl, hu⟩ := hx
      have fin : ∀ (H5 : Hp) (vs' : List V), Evl.Ex H H5 → H5 l = some (.lst vs') → F2 (RP K H5) vs' (jr (rs.take (i + 1))) → SqT K H5 t xs → Evl.Ex H H5 ∧ SqT K H5 t xs ∧ ∃ (vs : List V) (t2 : Option V), [some (.ref t), some (.ref l), some (.ref u)] = [some (.ref t), some (.ref l), t2] ∧ H5 l = some (.lst vs) ∧ F2 (RP K H5) vs (jr (rs.take (i + 1))) := fun H5 vs' a b c d => ⟨a, d, vs', _, rfl, b, c⟩
      rcases nil_or_snoc (jr (rs.take i)) with en | ⟨as, z, en⟩
      · rw [en] at hf3
        obtain rfl : vs = [] := List.eq_nil_of_length_eq_zero hf3.len
        refine Evl.s_if (b := false) (Evl.et_is (Evl.et_and (b := true) (et_lst (K := K) (Evl.ev_var rfl) hl3) (fun z => nomatch z)) rfl) (fun z => nomatch z) (fun _ H4 e4 => ?_)
        refine Evl.s_app (e4 _ _ hl3) (Evl.ev_var rfl) (Evl.ev_var rfl) (by show 0 < _; omega) (fun H5 e5 => ?_)
        have hl5 := (e4.trans e5) _ _ hl3
        refine fin _ _ (Evl.Ex.mut (e3.trans (e4.trans e5)) nl) upd_same ?_ (sqT_updL (Evl.ex_t (e4.trans e5) ht3) hl5)
        rw [tk, en]
        exact .cons (RP.upd hl5 ⟨u, rfl, Evl.ex_t (e4.trans e5) hu⟩) .nil
      · have jn : jn1 (jr (rs.take i)) rs[i] = if z.1 = rs[i].1 then as ++ [(rs[i].1, z.2 + rs[i].2)] else as ++ [z] ++ [rs[i]] := by
          rw [en]
          unfold jn1
          rw [List.getLast?_concat, List.dropLast_concat]
        rw [en] at hf3
        obtain ⟨ys, y, rfl, fy, ⟨v, rfl, hv⟩⟩ := f2_snoc hf3
        have hlast : ∀ H4, Evl.Ex H3 H4 → Evl.Ev (tOp (rIxL K) (tVar 1) (tUn (rU fun i => V.int (-i)) (tC (V.int 1)))) [some (.ref t), some (.ref l), some (.ref u)] H4 (.ref v) := fun H4 e4 => ev_ixL (Evl.ev_var rfl) (ev_neg Evl.ev_c) (SqL.of (e4 _ _ hl3)) (atI_last _ _)
        have hvs : ∀ H4, Evl.Ex H3 H4 → SqT K H4 v [.int z.1, .int z.2] := fun H4 e4 => Evl.ex_t e4 hv
        have hus : ∀ H4, Evl.Ex H3 H4 → SqT K H4 u [.int rs[i].1, .int rs[i].2] := fun H4 e4 => Evl.ex_t e4 hu
        have c2 : ∀ a b : Int, cutV [V.int a, V.int b] (some 2) none = [] := fun a b => rfl
        have sl : ∀ H4, Evl.Ex H3 H4 → Etu K (tSl (rSlA K) (tVar 2) (tPart (tC (V.int 2))) tNoPart) [some (.ref t), some (.ref l), some (.ref u)] H4 [] := fun H4 e4 => etu_is (etu_sl (etu_ev (Evl.ev_var rfl) (hus H4 e4)) (Evl.eo_some Evl.ev_c) Evl.eo_none) (c2 _ _)
        refine Evl.s_if (b := decide (z.1 = rs[i].1)) (Evl.et_is (Evl.et_and (et_lst (K := K) (Evl.ev_var rfl) hl3) (fun _ => Evl.et_and (Evl.et_test (ev_eq (ev_ixT (hlast _ (Evl.Ex.refl _)) Evl.ev_c (hvs _ (Evl.Ex.refl _)) (atI_0 _ _)) (ev_ixT (Evl.ev_var rfl) Evl.ev_c (hus _ (Evl.Ex.refl _)) (atI_0 _ _)) rfl))
          (fun _ => Evl.et_test (ev_eqD (K := K) (ed_etu (ns := []) (etu_is (etu_sl (etu_ev (hlast _ (Evl.Ex.refl _)) (hvs _ (Evl.Ex.refl _))) (Evl.eo_some Evl.ev_c) Evl.eo_none) (c2 _ _))) (ed_etu (ns := []) (sl _ (Evl.Ex.refl _))) (by decide +kernel) (by decide +kernel))))) ?_) (fun hb H4 e4 => ?_) (fun hb H4 e4 => ?_)
        · rw [show (!(ys ++ [V.ref v]).isEmpty) = true by cases ys <;> rfl, Bool.true_and, show PyData.eqv (.tuple (([] : List Int).map PyData.int)) (.tuple (([] : List Int).map PyData.int)) = true by decide +kernel, Bool.and_true]
          exact decide_eq_decide.mpr ⟨V.int.inj, congrArg V.int⟩
        · have ez := of_decide_eq_true hb
          refine etu_cat (K := K) (etu_of (Evl.eu_tup (vs := [.int rs[i].1, .int (z.2 + rs[i].2)]) (Evl.ea_cons (ev_ixT (Evl.ev_var rfl) Evl.ev_c (hus _ e4) (atI_0 _ _)) (Evl.ea_cons (ev_i0 (g := fun i j => V.int (i + j)) (ev_ixT (hlast _ e4) Evl.ev_c (hvs _ e4) (atI_nat (j := 1) rfl)) (ev_ixT (Evl.ev_var rfl) Evl.ev_c (hus _ e4) (atI_nat (j := 1) rfl))) Evl.ea_nil)) (show 2 ≤ 100000 by decide))) (sl _ e4) (show 2 ≤ 100000 by decide) H4 (Evl.Ex.refl _) _ fun p H5 e5 hp => ?_
          have hl5 := (e4.trans e5) _ _ hl3
          refine ⟨.ref l, rfl, 1, rfl, l, _, -1, ys.length, rfl, rfl, hl5, ?_, ?_⟩
          · rw [List.length_append]
            exact ixN_last ys.length
          · refine fin _ _ (Evl.Ex.mut (e3.trans (e4.trans e5)) nl) upd_same ?_ (sqT_updL (Evl.ex_t (e4.trans e5) ht3) hl5)
            rw [tk, jn, if_pos ez, List.set_append_right _ _ (Nat.le_refl _), Nat.sub_self]
            exact (F2.app (fy.imp fun x b r => RP.upd hl5 (r.ex (e4.trans e5))) (.cons (RP.upd hl5 ⟨p, rfl, hp⟩) .nil))
        · refine Evl.s_app (e4 _ _ hl3) (Evl.ev_var rfl) (Evl.ev_var rfl) (by omega) (fun H5 e5 => ?_)
          have hl5 := (e4.trans e5) _ _ hl3
          refine fin _ _ (Evl.Ex.mut (e3.trans (e4.trans e5)) nl) upd_same ?_ (sqT_updL (Evl.ex_t (e4.trans e5) ht3) hl5)
          rw [tk, jn, if_neg (of_decide_eq_false hb)]
          exact ((fy.app (.cons ⟨v, rfl, hv⟩ .nil)).app (.cons ⟨u, rfl, hu⟩ .nil)).imp fun x b r => RP.upd hl5 (r.ex (e4.trans e5))
    · rintro _ H3 ⟨e3, ht3, vs, t2, rfl, hl3, hf3⟩
      rw [List.take_of_length_le (by rw [← hf.len]; exact Nat.le_refl _)] at hf3
      exact ⟨.ref l, rfl, l, vs, rfl, .inl ⟨SqL.of hl3, fun b nb => q b vs _ (e3.trans (Evl.Ex.new nb)) (SqT.of upd_same) (hf3.imp fun x r h => h.ex (Evl.Ex.new nb))⟩⟩
theorem ok_chksto (B : Bl mg) {CS : Addr} (LT_Store : StoreT K mg CS) (D : Df K mg "check_store" s_check_store ["value"]) : Cg P w K mg base CX0 1 "check_store" (spIsSto K CS) := by
  refine cg_of D sc_check_store (fun vs H Q E h => ?_) (fun f cdv A fr s H vs Q E hr hgd h => ?_)
  · obtain ⟨a, ps, rfl, _⟩ := h
    rfl
  · obtain ⟨a, ps, rfl, hl, q⟩ := h
    refine ⟨_, (pss_one (ps_if (pt_not (pt_val (pe_callB call_isi (by rfl) B.isinstance bt_isinstance (pa_cons (pv 0) (pa_cons (pe_glob (v := V.ref _) (by rfl) LT_Store.k.g rfl) pa_nil))))) (pss_one ps_never) pss_nil)), ?_⟩
    obtain ⟨dx, t1, ts, h1, _⟩ := hl.ex
    exact Evl.s_when (b := false) (Evl.et_is (Evl.et_not (Evl.et_B (ev_isi (Evl.ev_var rfl) Evl.ev_c (.own CS) (fun H1 e => LT_Store.k.ty (e _ _ h1)) kit_self))) rfl) (fun z => nomatch z) (fun _ H1 e1 => q H1 e1)
theorem ok_stoinit (B : Bl mg) (T : Cs mg) {CS : Addr} (LT_Store : StoreT K mg CS) (D : Dis K mg "Store" CS "Store.__init__" s_Store_init "runs") (C_is_run : Cl P w K mg base 3 "is_run" (spIsRun K)) (C_joined_runs : Cl P w K mg base 1 "joined_runs" (spJoinR K)) : Mkc P w K mg base 4 "Store" CS (spStoI K CS) := by
  refine sto_mk (mks_of D sc_Store_init (fun f cdv A fr s H vs Q E hr h => ?_))
  obtain ⟨x, dx, p, xs, rs, H0, rfl, e0, x0, hx, hp, hf, hrn, q⟩ := h
  refine ⟨_, (pss_cons (ps_for PassesOwn.never rfl (pi_tup (pv 1)) (pg_name (i := 2) sc_Store_init.nd rfl (by first | exact Or.inl rfl | exact Or.inr rfl)) (pss_one (ps_if (pt_not (pt_val (pcal C_is_run hr (pa_cons (pv 2) pa_nil)))) (pss_one ps_never) pss_nil)))
    (pss_cons (ps_set (i := 3) sc_Store_init.nd rfl (by first | exact Or.inl rfl | exact Or.inr rfl) (pcal C_joined_runs hr (pa_cons (pv 1) pa_nil)))
     (pss_cons (ps_if (pt_cmpR op_gt (pe_callB call_len_seq (by rfl) B.len bt_len (pa_cons (pv 3) pa_nil)) (pe_gc2 (by rfl) T.c_MAX_RUNS) (nomark _)) (pss_one ps_never) pss_nil)
      (pss_one (ps_fld (pv 0) (pv 3) rfl))))), ?_⟩
  have hln := hrn.ln
  refine ⟨.ref p, rfl, p, rfl, ⟨_, hp⟩, ?_⟩
  refine for_it walk_tup (fun i σ H' => Evl.Ex H H' ∧ SqT K H' p xs ∧ ∃ (t2 : Option V), σ = [some (.ref x), some (.ref p), t2, none]) ⟨Evl.Ex.refl _, hp, none, rfl⟩ (fun i σ H' _ h => h.2.1) ?_ ?_
  · rintro i y σ H3' H3 hi ⟨e3, ht3, t2, rfl⟩ ⟨rfl, hxi⟩
    obtain ⟨r, hri, hy⟩ := F2.at (hf.imp fun x b r => r.ex (e0.trans e3)) hxi
    obtain ⟨s1, s2⟩ := hrn.ok r (List.mem_of_getElem? hri)
    exact Evl.s_when (b := false) (Evl.et_is (Evl.et_not (Evl.et_B (ev_call1 (Evl.ev_var rfl) (isrun_v hy)))) (by rw [s1, s2]; rfl)) (fun z => nomatch z) (fun _ H4 e4 => ⟨e3.trans e4, Evl.ex_t e4 ht3, _, rfl⟩)
  · rintro _ H3 ⟨e3, ht3, t2, rfl⟩
    dsimp only
    refine q_asgP (P := fun v H' => ∃ u ys, v = .ref u ∧ Evl.Ex H H' ∧ SqT K H' u ys ∧ F2 (RP K H') ys (jr rs)) (fun Q2 q2 => ⟨.ref p, rfl, p, xs, rs, rfl, ht3, hf.imp fun x b r => r.ex (e0.trans e3), by omega, fun u ys H4 e4 hu hy => q2 _ _ ⟨u, ys, rfl, e3.trans e4, hu, hy⟩⟩) ?_
    rintro _ H4 ⟨u, ys, rfl, e4, hu, hy⟩
    refine Evl.q_when (b := false) (Evl.et_is (Evl.et_test (ev_i0 (ev_lenT (Evl.ev_var rfl) hu) (Evl.ev_c (v := .int 40)))) ?_) (fun z => nomatch z) (fun _ H5 e5 => ?_)
    · rw [hy.len]
      have := hrn.jl
      exact decide_eq_false (by omega)
    have E5 := e0.trans (e4.trans e5)
    have hx5 := (e4.trans e5) _ _ hx
    refine ⟨.ref u, rfl, .ref x, rfl, x, CS, dx, [], rfl, hx5, LT_Store.k.cl, LT_Store.n1, by decide, ?_⟩
    exact q _ (Evl.Ex.mut E5 x0) ⟨dx, u, ys, upd_same, sqT_x (Evl.ex_t e5 hu) hx5, hy.imp fun y b r => RP.x hx5 (r.ex e5)⟩
theorem ok_stounits {CS : Addr} (LT_Store : StoreT K mg CS) (D : Dop K CS "units" "Store.units" s_Store_units ["self", "size"]) (C_check_size : Cl P w K mg base 3 "check_size" (spChkN sizB)) (C_units_of : Cl P w K mg base 1 "units_of" (spUnitsOf K)) : Og P w K mg base 4 CS "units" ["self", "size"] (spUnits K CS) := by
  refine og_of LT_Store.k.cl D sc_Store_units (fun vs H Q E h => ?_) (fun f cdv A fr s H vs Q E hr h => ?_)
  · obtain ⟨a, z, ps, rfl, _⟩ := h
    rfl
  · obtain ⟨a, z, rs, rfl, hl, ho, hz, q⟩ := h
    refine ⟨_, (pss_cons (ps_expr (pcal C_check_size hr (pa_cons (pv 1) pa_nil)))
    (pss_one (ps_ret (pcal C_units_of hr (pa_cons (pe_fld (pv 0) rfl) (pa_cons (pv 1) pa_nil)))))), ?_⟩
    refine Evl.q_drop (ev_call1 (Evl.ev_var rfl) (chkn_v hz)) (fun H1 e1 => ?_)
    obtain ⟨dx, t, ts, h1, h2, h3⟩ := (hl.up e1).ex
    obtain ⟨z0, z1⟩ := siz_int hz
    have ln := ho.ln
    refine ⟨.ref a, rfl, a, CS, dx, _, _, rfl, h1, LT_Store.k.cl, LT_Store.n1, sto_runs t, .int z, rfl, t, z, ts, rs, rfl, h2, h3, by omega, fun r hr => ?_, z0, z1, fun H2 e2 => q H2 (e1.trans e2)⟩
    obtain ⟨s1, s2, s3⟩ := ho.ok r hr
    obtain ⟨s4, s5⟩ := siz_int s1
    exact ⟨by omega, s5, s3⟩
theorem ok_togN (B : Bl mg) (D : Df K mg "check_together" s_check_together ["sizes"]) (C_first_gap : Cg P w K mg base CX0 1 "first_gap" (spGapB K)) : Cg P w K mg base CX0 2 "check_together" (spTogN K) := by
  refine cg_of D sc_check_together (fun vs H Q E h => ?_) (fun f cdv A fr s H vs Q E hr hgd h => ?_)
  · obtain ⟨p, ns, rfl, _⟩ := h
    rfl
  · obtain ⟨p, ns, rfl, hp, hl, hpos, hg, q⟩ := h
    refine ⟨_, (pss_cons (ps_set (i := 1) sc_check_together.nd rfl (by first | exact Or.inl rfl | exact Or.inr rfl) (pcg C_first_gap hr hgd (pa_cons (pe_callB (cr_sortedSet rfl) (by rfl) B.sorted bt_sorted (pa_cons (pe_callTy (cr_setT rfl) (by rfl) B.set bt_set (pa_cons (pv 0) pa_nil)) pa_nil)) pa_nil)))
    (pss_one (ps_if (pt_cmpR op_notN (pv 1) pe_non (nomark _)) (pss_one ps_never) pss_nil))), ?_⟩
    refine el_tss (K := K) (us := uni ns) (etu_ev (Evl.ev_var rfl) hp) hl uni_pw (fun k => uni_mem) H (Evl.Ex.refl H) _ (fun l H1 _ e1 h1 => ⟨l, uni ns, rfl, .inl (SqL.of h1), fun n hn => hpos n (uni_mem.mp hn), fun v H2 e2 hd => ?_⟩)
    rw [hg] at hd
    rw [dp_non hd]
    exact Evl.s_when (b := false) (Evl.et_test (Evl.ev_is (ev_notN (Evl.ev_var rfl)) rfl)) (fun z => nomatch z) (fun _ H3 e3 => q H3 (e1.trans (e2.trans e3)))
theorem ok_lotunits (B : Bl mg) {CL : Addr} (LT_Lot : LotT K mg CL) (D : Dop K CL "units" "Lot.units" s_Lot_units ["self", "size"]) (C_check_size : Cl P w K mg base 3 "check_size" (spChkN sizB)) (C_units_of : Cl P w K mg base 1 "units_of" (spUnitsOf K)) : Og P w K mg base 4 CL "units" ["self", "size"] (spLotU K CL) := by
  refine og_of LT_Lot.k.cl D sc_Lot_units (fun vs H Q E h => ?_) (fun f cdv A fr s H vs Q E hr h => ?_)
  · obtain ⟨a, z, ps, rfl, _⟩ := h
    rfl
  · obtain ⟨a, z, ps, rfl, hl, hc, hz, hdv, q⟩ := h
    refine ⟨_, (pss_cons (ps_expr (pcal C_check_size hr (pa_cons (pv 1) pa_nil)))
    (pss_cons (ps_if (pt_val (pe_callB (cr_any rfl) (by rfl) B.any bt_any (pa_cons (pe_lc (own := [("each", 2)]) (g := (gName 2)) rfl sc_Lot_units.nd (pi_tup (pe_fld (pv 0) rfl)) (blkOk_by (own := [("each", 2)]) (N := n_Lot_units) (sc := defScope s_Lot_units) (by decide +kernel)) (fun _ _ _ _ _ => (pg_name (i := 2) sc_Lot_units.nd rfl (by first | exact Or.inl rfl | exact Or.inr rfl))) (fun _ _ _ _ _ => pts_nil) (fun _ _ _ _ _ => (pe_and (pe_cmpR op_gt (pv 2) (pv 1) (nomark _)) (pe_one (pe_cmpR op_ne (pe_op op_mod (pv 2) (pv 1)) pe_int (nomark _)))))) pa_nil))) (pss_one ps_never) pss_nil)
     (pss_one (ps_ret (pcal C_units_of hr (pa_cons (pe_fld (pv 0) rfl) (pa_cons (pv 1) pa_nil))))))), ?_⟩
    obtain ⟨z0, z1⟩ := siz_int hz
    have ln := hc.ln
    refine Evl.q_drop (ev_call1 (Evl.ev_var rfl) (chkn_v hz)) (fun H1 e1 => ?_)
    obtain ⟨dx, t1, t2, d, ts, h1, h2, h3, h4, h5⟩ := (hl.up e1).ex
    refine Evl.q_when (b := false) (Evl.et_is (Evl.et_B (ev_any (K := K) (bs := (ps.map Prod.fst).map fun n => decide (z < n) && !decide (n % z = 0)) (Ck.el_is (el_lcY (K := K) (fun n => .bl (decide (z < n) && !decide (n % z = 0))) (etu_ev (ev_fldL (Evl.ev_var rfl) h1 LT_Lot.k.cl LT_Lot.n1 (lot_sizes t1 t2 d)) h2) (by rw [List.length_map]; omega) (fun _ => rfl) (fun n hn H2 e2 => Evl.ev_is (Evl.ev_andV (ev_i0 (Evl.ev_var rfl) (Evl.ev_var rfl)) (fun _ => ev_ne (ev_i (g := fun i j => .int (i % j)) (Evl.ev_var rfl) (Evl.ev_var rfl) z0) Evl.ev_c rfl)) ?_)) (by rw [List.map_map, List.map_map, List.map_map]; rfl)))) ?_) (fun z => nomatch z) (fun _ H2 e2 => ?_)
    · exact congrArg V.bl (congrArg (decide (z < n) && ·) (congrArg (!·) (decide_eq_decide.mpr ⟨V.int.inj, congrArg V.int⟩)))
    · have e : ((ps.map Prod.fst).map fun n => decide (z < n) && !decide (n % z = 0)).any id = false := by
        rw [List.any_map, List.any_eq_false]
        intro n hn
        obtain ⟨r, hr, rfl⟩ := List.mem_map.mp hn
        show ¬ (decide (z < r.1) && !decide (r.1 % z = 0)) = true
        by_cases c : z < r.1
        · rw [decide_eq_true (Int.emod_eq_zero_of_dvd (hdv r hr c)), Bool.not_true, Bool.and_false]
          exact Bool.false_ne_true
        · rw [decide_eq_false c, Bool.false_and]
          exact Bool.false_ne_true
      exact e
    · have hl2 := hl.up (e1.trans e2)
      obtain ⟨dx, t1, t2, d, ts, h1, h2, h3, h4, h5⟩ := hl2.ex
      exact ⟨.ref a, rfl, a, CL, dx, _, _, rfl, h1, LT_Lot.k.cl, LT_Lot.n2, lot_pairs t1 t2 d, .int z, rfl, t2, z, ts, ps, rfl, h3, h4, by omega, fun r hr => ⟨Int.le_of_lt (siz_int (hc.ok r hr).1).1, (siz_int (hc.ok r hr).1).2, (siz_int (hc.ok r hr).2).2⟩, z0, z1, fun H3 e3 => q H3 (e1.trans (e2.trans e3))⟩
theorem ok_chkL {CL CS : Addr} (B : Bl mg) (D : Dfa K mg "check_levels" "_check" s_check_levels ["lot", "store"]) (C_check_lot : Cl P w K mg base 1 "check_lot" (spIsLot K CL)) (C_check_store : Cg P w K mg base CX0 1 "check_store" (spIsSto K CS)) (C_check_together : Cg P w K mg base CX0 2 "check_together" (spTogN K)) (P_sizes : Pg P w K mg base 1 CL "sizes" (spSizes K CL)) : Cg P w K mg base CX0 3 "check_levels" (spChkL K CL CS) := by
  refine cg_ofA D sc_check_levels (fun vs H Q E h => ?_) (fun f cdv A fr s H vs Q E hr hgd h => ?_)
  · obtain ⟨a, b, ps, rs, rfl, _⟩ := h
    rfl
  · obtain ⟨a, b, ps, rs, rfl, hl, hc, hs, q⟩ := h
    refine ⟨_, (pss_cons (ps_expr (pcg (Cl.g C_check_lot) hr hgd (pa_cons (pv 0) pa_nil)))
    (pss_cons (ps_expr (pcg C_check_store hr hgd (pa_cons (pv 1) pa_nil)))
     (pss_one (ps_expr (pcg C_check_together hr hgd (pa_cons (pprop P_sizes hr (pv 0)) pa_nil)))))), ?_⟩
    refine Evl.q_drop (ev_call1 (Evl.ev_var rfl) (chklot_v hl)) (fun H1 e1 => Evl.q_drop (ev_call1 (Evl.ev_var rfl) (fun H2 e2 Q q E => ⟨b, rs, rfl, hs.up (e1.trans e2), q⟩)) (fun H2 e2 => ?_))
    refine etu_sizes (Evl.ev_var rfl) (hl.up (e1.trans e2)) H2 (Evl.Ex.refl H2) _ (fun t H3 e3 ht => ⟨t, _, rfl, ht, ?_, fun n hn => (cts_pos hc.ct n hn).1, hc.uni, fun H4 e4 => q H4 (e1.trans (e2.trans (e3.trans e4)))⟩)
    rw [List.length_map]
    have := hc.ct.ln
    omega
theorem ok_chkM {CL CS : Addr} (B : Bl mg) (D : Dfa K mg "check_most" "_check" s_check_most ["lot", "store"]) (C_check_lot : Cl P w K mg base 1 "check_lot" (spIsLot K CL)) (C_check_store : Cg P w K mg base CX0 1 "check_store" (spIsSto K CS)) (C_check_together : Cg P w K mg base CX0 2 "check_together" (spTogN K)) (P_sizes : Pg P w K mg base 1 CL "sizes" (spSizes K CL)) : Cg P w K mg base CX0 3 "check_most" (spChkL K CL CS) := by
  refine cg_ofA D sc_check_most (fun vs H Q E h => ?_) (fun f cdv A fr s H vs Q E hr hgd h => ?_)
  · obtain ⟨a, b, ps, rs, rfl, _⟩ := h
    rfl
  · obtain ⟨a, b, ps, rs, rfl, hl, hc, hs, q⟩ := h
    refine ⟨_, (pss_cons (ps_expr (pcg (Cl.g C_check_lot) hr hgd (pa_cons (pv 0) pa_nil)))
    (pss_cons (ps_expr (pcg C_check_store hr hgd (pa_cons (pv 1) pa_nil)))
     (pss_one (ps_expr (pcg C_check_together hr hgd (pa_cons (pprop P_sizes hr (pv 0)) pa_nil)))))), ?_⟩
    refine Evl.q_drop (ev_call1 (Evl.ev_var rfl) (chklot_v hl)) (fun H1 e1 => Evl.q_drop (ev_call1 (Evl.ev_var rfl) (fun H2 e2 Q q E => ⟨b, rs, rfl, hs.up (e1.trans e2), q⟩)) (fun H2 e2 => ?_))
    refine etu_sizes (Evl.ev_var rfl) (hl.up (e1.trans e2)) H2 (Evl.Ex.refl H2) _ (fun t H3 e3 ht => ⟨t, _, rfl, ht, ?_, fun n hn => (cts_pos hc.ct n hn).1, hc.uni, fun H4 e4 => q H4 (e1.trans (e2.trans (e3.trans e4)))⟩)
    rw [List.length_map]
    have := hc.ct.ln
    omega
theorem ok_levels {CL CS : Addr} (B : Bl mg) (D : Df K mg "levels_of" s_levels_of ["lot", "store"]) (C_check_levels : Cg P w K mg base CX0 3 "check_levels" (spChkL K CL CS)) (P_sizes : Pg P w K mg base 1 CL "sizes" (spSizes K CL)) (O_Lot_units : Og P w K mg base 4 CL "units" ["self", "size"] (spLotU K CL)) (O_Store_units : Og P w K mg base 4 CS "units" ["self", "size"] (spUnits K CS)) : Cg P w K mg base CX0 5 "levels_of" (spLvs K CL CS) := by
  refine cg_of D sc_levels_of (fun vs H Q E h => ?_) (fun f cdv A fr s H vs Q E hr hgd h => ?_)
  · obtain ⟨a, b, ps, rs, rfl, _⟩ := h
    rfl
  · obtain ⟨a, b, ps, rs, rfl, hl, hc, hs, ho, q⟩ := h
    refine ⟨_, (pss_cons (ps_expr (pcg C_check_levels hr hgd (pa_cons (pv 0) (pa_cons (pv 1) pa_nil))))
    (pss_one (ps_ret (pe_callTy call_tuple_of (by rfl) B.tuple bt_tuple (pa_cons (pe_lc (own := [("size", 2)]) (g := (gName 2)) rfl sc_levels_of.nd (pi_tup (pprop P_sizes hr (pv 0))) (blkOk_by (own := [("size", 2)]) (N := n_levels_of) (sc := defScope s_levels_of) (by decide +kernel)) (fun _ _ _ _ _ => (pg_name (i := 2) sc_levels_of.nd rfl (by first | exact Or.inl rfl | exact Or.inr rfl))) (fun _ _ _ _ _ => pts_nil) (fun _ _ _ _ _ => (pe_tup (pa_cons (pv 2) (pa_cons (pmeth O_Lot_units hr (pv 0) (pa_cons (pv 2) pa_nil)) (pa_cons (pmeth O_Store_units hr (pv 1) (pa_cons (pv 2) pa_nil)) pa_nil)))))) pa_nil))))), ?_⟩
    have ln := hc.ct.ln
    refine Evl.q_drop (Evl.ev_call (vs := [.ref a, .ref b]) (Evl.ea_cons (Evl.ev_var rfl) (Evl.ea_cons (Evl.ev_var rfl) Evl.ea_nil)) (fun H1 e1 Q q E => ⟨a, b, ps, rs, rfl, hl.up e1, hc, hs.up e1, q⟩)) (fun H1 e1 => ?_)
    have hl1 := hl.up e1
    have hs1 := hs.up e1
    refine st_retTF (K := K) (R := RT3 K) (as := lvs ps rs) (fun _ _ _ _ e r => r.ex e) (fun Q2 q2 => lc_tupE (K := K) (R := RT3 K) (e := fun s => (s, unt ps s, unt rs s)) (fun _ _ _ _ e r => r.ex e) (fun _ _ _ _ _ _ hl r => r.upd hl) (etu_sizes (Evl.ev_var (i := 0) rfl) hl1) (by rw [List.length_map]; omega) (fun _ => rfl) (fun n hn H2 e2 => ?_) H1 (Evl.Ex.refl H1) Q2 q2) (fun l vs H2 e2 hl2 hf => q l vs H2 (e1.trans e2) hl2 hf)
    obtain ⟨n0, n1, _⟩ := cts_pos hc.ct n hn
    exact evr_t3 (Evl.ev_var (i := 2) rfl) (ev_lotU (Evl.ev_var (i := 0) rfl) (Evl.ev_var (i := 2) rfl) (hl1.up e2) hc.ct (siz_of n0 n1) (hc.dv n hn)) (ev_units (Evl.ev_var (i := 1) rfl) (Evl.ev_var (i := 2) rfl) (hs1.up e2) ho (siz_of n0 n1))
theorem ok_barring {CL CS : Addr} (B : Bl mg) (D : Df K mg "barring_sizes" s_barring_sizes ["lot", "store"]) (C_levels_of : Cg P w K mg base CX0 5 "levels_of" (spLvs K CL CS)) : Cg P w K mg base CX0 6 "barring_sizes" (spBrs K CL CS) := by
  refine cg_of D sc_barring_sizes (fun vs H Q E h => ?_) (fun f cdv A fr s H vs Q E hr hgd h => ?_)
  · obtain ⟨a, b, ps, rs, rfl, _⟩ := h
    rfl
  · obtain ⟨a, b, ps, rs, rfl, hl, hc, hs, ho, q⟩ := h
    refine ⟨_, (pss_one (ps_ret (pe_callTy call_tuple_of (by rfl) B.tuple bt_tuple (pa_cons (pe_lc (own := [("size", 2), ("needed", 3), ("given", 4)]) (g := (gTup K 3 (gCons (gName 2) (gCons (gName 3) (gCons (gName 4) gNil))))) rfl sc_barring_sizes.nd (pi_tup (pcg C_levels_of hr hgd (pa_cons (pv 0) (pa_cons (pv 1) pa_nil)))) (blkOk_by (own := [("size", 2), ("needed", 3), ("given", 4)]) (N := n_barring_sizes) (sc := defScope s_barring_sizes) (by decide +kernel)) (fun _ _ _ _ _ => (pg_tup (n := 3) rfl (pgs_cons (pg_name (i := 2) sc_barring_sizes.nd rfl (by first | exact Or.inl rfl | exact Or.inr rfl)) (pgs_cons (pg_name (i := 3) sc_barring_sizes.nd rfl (by first | exact Or.inl rfl | exact Or.inr rfl)) (pgs_cons (pg_name (i := 4) sc_barring_sizes.nd rfl (by first | exact Or.inl rfl | exact Or.inr rfl)) pgs_nil))))) (fun _ _ _ _ _ => (pts_one (pt_cmpR op_gt (pv 3) (pv 4) (nomark _)))) (fun _ _ _ _ _ => (pv 2))) pa_nil)))), ?_⟩
    have ln := hc.ct.ln
    refine eu_tupleL (K := K) (Ck.el_is (el_lcT3 (K := K) (qs := lvs ps rs) (fun q => decide (q.2.1 > q.2.2)) (fun q => .int q.1) (fun H1 e1 Q q => ?_) (by unfold lvs; rw [List.length_map, List.length_map]; omega) (fun _ _ _ => rfl) (fun q _ H1 _ => Evl.et_test (ev_i0 (Evl.ev_var rfl) (Evl.ev_var rfl))) (fun q _ H1 _ => Evl.ev_var rfl)) (ys := (brs ps rs).map V.int) (by rw [← brs_lvs, List.map_map]; rfl)) H (Evl.Ex.refl H) _ fun t H1 n1 e1 ht => q t H1 e1 (SqT.of ht)
    exact ⟨.ref a, rfl, .ref b, rfl, a, b, ps, rs, rfl, hl.up e1, hc, hs.up e1, ho, fun t ts H2 e2 ht hf => q t ts H2 e2 ht hf⟩
theorem ok_fits {CL CS : Addr} (B : Bl mg) (D : Df K mg "fits" s_fits ["lot", "store"]) (C_barring_sizes : Cg P w K mg base CX0 6 "barring_sizes" (spBrs K CL CS)) : Cg P w K mg base CX0 7 "fits" (spFits K CL CS) := by
  refine cg_of D sc_fits (fun vs H Q E h => ?_) (fun f cdv A fr s H vs Q E hr hgd h => ?_)
  · obtain ⟨a, b, ps, rs, rfl, _⟩ := h
    rfl
  · obtain ⟨a, b, ps, rs, rfl, hl, hc, hs, ho, q⟩ := h
    refine ⟨_, (pss_one (ps_ret (pe_cmpR (op_eqD hr.units) (pcg C_barring_sizes hr hgd (pa_cons (pv 0) (pa_cons (pv 1) pa_nil))) (pe_tup pa_nil) (nomark _)))), ?_⟩
    refine Evl.s_ret (Evl.ev_is (ev_eqD (K := K) (ed_etu (ns := brs ps rs) (fun H1 e1 Q q => ?_)) (e := .tuple []) (ed_tup ed_nil) (shaped_tints _) (by decide +kernel)) (by rw [eqv_tnil, fit_brs])) q
    exact ⟨.ref a, rfl, .ref b, rfl, a, b, ps, rs, rfl, hl.up e1, hc, hs.up e1, ho, fun t H2 e2 ht => q t H2 e2 ht⟩

theorem ok_chknL (B : Bl mg) (D : Df K mg "check_count" s_check_count ["value"]) (C_is_count : Cl P w K mg base 2 "is_count" (spNum K cntB)) : Cl P w K mg base 3 "check_count" (spChkN cntB) := by
  refine cl_of D sc_check_count (fun vs H Q E h => ?_) (fun f cdv A fr s H vs Q E hr h => ?_)
  · obtain ⟨a, rfl, _⟩ := h
    rfl
  · obtain ⟨a, rfl, ha, q⟩ := h
    refine ⟨_, (pss_one (ps_if (pt_not (pt_val (pcal C_is_count hr (pa_cons (pv 0) pa_nil)))) (pss_one ps_never) pss_nil)), ?_⟩
    exact Evl.s_when (b := false) (Evl.et_is (Evl.et_not (Evl.et_B (ev_call1 (Evl.ev_var rfl) num_i))) (by rw [ha]; rfl)) (fun z => nomatch z) (fun _ H1 e1 => q H1 e1)
def withP (ps : List (Int × Int)) (z n : Int) : List (Int × Int) := (ps.filter fun p => !decide (p.1 = z)) ++ (if 0 < n then [(z, n)] else [])
def spLotWith (K : PySem.W.Frag) (C : Addr) : Sp := fun vs H Q _ => ∃ a ps z n, vs = [.ref a, .int z, .int n] ∧ LotAt K C H a ps ∧ Cts ps ∧ sizB z = true ∧ cntB n = true ∧ Cts (withP ps z n) ∧ ∀ c ts H', Evl.Ex H H' → ts.Perm (withP ps z n) → Asc ts → LotAt K C H' c ts → Q (.ref c) H'
theorem ok_lotwith (B : Bl mg) (T : Cs mg) {CL : Addr} (LT_Lot : LotT K mg CL) (D : Dop K CL "with_count" "Lot.with_count" s_Lot_with_count ["self", "size", "number"]) (C_check_size : Cl P w K mg base 3 "check_size" (spChkN sizB)) (C_check_count : Cl P w K mg base 3 "check_count" (spChkN cntB)) (M_Lot : Mkc P w K mg base 4 "Lot" CL (spLotI K CL)) : Og P w K mg base 6 CL "with_count" ["self", "size", "number"] (spLotWith K CL) := by
  refine og_of LT_Lot.k.cl D sc_Lot_with_count (fun vs H Q E h => ?_) (fun f cdv A fr s H vs Q E hr h => ?_)
  · obtain ⟨a, ps, z, n, rfl, _⟩ := h
    rfl
  · obtain ⟨a, ps, z, n, rfl, hl, hcp, hz, hn, hc, q⟩ := h
    refine ⟨_, (pss_cons (ps_expr (pcal C_check_size hr (pa_cons (pv 1) pa_nil)))
    (pss_cons (ps_expr (pcal C_check_count hr (pa_cons (pv 2) pa_nil)))
     (pss_cons (ps_setDc (i := 3) (own := [("each", 4), ("count", 5)]) (g := (gTup K 2 (gCons (gName 4) (gCons (gName 5) gNil)))) rfl sc_Lot_with_count.nd rfl rfl (sw_trueD rfl rfl rfl (by decide +kernel)) (pi_tup (pe_fld (pv 0) rfl)) (blkOk_by (own := [("each", 4), ("count", 5)]) (N := n_Lot_with_count) (sc := defScope s_Lot_with_count) (by decide +kernel)) (fun _ _ _ _ _ => (pg_tup (n := 2) rfl (pgs_cons (pg_name (i := 4) sc_Lot_with_count.nd rfl (by first | exact Or.inl rfl | exact Or.inr rfl)) (pgs_cons (pg_name (i := 5) sc_Lot_with_count.nd rfl (by first | exact Or.inl rfl | exact Or.inr rfl)) pgs_nil)))) (fun _ _ _ _ _ => (pts_one (pt_cmpR op_ne (pv 4) (pv 1) (nomark _)))) (fun _ _ _ _ _ => (pv 4)) (fun _ _ _ _ _ => (pv 5)))
      (pss_cons (ps_if (pt_cmpR op_gt (pv 2) pe_int (nomark _)) (pss_one (ps_dput (hu_of hr) (pv 3) (pv 1) (pv 2) rfl)) pss_nil)
       (pss_cons (ps_if (pt_cmpR op_gt (pe_callB call_lenD (by rfl) B.len bt_len (pa_cons (pv 3) pa_nil)) (pe_gc2 (by rfl) T.c_MAX_SIZES) (nomark _)) (pss_one ps_never) pss_nil)
        (pss_one (ps_ret (pmk M_Lot hr (pa_cons (pv 3) pa_nil))))))))), ?_⟩
    have ln := hcp.ln
    refine Evl.q_drop (ev_call1 (Evl.ev_var rfl) (chkn_v hz)) (fun H1 e1 => ?_)
    refine Evl.q_drop (ev_call1 (Evl.ev_var rfl) (chkn_v hn)) (fun H2 e2 => ?_)
    obtain ⟨dx, t1, t2, d, ts, h1, h2, h3, h4, h5⟩ := (hl.up (e1.trans e2)).ex
    have fnd : ((ps.filter fun p => !decide (p.1 = z)).map Prod.fst).Nodup := (List.filter_sublist.map Prod.fst).nodup hcp.nd
    have fln : (ps.filter fun p => !decide (p.1 = z)).length ≤ ps.length := List.length_filter_le _ _
    refine q_asgP (P := fun v H' => ∃ d, v = .ref d ∧ H2 d = none ∧ Evl.Ex H2 H' ∧ H' d = some (.dK ((ps.filter fun p => !decide (p.1 = z)).map kc))) (fun Q2 q2 => (dc_tupP (K := K) (fun p => !decide (p.1 = z)) id (ev_fldL (Evl.ev_var rfl) h1 LT_Lot.k.cl LT_Lot.n2 (lot_pairs t1 t2 d)) h3 h4 (by omega) (fun _ _ => rfl) (fun p _ H3 _ => Evl.et_is (Evl.et_test (ev_ne (Evl.ev_var rfl) (Evl.ev_var rfl) rfl)) (congrArg _ (decide_eq_decide.mpr ⟨V.int.inj, congrArg V.int⟩))) (fun p hp _ H5 _ => Evl.ev_var rfl) (fun p hp _ H5 _ => Evl.ev_var rfl)).is (qs := ps.filter fun p => !decide (p.1 = z)) (by rw [List.map_id]; exact merP_self fnd) H2 (Evl.Ex.refl H2) _ fun x H5 n5 e5 hx => q2 _ H5 ⟨x, rfl, n5, e5, hx⟩) ?_
    rintro _ H3 ⟨u, rfl, nu, e3, hu⟩
    have znk : z ∉ (ps.filter fun p => !decide (p.1 = z)).map Prod.fst := fun m => by
      obtain ⟨x, hx, e⟩ := List.mem_map.mp m
      have := (List.mem_filter.mp hx).2
      rw [e, decide_eq_true rfl] at this
      cases this
    have E3 := e1.trans (e2.trans e3)
    have nu0 : H u = none := Evl.fresh_back (e1.trans e2) nu
    refine Evl.q_when (b := decide (0 < n)) (Evl.et_test (ev_i0 (g := fun i j => .bl (decide (j < i))) (Evl.ev_var rfl) Evl.ev_c)) (fun c H4 e4 => ?_) (fun c H4 e4 => ?_)
    · refine ⟨.int n, rfl, .ref u, rfl, .int z, rfl, u, _, rfl, DPut.k (k := Sum.inl z) (e4 _ _ hu) (by rw [List.length_map, sizeLine_eq]; omega), ?_⟩
      · have hd : upd H4 u (.dK (putK ((ps.filter fun p => !decide (p.1 = z)).map kc) (Sum.inl z) (.int n))) u = some (.dK ((withP ps z n).map kc)) := by
          unfold withP
          rw [upd_same, putK_new znk, if_pos (of_decide_eq_true c)]
        have EE : Evl.Ex H (upd H4 u (.dK (putK ((ps.filter fun p => !decide (p.1 = z)).map kc) (Sum.inl z) (.int n)))) := Evl.Ex.mut (E3.trans e4) nu0
        generalize upd H4 u (.dK (putK ((ps.filter fun p => !decide (p.1 = z)).map kc) (Sum.inl z) (.int n))) = H5 at hd EE ⊢
        have hln := hc.ln
        refine Evl.q_when (b := false) (Evl.et_is (Evl.et_test (ev_i0 (g := fun i j => .bl (decide (j < i))) (ev_lenD (Evl.ev_var rfl) hd) (Evl.ev_c (v := .int 12)))) (decide_eq_false (by rw [List.length_map]; omega))) (fun z => nomatch z) (fun _ H6 e6 => ?_)
        exact lot_make (K := K) (ps := withP ps z n) (fun Q2 q2 => ⟨_, rfl, q2 u H6 (Evl.Ex.refl H6) (e6 _ _ hd)⟩) hc _ fun c ts' H7 e7 hp' ha' hl' => q c ts' H7 (EE.trans (e6.trans e7)) hp' ha' hl'
    · · have hd : H4 u = some (.dK ((withP ps z n).map kc)) := by
          unfold withP
          rw [if_neg (of_decide_eq_false c), List.append_nil]
          exact e4 _ _ hu
        have EE : Evl.Ex H H4 := E3.trans e4
        have hln := hc.ln
        refine Evl.q_when (b := false) (Evl.et_is (Evl.et_test (ev_i0 (g := fun i j => .bl (decide (j < i))) (ev_lenD (Evl.ev_var rfl) hd) (Evl.ev_c (v := .int 12)))) (decide_eq_false (by rw [List.length_map]; omega))) (fun z => nomatch z) (fun _ H6 e6 => ?_)
        exact lot_make (K := K) (ps := withP ps z n) (fun Q2 q2 => ⟨_, rfl, q2 u H6 (Evl.Ex.refl H6) (e6 _ _ hd)⟩) hc _ fun c ts' H7 e7 hp' ha' hl' => q c ts' H7 (EE.trans (e6.trans e7)) hp' ha' hl'

theorem ok_spare {CL CS : Addr} (B : Bl mg) (D : Df K mg "spare" s_spare ["lot", "store", "size"]) (C_check_lot : Cl P w K mg base 1 "check_lot" (spIsLot K CL)) (C_check_store : Cg P w K mg base CX0 1 "check_store" (spIsSto K CS)) (C_check_size : Cl P w K mg base 3 "check_size" (spChkN sizB)) (C_check_together : Cg P w K mg base CX0 2 "check_together" (spTogN K)) (C_fits : Cg P w K mg base CX0 7 "fits" (spFits K CL CS)) (P_sizes : Pg P w K mg base 1 CL "sizes" (spSizes K CL)) (O_Lot_units : Og P w K mg base 4 CL "units" ["self", "size"] (spLotU K CL)) (O_Store_units : Og P w K mg base 4 CS "units" ["self", "size"] (spUnits K CS)) : Cg P w K mg base CX0 8 "spare" (spSpare K CL CS) := by
  refine cg_of D sc_spare (fun vs H Q E h => ?_) (fun f cdv A fr s H vs Q E hr hgd h => ?_)
  · obtain ⟨a, b, z, ps, rs, rfl, _⟩ := h
    rfl
  · obtain ⟨a, b, z, ps, rs, rfl, hl, hc, hs, ho, hz, hd, hgap, q1, q2⟩ := h
    refine ⟨_, (pss_cons (ps_expr (pcg (Cl.g C_check_lot) hr hgd (pa_cons (pv 0) pa_nil)))
    (pss_cons (ps_expr (pcg C_check_store hr hgd (pa_cons (pv 1) pa_nil)))
     (pss_cons (ps_expr (pcg (Cl.g C_check_size) hr hgd (pa_cons (pv 2) pa_nil)))
      (pss_cons (ps_expr (pcg C_check_together hr hgd (pa_cons (pe_op op_catA (pprop P_sizes hr (pv 0)) (pe_tup (pa_cons (pv 2) pa_nil))) pa_nil)))
       (pss_cons (ps_if (pt_not (pt_val (pcg C_fits hr hgd (pa_cons (pv 0) (pa_cons (pv 1) pa_nil))))) (pss_one (ps_ret pe_non)) pss_nil)
        (pss_cons (ps_setLc (i := 3) (own := [("each", 4)]) (g := (gName 4)) rfl sc_spare.nd rfl rfl (sw_true rfl rfl rfl (by decide +kernel)) (pi_tup (pe_op op_catA (pprop P_sizes hr (pv 0)) (pe_tup (pa_cons (pv 2) pa_nil)))) (blkOk_by (own := [("each", 4)]) (N := n_spare) (sc := defScope s_spare) (by decide +kernel)) (fun _ _ _ _ _ => (pg_name (i := 4) sc_spare.nd rfl (by first | exact Or.inl rfl | exact Or.inr rfl))) (fun _ _ _ _ _ => (pts_one (pt_cmpR op_le (pv 4) (pv 2) (nomark _)))) (fun _ _ _ _ _ => (pv 4)))
         (pss_one (ps_ret (pe_callB (cr_min rfl) (by rfl) B.min bt_min (pa_cons (pe_lc (own := [("each", 4)]) (g := (gName 4)) rfl sc_spare.nd (pi_list (pv 3)) (blkOk_by (own := [("each", 4)]) (N := n_spare) (sc := defScope s_spare) (by decide +kernel)) (fun _ _ _ _ _ => (pg_name (i := 4) sc_spare.nd rfl (by first | exact Or.inl rfl | exact Or.inr rfl))) (fun _ _ _ _ _ => pts_nil) (fun _ _ _ _ _ => (pe_op op_fdivW (pe_op op_sub (pmeth O_Store_units hr (pv 1) (pa_cons (pv 4) pa_nil)) (pmeth O_Lot_units hr (pv 0) (pa_cons (pv 4) pa_nil))) (pe_op op_fdivW (pv 2) (pv 4))))) pa_nil)))))))))), ?_⟩
    obtain ⟨z0, z1⟩ := siz_int hz
    have ln := hc.ct.ln
    have el : (ps.map Prod.fst ++ [z]).map V.int = (ps.map Prod.fst).map V.int ++ [.int z] := by rw [List.map_append]; rfl
    have all : ∀ H1, Evl.Ex H H1 → ∀ σ : L2.St, σ[0]? = some (some (.ref a)) → σ[2]? = some (some (.int z)) → Etu K (tOp (rCatA K) (tProp CL (spSizes K CL) [] E0 (tVar 0)) (tTup (tCons (tVar 2) tNil))) σ H1 ((ps.map Prod.fst ++ [z]).map V.int) := fun H1 e1 σ v0 v2 => by
      rw [el]
      exact etu_cat (etu_sizes (Evl.ev_var v0) (hl.up e1)) (etu_t (Evl.ea_cons (Evl.ev_var v2) Evl.ea_nil) (by show 1 ≤ 100000; decide)) (by rw [List.length_map, List.length_map]; show _ + 1 ≤ _; omega)
    have posA : ∀ n ∈ ps.map Prod.fst ++ [z], 0 < n ∧ n.natAbs < 10 ^ 200 ∧ sizB n = true := fun n hn => by
      rcases List.mem_append.mp hn with h | h
      · exact cts_pos hc.ct n h
      · rw [List.mem_singleton.mp h]
        exact ⟨z0, z1, hz⟩
    refine Evl.q_drop (ev_call1 (Evl.ev_var rfl) (chklot_v hl)) (fun H1 e1 => Evl.q_drop (ev_call1 (Evl.ev_var rfl) (fun H2 e2 Q q E => ⟨b, rs, rfl, hs.up (e1.trans e2), q⟩)) (fun H2 e2 => Evl.q_drop (ev_call1 (Evl.ev_var rfl) (chkn_v hz)) (fun H3 e3 => ?_)))
    have E3 := (e1.trans e2).trans e3
    refine all H3 E3 _ rfl rfl H3 (Evl.Ex.refl H3) _ (fun t H4 e4 ht => ⟨t, _, rfl, ht, by rw [List.length_append, List.length_map]; show _ + 1 < 60; omega, fun n hn => (posA n hn).1, hgap, fun H5 e5 => ?_⟩)
    have E5 := E3.trans (e4.trans e5)
    refine Evl.q_when (Evl.et_not (Evl.et_B (fits_e (K := K) (elot_v (Evl.ev_var rfl) (hl.up E5)) (esto_v (Evl.ev_var rfl) (hs.up E5)) hc ho))) (fun c H6 e6 => ?_) (fun c H6 e6 => ?_)
    · exact Evl.s_ret Evl.ev_c (fun H7 e7 => q1 (nt c) H7 (E5.trans (e6.trans e7)))
    · have fit := nf c
      have E6 := E5.trans e6
      refine Evl.q_asgL (xs := ((ps.map Prod.fst ++ [z]).filter fun e => decide (e ≤ z)).map V.int) (el_lcN (K := K) (ns := ps.map Prod.fst ++ [z]) (fun e => decide (e ≤ z)) (fun e => .int e) (all H6 E6 _ rfl rfl) (by rw [List.length_append, List.length_map]; show _ + 1 ≤ 40000; omega) (fun _ => rfl) (fun n _ H7 _ => Evl.et_test (ev_i0 (Evl.ev_var rfl) (Evl.ev_var rfl))) (fun n _ _ H7 _ => Evl.ev_var rfl)) (fun l H7 nl e7 hl7 => ?_)
      have E7 := E6.trans e7
      have fl : ((ps.map Prod.fst ++ [z]).filter fun e => decide (e ≤ z)).length ≤ 13 := by
        refine Nat.le_trans (List.length_filter_le _ _) ?_
        rw [List.length_append, List.length_map]
        show _ + 1 ≤ 13
        omega
      have zin : z ∈ (ps.map Prod.fst ++ [z]).filter fun e => decide (e ≤ z) := List.mem_filter.mpr ⟨List.mem_append_right _ (List.mem_singleton.mpr rfl), decide_eq_true (Int.le_refl z)⟩
      refine min_ret (K := K) (ns := sprL ps rs z) (Ck.el_is (el_lcVN (K := K) (ns := (ps.map Prod.fst ++ [z]).filter fun e => decide (e ≤ z)) (fun _ => true) (fun e => .int ((unt rs e - unt ps e) / (z / e))) (elv_v (Evl.ev_var (i := 3) rfl) (SqL.of hl7)) (by omega) (fun _ => rfl) (fun n _ H8 _ Q q => fun _ q => q _ (Evl.Ex.refl _)) (fun n hn _ H8 e8 => ?_)) ?_) (by unfold sprL; rw [List.length_map]; exact List.length_pos_of_mem zin) (fun t H8 e8 m lt => q2 fit t H8 m lt (E7.trans e8))
      · obtain ⟨m, le⟩ := List.mem_filter.mp hn
        have le := of_decide_eq_true le
        obtain ⟨n0, n1, nz⟩ := posA n m
        have k0 : 0 < z / n := Int.lt_of_lt_of_le (show (0 : Int) < 1 by decide) ((Int.le_ediv_iff_mul_le n0).mpr (by rw [Int.one_mul]; exact le))
        have dv : ∀ p ∈ ps, n < p.1 → n ∣ p.1 := fun p hp lt => by
          rcases List.mem_append.mp m with h | h
          · exact hc.dv n h p hp lt
          · rw [List.mem_singleton.mp h] at lt ⊢
            exact hd p hp lt
        exact ev_i (g := fun i j => .int (i / j)) (ev_i0 (g := fun i j => .int (i - j)) (ev_units (Evl.ev_var rfl) (Evl.ev_var rfl) (hs.up (E7.trans e8)) ho nz) (ev_lotU (Evl.ev_var rfl) (Evl.ev_var rfl) (hl.up (E7.trans e8)) hc.ct nz dv)) (ev_i (g := fun i j => .int (i / j)) (Evl.ev_var rfl) (Evl.ev_var rfl) (divW n0 n1)) (divW k0 (Nat.lt_of_le_of_lt (natAbs_div (Int.le_of_lt z0) n0) z1))
      · rw [List.filter_eq_self.mpr fun _ _ => rfl]
        unfold sprL
        rw [List.map_map]
        rfl
theorem cnt_app {a b : List (Int × Int)} {s : Int} : cnt (a ++ b) s = (cnt a s).or (cnt b s) := by
  induction a with
  | nil => rfl
  | cons p r ih =>
    show (if p.1 = s then some p.2 else cnt (r ++ b) s) = (if p.1 = s then some p.2 else cnt r s).or (cnt b s)
    split
    · rfl
    · exact ih
theorem withP_cnt {ps : List (Int × Int)} {z n s : Int} (h : (ps.map Prod.fst).Nodup) : cnt (withP ps z n) s = if s = z then (if 0 < n then some n else none) else cnt ps s := by
  unfold withP
  rw [cnt_app, cnt_fil h]
  by_cases e : s = z
  · rw [if_pos e]
    have e1 : ((cnt ps s).bind fun v => if (!decide ((s, v).1 = z)) = true then some v else none) = none := by
      cases cnt ps s with
      | none => rfl
      | some v =>
        show (if (!decide (s = z)) = true then some v else none) = none
        rw [decide_eq_true e]
        rfl
    rw [e1]
    by_cases k : 0 < n
    · rw [if_pos k, if_pos k]
      show (none : Option Int).or (if z = s then some n else none) = some n
      rw [if_pos e.symm]
      rfl
    · rw [if_neg k, if_neg k]
      rfl
  · rw [if_neg e]
    have e1 : ((cnt ps s).bind fun v => if (!decide ((s, v).1 = z)) = true then some v else none) = cnt ps s := by
      cases cnt ps s with
      | none => rfl
      | some v =>
        show (if (!decide (s = z)) = true then some v else none) = some v
        rw [decide_eq_false e]
        rfl
    have e2 : cnt (if 0 < n then [(z, n)] else []) s = none := by
      split
      · show (if z = s then some n else none) = none
        rw [if_neg (Ne.symm e)]
      · rfl
    rw [e1, e2]
    cases cnt ps s <;> rfl
theorem withP_nd {ps : List (Int × Int)} {z n : Int} (h : (ps.map Prod.fst).Nodup) : ((withP ps z n).map Prod.fst).Nodup := by
  unfold withP
  rw [List.map_append, List.nodup_append]
  refine ⟨(List.filter_sublist.map Prod.fst).nodup h, ?_, fun a ha b hb e => ?_⟩
  · split
    · exact List.nodup_cons.mpr ⟨List.not_mem_nil, List.nodup_nil⟩
    · exact List.nodup_nil
  · split at hb
    · obtain ⟨x, hx, rfl⟩ := List.mem_map.mp ha
      have := (List.mem_filter.mp hx).2
      rw [e, List.mem_singleton.mp hb, decide_eq_true rfl] at this
      cases this
    · cases hb
theorem lot_mWc (t1 t2 d : Addr) : (lotF t1 t2 d).lookup ("with_count" : Str) = none := by
  unfold lotF
  rw [lookup_putF, if_neg (by decide), lookup_putF, if_neg (by decide), lookup_putF, if_neg (by decide)]
  rfl
theorem cf_withP {ps : List (Int × Int)} {z d : Int} (h : (ps.map Prod.fst).Nodup) (hn : cnt ps z = none) (d0 : 0 ≤ d) : cf (withP ps z d) = adC (cf ps) z d := by
  funext t
  show (cnt (withP ps z d) t).getD 0 = if t = z then (cnt ps t).getD 0 + d else (cnt ps t).getD 0
  rw [withP_cnt h]
  by_cases e : t = z
  · rw [if_pos e, if_pos e, e, hn]
    by_cases p : 0 < d
    · rw [if_pos p]
      show d = 0 + d
      omega
    · rw [if_neg p]
      show (0 : Int) = 0 + d
      omega
  · rw [if_neg e, if_neg e]
def spFil (K : PySem.W.Frag) (CL CS : Addr) : Sp := fun vs H Q _ => ∃ a0 a b t ps0 qs rs L, vs = [.ref a0, .ref a, .ref b, .ref t] ∧ LotAt K CL H a0 ps0 ∧ LotC ps0 ∧ fitB ps0 rs = true ∧ LotAt K CL H a qs ∧ LotC qs ∧ StoAt K CS H b rs ∧ StoOk rs ∧ (∀ p ∈ ps0, p.1 ∈ qs.map Prod.fst) ∧ (SqT K H t (L.map V.int) ∨ SqL K H t (L.map V.int)) ∧ L.Nodup ∧ (∀ z ∈ L, z ∈ qs.map Prod.fst ∧ cnt ps0 z = none) ∧
  ∀ c fs H', Evl.Ex H H' → LotAt K CL H' c fs → LotC fs → (∀ p ∈ fs, p.1 ∈ qs.map Prod.fst) → fitB fs rs = true → Fil (qs.map Prod.fst) (cf qs) (unt rs) (cf ps0) L (cf fs) → Q (.ref c) H'
theorem ok_filled {CL CS : Addr} (B : Bl mg) (D : Df K mg "_filled" s__filled ["part", "lot", "store", "sizes"]) (C_spare : Cg P w K mg base CX0 8 "spare" (spSpare K CL CS)) (O_Lot_with_count : Og P w K mg base 6 CL "with_count" ["self", "size", "number"] (spLotWith K CL)) (O_Lot_getitem : Og P w K mg base 4 CL "__getitem__" ["self", "at"] (spItem K CL)) : Cg P w K mg base CX0 9 "_filled" (spFil K CL CS) := by
  refine cg_of D sc__filled (fun vs H Q E h => ?_) (fun f cdv A fr s H vs Q E hr hgd h => ?_)
  · obtain ⟨a0, a, b, t, ps0, qs, rs, L, rfl, _⟩ := h
    rfl
  · obtain ⟨a0, a, b, t, ps0, qs, rs, L, rfl, h0, c0, f0, hq, cq, hs, ho, k0, ht, nL, hL, q⟩ := h
    refine ⟨_, (pss_cons (ps_set (i := 4) sc__filled.nd rfl (by first | exact Or.inl rfl | exact Or.inr rfl) (pv 0))
    (pss_cons (ps_for PassesOwn.never rfl (pi_seq (pv 3)) (pg_name (i := 5) sc__filled.nd rfl (by first | exact Or.inl rfl | exact Or.inr rfl)) (pss_one (ps_set (i := 4) sc__filled.nd rfl (by first | exact Or.inl rfl | exact Or.inr rfl) (pmeth O_Lot_with_count hr (pv 4) (pa_cons (pv 5) (pa_cons (pe_callB (call_min2 rfl) (by rfl) B.min bt_min (pa_cons (pgetO O_Lot_getitem hr (pv 1) (pv 5)) (pa_cons (pcg C_spare hr hgd (pa_cons (pv 4) (pa_cons (pv 2) (pa_cons (pv 5) pa_nil)))) pa_nil))) pa_nil))))))
     (pss_one (ps_ret (pv 4))))), ?_⟩
    have hN := lotc_pws cq
    have ndN : (qs.map Prod.fst).Nodup := cq.ct.nd
    have hr0 : ∀ r ∈ rs, 0 ≤ r.1 ∧ 0 ≤ r.2 := fun r hr => by
      obtain ⟨x, y, z⟩ := ho.ok r hr
      have := (siz_int x).1
      omega
    have lN : (qs.map Prod.fst).length ≤ 12 := by rw [List.length_map]; exact cq.ct.ln
    refine Evl.q_asg (v := .ref a0) (Evl.ev_var rfl) (fun H1 e1 => ?_)
    refine q_fall (fun σ' H' => Evl.Ex H H' ∧ ∃ f ts x5, σ' = [some (.ref a0), some (.ref a), some (.ref b), some (.ref t), some (.ref f), x5] ∧ LotAt K CL H' f ts ∧ LotC ts ∧ (∀ p ∈ ts, p.1 ∈ qs.map Prod.fst) ∧ fitB ts rs = true ∧ Fil (qs.map Prod.fst) (cf qs) (unt rs) (cf ps0) L (cf ts)) ?_ (fun hz => ?_)
    · rintro σ' H' ⟨e', f, ts, x5, rfl, hl, lc, hk, ft, fl⟩
      exact ⟨_, rfl, q f ts H' e' hl lc hk ft fl⟩
    refine s_forQ (K := K) (xs := L.map V.int) (Evl.ev_var rfl) e1 ht (fun i σ' H' => Evl.Ex H H' ∧ ∃ f ts x5, σ' = [some (.ref a0), some (.ref a), some (.ref b), some (.ref t), some (.ref f), x5] ∧ LotAt K CL H' f ts ∧ LotC ts ∧ (∀ p ∈ ts, p.1 ∈ qs.map Prod.fst) ∧ fitB ts rs = true ∧ Fil (qs.map Prod.fst) (cf qs) (unt rs) (cf ps0) (L.take i) (cf ts)) (fun H2 e2 => ⟨e1.trans e2, a0, ps0, _, rfl, h0.up (e1.trans e2), c0, k0, f0, by rw [List.take_zero]; exact .nil⟩) (fun i σ' H' h => h.1) ?_ (fun σ' H' h => hz σ' H' (by
      rw [List.length_map, List.take_length] at h
      exact h))
    rintro i x σ' H' hx ⟨e', f, ts, x5, rfl, hl, lc, hk, ft, fl⟩
    rw [List.getElem?_map] at hx
    cases hzz : L[i]? with
    | none => rw [hzz] at hx; cases hx
    | some z =>
    rw [hzz] at hx
    obtain rfl := Option.some.inj hx
    obtain ⟨hi, rfl⟩ := List.getElem?_eq_some_iff.mp hzz
    have hzL := List.getElem_mem hi
    obtain ⟨zN, z0⟩ := hL _ hzL
    obtain ⟨r, hr2, re⟩ := List.mem_map.mp zN
    have hsz : sizB L[i] = true := re ▸ (cq.ct.ok r hr2).1
    have cz : cnt qs L[i] = some r.2 := (cnt_mem cq.ct.nd).mp (by rw [← re]; exact hr2)
    have hsc := (cq.ct.ok r hr2).2
    have nin : L[i] ∉ L.take i := fun h => by
      obtain ⟨j, hj, e⟩ := List.mem_take_iff_getElem.mp h
      have := (List.getElem_inj nL).mp e
      omega
    have ctz : cnt ts L[i] = none := by
      have k := fl.keep nin
      unfold cf at k
      rw [z0] at k
      cases hn : cnt ts L[i] with
      | none => rfl
      | some m =>
        rw [hn] at k
        have k : m = 0 := k
        have := (siz_int (lc.ct.ok _ ((cnt_mem lc.ct.nd).mpr hn)).2).1
        have : 0 < m := this
        omega
    obtain ⟨dx, t1, t2, d1, us, h1, _⟩ := hl.ex
    refine ⟨.ref f, rfl, f, dx, _, rfl, h1, lot_mWc t1 t2 d1, .int L[i], rfl, ?_⟩
    refine (ev_item (K := K) (Evl.ev_var rfl) (Evl.ev_var rfl) (hq.up e') hsz) H' (Evl.Ex.refl H') _ fun H2 e2 => ?_
    refine spare_c (K := K) (elot_v (Evl.ev_var rfl) (hl.up e2)) (esto_v (Evl.ev_var rfl) (hs.up (e'.trans e2))) lc ho (Evl.ev_var rfl) hsz (fun p hp lt => ?_) (gap_uni hN fun y hy => ?_) (fun z => by rw [ft] at z; cases z) (fun _ told H3 m l e3 => ?_)
    · exact pws_dvd hN zN (hk p hp) lt
    · rcases List.mem_append.mp hy with h | h
      · obtain ⟨p, hp, rfl⟩ := List.mem_map.mp h
        exact hk p hp
      · rw [List.mem_singleton.mp h]
        exact zN
    have d0 := (spr_iff hN zN hk hr0 ft m l)
    have hd2 : ∀ d : Int, d = (if told < (cnt qs L[i]).getD 0 then told else (cnt qs L[i]).getD 0) → 0 ≤ d ∧ d ≤ told ∧ d ≤ r.2 ∧ (d < r.2 → d = told) := fun d e => by
      rw [cz] at e
      have e : d = if told < r.2 then told else r.2 := e
      have := (siz_int hsc).1
      rw [e]
      split <;> omega
    refine ⟨_, _, rfl, ?_⟩
    generalize hdd : (if told < (cnt qs L[i]).getD 0 then told else (cnt qs L[i]).getD 0) = d
    obtain ⟨g0, g1, g2, g3⟩ := hd2 d hdd.symm
    have wm : ∀ p ∈ withP ts L[i] d, p ∈ ts ∨ (0 < d ∧ p = (L[i], d)) := fun p hp => by
      unfold withP at hp
      rcases List.mem_append.mp hp with h | h
      · exact .inl (List.mem_filter.mp h).1
      · split at h
        · rename_i pd
          exact .inr ⟨pd, List.mem_singleton.mp h⟩
        · cases h
    have wk : ∀ p ∈ withP ts L[i] d, p.1 ∈ qs.map Prod.fst := fun p hp => by
      rcases wm p hp with h | ⟨_, rfl⟩
      · exact hk p h
      · exact zN
    have bd : d.natAbs < 10 ^ 200 := by
      have := (siz_int hsc).2
      omega
    have cw : Cts (withP ts L[i] d) := by
      refine ⟨withP_nd lc.ct.nd, ?_, fun p hp => ?_⟩
      · have z := len_sub (withP_nd (z := L[i]) (n := d) lc.ct.nd) (bs := qs.map Prod.fst) fun x hx => by
          obtain ⟨p, hp, rfl⟩ := List.mem_map.mp hx
          exact wk p hp
        rw [List.length_map] at z
        omega
      · rcases wm p hp with h | ⟨pd, rfl⟩
        · exact lc.ct.ok p h
        · exact ⟨hsz, siz_of pd bd⟩
    have fe : Fe (qs.map Prod.fst) (unt rs) (adC (cf ts) L[i] d) := (spr_fe ndN lc.ct.nd hk zN).mp ((d0.2 d g0).mpr g1)
    have ce := cf_withP (d := d) lc.ct.nd ctz g0
    have hcb : cntB d = true := by
      rcases Int.lt_or_eq_of_le g0 with h | h
      · have x := siz_of h bd
        unfold sizB at x
        unfold cntB
        rw [Bool.and_eq_true] at x ⊢
        exact ⟨x.1, decide_eq_true g0⟩
      · rw [← h]
        decide +kernel
    have ukey : ∀ {us' : List (Int × Int)}, us'.Perm (withP ts L[i] d) → ∀ p ∈ us', p.1 ∈ qs.map Prod.fst := fun pm p hp => wk p (pm.mem_iff.mp hp)
    refine ⟨f, ts, L[i], d, rfl, hl.up (e2.trans e3), lc.ct, hsz, hcb, cw, fun c us' H4 e4 pm as' hl4 => ⟨e'.trans (e2.trans (e3.trans e4)), c, us', _, rfl, hl4, ?_, ?_, ?_, ?_⟩⟩
    · exact lotc_sub hN (cw.perm pm) as' (ukey pm)
    · exact ukey pm
    · refine (fe_fit hN ndN (cw.perm pm).nd (ukey pm) hr0).mpr ?_
      rw [cf_perm cw.nd pm, ce]
      exact fe
    · rw [List.take_add_one, List.getElem?_eq_getElem hi, cf_perm cw.nd pm, ce]
      refine fl.snoc g0 (by unfold cf; rw [cz]; exact g2) fe (fun lt => ?_)
      have lt : d < r.2 := by unfold cf at lt; rw [cz] at lt; exact lt
      have e := g3 lt
      intro fe2
      have := (d0.2 (d + 1) (by omega)).mp ((spr_fe ndN lc.ct.nd hk zN).mpr fe2)
      omega

def spKeep (K : PySem.W.Frag) (CL CS : Addr) (dsc : Bool) : Sp := fun vs H Q _ => ∃ a b qs rs, vs = [.ref a, .ref b] ∧ LotAt K CL H a qs ∧ LotC qs ∧ StoAt K CS H b rs ∧ StoOk rs ∧
  ∀ c fs H', Evl.Ex H H' → LotAt K CL H' c fs → LotC fs → (∀ p ∈ fs, p.1 ∈ qs.map Prod.fst) → fitB fs rs = true → Fil (qs.map Prod.fst) (cf qs) (unt rs) (fun _ => 0) (if dsc then (qs.map Prod.fst).reverse else qs.map Prod.fst) (cf fs) → Q (.ref c) H'
theorem lotc_nil : LotC [] := ⟨cts_nil, List.Pairwise.nil, rfl⟩
theorem fil_ret {CL CS : Addr} {σ : L2.St} {H : Hp} {D : Ends} {t0 ta tb tt : TE} {ps0 qs rs : List (Int × Int)} {L : List Int} (h0 : Elot K CL t0 σ H ps0) (ha : Elot K CL ta σ H qs) (hb : Esto K CS tb σ H rs) (ht : Etu K tt σ H (L.map V.int)) (c0 : LotC ps0) (f0 : fitB ps0 rs = true) (cq : LotC qs) (ho : StoOk rs) (k0 : ∀ p ∈ ps0, p.1 ∈ qs.map Prod.fst) (nL : L.Nodup) (hL : ∀ z ∈ L, z ∈ qs.map Prod.fst ∧ cnt ps0 z = none)
    (q : ∀ c fs H', Evl.Ex H H' → LotAt K CL H' c fs → LotC fs → (∀ p ∈ fs, p.1 ∈ qs.map Prod.fst) → fitB fs rs = true → Fil (qs.map Prod.fst) (cf qs) (unt rs) (cf ps0) L (cf fs) → D.rt (.ref c) H') :
    tRet (tCall (spFil K CL CS) [] E0 (tCons t0 (tCons ta (tCons tb (tCons tt tNil))))) D σ H := h0 H (Evl.Ex.refl H) _ fun a0 H2 e2 l0 => ha H2 e2 _ fun a H3 e3 la => hb H3 (e2.trans e3) _ fun b H4 e4 lb => ht H4 (e2.trans (e3.trans e4)) _ fun t H5 e5 lt =>
  ⟨a0, a, b, t, ps0, qs, rs, L, rfl, l0.up (e3.trans (e4.trans e5)), c0, f0, la.up (e4.trans e5), cq, lb.up e5, ho, k0, .inl lt, nL, hL, fun c fs H6 e6 => q c fs H6 (e2.trans (e3.trans (e4.trans (e5.trans e6))))⟩
theorem ok_keepT {CL CS : Addr} (B : Bl mg) (D : Df K mg "keep_things" s_keep_things ["lot", "store"]) (C_check_most : Cg P w K mg base CX0 3 "check_most" (spChkL K CL CS)) (C__filled : Cg P w K mg base CX0 9 "_filled" (spFil K CL CS)) (P_sizes : Pg P w K mg base 1 CL "sizes" (spSizes K CL)) (M0_Lot : Mkc P w K mg base 4 "Lot" CL fun vs H Q E => spLotI K CL (vs ++ [.non]) H Q E) : Cg P w K mg base CX0 10 "keep_things" (spKeep K CL CS false) := by
  refine cg_of D sc_keep_things (fun vs H Q E h => ?_) (fun f cdv A fr s H vs Q E hr hgd h => ?_)
  · obtain ⟨a, b, qs, rs, rfl, _⟩ := h
    rfl
  · obtain ⟨a, b, qs, rs, rfl, hl, hc, hs, ho, q⟩ := h
    refine ⟨_, (pss_cons (ps_expr (pcg C_check_most hr hgd (pa_cons (pv 0) (pa_cons (pv 1) pa_nil))))
    (pss_one (ps_ret (pcg C__filled hr hgd (pa_cons (pmk0 M0_Lot hr) (pa_cons (pv 0) (pa_cons (pv 1) (pa_cons (pprop P_sizes hr (pv 0)) pa_nil)))))))), ?_⟩
    refine Evl.q_drop (Evl.ev_call (Evl.ea_cons (Evl.ev_var rfl) (Evl.ea_cons (Evl.ev_var rfl) Evl.ea_nil)) (fun H1 e1 Q q E => ⟨a, b, qs, rs, rfl, hl.up e1, hc, hs.up e1, q⟩)) (fun H1 e1 => ?_)
    exact fil_ret (K := K) (CL := CL) (CS := CS) (ps0 := []) (L := qs.map Prod.fst) elot_0 (elot_v (Evl.ev_var rfl) (hl.up e1)) (esto_v (Evl.ev_var rfl) (hs.up e1)) (etu_sizes (Evl.ev_var rfl) (hl.up e1)) lotc_nil rfl hc ho (fun p hp => nomatch hp) hc.ct.nd (fun z hz => ⟨hz, rfl⟩) (fun c fs H4 e4 h1 h2 h3 h4 h5 => q c fs H4 (e1.trans e4) h1 h2 h3 h4 h5)
theorem ok_keepW {CL CS : Addr} (B : Bl mg) (D : Df K mg "keep_total" s_keep_total ["lot", "store"]) (C_check_most : Cg P w K mg base CX0 3 "check_most" (spChkL K CL CS)) (C__filled : Cg P w K mg base CX0 9 "_filled" (spFil K CL CS)) (P_sizes : Pg P w K mg base 1 CL "sizes" (spSizes K CL)) (M0_Lot : Mkc P w K mg base 4 "Lot" CL fun vs H Q E => spLotI K CL (vs ++ [.non]) H Q E) : Cg P w K mg base CX0 10 "keep_total" (spKeep K CL CS true) := by
  refine cg_of D sc_keep_total (fun vs H Q E h => ?_) (fun f cdv A fr s H vs Q E hr hgd h => ?_)
  · obtain ⟨a, b, qs, rs, rfl, _⟩ := h
    rfl
  · obtain ⟨a, b, qs, rs, rfl, hl, hc, hs, ho, q⟩ := h
    refine ⟨_, (pss_cons (ps_expr (pcg C_check_most hr hgd (pa_cons (pv 0) (pa_cons (pv 1) pa_nil))))
    (pss_one (ps_ret (pcg C__filled hr hgd (pa_cons (pmk0 M0_Lot hr) (pa_cons (pv 0) (pa_cons (pv 1) (pa_cons (pe_revT (pprop P_sizes hr (pv 0))) pa_nil)))))))), ?_⟩
    refine Evl.q_drop (Evl.ev_call (Evl.ea_cons (Evl.ev_var rfl) (Evl.ea_cons (Evl.ev_var rfl) Evl.ea_nil)) (fun H1 e1 Q q E => ⟨a, b, qs, rs, rfl, hl.up e1, hc, hs.up e1, q⟩)) (fun H1 e1 => ?_)
    refine fil_ret (K := K) (CL := CL) (CS := CS) (ps0 := []) (L := (qs.map Prod.fst).reverse) elot_0 (elot_v (Evl.ev_var rfl) (hl.up e1)) (esto_v (Evl.ev_var rfl) (hs.up e1)) (etu_is (etu_rev (etu_sizes (Evl.ev_var rfl) (hl.up e1))) List.map_reverse.symm) lotc_nil rfl hc ho (fun p hp => nomatch hp) ?_ (fun z hz => ⟨List.mem_reverse.mp hz, rfl⟩) (fun c fs H4 e4 h1 h2 h3 h4 h5 => q c fs H4 (e1.trans e4) h1 h2 h3 h4 h5)
    exact (List.pairwise_reverse.mpr hc.asc).imp fun {a b} (h : b < a) (e : a = b) => by omega
def spMostT (K : PySem.W.Frag) (CL CS : Addr) : Sp := fun vs H Q _ => ∃ a b qs rs, vs = [.ref a, .ref b] ∧ LotAt K CL H a qs ∧ LotC qs ∧ StoAt K CS H b rs ∧ StoOk rs ∧
  ∀ fs H', Evl.Ex H H' → LotC fs → (∀ p ∈ fs, p.1 ∈ qs.map Prod.fst) → fitB fs rs = true → Fil (qs.map Prod.fst) (cf qs) (unt rs) (fun _ => 0) (qs.map Prod.fst) (cf fs) → Q (.int (fs.map fun (r : Int × Int) => r.2).sum) H'
theorem ok_mostT {CL CS : Addr} (B : Bl mg) (D : Df K mg "most_things" s_most_things ["lot", "store"]) (C_keep_things : Cg P w K mg base CX0 10 "keep_things" (spKeep K CL CS false)) (P_number : Pg P w K mg base 2 CL "number" (spLNum K CL)) : Cg P w K mg base CX0 11 "most_things" (spMostT K CL CS) := by
  refine cg_of D sc_most_things (fun vs H Q E h => ?_) (fun f cdv A fr s H vs Q E hr hgd h => ?_)
  · obtain ⟨a, b, qs, rs, rfl, _⟩ := h
    rfl
  · obtain ⟨a, b, qs, rs, rfl, hl, hc, hs, ho, q⟩ := h
    refine ⟨_, (pss_one (ps_ret (pprop P_number hr (pcg C_keep_things hr hgd (pa_cons (pv 0) (pa_cons (pv 1) pa_nil)))))), ?_⟩
    refine ⟨.ref a, rfl, .ref b, rfl, a, b, qs, rs, rfl, hl, hc, hs, ho, fun c fs H1 e1 h1 h2 h3 h4 h5 => ?_⟩
    obtain ⟨dx, t1, t2, d, ts, x1, _⟩ := h1.ex
    exact ⟨c, dx, _, rfl, x1, c, fs, rfl, h1, by have := h2.ct.ln; omega, fun H2 e2 => q fs H2 (e1.trans e2) h2 h3 h4 h5⟩
def spMostW (K : PySem.W.Frag) (CL CS : Addr) : Sp := fun vs H Q _ => ∃ a b qs rs, vs = [.ref a, .ref b] ∧ LotAt K CL H a qs ∧ LotC qs ∧ StoAt K CS H b rs ∧ StoOk rs ∧
  ∀ fs H', Evl.Ex H H' → LotC fs → (∀ p ∈ fs, p.1 ∈ qs.map Prod.fst) → fitB fs rs = true → Fil (qs.map Prod.fst) (cf qs) (unt rs) (fun _ => 0) (qs.map Prod.fst).reverse (cf fs) → Q (.int (tot fs)) H'
theorem ok_mostW {CL CS : Addr} (B : Bl mg) (D : Df K mg "most_total" s_most_total ["lot", "store"]) (C_keep_total : Cg P w K mg base CX0 10 "keep_total" (spKeep K CL CS true)) (P_total : Pg P w K mg base 1 CL "total" (spTotal K CL)) : Cg P w K mg base CX0 11 "most_total" (spMostW K CL CS) := by
  refine cg_of D sc_most_total (fun vs H Q E h => ?_) (fun f cdv A fr s H vs Q E hr hgd h => ?_)
  · obtain ⟨a, b, qs, rs, rfl, _⟩ := h
    rfl
  · obtain ⟨a, b, qs, rs, rfl, hl, hc, hs, ho, q⟩ := h
    refine ⟨_, (pss_one (ps_ret (pprop P_total hr (pcg C_keep_total hr hgd (pa_cons (pv 0) (pa_cons (pv 1) pa_nil)))))), ?_⟩
    refine ⟨.ref a, rfl, .ref b, rfl, a, b, qs, rs, rfl, hl, hc, hs, ho, fun c fs H1 e1 h1 h2 h3 h4 h5 => ?_⟩
    obtain ⟨dx, t1, t2, d, ts, x1, _⟩ := h1.ex
    exact ⟨c, dx, _, rfl, x1, c, fs, rfl, h1, h2.ct, fun H2 e2 => q fs H2 (e1.trans e2) h2 h3 h4 h5⟩
def spFitP (K : PySem.W.Frag) (CL CS : Addr) : Sp := fun vs H Q _ => ∃ a b v qs rs os, vs = [.ref a, .ref b, .ref v] ∧ LotAt K CL H a qs ∧ StoAt K CS H b rs ∧ StoOk rs ∧ LotAt K CL H v os ∧ LotC os ∧ ∀ H', Evl.Ex H H' → Q (.bl (partB os qs && fitB os rs)) H'
theorem ok_fitp {CL CS : Addr} (B : Bl mg) (LT_Lot : LotT K mg CL) (D : Df K mg "_is_fitting_part" s__is_fitting_part ["lot", "store", "value"]) (O_Lot_is_part_of : Og P w K mg base 6 CL "is_part_of" ["self", "value"] (spPartOf K CL)) (C_fits : Cg P w K mg base CX0 7 "fits" (spFits K CL CS)) : Cg P w K mg base CX0 8 "_is_fitting_part" (spFitP K CL CS) := by
  refine cg_of D sc__is_fitting_part (fun vs H Q E h => ?_) (fun f cdv A fr s H vs Q E hr hgd h => ?_)
  · obtain ⟨a, b, v, qs, rs, os, rfl, _⟩ := h
    rfl
  · obtain ⟨a, b, v, qs, rs, os, rfl, hl, hs, ho, hv, hc, q⟩ := h
    refine ⟨_, (pss_one (ps_ret (pe_and (pe_callB call_isi (by rfl) B.isinstance bt_isinstance (pa_cons (pv 2) (pa_cons (pe_glob (v := V.ref _) (by rfl) LT_Lot.k.g rfl) pa_nil))) (pe_and (pmeth O_Lot_is_part_of hr (pv 2) (pa_cons (pv 0) pa_nil)) (pe_one (pcg C_fits hr hgd (pa_cons (pv 2) (pa_cons (pv 1) pa_nil)))))))), ?_⟩
    obtain ⟨dx, t1, t2, d, ts, h1, _⟩ := hv.ex
    refine Evl.s_ret (Evl.ev_is (Evl.ev_andV (a := true) (b := partB os qs && fitB os rs) (ev_isi (Evl.ev_var rfl) Evl.ev_c (.own CL) (fun H1 e => LT_Lot.k.ty (e _ _ h1)) kit_self) (fun _ => Evl.ev_andV (fun H1 e1 Q1 q1 => ?_) (fun _ => fits_e (K := K) (elot_v (Evl.ev_var rfl) hv) (esto_v (Evl.ev_var rfl) hs) hc ho))) rfl) q
    exact ⟨.ref v, rfl, v, dx, _, rfl, e1 _ _ h1, lot_meth t1 t2 d, .ref a, rfl, v, a, os, qs, rfl, hv.up e1, hl.up e1, hc.ct, fun H2 e2 => q1 H2 e2⟩
def spKeptT (K : PySem.W.Frag) (CL CS : Addr) : Sp := fun vs H Q _ => ∃ a b v qs rs os, vs = [.ref a, .ref b, .ref v] ∧ LotAt K CL H a qs ∧ LotC qs ∧ StoAt K CS H b rs ∧ StoOk rs ∧ LotAt K CL H v os ∧ LotC os ∧
  ∀ fs H', Evl.Ex H H' → LotC fs → (∀ p ∈ fs, p.1 ∈ qs.map Prod.fst) → fitB fs rs = true → Fil (qs.map Prod.fst) (cf qs) (unt rs) (fun _ => 0) (qs.map Prod.fst) (cf fs) → Q (.bl ((partB os qs && fitB os rs) && decide ((os.map fun (r : Int × Int) => r.2).sum = (fs.map fun (r : Int × Int) => r.2).sum))) H'
theorem ok_keptT {CL CS : Addr} (B : Bl mg) (D : Df K mg "is_kept_things" s_is_kept_things ["lot", "store", "value"]) (C_most_things : Cg P w K mg base CX0 11 "most_things" (spMostT K CL CS)) (C__is_fitting_part : Cg P w K mg base CX0 8 "_is_fitting_part" (spFitP K CL CS)) (P_number : Pg P w K mg base 2 CL "number" (spLNum K CL)) : Cg P w K mg base CX0 12 "is_kept_things" (spKeptT K CL CS) := by
  refine cg_of D sc_is_kept_things (fun vs H Q E h => ?_) (fun f cdv A fr s H vs Q E hr hgd h => ?_)
  · obtain ⟨a, b, v, qs, rs, os, rfl, _⟩ := h
    rfl
  · obtain ⟨a, b, v, qs, rs, os, rfl, hl, hc, hs, ho, hv, hcv, q⟩ := h
    refine ⟨_, (pss_cons (ps_set (i := 3) sc_is_kept_things.nd rfl (by first | exact Or.inl rfl | exact Or.inr rfl) (pcg C_most_things hr hgd (pa_cons (pv 0) (pa_cons (pv 1) pa_nil))))
    (pss_one (ps_ret (pe_and (pcg C__is_fitting_part hr hgd (pa_cons (pv 0) (pa_cons (pv 1) (pa_cons (pv 2) pa_nil)))) (pe_one (pe_cmpR op_eq (pprop P_number hr (pv 2)) (pv 3) (nomark _))))))), ?_⟩
    refine q_asgP (P := fun m H' => ∃ fs, m = .int (fs.map fun (r : Int × Int) => r.2).sum ∧ Evl.Ex H H' ∧ LotC fs ∧ (∀ p ∈ fs, p.1 ∈ qs.map Prod.fst) ∧ fitB fs rs = true ∧ Fil (qs.map Prod.fst) (cf qs) (unt rs) (fun _ => 0) (qs.map Prod.fst) (cf fs)) (fun Q2 q2 => ⟨.ref a, rfl, .ref b, rfl, a, b, qs, rs, rfl, hl, hc, hs, ho, fun fs H1 e1 h1 h2 h3 h4 => q2 _ _ ⟨fs, rfl, e1, h1, h2, h3, h4⟩⟩) ?_
    rintro _ H1 ⟨fs, rfl, e1, h1, h2, h3, h4⟩
    have lo := hcv.ct.ln
    exact Evl.s_ret (Evl.ev_is (Evl.ev_andV (Evl.ev_call (vs := [.ref a, .ref b, .ref v]) (z := .bl (partB os qs && fitB os rs)) (Evl.ea_cons (Evl.ev_var rfl) (Evl.ea_cons (Evl.ev_var rfl) (Evl.ea_cons (Evl.ev_var rfl) Evl.ea_nil))) (fun H2 e2 Q q E => ⟨a, b, v, qs, rs, os, rfl, hl.up (e1.trans e2), hs.up (e1.trans e2), ho, hv.up (e1.trans e2), hcv, q⟩)) (fun _ => ev_eq (ev_lnum (K := K) (Evl.ev_var rfl) (hv.up e1) (by omega)) (Evl.ev_var rfl) rfl)) (congrArg V.bl (congrArg (_ && ·) (decide_eq_decide.mpr ⟨V.int.inj, congrArg V.int⟩)))) (fun H2 e2 => q fs H2 (e1.trans e2) h1 h2 h3 h4)
def spKeptW (K : PySem.W.Frag) (CL CS : Addr) : Sp := fun vs H Q _ => ∃ a b v qs rs os, vs = [.ref a, .ref b, .ref v] ∧ LotAt K CL H a qs ∧ LotC qs ∧ StoAt K CS H b rs ∧ StoOk rs ∧ LotAt K CL H v os ∧ LotC os ∧
  ∀ fs H', Evl.Ex H H' → LotC fs → (∀ p ∈ fs, p.1 ∈ qs.map Prod.fst) → fitB fs rs = true → Fil (qs.map Prod.fst) (cf qs) (unt rs) (fun _ => 0) (qs.map Prod.fst).reverse (cf fs) → Q (.bl ((partB os qs && fitB os rs) && decide (tot os = tot fs))) H'
theorem ok_keptW {CL CS : Addr} (B : Bl mg) (D : Df K mg "is_kept_total" s_is_kept_total ["lot", "store", "value"]) (C_most_total : Cg P w K mg base CX0 11 "most_total" (spMostW K CL CS)) (C__is_fitting_part : Cg P w K mg base CX0 8 "_is_fitting_part" (spFitP K CL CS)) (P_total : Pg P w K mg base 1 CL "total" (spTotal K CL)) : Cg P w K mg base CX0 12 "is_kept_total" (spKeptW K CL CS) := by
  refine cg_of D sc_is_kept_total (fun vs H Q E h => ?_) (fun f cdv A fr s H vs Q E hr hgd h => ?_)
  · obtain ⟨a, b, v, qs, rs, os, rfl, _⟩ := h
    rfl
  · obtain ⟨a, b, v, qs, rs, os, rfl, hl, hc, hs, ho, hv, hcv, q⟩ := h
    refine ⟨_, (pss_cons (ps_set (i := 3) sc_is_kept_total.nd rfl (by first | exact Or.inl rfl | exact Or.inr rfl) (pcg C_most_total hr hgd (pa_cons (pv 0) (pa_cons (pv 1) pa_nil))))
    (pss_one (ps_ret (pe_and (pcg C__is_fitting_part hr hgd (pa_cons (pv 0) (pa_cons (pv 1) (pa_cons (pv 2) pa_nil)))) (pe_one (pe_cmpR op_eq (pprop P_total hr (pv 2)) (pv 3) (nomark _))))))), ?_⟩
    refine q_asgP (P := fun m H' => ∃ fs, m = .int (tot fs) ∧ Evl.Ex H H' ∧ LotC fs ∧ (∀ p ∈ fs, p.1 ∈ qs.map Prod.fst) ∧ fitB fs rs = true ∧ Fil (qs.map Prod.fst) (cf qs) (unt rs) (fun _ => 0) (qs.map Prod.fst).reverse (cf fs)) (fun Q2 q2 => ⟨.ref a, rfl, .ref b, rfl, a, b, qs, rs, rfl, hl, hc, hs, ho, fun fs H1 e1 h1 h2 h3 h4 => q2 _ _ ⟨fs, rfl, e1, h1, h2, h3, h4⟩⟩) ?_
    rintro _ H1 ⟨fs, rfl, e1, h1, h2, h3, h4⟩
    exact Evl.s_ret (Evl.ev_is (Evl.ev_andV (Evl.ev_call (vs := [.ref a, .ref b, .ref v]) (z := .bl (partB os qs && fitB os rs)) (Evl.ea_cons (Evl.ev_var rfl) (Evl.ea_cons (Evl.ev_var rfl) (Evl.ea_cons (Evl.ev_var rfl) Evl.ea_nil))) (fun H2 e2 Q q E => ⟨a, b, v, qs, rs, os, rfl, hl.up (e1.trans e2), hs.up (e1.trans e2), ho, hv.up (e1.trans e2), hcv, q⟩)) (fun _ => ev_eq (ev_total (K := K) (Evl.ev_var rfl) (hv.up e1) hcv.ct) (Evl.ev_var rfl) rfl)) (congrArg V.bl (congrArg (_ && ·) (decide_eq_decide.mpr ⟨V.int.inj, congrArg V.int⟩)))) (fun H2 e2 => q fs H2 (e1.trans e2) h1 h2 h3 h4)

def spHasI (K : PySem.W.Frag) (C : Addr) : Sp := fun vs H Q _ => ∃ a i ps, vs = [.ref a, .int i] ∧ LotAt K C H a ps ∧ Cts ps ∧ ∀ H', Evl.Ex H H' → Q (.bl (cnt ps i).isSome) H'
theorem ok_lothasI {CL : Addr} (LT_Lot : LotT K mg CL) (D : Dop K CL "__contains__" "Lot.__contains__" s_Lot_contains ["self", "x"]) (C_is_size : Cl P w K mg base 2 "is_size" (spNum K sizB)) : Og P w K mg base 3 CL "__contains__" ["self", "x"] (spHasI K CL) := by
  refine og_of LT_Lot.k.cl D sc_Lot_contains (fun vs H Q E h => ?_) (fun f cdv A fr s H vs Q E hr h => ?_)
  · obtain ⟨a, x, ps, rfl, _⟩ := h
    rfl
  · obtain ⟨a, i, ps, rfl, hl, hc, q⟩ := h
    refine ⟨_, (pss_one (ps_ret (pe_and (pcal C_is_size hr (pa_cons (pv 1) pa_nil)) (pe_one (pe_cmp (pc_din (hu_of hr) (pv 1) (pe_fld (pv 0) rfl))))))), ?_⟩
    obtain ⟨dx, t1, t2, d, ts, h1, h2, h3, h4, h5⟩ := hl.ex
    refine Evl.s_ret (Evl.ev_is (Evl.ev_andV (a := sizB i) (b := (cnt ps i).isSome) (ev_call1 (Evl.ev_var rfl) num_i) (fun _ => ev_din (ev_fldL (Evl.ev_var rfl) h1 LT_Lot.k.cl LT_Lot.n3 (lot_counts t1 t2 d)) (Evl.ev_var rfl) h5)) ?_) q
    cases hi : sizB i with
    | true => rfl
    | false =>
      cases hn : cnt ps i with
      | none => rfl
      | some m =>
        have := (hc.ok _ ((cnt_mem hc.nd).mpr hn)).1
        rw [hi] at this
        cases this
theorem ev_hasI {CL a : Addr} {tx te : TE} {σ : L2.St} {H : Hp} {ps : List (Int × Int)} {i : Int} (hx : Evl.Ev tx σ H (.int i)) (h : Evl.Ev te σ H (.ref a)) (hl : LotAt K CL H a ps) (hc : Cts ps) :
    Evl.Ev (tOp (fun x y H Q => ∃ a dx fs, y = .ref a ∧ H a = some (.ins CL dx fs) ∧ spHasI K CL [.ref a, x] H (isB Q) E0) tx te) σ H (.bl (cnt ps i).isSome) := fun H1 e Q q => hx H1 e _ fun H2 e2 => h H2 (e.trans e2) _ fun H3 e3 => by
  have hl3 := hl.up ((e.trans e2).trans e3)
  obtain ⟨dx, t1, t2, d, ts, h1, _⟩ := hl3.ex
  exact ⟨a, dx, _, rfl, h1, a, i, ps, rfl, hl3, hc, fun H4 e4 => ⟨_, rfl, q H4 ((e2.trans e3).trans e4)⟩⟩
theorem asc_zip : ∀ {S : List Int}, S.Pairwise (· < ·) → ∀ b ∈ List.zipWith (fun x y : Int => decide (x < y)) S (S.drop 1), b = true
  | [], _, b, h => nomatch h
  | [_], _, b, h => nomatch h
  | x :: y :: t, h, b, hb => by
    obtain ⟨h1, h2⟩ := List.pairwise_cons.mp h
    rcases List.mem_cons.mp (show b ∈ decide (x < y) :: List.zipWith (fun x y : Int => decide (x < y)) (y :: t) t from hb) with e | e
    · rw [e]
      exact decide_eq_true (h1 y List.mem_cons_self)
    · exact asc_zip h2 b e
def spAre (K : PySem.W.Frag) (CL : Addr) : Sp := fun vs H Q _ => ∃ a t qs, ∃ S : List Int, vs = [.ref a, .ref t] ∧ LotAt K CL H a qs ∧ Cts qs ∧ SqT K H t (S.map V.int) ∧ S.length ≤ 12 ∧ S.Pairwise (· < ·) ∧ (∀ z ∈ S, z ∈ qs.map Prod.fst) ∧ ∀ H', Evl.Ex H H' → Q (.bl true) H'
theorem ok_are {CL : Addr} (B : Bl mg) (D : Df K mg "_are_sizes_of" s__are_sizes_of ["lot", "value"]) (O_Lot_contains : Og P w K mg base 3 CL "__contains__" ["self", "x"] (spHasI K CL)) : Cg P w K mg base CX0 4 "_are_sizes_of" (spAre K CL) := by
  refine cg_of D sc__are_sizes_of (fun vs H Q E h => ?_) (fun f cdv A fr s H vs Q E hr hgd h => ?_)
  · obtain ⟨a, t, qs, S, rfl, _⟩ := h
    rfl
  · obtain ⟨a, t, qs, S, rfl, hl, hc, ht, ln, asc, sub, q⟩ := h
    refine ⟨_, (pss_cons (ps_if (pw_or (pt_not (pt_val (pe_callB call_isi (by rfl) B.isinstance bt_isinstance (pa_cons (pv 1) (pa_cons (pe_bltn (v := V.ty "tuple") (by rfl) B.tuple bt_tuple rfl) pa_nil))))) (pw_or1 (pt_not (pt_val (pe_callB (cr_all rfl) (by rfl) B.all bt_all (pa_cons (pe_lc (own := [("size", 2)]) (g := (gName 2)) rfl sc__are_sizes_of.nd (pi_tup (pv 1)) (blkOk_by (own := [("size", 2)]) (N := n__are_sizes_of) (sc := defScope s__are_sizes_of) (by decide +kernel)) (fun _ _ _ _ _ => (pg_name (i := 2) sc__are_sizes_of.nd rfl (by first | exact Or.inl rfl | exact Or.inr rfl))) (fun _ _ _ _ _ => pts_nil) (fun _ _ _ _ _ => (pe_cmpR (oinO O_Lot_contains hr) (pv 2) (pv 0) (by with_unfolding_all rfl)))) pa_nil)))))).pt (pss_one (ps_ret pe_bl)) pss_nil)
    (pss_one (ps_ret (pe_callB (cr_all rfl) (by rfl) B.all bt_all (pa_cons (pe_lc (own := [("low", 3), ("high", 4)]) (g := (gTup K 2 (gCons (gName 3) (gCons (gName 4) gNil)))) rfl sc__are_sizes_of.nd (pi_zipA (by rfl) B.zip (pa_cons (pv 1) (pa_cons (pe_slice sl_tupA (pv 1) (po_some pe_int) po_none) pa_nil))) (blkOk_by (own := [("low", 3), ("high", 4)]) (N := n__are_sizes_of) (sc := defScope s__are_sizes_of) (by decide +kernel)) (fun _ _ _ _ _ => (pg_tup (n := 2) rfl (pgs_cons (pg_name (i := 3) sc__are_sizes_of.nd rfl (by first | exact Or.inl rfl | exact Or.inr rfl)) (pgs_cons (pg_name (i := 4) sc__are_sizes_of.nd rfl (by first | exact Or.inl rfl | exact Or.inr rfl)) pgs_nil)))) (fun _ _ _ _ _ => pts_nil) (fun _ _ _ _ _ => (pe_cmpR op_lt (pv 3) (pv 4) (nomark _)))) pa_nil))))), ?_⟩
    have tt : ∀ H1, Evl.Ex H H1 → TyX K H1 (.ref t) (.type "tuple") := fun H1 e => ty_tup (Evl.ex_t e ht)
    refine Evl.q_when (b := false) (Evl.et_is (Evl.et_or (a := false) (b := false) (Evl.et_not (Evl.et_B (ev_isi (Evl.ev_var rfl) Evl.ev_c (.ty _) tt (kit_ty (r := true) (by decide +kernel)))))
        (fun _ => Evl.et_is (Evl.et_not (Evl.et_B (b := true) (Evl.ev_is (ev_all (K := K) (bs := S.map fun _ => true) (Ck.el_is (el_lcY (K := K) (fun _ => .bl true) (etu_ev (Evl.ev_var rfl) ht) (by omega) (fun _ => rfl) (fun n hn H1 e1 => Evl.ev_is (ev_hasI (Evl.ev_var rfl) (Evl.ev_var rfl) (hl.up e1) hc) ?_)) ?_)) ?_))) rfl)) rfl) (fun z => nomatch z) (fun _ H1 e1 => ?_)
    · obtain ⟨p, hp, e⟩ := List.mem_map.mp (sub n hn)
      rw [← e, (cnt_mem hc.nd).mp (show (p.1, p.2) ∈ qs from hp)]
      rfl
    · rw [List.map_map]
      rfl
    · exact congrArg V.bl (by rw [List.all_map]; exact List.all_eq_true.mpr fun _ _ => rfl)
    · have ht1 := Evl.ex_t e1 ht
      refine Evl.s_ret (Evl.ev_is (ev_all (K := K) (bs := List.zipWith (fun x y : Int => decide (x < y)) S (S.drop 1)) (Ck.el_is (el_zip2 (K := K) (fun x y => .bl (decide (x < y))) (etu_ev (Evl.ev_var rfl) ht1) (etu_is (etu_sl (etu_ev (Evl.ev_var rfl) ht1) (Evl.eo_some Evl.ev_c) Evl.eo_none) (by rw [cutT1, List.map_drop])) (by omega) (fun _ _ => rfl) (fun i H2 _ _ _ => ev_i0 (Evl.ev_var rfl) (Evl.ev_var rfl))) ?_)) ?_) (fun H2 e2 => q H2 (e1.trans e2))
      · rw [List.map_zipWith]
      · exact congrArg V.bl (List.all_eq_true.mpr fun b hb => asc_zip asc b hb)
def spAll (K : PySem.W.Frag) (CL CS : Addr) : Sp := fun vs H Q _ => ∃ a b t qs rs, ∃ S : List Int, vs = [.ref a, .ref b, .ref t] ∧ LotAt K CL H a qs ∧ LotC qs ∧ StoAt K CS H b rs ∧ StoOk rs ∧ SqT K H t (S.map V.int) ∧ S.Pairwise (· < ·) ∧ (∀ z ∈ S, z ∈ qs.map Prod.fst) ∧
  (fitB (kept qs S) rs = false → ∀ H', Evl.Ex H H' → Q .non H') ∧
  (fitB (kept qs S) rs = true → ∀ c fs H', Evl.Ex H H' → LotAt K CL H' c fs → LotC fs → (∀ p ∈ fs, p.1 ∈ qs.map Prod.fst) → fitB fs rs = true → Fil (qs.map Prod.fst) (cf qs) (unt rs) (cf (kept qs S)) ((qs.map Prod.fst).filter fun z => !decide (z ∈ S)) (cf fs) → Q (.ref c) H')
theorem filL_ret {CL CS : Addr} {σ : L2.St} {H : Hp} {D : Ends} {t0 ta tb tt : TE} {ps0 qs rs : List (Int × Int)} {L : List Int} (h0 : Elot K CL t0 σ H ps0) (ha : Elot K CL ta σ H qs) (hb : Esto K CS tb σ H rs) (ht : Evl.EvL tt σ H (L.map V.int)) (c0 : LotC ps0) (f0 : fitB ps0 rs = true) (cq : LotC qs) (ho : StoOk rs) (k0 : ∀ p ∈ ps0, p.1 ∈ qs.map Prod.fst) (nL : L.Nodup) (hL : ∀ z ∈ L, z ∈ qs.map Prod.fst ∧ cnt ps0 z = none)
    (q : ∀ c fs H', Evl.Ex H H' → LotAt K CL H' c fs → LotC fs → (∀ p ∈ fs, p.1 ∈ qs.map Prod.fst) → fitB fs rs = true → Fil (qs.map Prod.fst) (cf qs) (unt rs) (cf ps0) L (cf fs) → D.rt (.ref c) H') :
    tRet (tCall (spFil K CL CS) [] E0 (tCons t0 (tCons ta (tCons tb (tCons tt tNil))))) D σ H := h0 H (Evl.Ex.refl H) _ fun a0 H2 e2 l0 => ha H2 e2 _ fun a H3 e3 la => hb H3 (e2.trans e3) _ fun b H4 e4 lb => ht H4 (e2.trans (e3.trans e4)) _ fun t H5 _ e5 lt =>
  ⟨a0, a, b, t, ps0, qs, rs, L, rfl, l0.up (e3.trans (e4.trans e5)), c0, f0, la.up (e4.trans e5), cq, lb.up e5, ho, k0, .inr (SqL.of lt), nL, hL, fun c fs H6 e6 => q c fs H6 (e2.trans (e3.trans (e4.trans (e5.trans e6))))⟩
theorem ok_all {CL CS : Addr} (B : Bl mg) (D : Df K mg "keep_all_of" s_keep_all_of ["lot", "store", "sizes"]) (C_check_lot : Cl P w K mg base 1 "check_lot" (spIsLot K CL)) (C_check_store : Cg P w K mg base CX0 1 "check_store" (spIsSto K CS)) (C_check_together : Cg P w K mg base CX0 2 "check_together" (spTogN K)) (C__are_sizes_of : Cg P w K mg base CX0 4 "_are_sizes_of" (spAre K CL)) (C_fits : Cg P w K mg base CX0 7 "fits" (spFits K CL CS)) (C__filled : Cg P w K mg base CX0 9 "_filled" (spFil K CL CS)) (P_sizes : Pg P w K mg base 1 CL "sizes" (spSizes K CL)) (O_Lot_getitem : Og P w K mg base 4 CL "__getitem__" ["self", "at"] (spItem K CL)) (M_Lot : Mkc P w K mg base 4 "Lot" CL (spLotI K CL)) : Cg P w K mg base CX0 10 "keep_all_of" (spAll K CL CS) := by
  refine cg_of D sc_keep_all_of (fun vs H Q E h => ?_) (fun f cdv A fr s H vs Q E hr hgd h => ?_)
  · obtain ⟨a, b, t, qs, rs, S, rfl, _⟩ := h
    rfl
  · obtain ⟨a, b, t, qs, rs, S, rfl, hl, hc, hs, ho, ht, asc, sub, qn, q⟩ := h
    refine ⟨_, (pss_cons (ps_expr (pcg (Cl.g C_check_lot) hr hgd (pa_cons (pv 0) pa_nil)))
    (pss_cons (ps_expr (pcg C_check_store hr hgd (pa_cons (pv 1) pa_nil)))
     (pss_cons (ps_if (pt_not (pt_val (pcg C__are_sizes_of hr hgd (pa_cons (pv 0) (pa_cons (pv 2) pa_nil))))) (pss_one ps_never) pss_nil)
      (pss_cons (ps_expr (pcg C_check_together hr hgd (pa_cons (pprop P_sizes hr (pv 0)) pa_nil)))
       (pss_cons (ps_set (i := 3) sc_keep_all_of.nd rfl (by first | exact Or.inl rfl | exact Or.inr rfl) (pmk M_Lot hr (pa_cons (pe_dc (own := [("size", 4)]) (g := (gName 4)) rfl sc_keep_all_of.nd (pi_tup (pv 2)) (blkOk_by (own := [("size", 4)]) (N := n_keep_all_of) (sc := defScope s_keep_all_of) (by decide +kernel)) (fun _ _ _ _ _ => (pg_name (i := 4) sc_keep_all_of.nd rfl (by first | exact Or.inl rfl | exact Or.inr rfl))) (fun _ _ _ _ _ => pts_nil) (fun _ _ _ _ _ => (pv 4)) (fun _ _ _ _ _ => (pgetO O_Lot_getitem hr (pv 0) (pv 4)))) pa_nil)))
        (pss_cons (ps_if (pt_not (pt_val (pcg C_fits hr hgd (pa_cons (pv 3) (pa_cons (pv 1) pa_nil))))) (pss_one (ps_ret pe_non)) pss_nil)
         (pss_one (ps_ret (pcg C__filled hr hgd (pa_cons (pv 3) (pa_cons (pv 0) (pa_cons (pv 1) (pa_cons (pe_lc (own := [("size", 4)]) (g := (gName 4)) rfl sc_keep_all_of.nd (pi_tup (pprop P_sizes hr (pv 0))) (blkOk_by (own := [("size", 4)]) (N := n_keep_all_of) (sc := defScope s_keep_all_of) (by decide +kernel)) (fun _ _ _ _ _ => (pg_name (i := 4) sc_keep_all_of.nd rfl (by first | exact Or.inl rfl | exact Or.inr rfl))) (fun _ _ _ _ _ => (pts_one (pt_cmpR (op_notInK (K := K) rfl) (pv 4) (pv 2) (by with_unfolding_all rfl)))) (fun _ _ _ _ _ => (pv 4))) pa_nil))))))))))))), ?_⟩
    have nd : S.Nodup := asc.imp fun {a b} (h : a < b) (e : a = b) => by omega
    have ln := len_sub nd sub
    rw [List.length_map] at ln
    have l12 := hc.ct.ln
    have kl := kept_lotc hc asc sub
    refine Evl.q_drop (ev_call1 (Evl.ev_var rfl) (chklot_v hl)) (fun H1 e1 => Evl.q_drop (ev_call1 (Evl.ev_var rfl) (fun H2 e2 Q q E => ⟨b, rs, rfl, hs.up (e1.trans e2), q⟩)) (fun H2 e2 => ?_))
    have E2 := e1.trans e2
    refine Evl.q_when (b := false) (Evl.et_is (Evl.et_not (Evl.et_B (Evl.ev_call (Evl.ea_cons (Evl.ev_var rfl) (Evl.ea_cons (Evl.ev_var rfl) Evl.ea_nil)) (fun H3 e3 Q q E => ⟨a, t, qs, S, rfl, hl.up (E2.trans e3), hc.ct, Evl.ex_t (E2.trans e3) ht, by omega, asc, sub, q⟩)))) rfl) (fun z => nomatch z) (fun _ H3 e3 => ?_)
    have E3 := E2.trans e3
    refine Evl.q_drop (v := .non) (fun H4 e4 Q q => etu_sizes (Evl.ev_var rfl) (hl.up (E3.trans e4)) H4 (Evl.Ex.refl H4) _ (fun t H5 e5 ht => ⟨t, _, rfl, ht, by rw [List.length_map]; omega, fun n hn => (cts_pos hc.ct n hn).1, hc.uni, fun H6 e6 => q H6 (e5.trans e6)⟩)) (fun H4 e4 => ?_)
    have E4 := E3.trans e4
    have hl4 := hl.up E4
    have ht4 := Evl.ex_t E4 ht
    refine q_lotE (CL := CL) (ps := kept qs S) (elot_mkD ((dc_tupN (K := K) (ns := S) (fun _ => true) (fun n => (n, (cnt qs n).getD 0)) (etu_ev (Evl.ev_var rfl) ht4) (by omega) (fun _ => rfl) (fun n _ H3 _ H4 _ Q q => q H4 (Evl.Ex.refl H4)) (fun n _ _ H3 _ => Evl.ev_var rfl) (fun n hn _ H3 e3 => ?_)).is (by rw [List.filter_eq_self.mpr fun _ _ => rfl]; exact merP_self kl.ct.nd)) kl.ct kl.asc) (fun c H5 e5 hc5 => ?_)
    · obtain ⟨r, hr, e⟩ := List.mem_map.mp (sub n hn)
      exact ev_item (K := K) (Evl.ev_var rfl) (Evl.ev_var rfl) (hl4.up e3) (e ▸ (hc.ct.ok r hr).1)
    have E5 := E4.trans e5
    refine Evl.q_when (b := !fitB (kept qs S) rs) (Evl.et_not (Evl.et_B (fits_e (K := K) (elot_v (Evl.ev_var rfl) hc5) (esto_v (Evl.ev_var rfl) (hs.up E5)) kl ho))) (fun z H6 e6 => ?_) (fun z H6 e6 => ?_)
    · exact qn (by cases hf : fitB (kept qs S) rs with
        | false => rfl
        | true => rw [hf] at z; cases z) H6 (E5.trans e6)
    · have fk : fitB (kept qs S) rs = true := by cases hf : fitB (kept qs S) rs with
        | true => rfl
        | false => rw [hf] at z; cases z
      have E6 := E5.trans e6
      refine filL_ret (K := K) (CL := CL) (CS := CS) (ps0 := kept qs S) (qs := qs) (L := (qs.map Prod.fst).filter fun z => !decide (z ∈ S)) (elot_v (Evl.ev_var rfl) (hc5.up e6)) (elot_v (Evl.ev_var rfl) (hl.up E6)) (esto_v (Evl.ev_var rfl) (hs.up E6)) (el_lcN (K := K) (fun z => !decide (z ∈ S)) V.int (etu_sizes (Evl.ev_var rfl) (hl.up E6)) (by rw [List.length_map]; omega) (fun _ => rfl) (fun n hn H7 e7 => Evl.et_test (ev_ninTI (Evl.ev_var rfl) (Evl.ev_var rfl) (Evl.ex_t (E6.trans e7) ht))) (fun n hn _ H7 e7 => Evl.ev_var rfl)) kl fk hc ho (fun p hp => ?_) (hc.ct.nd.filter _) (fun z hz => ?_) (fun c fs H7 e7 h1 h2 h3 h4 h5 => q fk c fs H7 (E6.trans e7) h1 h2 h3 h4 h5)
      · have : p.1 ∈ (kept qs S).map Prod.fst := List.mem_map_of_mem hp
        rw [kept_fst] at this
        exact sub _ this
      · obtain ⟨h1, h2⟩ := List.mem_filter.mp hz
        refine ⟨h1, kept_none fun x => ?_⟩
        rw [decide_eq_true x] at h2
        cases h2

theorem ok_roll (B : Bl mg) (D : Df K mg "_law_roll" s__law_roll ["dice", "total"]) : Cg P w K mg base CX0 1 "_law_roll" spRoll := by
  refine cg_of D sc__law_roll (fun vs H Q E h => ?_) (fun f cdv A fr s H vs Q E hr hgd h => ?_)
  · obtain ⟨d, t, rfl, _⟩ := h
    rfl
  · obtain ⟨d, t, rfl, ht, ht2, ⟨a, b, c, hd⟩, q⟩ := h
    refine ⟨_, (pss_cons (ps_if (pt_cmpR op_gt (pe_ix ix_list (pv 0) pe_int (fun _ _ => rfl)) pe_int (nomark _)) (pss_cons (ps_set (i := 2) sc__law_roll.nd rfl (by first | exact Or.inl rfl | exact Or.inr rfl) (pe_op op_mod (pe_callTy call_int1 (by rfl) B.int bt_int (pa_cons (pe_ix ix_list (pv 0) pe_int (fun _ _ => rfl)) pa_nil)) (pv 1)))
    (pss_cons (ps_asg (pe_op op_fdiv (pe_ix ix_list (pv 0) pe_int (fun _ _ => rfl)) (pv 1)) (pg_sub (pv 0) pe_int set_list))
     (pss_one (ps_ret (pv 2))))) pss_nil)
    (pss_cons (ps_asg (pe_op op_add (pe_ix ix_list (pv 0) pe_int (fun _ _ => rfl)) pe_int) (pg_sub (pv 0) pe_int set_list))
     (pss_cons (ps_set (i := 3) sc__law_roll.nd rfl (by first | exact Or.inl rfl | exact Or.inr rfl) (pe_op op_mod (pe_callTy call_int1 (by rfl) B.int bt_int (pa_cons (pe_op op_add (pe_ix ix_list (pv 0) pe_int (fun _ _ => rfl)) (pe_op op_mul pe_int (pe_ix ix_list (pv 0) pe_int (fun _ _ => rfl)))) pa_nil)) pe_int))
      (pss_cons (ps_set (i := 4) sc__law_roll.nd rfl (by first | exact Or.inl rfl | exact Or.inr rfl) (pe_op op_add (pe_op op_mul (pe_op op_mod (pe_callTy call_int1 (by rfl) B.int bt_int (pa_cons (pe_op op_add (pe_op op_mul (pv 3) (pv 3)) (pe_op op_mul pe_int (pe_ix ix_list (pv 0) pe_int (fun _ _ => rfl)))) pa_nil)) pe_int) pe_int) (pv 3)))
       (pss_one (ps_ret (pe_op op_mod (pe_callTy call_int1 (by rfl) B.int bt_int (pa_cons (pe_op op_fdiv (pv 4) pe_int) pa_nil)) (pv 1)))))))), ?_⟩
    refine ⟨.ref d, rfl, d, _, 0, _, rfl, rfl, SqL.of hd, atI_nat (j := 0) rfl, a, 0, rfl, rfl, _, rfl, ifd (fun e => ?_) (fun e => ?_)⟩
    · refine ⟨.ref d, rfl, d, _, 0, _, rfl, rfl, SqL.of hd, atI_nat (j := 0) rfl, .inl ⟨a, rfl, .int t, rfl, a, t, rfl, rfl, ht, ?_⟩⟩
      refine ⟨.ref d, rfl, d, _, 0, _, rfl, rfl, SqL.of hd, atI_nat (j := 0) rfl, .int t, rfl, a, t, rfl, rfl, ⟨ht, ht2⟩, ?_⟩
      refine ⟨.ref d, rfl, d, _, 0, 0, rfl, rfl, hd, rfl, ?_⟩
      exact ⟨_, rfl, q _ _ (Int.emod_nonneg _ (by omega)) (Int.emod_lt_of_pos _ ht) Dice.at But.put⟩
    · refine ⟨.ref d, rfl, d, _, 2, _, rfl, rfl, SqL.of hd, atI_nat (j := 2) rfl, c, 1, rfl, rfl, ?_⟩
      refine ⟨.ref d, rfl, d, _, 2, 2, rfl, rfl, hd, rfl, ?_⟩
      generalize hH1 : upd H d _ = H1
      have hd1 : H1 d = some (.lst [.int a, .int b, .int (c + 1)]) := by rw [← hH1]; exact upd_same
      have k1 : But d H H1 := fun b n => by rw [← hH1, upd_ne n]
      refine ⟨.ref d, rfl, d, _, 1, _, rfl, rfl, SqL.of hd1, atI_nat (j := 1) rfl, .ref d, rfl, d, _, 2, _, rfl, rfl, SqL.of hd1, atI_nat (j := 2) rfl, _, _, rfl, rfl, .inl (by decide), _, _, rfl, rfl, .inl ⟨_, rfl, ?_⟩⟩
      refine r_modC (by decide) fun one h0 h1 => ?_
      refine ⟨.int one, rfl, .int one, rfl, one, one, rfl, rfl, .inl (by omega), .ref d, rfl, d, _, 2, _, rfl, rfl, SqL.of hd1, atI_nat (j := 2) rfl, _, _, rfl, rfl, .inl (by decide), _, _, rfl, rfl, .inl ⟨_, rfl, ?_⟩⟩
      refine r_modC (by decide) fun x x0 x1 => ?_
      refine ⟨_, _, rfl, rfl, .inr (by decide), .int one, rfl, _, _, rfl, rfl, ?_⟩
      refine ⟨_, rfl, _, _, rfl, rfl, ⟨by decide, by decide⟩, .inl ⟨_, rfl, .int t, rfl, ?_⟩⟩
      exact r_mod ht fun r r0 r1 => q r H1 r0 r1 ⟨_, _, _, hd1⟩ k1
theorem ok_dice (B : Bl mg) (D : Df K mg "_law_dice" s__law_dice ["script", "spot"]) : Cg P w K mg base CX0 1 "_law_dice" (spDice K) := by
  refine cg_of D sc__law_dice (fun vs H Q E h => ?_) (fun f cdv A fr s H vs Q E hr hgd h => ?_)
  · obtain ⟨a, k, ns, rfl, _⟩ := h
    rfl
  · obtain ⟨a, k, ns, rfl, ha, q⟩ := h
    refine ⟨_, (pss_cons (ps_set (i := 2) sc__law_dice.nd rfl (by first | exact Or.inl rfl | exact Or.inr rfl) (pe_ifExp (pt_cmpR op_lt (pv 1) (pe_callB call_len_seq (by rfl) B.len bt_len (pa_cons (pv 0) pa_nil)) (nomark _)) (pe_callTy call_int1 (by rfl) B.int bt_int (pa_cons (pe_ix ix_list (pv 0) (pv 1) (fun _ _ => rfl)) pa_nil)) (pe_op op_add (pe_op op_mul pe_int (pv 1)) pe_int)))
    (pss_cons (ps_set (i := 3) sc__law_dice.nd rfl (by first | exact Or.inl rfl | exact Or.inr rfl) (pe_op op_mod (pe_callB (call_max2 rfl) (by rfl) B.max bt_max (pa_cons pe_int (pa_cons (pe_op op_sub (pe_callB call_abs (by rfl) B.abs bt_abs (pa_cons (pv 2) pa_nil)) (pe_op op_pow pe_int pe_int)) pa_nil))) (pe_op op_mulW (pe_op op_pow pe_int pe_int) (pe_op op_pow pe_int pe_int))))
     (pss_one (ps_ret (pe_lst (pa_cons (pv 3) (pa_cons (pe_op op_add (pe_op op_add (pe_op op_add (pe_op op_mul (pe_op op_mod (pe_callB call_abs (by rfl) B.abs bt_abs (pa_cons (pv 2) pa_nil)) pe_int) pe_int) (pe_op op_mul pe_int (pv 1))) (pe_op op_mul pe_int (pe_callTy call_int1 (by rfl) B.int bt_int (pa_cons (pe_cmpR op_lt (pv 2) pe_int (nomark _)) pa_nil)))) pe_int) (pa_cons pe_int pa_nil)))))))), ?_⟩
    refine ⟨.int (k : Int), rfl, .ref a, rfl, a, _, rfl, .inl ha, _, _, rfl, rfl, _, rfl, join IsI ?_ (fun e Q' q' => ?_) (fun e Q' q' => ?_)⟩
    · rintro _ ⟨cell, rfl⟩
      refine ⟨.int cell, rfl, cell, rfl, _, _, rfl, rfl, pow_ok (by decide +kernel), _, _, rfl, rfl, _, _, rfl, _, _, rfl, rfl, pow_ok (by decide +kernel), _, _, rfl, rfl, pow_ok (by decide +kernel), _, _, rfl, rfl, ten60, ?_⟩
      refine r_mod (by decide +kernel) fun left _ _ => ?_
      refine ⟨_, rfl, .int cell, rfl, cell, rfl, ?_⟩
      refine r_modC (by decide) fun x _ _ => ?_
      refine ⟨_, _, rfl, rfl, .inr (by decide), .int (k : Int), rfl, _, _, rfl, rfl, .inl (by decide), _, _, rfl, rfl, .int cell, rfl, _, _, rfl, rfl, .inr ⟨_, rfl, _, _, rfl, rfl, .inl (by decide), _, _, rfl, rfl, _, _, rfl, rfl, ?_⟩⟩
      exact ⟨(show 3 ≤ sizeLine by decide), fun p hp => q p hp _ Dice.at But.put⟩
    · obtain ⟨i, hi⟩ := at_int e
      exact ⟨.ref a, rfl, .int (k : Int), rfl, a, _, _, _, rfl, rfl, ha, hi, .inl ⟨i, rfl, q' _ ⟨i, rfl⟩⟩⟩
    · exact ⟨.int (k : Int), rfl, _, _, rfl, rfl, .inl (by decide), _, _, rfl, rfl, q' _ ⟨_, rfl⟩⟩

def spGreat : Sp := fun vs H Q _ => ∃ d z, vs = [.ref d, .int z] ∧ Dice H d ∧ ∀ (i : Int) H', 0 ≤ i → i < 10 ^ 31 → Kd d H H' → Q (.int (z + i)) H'
def spLong (K : PySem.W.Frag) : Sp := fun vs H Q _ => ∃ d, vs = [.ref d] ∧ Dice H d ∧ ∀ (p : Addr) (ns : List Int) (L : Int) (H' : Hp), Kd d H H' → p ≠ d → SqT K H' p (ns.map V.int) → ns.length ≤ 6 → Chd ns L → L < 10 ^ 27 → Q (.ref p) H'
structure Grt (ns : List Int) (ps : List (Int × Int)) : Prop where
  nd : (ps.map Prod.fst).Nodup
  sub : ∀ p ∈ ps, p.1 ∈ ns ∧ 0 < p.2 ∧ p.2 ≤ 10 ^ 31
  ln : ps.length ≤ ns.length
def spGl (K : PySem.W.Frag) : Sp := fun vs H Q _ => ∃ (d p : Addr) (ns : List Int), vs = [.ref d, .ref p] ∧ p ≠ d ∧ Dice H d ∧ SqT K H p (ns.map V.int) ∧ ns.length ≤ 100 ∧ ns.Nodup ∧ ∀ (q : Addr) (ps : List (Int × Int)) (H' : Hp), Kd d H H' → q ≠ d → H' q = some (.dK (ps.map kc)) → Grt ns ps → Q (.ref q) H'
theorem ok_great (B : Bl mg) (D : Df K mg "_law_great" s__law_great ["dice", "least"]) (C__law_roll : Cg P w K mg base CX0 1 "_law_roll" spRoll) : Cg P w K mg base CX0 2 "_law_great" spGreat := by
  refine cg_of D sc__law_great (fun vs H Q E h => ?_) (fun f cdv A fr s H vs Q E hr hgd h => ?_)
  · obtain ⟨d, z, rfl, _⟩ := h
    rfl
  · obtain ⟨d, z, rfl, hd, q⟩ := h
    refine ⟨_, (pss_cons (ps_par (i := 2) (j := 3) rfl sc__law_great.nd rfl rfl (by decide) rfl rfl (pa_cons (pcg C__law_roll hr hgd (pa_cons (pv 0) (pa_cons pe_int pa_nil))) (pa_cons pe_int pa_nil)) (by rfl))
    (pss_cons (ps_for PassesOwn.never rfl (pi_range1 (by rfl) B.range (pa_cons (pe_ifExp (pt_cmpR op_eq (pv 2) pe_int (nomark _)) pe_int pe_int) pa_nil)) (pg_name (i := 4) sc__law_great.nd rfl (by first | exact Or.inl rfl | exact Or.inr rfl)) (pss_one (ps_set (i := 3) sc__law_great.nd rfl (by first | exact Or.inl rfl | exact Or.inr rfl) (pe_op op_add (pe_op op_mul (pv 3) pe_int) (pcg C__law_roll hr hgd (pa_cons (pv 0) (pa_cons pe_int pa_nil)))))))
     (pss_one (ps_ret (pe_op op_add (pv 1) (pe_ifExp (pt_cmpR op_lt (pv 2) pe_int (nomark _)) (pv 3) (pe_op op_mod (pv 3) pe_int))))))), ?_⟩
    refine ⟨.ref d, rfl, d, 4, rfl, by decide, by decide, hd, fun r H1 r0 r1 hd1 k1 => ⟨_, _, rfl, ?_⟩⟩
    have kd1 : Kd d H H1 := Kd.but hd1 k1
    have e6 : (100003 : Int) ^ 6 < 10 ^ 31 := by decide +kernel
    refine Evl.q_forR1 (n := if r = 0 then 6 else 1) (Evl.ea_cons (Evl.ev_if (b := decide (r = 0)) (Evl.et_is (Evl.et_test (ev_eq (Evl.ev_var rfl) Evl.ev_c rfl)) (decide_eq_decide.mpr ⟨V.int.inj, congrArg V.int⟩)) (fun z => Evl.ev_is Evl.ev_c (by rw [if_pos (of_decide_eq_true z)])) (fun z => Evl.ev_is Evl.ev_c (by rw [if_neg (of_decide_eq_false z)]))) Evl.ea_nil)
      (by split <;> omega) (fun i σ H' => Kd d H H' ∧ ∃ (f : Int) (t : Option V), σ = [some (.ref d), some (.int z), some (.int r), some (.int f), t] ∧ 0 ≤ f ∧ f < 100003 ^ i) (fun H2 e2 => ⟨kd1.to e2, 0, none, rfl, by decide, by decide⟩) ?_ ?_
    · rintro i _ H2 hi ⟨k2, f, t, rfl, f0, f1⟩
      refine ⟨.int f, rfl, _, _, rfl, rfl, .inr (by decide), .ref d, rfl, d, 100003, rfl, by decide, by decide, k2.2, fun x H3 x0 x1 hd3 k3 => ⟨_, _, rfl, rfl, k2.trans (Kd.but hd3 k3), _, _, rfl, by omega, ?_⟩⟩
      rw [Int.pow_succ]
      omega
    · rintro _ H2 ⟨k2, f, t, rfl, f0, f1⟩
      have fl : f < 10 ^ 31 := by
        refine Int.lt_of_lt_of_le f1 ?_
        split
        · exact Int.le_of_lt e6
        · decide +kernel
      refine ⟨_, rfl, _, rfl, _, _, rfl, rfl, _, rfl, ifd (fun _ => ?_) (fun _ => ?_)⟩
      · refine ⟨.int f, rfl, _, _, rfl, rfl, ?_⟩
        exact q f H2 f0 fl k2
      · refine ⟨.int f, rfl, r_modC (by decide) fun x x0 x1 => ⟨_, _, rfl, rfl, ?_⟩⟩
        exact q x H2 x0 (Int.lt_trans x1 (by decide +kernel)) k2
theorem ok_long (B : Bl mg) (D : Df K mg "_law_long_chain" s__law_long_chain ["dice"]) (C__law_roll : Cg P w K mg base CX0 1 "_law_roll" spRoll) : Cg P w K mg base CX0 2 "_law_long_chain" (spLong K) := by
  refine cg_of D sc__law_long_chain (fun vs H Q E h => ?_) (fun f cdv A fr s H vs Q E hr hgd h => ?_)
  · obtain ⟨d, rfl, _⟩ := h
    rfl
  · obtain ⟨d, rfl, hd, q⟩ := h
    refine ⟨_, (pss_cons (ps_set (i := 1) sc__law_long_chain.nd rfl (by first | exact Or.inl rfl | exact Or.inr rfl) (pe_lst (pa_cons (pe_op op_add pe_int (pcg C__law_roll hr hgd (pa_cons (pv 0) (pa_cons pe_int pa_nil)))) pa_nil)))
    (pss_cons (ps_for PassesOwn.never rfl (pi_range1 (by rfl) B.range (pa_cons (pcg C__law_roll hr hgd (pa_cons (pv 0) (pa_cons pe_int pa_nil))) pa_nil)) (pg_name (i := 2) sc__law_long_chain.nd rfl (by first | exact Or.inl rfl | exact Or.inr rfl)) (pss_cons (ps_set (i := 3) sc__law_long_chain.nd rfl (by first | exact Or.inl rfl | exact Or.inr rfl) (pe_ifExp (pt_cmpR op_gt (pcg C__law_roll hr hgd (pa_cons (pv 0) (pa_cons pe_int pa_nil))) pe_int (nomark _)) (pe_op op_add pe_int (pcg C__law_roll hr hgd (pa_cons (pv 0) (pa_cons pe_int pa_nil)))) (pe_op op_add pe_int (pcg C__law_roll hr hgd (pa_cons (pv 0) (pa_cons pe_int pa_nil))))))
    (pss_one (ps_expr (pe_bm PySem.F.plainAttrs_list PySem.F.slot_list_append PySem.F.type_list_append mt_append (pv 1) (pa_cons (pe_op op_mul (pe_ix ix_list (pv 1) (pe_un un_neg pe_int) (fun _ _ => rfl)) (pv 3)) pa_nil))))))
     (pss_one (ps_ret (pe_callTy call_tuple_of (by rfl) B.tuple bt_tuple (pa_cons (pv 1) pa_nil)))))), ?_⟩
    refine ⟨.ref d, rfl, d, 5, rfl, by decide, by decide, hd, fun r H1 r0 r1 hd1 k1 => ⟨_, _, rfl, rfl, (show 1 ≤ sizeLine by decide), fun l hl => ?_⟩⟩
    have ne := hd1.ne hl
    have hl0 : H l = none := (k1 l ne).symm.trans hl
    refine ⟨.ref d, rfl, d, 6, rfl, by decide, by decide, hd1.new hl, fun n H2 n0 n1 hd2 k2 => ⟨n, rfl, by omega, by omega, ?_⟩⟩
    refine for_range (fun i σ H' => Kd d H H' ∧ ∃ (ns : List Int) (L : Int) (t s : Option V), σ = [some (.ref d), some (.ref l), t, s] ∧ H' l = some (.lst (ns.map V.int)) ∧ Chd ns L ∧ L ≤ 5 * 100005 ^ i ∧ ns.length = i + 1) ?_ ?_ ?_
    · refine ⟨(Kd.but hd1 k1).trans ((Kd.ex hd1 (Evl.Ex.new hl)).trans (Kd.but hd2 k2)), [1 + r], 1 + r, none, none, rfl, ?_, Chd.one (by omega), by omega, rfl⟩
      rw [k2 l ne]; exact upd_same
    · rintro i _ H2 hi ⟨k3, ns, L, t, s, rfl, hl2, hc, hL, hn⟩
      refine sq_asgK (d := d) (Pr := fun v => ∃ y : Int, v = .int y ∧ 2 ≤ y ∧ y ≤ 100005) k3.2 (fun H3 k4 Q q => ⟨.ref d, rfl, d, 3, rfl, by decide, by decide, k4.2, fun x H4 x0 x1 hd5 k5 => ⟨_, _, rfl, rfl, _, rfl, ifd
        (fun _ => ⟨.ref d, rfl, d, 3, rfl, by decide, by decide, hd5, fun y H5 y0 y1 hd6 k6 => ⟨_, _, rfl, rfl, q _ _ ((Kd.but hd5 k5).trans (Kd.but hd6 k6)) ⟨2 + y, rfl, by omega, by omega⟩⟩⟩)
        (fun _ => ⟨.ref d, rfl, d, 100003, rfl, by decide, by decide, hd5, fun y H5 y0 y1 hd6 k6 => ⟨_, _, rfl, rfl, q _ _ ((Kd.but hd5 k5).trans (Kd.but hd6 k6)) ⟨2 + y, rfl, by omega, by omega⟩⟩⟩)⟩⟩) ?_
      rintro _ H3 k4 ⟨y, rfl, y0, y1⟩
      have l3 : H3 l = some (.lst (ns.map V.int)) := k4.1 l _ ne hl2
      have lpos := hc.posL
      refine Evl.s_app l3 (Evl.ev_var rfl) (v := .int (L * y)) (ev_i (g := fun i j => .int (i * j)) (ev_ixL (Evl.ev_var rfl) (Evl.ev_un Evl.ev_c Evl.ru_neg) (SqL.of l3) hc.at) (Evl.ev_var rfl) (.inr ⟨by omega, by omega⟩)) (by rw [List.length_map]; omega) (fun H4 e4 => ?_)
      refine ⟨⟨Kp.mut ((k3.trans k4).to e4).1 hl0, ((k4.2.ex e4)).put ne⟩, ns ++ [L * y], L * y, _, _, rfl, ?_, hc.snoc y0, ?_, ?_⟩
      · rw [List.map_append]; exact upd_same
      · have a1 : L * y ≤ (5 * 100005 ^ i) * 100005 := Int.mul_le_mul hL y1 (by omega) (Int.mul_nonneg (by decide) (Int.pow_nonneg (by decide)))
        rw [Int.pow_succ, ← Int.mul_assoc]
        exact a1
      · rw [List.length_append, hn]; rfl
    · rintro _ H2 ⟨k3, ns, L, t, s, rfl, hl2, hc, hL, hn⟩
      have hL2 : L < 10 ^ 27 := Int.lt_of_le_of_lt hL (by
        have : n = 0 ∨ n = 1 ∨ n = 2 ∨ n = 3 ∨ n = 4 ∨ n = 5 := by omega
        rcases this with rfl | rfl | rfl | rfl | rfl | rfl <;> decide +kernel)
      exact Evl.s_retU (eu_tup_of (Evl.ev_var rfl) (SqL.of hl2)) (fun p H3 hp e3 h3 => q p ns L H3 (k3.to e3) (k3.2.ne hp) (SqT.of h3) (by omega) hc hL2)
theorem ok_gl (B : Bl mg) (D : Df K mg "_law_great_lot" s__law_great_lot ["dice", "sizes"]) (C__law_roll : Cg P w K mg base CX0 1 "_law_roll" spRoll) (C__law_great : Cg P w K mg base CX0 2 "_law_great" spGreat) : Cg P w K mg base CX0 3 "_law_great_lot" (spGl K) := by
  refine cg_of D sc__law_great_lot (fun vs H Q E h => ?_) (fun f cdv A fr s H vs Q E hr hgd h => ?_)
  · obtain ⟨d, p, ns, rfl, _⟩ := h
    rfl
  · obtain ⟨d, p, ns, rfl, ne, hd, hp, hl, hnd, q⟩ := h
    refine ⟨_, (pss_cons (ps_set (i := 2) sc__law_great_lot.nd rfl (by first | exact Or.inl rfl | exact Or.inr rfl) pe_dnewK)
    (pss_cons (ps_for PassesOwn.never rfl (pi_tup (pv 1)) (pg_name (i := 3) sc__law_great_lot.nd rfl (by first | exact Or.inl rfl | exact Or.inr rfl)) (pss_one (ps_if (pt_cmpR op_gt (pcg C__law_roll hr hgd (pa_cons (pv 0) (pa_cons pe_int pa_nil))) pe_int (nomark _)) (pss_one (ps_dput (hu_of hr) (pv 2) (pv 3) (pcg C__law_great hr hgd (pa_cons (pv 0) (pa_cons pe_int pa_nil))) rfl)) pss_nil)))
     (pss_one (ps_ret (pv 2))))), ?_⟩
    refine fun g ng => ?_
    have gd := hd.ne ng
    have e1 : Evl.Ex H (upd H g (.dK [])) := Evl.Ex.new ng
    have hg1 : upd H g (.dK []) g = some (.dK []) := upd_same
    have hd1 : Dice (upd H g (.dK [])) d := hd.new ng
    generalize upd H g (.dK []) = H1 at e1 hg1 hd1 ⊢
    refine ⟨.ref p, rfl, p, rfl, ⟨_, Evl.ex_t e1 hp⟩, ?_⟩
    refine for_it walk_tup (fun i σ H' => Kd d H H' ∧ ∃ (ps : List (Int × Int)) (t3 : Option V), σ = [some (.ref d), some (.ref p), some (.ref g), t3] ∧ H' g = some (.dK (ps.map kc)) ∧ (∀ x ∈ ps, x.1 ∈ ns.take i ∧ 0 < x.2 ∧ x.2 ≤ 10 ^ 31) ∧ (ps.map Prod.fst).Nodup ∧ ps.length ≤ i)
      ⟨Kd.ex hd e1, [], none, rfl, hg1, fun x hx => (nomatch hx), List.nodup_nil, Nat.le_refl _⟩ (fun i σ H' _ h => h.1.1.sqT ne hp) ?_ ?_
    · rintro i x σ H4 _ hi ⟨k4, ps, t3, rfl, hg4, f3, f4, f5⟩ ⟨rfl, hxi⟩
      rw [List.length_map] at hi
      rw [List.getElem?_map, List.getElem?_eq_getElem hi] at hxi
      obtain rfl := Option.some.inj hxi
      have st : ns.take (i + 1) = ns.take i ++ [ns[i]] := by rw [List.take_add_one, List.getElem?_eq_getElem hi]; rfl
      have nin : ns[i] ∉ ns.take i := fun m => by
        have z := hnd
        rw [← List.take_append_drop (i + 1) ns, st, List.nodup_append] at z
        exact (List.nodup_append.mp z.1).2.2 _ m _ (List.mem_singleton.mpr rfl) rfl
      generalize ns[i] = z at nin st
      refine ⟨.ref d, rfl, d, 5, rfl, by decide, by decide, k4.2, fun r H5 r0 r1 hd5 k5 => ⟨_, _, rfl, rfl, _, rfl, ?_⟩⟩
      have k45 := k4.trans (Kd.but hd5 k5)
      have hg5 : H5 g = some (.dK (ps.map kc)) := (k5 g gd).trans hg4
      refine if_b _ (fun rp => ?_) (fun rn => ?_)
      · have znk : z ∉ ps.map Prod.fst := fun m => by
          obtain ⟨x, hx, e⟩ := List.mem_map.mp m
          exact nin (e ▸ (f3 x hx).1)
        refine ⟨.ref d, rfl, d, 1, rfl, k45.2, fun c H6 c0 c1 k6 => ?_⟩
        have hg6 := k6.1 g _ gd hg5
        have k46 := k45.trans k6
        refine ⟨.ref g, rfl, .int z, rfl, g, _, rfl, DPut.k (k := Sum.inl z) hg6 (by rw [List.length_map, sizeLine_eq]; omega), ⟨Kp.mut k46.1 ng, k46.2.put gd⟩, ps ++ [(z, 1 + c)], _, rfl, by rw [upd_same, putK_new znk], fun x hx => ?_, ?_, by rw [List.length_append]; exact Nat.succ_le_succ f5⟩
        · rw [st]
          rcases List.mem_append.mp hx with m | m
          · exact ⟨List.mem_append_left _ (f3 x m).1, (f3 x m).2⟩
          · rw [List.mem_singleton.mp m]
            exact ⟨List.mem_append_right _ (List.mem_singleton.mpr rfl), by show 0 < 1 + c; omega, by show 1 + c ≤ _; omega⟩
        · rw [List.map_append, List.nodup_append]
          exact ⟨f4, List.nodup_cons.mpr ⟨List.not_mem_nil, List.nodup_nil⟩, fun a ha b hb => by cases List.mem_singleton.mp hb; exact fun e => znk (by rw [show z = a from e.symm]; exact ha)⟩
      · refine ⟨k45, ps, _, rfl, hg5, fun x hx => ?_, f4, Nat.le_succ_of_le f5⟩
        rw [st]
        exact ⟨List.mem_append_left _ (f3 x hx).1, (f3 x hx).2⟩
    · rintro _ H4 ⟨k4, ps, t3, rfl, hg4, f3, f4, f5⟩
      rw [List.length_map] at f3 f5
      exact ⟨.ref g, rfl, q g ps H4 k4 gd hg4 ⟨f4, fun x hx => ⟨List.mem_of_mem_take (f3 x hx).1, (f3 x hx).2⟩, f5⟩⟩
theorem ok_made (B : Bl mg) {CL : Addr} (D : Df K mg "_law_made_lot" s__law_made_lot ["plain"]) (M_Lot : Mkc P w K mg base 4 "Lot" CL (spLotI K CL)) : Cg P w K mg base CX0 6 "_law_made_lot" (spMade K CL) := by
  refine cg_of D sc__law_made_lot (fun vs H Q E h => ?_) (fun f cdv A fr s H vs Q E hr hgd h => ?_)
  · obtain ⟨d, ps, rfl, _⟩ := h
    rfl
  · obtain ⟨d, ps, rfl, hd, hc, q⟩ := h
    refine ⟨_, (pss_one (ps_ret (pmk M_Lot hr (pa_cons (pe_callTy (call_dictP rfl) (by rfl) B.dict bt_dict (pa_cons (pe_lock (pe_lc (own := [("size", 1)]) (g := (gName 1)) rfl sc__law_made_lot.nd (pi_keys (pv 0)) (blkOk_by (own := [("size", 1)]) (N := n__law_made_lot) (sc := defScope s__law_made_lot) (by decide +kernel)) (fun _ _ _ _ _ => (pg_name (i := 1) sc__law_made_lot.nd rfl (by first | exact Or.inl rfl | exact Or.inr rfl))) (fun _ _ _ _ _ => pts_nil) (fun _ _ _ _ _ => (pe_tup (pa_cons (pv 1) (pa_cons (pe_dget (hu_of hr) (pv 0) (pv 1) (fun _ _ => rfl)) pa_nil)))))) pa_nil)) pa_nil)))), ?_⟩
    have ln := hc.ln
    refine lot_make (K := K) (ps := ps) (fun Q' q' => dl_of (K := K) (lc_self (K := K) (fun _ => Evl.ev_var rfl) (fun _ _ => Evl.ev_var rfl) (fun _ => rfl) hd hc.nd (by omega) (fun _ => rfl)) hc.nd H (Evl.Ex.refl H) _ fun p H2 _ e2 h2 => q' p H2 e2 h2) hc _ (fun a qs H' e hp ha hl => q a qs H' e hp ha hl)
theorem ok_tot (B : Bl mg) (D : Df K mg "_law_total" s__law_total ["plain"]) : Cg P w K mg base CX0 1 "_law_total" spTot := by
  refine cg_of D sc__law_total (fun vs H Q E h => ?_) (fun f cdv A fr s H vs Q E hr hgd h => ?_)
  · obtain ⟨d, ps, rfl, _⟩ := h
    rfl
  · obtain ⟨d, ps, rfl, hd, hc, q⟩ := h
    refine ⟨_, (pss_one (ps_ret (pe_callB (cr_sum rfl) (by rfl) B.sum bt_sum (pa_cons (pe_lock (pe_lc (own := [("size", 1)]) (g := (gName 1)) rfl sc__law_total.nd (pi_keys (pv 0)) (blkOk_by (own := [("size", 1)]) (N := n__law_total) (sc := defScope s__law_total) (by decide +kernel)) (fun _ _ _ _ _ => (pg_name (i := 1) sc__law_total.nd rfl (by first | exact Or.inl rfl | exact Or.inr rfl))) (fun _ _ _ _ _ => pts_nil) (fun _ _ _ _ _ => (pe_op op_mulW (pv 1) (pe_dget (hu_of hr) (pv 0) (pv 1) (fun _ _ => rfl)))))) pa_nil)))), ?_⟩
    have ln := hc.ln
    refine Evl.s_ret (Evl.ev_is (ev_sum (K := K) (ns := (ps.filter fun _ => true).map fun p => p.1 * p.2) (Ck.el_is (el_lcK (fun _ => true) (fun i => .int ((ps.getD i (0, 0)).1 * (ps.getD i (0, 0)).2)) (fun _ => Evl.ev_var rfl) hd (by rw [List.length_map]; omega) (fun _ => rfl) (fun i k x H1 _ _ H2 _ Q q => q H2 (Evl.Ex.refl H2)) (fun i k x H1 hk hf _ => ?_)) ?_)) ?_) q
    · obtain ⟨p, hp, e, rfl, rfl⟩ := kc_at hk
      rw [e]
      obtain ⟨s1, s2⟩ := hc.ok p hp
      exact ev_i (g := fun i j => .int (i * j)) (Evl.ev_var rfl) (ev_dget (Evl.ev_var rfl) (Evl.ev_var rfl) (fun H2 e2 => (hf.to e2).dk) ((cnt_mem hc.nd).mp hp)) (mul200 (siz_nat s1) (siz_nat s2))
    · rw [List.length_map]
      exact given_if ps (fun _ => true) fun p => p.1 * p.2
    · rw [List.filter_eq_self.mpr fun _ _ => rfl]
      rfl

theorem ok_pickS (B : Bl mg) (D : Df K mg "_law_pick" s__law_pick ["dice", "items"]) (C__law_roll : Cg P w K mg base CX0 1 "_law_roll" spRoll) : Cg P w K mg base CX0 2 "_law_pick" (spPickS K) := by
  refine cg_of D sc__law_pick (fun vs H Q E h => ?_) (fun f cdv A fr s H vs Q E hr hgd h => ?_)
  · obtain ⟨d, p, xs, rfl, _⟩ := h
    rfl
  · obtain ⟨d, p, xs, rfl, hd, hp, ne, hx, hl, q⟩ := h
    refine ⟨_, (pss_one (ps_ret (pe_ix ix_seq (pv 1) (pcg C__law_roll hr hgd (pa_cons (pv 0) (pa_cons (pe_callB call_len_seq (by rfl) B.len bt_len (pa_cons (pv 1) pa_nil)) pa_nil))) (fun _ _ => rfl)))), ?_⟩
    have h0 : 0 < xs.length := List.length_pos_iff.mpr hx
    refine ⟨.ref p, rfl, .ref d, rfl, .ref p, rfl, p, xs, rfl, hp, d, _, rfl, by omega, by omega, hd, fun r H' r0 r1 hd' k => ?_⟩
    obtain ⟨x, hm, hx⟩ := at_in (xs := xs) r0 r1
    rcases hp with hp | hp
    · exact .inl ⟨p, xs, r, x, rfl, rfl, k.sqL ne hp, hx, q x hm H' hd' k⟩
    · exact .inr (.inl ⟨p, xs, r, x, rfl, rfl, k.kp.sqT ne hp, hx, q x hm H' hd' k⟩)
theorem ei_great {d : Addr} {σ : L2.St} {H : Hp} {i : Nat} {z : Int} (hv : σ[i]? = some (some (.ref d))) : Ei d (fun y => z ≤ y ∧ y < z + 10 ^ 31) (tCall spGreat [] E0 (tCons (tVar i) (tCons (tC (.int z)) tNil))) σ H := fun H1 e Q q =>
  ⟨_, hv, d, z, rfl, e.2, fun y H2 y0 y1 k => q _ H2 k ⟨_, rfl, by omega, by omega⟩⟩
def spGrs (K : PySem.W.Frag) : Sp := fun vs H Q _ => ∃ (d p : Addr) (ns : List Int), vs = [.ref d, .ref p] ∧ p ≠ d ∧ Dice H d ∧ SqT K H p (ns.map V.int) ∧ ns ≠ [] ∧ ns.length ≤ 100 ∧ (∀ n ∈ ns, 0 < n ∧ n < 10 ^ 27) ∧ ∀ l vs rs H', Kd d H H' → l ≠ d → H l = none → H' l = some (.lst vs) → F2 (RP K H') vs rs → rs ≠ [] → GrR rs → Q (.ref l) H'
theorem ok_grs (B : Bl mg) (D : Df K mg "_law_great_store" s__law_great_store ["dice", "sizes"]) (C__law_roll : Cg P w K mg base CX0 1 "_law_roll" spRoll) (C__law_pick : Cg P w K mg base CX0 2 "_law_pick" (spPickS K)) (C__law_great : Cg P w K mg base CX0 2 "_law_great" spGreat) : Cg P w K mg base CX0 3 "_law_great_store" (spGrs K) := by
  refine cg_of D sc__law_great_store (fun vs H Q E h => ?_) (fun f cdv A fr s H vs Q E hr hgd h => ?_)
  · obtain ⟨d, p, ns, rfl, _⟩ := h
    rfl
  · obtain ⟨d, p, ns, rfl, pd, hd, hp, hne, hln, hb, q⟩ := h
    refine ⟨_, (pss_cons (ps_set (i := 2) sc__law_great_store.nd rfl (by first | exact Or.inl rfl | exact Or.inr rfl) (pe_lst pa_nil))
    (pss_cons (ps_for PassesOwn.never rfl (pi_range1 (by rfl) B.range (pa_cons (pe_op op_add pe_int (pcg C__law_roll hr hgd (pa_cons (pv 0) (pa_cons pe_int pa_nil)))) pa_nil)) (pg_name (i := 3) sc__law_great_store.nd rfl (by first | exact Or.inl rfl | exact Or.inr rfl)) (pss_cons (ps_set (i := 4) sc__law_great_store.nd rfl (by first | exact Or.inl rfl | exact Or.inr rfl) (pe_op op_add (pe_op op_mul (pcg C__law_pick hr hgd (pa_cons (pv 0) (pa_cons (pv 1) pa_nil))) (pe_op op_add pe_int (pcg C__law_roll hr hgd (pa_cons (pv 0) (pa_cons pe_int pa_nil))))) (pcg C__law_roll hr hgd (pa_cons (pv 0) (pa_cons (pcg C__law_pick hr hgd (pa_cons (pv 0) (pa_cons (pe_lst (pa_cons pe_int (pa_cons pe_int (pa_cons pe_int pa_nil)))) pa_nil))) pa_nil)))))
    (pss_one (ps_expr (pe_bm PySem.F.plainAttrs_list PySem.F.slot_list_append PySem.F.type_list_append mt_append (pv 2) (pa_cons (pe_tup (pa_cons (pe_op op_add (pv 4) (pe_op op_mul (pcg C__law_roll hr hgd (pa_cons (pv 0) (pa_cons pe_int pa_nil))) (pcg C__law_pick hr hgd (pa_cons (pv 0) (pa_cons (pv 1) pa_nil))))) (pa_cons (pcg C__law_great hr hgd (pa_cons (pv 0) (pa_cons pe_int pa_nil))) pa_nil))) pa_nil))))))
     (pss_one (ps_ret (pv 2))))), ?_⟩
    refine ⟨(show 0 ≤ sizeLine by decide), fun l nl => ?_⟩
    have ld := hd.ne nl
    have k0 : Kd d H (upd H l (.lst [])) := Kd.ex hd (Evl.Ex.new nl)
    refine ⟨.ref d, rfl, d, 5, rfl, by decide, by decide, k0.2, fun n H2 n0 n1 hd2 k2 => ⟨_, _, rfl, rfl, 1 + n, rfl, by omega, by omega, ?_⟩⟩
    have kd2 : Kd d H H2 := k0.trans (Kd.but hd2 k2)
    refine for_range (fun i σ H' => Kd d H H' ∧ ∃ (vs : List V) (rs : List (Int × Int)) (t s : Option V), σ = [some (.ref d), some (.ref p), some (.ref l), t, s] ∧ H' l = some (.lst vs) ∧ F2 (RP K H') vs rs ∧ rs.length = i ∧ ∀ r ∈ rs, (0 < r.1 ∧ r.1 < 10 ^ 28) ∧ 0 < r.2 ∧ r.2 < 10 ^ 32) ⟨kd2, [], [], none, none, rfl, by rw [k2 l ld]; exact upd_same, .nil, rfl, fun r h => nomatch h⟩ ?_ ?_
    · rintro i _ H3 hi ⟨k3, vs, rs, t, s, rfl, hl3, hf3, hn, hr3⟩
      have hp3 := k3.1.sqT pd hp
      have pk : ∀ {σ : L2.St} {H : Hp}, σ[0]? = some (some (.ref d)) → σ[1]? = some (some (.ref p)) → SqT K H p (ns.map V.int) → Ei d (fun y => 0 < y ∧ y < 10 ^ 27) (tCall (spPickS K) [] E0 (tCons (tVar 0) (tCons (tVar 1) tNil))) σ H := fun e1 e2 h => (ei_pick e1 (pick_tup (K := K) e2 h pd) hne (by omega)).mono fun y hy => hb y hy
      refine sq_asgK (d := d) (Pr := fun v => ∃ y, v = .int y ∧ 0 < y ∧ y < 5 * 10 ^ 27) k3.2 (ei_0 (g := fun i j => i + j) (P := fun y => 0 < y ∧ y < 4 * 10 ^ 27) (R := fun y => 0 ≤ y ∧ y < 9) (ei_C (g := fun i j => i * j) (pk rfl rfl hp3) (ei_0 (g := fun i j => i + j) (S := fun y => 1 ≤ y ∧ y ≤ 4) (ei_c (P := fun y => y = 1) rfl) (ei_roll rfl (by decide) (by decide)) (fun a b h1 h2 => by omega)) (fun a b h1 h2 => .inr ⟨by omega, by omega⟩) (fun a b h1 h2 => ?_))
        (ei_rollV rfl ((ei_pick (K := K) rfl (pick_lst (K := K) (xs := [1, 3, 9]) (fun H1 _ => Evl.ea_cons Evl.ev_c (Evl.ea_cons Evl.ev_c (Evl.ea_cons Evl.ev_c Evl.ea_nil))) (by decide)) (by decide) (by decide)).mono fun y hy => ?_) (by decide)) (fun a b h1 h2 => by omega)) ?_
      · obtain ⟨b1, b2⟩ := h2
        have : b = 1 ∨ b = 2 ∨ b = 3 ∨ b = 4 := by omega
        rcases this with rfl | rfl | rfl | rfl <;> omega
      · have : y = 1 ∨ y = 3 ∨ y = 9 := by simpa using hy
        omega
      rintro _ H4 k4 ⟨room, rfl, m0, m1⟩
      have hp4 := k4.1.sqT pd hp3
      have R1 : Ei d (fun y => 0 < y ∧ y < 10 ^ 28) (tOp (rI0 fun i j => V.int (i + j)) (tVar 4) (tOp (rI CMul fun i j => V.int (i * j)) (tCall spRoll [] E0 (tCons (tVar 0) (tCons (tC (V.int 2)) tNil))) (tCall (spPickS K) [] E0 (tCons (tVar 0) (tCons (tVar 1) tNil))))) [some (.ref d), some (.ref p), some (.ref l), some (.int (0 + (i : Int))), some (.int room)] H4 :=
        ei_0 (g := fun i j => i + j) (P := fun y => y = room) (R := fun y => 0 ≤ y ∧ y < 10 ^ 27) (ei_v rfl rfl) (ei_C (g := fun i j => i * j) (ei_roll rfl (by decide) (by decide)) (pk rfl rfl hp4) (fun a b h1 h2 => .inl ⟨by omega, by omega⟩) (fun a b h1 h2 => by
          obtain ⟨b1, b2⟩ := h1
          have : a = 0 ∨ a = 1 := by omega
          rcases this with rfl | rfl <;> omega)) (fun a b h1 h2 => by omega)
      have ndl : ∀ {H' : Hp}, Dice H' d → l ≠ d := fun _ => ld
      have hnl : H l = none := nl
      refine ⟨_, rfl, ?_⟩
      refine ⟨.inl ⟨rfl, vs, SqL.of (k4.1 l _ ld hl3)⟩, ?_⟩
      refine R1 H4 (Kd.refl k4.2) _ fun v H5 k5 ⟨y, e, y0, y1⟩ => ?_
      subst e
      refine ei_great rfl H5 (Kd.refl k5.2) _ fun v H6 k6 ⟨m, e, g0, g1⟩ => ?_
      subst e
      refine ⟨(show 2 ≤ sizeLine by decide), fun u nu => ?_⟩
      have k46 := (k4.trans (k5.trans k6))
      have k47 : Kd d H3 (upd H6 u (.tup [.int y, .int m])) := k46.to (Evl.Ex.new nu)
      have hl7 := k47.1 l _ ld hl3
      refine ⟨l, vs, _, rfl, rfl, hl7, ?_, ?_⟩
      · rw [hf3.len, hn]
        refine Nat.lt_of_lt_of_le (show i < 100 by omega) (show 100 ≤ sizeLine by decide)
      · refine ⟨⟨Kp.mut (k3.trans k47).1 hnl, k47.2.put ld⟩, vs ++ [.ref u], rs ++ [(y, m)], _, _, rfl, upd_same, ?_, by rw [List.length_append, hn]; rfl, fun r hr => ?_⟩
        · exact ((hf3.imp fun x b r => r.kd k3.2 k47).app (.cons ⟨u, rfl, SqT.of upd_same⟩ .nil)).imp fun x b r => RP.upd hl7 r
        · rcases List.mem_append.mp hr with h | h
          · exact hr3 r h
          · rw [List.mem_singleton.mp h]
            exact ⟨⟨y0, y1⟩, by omega, by omega⟩
    · rintro _ H3 ⟨k3, vs, rs, t, s, rfl, hl3, hf3, hn, hr3⟩
      exact ⟨.ref l, rfl, q l vs rs H3 k3 ld nl hl3 hf3 (fun e => by rw [e] at hn; have : (0 : Nat) = (1 + n).toNat := hn; omega) ⟨by omega, hr3⟩⟩
theorem ok_space (B : Bl mg) (D : Df K mg "_law_space" s__law_space ["runs", "size"]) : Cg P w K mg base CX0 1 "_law_space" (spSpace K) := by
  refine cg_of D sc__law_space (fun vs H Q E h => ?_) (fun f cdv A fr s H vs Q E hr hgd h => ?_)
  · obtain ⟨l, s, ts, rs, rfl, _⟩ := h
    rfl
  · obtain ⟨l, sz, ts, rs, rfl, hl, hf, hln, hp, s0, s1, q⟩ := h
    refine ⟨_, (pss_one (ps_ret (pe_callB (cr_sum rfl) (by rfl) B.sum bt_sum (pa_cons (pe_lc (own := [("room", 2), ("number", 3)]) (g := (gTup K 2 (gCons (gName 2) (gCons (gName 3) gNil)))) rfl sc__law_space.nd (pi_list (pv 0)) (blkOk_by (own := [("room", 2), ("number", 3)]) (N := n__law_space) (sc := defScope s__law_space) (by decide +kernel)) (fun _ _ _ _ _ => (pg_tup (n := 2) rfl (pgs_cons (pg_name (i := 2) sc__law_space.nd rfl (by first | exact Or.inl rfl | exact Or.inr rfl)) (pgs_cons (pg_name (i := 3) sc__law_space.nd rfl (by first | exact Or.inl rfl | exact Or.inr rfl)) pgs_nil)))) (fun _ _ _ _ _ => pts_nil) (fun _ _ _ _ _ => (pe_op op_mulW (pv 3) (pe_op op_fdivW (pv 2) (pv 1))))) pa_nil)))), ?_⟩
    refine Evl.s_ret (Evl.ev_is (ev_sum (K := K) (ns := rs.map fun r => r.2 * (r.1 / sz)) (Ck.el_is (el_lcPV (K := K) (fun r => .int (r.2 * (r.1 / sz))) (Evl.ev_var rfl) hl hf (by omega) (fun _ _ => rfl) (fun r hr H1 e1 => ?_)) (by rw [List.map_map]; rfl))) rfl) q
    obtain ⟨p0, p1, p2⟩ := hp r hr
    exact ev_i (g := fun i j => .int (i * j)) (Evl.ev_var rfl) (ev_i (g := fun i j => .int (i / j)) (Evl.ev_var rfl) (Evl.ev_var rfl) (divW s0 s1)) (mul200 p2 (Nat.lt_of_le_of_lt (natAbs_div p0 s0) p1))
theorem ok_unl (B : Bl mg) (D : Df K mg "_law_units" s__law_units ["plain", "size"]) : Cg P w K mg base CX0 1 "_law_units" spUnL := by
  refine cg_of D sc__law_units (fun vs H Q E h => ?_) (fun f cdv A fr s H vs Q E hr hgd h => ?_)
  · obtain ⟨g, s, ps, rfl, _⟩ := h
    rfl
  · obtain ⟨g, sz, ps, rfl, hg, hc, s0, s1, hd, q⟩ := h
    refine ⟨_, (pss_one (ps_ret (pe_op op_fdivW (pe_callB (cr_sum rfl) (by rfl) B.sum bt_sum (pa_cons (pe_lock (pe_lc (own := [("other", 2)]) (g := (gName 2)) rfl sc__law_units.nd (pi_keys (pv 0)) (blkOk_by (own := [("other", 2)]) (N := n__law_units) (sc := defScope s__law_units) (by decide +kernel)) (fun _ _ _ _ _ => (pg_name (i := 2) sc__law_units.nd rfl (by first | exact Or.inl rfl | exact Or.inr rfl))) (fun _ _ _ _ _ => (pts_one (pt_cmpR op_ge (pv 2) (pv 1) (nomark _)))) (fun _ _ _ _ _ => (pe_op op_mulW (pv 2) (pe_dget (hu_of hr) (pv 0) (pv 2) (fun _ _ => rfl)))))) pa_nil)) (pv 1)))), ?_⟩
    have ln := hc.ln
    refine Evl.s_ret (Evl.ev_is (ev_i (g := fun i j => .int (i / j)) (ev_sum (K := K) (ns := (ps.filter fun p => decide (p.1 ≥ sz)).map fun p => p.1 * p.2) (Ck.el_is (el_lcK (fun i => decide ((ps.getD i (0, 0)).1 ≥ sz)) (fun i => .int ((ps.getD i (0, 0)).1 * (ps.getD i (0, 0)).2)) (fun _ => Evl.ev_var rfl) hg (by rw [List.length_map]; omega) (fun _ => rfl) (fun i k x H1 hk _ => ?_) (fun i k x H1 hk hf _ => ?_)) ?_)) (Evl.ev_var rfl) (divW s0 s1)) ?_) q
    · obtain ⟨p, hp, e, rfl, rfl⟩ := kc_at hk
      rw [e]
      exact Evl.et_test (ev_i0 (Evl.ev_var rfl) (Evl.ev_var rfl))
    · obtain ⟨p, hp, e, rfl, rfl⟩ := kc_at hk
      rw [e]
      obtain ⟨s1, s2⟩ := hc.ok p hp
      exact ev_i (g := fun i j => .int (i * j)) (Evl.ev_var rfl) (ev_dget (Evl.ev_var rfl) (Evl.ev_var rfl) (fun H2 e2 => (hf.to e2).dk) ((cnt_mem hc.nd).mp hp)) (mul200 (siz_nat s1) (siz_nat s2))
    · rw [List.length_map]
      exact given_if ps (fun p => decide (p.1 ≥ sz)) fun p => p.1 * p.2
    · rw [units_eq s0 (fun p hp => (siz_int (hc.ok p hp).1).1) hd, Int.mul_ediv_cancel_left _ (by omega)]
theorem ok_bars (B : Bl mg) (D : Df K mg "_law_bars" s__law_bars ["plain", "runs"]) (C__law_units : Cg P w K mg base CX0 1 "_law_units" spUnL) (C__law_space : Cg P w K mg base CX0 1 "_law_space" (spSpace K)) : Cg P w K mg base CX0 2 "_law_bars" (spBars K) := by
  refine cg_of D sc__law_bars (fun vs H Q E h => ?_) (fun f cdv A fr s H vs Q E hr hgd h => ?_)
  · obtain ⟨g, l, ps, qs, rs, vs, rfl, _⟩ := h
    rfl
  · obtain ⟨g, l, ps, qs, rs, vs, rfl, hg, ct, hperm, lc, hl, hf, hln, hb, q⟩ := h
    refine ⟨_, (pss_one (ps_ret (pe_lc (own := [("size", 2)]) (g := (gName 2)) rfl sc__law_bars.nd (pi_list (pe_callB (call_sortedDI rfl) (by rfl) B.sorted bt_sorted (pa_cons (pv 0) pa_nil))) (blkOk_by (own := [("size", 2)]) (N := n__law_bars) (sc := defScope s__law_bars) (by decide +kernel)) (fun _ _ _ _ _ => (pg_name (i := 2) sc__law_bars.nd rfl (by first | exact Or.inl rfl | exact Or.inr rfl))) (fun _ _ _ _ _ => (pts_one (pt_cmpR op_gt (pcg C__law_units hr hgd (pa_cons (pv 0) (pa_cons (pv 2) pa_nil))) (pcg C__law_space hr hgd (pa_cons (pv 1) (pa_cons (pv 2) pa_nil))) (nomark _)))) (fun _ _ _ _ _ => (pv 2))))), ?_⟩
    have ln := ct.ln
    have srt_q : srt ps = qs := asc_unique (srt_asc ct.nd) lc.asc ((srt_perm ps).trans hperm.symm)
    refine el_lcNL (K := K) (ns := qs.map Prod.fst) (fun s => decide (unt rs s < unt qs s)) (fun s => .int s) (Ck.el_is (el_sortD (Evl.ev_var (i := 0) rfl) (.inl hg) ct.nd (by omega)) (by rw [srt_q])) (by rw [List.length_map, hperm.length_eq]; omega) (fun _ => rfl) (fun s hs H1 e1 => ?_) (fun s hs _ H1 e1 => Evl.ev_var rfl) H (Evl.Ex.refl H) _ (fun t H1 _ e1 ht => q t H1 e1 ht)
    obtain ⟨s0, s1, _⟩ := cts_pos lc.ct s hs
    have u := unl_v (e1 _ _ hg) ct s0 s1 (fun x hx lt => lc.dv s hs x (hperm.mem_iff.mpr hx) lt)
    rw [unt_perm hperm.symm] at u
    exact Evl.et_test (ev_i0 (g := fun i j => .bl (decide (i > j))) (Evl.ev_call (Evl.ea_cons (Evl.ev_var rfl) (Evl.ea_cons (Evl.ev_var rfl) Evl.ea_nil)) u) (Evl.ev_call (vs := [.ref l, .int s]) (Evl.ea_cons (Evl.ev_var rfl) (Evl.ea_cons (Evl.ev_var rfl) Evl.ea_nil)) (fun H2 e2 Q q E => ⟨l, s, vs, rs, rfl, Evl.ex_l (e1.trans e2) hl, hf.imp fun x b r => r.ex (e1.trans e2), hln, hb, s0, s1, q⟩)))
theorem ok_madeG {CS : Addr} (B : Bl mg) (D : Df K mg "_law_made_store" s__law_made_store ["runs"]) (M_Store : Mkc P w K mg base 4 "Store" CS (spStoI K CS)) : Cg P w K mg base CX0 6 "_law_made_store" (spMadeG K CS) := by
  refine cg_of D sc__law_made_store (fun vs H Q E h => ?_) (fun f cdv A fr s H vs Q E hr hgd h => ?_)
  · obtain ⟨l, vs, rs, rfl, _⟩ := h
    rfl
  · obtain ⟨l, vs, rs, rfl, hl, hf, hln, hrn, q⟩ := h
    refine ⟨_, (pss_cons (ps_set (i := 1) sc__law_made_store.nd rfl (by first | exact Or.inl rfl | exact Or.inr rfl) (pe_op op_cat (pe_callTy call_list_of (by rfl) B.list bt_list (pa_cons (pv 0) pa_nil)) (pe_op op_rep (pe_lst (pa_cons pe_non pa_nil)) pe_int)))
    (pss_cons (ps_asg (pe_slice sl_list (pv 1) po_none (po_some pe_int)) (pg_lst (n := 8) rfl (pgs_cons (pg_name (i := 2) sc__law_made_store.nd rfl (by first | exact Or.inl rfl | exact Or.inr rfl)) (pgs_cons (pg_name (i := 3) sc__law_made_store.nd rfl (by first | exact Or.inl rfl | exact Or.inr rfl)) (pgs_cons (pg_name (i := 4) sc__law_made_store.nd rfl (by first | exact Or.inl rfl | exact Or.inr rfl)) (pgs_cons (pg_name (i := 5) sc__law_made_store.nd rfl (by first | exact Or.inl rfl | exact Or.inr rfl)) (pgs_cons (pg_name (i := 6) sc__law_made_store.nd rfl (by first | exact Or.inl rfl | exact Or.inr rfl)) (pgs_cons (pg_name (i := 7) sc__law_made_store.nd rfl (by first | exact Or.inl rfl | exact Or.inr rfl)) (pgs_cons (pg_name (i := 8) sc__law_made_store.nd rfl (by first | exact Or.inl rfl | exact Or.inr rfl)) (pgs_cons (pg_name (i := 9) sc__law_made_store.nd rfl (by first | exact Or.inl rfl | exact Or.inr rfl)) pgs_nil))))))))))
     (pss_cons (ps_if (pt_cmpR (op_eqD hr.units) (pv 0) (pe_lst pa_nil) (nomark _)) (pss_one (ps_ret (pmk0 M_Store hr))) pss_nil)
      (pss_cons (ps_if (pt_cmpR op_eq (pe_callB call_len_seq (by rfl) B.len bt_len (pa_cons (pv 0) pa_nil)) pe_int (nomark _)) (pss_one (ps_ret (pmk M_Store hr (pa_cons (pv 2) pa_nil)))) pss_nil)
       (pss_cons (ps_if (pt_cmpR op_eq (pe_callB call_len_seq (by rfl) B.len bt_len (pa_cons (pv 0) pa_nil)) pe_int (nomark _)) (pss_one (ps_ret (pmk M_Store hr (pa_cons (pv 2) (pa_cons (pv 3) pa_nil))))) pss_nil)
        (pss_cons (ps_if (pt_cmpR op_eq (pe_callB call_len_seq (by rfl) B.len bt_len (pa_cons (pv 0) pa_nil)) pe_int (nomark _)) (pss_one (ps_ret (pmk M_Store hr (pa_cons (pv 2) (pa_cons (pv 3) (pa_cons (pv 4) pa_nil)))))) pss_nil)
         (pss_cons (ps_if (pt_cmpR op_eq (pe_callB call_len_seq (by rfl) B.len bt_len (pa_cons (pv 0) pa_nil)) pe_int (nomark _)) (pss_one (ps_ret (pmk M_Store hr (pa_cons (pv 2) (pa_cons (pv 3) (pa_cons (pv 4) (pa_cons (pv 5) pa_nil))))))) pss_nil)
          (pss_cons (ps_if (pt_cmpR op_eq (pe_callB call_len_seq (by rfl) B.len bt_len (pa_cons (pv 0) pa_nil)) pe_int (nomark _)) (pss_one (ps_ret (pmk M_Store hr (pa_cons (pv 2) (pa_cons (pv 3) (pa_cons (pv 4) (pa_cons (pv 5) (pa_cons (pv 6) pa_nil)))))))) pss_nil)
           (pss_cons (ps_if (pt_cmpR op_eq (pe_callB call_len_seq (by rfl) B.len bt_len (pa_cons (pv 0) pa_nil)) pe_int (nomark _)) (pss_one (ps_ret (pmk M_Store hr (pa_cons (pv 2) (pa_cons (pv 3) (pa_cons (pv 4) (pa_cons (pv 5) (pa_cons (pv 6) (pa_cons (pv 7) pa_nil))))))))) pss_nil)
            (pss_cons (ps_if (pt_cmpR op_eq (pe_callB call_len_seq (by rfl) B.len bt_len (pa_cons (pv 0) pa_nil)) pe_int (nomark _)) (pss_one (ps_ret (pmk M_Store hr (pa_cons (pv 2) (pa_cons (pv 3) (pa_cons (pv 4) (pa_cons (pv 5) (pa_cons (pv 6) (pa_cons (pv 7) (pa_cons (pv 8) pa_nil)))))))))) pss_nil)
             (pss_one (ps_ret (pmk M_Store hr (pa_cons (pv 2) (pa_cons (pv 3) (pa_cons (pv 4) (pa_cons (pv 5) (pa_cons (pv 6) (pa_cons (pv 7) (pa_cons (pv 8) (pa_cons (pv 9) pa_nil))))))))))))))))))))), ?_⟩
    have vl := hf.len
    refine Evl.q_asgL (xs := vs ++ List.replicate 8 V.non) (el_catL (el_copy (K := K) (Evl.ev_var rfl) hl) (Ck.el_is (el_rep (Evl.el_lst (Evl.ea_cons Evl.ev_c Evl.ea_nil) (by decide)) (n := 8) Evl.ev_c (by decide) (by decide) (by decide)) (ys := List.replicate 8 V.non) rfl) (by rw [List.length_replicate]; omega)) (fun r H1 nr e1 hr1 => ?_)
    have E1 := e1
    have emp : ∀ H4, Evl.Ex H H4 → ∀ σ : L2.St, σ[0]? = some (some (.ref l)) → Evl.EvT (tTest (tOp (rEqD K) (tVar 0) (tLst tNil))) σ H4 (decide (rs = [])) := fun H4 e4 σ hv => Evl.et_test (Evl.ev_is (ev_eqD (K := K) (ed_of (Evl.ev_var hv) (.lst (Evl.ex_l e4 hl) (dpa_rns (hf.imp fun x b r => r.ex e4)))) (e := .list []) (ed_lst ed_nil) (shaped_lrs rs) (by decide +kernel)) (by
      have z := eqv_prs rs []
      simp only [List.map_nil] at z
      simp only [PyData.eqv, z]))
    have len : ∀ H4, Evl.Ex H H4 → ∀ (σ : L2.St) (k : Nat), σ[0]? = some (some (.ref l)) → Evl.EvT (tTest (tOp rEq (tCB (fun xs H Q => ∃ p ys, xs = [V.ref p] ∧ (SqL K H p ys ∨ SqT K H p ys) ∧ Q (.int ys.length) H) (tCons (tVar 0) tNil)) (tC (.int (k : Int))))) σ H4 (decide (vs.length = k)) := fun H4 e4 σ k hv => Evl.et_test (Evl.ev_is (ev_eq (ev_lenL (Evl.ev_var hv) (Evl.ex_l e4 hl)) Evl.ev_c rfl) (congrArg V.bl (decide_eq_decide.mpr ⟨fun h => Int.ofNat.inj (V.int.inj h), fun h => by rw [h]⟩)))
    clear e1
    rcases vs with _ | ⟨v1, _ | ⟨v2, _ | ⟨v3, _ | ⟨v4, _ | ⟨v5, _ | ⟨v6, _ | ⟨v7, _ | ⟨v8, _ | ⟨v9, vs⟩⟩⟩⟩⟩⟩⟩⟩⟩
    · refine Evl.el_sl (K := K) (Evl.ev_var rfl) Evl.eo_none (Evl.eo_some Evl.ev_c) (SqL.of hr1) H1 (Evl.Ex.refl H1) _ fun p H2 n2 e2 hp => ?_
      have hp : H2 p = some (.lst [V.non, V.non, V.non, V.non, V.non, V.non, V.non, V.non]) := hp
      refine ⟨p, _, rfl, SqL.of hp, rfl, .non, _, rfl, .non, _, rfl, .non, _, rfl, .non, _, rfl, .non, _, rfl, .non, _, rfl, .non, _, rfl, .non, _, rfl, rfl, ?_⟩
      have X0 := E1.trans e2
      obtain rfl : rs = [] := List.eq_nil_of_length_eq_zero vl.symm
      refine Evl.q_when (b := true) (emp _ X0 _ rfl) (fun _ G0 g0 => ?_) (fun z => nomatch z)
      exact mk_sto0 (K := K) fun a H9 e9 hs => q a H9 (X0.trans (g0.trans e9)) hs
    · refine Evl.el_sl (K := K) (Evl.ev_var rfl) Evl.eo_none (Evl.eo_some Evl.ev_c) (SqL.of hr1) H1 (Evl.Ex.refl H1) _ fun p H2 n2 e2 hp => ?_
      have hp : H2 p = some (.lst [v1, V.non, V.non, V.non, V.non, V.non, V.non, V.non]) := hp
      refine ⟨p, _, rfl, SqL.of hp, rfl, v1, _, rfl, .non, _, rfl, .non, _, rfl, .non, _, rfl, .non, _, rfl, .non, _, rfl, .non, _, rfl, .non, _, rfl, rfl, ?_⟩
      have X0 := E1.trans e2
      refine Evl.q_when (b := false) (Evl.et_is (emp _ X0 _ rfl) (decide_eq_false fun z => by rw [z] at vl; cases vl)) (fun z => nomatch z) (fun _ G0 g0 => ?_)
      have X1 := X0.trans g0
      refine Evl.q_when (b := true) (len _ X1 _ 1 rfl) (fun _ G1 g1 => ?_) (fun z => nomatch z)
      have X2 := X1.trans g1
      exact mk_stoR (K := K) (Evl.ea_cons (Evl.ev_var rfl) Evl.ea_nil) (hf.imp fun x b r => r.ex X2) hrn fun a H9 e9 hs => q a H9 (X2.trans e9) hs
    · refine Evl.el_sl (K := K) (Evl.ev_var rfl) Evl.eo_none (Evl.eo_some Evl.ev_c) (SqL.of hr1) H1 (Evl.Ex.refl H1) _ fun p H2 n2 e2 hp => ?_
      have hp : H2 p = some (.lst [v1, v2, V.non, V.non, V.non, V.non, V.non, V.non]) := hp
      refine ⟨p, _, rfl, SqL.of hp, rfl, v1, _, rfl, v2, _, rfl, .non, _, rfl, .non, _, rfl, .non, _, rfl, .non, _, rfl, .non, _, rfl, .non, _, rfl, rfl, ?_⟩
      have X0 := E1.trans e2
      refine Evl.q_when (b := false) (Evl.et_is (emp _ X0 _ rfl) (decide_eq_false fun z => by rw [z] at vl; cases vl)) (fun z => nomatch z) (fun _ G0 g0 => ?_)
      have X1 := X0.trans g0
      refine Evl.q_when (b := false) (len _ X1 _ 1 rfl) (fun z => nomatch z) (fun _ G1 g1 => ?_)
      have X2 := X1.trans g1
      refine Evl.q_when (b := true) (len _ X2 _ 2 rfl) (fun _ G2 g2 => ?_) (fun z => nomatch z)
      have X3 := X2.trans g2
      exact mk_stoR (K := K) (Evl.ea_cons (Evl.ev_var rfl) (Evl.ea_cons (Evl.ev_var rfl) Evl.ea_nil)) (hf.imp fun x b r => r.ex X3) hrn fun a H9 e9 hs => q a H9 (X3.trans e9) hs
    · refine Evl.el_sl (K := K) (Evl.ev_var rfl) Evl.eo_none (Evl.eo_some Evl.ev_c) (SqL.of hr1) H1 (Evl.Ex.refl H1) _ fun p H2 n2 e2 hp => ?_
      have hp : H2 p = some (.lst [v1, v2, v3, V.non, V.non, V.non, V.non, V.non]) := hp
      refine ⟨p, _, rfl, SqL.of hp, rfl, v1, _, rfl, v2, _, rfl, v3, _, rfl, .non, _, rfl, .non, _, rfl, .non, _, rfl, .non, _, rfl, .non, _, rfl, rfl, ?_⟩
      have X0 := E1.trans e2
      refine Evl.q_when (b := false) (Evl.et_is (emp _ X0 _ rfl) (decide_eq_false fun z => by rw [z] at vl; cases vl)) (fun z => nomatch z) (fun _ G0 g0 => ?_)
      have X1 := X0.trans g0
      refine Evl.q_when (b := false) (len _ X1 _ 1 rfl) (fun z => nomatch z) (fun _ G1 g1 => ?_)
      have X2 := X1.trans g1
      refine Evl.q_when (b := false) (len _ X2 _ 2 rfl) (fun z => nomatch z) (fun _ G2 g2 => ?_)
      have X3 := X2.trans g2
      refine Evl.q_when (b := true) (len _ X3 _ 3 rfl) (fun _ G3 g3 => ?_) (fun z => nomatch z)
      have X4 := X3.trans g3
      exact mk_stoR (K := K) (Evl.ea_cons (Evl.ev_var rfl) (Evl.ea_cons (Evl.ev_var rfl) (Evl.ea_cons (Evl.ev_var rfl) Evl.ea_nil))) (hf.imp fun x b r => r.ex X4) hrn fun a H9 e9 hs => q a H9 (X4.trans e9) hs
    · refine Evl.el_sl (K := K) (Evl.ev_var rfl) Evl.eo_none (Evl.eo_some Evl.ev_c) (SqL.of hr1) H1 (Evl.Ex.refl H1) _ fun p H2 n2 e2 hp => ?_
      have hp : H2 p = some (.lst [v1, v2, v3, v4, V.non, V.non, V.non, V.non]) := hp
      refine ⟨p, _, rfl, SqL.of hp, rfl, v1, _, rfl, v2, _, rfl, v3, _, rfl, v4, _, rfl, .non, _, rfl, .non, _, rfl, .non, _, rfl, .non, _, rfl, rfl, ?_⟩
      have X0 := E1.trans e2
      refine Evl.q_when (b := false) (Evl.et_is (emp _ X0 _ rfl) (decide_eq_false fun z => by rw [z] at vl; cases vl)) (fun z => nomatch z) (fun _ G0 g0 => ?_)
      have X1 := X0.trans g0
      refine Evl.q_when (b := false) (len _ X1 _ 1 rfl) (fun z => nomatch z) (fun _ G1 g1 => ?_)
      have X2 := X1.trans g1
      refine Evl.q_when (b := false) (len _ X2 _ 2 rfl) (fun z => nomatch z) (fun _ G2 g2 => ?_)
      have X3 := X2.trans g2
      refine Evl.q_when (b := false) (len _ X3 _ 3 rfl) (fun z => nomatch z) (fun _ G3 g3 => ?_)
      have X4 := X3.trans g3
      refine Evl.q_when (b := true) (len _ X4 _ 4 rfl) (fun _ G4 g4 => ?_) (fun z => nomatch z)
      have X5 := X4.trans g4
      exact mk_stoR (K := K) (Evl.ea_cons (Evl.ev_var rfl) (Evl.ea_cons (Evl.ev_var rfl) (Evl.ea_cons (Evl.ev_var rfl) (Evl.ea_cons (Evl.ev_var rfl) Evl.ea_nil)))) (hf.imp fun x b r => r.ex X5) hrn fun a H9 e9 hs => q a H9 (X5.trans e9) hs
    · refine Evl.el_sl (K := K) (Evl.ev_var rfl) Evl.eo_none (Evl.eo_some Evl.ev_c) (SqL.of hr1) H1 (Evl.Ex.refl H1) _ fun p H2 n2 e2 hp => ?_
      have hp : H2 p = some (.lst [v1, v2, v3, v4, v5, V.non, V.non, V.non]) := hp
      refine ⟨p, _, rfl, SqL.of hp, rfl, v1, _, rfl, v2, _, rfl, v3, _, rfl, v4, _, rfl, v5, _, rfl, .non, _, rfl, .non, _, rfl, .non, _, rfl, rfl, ?_⟩
      have X0 := E1.trans e2
      refine Evl.q_when (b := false) (Evl.et_is (emp _ X0 _ rfl) (decide_eq_false fun z => by rw [z] at vl; cases vl)) (fun z => nomatch z) (fun _ G0 g0 => ?_)
      have X1 := X0.trans g0
      refine Evl.q_when (b := false) (len _ X1 _ 1 rfl) (fun z => nomatch z) (fun _ G1 g1 => ?_)
      have X2 := X1.trans g1
      refine Evl.q_when (b := false) (len _ X2 _ 2 rfl) (fun z => nomatch z) (fun _ G2 g2 => ?_)
      have X3 := X2.trans g2
      refine Evl.q_when (b := false) (len _ X3 _ 3 rfl) (fun z => nomatch z) (fun _ G3 g3 => ?_)
      have X4 := X3.trans g3
      refine Evl.q_when (b := false) (len _ X4 _ 4 rfl) (fun z => nomatch z) (fun _ G4 g4 => ?_)
      have X5 := X4.trans g4
      refine Evl.q_when (b := true) (len _ X5 _ 5 rfl) (fun _ G5 g5 => ?_) (fun z => nomatch z)
      have X6 := X5.trans g5
      exact mk_stoR (K := K) (Evl.ea_cons (Evl.ev_var rfl) (Evl.ea_cons (Evl.ev_var rfl) (Evl.ea_cons (Evl.ev_var rfl) (Evl.ea_cons (Evl.ev_var rfl) (Evl.ea_cons (Evl.ev_var rfl) Evl.ea_nil))))) (hf.imp fun x b r => r.ex X6) hrn fun a H9 e9 hs => q a H9 (X6.trans e9) hs
    · refine Evl.el_sl (K := K) (Evl.ev_var rfl) Evl.eo_none (Evl.eo_some Evl.ev_c) (SqL.of hr1) H1 (Evl.Ex.refl H1) _ fun p H2 n2 e2 hp => ?_
      have hp : H2 p = some (.lst [v1, v2, v3, v4, v5, v6, V.non, V.non]) := hp
      refine ⟨p, _, rfl, SqL.of hp, rfl, v1, _, rfl, v2, _, rfl, v3, _, rfl, v4, _, rfl, v5, _, rfl, v6, _, rfl, .non, _, rfl, .non, _, rfl, rfl, ?_⟩
      have X0 := E1.trans e2
      refine Evl.q_when (b := false) (Evl.et_is (emp _ X0 _ rfl) (decide_eq_false fun z => by rw [z] at vl; cases vl)) (fun z => nomatch z) (fun _ G0 g0 => ?_)
      have X1 := X0.trans g0
      refine Evl.q_when (b := false) (len _ X1 _ 1 rfl) (fun z => nomatch z) (fun _ G1 g1 => ?_)
      have X2 := X1.trans g1
      refine Evl.q_when (b := false) (len _ X2 _ 2 rfl) (fun z => nomatch z) (fun _ G2 g2 => ?_)
      have X3 := X2.trans g2
      refine Evl.q_when (b := false) (len _ X3 _ 3 rfl) (fun z => nomatch z) (fun _ G3 g3 => ?_)
      have X4 := X3.trans g3
      refine Evl.q_when (b := false) (len _ X4 _ 4 rfl) (fun z => nomatch z) (fun _ G4 g4 => ?_)
      have X5 := X4.trans g4
      refine Evl.q_when (b := false) (len _ X5 _ 5 rfl) (fun z => nomatch z) (fun _ G5 g5 => ?_)
      have X6 := X5.trans g5
      refine Evl.q_when (b := true) (len _ X6 _ 6 rfl) (fun _ G6 g6 => ?_) (fun z => nomatch z)
      have X7 := X6.trans g6
      exact mk_stoR (K := K) (Evl.ea_cons (Evl.ev_var rfl) (Evl.ea_cons (Evl.ev_var rfl) (Evl.ea_cons (Evl.ev_var rfl) (Evl.ea_cons (Evl.ev_var rfl) (Evl.ea_cons (Evl.ev_var rfl) (Evl.ea_cons (Evl.ev_var rfl) Evl.ea_nil)))))) (hf.imp fun x b r => r.ex X7) hrn fun a H9 e9 hs => q a H9 (X7.trans e9) hs
    · refine Evl.el_sl (K := K) (Evl.ev_var rfl) Evl.eo_none (Evl.eo_some Evl.ev_c) (SqL.of hr1) H1 (Evl.Ex.refl H1) _ fun p H2 n2 e2 hp => ?_
      have hp : H2 p = some (.lst [v1, v2, v3, v4, v5, v6, v7, V.non]) := hp
      refine ⟨p, _, rfl, SqL.of hp, rfl, v1, _, rfl, v2, _, rfl, v3, _, rfl, v4, _, rfl, v5, _, rfl, v6, _, rfl, v7, _, rfl, .non, _, rfl, rfl, ?_⟩
      have X0 := E1.trans e2
      refine Evl.q_when (b := false) (Evl.et_is (emp _ X0 _ rfl) (decide_eq_false fun z => by rw [z] at vl; cases vl)) (fun z => nomatch z) (fun _ G0 g0 => ?_)
      have X1 := X0.trans g0
      refine Evl.q_when (b := false) (len _ X1 _ 1 rfl) (fun z => nomatch z) (fun _ G1 g1 => ?_)
      have X2 := X1.trans g1
      refine Evl.q_when (b := false) (len _ X2 _ 2 rfl) (fun z => nomatch z) (fun _ G2 g2 => ?_)
      have X3 := X2.trans g2
      refine Evl.q_when (b := false) (len _ X3 _ 3 rfl) (fun z => nomatch z) (fun _ G3 g3 => ?_)
      have X4 := X3.trans g3
      refine Evl.q_when (b := false) (len _ X4 _ 4 rfl) (fun z => nomatch z) (fun _ G4 g4 => ?_)
      have X5 := X4.trans g4
      refine Evl.q_when (b := false) (len _ X5 _ 5 rfl) (fun z => nomatch z) (fun _ G5 g5 => ?_)
      have X6 := X5.trans g5
      refine Evl.q_when (b := false) (len _ X6 _ 6 rfl) (fun z => nomatch z) (fun _ G6 g6 => ?_)
      have X7 := X6.trans g6
      refine Evl.q_when (b := true) (len _ X7 _ 7 rfl) (fun _ G7 g7 => ?_) (fun z => nomatch z)
      have X8 := X7.trans g7
      exact mk_stoR (K := K) (Evl.ea_cons (Evl.ev_var rfl) (Evl.ea_cons (Evl.ev_var rfl) (Evl.ea_cons (Evl.ev_var rfl) (Evl.ea_cons (Evl.ev_var rfl) (Evl.ea_cons (Evl.ev_var rfl) (Evl.ea_cons (Evl.ev_var rfl) (Evl.ea_cons (Evl.ev_var rfl) Evl.ea_nil))))))) (hf.imp fun x b r => r.ex X8) hrn fun a H9 e9 hs => q a H9 (X8.trans e9) hs
    · refine Evl.el_sl (K := K) (Evl.ev_var rfl) Evl.eo_none (Evl.eo_some Evl.ev_c) (SqL.of hr1) H1 (Evl.Ex.refl H1) _ fun p H2 n2 e2 hp => ?_
      have hp : H2 p = some (.lst [v1, v2, v3, v4, v5, v6, v7, v8]) := hp
      refine ⟨p, _, rfl, SqL.of hp, rfl, v1, _, rfl, v2, _, rfl, v3, _, rfl, v4, _, rfl, v5, _, rfl, v6, _, rfl, v7, _, rfl, v8, _, rfl, rfl, ?_⟩
      have X0 := E1.trans e2
      refine Evl.q_when (b := false) (Evl.et_is (emp _ X0 _ rfl) (decide_eq_false fun z => by rw [z] at vl; cases vl)) (fun z => nomatch z) (fun _ G0 g0 => ?_)
      have X1 := X0.trans g0
      refine Evl.q_when (b := false) (len _ X1 _ 1 rfl) (fun z => nomatch z) (fun _ G1 g1 => ?_)
      have X2 := X1.trans g1
      refine Evl.q_when (b := false) (len _ X2 _ 2 rfl) (fun z => nomatch z) (fun _ G2 g2 => ?_)
      have X3 := X2.trans g2
      refine Evl.q_when (b := false) (len _ X3 _ 3 rfl) (fun z => nomatch z) (fun _ G3 g3 => ?_)
      have X4 := X3.trans g3
      refine Evl.q_when (b := false) (len _ X4 _ 4 rfl) (fun z => nomatch z) (fun _ G4 g4 => ?_)
      have X5 := X4.trans g4
      refine Evl.q_when (b := false) (len _ X5 _ 5 rfl) (fun z => nomatch z) (fun _ G5 g5 => ?_)
      have X6 := X5.trans g5
      refine Evl.q_when (b := false) (len _ X6 _ 6 rfl) (fun z => nomatch z) (fun _ G6 g6 => ?_)
      have X7 := X6.trans g6
      refine Evl.q_when (b := false) (len _ X7 _ 7 rfl) (fun z => nomatch z) (fun _ G7 g7 => ?_)
      have X8 := X7.trans g7
      exact mk_stoR (K := K) (Evl.ea_cons (Evl.ev_var rfl) (Evl.ea_cons (Evl.ev_var rfl) (Evl.ea_cons (Evl.ev_var rfl) (Evl.ea_cons (Evl.ev_var rfl) (Evl.ea_cons (Evl.ev_var rfl) (Evl.ea_cons (Evl.ev_var rfl) (Evl.ea_cons (Evl.ev_var rfl) (Evl.ea_cons (Evl.ev_var rfl) Evl.ea_nil)))))))) (hf.imp fun x b r => r.ex X8) hrn fun a H9 e9 hs => q a H9 (X8.trans e9) hs
    · simp only [List.length_cons] at vl
      omega
theorem ok_lip (B : Bl mg) (D : Df K mg "_law_is_part" s__law_is_part ["part", "plain"]) : Cg P w K mg base CX0 1 "_law_is_part" spLip := by
  refine cg_of D sc__law_is_part (fun vs H Q E h => ?_) (fun f cdv A fr s H vs Q E hr hgd h => ?_)
  · obtain ⟨d, g, qs, ps, rfl, _⟩ := h
    rfl
  · obtain ⟨d, g, qs, ps, rfl, hd, hg, hc, q⟩ := h
    refine ⟨_, (pss_one (ps_ret (pe_cmpR (op_eqD hr.units) (pe_lock (pe_lc (own := [("size", 2)]) (g := (gName 2)) rfl sc__law_is_part.nd (pi_keys (pv 0)) (blkOk_by (own := [("size", 2)]) (N := n__law_is_part) (sc := defScope s__law_is_part) (by decide +kernel)) (fun _ _ _ _ _ => (pg_name (i := 2) sc__law_is_part.nd rfl (by first | exact Or.inl rfl | exact Or.inr rfl))) (fun _ _ _ _ _ => (pts_one (pt_cmpR op_gt (pe_dget (hu_of hr) (pv 0) (pv 2) (fun _ _ => rfl)) (pe_dget2 (hu_of hr) (pv 1) (pv 2) pe_int ⟨rfl, rfl, rfl, rfl⟩) (nomark _)))) (fun _ _ _ _ _ => (pv 2)))) (pe_lst pa_nil) (nomark _)))), ?_⟩
    have ln := hc.ln
    refine Evl.s_ret (Evl.ev_is (ev_eqD (K := K) (d := .list (((qs.filter fun p => decide ((cnt ps p.1).getD 0 < p.2)).map Prod.fst).map PyData.int)) (e := .list [])
      (ed_ofL (xs := ((qs.filter fun p => decide ((cnt ps p.1).getD 0 < p.2)).map Prod.fst).map V.int) (Ck.el_is (el_lcK (fun i => decide ((cnt ps (qs.getD i (0, 0)).1).getD 0 < (qs.getD i (0, 0)).2)) (fun i => .int (qs.getD i (0, 0)).1) (fun _ => Evl.ev_var rfl) hd (by rw [List.length_map]; omega) (fun _ => rfl) (fun i k x H2 hk hf => ?_) (fun i k x H2 hk hf _ => ?_)) (by rw [List.length_map]; exact given_if qs (fun p => decide ((cnt ps p.1).getD 0 < p.2)) Prod.fst)) (fun _ _ => dpa_lints _))
      (ed_lst ed_nil) (shaped_lints _) (shaped_lints [])) (by rw [← part_bad]; exact congrArg V.bl (eqv_lints _ []))) q
    · obtain ⟨p, hp, e, rfl, rfl⟩ := kc_at hk
      rw [e]
      refine Evl.et_test (ev_i0 (g := fun i j => .bl (decide (j < i))) (ev_dget (Evl.ev_var rfl) (Evl.ev_var rfl) (fun H3 e3 => (hf.to e3).dk) ((cnt_mem hc.nd).mp hp)) (ev_dget2 (c := 0) (Evl.ev_var rfl) (Evl.ev_var rfl) Evl.ev_c ?_))
      by_cases z : g = d
      · subst z
        have e2 : qs.map kc = ps.map kc := by
          rw [hd] at hg
          exact HO.dK.inj (Option.some.inj hg)
        have z2 := hf.dk
        rw [e2] at z2
        exact z2
      · exact .inl (hf.1 g _ z hg)
    · obtain ⟨p, hp, e, rfl, rfl⟩ := kc_at hk
      rw [e]
      exact Evl.ev_var rfl
theorem eqv_runs (rs ss : List (Int × Int)) : PyData.eqv (.list (rs.map prD)) (.list (ss.map prD)) = decide (rs = ss) := by
  have z := eqv_rns rs ss
  unfold rnD at z
  rw [← z]
  rfl
theorem shaped_runs (rs : List (Int × Int)) : SeqAt.shaped (.list (rs.map prD)) = true := by
  have z := shaped_rns rs
  unfold rnD at z
  exact z
theorem ed_runs {te : TE} {σ : L2.St} {H : Hp} {l : Addr} {xs : List V} {rs : List (Int × Int)} (h : Evl.Ev te σ H (.ref l)) (hl : SqL K H l xs) (hf : F2 (RP K H) xs rs) : Ed K te σ H (.list (rs.map prD)) := ed_of h (.lst hl (dpa_rns hf))
def spMrg (K : PySem.W.Frag) : Sp := fun vs H Q _ => ∃ l xs rs, vs = [.ref l] ∧ SqL K H l xs ∧ F2 (RP K H) xs rs ∧ rs.length ≤ 1000 ∧ ∀ p ys H', H p = none → Evl.Ex H H' → H' p = some (.lst ys) → F2 (RP K H') ys (jr rs) → Q (.ref p) H'
theorem ok_mrg (B : Bl mg) (D : Df K mg "_law_merged" s__law_merged ["runs"]) : Cg P w K mg base CX0 1 "_law_merged" (spMrg K) := by
  refine cg_of D sc__law_merged (fun vs H Q E h => ?_) (fun f cdv A fr s H vs Q E hr hgd h => ?_)
  · obtain ⟨l, xs, rs, rfl, _⟩ := h
    rfl
  · obtain ⟨t, xs, rs, rfl, ht, hf, hl, q⟩ := h
    refine ⟨_, (pss_cons (ps_set (i := 1) sc__law_merged.nd rfl (by first | exact Or.inl rfl | exact Or.inr rfl) (pe_lst pa_nil))
    (pss_cons (ps_for PassesOwn.never rfl (pi_list (pv 0)) (pg_tup (n := 2) rfl (pgs_cons (pg_name (i := 2) sc__law_merged.nd rfl (by first | exact Or.inl rfl | exact Or.inr rfl)) (pgs_cons (pg_name (i := 3) sc__law_merged.nd rfl (by first | exact Or.inl rfl | exact Or.inr rfl)) pgs_nil))) (pss_one (ps_if (pw_and (pt_cmpR (op_neD hr.units) (pv 1) (pe_lst pa_nil) (nomark _)) (pw_and1 (pt_cmpR op_eq (pe_ix ix_tup (pe_ix ix_list (pv 1) (pe_un un_neg pe_int) (fun _ _ => rfl)) pe_int (fun _ _ => rfl)) (pv 2) (nomark _)))).pt (pss_one (ps_asg (pe_tup (pa_cons (pv 2) (pa_cons (pe_op op_add (pe_ix ix_tup (pe_ix ix_list (pv 1) (pe_un un_neg pe_int) (fun _ _ => rfl)) pe_int (fun _ _ => rfl)) (pv 3)) pa_nil))) (pg_sub (pv 1) (pe_un un_neg pe_int) set_list))) (pss_one (ps_expr (pe_bm PySem.F.plainAttrs_list PySem.F.slot_list_append PySem.F.type_list_append mt_append (pv 1) (pa_cons (pe_tup (pa_cons (pv 2) (pa_cons (pv 3) pa_nil))) pa_nil)))))))
     (pss_one (ps_ret (pv 1))))), ?_⟩
    refine Evl.q_asgL (Evl.el_lst Evl.ea_nil (by decide)) (fun l H1 nl E1 h1 => ?_)
    refine q_fall (fun σ' H' => Evl.Ex H H' ∧ ∃ (vs : List V) (x2 x3 : Option V), σ' = [some (.ref t), some (.ref l), x2, x3] ∧ H' l = some (.lst vs) ∧ F2 (RP K H') vs (jr rs)) ?_ (fun hz => ?_)
    · rintro σ' H' ⟨e', vs, x2, x3, rfl, hl', hf'⟩
      exact ⟨_, rfl, q l vs H' nl e' hl' hf'⟩
    refine Evl.s_forL (K := K) (xs := xs) (Evl.ev_var rfl) (Evl.ex_l E1 ht) (fun i σ' H' => Evl.Ex H H' ∧ ∃ (vs : List V) (x2 x3 : Option V), σ' = [some (.ref t), some (.ref l), x2, x3] ∧ H' l = some (.lst vs) ∧ F2 (RP K H') vs (jr (rs.take i))) (fun H2 e2 => ⟨E1.trans e2, [], _, _, rfl, e2 _ _ h1, .nil⟩) (fun i σ' H' _ h => Evl.ex_l h.1 ht) ?_ (fun σ' H' h => hz σ' H' ⟨h.1, by
      obtain ⟨_, vs, x2, x3, e, a, b⟩ := h
      rw [List.take_of_length_le (by rw [← hf.len]; exact Nat.le_refl _)] at b
      exact ⟨vs, x2, x3, e, a, b⟩⟩)
    rintro i x σ' H3 hxi ⟨e3, vs, x2, x3, rfl, hl3, hf3⟩
    obtain ⟨r, hri, hx⟩ := F2.at (hf.imp fun x b r => r.ex e3) hxi
    obtain ⟨hi2, rfl⟩ := List.getElem?_eq_some_iff.mp hri
    have tk : jr (rs.take (i + 1)) = jn1 (jr (rs.take i)) rs[i] := by rw [List.take_add_one, List.getElem?_eq_getElem hi2]; exact jr_snoc _ _
    have ll : vs.length ≤ 2000 := by rw [hf3.len]; refine Nat.le_trans (jr_len _) ?_; rw [List.length_take]; omega
    obtain ⟨u, rfl, hu⟩ := hx
    refine ⟨u, _, rfl, hu, rfl, _, _, rfl, _, _, rfl, rfl, ?_⟩
    have fin : ∀ (H5 : Hp) (vs' : List V), Evl.Ex H H5 → H5 l = some (.lst vs') → F2 (RP K H5) vs' (jr (rs.take (i + 1))) → Evl.Ex H H5 ∧ ∃ (vs : List V) (y2 y3 : Option V), (([some (.ref t), some (.ref l), x2, x3] : L2.St).set 2 (some (.int rs[i].1))).set 3 (some (.int rs[i].2)) = [some (.ref t), some (.ref l), y2, y3] ∧ H5 l = some (.lst vs) ∧ F2 (RP K H5) vs (jr (rs.take (i + 1))) := fun H5 vs' a b c => ⟨a, vs', _, _, rfl, b, c⟩
    rcases nil_or_snoc (jr (rs.take i)) with en | ⟨as, z, en⟩
    · rw [en] at hf3
      obtain rfl : vs = [] := List.eq_nil_of_length_eq_zero hf3.len
      refine Evl.s_if (b := false) (Evl.et_is (Evl.et_and (a := false) (b := true) (Evl.et_is (Evl.et_test (ev_neD (K := K) (ed_runs (rs := []) (Evl.ev_var rfl) (Evl.sq_of hl3) .nil) (e := .list []) (ed_lst ed_nil) (shaped_runs _) (by decide +kernel))) (by rw [show PyData.eqv (.list (([] : List (Int × Int)).map prD)) (.list []) = true from eqv_runs [] []]; rfl)) (fun z => nomatch z)) rfl) (fun z => nomatch z) (fun _ H4 e4 => ?_)
      have hl4 := e4 _ _ hl3
      have E4 := e3.trans e4
      refine Evl.s_appU hl4 (Evl.ev_var rfl) (Evl.eu_tup (vs := [.int rs[i].1, .int rs[i].2]) (Evl.ea_cons (Evl.ev_var rfl) (Evl.ea_cons (Evl.ev_var rfl) Evl.ea_nil)) (show 2 ≤ 100000 by decide)) (by show 0 < _; omega) (fun p H5 np e5 hp => ?_)
      have hl5 := e5 _ _ hl4
      refine fin _ _ (Evl.Ex.mut (E4.trans e5) nl) upd_same ?_
      rw [tk, en]
      exact .cons (RP.upd hl5 ⟨p, rfl, SqT.of hp⟩) .nil
    · have jn : jn1 (jr (rs.take i)) rs[i] = if z.1 = rs[i].1 then as ++ [(rs[i].1, z.2 + rs[i].2)] else as ++ [z] ++ [rs[i]] := by
        rw [en]
        unfold jn1
        rw [List.getLast?_concat, List.dropLast_concat]
      rw [en] at hf3
      obtain ⟨ys, y, rfl, fy, ⟨v, rfl, hv⟩⟩ := f2_snoc hf3
      refine Evl.s_if (b := decide (z.1 = rs[i].1)) (Evl.et_is (Evl.et_and (a := true) (b := decide (z.1 = rs[i].1)) (Evl.et_is (Evl.et_test (ev_neD (K := K) (ed_runs (rs := as ++ [z]) (Evl.ev_var rfl) (Evl.sq_of hl3) hf3) (e := .list []) (ed_lst ed_nil) (shaped_runs _) (by decide +kernel))) (by rw [show PyData.eqv (.list ((as ++ [z]).map prD)) (.list []) = decide (as ++ [z] = []) from eqv_runs (as ++ [z]) []]; cases as <;> rfl))
        (fun _ => Evl.et_is (Evl.et_test (ev_eq (ev_ixT (ev_ixL (Evl.ev_var rfl) (ev_neg Evl.ev_c) (Evl.sq_of hl3) (atI_last _ _)) Evl.ev_c hv (atI_0 _ _)) (Evl.ev_var rfl) rfl)) (decide_eq_decide.mpr ⟨V.int.inj, congrArg V.int⟩))) (Bool.true_and _)) (fun hb H4 e4 => ?_) (fun hb H4 e4 => ?_)
      · have ez := of_decide_eq_true hb
        have hl4 := e4 _ _ hl3
        refine (Evl.eu_tup (vs := [.int rs[i].1, .int (z.2 + rs[i].2)]) (Evl.ea_cons (Evl.ev_var rfl) (Evl.ea_cons (ev_i0 (g := fun i j => V.int (i + j)) (ev_ixT (ev_ixL (Evl.ev_var rfl) (ev_neg Evl.ev_c) (Evl.sq_of hl4) (atI_last _ _)) Evl.ev_c (Evl.ex_t e4 hv) (atI_nat (j := 1) rfl)) (Evl.ev_var rfl)) Evl.ea_nil)) (show 2 ≤ 100000 by decide)) H4 (Evl.Ex.refl _) _ fun p H5 np e5 hp => ?_
        have hl5 := e5 _ _ hl4
        refine ⟨.ref l, rfl, 1, rfl, l, _, -1, ys.length, rfl, rfl, hl5, ?_, ?_⟩
        · rw [List.length_append]
          exact ixN_last ys.length
        · refine fin _ _ (Evl.Ex.mut (e3.trans (e4.trans e5)) nl) upd_same ?_
          rw [tk, jn, if_pos ez, List.set_append_right _ _ (Nat.le_refl _), Nat.sub_self]
          exact (F2.app (fy.imp fun x b r => RP.upd hl5 (r.ex (e4.trans e5))) (.cons (RP.upd hl5 ⟨p, rfl, SqT.of hp⟩) .nil))
      · refine Evl.s_appU (e4 _ _ hl3) (Evl.ev_var rfl) (Evl.eu_tup (vs := [.int rs[i].1, .int rs[i].2]) (Evl.ea_cons (Evl.ev_var rfl) (Evl.ea_cons (Evl.ev_var rfl) Evl.ea_nil)) (show 2 ≤ 100000 by decide)) (by omega) (fun p H5 np e5 hp => ?_)
        have hl5 := (e4.trans e5) _ _ hl3
        refine fin _ _ (Evl.Ex.mut (e3.trans (e4.trans e5)) nl) upd_same ?_
        rw [tk, jn, if_neg (of_decide_eq_false hb)]
        exact F2.app (F2.app (fy.imp fun x b r => RP.upd hl5 (r.ex (e4.trans e5))) (.cons (RP.upd hl5 ⟨v, rfl, Evl.ex_t (e4.trans e5) hv⟩) .nil)) (.cons (RP.upd hl5 ⟨p, rfl, SqT.of hp⟩) .nil)
theorem el_vals {te : TE} {σ : L2.St} {H : Hp} {g : Addr} {ps : List (Int × Int)} (h : Evl.Ev te σ H (.ref g)) (hg : H g = some (.dK (ps.map kc))) : Evl.EvL (tListVals te) σ H ((ps.map fun r => r.2).map V.int) := fun H1 e Q q => h H1 e _ fun H2 e2 => ⟨g, ps.map kc, rfl, (e.trans e2) _ _ hg, fun p hp => by
  refine q p _ (Evl.fresh_back e2 hp) (e2.trans (Evl.Ex.new hp)) ?_
  rw [upd_same, List.map_map, List.map_map]
  rfl⟩
def spNum2 : Sp := fun vs H Q _ => ∃ g ps, vs = [.ref g] ∧ H g = some (.dK (ps.map kc)) ∧ ps.length ≤ 12 ∧ ∀ H', Evl.Ex H H' → Q (.int (numR ps)) H'
theorem ok_num (B : Bl mg) (D : Df K mg "_law_number" s__law_number ["plain"]) : Cg P w K mg base CX0 1 "_law_number" spNum2 := by
  refine cg_of D sc__law_number (fun vs H Q E h => ?_) (fun f cdv A fr s H vs Q E hr hgd h => ?_)
  · obtain ⟨g, ps, rfl, _⟩ := h
    rfl
  · obtain ⟨g, ps, rfl, hg, hl, q⟩ := h
    refine ⟨_, (pss_one (ps_ret (pe_callB (cr_sum rfl) (by rfl) B.sum bt_sum (pa_cons (pe_listVals rfl (pv 0) (by rfl) B.list) pa_nil)))), ?_⟩
    exact Evl.s_ret (ev_sum (K := K) (el_vals (Evl.ev_var rfl) hg)) q
theorem num_v {H : Hp} {g : Addr} {ps : List (Int × Int)} (hg : H g = some (.dK (ps.map kc))) (hl : ps.length ≤ 12) : Evl.SpV spNum2 [.ref g] H (.int (numR ps)) := fun H1 e Q q E => ⟨g, ps, rfl, e _ _ hg, hl, q⟩
theorem tot_v {H : Hp} {g : Addr} {ps : List (Int × Int)} (hg : H g = some (.dK (ps.map kc))) (hc : Cts ps) : Evl.SpV spTot [.ref g] H (.int (tot ps)) := fun H1 e Q q E => ⟨g, ps, rfl, e _ _ hg, hc, q⟩
def spCof (K : PySem.W.Frag) (C : Addr) : Sp := fun vs H Q _ => (vs = [.non] ∧ ∀ H', Evl.Ex H H' → Q .non H') ∨ ∃ a qs, vs = [.ref a] ∧ LotAt K C H a qs ∧ ∀ p H', Evl.Ex H H' → H' p = some (.dK (qs.map kc)) → Q (.ref p) H'
theorem ok_cof (B : Bl mg) {CL : Addr} (LT_Lot : LotT K mg CL) (KL : LotNK K CL) (D : Df K mg "_law_counts_of" s__law_counts_of ["lot"]) (P_counts : Pg P w K mg base 1 CL "counts" (spCounts K CL)) : Cg P w K mg base CX0 3 "_law_counts_of" (spCof K CL) := by
  refine cg_of D sc__law_counts_of (fun vs H Q E h => ?_) (fun f cdv A fr s H vs Q E hr hgd h => ?_)
  · rcases h with ⟨rfl, _⟩ | ⟨a, qs, rfl, _⟩ <;> rfl
  · rcases h with ⟨rfl, q⟩ | ⟨a, qs, rfl, hl, q⟩
    · refine ⟨_, (pss_one (ps_ret (pe_ifExp (pt_val (pe_callB call_isi (by rfl) B.isinstance bt_isinstance (pa_cons (pv 0) (pa_cons (pe_glob (v := V.ref _) (by rfl) LT_Lot.k.g rfl) pa_nil)))) (pprop P_counts hr (pv 0)) pe_non))), ?_⟩
      exact Evl.s_ret (v := .non) (Evl.ev_if (b := false) (Evl.et_B (ev_isi (Evl.ev_var rfl) Evl.ev_c (.own CL) (fun _ _ => .base .non) KL.none)) (fun z => nomatch z) (fun _ => Evl.ev_c)) q
    · refine ⟨_, (pss_one (ps_ret (pe_ifExp (pt_val (pe_callB call_isi (by rfl) B.isinstance bt_isinstance (pa_cons (pv 0) (pa_cons (pe_glob (v := V.ref _) (by rfl) LT_Lot.k.g rfl) pa_nil)))) (pprop P_counts hr (pv 0)) pe_non))), ?_⟩
      obtain ⟨dx, t1, t2, d, ts, h1, _⟩ := hl.ex
      refine s_retIfT (Evl.et_B (ev_isi (Evl.ev_var rfl) Evl.ev_c (.own CL) (fun H1 e => LT_Lot.k.ty (e _ _ h1)) kit_self)) (fun H1 e1 => ?_)
      exact ⟨.ref a, rfl, a, dx, _, rfl, e1 _ _ h1, a, qs, rfl, hl.up e1, fun p H2 e2 np h2 => q p H2 (e1.trans e2) h2⟩
theorem mostT_e {CL CS : Addr} {ta tb : TE} {σ : L2.St} {H : Hp} {qs ss : List (Int × Int)} {n : Int} (ha : Elot K CL ta σ H qs) (hb : Esto K CS tb σ H ss) (lc : LotC qs) (so : StoOk ss) (hn : TopN ((Fit qs ss).map numR) n) : Evl.Ev (tCall (spMostT K CL CS) [] E0 (tCons ta (tCons tb tNil))) σ H (.int n) := fun H1 e Q q => ha H1 e _ fun a H2 e2 hl => hb H2 (e.trans e2) _ fun b H3 e3 hs =>
  ⟨a, b, qs, ss, rfl, hl.up e3, lc, hs, so, fun fs H4 e4 h1 h2 h3 h4 => by
    obtain ⟨b1, b2⟩ := best_things lc so h1 h2 h4
    have e : (fs.map fun (r : Int × Int) => r.2).sum = n := top_eq numR hn (fit_mem.mpr ⟨b1, h3⟩) b2
    rw [e]
    exact q H4 ((e2.trans e3).trans e4)⟩
theorem mostW_e {CL CS : Addr} {ta tb : TE} {σ : L2.St} {H : Hp} {qs ss : List (Int × Int)} {n : Int} (ha : Elot K CL ta σ H qs) (hb : Esto K CS tb σ H ss) (lc : LotC qs) (so : StoOk ss) (hn : TopN ((Fit qs ss).map tot) n) : Evl.Ev (tCall (spMostW K CL CS) [] E0 (tCons ta (tCons tb tNil))) σ H (.int n) := fun H1 e Q q => ha H1 e _ fun a H2 e2 hl => hb H2 (e.trans e2) _ fun b H3 e3 hs =>
  ⟨a, b, qs, ss, rfl, hl.up e3, lc, hs, so, fun fs H4 e4 h1 h2 h3 h4 => by
    obtain ⟨b1, b2⟩ := best_total lc so h1 h2 h4
    rw [top_eq tot hn (fit_mem.mpr ⟨b1, h3⟩) b2]
    exact q H4 ((e2.trans e3).trans e4)⟩
theorem keptT_e {CL CS : Addr} {ta tb tc : TE} {σ : L2.St} {H : Hp} {qs ss X : List (Int × Int)} {n : Int} (ha : Elot K CL ta σ H qs) (hb : Esto K CS tb σ H ss) (hc : Elot K CL tc σ H X) (lc : LotC qs) (so : StoOk ss) (hX : X ∈ partsOf qs) (hn : TopN ((Fit qs ss).map numR) n) : Evl.Ev (tCall (spKeptT K CL CS) [] E0 (tCons ta (tCons tb (tCons tc tNil)))) σ H (.bl (fitB X ss && decide (numR X = n))) := fun H1 e Q q => ha H1 e _ fun a H2 e2 hl => hb H2 (e.trans e2) _ fun b H3 e3 hs => hc H3 ((e.trans e2).trans e3) _ fun c H4 e4 hm =>
  ⟨a, b, c, qs, ss, X, rfl, hl.up (e3.trans e4), lc, hs.up e4, so, hm, (part_of lc hX).1, fun fs H5 e5 h1 h2 h3 h4 => by
    obtain ⟨b1, b2⟩ := best_things lc so h1 h2 h4
    have e : (fs.map fun (r : Int × Int) => r.2).sum = n := top_eq numR hn (fit_mem.mpr ⟨b1, h3⟩) b2
    rw [e, part_partB lc hX, Bool.true_and]
    exact q H5 ((e2.trans (e3.trans e4)).trans e5)⟩
theorem keptW_e {CL CS : Addr} {ta tb tc : TE} {σ : L2.St} {H : Hp} {qs ss X : List (Int × Int)} {n : Int} (ha : Elot K CL ta σ H qs) (hb : Esto K CS tb σ H ss) (hc : Elot K CL tc σ H X) (lc : LotC qs) (so : StoOk ss) (hX : X ∈ partsOf qs) (hn : TopN ((Fit qs ss).map tot) n) : Evl.Ev (tCall (spKeptW K CL CS) [] E0 (tCons ta (tCons tb (tCons tc tNil)))) σ H (.bl (fitB X ss && decide (tot X = n))) := fun H1 e Q q => ha H1 e _ fun a H2 e2 hl => hb H2 (e.trans e2) _ fun b H3 e3 hs => hc H3 ((e.trans e2).trans e3) _ fun c H4 e4 hm =>
  ⟨a, b, c, qs, ss, X, rfl, hl.up (e3.trans e4), lc, hs.up e4, so, hm, (part_of lc hX).1, fun fs H5 e5 h1 h2 h3 h4 => by
    obtain ⟨b1, b2⟩ := best_total lc so h1 h2 h4
    rw [top_eq tot hn (fit_mem.mpr ⟨b1, h3⟩) b2, part_partB lc hX, Bool.true_and]
    exact q H5 ((e2.trans (e3.trans e4)).trans e5)⟩
def RnL (K : PySem.W.Frag) (H : Hp) (l : Addr) (rs : List (Int × Int)) : Prop := ∃ vs, SqL K H l vs ∧ F2 (RP K H) vs rs
theorem RnL.up {H H' : Hp} {l : Addr} {rs : List (Int × Int)} (h : RnL K H l rs) (e : Evl.Ex H H') : RnL K H' l rs := by
  obtain ⟨vs, h1, h2⟩ := h
  exact ⟨vs, Evl.ex_l e h1, h2.imp fun x b r => r.ex e⟩
theorem RnL.kd {H H' : Hp} {l d : Addr} {rs : List (Int × Int)} (hd : Dice H d) (k : Kd d H H') (ld : l ≠ d) (h : RnL K H l rs) : RnL K H' l rs := by
  obtain ⟨vs, h1, h2⟩ := h
  exact ⟨vs, k.1.sqL ld h1, h2.imp fun x b r => r.kd hd k⟩
def spFL (K : PySem.W.Frag) : Sp := fun vs H Q _ => ∃ (g l : Addr) (ps rs : List (Int × Int)), vs = [.ref g, .ref l] ∧ H g = some (.dK (ps.map kc)) ∧ Cts ps ∧ LotC (srt ps) ∧ RnL K H l rs ∧ StoOk rs ∧ ∀ H', Evl.Ex H H' → Q (.bl (fitB (srt ps) rs)) H'
theorem fit_brsL (ps rs : List (Int × Int)) : decide (((brs ps rs).map V.int).length = 0) = fitB ps rs := by
  refine bool_iff ?_
  rw [decide_eq_true_eq, List.length_map, List.length_eq_zero_iff, brs_nil]
  unfold fitB
  rw [List.all_eq_true]
  exact forall_congr' fun s => forall_congr' fun _ => ⟨fun h => decide_eq_true h, fun h => of_decide_eq_true h⟩
theorem ok_fl (B : Bl mg) (D : Df K mg "_law_fits" s__law_fits ["part", "runs"]) (C__law_bars : Cg P w K mg base CX0 2 "_law_bars" (spBars K)) : Cg P w K mg base CX0 3 "_law_fits" (spFL K) := by
  refine cg_of D sc__law_fits (fun vs H Q E h => ?_) (fun f cdv A fr s H vs Q E hr hgd h => ?_)
  · obtain ⟨g, l, ps, rs, rfl, _⟩ := h
    rfl
  · obtain ⟨g, l, ps, rs, rfl, hg, ct, lc, ⟨vs, h1, h2⟩, so, q⟩ := h
    refine ⟨_, (pss_one (ps_ret (pe_cmpR (op_eqLE hr.units0) (pcg C__law_bars hr hgd (pa_cons (pv 0) (pa_cons (pv 1) pa_nil))) (pe_lst pa_nil) (nomark _)))), ?_⟩
    have ln := so.ln
    refine ⟨.ref g, rfl, .ref l, rfl, g, l, ps, srt ps, rs, vs, rfl, hg, ct, srt_perm ps, lc, h1, h2, by omega, fun r hr => ?_, fun t H1 e1 ht => ⟨(show 0 ≤ sizeLine by decide), fun b nb => ⟨t, b, _, rfl, rfl, SqL.of ((Evl.Ex.new nb) _ _ ht), SqL.of upd_same, ?_⟩⟩⟩
    · obtain ⟨x, y, z⟩ := so.ok r hr
      have := siz_int x
      exact ⟨by omega, this.2, z⟩
    · rw [fit_brsL]
      exact q _ (e1.trans (Evl.Ex.new nb))
def spWC : Sp := fun vs H Q _ => ∃ (g : Addr) (z c : Int) (ps : List (Int × Int)), vs = [.ref g, .int z, .int c] ∧ Rd H g (.dK (ps.map kc)) ∧ Cts ps ∧ ∀ p H', Evl.Ex H H' → H' p = some (.dK ((withC ps z (cf ps z + c)).map kc)) → Q (.ref p) H'
theorem ok_wc (B : Bl mg) (D : Df K mg "_law_with" s__law_with ["part", "size", "count"]) : Cg P w K mg base CX0 1 "_law_with" spWC := by
  refine cg_of D sc__law_with (fun vs H Q E h => ?_) (fun f cdv A fr s H vs Q E hr hgd h => ?_)
  · obtain ⟨g, z, c, ps, rfl, _⟩ := h
    rfl
  · obtain ⟨g, z, c, ps, rfl, hg, ct, q⟩ := h
    refine ⟨_, (pss_cons (ps_set (i := 3) sc__law_with.nd rfl (by first | exact Or.inl rfl | exact Or.inr rfl) (pe_callTy (show CallR _ (.type "dict") (rDictP K) from call_dictP rfl) (by rfl) B.dict bt_dict (pa_cons (pe_op op_cat (pe_listItemsR rfl (pv 0) (by rfl) B.list bt_list) (pe_lst (pa_cons (pe_tup (pa_cons (pv 1) (pa_cons (pe_op op_add (pe_dget2 (hu_of hr) (pv 0) (pv 1) pe_int ⟨rfl, rfl, rfl, rfl⟩) (pv 2)) pa_nil))) pa_nil))) pa_nil)))
    (pss_one (ps_ret (pe_callTy (show CallR _ (.type "dict") (rDictP K) from call_dictP rfl) (by rfl) B.dict bt_dict (pa_cons (pe_lock (pe_lc (own := [("one", 4)]) (g := (gName 4)) rfl sc__law_with.nd (pi_keys (pv 3)) (blkOk_by (own := [("one", 4)]) (N := n__law_with) (sc := defScope s__law_with) (by decide +kernel)) (fun _ _ _ _ _ => (pg_name (i := 4) sc__law_with.nd rfl (by first | exact Or.inl rfl | exact Or.inr rfl))) (fun _ _ _ _ _ => (pts_one (pt_cmpR op_gt (pe_dget (hu_of hr) (pv 3) (pv 4) (fun _ _ => rfl)) pe_int (nomark _)))) (fun _ _ _ _ _ => (pe_tup (pa_cons (pv 4) (pa_cons (pe_dget (hu_of hr) (pv 3) (pv 4) (fun _ _ => rfl)) pa_nil)))))) pa_nil))))), ?_⟩
    have l12 := ct.ln
    refine q_asgP (P := fun v H' => ∃ u, v = .ref u ∧ Evl.Ex H H' ∧ H' u = some (.dK ((putP ps (z, cf ps z + c)).map kc))) (fun Q2 q2 => (evd_dictM (K := K) (evp_cat (evp_itemsR (Evl.ev_var rfl) hg) (evp_one (Evl.ev_var rfl) (ev_i0 (g := fun i j => .int (i + j)) (ev_dget2 (c := 0) (Evl.ev_var rfl) (Evl.ev_var rfl) Evl.ev_c hg) (Evl.ev_var rfl))) (show ps.length + 1 ≤ 100000 by omega))).is (qs := putP ps (z, cf ps z + c)) (by rw [merP_snoc, merP_self ct.nd]; rfl) H (Evl.Ex.refl H) _ fun u H1 _ e1 hu => q2 _ _ ⟨u, rfl, e1, hu⟩) ?_
    rintro _ H1 ⟨u, rfl, e1, hu⟩
    have nd := putP_nodup (p := (z, cf ps z + c)) ct.nd
    have pl := putP_len ps (z, cf ps z + c)
    refine evd_keysF (K := K) (ps := putP ps (z, cf ps z + c)) (fun p => decide (0 < p.2)) (fun p => p) (fun H2 => Evl.ev_var rfl) hu (by omega) (fun _ => rfl) (fun p hp H2 hf => ?_) (fun p hp H2 hf => ?_) ?_ H1 (Evl.Ex.refl H1) _ (fun v H2 _ e2 hv => ?_)
    · exact Evl.et_is (Evl.et_test (ev_i0 (g := fun i j => .bl (decide (i > j))) (ev_dget (Evl.ev_var rfl) (Evl.ev_var rfl) (fun H3 e3 => (hf.to e3).dk) ((cnt_mem nd).mp hp)) Evl.ev_c)) rfl
    · exact evr_pair (Evl.ev_var rfl) (ev_dget (Evl.ev_var rfl) (Evl.ev_var rfl) (fun H3 e3 => (hf.to e3).dk) ((cnt_mem nd).mp hp))
    · rw [List.map_id']
      exact (List.filter_sublist.map Prod.fst).nodup nd
    · rw [List.map_id'] at hv
      exact q v H2 (e1.trans e2) hv
theorem wc_e {tg tz tc : TE} {σ : L2.St} {H : Hp} {g : Addr} {z c : Int} {ps : List (Int × Int)} (h1 : Evl.Ev tg σ H (.ref g)) (h2 : Evl.Ev tz σ H (.int z)) (h3 : Evl.Ev tc σ H (.int c)) (hg : Rd H g (.dK (ps.map kc))) (ct : Cts ps) : EvR RD (tCall spWC [] E0 (tCons tg (tCons tz (tCons tc tNil)))) σ H (withC ps z (cf ps z + c)) := fun H1 e Q q => h1 H1 e _ fun H2 e2 => h2 H2 (e.trans e2) _ fun H3 e3 => h3 H3 ((e.trans e2).trans e3) _ fun H4 e4 =>
  ⟨g, z, c, ps, rfl, rd_up (((e.trans e2).trans e3).trans e4) hg, ct, fun p H5 e5 hp => q _ H5 ((e2.trans e3).trans (e4.trans e5)) ⟨p, rfl, hp⟩⟩
theorem wc_r {tg tz tc : TE} {σ : L2.St} {H : Hp} {z c : Int} {ps : List (Int × Int)} (h1 : EvR RD tg σ H ps) (h2 : Evl.Ev tz σ H (.int z)) (h3 : Evl.Ev tc σ H (.int c)) (ct : Cts ps) : EvR RD (tCall spWC [] E0 (tCons tg (tCons tz (tCons tc tNil)))) σ H (withC ps z (cf ps z + c)) := fun H1 e Q q => h1 H1 e _ fun x H2 e2 ⟨g, ex, hg⟩ => h2 H2 (e.trans e2) _ fun H3 e3 => h3 H3 ((e.trans e2).trans e3) _ fun H4 e4 =>
  ⟨g, z, c, ps, by rw [ex]; rfl, .inl ((e3.trans e4) _ _ hg), ct, fun p H5 e5 hp => q _ H5 ((e2.trans e3).trans (e4.trans e5)) ⟨p, rfl, hp⟩⟩
theorem fl_e {tg tl : TE} {σ : L2.St} {H : Hp} {l : Addr} {X rs : List (Int × Int)} (h1 : EvR RD tg σ H X) (h2 : Evl.Ev tl σ H (.ref l)) (ct : Cts X) (lc : LotC (srt X)) (hl : RnL K H l rs) (so : StoOk rs) : Evl.Ev (tCall (spFL K) [] E0 (tCons tg (tCons tl tNil))) σ H (.bl (fitB (srt X) rs)) := fun H1 e Q q => h1 H1 e _ fun x H2 e2 ⟨g, ex, hg⟩ => h2 H2 (e.trans e2) _ fun H3 e3 =>
  ⟨g, l, X, rs, by rw [ex]; rfl, e3 _ _ hg, ct, lc, hl.up ((e.trans e2).trans e3), so, fun H4 e4 => q H4 ((e2.trans e3).trans e4)⟩
structure PlN (N : List Int) (ps : List (Int × Int)) : Prop where
  ct : Cts ps
  sub : ∀ p ∈ ps, p.1 ∈ N
structure SzN (N : List Int) : Prop where
  pw : Pws N
  sz : ∀ n ∈ N, sizB n = true
  ln : N.length ≤ 12
  nd : N.Nodup
theorem szn_of {qs : List (Int × Int)} (h : LotC qs) : SzN (qs.map Prod.fst) := ⟨lotc_pws h, fun n hn => (cts_pos h.ct n hn).2.2, by rw [List.length_map]; exact h.ct.ln, h.ct.nd⟩
theorem wcf_e {N : List Int} {tg tz tc tl : TE} {σ : L2.St} {H : Hp} {g l : Addr} {z c : Int} {ps rs : List (Int × Int)} {b : Bool} (hN : SzN N) (hp : PlN N ps) (hz : z ∈ N) (h1 : Evl.Ev tg σ H (.ref g)) (h2 : Evl.Ev tz σ H (.int z)) (h3 : Evl.Ev tc σ H (.int c)) (hg : Rd H g (.dK (ps.map kc))) (h4 : Evl.Ev tl σ H (.ref l)) (hl : RnL K H l rs) (so : StoOk rs) (h0 : 0 ≤ cf ps z + c) (hb : (cf ps z + c).natAbs < 10 ^ 200) (hv : Fe N (unt rs) (adC (cf ps) z c) ↔ b = true) :
    Evl.Ev (tCall (spFL K) [] E0 (tCons (tCall spWC [] E0 (tCons tg (tCons tz (tCons tc tNil)))) (tCons tl tNil))) σ H (.bl b) := by
  obtain ⟨x, y⟩ := withC_ok (z := z) hN.pw hN.sz hN.ln hp.ct hp.sub hz hb
  exact Evl.ev_is (fl_e (wc_e h1 h2 h3 hg hp.ct) h4 x (withC_lot hN.pw x y) hl so) (congrArg V.bl (bool_iff ((withC_fit hN.pw hN.nd hN.sz hN.ln (sto_nn so) hp.ct hp.sub hz h0 hb).trans hv)))
def BestW (N : List Int) (c U : Int → Int) (w h : Int → Int) : Prop := ∀ p : Int → Int, (∀ t ∈ N, 0 ≤ p t ∧ p t ≤ c t) → Fe N U p → Wsum N p w ≤ Wsum N h w
def spAb (K : PySem.W.Frag) : Sp := fun vs H Q _ => ∃ (g l m t : Addr) (ps fs gs rs : List (Int × Int)), vs = [.ref g, .ref l, .ref m, .ref t] ∧ m ≠ g ∧ t ≠ g ∧ H g = some (.dK (ps.map kc)) ∧ H m = some (.dK (fs.map kc)) ∧ H t = some (.dK (gs.map kc)) ∧ Cts ps ∧ LotC (srt ps) ∧ RnL K H l rs ∧ StoOk rs ∧ PlN ((srt ps).map Prod.fst) fs ∧ PlN ((srt ps).map Prod.fst) gs ∧
  (∀ s ∈ (srt ps).map Prod.fst, cf fs s ≤ cf (srt ps) s) ∧ (∀ s ∈ (srt ps).map Prod.fst, cf gs s ≤ cf (srt ps) s) ∧ BestW ((srt ps).map Prod.fst) (cf (srt ps)) (unt rs) (fun _ => 1) (cf fs) ∧ BestW ((srt ps).map Prod.fst) (cf (srt ps)) (unt rs) (fun t => t) (cf gs) ∧ ∀ H', Evl.Ex H H' → Q (.bl true) H'
theorem cts_big {ps : List (Int × Int)} (ct : Cts ps) (t : Int) : (cf ps t).natAbs + 2 < 10 ^ 200 + 2 := by
  have big : 0 < 10 ^ 200 := by decide +kernel
  unfold cf
  cases e : cnt ps t with
  | none =>
    show (0 : Int).natAbs + 2 < _
    omega
  | some v =>
    have := (siz_int (ct.ok _ ((cnt_mem ct.nd).mpr e)).2).2
    show v.natAbs + 2 < _
    have : v.natAbs < 10 ^ 200 := this
    omega
theorem et_andF {t u : TT} {σ : L2.St} {H : Hp} {a : Bool} (h1 : Evl.EvT t σ H a) (h2 : a = true → Evl.EvT u σ H false) : Evl.EvT (tAnd t u) σ H false := Evl.et_is (Evl.et_and h1 h2) (Bool.and_false a)
theorem sqL_fz {d a : Addr} {kvs : List (Key × V)} {xs : List V} {H H1 : Hp} (h : Fz d (.dK kvs) H H1) (hd : H d = some (.dK kvs)) (t : SqL K H a xs) : SqL K H1 a xs := by
  rcases t with (t | ⟨o, t⟩) | t
  · exact .inl (.inl (h.1 a _ (fun e => by rw [e, hd] at t; cases t) t))
  · exact .inl (.inr ⟨o, h.1 a _ (fun e => by rw [e, hd] at t; cases t) t⟩)
  · exact .inr t
theorem RnL.fz {d l : Addr} {kvs : List (Key × V)} {rs : List (Int × Int)} {H H1 : Hp} (h : Fz d (.dK kvs) H H1) (hd : H d = some (.dK kvs)) (t : RnL K H l rs) : RnL K H1 l rs := by
  obtain ⟨vs, h1, h2⟩ := t
  exact ⟨vs, sqL_fz h hd h1, h2.imp fun x b r => by
    obtain ⟨t, e, k⟩ := r
    exact ⟨t, e, h.t hd k⟩⟩
theorem ok_ab (B : Bl mg) (D : Df K mg "_law_are_best" s__law_are_best ["plain", "runs", "most", "total"]) (C__law_fits : Cg P w K mg base CX0 3 "_law_fits" (spFL K)) (C__law_with : Cg P w K mg base CX0 1 "_law_with" spWC) : Cg P w K mg base CX0 4 "_law_are_best" (spAb K) := by
  refine cg_of D sc__law_are_best (fun vs H Q E h => ?_) (fun f cdv A fr s H vs Q E hr hgd h => ?_)
  · obtain ⟨g, l, m, t, ps, fs, gs, rs, rfl, _⟩ := h
    rfl
  · obtain ⟨g, l, m, t, ps, fs, gs, rs, rfl, mg', tg', hg, hm, ht, ct, lc, hl, so, pf, pg, bf, bg, wf, wg, q⟩ := h
    refine ⟨_, (pss_cons (ps_lock (ps_for PassesOwn.never rfl (pi_keys (pv 0)) (pg_name (i := 4) sc__law_are_best.nd rfl (by first | exact Or.inl rfl | exact Or.inr rfl)) (pss_cons (ps_if (pw_and (pt_cmpR op_lt (pe_dget2 (hu_of hr) (pv 2) (pv 4) pe_int ⟨rfl, rfl, rfl, rfl⟩) (pe_dget (hu_of hr) (pv 0) (pv 4) (fun _ _ => rfl)) (nomark _)) (pw_and1 (pt_val (pcg C__law_fits hr hgd (pa_cons (pcg C__law_with hr hgd (pa_cons (pv 2) (pa_cons (pv 4) (pa_cons pe_int pa_nil)))) (pa_cons (pv 1) pa_nil)))))).pt (pss_one (ps_ret pe_bl)) pss_nil)
    (pss_cons (ps_if (pw_and (pt_cmpR op_lt (pe_dget2 (hu_of hr) (pv 3) (pv 4) pe_int ⟨rfl, rfl, rfl, rfl⟩) (pe_dget (hu_of hr) (pv 0) (pv 4) (fun _ _ => rfl)) (nomark _)) (pw_and1 (pt_val (pcg C__law_fits hr hgd (pa_cons (pcg C__law_with hr hgd (pa_cons (pv 3) (pa_cons (pv 4) (pa_cons pe_int pa_nil)))) (pa_cons (pv 1) pa_nil)))))).pt (pss_one (ps_ret pe_bl)) pss_nil)
     (pss_one (ps_lock (ps_for PassesOwn.never rfl (pi_keys (pv 3)) (pg_name (i := 5) sc__law_are_best.nd rfl (by first | exact Or.inl rfl | exact Or.inr rfl)) (pss_one (ps_if (pw_and (pt_cmpR op_lt (pv 5) (pv 4) (nomark _)) (pw_and1 (pt_cmpR op_lt (pe_dget2 (hu_of hr) (pv 3) (pv 4) pe_int ⟨rfl, rfl, rfl, rfl⟩) (pe_dget (hu_of hr) (pv 0) (pv 4) (fun _ _ => rfl)) (nomark _)))).pt (pss_one (ps_if (pt_val (pcg C__law_fits hr hgd (pa_cons (pcg C__law_with hr hgd (pa_cons (pcg C__law_with hr hgd (pa_cons (pv 3) (pa_cons (pv 4) (pa_cons pe_int pa_nil)))) (pa_cons (pv 5) (pa_cons (pe_op op_sub pe_int pe_int) pa_nil)))) (pa_cons (pv 1) pa_nil)))) (pss_one (ps_ret pe_bl)) pss_nil)) pss_nil)))))))))
    (pss_one (ps_ret pe_bl))), ?_⟩
    have hN := szn_of lc
    generalize hNN : (srt ps).map Prod.fst = N at hN pf pg bf bg wf wg
    have c2 : ∀ p ∈ ps, p.1 ∈ N ∧ cnt ps p.1 = some p.2 ∧ cf (srt ps) p.1 = p.2 := fun p hp => by
      have k := (cnt_mem ct.nd).mp (show (p.1, p.2) ∈ ps from hp)
      have m2 := (srt_perm ps).mem_iff.mpr hp
      exact ⟨hNN ▸ List.mem_map_of_mem m2, k, cf_mem lc.ct.nd m2⟩
    have hb : ∀ X : List (Int × Int), PlN N X → (∀ s ∈ N, cf X s ≤ cf (srt ps) s) → ∀ s ∈ N, 0 ≤ cf X s ∧ cf X s ≤ cf (srt ps) s := fun X hX h s hs => ⟨cf_nn hX.ct s, h s hs⟩
    have big : ∀ s, (cf (srt ps) s).natAbs < 10 ^ 200 := fun s => by have := cts_big lc.ct s; omega
    have pos : ∀ s ∈ N, 0 < s := hN.pw.pos
    refine q_fall (fun σ' H' => Evl.Ex H H' ∧ ∃ x4 x5, σ' = [some (.ref g), some (.ref l), some (.ref m), some (.ref t), x4, x5]) ?_ (fun hz => ?_)
    · rintro σ' H' ⟨e', x4, x5, rfl⟩
      exact Evl.s_ret Evl.ev_c (fun H1 e1 => q H1 (e'.trans e1))
    refine keys_loop (ps := ps) hg (fun H1 => Evl.ev_var rfl) (fun σ' => ∃ x4 x5, σ' = [some (.ref g), some (.ref l), some (.ref m), some (.ref t), x4, x5]) ⟨_, _, rfl⟩ ?_ (fun σ' H' h e' => hz σ' H' ⟨e', h⟩)
    rintro p hp σ' H1 fz ⟨x4, x5, rfl⟩ D' hD'
    obtain ⟨zN, cz, cfz⟩ := c2 p hp
    have hm1 := fz.1 m _ mg' hm
    have ht1 := fz.1 t _ tg' ht
    have hl1 := hl.fz fz hg
    have lt : ∀ {X : List (Int × Int)} {i : Nat} {o : Addr} {σ : L2.St} {H2 : Hp}, σ[0]? = some (some (.ref g)) → σ[i]? = some (some (.ref o)) → σ[4]? = some (some (.int p.1)) → Rd H2 o (.dK (X.map kc)) → Evl.Ex H1 H2 → Evl.EvT (tTest (tOp (rI0 fun i j => V.bl (decide (i < j))) (tDGet2 (tVar i) (tVar 4) (tC (.int 0))) (tDGet (tVar 0) (tVar 4)))) σ H2 (decide (cf X p.1 < p.2)) := fun h0 hi h4 ho e2 =>
      Evl.et_test (ev_i0 (g := fun i j => .bl (decide (i < j))) (ev_dget2 (c := 0) (Evl.ev_var hi) (Evl.ev_var h4) Evl.ev_c ho) (ev_dget (Evl.ev_var h0) (Evl.ev_var h4) (fun H3 e3 => (fz.to (e2.trans e3)).dk) cz))
    have bnd : ∀ {X : List (Int × Int)}, PlN N X → (∀ s ∈ N, cf X s ≤ cf (srt ps) s) → decide (cf X p.1 < p.2) = true → 0 ≤ cf X p.1 + 1 ∧ (cf X p.1 + 1).natAbs < 10 ^ 200 ∧ cf X p.1 < cf (srt ps) p.1 := fun {X} hX h k => by
      have k := of_decide_eq_true k
      have a := cf_nn hX.ct p.1
      have b := big p.1
      rw [cfz] at b ⊢
      omega
    refine Evl.q_when (b := false) (et_andF (lt rfl rfl rfl (.inl hm1) (Evl.Ex.refl H1)) (fun k => Evl.et_B ?_)) (fun z => nomatch z) (fun _ H2 e2 => ?_)
    · obtain ⟨k1, k2, k3⟩ := bnd pf bf k
      exact wcf_e hN pf zN (Evl.ev_var rfl) (Evl.ev_var rfl) Evl.ev_c (.inl hm1) (Evl.ev_var rfl) hl1 so k1 k2 ⟨fun fe => absurd fe (no_more hN.nd (fun t _ => by decide) (hb fs pf bf) wf zN k3), fun x => nomatch x⟩
    have ht2 := e2 _ _ ht1
    have hl2 := hl1.up e2
    refine Evl.q_when (b := false) (et_andF (lt rfl rfl rfl (.inl ht2) e2) (fun k => Evl.et_B ?_)) (fun z => nomatch z) (fun _ H3 e3 => ?_)
    · obtain ⟨k1, k2, k3⟩ := bnd pg bg k
      exact wcf_e hN pg zN (Evl.ev_var rfl) (Evl.ev_var rfl) Evl.ev_c (.inl ht2) (Evl.ev_var rfl) hl2 so k1 k2 ⟨fun fe => absurd fe (no_more hN.nd (fun t ht => pos t ht) (hb gs pg bg) wg zN k3), fun x => nomatch x⟩
    have ht3 := e3 _ _ ht2
    have hl3 := hl2.up e3
    refine keys_loop (ps := gs) ht3 (fun H1 => Evl.ev_var rfl) (fun σ' => ∃ x5, σ' = [some (.ref g), some (.ref l), some (.ref m), some (.ref t), some (.int p.1), x5]) ⟨_, rfl⟩ ?_ (fun σ' H' h e' => ?_)
    · rintro o ho σ' H4 fz4 ⟨x5, rfl⟩ D2 hD2
      have hl4 := hl3.fz fz4 ht3
      have lt2 : Evl.EvT (tTest (tOp (rI0 fun i j => V.bl (decide (i < j))) (tDGet2 (tVar 3) (tVar 4) (tC (.int 0))) (tDGet (tVar 0) (tVar 4)))) [some (.ref g), some (.ref l), some (.ref m), some (.ref t), some (.int p.1), some (.int o.1)] H4 (decide (cf gs p.1 < p.2)) :=
        Evl.et_test (ev_i0 (g := fun i j => .bl (decide (i < j))) (ev_dget2 (c := 0) (Evl.ev_var rfl) (Evl.ev_var rfl) Evl.ev_c fz4.dk) (ev_dget (Evl.ev_var rfl) (Evl.ev_var rfl) (fun H5 e5 => by
          obtain ⟨od, k⟩ := (fz.to (e2.trans e3)).2
          exact .inr ⟨od, e5 _ _ (fz4.1 g _ (Ne.symm tg') k)⟩) cz))
      refine Evl.s_when (b := decide (o.1 < p.1) && decide (cf gs p.1 < p.2)) (Evl.et_and (Evl.et_test (ev_i0 (g := fun i j => .bl (decide (i < j))) (Evl.ev_var rfl) (Evl.ev_var rfl))) (fun _ => lt2)) (fun k H5 e5 => ?_) (fun _ H5 e5 => hD2 _ _ ⟨_, rfl⟩ e5)
      obtain ⟨ka, kb⟩ := (Bool.and_eq_true _ _).mp k
      have ka := of_decide_eq_true ka
      obtain ⟨k1, k2, k3⟩ := bnd pg bg kb
      have oN := pg.sub o ho
      have oc : cf gs o.1 = o.2 := cf_mem pg.ct.nd ho
      have o0 := (siz_int (pg.ct.ok o ho).2)
      obtain ⟨x, y⟩ := withC_ok (z := p.1) (n := cf gs p.1 + 1) hN.pw hN.sz hN.ln pg.ct pg.sub zN k2
      have ne : o.1 ≠ p.1 := by omega
      have wcf : cf (withC gs p.1 (cf gs p.1 + 1)) = adC (cf gs) p.1 1 := by
        funext t
        rw [withC_cf pg.ct k1]
        unfold adC
        by_cases e : t = p.1
        · subst e
          rw [if_pos rfl]
        · rw [if_neg e, if_neg e]
      have wo : cf (withC gs p.1 (cf gs p.1 + 1)) o.1 = o.2 := by
        rw [wcf]
        unfold adC
        rw [if_neg ne, oc]
      obtain ⟨x2, y2⟩ := withC_ok (z := o.1) (n := cf (withC gs p.1 (cf gs p.1 + 1)) o.1 + (0 - 1)) hN.pw hN.sz hN.ln x y oN (by rw [wo]; omega)
      refine Evl.s_when (b := false) (Evl.et_B (Evl.ev_is (fl_e (K := K) (wc_r (wc_e (Evl.ev_var rfl) (Evl.ev_var rfl) Evl.ev_c (rd_up e5 fz4.dk) pg.ct) (Evl.ev_var rfl) (ev_i0 (g := fun i j => .int (i - j)) Evl.ev_c Evl.ev_c) x) (Evl.ev_var rfl) x2 (withC_lot hN.pw x2 y2) (hl4.up e5) so) (congrArg V.bl (Bool.eq_false_iff.mpr fun fe => ?_)))) (fun z => nomatch z) (fun _ H6 e6 => hD2 _ _ ⟨_, rfl⟩ (e5.trans e6))
      have z := (withC_fit hN.pw hN.nd hN.sz hN.ln (sto_nn so) x y oN (d := 0 - 1) (by rw [wo]; omega) (by rw [wo]; omega)).mp fe
      rw [wcf] at z
      exact no_swap hN.nd (hb gs pg bg) wg zN oN ne (by rw [oc]; exact o0.1) ka k3 z
    · obtain ⟨x5, rfl⟩ := h
      exact hD' _ _ ⟨_, _, rfl⟩ (e2.trans (e3.trans e'))
theorem decI2 (i j : Int) : V.bl (decide (V.int i = V.int j)) = V.bl (decide (i = j)) := congrArg V.bl (decide_eq_decide.mpr ⟨V.int.inj, congrArg V.int⟩)
def spMo (K : PySem.W.Frag) : Sp := fun vs H Q _ => ∃ (g l k : Addr) (z c : Int) (N : List Int) (ps ks rs : List (Int × Int)), vs = [.ref g, .ref l, .ref k, .int z] ∧ SzN N ∧ z ∈ N ∧ H g = some (.dK (ps.map kc)) ∧ cnt ps z = some c ∧ 0 ≤ c ∧ c < 10 ^ 32 ∧ H k = some (.dK (ks.map kc)) ∧ PlN N ks ∧ cf ks z = 0 ∧ RnL K H l rs ∧ StoOk rs ∧ Fe N (unt rs) (cf ks) ∧
  ∀ d H', Evl.Ex H H' → 0 ≤ d → d ≤ c → Fe N (unt rs) (adC (cf ks) z d) → (d < c → ¬ Fe N (unt rs) (adC (cf ks) z (d + 1))) → Q (.int d) H'
theorem ok_mo (B : Bl mg) (D : Df K mg "_law_most_of" s__law_most_of ["plain", "runs", "kept", "size"]) (C__law_fits : Cg P w K mg base CX0 3 "_law_fits" (spFL K)) (C__law_with : Cg P w K mg base CX0 1 "_law_with" spWC) : Cg P w K mg base CX0 4 "_law_most_of" (spMo K) := by
  refine cg_of D sc__law_most_of (fun vs H Q E h => ?_) (fun f cdv A fr s H vs Q E hr hgd h => ?_)
  · obtain ⟨g, l, k, z, c, N, ps, ks, rs, rfl, _⟩ := h
    rfl
  · obtain ⟨g, l, k, z, c, N, ps, ks, rs, rfl, hN, zN, hg, cz, c0, c1, hk, pk, kz, hl, so, fe0, q⟩ := h
    refine ⟨_, (pss_cons (ps_par (i := 4) (j := 5) rfl sc__law_most_of.nd rfl rfl (by decide) rfl rfl (pa_cons pe_int (pa_cons (pe_dget (hu_of hr) (pv 0) (pv 3) (fun _ _ => rfl)) pa_nil)) (by rfl))
    (pss_cons (ps_for PassesOwn.never rfl (pi_range1 (by rfl) B.range (pa_cons pe_int pa_nil)) (pg_name (i := 6) sc__law_most_of.nd rfl (by first | exact Or.inl rfl | exact Or.inr rfl)) (pss_cons (ps_if (pt_cmpR op_eq (pv 4) (pv 5) (nomark _)) (pss_one ps_break) pss_nil)
    (pss_cons (ps_set (i := 7) sc__law_most_of.nd rfl (by first | exact Or.inl rfl | exact Or.inr rfl) (pe_op op_fdivW (pe_op op_add (pe_op op_add (pv 4) (pv 5)) pe_int) pe_int))
     (pss_one (ps_if (pt_val (pcg C__law_fits hr hgd (pa_cons (pcg C__law_with hr hgd (pa_cons (pv 2) (pa_cons (pv 3) (pa_cons (pv 7) pa_nil)))) (pa_cons (pv 1) pa_nil)))) (pss_one (ps_set (i := 4) sc__law_most_of.nd rfl (by first | exact Or.inl rfl | exact Or.inr rfl) (pv 7))) (pss_one (ps_set (i := 5) sc__law_most_of.nd rfl (by first | exact Or.inl rfl | exact Or.inr rfl) (pe_op op_sub (pv 7) pe_int))))))))
     (pss_one (ps_ret (pv 4))))), ?_⟩
    refine q_parP (P := fun x y H' => x = .int 0 ∧ y = .int c ∧ Evl.Ex H H') (fun Q2 q2 => (Evl.ev_c (v := .int 0)) H (Evl.Ex.refl H) _ fun H1 e1 => (ev_dget (Evl.ev_var rfl) (Evl.ev_var rfl) (fun H3 e3 => .inl (e3 _ _ hg)) cz) H1 e1 _ fun H2 e2 => q2 _ _ _ ⟨rfl, rfl, e1.trans e2⟩) ?_
    rintro _ _ H1 ⟨rfl, rfl, e1⟩
    refine q_fall (fun σ' H' => Evl.Ex H H' ∧ ∃ (d : Int) (x5 x6 x7 : Option V), σ' = [some (.ref g), some (.ref l), some (.ref k), some (.int z), some (.int d), x5, x6, x7] ∧ 0 ≤ d ∧ d ≤ c ∧ Fe N (unt rs) (adC (cf ks) z d) ∧ (d < c → ¬ Fe N (unt rs) (adC (cf ks) z (d + 1)))) ?_ (fun hz => ?_)
    · rintro σ' H' ⟨e', d, x5, x6, x7, rfl, d0, dc, fe, mx⟩
      exact Evl.s_ret (Evl.ev_var rfl) (fun H2 e2 => q d H2 (e'.trans e2) d0 dc fe mx)
    refine Evl.s_forR1 (n := 400) (Evl.ea_cons Evl.ev_c Evl.ea_nil) ⟨by decide, by decide⟩ (fun i σ' H' => Evl.Ex H H' ∧ ∃ (lo hi : Int) (x6 x7 : Option V), σ' = [some (.ref g), some (.ref l), some (.ref k), some (.int z), some (.int lo), some (.int hi), x6, x7] ∧ 0 ≤ lo ∧ lo ≤ hi ∧ hi ≤ c ∧ Fe N (unt rs) (adC (cf ks) z lo) ∧ (hi < c → ¬ Fe N (unt rs) (adC (cf ks) z (hi + 1))) ∧ (hi - lo) * 2 ^ i ≤ c) (fun H2 e2 => ⟨e1.trans e2, 0, c, _, _, rfl, Int.le_refl 0, c0, Int.le_refl c, ?_, fun h => absurd h (Int.lt_irrefl c), ?_⟩) ?_ ?_
    · refine (fe_congr hN.pw.pos fun t ht => ?_).mp fe0
      unfold adC
      split <;> omega
    · rw [Int.pow_zero, Int.mul_one]
      omega
    · rintro i σ' H2 hi2 ⟨e2, lo, hi, x6, x7, rfl, l0, lh, hc, fe, mx, sz⟩
      refine Evl.q_when (b := decide (lo = hi)) (Evl.et_test (Evl.ev_is (ev_eq (Evl.ev_var rfl) (Evl.ev_var rfl) rfl) (decI2 _ _))) (fun kq H3 e3 => ?_) (fun kq H3 e3 => ?_)
      · have kq := of_decide_eq_true kq
        subst kq
        exact hz _ _ ⟨e2.trans e3, lo, _, _, _, rfl, l0, hc, fe, mx⟩
      · have kq : ¬ lo = hi := of_decide_eq_false kq
        refine Evl.q_asg (v := .int ((lo + hi + 1) / 2)) (ev_i (g := fun i j => .int (i / j)) (ev_i0 (g := fun i j => .int (i + j)) (ev_i0 (g := fun i j => .int (i + j)) (Evl.ev_var rfl) (Evl.ev_var rfl)) Evl.ev_c) Evl.ev_c (divW (by decide) (by decide))) (fun H4 e4 => ?_)
        have m0 : lo < (lo + hi + 1) / 2 ∧ (lo + hi + 1) / 2 ≤ hi ∧ 2 * (hi - (lo + hi + 1) / 2) ≤ hi - lo ∧ 2 * ((lo + hi + 1) / 2 - 1 - lo) ≤ hi - lo := by omega
        generalize (lo + hi + 1) / 2 = m at m0
        obtain ⟨m1, m2, m3, m4⟩ := m0
        have E4 := e2.trans (e3.trans e4)
        have big : (10 : Int) ^ 32 < 10 ^ 200 := by decide +kernel
        have hn : (cf ks z + m).natAbs < 10 ^ 200 := by omega
        have P2 : (0 : Int) ≤ 2 ^ i := Int.pow_nonneg (by decide)
        refine Evl.s_if (b := fitB (srt (withC ks z (cf ks z + m))) rs) (Evl.et_B (wcf_e hN pk zN (Evl.ev_var rfl) (Evl.ev_var rfl) (Evl.ev_var rfl) (.inl (E4 _ _ hk)) (Evl.ev_var rfl) (hl.up E4) so (by omega) hn (withC_fit hN.pw hN.nd hN.sz hN.ln (sto_nn so) pk.ct pk.sub zN (by omega) hn).symm)) (fun kb H5 e5 => ?_) (fun kb H5 e5 => ?_)
        · have fm := (withC_fit hN.pw hN.nd hN.sz hN.ln (sto_nn so) pk.ct pk.sub zN (by omega) hn).mp kb
          refine Evl.s_asg (Evl.ev_var rfl) (fun H6 e6 => ⟨E4.trans (e5.trans e6), m, hi, _, _, rfl, by omega, m2, hc, fm, mx, ?_⟩)
          have z1 := Int.mul_le_mul_of_nonneg_right m3 P2
          rw [Int.pow_succ, Int.mul_comm (2 ^ i) 2, ← Int.mul_assoc, Int.mul_comm (hi - m) 2]
          omega
        · have fm : ¬ Fe N (unt rs) (adC (cf ks) z m) := fun fe => by
            rw [(withC_fit hN.pw hN.nd hN.sz hN.ln (sto_nn so) pk.ct pk.sub zN (by omega) hn).mpr fe] at kb
            cases kb
          refine Evl.s_asg (v := .int (m - 1)) (ev_i0 (g := fun i j => .int (i - j)) (Evl.ev_var rfl) Evl.ev_c) (fun H6 e6 => ⟨E4.trans (e5.trans e6), lo, m - 1, _, _, rfl, l0, by omega, by omega, fe, fun _ => ?_, ?_⟩)
          · rw [show m - 1 + 1 = m by omega]
            exact fm
          · have z1 := Int.mul_le_mul_of_nonneg_right m4 P2
            rw [Int.pow_succ, Int.mul_comm (2 ^ i) 2, ← Int.mul_assoc, Int.mul_comm (m - 1 - lo) 2]
            omega
    · rintro σ' H2 ⟨e2, lo, hi, x6, x7, rfl, l0, lh, hc, fe, mx, sz⟩
      have e : lo = hi := by
        have b : (10 : Int) ^ 32 < 2 ^ (400 : Int).toNat := by decide +kernel
        generalize (2 : Int) ^ (400 : Int).toNat = W at b sz
        rcases Int.lt_or_eq_of_le lh with h | h
        · have := Int.mul_le_mul_of_nonneg_right (show 1 ≤ hi - lo by omega) (show 0 ≤ W by omega)
          omega
        · exact h
      subst e
      exact hz _ _ ⟨e2, lo, _, _, _, rfl, l0, hc, fe, mx⟩
theorem wcf56 {X : List (Int × Int)} {z w : Int} (ct : Cts X) (h : 0 ≤ cf X z + w) : cf (withC X z (cf X z + w)) = adC (cf X) z w := by
  funext t
  rw [withC_cf ct h]
  unfold adC
  by_cases e : t = z
  · subst e
    rw [if_pos rfl]
  · rw [if_neg e, if_neg e]
def spWantB (K : PySem.W.Frag) (CL CS : Addr) : Sp := fun vs H Q _ => ∃ (d g l a b : Addr) (ps rs : List (Int × Int)), vs = [.ref d, .ref g, .ref l, .ref a, .ref b] ∧ Dice H d ∧ g ≠ d ∧ l ≠ d ∧ H g = some (.dK (ps.map kc)) ∧ Cts ps ∧ (∀ p ∈ ps, p.2 < 10 ^ 32) ∧ LotAt K CL H a (srt ps) ∧ LotC (srt ps) ∧ RnL K H l rs ∧ StoAt K CS H b rs ∧ StoOk rs ∧ ∀ H', Kd d H H' → Q (.bl true) H'
theorem ok_wantB (B : Bl mg) {CL CS : Addr} (LT_Lot : LotT K mg CL) (D : Df K mg "_law_wanted_right" s__law_wanted_right ["dice", "plain", "runs", "lot", "store"]) (C__law_roll : Cg P w K mg base CX0 1 "_law_roll" spRoll) (C__law_number : Cg P w K mg base CX0 1 "_law_number" spNum2) (C__law_counts_of : Cg P w K mg base CX0 3 "_law_counts_of" (spCof K CL)) (C_keep_all_of : Cg P w K mg base CX0 10 "keep_all_of" (spAll K CL CS)) (C__law_fits : Cg P w K mg base CX0 3 "_law_fits" (spFL K)) (C__law_with : Cg P w K mg base CX0 1 "_law_with" spWC) (C__law_most_of : Cg P w K mg base CX0 4 "_law_most_of" (spMo K)) (C__law_is_part : Cg P w K mg base CX0 1 "_law_is_part" spLip) : Cg P w K mg base CX0 11 "_law_wanted_right" (spWantB K CL CS) := by
  refine cg_of D sc__law_wanted_right (fun vs H Q E h => ?_) (fun f cdv A fr s H vs Q E hr hgd h => ?_)
  · obtain ⟨d, g, l, a, b, ps, rs, rfl, _⟩ := h
    rfl
  · obtain ⟨d, g, l, a, b, ps, rs, rfl, hd, gd, ld, hg, ct, bd, hl, lc, hR, hs, so, q⟩ := h
    refine ⟨_, (pss_cons (ps_set (i := 5) sc__law_wanted_right.nd rfl (by first | exact Or.inl rfl | exact Or.inr rfl) (pe_callTy call_tuple_of (by rfl) B.tuple bt_tuple (pa_cons (pe_lc (own := [("size", 8)]) (g := (gName 8)) rfl sc__law_wanted_right.nd (pi_list (pe_callB (call_sortedDI rfl) (by rfl) B.sorted bt_sorted (pa_cons (pv 1) pa_nil))) (blkOk_by (own := [("size", 8)]) (N := n__law_wanted_right) (sc := defScope s__law_wanted_right) (by decide +kernel)) (fun _ _ _ _ _ => (pg_name (i := 8) sc__law_wanted_right.nd rfl (by first | exact Or.inl rfl | exact Or.inr rfl))) (fun _ _ _ _ _ => (pts_one (pt_cmpR op_eq (pcg C__law_roll hr hgd (pa_cons (pv 0) (pa_cons pe_int pa_nil))) pe_int (nomark _)))) (fun _ _ _ _ _ => (pv 8))) pa_nil)))
    (pss_cons (ps_set (i := 6) sc__law_wanted_right.nd rfl (by first | exact Or.inl rfl | exact Or.inr rfl) (pe_callTy (call_dictP rfl) (by rfl) B.dict bt_dict (pa_cons (pe_lc (own := [("size", 8)]) (g := (gName 8)) rfl sc__law_wanted_right.nd (pi_tup (pv 5)) (blkOk_by (own := [("size", 8)]) (N := n__law_wanted_right) (sc := defScope s__law_wanted_right) (by decide +kernel)) (fun _ _ _ _ _ => (pg_name (i := 8) sc__law_wanted_right.nd rfl (by first | exact Or.inl rfl | exact Or.inr rfl))) (fun _ _ _ _ _ => pts_nil) (fun _ _ _ _ _ => (pe_tup (pa_cons (pv 8) (pa_cons (pe_dget (hu_of hr) (pv 1) (pv 8) (fun _ _ => rfl)) pa_nil))))) pa_nil)))
     (pss_cons (ps_set (i := 7) sc__law_wanted_right.nd rfl (by first | exact Or.inl rfl | exact Or.inr rfl) (pcg C__law_counts_of hr hgd (pa_cons (pcg C_keep_all_of hr hgd (pa_cons (pv 3) (pa_cons (pv 4) (pa_cons (pv 5) pa_nil)))) pa_nil)))
      (pss_cons (ps_if (pt_not (pt_val (pcg C__law_fits hr hgd (pa_cons (pv 6) (pa_cons (pv 2) pa_nil))))) (pss_one (ps_ret (pe_cmpR op_isN (pv 7) pe_non (nomark _)))) pss_nil)
       (pss_cons (ps_for PassesOwn.never rfl (pi_list (pe_callB (call_sortedDI rfl) (by rfl) B.sorted bt_sorted (pa_cons (pv 1) pa_nil))) (pg_name (i := 8) sc__law_wanted_right.nd rfl (by first | exact Or.inl rfl | exact Or.inr rfl)) (pss_one (ps_if (pt_cmpR op_notIn_seq (pv 8) (pv 5) (by with_unfolding_all rfl)) (pss_one (ps_set (i := 6) sc__law_wanted_right.nd rfl (by first | exact Or.inl rfl | exact Or.inr rfl) (pcg C__law_with hr hgd (pa_cons (pv 6) (pa_cons (pv 8) (pa_cons (pcg C__law_most_of hr hgd (pa_cons (pv 1) (pa_cons (pv 2) (pa_cons (pv 6) (pa_cons (pv 8) pa_nil))))) pa_nil)))))) pss_nil)))
        (pss_cons (ps_if (pw_or (pt_cmpR op_isN (pv 7) pe_non (nomark _)) (pw_or (pt_not (pt_val (pcg C__law_is_part hr hgd (pa_cons (pv 7) (pa_cons (pv 1) pa_nil))))) (pw_or1 (pt_not (pt_val (pcg C__law_fits hr hgd (pa_cons (pv 7) (pa_cons (pv 2) pa_nil)))))))).pt (pss_one (ps_ret pe_bl)) pss_nil)
         (pss_cons (ps_if (pt_cmpR (op_neD hr.units) (pe_lc (own := [("size", 8)]) (g := (gName 8)) rfl sc__law_wanted_right.nd (pi_tup (pv 5)) (blkOk_by (own := [("size", 8)]) (N := n__law_wanted_right) (sc := defScope s__law_wanted_right) (by decide +kernel)) (fun _ _ _ _ _ => (pg_name (i := 8) sc__law_wanted_right.nd rfl (by first | exact Or.inl rfl | exact Or.inr rfl))) (fun _ _ _ _ _ => (pts_one (pt_cmpR op_ne (pe_dget2 (hu_of hr) (pv 7) (pv 8) pe_int ⟨rfl, rfl, rfl, rfl⟩) (pe_dget (hu_of hr) (pv 1) (pv 8) (fun _ _ => rfl)) (nomark _)))) (fun _ _ _ _ _ => (pv 8))) (pe_lst pa_nil) (nomark _)) (pss_one (ps_ret pe_bl)) pss_nil)
          (pss_one (ps_ret (pe_cmpR op_eq (pcg C__law_number hr hgd (pa_cons (pv 7) pa_nil)) (pcg C__law_number hr hgd (pa_cons (pv 6) pa_nil)) (nomark _))))))))))), ?_⟩
    have nd := ct.nd
    have l12 := ct.ln
    have hN := szn_of lc
    have ls := hN.ln
    refine q_asgP (P := fun v H' => ∃ t, ∃ S : List Int, v = .ref t ∧ Kd d H H' ∧ SqT K H' t (S.map V.int) ∧ S.Sublist ((srt ps).map Prod.fst)) (fun Q2 q2 => tup_rollL (K := K) (el_sortD (Evl.ev_var rfl) (.inl hg) nd (by omega)) hd (by omega) (fun _ => rfl) (fun n hn H1 k1 Q q => ⟨.ref d, rfl, d, 3, rfl, by decide, by decide, k1.2, fun y H2 y0 y1 hd2 k2 => ⟨rfl, _, rfl, q _ _ (Kd.but hd2 k2)⟩⟩) (fun n H1 => Evl.ev_var rfl) _ (fun l S H1 k1 hl sb => q2 _ _ ⟨l, S, rfl, k1, hl, sb⟩)) ?_
    rintro _ H1 ⟨t, S, rfl, k1, ht, sb⟩
    have asc : S.Pairwise (· < ·) := List.Pairwise.sublist sb lc.asc
    have sub : ∀ z ∈ S, z ∈ (srt ps).map Prod.fst := fun z hz => sb.subset hz
    have Sl : S.length ≤ 12 := Nat.le_trans sb.length_le ls
    have hg1 := k1.1 g _ gd hg
    have hl1 := hl.kd hd k1
    have hs1 := StoAt.kd hd k1 hs
    have hR1 := hR.kd hd k1 ld
    have cN : ∀ s ∈ (srt ps).map Prod.fst, cnt ps s = some (cf (srt ps) s) ∧ cf (srt ps) s < 10 ^ 32 := fun s hs => by
      obtain ⟨p, hp, e⟩ := List.mem_map.mp hs
      have m := (srt_perm ps).mem_iff.mp hp
      rw [← e, cf_mem lc.ct.nd hp]
      exact ⟨(cnt_mem nd).mp (show (p.1, p.2) ∈ ps from m), bd p m⟩
    have kl := kept_lotc lc asc sub
    refine q_rdE (ps := kept (srt ps) S) (evr_dict (K := K) (fun H2 e2 Q q => lc_tupE (K := K) (R := RP K) (e := fun s => (s, (cnt (srt ps) s).getD 0)) (fun _ _ _ _ e r => r.ex e) (fun _ _ _ _ _ _ hl r => r.upd hl) (etu_ev (Evl.ev_var rfl) ht) (by omega) (fun _ => rfl) (fun n hn H3 e3 => evr_pair (Evl.ev_var rfl) (ev_dget (Evl.ev_var rfl) (Evl.ev_var rfl) (fun H4 e4 => .inl ((e3.trans e4) _ _ hg1)) (cN n (sub n hn)).1)) H2 e2 Q q) (by rw [kept_fst]; exact asc.imp fun {a b} (h : a < b) (e : a = b) => by omega)) (fun k H2 e2 hk => ?_)
    have k2 := k1.to e2
    have hl2 := hl1.up e2
    have hs2 := hs1.up e2
    refine q_asgP (P := fun v H' => Evl.Ex H2 H' ∧ ((v = .non ∧ fitB (kept (srt ps) S) rs = false) ∨ (∃ o fs, v = .ref o ∧ H' o = some (.dK (fs.map kc)) ∧ LotC fs ∧ (∀ p ∈ fs, p.1 ∈ (srt ps).map Prod.fst) ∧ fitB fs rs = true ∧ fs ∈ partsOf (srt ps) ∧ (∀ s ∈ S, cf fs s = cf (srt ps) s) ∧ ∀ X ∈ partsOf (srt ps), fitB X rs = true → (∀ s ∈ S, cf X s = cf (srt ps) s) → numR X ≤ numR fs))) (fun Q2 q2 => ⟨.ref a, rfl, .ref b, rfl, .ref t, rfl, a, b, t, srt ps, rs, S, rfl, hl2, lc, hs2, so, Evl.ex_t e2 ht, asc, sub, fun fk H3 e3 => .inl ⟨rfl, fun H4 e4 => q2 _ _ ⟨e3.trans e4, .inl ⟨rfl, fk⟩⟩⟩, fun fk c fs H3 e3 h1 h2 h3 h4 h5 => .inr ⟨c, fs, rfl, h1, fun o H4 e4 ho => q2 _ _ ⟨e3.trans e4, .inr ⟨o, fs, rfl, ho, h2, h3, h4, best_kept lc so asc sub h2 h3 h4 h5⟩⟩⟩⟩) ?_
    rintro v H3 ⟨e3, hv⟩
    have hk3 := e3 _ _ hk
    have sk : srt (kept (srt ps) S) = kept (srt ps) S := asc_unique (srt_asc kl.ct.nd) kl.asc (srt_perm _)
    refine Evl.q_when (b := !fitB (kept (srt ps) S) rs) (Evl.et_not (Evl.et_B (Evl.ev_is (fl_e (evr_rd (Evl.ev_var rfl) hk3) (Evl.ev_var rfl) kl.ct (by rw [sk]; exact kl) (hR1.up (e2.trans e3)) so) (by rw [sk])))) (fun z H4 e4 => ?_) (fun z H4 e4 => ?_)
    · rcases hv with ⟨rfl, _⟩ | ⟨o, fs, rfl, _, hf, hkf, ff, pf, sf, _⟩
      · exact Evl.s_ret (Evl.ev_is (ev_isN (Evl.ev_var rfl)) rfl) (fun H5 e5 => q H5 (k2.to (e3.trans (e4.trans e5))))
      · rw [none_kept lc so asc sub pf ff sf] at z
        cases z
    · have fk : fitB (kept (srt ps) S) rs = true := by cases hf : fitB (kept (srt ps) S) rs with
        | true => rfl
        | false => rw [hf] at z; cases z
      rcases hv with ⟨_, fk'⟩ | ⟨o, fs, rfl, ho, hf, hkf, ff, pf, sf, bf⟩
      · rw [fk] at fk'
        cases fk'
      have E4 := e3.trans e4
      have kk : ∀ p ∈ kept (srt ps) S, p.1 ∈ (srt ps).map Prod.fst := fun p hp => by
        have : p.1 ∈ (kept (srt ps) S).map Prod.fst := List.mem_map_of_mem hp
        rw [kept_fst] at this
        exact sub _ this
      have fe0 := part_fe lc so kl kk fk
      refine Evl.q_forNLn (xs := ((srt ps).map Prod.fst).map V.int) (el_sortD (Evl.ev_var rfl) (.inl ((e2.trans E4) _ _ hg1)) nd (by omega))
        (fun p i σ' H' => Evl.Ex H4 H' ∧ H' p = some (.lst (((srt ps).map Prod.fst).map V.int)) ∧ ∃ (u : Addr) (X : List (Int × Int)) (x8 : Option V), σ' = [some (.ref d), some (.ref g), some (.ref l), some (.ref a), some (.ref b), some (.ref t), some (.ref u), some (.ref o), x8] ∧ H' u = some (.dK (X.map kc)) ∧ PlN ((srt ps).map Prod.fst) X ∧ Fe ((srt ps).map Prod.fst) (unt rs) (cf X) ∧ Fil ((srt ps).map Prod.fst) (cf (srt ps)) (unt rs) (cf (kept (srt ps) S)) ((((srt ps).map Prod.fst).take i).filter fun z => !decide (z ∈ S)) (cf X))
        (fun p H5 np e5 hp => ⟨e5, hp, k, _, _, rfl, e5 _ _ (E4 _ _ hk), ⟨kl.ct, kk⟩, fe0, .nil⟩) (fun p i σ' H' _ h => SqL.of h.2.1) ?_ ?_
      · rintro p i x σ' H5 hxi ⟨e5, hp, u, X, x8, rfl, hu, pX, fX, flX⟩
        rw [List.getElem?_map] at hxi
        obtain ⟨z, hz, rfl⟩ := Option.map_eq_some_iff.mp hxi
        have zN := List.mem_of_getElem? hz
        have st : ((srt ps).map Prod.fst).take (i + 1) = ((srt ps).map Prod.fst).take i ++ [z] := by rw [List.take_add_one, hz]; rfl
        have nin : z ∉ ((srt ps).map Prod.fst).take i := fun h => by
          have a2 := lc.asc
          unfold Asc at a2
          obtain ⟨hi, rfl⟩ := List.getElem?_eq_some_iff.mp hz
          obtain ⟨j, hj, e⟩ := List.mem_take_iff_getElem.mp h
          have := (List.getElem_inj lc.ct.nd).mp e
          omega
        obtain ⟨cz, cb⟩ := cN z zN
        refine Evl.s_when (b := !decide (z ∈ S)) (Evl.et_test (ev_ninTI (Evl.ev_var rfl) (Evl.ev_var rfl) (Evl.ex_t (e2.trans (E4.trans e5)) ht))) (fun kz H6 e6 => ?_) (fun kz H6 e6 => ⟨e5.trans e6, e6 _ _ hp, u, X, _, rfl, e6 _ _ hu, pX, fX, ?_⟩)
        · have zS : z ∉ S := fun h => by
            rw [decide_eq_true h] at kz
            cases kz
          have fl2 : (((srt ps).map Prod.fst).take (i + 1)).filter (fun z => !decide (z ∈ S)) = (((srt ps).map Prod.fst).take i).filter (fun z => !decide (z ∈ S)) ++ [z] := by
            rw [st, List.filter_append, show [z].filter (fun z => !decide (z ∈ S)) = [z] by rw [List.filter_cons, kz]; rfl]
          have X0 : cf X z = 0 := by
            rw [flX.keep fun h => nin (List.mem_filter.mp h).1, kept_cf lc asc sub, if_neg zS]
          have E6 := E4.trans (e5.trans e6)
          refine ⟨.ref u, rfl, .int z, rfl, .ref g, rfl, .ref l, rfl, .ref u, rfl, .int z, rfl, g, l, u, z, cf (srt ps) z, _, ps, X, rs, rfl, hN, zN, (e2.trans E6) _ _ hg1, cz, cf_nn lc.ct z, cb, e6 _ _ hu, pX, X0, hR1.up (e2.trans E6), so, fX, fun w H7 e7 w0 wc fw mw => ⟨u, z, w, X, rfl, .inl ((e6.trans e7) _ _ hu), pX.ct, fun v H8 e8 hv => ⟨e5.trans (e6.trans (e7.trans e8)), (e6.trans (e7.trans e8)) _ _ hp, v, withC X z (cf X z + w), _, rfl, hv, ?_, ?_, ?_⟩⟩⟩
          · have big : (10 : Int) ^ 32 < 10 ^ 200 := by decide +kernel
            obtain ⟨a1, a2⟩ := withC_ok (z := z) (n := cf X z + w) hN.pw hN.sz hN.ln pX.ct pX.sub zN (by omega)
            exact ⟨a1, a2⟩
          · rw [wcf56 pX.ct (by omega)]
            exact fw
          · rw [fl2, wcf56 pX.ct (by omega)]
            exact flX.snoc w0 wc fw mw
        · rw [st, List.filter_append, show [z].filter (fun z => !decide (z ∈ S)) = [] by rw [List.filter_cons, kz]; rfl, List.append_nil]
          exact flX
      · rintro p _ H5 ⟨e5, hp, u, X, x8, rfl, hu, pX, fX, flX⟩
        rw [List.length_map, List.take_of_length_le (Nat.le_refl _)] at flX
        have ho5 := (e4.trans e5) _ _ ho
        have E5 := E4.trans e5
        have hg5 := (e2.trans E5) _ _ hg1
        have sf2 : srt fs = fs := asc_unique (srt_asc hf.ct.nd) hf.asc (srt_perm _)
        have pb : partB fs ps = true := by
          unfold partB
          refine List.all_eq_true.mpr fun x hx => decide_eq_true ?_
          have b := ((part_of lc pf).2.2 x.1).2
          rw [cf_mem hf.ct.nd hx, cf_perm nd (srt_perm ps)] at b
          exact b
        refine Evl.q_when (b := false) (Evl.et_is (Evl.et_or (a := false) (b := false) (Evl.et_is (Evl.et_test (ev_isN (Evl.ev_var rfl))) rfl) (fun _ => Evl.et_is (Evl.et_or (a := false) (b := false) (Evl.et_is (Evl.et_not (Evl.et_B (Evl.ev_call (vs := [.ref o, .ref g]) (z := .bl (partB fs ps)) (Evl.ea_cons (Evl.ev_var rfl) (Evl.ea_cons (Evl.ev_var rfl) Evl.ea_nil)) (fun H6 e6 Q q E => ⟨o, g, fs, ps, rfl, e6 _ _ ho5, e6 _ _ hg5, hf.ct, q⟩)))) (by rw [pb]; rfl)) (fun _ => Evl.et_is (Evl.et_not (Evl.et_B (fl_e (evr_rd (Evl.ev_var rfl) ho5) (Evl.ev_var rfl) hf.ct (by rw [sf2]; exact hf) (hR1.up (e2.trans E5)) so))) (by rw [sf2, ff]; rfl))) rfl)) rfl) (fun z => nomatch z) (fun _ H6 e6 => ?_)
        have fn : S.filter (fun s => !decide (cf fs s = cf (srt ps) s)) = [] := by
          rw [List.filter_eq_nil_iff]
          intro s hs
          rw [sf s hs, decide_eq_true rfl]
          exact Bool.false_ne_true
        refine Evl.q_when (b := false) (Evl.et_is (Evl.et_test (ev_neD (K := K) (ed_ofL (ds := []) (Ck.el_is (ys := []) (el_lcN (K := K) (fun s => !decide (cf fs s = cf (srt ps) s)) V.int (etu_ev (Evl.ev_var rfl) (Evl.ex_t (e2.trans (E5.trans e6)) ht)) (by omega) (fun _ => rfl) (fun s hs H7 e7 => ?_) (fun s hs _ H7 e7 => Evl.ev_var rfl)) (by rw [fn]; rfl)) (fun _ _ => .nil)) (e := .list []) (ed_lst ed_nil) (shaped_lints []) (shaped_lints []))) rfl) (fun z => nomatch z) (fun _ H7 e7 => ?_)
        · refine Evl.et_test (Evl.ev_is (ev_ne (ev_dget2 (c := 0) (Evl.ev_var rfl) (Evl.ev_var rfl) Evl.ev_c (.inl ((e6.trans e7) _ _ ho5))) (ev_dget (Evl.ev_var rfl) (Evl.ev_var rfl) (fun H8 e8 => .inl ((e6.trans (e7.trans e8)) _ _ hg5)) (cN s (sub s hs)).1) rfl) ?_)
          exact congrArg V.bl (congrArg (!·) (decide_eq_decide.mpr ⟨V.int.inj, congrArg V.int⟩))
        · have lX := withC_lot hN.pw pX.ct pX.sub
          have cX : cf (srt X) = cf X := cf_perm pX.ct.nd (srt_perm X)
          have kX : ∀ p ∈ srt X, p.1 ∈ (srt ps).map Prod.fst := fun p hp => pX.sub p ((srt_perm X).mem_iff.mp hp)
          have ffX : fitB (srt X) rs = true := (fit_srt hN.pw hN.nd (sto_nn so) pX.ct pX.sub).mpr fX
          obtain ⟨b1, b2, b3⟩ := best_kept (fs := srt X) lc so asc sub lX kX ffX (by rw [cX]; exact flX)
          have n1 := b3 fs pf ff sf
          have n2 := bf (srt X) b1 ffX b2
          rw [numR_perm (srt_perm X)] at n1 n2
          have ne : numR fs = numR X := by omega
          refine Evl.s_ret (Evl.ev_is (ev_eq (ev_call1 (Evl.ev_var rfl) (num_v ((e6.trans e7) _ _ ho5) hf.ct.ln)) (ev_call1 (Evl.ev_var rfl) (num_v ((e6.trans e7) _ _ hu) pX.ct.ln)) rfl) (by rw [ne, decide_eq_true rfl])) (fun H8 e8 => q H8 (k2.to (E5.trans (e6.trans (e7.trans e8)))))
def spRight (K : PySem.W.Frag) : Sp := fun vs H Q _ => ∃ d, vs = [.ref d] ∧ Dice H d ∧ ∀ H', Kd d H H' → Q (.bl true) H'
theorem keepC_e {CL CS : Addr} {dsc : Bool} {ta tb : TE} {σ : L2.St} {H : Hp} {qs ss : List (Int × Int)} (ha : Elot K CL ta σ H qs) (hb : Esto K CS tb σ H ss) (lc : LotC qs) (so : StoOk ss) : ∀ H1, Evl.Ex H H1 → ∀ Q : VK, (∀ o fs H2, H1 o = none → Evl.Ex H1 H2 → H2 o = some (.dK (fs.map kc)) → LotC fs → (∀ p ∈ fs, p.1 ∈ qs.map Prod.fst) → fitB fs ss = true → Fil (qs.map Prod.fst) (cf qs) (unt ss) (fun _ => 0) (if dsc then (qs.map Prod.fst).reverse else qs.map Prod.fst) (cf fs) → Q (.ref o) H2) →
    tProp CL (spCounts K CL) [] E0 (tCall (spKeep K CL CS dsc) [] E0 (tCons ta (tCons tb tNil))) σ H1 Q := fun H1 e Q q => ha H1 e _ fun a H2 e2 hl => hb H2 (e.trans e2) _ fun b H3 e3 hs =>
  ⟨a, b, qs, ss, rfl, hl.up e3, lc, hs, so, fun c fs H4 e4 h0 h1 h2 h3 h4 => by
    obtain ⟨dx, t1, t2, d, ts, x1, _⟩ := h0.ex
    exact ⟨c, dx, _, rfl, x1, c, fs, rfl, h0, fun p H5 e5 np hp => q p fs H5 (Evl.fresh_back ((e2.trans e3).trans e4) np) ((e2.trans e3).trans (e4.trans e5)) hp h1 h2 h3 h4⟩⟩
theorem keepL_e {CL CS : Addr} {dsc : Bool} {ta tb : TE} {σ : L2.St} {H : Hp} {qs ss : List (Int × Int)} (ha : Elot K CL ta σ H qs) (hb : Esto K CS tb σ H ss) (lc : LotC qs) (so : StoOk ss) : ∀ H1, Evl.Ex H H1 → ∀ Q : VK, (∀ c fs H2, Evl.Ex H1 H2 → LotAt K CL H2 c fs → LotC fs → (∀ p ∈ fs, p.1 ∈ qs.map Prod.fst) → fitB fs ss = true → Fil (qs.map Prod.fst) (cf qs) (unt ss) (fun _ => 0) (if dsc then (qs.map Prod.fst).reverse else qs.map Prod.fst) (cf fs) → Q (.ref c) H2) →
    tCall (spKeep K CL CS dsc) [] E0 (tCons ta (tCons tb tNil)) σ H1 Q := fun H1 e Q q => ha H1 e _ fun a H2 e2 hl => hb H2 (e.trans e2) _ fun b H3 e3 hs =>
  ⟨a, b, qs, ss, rfl, hl.up e3, lc, hs, so, fun c fs H4 e4 h0 h1 h2 h3 h4 => q c fs H4 ((e2.trans e3).trans e4) h0 h1 h2 h3 h4⟩
theorem topT {qs ss fs : List (Int × Int)} (lc : LotC qs) (so : StoOk ss) (hf : LotC fs) (hk : ∀ p ∈ fs, p.1 ∈ qs.map Prod.fst) (ff : fitB fs ss = true) (f : Fil (qs.map Prod.fst) (cf qs) (unt ss) (fun _ => 0) (qs.map Prod.fst) (cf fs)) : fs ∈ partsOf qs ∧ TopN ((Fit qs ss).map numR) (numR fs) := by
  obtain ⟨b1, b2⟩ := best_things lc so hf hk f
  refine ⟨b1, List.mem_map_of_mem (fit_mem.mpr ⟨b1, ff⟩), fun y hy => ?_⟩
  obtain ⟨X, hX, rfl⟩ := List.mem_map.mp hy
  exact b2 X (fit_mem.mp hX).1 (fit_mem.mp hX).2
theorem topW {qs ss fs : List (Int × Int)} (lc : LotC qs) (so : StoOk ss) (hf : LotC fs) (hk : ∀ p ∈ fs, p.1 ∈ qs.map Prod.fst) (ff : fitB fs ss = true) (f : Fil (qs.map Prod.fst) (cf qs) (unt ss) (fun _ => 0) (qs.map Prod.fst).reverse (cf fs)) : fs ∈ partsOf qs ∧ TopN ((Fit qs ss).map tot) (tot fs) := by
  obtain ⟨b1, b2⟩ := best_total lc so hf hk f
  refine ⟨b1, List.mem_map_of_mem (fit_mem.mpr ⟨b1, ff⟩), fun y hy => ?_⟩
  obtain ⟨X, hX, rfl⟩ := List.mem_map.mp hy
  exact b2 X (fit_mem.mp hX).1 (fit_mem.mp hX).2
theorem cf_out {N : List Int} {X : List (Int × Int)} (hk : ∀ p ∈ X, p.1 ∈ N) {t : Int} (ht : t ∉ N) : cf X t = 0 := by
  unfold cf
  cases e : cnt X t with
  | none => rfl
  | some v =>
    have m := cnt_key.mpr (show (cnt X t).isSome = true by rw [e]; rfl)
    obtain ⟨p, hp, e2⟩ := List.mem_map.mp m
    exact absurd (e2 ▸ hk p hp) ht
theorem best_all {qs ss fs : List (Int × Int)} {w : Int → Int} (lc : LotC qs) (so : StoOk ss) (hf : LotC fs) (pf : fs ∈ partsOf qs) (ff : fitB fs ss = true) (wp : ∀ t ∈ qs.map Prod.fst, 0 < w t) (bw : BestW (qs.map Prod.fst) (cf qs) (unt ss) w (cf fs)) : decide (fs = qs) = fitB qs ss := by
  refine bool_iff ?_
  rw [decide_eq_true_eq]
  obtain ⟨_, kf, bf⟩ := part_of lc pf
  constructor
  · intro e
    rw [← e]
    exact ff
  · intro h
    refine lot_cf hf lc fun t => ?_
    by_cases m : t ∈ qs.map Prod.fst
    · exact wsum_pt (fun s hs => ⟨(bf s).2, wp s hs⟩) (bw (cf qs) (fun s hs => ⟨cf_nn lc.ct s, Int.le_refl _⟩) (part_fe lc so lc (fun p hp => List.mem_map_of_mem hp) h)) t m
    · rw [cf_out kf m, cf_out (fun p hp => List.mem_map_of_mem hp) m]
theorem eqP_srt {fs ps : List (Int × Int)} (hf : LotC fs) (ct : Cts ps) : eqP fs ps = decide (fs = srt ps) := by
  refine bool_iff ?_
  rw [eqP_iff hf.ct.nd ct.nd, decide_eq_true_eq]
  constructor
  · intro h
    exact asc_unique hf.asc (srt_asc ct.nd) (h.trans (srt_perm ps).symm)
  · intro h
    rw [h]
    exact srt_perm ps
theorem fit_more {X rs : List (Int × Int)} {r : Int × Int} (hX : Cts X) (h0 : 0 ≤ r.1 ∧ 0 ≤ r.2) (h : fitB X rs = true) : fitB X (rs ++ [r]) = true := by
  unfold fitB at h ⊢
  rw [List.all_eq_true] at h ⊢
  intro s hs
  have a := of_decide_eq_true (h s hs)
  refine decide_eq_true ?_
  rw [unt_app]
  have b : 0 ≤ unt [r] s := by
    show 0 ≤ r.2 * (r.1 / s) + 0
    have := Int.mul_nonneg h0.2 (Int.ediv_nonneg h0.1 (Int.le_of_lt (cts_pos hX s hs).1))
    omega
  omega
theorem eqK_e {ta tb : TE} {σ : L2.St} {H : Hp} {P R : List (Int × Int)} (h1 : EvR RD ta σ H P) (h2 : EvR RD tb σ H R) : Evl.Ev (tOp (fun x y H Q => ∃ a b as bs, x = .ref a ∧ y = .ref b ∧ Dk H a as ∧ Dk H b bs ∧ Q (.bl (eqP as bs)) H) ta tb) σ H (.bl (eqP P R)) := fun H1 e Q q => h1 H1 e _ fun v H2 e2 hv => h2 H2 (e.trans e2) _ fun u H3 e3 hu => by
  obtain ⟨a, rfl, ha⟩ := hv
  obtain ⟨b, rfl, hb⟩ := hu
  exact ⟨a, b, P, R, rfl, rfl, .inl (e3 _ _ ha), .inl hb, q H3 (e2.trans e3)⟩
theorem topN_eq {ns : List Int} {n m : Int} (h1 : TopN ns n) (h2 : TopN ns m) : n = m := Int.le_antisymm (h2.2 n h1.1) (h1.2 m h2.1)
theorem gr_sum {rs : List (Int × Int)} (h : GrR rs) : ((jr rs).map fun r => r.2).sum ≤ 5 * 10 ^ 32 := by
  have e := jr_sum (g := fun r => r.2) (fun a b c => rfl) rs
  rw [e]
  have z := (sum_bound (rs := rs) (g := fun r => r.2) (B := 10 ^ 32) fun r hr => by
    obtain ⟨_, c, d⟩ := h.ok r hr
    exact ⟨Int.le_of_lt c, Int.le_of_lt d⟩).2.1
  have ln := h.ln
  have := Int.mul_le_mul_of_nonneg_right (show (rs.length : Int) ≤ 5 by omega) (show (0 : Int) ≤ 10 ^ 32 by decide)
  omega
theorem ok_right {CL CS : Addr} (B : Bl mg) (D : Df K mg "_law_right" s__law_right ["dice"]) (C__law_roll : Cg P w K mg base CX0 1 "_law_roll" spRoll) (C__law_pick : Cg P w K mg base CX0 2 "_law_pick" (spPickS K)) (C__law_long_chain : Cg P w K mg base CX0 2 "_law_long_chain" (spLong K)) (C__law_great_lot : Cg P w K mg base CX0 3 "_law_great_lot" (spGl K)) (C__law_great_store : Cg P w K mg base CX0 3 "_law_great_store" (spGrs K)) (C__law_merged : Cg P w K mg base CX0 1 "_law_merged" (spMrg K)) (C__law_made_lot : Cg P w K mg base CX0 6 "_law_made_lot" (spMade K CL)) (C__law_made_store : Cg P w K mg base CX0 6 "_law_made_store" (spMadeG K CS)) (C__law_number : Cg P w K mg base CX0 1 "_law_number" spNum2) (C__law_total : Cg P w K mg base CX0 1 "_law_total" spTot) (C__law_is_part : Cg P w K mg base CX0 1 "_law_is_part" spLip) (C__law_fits : Cg P w K mg base CX0 3 "_law_fits" (spFL K)) (C__law_are_best : Cg P w K mg base CX0 4 "_law_are_best" (spAb K)) (P_counts : Pg P w K mg base 1 CL "counts" (spCounts K CL))
    (C_most_things : Cg P w K mg base CX0 11 "most_things" (spMostT K CL CS)) (C_most_total : Cg P w K mg base CX0 11 "most_total" (spMostW K CL CS)) (C_keep_things : Cg P w K mg base CX0 10 "keep_things" (spKeep K CL CS false)) (C_keep_total : Cg P w K mg base CX0 10 "keep_total" (spKeep K CL CS true)) (C_is_kept_things : Cg P w K mg base CX0 12 "is_kept_things" (spKeptT K CL CS)) (C_is_kept_total : Cg P w K mg base CX0 12 "is_kept_total" (spKeptW K CL CS)) (C__law_wanted_right : Cg P w K mg base CX0 11 "_law_wanted_right" (spWantB K CL CS)) : Cg P w K mg base CX0 13 "_law_right" (spRight K) := by
  refine cg_of D sc__law_right (fun vs H Q E h => ?_) (fun f cdv A fr s H vs Q E hr hgd h => ?_)
  · obtain ⟨d, rfl, _⟩ := h
    rfl
  · obtain ⟨d, rfl, hd, q⟩ := h
    refine ⟨_, (pss_cons (ps_set (i := 1) sc__law_right.nd rfl (by first | exact Or.inl rfl | exact Or.inr rfl) (pcg C__law_long_chain hr hgd (pa_cons (pv 0) pa_nil)))
    (pss_cons (ps_par (i := 2) (j := 3) rfl sc__law_right.nd rfl rfl (by decide) rfl rfl (pa_cons (pcg C__law_great_lot hr hgd (pa_cons (pv 0) (pa_cons (pv 1) pa_nil))) (pa_cons (pcg C__law_merged hr hgd (pa_cons (pcg C__law_great_store hr hgd (pa_cons (pv 0) (pa_cons (pv 1) pa_nil))) pa_nil)) pa_nil)) (by rfl))
     (pss_cons (ps_par (i := 4) (j := 5) rfl sc__law_right.nd rfl rfl (by decide) rfl rfl (pa_cons (pcg C__law_made_lot hr hgd (pa_cons (pv 2) pa_nil)) (pa_cons (pcg C__law_made_store hr hgd (pa_cons (pv 3) pa_nil)) pa_nil)) (by rfl))
      (pss_cons (ps_par (i := 6) (j := 7) rfl sc__law_right.nd rfl rfl (by decide) rfl rfl (pa_cons (pprop P_counts hr (pcg C_keep_things hr hgd (pa_cons (pv 4) (pa_cons (pv 5) pa_nil)))) (pa_cons (pprop P_counts hr (pcg C_keep_total hr hgd (pa_cons (pv 4) (pa_cons (pv 5) pa_nil)))) pa_nil)) (by rfl))
       (pss_cons (ps_for PassesOwn.never rfl (pi_tup (pe_tup (pa_cons (pv 6) (pa_cons (pv 7) pa_nil)))) (pg_name (i := 8) sc__law_right.nd rfl (by first | exact Or.inl rfl | exact Or.inr rfl)) (pss_one (ps_if (pw_or (pt_not (pt_val (pcg C__law_is_part hr hgd (pa_cons (pv 8) (pa_cons (pv 2) pa_nil))))) (pw_or1 (pt_not (pt_val (pcg C__law_fits hr hgd (pa_cons (pv 8) (pa_cons (pv 3) pa_nil))))))).pt (pss_one (ps_ret pe_bl)) pss_nil)))
        (pss_cons (ps_if (pt_cmpR (op_neD hr.units) (pe_lst (pa_cons (pcg C_most_things hr hgd (pa_cons (pv 4) (pa_cons (pv 5) pa_nil))) (pa_cons (pcg C_most_total hr hgd (pa_cons (pv 4) (pa_cons (pv 5) pa_nil))) pa_nil))) (pe_lst (pa_cons (pcg C__law_number hr hgd (pa_cons (pv 6) pa_nil)) (pa_cons (pcg C__law_total hr hgd (pa_cons (pv 7) pa_nil)) pa_nil))) (nomark _)) (pss_one (ps_ret pe_bl)) pss_nil)
         (pss_cons (ps_if (pw_or (pt_cmpR op_gt (pcg C__law_number hr hgd (pa_cons (pv 7) pa_nil)) (pcg C__law_number hr hgd (pa_cons (pv 6) pa_nil)) (nomark _)) (pw_or1 (pt_cmpR op_gt (pcg C__law_total hr hgd (pa_cons (pv 6) pa_nil)) (pcg C__law_total hr hgd (pa_cons (pv 7) pa_nil)) (nomark _)))).pt (pss_one (ps_ret pe_bl)) pss_nil)
          (pss_cons (ps_if (pt_not (pt_val (pcg C__law_are_best hr hgd (pa_cons (pv 2) (pa_cons (pv 3) (pa_cons (pv 6) (pa_cons (pv 7) pa_nil))))))) (pss_one (ps_ret pe_bl)) pss_nil)
           (pss_cons (ps_if (pw_or (pt_cmpR op_ne (pe_cmpR (op_eqDk hr.units0) (pv 6) (pv 2) (nomark _)) (pcg C__law_fits hr hgd (pa_cons (pv 2) (pa_cons (pv 3) pa_nil))) (nomark _)) (pw_or1 (pt_cmpR op_ne (pe_cmpR (op_eqDk hr.units0) (pv 7) (pv 2) (nomark _)) (pe_cmpR (op_eqDk hr.units0) (pv 6) (pv 2) (nomark _)) (nomark _)))).pt (pss_one (ps_ret pe_bl)) pss_nil)
            (pss_cons (ps_par (i := 9) (j := 10) rfl sc__law_right.nd rfl rfl (by decide) rfl rfl (pa_cons (pcg C_keep_things hr hgd (pa_cons (pv 4) (pa_cons (pv 5) pa_nil))) (pa_cons (pcg C_keep_total hr hgd (pa_cons (pv 4) (pa_cons (pv 5) pa_nil))) pa_nil)) (by rfl))
             (pss_cons (ps_if (pw_or (pt_not (pt_val (pcg C_is_kept_things hr hgd (pa_cons (pv 4) (pa_cons (pv 5) (pa_cons (pv 9) pa_nil)))))) (pw_or1 (pt_not (pt_val (pcg C_is_kept_total hr hgd (pa_cons (pv 4) (pa_cons (pv 5) (pa_cons (pv 10) pa_nil)))))))).pt (pss_one (ps_ret pe_bl)) pss_nil)
              (pss_cons (ps_if (pt_not (pt_val (pcg C__law_wanted_right hr hgd (pa_cons (pv 0) (pa_cons (pv 2) (pa_cons (pv 3) (pa_cons (pv 4) (pa_cons (pv 5) pa_nil)))))))) (pss_one (ps_ret pe_bl)) pss_nil)
               (pss_cons (ps_set (i := 11) sc__law_right.nd rfl (by first | exact Or.inl rfl | exact Or.inr rfl) (pe_op op_mul (pcg C__law_pick hr hgd (pa_cons (pv 0) (pa_cons (pv 1) pa_nil))) (pe_op op_add pe_int (pcg C__law_roll hr hgd (pa_cons (pv 0) (pa_cons pe_int pa_nil))))))
                (pss_cons (ps_set (i := 12) sc__law_right.nd rfl (by first | exact Or.inl rfl | exact Or.inr rfl) (pcg C__law_made_store hr hgd (pa_cons (pe_op op_cat (pv 3) (pe_lst (pa_cons (pe_tup (pa_cons (pv 11) (pa_cons (pe_op op_add pe_int (pcg C__law_roll hr hgd (pa_cons (pv 0) (pa_cons pe_int pa_nil)))) pa_nil))) pa_nil))) pa_nil)))
                 (pss_one (ps_ret (pe_and (pe_cmpR op_ge (pcg C_most_things hr hgd (pa_cons (pv 4) (pa_cons (pv 12) pa_nil))) (pcg C__law_number hr hgd (pa_cons (pv 6) pa_nil)) (nomark _)) (pe_one (pe_cmpR op_ge (pcg C_most_total hr hgd (pa_cons (pv 4) (pa_cons (pv 12) pa_nil))) (pcg C__law_total hr hgd (pa_cons (pv 7) pa_nil)) (nomark _)))))))))))))))))))), ?_⟩
    refine q_asgP (P := fun v H' => ∃ p ns L, v = .ref p ∧ Kd d H H' ∧ p ≠ d ∧ SqT K H' p (ns.map V.int) ∧ ns.length ≤ 6 ∧ Chd ns L ∧ L < 10 ^ 27) (fun Q2 q2 => ⟨.ref d, rfl, d, rfl, hd, fun p ns L H1 k1 pd hp hl hc hL => q2 _ _ ⟨p, ns, L, rfl, k1, pd, hp, hl, hc, hL⟩⟩) ?_
    rintro _ H1 ⟨p, ns, L, rfl, k1, pd, hp, hln, hch, hL⟩
    have ic := chd_isc hch hln hL
    have nb : ∀ n ∈ ns, 0 < n ∧ n < 10 ^ 27 := fun n hn => ⟨(hch.pos n hn).1, Int.lt_of_le_of_lt (hch.pos n hn).2.1 hL⟩
    refine q_parP (P := fun x y H' => ∃ g ps l vs rs, x = .ref g ∧ y = .ref l ∧ Kd d H1 H' ∧ g ≠ d ∧ H' g = some (.dK (ps.map kc)) ∧ Grt ns ps ∧ l ≠ d ∧ H' l = some (.lst vs) ∧ F2 (RP K H') vs (jr rs) ∧ GrR rs) (fun Q2 q2 => ⟨.ref d, rfl, .ref p, rfl, d, p, ns, rfl, pd, k1.2, hp, by omega, hch.nodup, fun g ps H2 k2 gd hg hgr => ⟨.ref d, rfl, .ref p, rfl, d, p, ns, rfl, pd, k2.2, k2.1.sqT pd hp, ic.ne, by omega, nb, fun l0 vs0 rs H3 k3 ld0 nl0 hl0 hf0 hne hgr' => ⟨l0, vs0, rs, rfl, SqL.of hl0, hf0, by have := hgr'.ln; omega, fun l vs H4 nl e4 hl hf => q2 _ _ _ ⟨g, ps, l, vs, rs, rfl, rfl, (k2.trans k3).to e4, gd, e4 _ _ (k3.1 g _ gd hg), hgr, k3.2.ne nl, hl, hf, hgr'⟩⟩⟩⟩) ?_
    rintro _ _ H2 ⟨g, ps, l, vs, rs0, rfl, rfl, k2, gd, hg, hgr, ld, hl, hf, hGr⟩
    have kd2 := k1.trans k2
    have hp2 := k2.1.sqT pd hp
    have big : (10 : Int) ^ 32 < 10 ^ 200 := by decide +kernel
    have ct : Cts ps := ⟨hgr.nd, by have := hgr.ln; omega, fun x hx => by
      obtain ⟨m, y0, y1⟩ := hgr.sub x hx
      obtain ⟨n0, n1⟩ := ic.sz _ m
      exact ⟨siz_of n0 n1, siz_of y0 (by omega)⟩⟩
    have nd := ct.nd
    have bd : ∀ p ∈ ps, p.2 < 10 ^ 32 := fun p hp => by
      have := (hgr.sub p hp).2.2
      omega
    obtain ⟨lc, _⟩ := cut_lotC ic ct (fun x hx => (hgr.sub x hx).1) (srt_perm ps) (srt_asc nd)
    have so := gr_sto hGr
    have jl : (jr rs0).length ≤ 5 := Nat.le_trans (jr_len rs0) hGr.ln
    generalize hrs : jr rs0 = rs at so jl hf
    have rj : jr rs = rs := by rw [← hrs, jr_jr]
    have sz2 : ∀ r ∈ rs, sizB r.1 = true ∧ sizB r.2 = true := fun r hr => by
      obtain ⟨x, y, z⟩ := so.ok r hr
      exact ⟨x, siz_of y z⟩
    have rn : Rns rs := ⟨sz2, by omega, by rw [rj]; omega⟩
    have hN := szn_of lc
    refine q_parP (P := fun x y H' => ∃ a b, x = .ref a ∧ y = .ref b ∧ Evl.Ex H2 H' ∧ LotAt K CL H' a (srt ps) ∧ StoAt K CS H' b rs) (fun Q2 q2 => elot_madeR (K := K) (evr_rd (Evl.ev_var rfl) hg) ct H2 (Evl.Ex.refl H2) _ fun a H3 e3 hl3 => esto_made (K := K) (Evl.ev_var rfl) (SqL.of (e3 _ _ hl)) (hf.imp fun x b r => r.ex e3) (by omega) rn H3 (Evl.Ex.refl H3) _ fun b H4 e4 hs4 => q2 _ _ _ ⟨a, b, rfl, rfl, e3.trans e4, hl3.up e4, by rw [rj] at hs4; exact hs4⟩) ?_
    rintro _ _ H3 ⟨a, b, rfl, rfl, e3, lot3, sto3⟩
    have hR3 : RnL K H3 l rs := ⟨vs, SqL.of (e3 _ _ hl), hf.imp fun x b r => r.ex e3⟩
    have hg3 := e3 _ _ hg
    refine q_parP (P := fun x y H' => ∃ o1 o2 fs gs, x = .ref o1 ∧ y = .ref o2 ∧ o1 ≠ g ∧ o2 ≠ g ∧ o1 ≠ d ∧ o2 ≠ d ∧ Evl.Ex H3 H' ∧ H' o1 = some (.dK (fs.map kc)) ∧ H' o2 = some (.dK (gs.map kc)) ∧ (LotC fs ∧ (∀ p ∈ fs, p.1 ∈ (srt ps).map Prod.fst) ∧ fitB fs rs = true ∧ Fil ((srt ps).map Prod.fst) (cf (srt ps)) (unt rs) (fun _ => 0) ((srt ps).map Prod.fst) (cf fs)) ∧ LotC gs ∧ (∀ p ∈ gs, p.1 ∈ (srt ps).map Prod.fst) ∧ fitB gs rs = true ∧ Fil ((srt ps).map Prod.fst) (cf (srt ps)) (unt rs) (fun _ => 0) ((srt ps).map Prod.fst).reverse (cf gs)) (fun Q2 q2 => keepC_e (elot_v (Evl.ev_var rfl) lot3) (esto_v (Evl.ev_var rfl) sto3) lc so H3 (Evl.Ex.refl H3) _ fun o1 fs H4 n4 e4 ho1 h1 h2 h3 h4 => keepC_e (elot_v (Evl.ev_var rfl) (lot3.up e4)) (esto_v (Evl.ev_var rfl) (sto3.up e4)) lc so H4 (Evl.Ex.refl H4) _ fun o2 gs H5 n5 e5 ho2 g1 g2 g3 g4 => q2 _ _ _ ⟨o1, o2, fs, gs, rfl, rfl, (fun e => by rw [e, hg3] at n4; cases n4), (fun e => by rw [e, e4 _ _ hg3] at n5; cases n5), (kd2.to e3).2.ne n4, (kd2.to (e3.trans e4)).2.ne n5, e4.trans e5, e5 _ _ ho1, ho2, ⟨h1, h2, h3, h4⟩, g1, g2, g3, g4⟩) ?_
    rintro _ _ H4 ⟨o1, o2, fs, gs, rfl, rfl, o1g, o2g, o1d, o2d, e4, ho1, ho2, ⟨lf, kf, ff, filF⟩, lg, kg, fg, filG⟩
    obtain ⟨pf, tF⟩ := topT lc so lf kf ff filF
    obtain ⟨pg, tG⟩ := topW lc so lg kg fg filG
    obtain ⟨_, bF⟩ := best_things lc so lf kf filF
    obtain ⟨_, bG⟩ := best_total lc so lg kg filG
    have wF : BestW ((srt ps).map Prod.fst) (cf (srt ps)) (unt rs) (fun _ => 1) (cf fs) := fun p hb hf => fil_things (lot_asc lc) (lot_pos lc) filF hb hf
    have wG : BestW ((srt ps).map Prod.fst) (cf (srt ps)) (unt rs) (fun t => t) (cf gs) := fun p hb hf => fil_total (lot_asc lc) (lot_pos lc) (fun a ha b hb lt => pws_dvd (lotc_pws lc) ha hb lt) filG hb hf
    have sF : srt fs = fs := asc_unique (srt_asc lf.ct.nd) lf.asc (srt_perm _)
    have sG : srt gs = gs := asc_unique (srt_asc lg.ct.nd) lg.asc (srt_perm _)
    have partP : ∀ X ∈ partsOf (srt ps), LotC X → partB X ps = true := fun X hX lX => by
      unfold partB
      refine List.all_eq_true.mpr fun x hx => decide_eq_true ?_
      have b := ((part_of lc hX).2.2 x.1).2
      rw [cf_mem lX.ct.nd hx, cf_perm nd (srt_perm ps)] at b
      exact b
    have hg4 := e4 _ _ hg3
    have hR4 := hR3.up e4
    have lot4 := lot3.up e4
    have sto4 := sto3.up e4
    -- both are parts that fit
    refine q_forU (xs := [.ref o1, .ref o2]) (Evl.eu_tup (Evl.ea_cons (Evl.ev_var rfl) (Evl.ea_cons (Evl.ev_var rfl) Evl.ea_nil)) (show 2 ≤ 100000 by decide)) (fun u H5 e5 hu => ⟨u, rfl, ⟨_, SqT.of hu⟩, ?_⟩)
    refine for_it (walk_tup (xs := [.ref o1, .ref o2])) (fun i σ' H' => Evl.Ex H5 H' ∧ ∃ x8, σ' = [some (.ref d), some (.ref p), some (.ref g), some (.ref l), some (.ref a), some (.ref b), some (.ref o1), some (.ref o2), x8, none, none, none, none]) ⟨Evl.Ex.refl _, _, rfl⟩ (fun i σ' H' _ h => Evl.ex_t h.1 (SqT.of hu)) ?_ ?_
    · rintro i x σ' H6' H6 hi ⟨e6, x8, rfl⟩ ⟨rfl, hxi⟩
      have E6 := e5.trans e6
      obtain ⟨o, X, rfl, hoX, lX, pX, fX⟩ : ∃ o X, x = .ref o ∧ H6 o = some (.dK (X.map kc)) ∧ LotC X ∧ X ∈ partsOf (srt ps) ∧ fitB X rs = true := by
        rcases List.mem_cons.mp (List.mem_of_getElem? hxi) with rfl | h
        · exact ⟨o1, fs, rfl, E6 _ _ ho1, lf, pf, ff⟩
        · rw [List.mem_singleton.mp h]
          exact ⟨o2, gs, rfl, E6 _ _ ho2, lg, pg, fg⟩
      have sX : srt X = X := asc_unique (srt_asc lX.ct.nd) lX.asc (srt_perm _)
      exact Evl.s_when (b := false) (Evl.et_is (Evl.et_or (a := false) (b := false) (Evl.et_is (Evl.et_not (Evl.et_B (Evl.ev_call (vs := [.ref o, .ref g]) (z := .bl (partB X ps)) (Evl.ea_cons (Evl.ev_var rfl) (Evl.ea_cons (Evl.ev_var rfl) Evl.ea_nil)) (fun H7 e7 Q q E => ⟨o, g, X, ps, rfl, e7 _ _ hoX, (E6.trans e7) _ _ hg4, lX.ct, q⟩)))) (by rw [partP X pX lX]; rfl)) (fun _ => Evl.et_is (Evl.et_not (Evl.et_B (fl_e (evr_rd (Evl.ev_var rfl) hoX) (Evl.ev_var rfl) lX.ct (by rw [sX]; exact lX) (hR4.up E6) so))) (by rw [sX, fX]; rfl))) rfl) (fun z => nomatch z) (fun _ H7 e7 => ⟨e6.trans e7, _, rfl⟩)
    rintro _ H6 ⟨e6, x8, rfl⟩
    have E6 := e5.trans e6
    dsimp only
    have lot6 := lot4.up E6
    have sto6 := sto4.up E6
    have ho16 := E6 _ _ ho1
    have ho26 := E6 _ _ ho2
    have self2 : (!PyData.eqv (.list [.int (numR fs), .int (tot gs)]) (.list [.int (numR fs), .int (tot gs)])) = false := by
      have z := eqv_lints [numR fs, tot gs] [numR fs, tot gs]
      rw [decide_eq_true rfl] at z
      exact congrArg (!·) z
    refine Evl.q_when (b := false) (Evl.et_is (Evl.et_test (ev_neD (K := K) (ed_lst (ed_cons (ed_int (mostT_e (elot_v (Evl.ev_var rfl) lot6) (esto_v (Evl.ev_var rfl) sto6) lc so tF)) (ed_cons (ed_int (mostW_e (elot_v (Evl.ev_var rfl) lot6) (esto_v (Evl.ev_var rfl) sto6) lc so tG)) ed_nil))) (ed_lst (ed_cons (ed_int (ev_call1 (Evl.ev_var rfl) (num_v ho16 lf.ct.ln))) (ed_cons (ed_int (ev_call1 (Evl.ev_var rfl) (tot_v ho26 lg.ct))) ed_nil))) (shaped_lints [numR fs, tot gs]) (shaped_lints [numR fs, tot gs]))) self2) (fun z => nomatch z) (fun _ H7 e7 => ?_)
    have E7 := E6.trans e7
    have ho17 := E7 _ _ ho1
    have ho27 := E7 _ _ ho2
    refine Evl.q_when (b := false) (Evl.et_is (Evl.et_or (a := false) (b := false) (Evl.et_is (Evl.et_test (ev_i0 (g := fun i j => .bl (decide (i > j))) (ev_call1 (Evl.ev_var rfl) (num_v ho27 lg.ct.ln)) (ev_call1 (Evl.ev_var rfl) (num_v ho17 lf.ct.ln)))) (decide_eq_false (by have := bF gs pg fg; omega))) (fun _ => Evl.et_is (Evl.et_test (ev_i0 (g := fun i j => .bl (decide (i > j))) (ev_call1 (Evl.ev_var rfl) (tot_v ho17 lf.ct)) (ev_call1 (Evl.ev_var rfl) (tot_v ho27 lg.ct)))) (decide_eq_false (by have := bG fs pf ff; omega)))) rfl) (fun z => nomatch z) (fun _ H8 e8 => ?_)
    have E8 := E7.trans e8
    refine Evl.q_when (b := false) (Evl.et_is (Evl.et_not (Evl.et_B (Evl.ev_call (vs := [.ref g, .ref l, .ref o1, .ref o2]) (z := .bl true) (Evl.ea_cons (Evl.ev_var rfl) (Evl.ea_cons (Evl.ev_var rfl) (Evl.ea_cons (Evl.ev_var rfl) (Evl.ea_cons (Evl.ev_var rfl) Evl.ea_nil)))) (fun H9 e9 Q q E => ⟨g, l, o1, o2, ps, fs, gs, rs, rfl, o1g, o2g, (E8.trans e9) _ _ hg4, (E8.trans e9) _ _ ho1, (E8.trans e9) _ _ ho2, ct, lc, hR4.up (E8.trans e9), so, ⟨lf.ct, kf⟩, ⟨lg.ct, kg⟩, fun s _ => ((part_of lc pf).2.2 s).2, fun s _ => ((part_of lc pg).2.2 s).2, wF, wG, q⟩)))) rfl) (fun z => nomatch z) (fun _ H9 e9 => ?_)
    have E9 := E8.trans e9
    have eF : eqP fs ps = fitB (srt ps) rs := by rw [eqP_srt lf ct]; exact best_all lc so lf pf ff (fun t _ => by decide) wF
    have eG : eqP gs ps = fitB (srt ps) rs := by rw [eqP_srt lg ct]; exact best_all lc so lg pg fg (fun t ht => lot_pos lc t ht) wG
    have hg9 := E9 _ _ hg4
    refine Evl.q_when (b := false) (Evl.et_is (Evl.et_or (a := false) (b := false) (Evl.et_is (Evl.et_test (ev_ne (eqK_e (evr_rd (Evl.ev_var rfl) (E9 _ _ ho1)) (evr_rd (Evl.ev_var rfl) hg9)) (fl_e (evr_rd (Evl.ev_var rfl) hg9) (Evl.ev_var rfl) ct lc (hR4.up E9) so) rfl)) (by rw [eF, decide_eq_true rfl]; rfl)) (fun _ => Evl.et_is (Evl.et_test (ev_ne (eqK_e (evr_rd (Evl.ev_var rfl) (E9 _ _ ho2)) (evr_rd (Evl.ev_var rfl) hg9)) (eqK_e (evr_rd (Evl.ev_var rfl) (E9 _ _ ho1)) (evr_rd (Evl.ev_var rfl) hg9)) rfl)) (by rw [eF, eG, decide_eq_true rfl]; rfl))) rfl) (fun z => nomatch z) (fun _ H10 e10 => ?_)
    have E10 := E9.trans e10
    have lot10 := lot4.up E10
    have sto10 := sto4.up E10
    refine q_parP (P := fun x y H' => ∃ c1 c2 fs2 gs2, x = .ref c1 ∧ y = .ref c2 ∧ Evl.Ex H10 H' ∧ LotAt K CL H' c1 fs2 ∧ LotAt K CL H' c2 gs2 ∧ (fs2 ∈ partsOf (srt ps) ∧ fitB fs2 rs = true ∧ TopN ((Fit (srt ps) rs).map numR) (numR fs2)) ∧ gs2 ∈ partsOf (srt ps) ∧ fitB gs2 rs = true ∧ TopN ((Fit (srt ps) rs).map tot) (tot gs2)) (fun Q2 q2 => keepL_e (elot_v (Evl.ev_var rfl) lot10) (esto_v (Evl.ev_var rfl) sto10) lc so H10 (Evl.Ex.refl H10) _ fun c1 fs2 H11 e11 hc1 h1 h2 h3 h4 => keepL_e (elot_v (Evl.ev_var rfl) (lot10.up e11)) (esto_v (Evl.ev_var rfl) (sto10.up e11)) lc so H11 (Evl.Ex.refl H11) _ fun c2 gs2 H12 e12 hc2 g1 g2 g3 g4 => q2 _ _ _ ⟨c1, c2, fs2, gs2, rfl, rfl, e11.trans e12, hc1.up e12, hc2, ⟨(topT lc so h1 h2 h3 h4).1, h3, (topT lc so h1 h2 h3 h4).2⟩, (topW lc so g1 g2 g3 g4).1, g3, (topW lc so g1 g2 g3 g4).2⟩) ?_
    rintro _ _ H11 ⟨c1, c2, fs2, gs2, rfl, rfl, e11, hc1, hc2, ⟨pf2, ff2, tF2⟩, pg2, fg2, tG2⟩
    have E11 := E10.trans e11
    have lot11 := lot4.up E11
    have sto11 := sto4.up E11
    refine Evl.q_when (b := false) (Evl.et_is (Evl.et_or (a := false) (b := false) (Evl.et_is (Evl.et_not (Evl.et_B (keptT_e (elot_v (Evl.ev_var rfl) lot11) (esto_v (Evl.ev_var rfl) sto11) (elot_v (Evl.ev_var rfl) hc1) lc so pf2 tF))) (by rw [ff2, topN_eq tF2 tF, decide_eq_true rfl]; rfl)) (fun _ => Evl.et_is (Evl.et_not (Evl.et_B (keptW_e (elot_v (Evl.ev_var rfl) lot11) (esto_v (Evl.ev_var rfl) sto11) (elot_v (Evl.ev_var rfl) hc2) lc so pg2 tG))) (by rw [fg2, topN_eq tG2 tG, decide_eq_true rfl]; rfl))) rfl) (fun z => nomatch z) (fun _ H12 e12 => ?_)
    have E12 := E11.trans e12
    have kd12 := kd2.to (e3.trans (e4.trans E12))
    refine ⟨.ref d, rfl, .ref g, rfl, .ref l, rfl, .ref a, rfl, .ref b, rfl, d, g, l, a, b, ps, rs, rfl, kd12.2, gd, ld, E12 _ _ hg4, ct, bd, lot4.up E12, lc, hR4.up E12, sto4.up E12, so, fun H13 k13 => ⟨true, rfl, iteF ?_⟩⟩
    have hd12 := kd12.2
    have lot13 := (lot4.up E12).kd hd12 k13
    have hl13 := k13.1 _ _ ld ((e3.trans (e4.trans E12)) _ _ hl)
    have hf13 := (hf.imp fun x b r => r.ex (e3.trans (e4.trans E12))).imp fun x b r => r.kd hd12 k13
    have ho113 := k13.1 _ _ o1d (E12 _ _ ho1)
    have ho213 := k13.1 _ _ o2d (E12 _ _ ho2)
    have hp13 : SqT K H13 p (ns.map V.int) := k13.1.sqT pd (Evl.ex_t (e3.trans (e4.trans E12)) hp2)
    have kd13 := kd12.trans k13
    have pk : ∀ {σ : L2.St} {H : Hp}, σ[0]? = some (some (.ref d)) → σ[1]? = some (some (.ref p)) → SqT K H p (ns.map V.int) → Ei d (fun y => 0 < y ∧ y < 10 ^ 27) (tCall (spPickS K) [] E0 (tCons (tVar 0) (tCons (tVar 1) tNil))) σ H := fun e1 e2 h => (ei_pick e1 (pick_tup (K := K) e2 h pd) ic.ne (by omega)).mono fun y hy => nb y hy
    refine sq_asgK (d := d) (Pr := fun v => ∃ y, v = .int y ∧ 0 < y ∧ y < 3 * 10 ^ 27) kd13.2 (ei_C (g := fun i j => i * j) (pk rfl rfl hp13) (ei_0 (g := fun i j => i + j) (S := fun y => 1 ≤ y ∧ y ≤ 3) (ei_c (P := fun y => y = 1) rfl) (ei_roll rfl (by decide) (by decide)) (fun a b h1 h2 => by omega)) (fun a b h1 h2 => .inr ⟨by omega, by omega⟩) (fun a b h1 h2 => ?_)) ?_
    · obtain ⟨b1, b2⟩ := h2
      have : b = 1 ∨ b = 2 ∨ b = 3 := by omega
      rcases this with rfl | rfl | rfl <;> omega
    rintro _ H14 k14 ⟨room, rfl, m0, m1⟩
    have hd13 := kd13.2
    have hl14 := k14.1 _ _ ld hl13
    have hf14 := hf13.imp fun x b r => r.kd hd13 k14
    have lot14 := lot13.kd hd13 k14
    have ho114 := k14.1 _ _ o1d ho113
    have ho214 := k14.1 _ _ o2d ho213
    have kd14 := kd13.trans k14
    refine q_asgP (P := fun v H' => ∃ b' m, v = .ref b' ∧ Kd d H14 H' ∧ StoAt K CS H' b' (jr (rs ++ [(room, m)])) ∧ 0 ≤ m ∧ StoOk (jr (rs ++ [(room, m)]))) (fun Q2 q2 => ?_) ?_
    · refine ⟨.ref l, rfl, ?_⟩
      refine ⟨.int room, rfl, .ref d, rfl, d, 9, rfl, by decide, by decide, kd14.2, fun y H15 y0 y1 hd15 k15 => ⟨_, _, rfl, rfl, ?_⟩⟩
      have kk := Kd.but hd15 k15
      have hl15 := kk.1 _ _ ld hl14
      have hf15 := hf14.imp fun x b r => r.kd kd14.2 kk
      refine ⟨(show 2 ≤ sizeLine by decide), fun u nu => ?_⟩
      refine ⟨(show 1 ≤ sizeLine by decide), fun w nw => ?_⟩
      have eu : Evl.Ex H15 (upd H15 u (.tup [.int room, .int (1 + y)])) := Evl.Ex.new nu
      have ew : Evl.Ex (upd H15 u (.tup [.int room, .int (1 + y)])) (upd (upd H15 u (.tup [.int room, .int (1 + y)])) w (.lst [.ref u])) := Evl.Ex.new nw
      have hu1 : upd H15 u (.tup [.int room, .int (1 + y)]) u = some (.tup [.int room, .int (1 + y)]) := upd_same
      have hw1 : upd (upd H15 u (.tup [.int room, .int (1 + y)])) w (.lst [.ref u]) w = some (.lst [.ref u]) := upd_same
      have hu2 := ew _ _ hu1
      generalize upd (upd H15 u (.tup [.int room, .int (1 + y)])) w (.lst [.ref u]) = H16 at ew hw1 hu2 ⊢
      have e16 := eu.trans ew
      have hl16 := e16 _ _ hl15
      have hf16 := hf15.imp fun x b r => r.ex e16
      have okr : ∀ r ∈ rs ++ [(room, 1 + y)], sizB r.1 = true ∧ 0 < r.2 := fun r hr => by
        rcases List.mem_append.mp hr with h | h
        · exact ⟨(so.ok r h).1, (so.ok r h).2.1⟩
        · rw [List.mem_singleton.mp h]
          have b27 : (3 : Int) * 10 ^ 27 < 10 ^ 200 := by decide +kernel
          exact ⟨siz_of m0 (by show room.natAbs < _; omega), by show 0 < 1 + y; omega⟩
      have sm : ((rs ++ [(room, 1 + y)]).map fun r => r.2).sum < 10 ^ 199 := by
        have z := gr_sum hGr
        rw [List.map_append, List.sum_append, ← hrs]
        show _ + ((1 + y) + 0) < _
        have b2 : (5 : Int) * 10 ^ 32 + 100 < 10 ^ 199 := by decide +kernel
        omega
      have lenr : (rs ++ [(room, 1 + y)]).length ≤ 6 := by
        rw [List.length_append]
        show rs.length + 1 ≤ 6
        omega
      obtain ⟨rn2, so2⟩ := sto_of okr sm (by omega)
      refine ⟨l, w, vs, [.ref u], rfl, rfl, hl16, hw1, Evl.sz_of (by show vs.length + 1 ≤ 100000; rw [hf16.len]; omega), fun r hr => ?_⟩
      have er : Evl.Ex H16 (upd H16 r (.lst (vs ++ [.ref u]))) := Evl.Ex.new hr
      refine ⟨r, vs ++ [.ref u], rs ++ [(room, 1 + y)], rfl, SqL.of upd_same, ((hf16.app (.cons ⟨u, rfl, SqT.of hu2⟩ .nil)).imp fun x b r => r.ex er), by omega, rn2, fun b' H17 e17 hs => q2 _ _ ⟨b', 1 + y, rfl, kk.to (e16.trans (er.trans e17)), hs, by omega, so2⟩⟩
    rintro _ H15 ⟨b', m, rfl, k15, sto15, mm0, so2⟩
    have lot15 := lot14.kd kd14.2 k15
    have ho115 := k15.1 _ _ o1d ho114
    have ho215 := k15.1 _ _ o2d ho214
    obtain ⟨n1, hn1⟩ := top_ex (qs := srt ps) (ss := jr (rs ++ [(room, m)])) numR
    obtain ⟨t1, ht1⟩ := top_ex (qs := srt ps) (ss := jr (rs ++ [(room, m)])) tot
    have ff3 : fitB fs (jr (rs ++ [(room, m)])) = true := by rw [fit_jr]; exact fit_more lf.ct ⟨Int.le_of_lt m0, mm0⟩ ff
    have fg3 : fitB gs (jr (rs ++ [(room, m)])) = true := by rw [fit_jr]; exact fit_more lg.ct ⟨Int.le_of_lt m0, mm0⟩ fg
    have g1 := hn1.2 (numR fs) (List.mem_map_of_mem (fit_mem.mpr ⟨pf, ff3⟩))
    have g2 := ht1.2 (tot gs) (List.mem_map_of_mem (fit_mem.mpr ⟨pg, fg3⟩))
    refine Evl.s_ret (Evl.ev_is (Evl.ev_andV (a := true) (b := true) (Evl.ev_is (ev_i0 (g := fun i j => .bl (decide (i ≥ j))) (mostT_e (elot_v (Evl.ev_var rfl) lot15) (esto_v (Evl.ev_var rfl) sto15) lc so2 hn1) (ev_call1 (Evl.ev_var rfl) (num_v ho115 lf.ct.ln))) (congrArg V.bl (decide_eq_true g1))) (fun _ => Evl.ev_is (ev_i0 (g := fun i j => .bl (decide (i ≥ j))) (mostW_e (elot_v (Evl.ev_var rfl) lot15) (esto_v (Evl.ev_var rfl) sto15) lc so2 ht1) (ev_call1 (Evl.ev_var rfl) (tot_v ho215 lg.ct))) (congrArg V.bl (decide_eq_true g2)))) rfl) (fun H16 e16 => q H16 ((kd14.trans k15).to e16))
theorem ok_law {f CL CS : Addr} {fd : FuncData} (B : Bl mg) (T : Cs mg) (D_is_integer : Df K mg "is_integer" s_is_integer ["value"]) (D_is_count : Df K mg "is_count" s_is_count ["value"]) (D_is_size : Df K mg "is_size" s_is_size ["value"]) (D_is_run : Df K mg "is_run" s_is_run ["value"]) (D_number_of_all : Df K mg "number_of_all" s_number_of_all ["runs"]) (D_units_of : Df K mg "units_of" s_units_of ["runs", "size"]) (D_joined_runs : Df K mg "joined_runs" s_joined_runs ["runs"]) (D_check_size : Df K mg "check_size" s_check_size ["value"]) (D_check_count : Df K mg "check_count" s_check_count ["value"]) (D_first_gap : Df K mg "first_gap" s_first_gap ["sizes"]) (D_check_lot : Df K mg "check_lot" s_check_lot ["value"]) (D__are_counts : Df K mg "_are_counts" s__are_counts ["value"]) (D_check_store : Df K mg "check_store" s_check_store ["value"]) (D_check_together : Df K mg "check_together" s_check_together ["sizes"]) (D_check_levels : Dfa K mg "check_levels" "_check" s_check_levels ["lot", "store"]) (D_levels_of : Df K mg "levels_of" s_levels_of ["lot", "store"]) (D_fits : Df K mg "fits" s_fits ["lot", "store"]) (D_barring_sizes : Df K mg "barring_sizes" s_barring_sizes ["lot", "store"]) (D_spare : Df K mg "spare" s_spare ["lot", "store", "size"]) (D_check_most : Dfa K mg "check_most" "_check" s_check_most ["lot", "store"]) (D_most_things : Df K mg "most_things" s_most_things ["lot", "store"]) (D_most_total : Df K mg "most_total" s_most_total ["lot", "store"]) (D_keep_things : Df K mg "keep_things" s_keep_things ["lot", "store"]) (D_keep_total : Df K mg "keep_total" s_keep_total ["lot", "store"]) (D__filled : Df K mg "_filled" s__filled ["part", "lot", "store", "sizes"]) (D__is_fitting_part : Df K mg "_is_fitting_part" s__is_fitting_part ["lot", "store", "value"]) (D_is_kept_things : Df K mg "is_kept_things" s_is_kept_things ["lot", "store", "value"]) (D_is_kept_total : Df K mg "is_kept_total" s_is_kept_total ["lot", "store", "value"]) (D_keep_all_of : Df K mg "keep_all_of" s_keep_all_of ["lot", "store", "sizes"]) (D__are_sizes_of : Df K mg "_are_sizes_of" s__are_sizes_of ["lot", "value"]) (D__law_dice : Df K mg "_law_dice" s__law_dice ["script", "spot"]) (D__law_roll : Df K mg "_law_roll" s__law_roll ["dice", "total"]) (D__law_pick : Df K mg "_law_pick" s__law_pick ["dice", "items"]) (D__law_great : Df K mg "_law_great" s__law_great ["dice", "least"]) (D__law_long_chain : Df K mg "_law_long_chain" s__law_long_chain ["dice"]) (D__law_great_lot : Df K mg "_law_great_lot" s__law_great_lot ["dice", "sizes"]) (D__law_great_store : Df K mg "_law_great_store" s__law_great_store ["dice", "sizes"]) (D__law_merged : Df K mg "_law_merged" s__law_merged ["runs"]) (D__law_made_lot : Df K mg "_law_made_lot" s__law_made_lot ["plain"]) (D__law_made_store : Df K mg "_law_made_store" s__law_made_store ["runs"]) (D__law_total : Df K mg "_law_total" s__law_total ["plain"]) (D__law_units : Df K mg "_law_units" s__law_units ["plain", "size"]) (D__law_space : Df K mg "_law_space" s__law_space ["runs", "size"]) (D__law_bars : Df K mg "_law_bars" s__law_bars ["plain", "runs"]) (D__law_number : Df K mg "_law_number" s__law_number ["plain"]) (D__law_is_part : Df K mg "_law_is_part" s__law_is_part ["part", "plain"]) (D__law_counts_of : Df K mg "_law_counts_of" s__law_counts_of ["lot"]) (D__law_fits : Df K mg "_law_fits" s__law_fits ["part", "runs"]) (D__law_with : Df K mg "_law_with" s__law_with ["part", "size", "count"]) (D__law_are_best : Df K mg "_law_are_best" s__law_are_best ["plain", "runs", "most", "total"]) (D__law_most_of : Df K mg "_law_most_of" s__law_most_of ["plain", "runs", "kept", "size"]) (D__law_wanted_right : Df K mg "_law_wanted_right" s__law_wanted_right ["dice", "plain", "runs", "lot", "store"]) (D__law_right : Df K mg "_law_right" s__law_right ["dice"]) (LT_Lot : LotT K mg CL) (LK_LotN : LotNK K CL) (DM_Lot_init : Din K mg "Lot" CL "Lot.__init__" s_Lot_init ["self", "counts"]) (DM_Lot_counts : Dpr K CL "counts" "Lot.counts" s_Lot_counts) (DM_Lot_sizes : Dpr K CL "sizes" "Lot.sizes" s_Lot_sizes) (DM_Lot_number : Dpr K CL "number" "Lot.number" s_Lot_number) (DM_Lot_total : Dpr K CL "total" "Lot.total" s_Lot_total) (DM_Lot_units : Dop K CL "units" "Lot.units" s_Lot_units ["self", "size"]) (DM_Lot_is_part_of : Dop K CL "is_part_of" "Lot.is_part_of" s_Lot_is_part_of ["self", "value"]) (DM_Lot_with_count : Dop K CL "with_count" "Lot.with_count" s_Lot_with_count ["self", "size", "number"]) (DM_Lot_getitem : Dop K CL "__getitem__" "Lot.__getitem__" s_Lot_getitem ["self", "at"]) (DM_Lot_contains : Dop K CL "__contains__" "Lot.__contains__" s_Lot_contains ["self", "x"]) (DM_Lot_len : Dop K CL "__len__" "Lot.__len__" s_Lot_len ["self"]) (DM_Lot_eq : Dop K CL "__eq__" "Lot.__eq__" s_Lot_eq ["self", "other"]) (LT_Store : StoreT K mg CS) (DM_Store_init : Dis K mg "Store" CS "Store.__init__" s_Store_init "runs") (DM_Store_units : Dop K CS "units" "Store.units" s_Store_units ["self", "size"]) (F : Fun K "law" "law" s_law f fd) : FnG P w K mg base CX0 14 f fd ["script"] (spLaw K) := by
  -- haves
  have h_int := ok_int (P := P) (w := w) (base := base) B T D_is_integer
  have h_count := ok_count (P := P) (w := w) (base := base) B D_is_count h_int
  have h_size := ok_size (P := P) (w := w) (base := base) B D_is_size h_int
  have h_gapB := ok_gapB (P := P) (w := w) (base := base) B D_first_gap
  have h_chks := ok_chks (P := P) (w := w) (base := base) B D_check_size h_size
  have h_chkn := ok_chkn (P := P) (w := w) (base := base) B D_check_count h_count
  have h_chklot := ok_chklot (P := P) (w := w) (base := base) B LT_Lot D_check_lot
  have h_arec := ok_arec (P := P) (w := w) (base := base) B T D__are_counts h_size
  have h_lotsizes := ok_lotsizes (P := P) (w := w) (base := base) LT_Lot DM_Lot_sizes
  have h_lottotal := ok_lottotal (P := P) (w := w) (base := base) B LT_Lot DM_Lot_total
  have h_lotitem := ok_lotitem (P := P) (w := w) (base := base) LT_Lot DM_Lot_getitem h_chks
  obtain ⟨M_Lot, M0_Lot⟩ := ok_lotinit (P := P) (w := w) (base := base) B LT_Lot DM_Lot_init h_arec
  have h_noa := ok_noa (P := P) (w := w) (base := base) B D_number_of_all
  have h_lotnum := ok_lotnum (P := P) (w := w) (base := base) LT_Lot DM_Lot_number h_noa
  have h_lotcounts := ok_lotcounts (P := P) (w := w) (base := base) B LT_Lot DM_Lot_counts
  have h_partof := ok_partof (P := P) (w := w) (base := base) B LT_Lot DM_Lot_is_part_of h_lotitem
  have h_isrun := ok_isrun (P := P) (w := w) (base := base) B D_is_run h_size
  have h_unitsof := ok_unitsof (P := P) (w := w) (base := base) B D_units_of
  have h_joinr := ok_joinr (P := P) (w := w) (base := base) B D_joined_runs
  have h_chksto := ok_chksto (P := P) (w := w) (base := base) B LT_Store D_check_store
  have M_Store := ok_stoinit (P := P) (w := w) (base := base) B T LT_Store DM_Store_init h_isrun h_joinr
  have h_stounits := ok_stounits (P := P) (w := w) (base := base) LT_Store DM_Store_units h_chks h_unitsof
  have h_togN := ok_togN (P := P) (w := w) (base := base) B D_check_together h_gapB
  have h_lotunits := ok_lotunits (P := P) (w := w) (base := base) B LT_Lot DM_Lot_units h_chks h_unitsof
  have h_chkL := ok_chkL (P := P) (w := w) (base := base) B D_check_levels h_chklot h_chksto h_togN h_lotsizes
  have h_chkM := ok_chkM (P := P) (w := w) (base := base) B D_check_most h_chklot h_chksto h_togN h_lotsizes
  have h_levels := ok_levels (P := P) (w := w) (base := base) B D_levels_of h_chkL h_lotsizes h_lotunits h_stounits
  have h_barring := ok_barring (P := P) (w := w) (base := base) B D_barring_sizes h_levels
  have h_fits := ok_fits (P := P) (w := w) (base := base) B D_fits h_barring
  have h_chknL := ok_chknL (P := P) (w := w) (base := base) B D_check_count h_count
  have h_lotwith := ok_lotwith (P := P) (w := w) (base := base) B T LT_Lot DM_Lot_with_count h_chks h_chknL M_Lot
  have h_spare := ok_spare (P := P) (w := w) (base := base) B D_spare h_chklot h_chksto h_chks h_togN h_fits h_lotsizes h_lotunits h_stounits
  have h_filled := ok_filled (P := P) (w := w) (base := base) B D__filled h_spare h_lotwith h_lotitem
  have h_keepT := ok_keepT (P := P) (w := w) (base := base) B D_keep_things h_chkM h_filled h_lotsizes M0_Lot
  have h_keepW := ok_keepW (P := P) (w := w) (base := base) B D_keep_total h_chkM h_filled h_lotsizes M0_Lot
  have h_mostT := ok_mostT (P := P) (w := w) (base := base) B D_most_things h_keepT h_lotnum
  have h_mostW := ok_mostW (P := P) (w := w) (base := base) B D_most_total h_keepW h_lottotal
  have h_fitp := ok_fitp (P := P) (w := w) (base := base) B LT_Lot D__is_fitting_part h_partof h_fits
  have h_keptT := ok_keptT (P := P) (w := w) (base := base) B D_is_kept_things h_mostT h_fitp h_lotnum
  have h_keptW := ok_keptW (P := P) (w := w) (base := base) B D_is_kept_total h_mostW h_fitp h_lottotal
  have h_lothasI := ok_lothasI (P := P) (w := w) (base := base) LT_Lot DM_Lot_contains h_size
  have h_are := ok_are (P := P) (w := w) (base := base) B D__are_sizes_of h_lothasI
  have h_all := ok_all (P := P) (w := w) (base := base) B D_keep_all_of h_chklot h_chksto h_togN h_are h_fits h_filled h_lotsizes h_lotitem M_Lot
  have h_roll := ok_roll (P := P) (w := w) (base := base) B D__law_roll
  have h_dice := ok_dice (P := P) (w := w) (base := base) B D__law_dice
  have h_great := ok_great (P := P) (w := w) (base := base) B D__law_great h_roll
  have h_long := ok_long (P := P) (w := w) (base := base) B D__law_long_chain h_roll
  have h_gl := ok_gl (P := P) (w := w) (base := base) B D__law_great_lot h_roll h_great
  have h_made := ok_made (P := P) (w := w) (base := base) B D__law_made_lot M_Lot
  have h_tot := ok_tot (P := P) (w := w) (base := base) B D__law_total
  have h_pickS := ok_pickS (P := P) (w := w) (base := base) B D__law_pick h_roll
  have h_grs := ok_grs (P := P) (w := w) (base := base) B D__law_great_store h_roll h_pickS h_great
  have h_space := ok_space (P := P) (w := w) (base := base) B D__law_space
  have h_unl := ok_unl (P := P) (w := w) (base := base) B D__law_units
  have h_bars := ok_bars (P := P) (w := w) (base := base) B D__law_bars h_unl h_space
  have h_madeG := ok_madeG (P := P) (w := w) (base := base) B D__law_made_store M_Store
  have h_lip := ok_lip (P := P) (w := w) (base := base) B D__law_is_part
  have h_mrg := ok_mrg (P := P) (w := w) (base := base) B D__law_merged
  have h_num := ok_num (P := P) (w := w) (base := base) B D__law_number
  have h_cof := ok_cof (P := P) (w := w) (base := base) B LT_Lot LK_LotN D__law_counts_of h_lotcounts
  have h_fl := ok_fl (P := P) (w := w) (base := base) B D__law_fits h_bars
  have h_wc := ok_wc (P := P) (w := w) (base := base) B D__law_with
  have h_ab := ok_ab (P := P) (w := w) (base := base) B D__law_are_best h_fl h_wc
  have h_mo := ok_mo (P := P) (w := w) (base := base) B D__law_most_of h_fl h_wc
  have h_wantB := ok_wantB (P := P) (w := w) (base := base) B LT_Lot D__law_wanted_right h_roll h_num h_cof h_all h_fl h_wc h_mo h_lip
  have h_right := ok_right (P := P) (w := w) (base := base) B D__law_right h_roll h_pickS h_long h_gl h_grs h_mrg h_made h_madeG h_num h_tot h_lip h_fl h_ab h_lotcounts h_mostT h_mostW h_keepT h_keepW h_keptT h_keptW h_wantB
  have C__law_dice := h_dice
  have C__law_right := h_right
  refine Fun.okG F sc_law (fun vs H Q E h => ?_) (fun cdv A fr s H vs Q E hr hgd h => ?_)
  · obtain ⟨a, ns, rfl, _⟩ := h
    rfl
  · obtain ⟨a, ns, rfl, hS, hlen, q⟩ := h
    refine ⟨_, PSs.nox (pss_cons (ps_for PassesOwn.never rfl (pi_range1 (by rfl) B.range (pa_cons (pe_callB (call_max2 rfl) (by rfl) B.max bt_max (pa_cons pe_int (pa_cons (pe_callB (call_min2 rfl) (by rfl) B.min bt_min (pa_cons pe_int (pa_cons (pe_callB call_len_seq (by rfl) B.len bt_len (pa_cons (pv 0) pa_nil)) pa_nil))) pa_nil))) pa_nil)) (pg_name (i := 1) sc_law.nd rfl (by first | exact Or.inl rfl | exact Or.inr rfl)) (pss_cons (ps_set (i := 2) sc_law.nd rfl (by first | exact Or.inl rfl | exact Or.inr rfl) (pcg C__law_dice hr hgd (pa_cons (pv 0) (pa_cons (pv 1) pa_nil))))
    (pss_one (ps_for PassesOwn.never rfl (pi_range1 (by rfl) B.range (pa_cons pe_int pa_nil)) (pg_name (i := 3) sc_law.nd rfl (by first | exact Or.inl rfl | exact Or.inr rfl)) (pss_one (ps_if (pt_not (pt_val (pcg C__law_right hr hgd (pa_cons (pv 2) pa_nil)))) (pss_one (ps_ret pe_bl)) pss_nil))))))
    (pss_one (ps_ret pe_bl))), ?_⟩
    refine spots (K := K) (m := 3) (k := 4) (by decide) rfl (by decide) hS ?_ ?_
    · rintro sp r H1 hr1 hs
      match r, hr1 with
      | [v2, v3], _ =>
      refine ⟨.ref a, rfl, .int sp, rfl, a, sp, ns, rfl, hs.seq hS, fun d hd H2 hdice k => ?_⟩
      have hd0 : H d = none := hs.free hd
      have hs2 : Same H H2 := fun b o e => (k b (ne_of_none e hd0)).trans (hs b o e)
      refine turnsE (m := 0) (n := 4) (d := d) (H0 := H) (by decide) ⟨⟨_, [_], rfl, rfl⟩, hs2, hdice⟩ ?_ ?_
      · rintro t s' r H3 hr3 hs3 hd3
        match r, hr3 with
        | [], _ =>
        refine ⟨.ref d, rfl, d, rfl, hd3, fun H4 k4 => ⟨true, rfl, iteF ?_⟩⟩
        exact ⟨⟨_, [_], rfl, rfl⟩, fun b o e => k4.1 b o (ne_of_none e hd0) (hs3 b o e), k4.2⟩
      · intro s' r H3 hr3 hs3 hd3
        match r, hr3 with
        | [w3], _ => exact ⟨⟨_, rfl, rfl⟩, hs3⟩
    · rintro r H1 hr1 hs
      exact q H1
theorem start_law {H : Hp} {a : Addr} {ns : List Int} (hl : ns.length ≤ 63) (hS : SqL K H a (ns.map V.int)) : spLaw K [.ref a] H (fun v _ => v = .bl true) fun _ _ _ => False := ⟨a, ns, rfl, hS, hl, fun _ => rfl⟩

end
theorem all_mk {P : Program} {w : World} {K : PySem.W.Frag} {h : Heap} {mg : Str → Option Value} {fa f0 f1 f2 f3 f4 f5 f6 f7 f8 f9 f10 f11 f12 f13 f14 f15 f16 f17 f18 f19 f20 f21 f22 f23 f24 f25 f26 f27 f28 f29 f30 f31 f32 f33 f34 f35 f36 f37 f38 f39 f40 f41 f42 f43 f44 f45 f46 f47 f48 f49 f50 f51 f52 f53 : Addr} (X : K.In h) (G : h.Ns mainGlobals mg) (hfa : mg "law" = some (.ref fa))
    {od0 an0 od1 an1 od2 an2 od3 an3 od4 an4 od5 an5 od6 an6 od7 an7 od8 an8 od9 an9 od10 an10 od11 an11 od12 an12 od13 an13 od14 an14 od15 an15 od16 an16 od17 an17 od18 an18 od19 an19 od20 an20 od21 an21 od22 an22 od23 an23 od24 an24 od25 an25 od26 an26 od27 an27 od28 an28 od29 an29 od30 an30 od31 an31 od32 an32 od33 an33 od34 an34 od35 an35 od36 an36 od37 an37 od38 an38 od39 an39 od40 an40 od41 an41 od42 an42 od43 an43 od44 an44 od45 an45 od46 an46 od47 an47 od48 an48 od49 an49 od50 an50 od51 an51 od52 an52 od53 an53 : Option Addr} {sl0 sl1 sl2 sl3 sl4 sl5 sl6 sl7 sl8 sl9 sl10 sl11 sl12 sl13 sl14 sl15 sl16 sl17 sl18 sl19 sl20 sl21 sl22 sl23 sl24 sl25 sl26 sl27 sl28 sl29 sl30 sl31 sl32 sl33 sl34 sl35 sl36 sl37 sl38 sl39 sl40 sl41 sl42 sl43 sl44 sl45 sl46 sl47 sl48 sl49 sl50 sl51 sl52 sl53 : Array (Option Value)} {oc0 kV0 dc0 pm0 cd0 ct0 oc1 kV1 dc1 pm1 cd1 ct1 oc2 kV2 dc2 pm2 cd2 ct2 oc3 kV3 dc3 pm3 cd3 ct3 oc4 kV4 dc4 pm4 cd4 ct4 oc5 kV5 dc5 pm5 cd5 ct5 oc6 kV6 dc6 pm6 cd6 ct6 oc7 kV7 dc7 pm7 cd7 ct7 oc8 kV8 dc8 pm8 cd8 ct8 oc9 kV9 dc9 pm9 cd9 ct9 oc10 kV10 dc10 pm10 cd10 ct10 oc11 kV11 dc11 pm11 cd11 ct11 oc12 kV12 dc12 pm12 cd12 ct12 oc13 kV13 dc13 pm13 cd13 ct13 oc14 kV14 dc14 pm14 cd14 ct14 oc15 kV15 dc15 pm15 cd15 ct15 oc16 kV16 dc16 pm16 cd16 ct16 oc17 kV17 dc17 pm17 cd17 ct17 oc18 kV18 dc18 pm18 cd18 ct18 oc19 kV19 dc19 pm19 cd19 ct19 oc20 kV20 dc20 pm20 cd20 ct20 oc21 kV21 dc21 pm21 cd21 ct21 oc22 kV22 dc22 pm22 cd22 ct22 oc23 kV23 dc23 pm23 cd23 ct23 oc24 kV24 dc24 pm24 cd24 ct24 oc25 kV25 dc25 pm25 cd25 ct25 oc26 kV26 dc26 pm26 cd26 ct26 oc27 kV27 dc27 pm27 cd27 ct27 oc28 kV28 dc28 pm28 cd28 ct28 oc29 kV29 dc29 pm29 cd29 ct29 oc30 kV30 dc30 pm30 cd30 ct30 oc31 kV31 dc31 pm31 cd31 ct31 oc32 kV32 dc32 pm32 cd32 ct32 oc33 kV33 dc33 pm33 cd33 ct33 oc34 kV34 dc34 pm34 cd34 ct34 oc35 kV35 dc35 pm35 cd35 ct35 oc36 kV36 dc36 pm36 cd36 ct36 oc37 kV37 dc37 pm37 cd37 ct37 oc38 kV38 dc38 pm38 cd38 ct38 oc39 kV39 dc39 pm39 cd39 ct39 oc40 kV40 dc40 pm40 cd40 ct40 oc41 kV41 dc41 pm41 cd41 ct41 oc42 kV42 dc42 pm42 cd42 ct42 oc43 kV43 dc43 pm43 cd43 ct43 oc44 kV44 dc44 pm44 cd44 ct44 oc45 kV45 dc45 pm45 cd45 ct45 oc46 kV46 dc46 pm46 cd46 ct46 oc47 kV47 dc47 pm47 cd47 ct47 oc48 kV48 dc48 pm48 cd48 ct48 oc49 kV49 dc49 pm49 cd49 ct49 oc50 kV50 dc50 pm50 cd50 ct50 oc51 kV51 dc51 pm51 cd51 ct51 oc52 kV52 dc52 pm52 cd52 ct52 oc53 kV53 dc53 pm53 cd53 ct53 : Value} {t_MAX_FIGURES t_MAX_RUNS t_MAX_SIZES : Tok}
    {ccLot : Addr} {g_Lot_init : Addr} {od_Lot_init an_Lot_init : Option Addr} {sl_Lot_init : Array (Option Value)} {oc_Lot_init kV_Lot_init dc_Lot_init pm_Lot_init cd_Lot_init ct_Lot_init : Value} {T_Lot_init : Addr} {dT_Lot_init : Option Addr} {sT_Lot_init : Array (Option Value)} {oT_Lot_init : Value} {nT_Lot_init : Nat} {g_Lot_counts : Addr} {od_Lot_counts an_Lot_counts : Option Addr} {sl_Lot_counts : Array (Option Value)} {oc_Lot_counts kV_Lot_counts dc_Lot_counts pm_Lot_counts cd_Lot_counts ct_Lot_counts : Value} {p_Lot_counts : Addr} {rs_Lot_counts : List Value} {g_Lot_sizes : Addr} {od_Lot_sizes an_Lot_sizes : Option Addr} {sl_Lot_sizes : Array (Option Value)} {oc_Lot_sizes kV_Lot_sizes dc_Lot_sizes pm_Lot_sizes cd_Lot_sizes ct_Lot_sizes : Value} {p_Lot_sizes : Addr} {rs_Lot_sizes : List Value} {g_Lot_number : Addr} {od_Lot_number an_Lot_number : Option Addr} {sl_Lot_number : Array (Option Value)} {oc_Lot_number kV_Lot_number dc_Lot_number pm_Lot_number cd_Lot_number ct_Lot_number : Value} {p_Lot_number : Addr} {rs_Lot_number : List Value} {g_Lot_total : Addr} {od_Lot_total an_Lot_total : Option Addr} {sl_Lot_total : Array (Option Value)} {oc_Lot_total kV_Lot_total dc_Lot_total pm_Lot_total cd_Lot_total ct_Lot_total : Value} {p_Lot_total : Addr} {rs_Lot_total : List Value} {g_Lot_units : Addr} {od_Lot_units an_Lot_units : Option Addr} {sl_Lot_units : Array (Option Value)} {oc_Lot_units kV_Lot_units dc_Lot_units pm_Lot_units cd_Lot_units ct_Lot_units : Value} {g_Lot_is_part_of : Addr} {od_Lot_is_part_of an_Lot_is_part_of : Option Addr} {sl_Lot_is_part_of : Array (Option Value)} {oc_Lot_is_part_of kV_Lot_is_part_of dc_Lot_is_part_of pm_Lot_is_part_of cd_Lot_is_part_of ct_Lot_is_part_of : Value} {g_Lot_with_count : Addr} {od_Lot_with_count an_Lot_with_count : Option Addr} {sl_Lot_with_count : Array (Option Value)} {oc_Lot_with_count kV_Lot_with_count dc_Lot_with_count pm_Lot_with_count cd_Lot_with_count ct_Lot_with_count : Value} {g_Lot_getitem : Addr} {od_Lot_getitem an_Lot_getitem : Option Addr} {sl_Lot_getitem : Array (Option Value)} {oc_Lot_getitem kV_Lot_getitem dc_Lot_getitem pm_Lot_getitem cd_Lot_getitem ct_Lot_getitem : Value} {g_Lot_contains : Addr} {od_Lot_contains an_Lot_contains : Option Addr} {sl_Lot_contains : Array (Option Value)} {oc_Lot_contains kV_Lot_contains dc_Lot_contains pm_Lot_contains cd_Lot_contains ct_Lot_contains : Value} {g_Lot_len : Addr} {od_Lot_len an_Lot_len : Option Addr} {sl_Lot_len : Array (Option Value)} {oc_Lot_len kV_Lot_len dc_Lot_len pm_Lot_len cd_Lot_len ct_Lot_len : Value} {g_Lot_eq : Addr} {od_Lot_eq an_Lot_eq : Option Addr} {sl_Lot_eq : Array (Option Value)} {oc_Lot_eq kV_Lot_eq dc_Lot_eq pm_Lot_eq cd_Lot_eq ct_Lot_eq : Value} {ccStore : Addr} {g_Store_init : Addr} {od_Store_init an_Store_init : Option Addr} {sl_Store_init : Array (Option Value)} {oc_Store_init kV_Store_init dc_Store_init pm_Store_init cd_Store_init ct_Store_init : Value} {g_Store_units : Addr} {od_Store_units an_Store_units : Option Addr} {sl_Store_units : Array (Option Value)} {oc_Store_units kV_Store_units dc_Store_units pm_Store_units cd_Store_units ct_Store_units : Value}
    (a0 : PySem.W.nsIn K mainGlobals "is_integer" = some (some (.ref f0))) (l0 : K.lookup f0 = some ⟨oc0, od0, .func (PySem.W.fnOf "is_integer" "is_integer" (defArgs s_is_integer) (defBody s_is_integer) (defScope s_is_integer) .none kV0 dc0 pm0 an0 cd0 ct0), sl0⟩) (c0 : PySem.W.codeIn K cd0 "is_integer" = true) (k0 : PySem.W.keepIn K (.ref f0) = true)
    (a1 : PySem.W.nsIn K mainGlobals "is_count" = some (some (.ref f1))) (l1 : K.lookup f1 = some ⟨oc1, od1, .func (PySem.W.fnOf "is_count" "is_count" (defArgs s_is_count) (defBody s_is_count) (defScope s_is_count) .none kV1 dc1 pm1 an1 cd1 ct1), sl1⟩) (c1 : PySem.W.codeIn K cd1 "is_count" = true) (k1 : PySem.W.keepIn K (.ref f1) = true)
    (a2 : PySem.W.nsIn K mainGlobals "is_size" = some (some (.ref f2))) (l2 : K.lookup f2 = some ⟨oc2, od2, .func (PySem.W.fnOf "is_size" "is_size" (defArgs s_is_size) (defBody s_is_size) (defScope s_is_size) .none kV2 dc2 pm2 an2 cd2 ct2), sl2⟩) (c2 : PySem.W.codeIn K cd2 "is_size" = true) (k2 : PySem.W.keepIn K (.ref f2) = true)
    (a3 : PySem.W.nsIn K mainGlobals "is_run" = some (some (.ref f3))) (l3 : K.lookup f3 = some ⟨oc3, od3, .func (PySem.W.fnOf "is_run" "is_run" (defArgs s_is_run) (defBody s_is_run) (defScope s_is_run) .none kV3 dc3 pm3 an3 cd3 ct3), sl3⟩) (c3 : PySem.W.codeIn K cd3 "is_run" = true) (k3 : PySem.W.keepIn K (.ref f3) = true)
    (a4 : PySem.W.nsIn K mainGlobals "number_of_all" = some (some (.ref f4))) (l4 : K.lookup f4 = some ⟨oc4, od4, .func (PySem.W.fnOf "number_of_all" "number_of_all" (defArgs s_number_of_all) (defBody s_number_of_all) (defScope s_number_of_all) .none kV4 dc4 pm4 an4 cd4 ct4), sl4⟩) (c4 : PySem.W.codeIn K cd4 "number_of_all" = true) (k4 : PySem.W.keepIn K (.ref f4) = true)
    (a5 : PySem.W.nsIn K mainGlobals "units_of" = some (some (.ref f5))) (l5 : K.lookup f5 = some ⟨oc5, od5, .func (PySem.W.fnOf "units_of" "units_of" (defArgs s_units_of) (defBody s_units_of) (defScope s_units_of) .none kV5 dc5 pm5 an5 cd5 ct5), sl5⟩) (c5 : PySem.W.codeIn K cd5 "units_of" = true) (k5 : PySem.W.keepIn K (.ref f5) = true)
    (a6 : PySem.W.nsIn K mainGlobals "joined_runs" = some (some (.ref f6))) (l6 : K.lookup f6 = some ⟨oc6, od6, .func (PySem.W.fnOf "joined_runs" "joined_runs" (defArgs s_joined_runs) (defBody s_joined_runs) (defScope s_joined_runs) .none kV6 dc6 pm6 an6 cd6 ct6), sl6⟩) (c6 : PySem.W.codeIn K cd6 "joined_runs" = true) (k6 : PySem.W.keepIn K (.ref f6) = true)
    (a7 : PySem.W.nsIn K mainGlobals "check_size" = some (some (.ref f7))) (l7 : K.lookup f7 = some ⟨oc7, od7, .func (PySem.W.fnOf "check_size" "check_size" (defArgs s_check_size) (defBody s_check_size) (defScope s_check_size) .none kV7 dc7 pm7 an7 cd7 ct7), sl7⟩) (c7 : PySem.W.codeIn K cd7 "check_size" = true) (k7 : PySem.W.keepIn K (.ref f7) = true)
    (a8 : PySem.W.nsIn K mainGlobals "check_count" = some (some (.ref f8))) (l8 : K.lookup f8 = some ⟨oc8, od8, .func (PySem.W.fnOf "check_count" "check_count" (defArgs s_check_count) (defBody s_check_count) (defScope s_check_count) .none kV8 dc8 pm8 an8 cd8 ct8), sl8⟩) (c8 : PySem.W.codeIn K cd8 "check_count" = true) (k8 : PySem.W.keepIn K (.ref f8) = true)
    (a9 : PySem.W.nsIn K mainGlobals "first_gap" = some (some (.ref f9))) (l9 : K.lookup f9 = some ⟨oc9, od9, .func (PySem.W.fnOf "first_gap" "first_gap" (defArgs s_first_gap) (defBody s_first_gap) (defScope s_first_gap) .none kV9 dc9 pm9 an9 cd9 ct9), sl9⟩) (c9 : PySem.W.codeIn K cd9 "first_gap" = true) (k9 : PySem.W.keepIn K (.ref f9) = true)
    (a10 : PySem.W.nsIn K mainGlobals "check_lot" = some (some (.ref f10))) (l10 : K.lookup f10 = some ⟨oc10, od10, .func (PySem.W.fnOf "check_lot" "check_lot" (defArgs s_check_lot) (defBody s_check_lot) (defScope s_check_lot) .none kV10 dc10 pm10 an10 cd10 ct10), sl10⟩) (c10 : PySem.W.codeIn K cd10 "check_lot" = true) (k10 : PySem.W.keepIn K (.ref f10) = true)
    (a11 : PySem.W.nsIn K mainGlobals "_are_counts" = some (some (.ref f11))) (l11 : K.lookup f11 = some ⟨oc11, od11, .func (PySem.W.fnOf "_are_counts" "_are_counts" (defArgs s__are_counts) (defBody s__are_counts) (defScope s__are_counts) .none kV11 dc11 pm11 an11 cd11 ct11), sl11⟩) (c11 : PySem.W.codeIn K cd11 "_are_counts" = true) (k11 : PySem.W.keepIn K (.ref f11) = true)
    (a12 : PySem.W.nsIn K mainGlobals "check_store" = some (some (.ref f12))) (l12 : K.lookup f12 = some ⟨oc12, od12, .func (PySem.W.fnOf "check_store" "check_store" (defArgs s_check_store) (defBody s_check_store) (defScope s_check_store) .none kV12 dc12 pm12 an12 cd12 ct12), sl12⟩) (c12 : PySem.W.codeIn K cd12 "check_store" = true) (k12 : PySem.W.keepIn K (.ref f12) = true)
    (a13 : PySem.W.nsIn K mainGlobals "check_together" = some (some (.ref f13))) (l13 : K.lookup f13 = some ⟨oc13, od13, .func (PySem.W.fnOf "check_together" "check_together" (defArgs s_check_together) (defBody s_check_together) (defScope s_check_together) .none kV13 dc13 pm13 an13 cd13 ct13), sl13⟩) (c13 : PySem.W.codeIn K cd13 "check_together" = true) (k13 : PySem.W.keepIn K (.ref f13) = true)
    (a14 : PySem.W.nsIn K mainGlobals "check_levels" = some (some (.ref f14))) (l14 : K.lookup f14 = some ⟨oc14, od14, .func (PySem.W.fnOf "_check" "_check" (defArgs s_check_levels) (defBody s_check_levels) (defScope s_check_levels) .none kV14 dc14 pm14 an14 cd14 ct14), sl14⟩) (c14 : PySem.W.codeIn K cd14 "_check" = true) (k14 : PySem.W.keepIn K (.ref f14) = true)
    (a15 : PySem.W.nsIn K mainGlobals "levels_of" = some (some (.ref f15))) (l15 : K.lookup f15 = some ⟨oc15, od15, .func (PySem.W.fnOf "levels_of" "levels_of" (defArgs s_levels_of) (defBody s_levels_of) (defScope s_levels_of) .none kV15 dc15 pm15 an15 cd15 ct15), sl15⟩) (c15 : PySem.W.codeIn K cd15 "levels_of" = true) (k15 : PySem.W.keepIn K (.ref f15) = true)
    (a16 : PySem.W.nsIn K mainGlobals "fits" = some (some (.ref f16))) (l16 : K.lookup f16 = some ⟨oc16, od16, .func (PySem.W.fnOf "fits" "fits" (defArgs s_fits) (defBody s_fits) (defScope s_fits) .none kV16 dc16 pm16 an16 cd16 ct16), sl16⟩) (c16 : PySem.W.codeIn K cd16 "fits" = true) (k16 : PySem.W.keepIn K (.ref f16) = true)
    (a17 : PySem.W.nsIn K mainGlobals "barring_sizes" = some (some (.ref f17))) (l17 : K.lookup f17 = some ⟨oc17, od17, .func (PySem.W.fnOf "barring_sizes" "barring_sizes" (defArgs s_barring_sizes) (defBody s_barring_sizes) (defScope s_barring_sizes) .none kV17 dc17 pm17 an17 cd17 ct17), sl17⟩) (c17 : PySem.W.codeIn K cd17 "barring_sizes" = true) (k17 : PySem.W.keepIn K (.ref f17) = true)
    (a18 : PySem.W.nsIn K mainGlobals "spare" = some (some (.ref f18))) (l18 : K.lookup f18 = some ⟨oc18, od18, .func (PySem.W.fnOf "spare" "spare" (defArgs s_spare) (defBody s_spare) (defScope s_spare) .none kV18 dc18 pm18 an18 cd18 ct18), sl18⟩) (c18 : PySem.W.codeIn K cd18 "spare" = true) (k18 : PySem.W.keepIn K (.ref f18) = true)
    (a19 : PySem.W.nsIn K mainGlobals "check_most" = some (some (.ref f19))) (l19 : K.lookup f19 = some ⟨oc19, od19, .func (PySem.W.fnOf "_check" "_check" (defArgs s_check_most) (defBody s_check_most) (defScope s_check_most) .none kV19 dc19 pm19 an19 cd19 ct19), sl19⟩) (c19 : PySem.W.codeIn K cd19 "_check" = true) (k19 : PySem.W.keepIn K (.ref f19) = true)
    (a20 : PySem.W.nsIn K mainGlobals "most_things" = some (some (.ref f20))) (l20 : K.lookup f20 = some ⟨oc20, od20, .func (PySem.W.fnOf "most_things" "most_things" (defArgs s_most_things) (defBody s_most_things) (defScope s_most_things) .none kV20 dc20 pm20 an20 cd20 ct20), sl20⟩) (c20 : PySem.W.codeIn K cd20 "most_things" = true) (k20 : PySem.W.keepIn K (.ref f20) = true)
    (a21 : PySem.W.nsIn K mainGlobals "most_total" = some (some (.ref f21))) (l21 : K.lookup f21 = some ⟨oc21, od21, .func (PySem.W.fnOf "most_total" "most_total" (defArgs s_most_total) (defBody s_most_total) (defScope s_most_total) .none kV21 dc21 pm21 an21 cd21 ct21), sl21⟩) (c21 : PySem.W.codeIn K cd21 "most_total" = true) (k21 : PySem.W.keepIn K (.ref f21) = true)
    (a22 : PySem.W.nsIn K mainGlobals "keep_things" = some (some (.ref f22))) (l22 : K.lookup f22 = some ⟨oc22, od22, .func (PySem.W.fnOf "keep_things" "keep_things" (defArgs s_keep_things) (defBody s_keep_things) (defScope s_keep_things) .none kV22 dc22 pm22 an22 cd22 ct22), sl22⟩) (c22 : PySem.W.codeIn K cd22 "keep_things" = true) (k22 : PySem.W.keepIn K (.ref f22) = true)
    (a23 : PySem.W.nsIn K mainGlobals "keep_total" = some (some (.ref f23))) (l23 : K.lookup f23 = some ⟨oc23, od23, .func (PySem.W.fnOf "keep_total" "keep_total" (defArgs s_keep_total) (defBody s_keep_total) (defScope s_keep_total) .none kV23 dc23 pm23 an23 cd23 ct23), sl23⟩) (c23 : PySem.W.codeIn K cd23 "keep_total" = true) (k23 : PySem.W.keepIn K (.ref f23) = true)
    (a24 : PySem.W.nsIn K mainGlobals "_filled" = some (some (.ref f24))) (l24 : K.lookup f24 = some ⟨oc24, od24, .func (PySem.W.fnOf "_filled" "_filled" (defArgs s__filled) (defBody s__filled) (defScope s__filled) .none kV24 dc24 pm24 an24 cd24 ct24), sl24⟩) (c24 : PySem.W.codeIn K cd24 "_filled" = true) (k24 : PySem.W.keepIn K (.ref f24) = true)
    (a25 : PySem.W.nsIn K mainGlobals "_is_fitting_part" = some (some (.ref f25))) (l25 : K.lookup f25 = some ⟨oc25, od25, .func (PySem.W.fnOf "_is_fitting_part" "_is_fitting_part" (defArgs s__is_fitting_part) (defBody s__is_fitting_part) (defScope s__is_fitting_part) .none kV25 dc25 pm25 an25 cd25 ct25), sl25⟩) (c25 : PySem.W.codeIn K cd25 "_is_fitting_part" = true) (k25 : PySem.W.keepIn K (.ref f25) = true)
    (a26 : PySem.W.nsIn K mainGlobals "is_kept_things" = some (some (.ref f26))) (l26 : K.lookup f26 = some ⟨oc26, od26, .func (PySem.W.fnOf "is_kept_things" "is_kept_things" (defArgs s_is_kept_things) (defBody s_is_kept_things) (defScope s_is_kept_things) .none kV26 dc26 pm26 an26 cd26 ct26), sl26⟩) (c26 : PySem.W.codeIn K cd26 "is_kept_things" = true) (k26 : PySem.W.keepIn K (.ref f26) = true)
    (a27 : PySem.W.nsIn K mainGlobals "is_kept_total" = some (some (.ref f27))) (l27 : K.lookup f27 = some ⟨oc27, od27, .func (PySem.W.fnOf "is_kept_total" "is_kept_total" (defArgs s_is_kept_total) (defBody s_is_kept_total) (defScope s_is_kept_total) .none kV27 dc27 pm27 an27 cd27 ct27), sl27⟩) (c27 : PySem.W.codeIn K cd27 "is_kept_total" = true) (k27 : PySem.W.keepIn K (.ref f27) = true)
    (a28 : PySem.W.nsIn K mainGlobals "keep_all_of" = some (some (.ref f28))) (l28 : K.lookup f28 = some ⟨oc28, od28, .func (PySem.W.fnOf "keep_all_of" "keep_all_of" (defArgs s_keep_all_of) (defBody s_keep_all_of) (defScope s_keep_all_of) .none kV28 dc28 pm28 an28 cd28 ct28), sl28⟩) (c28 : PySem.W.codeIn K cd28 "keep_all_of" = true) (k28 : PySem.W.keepIn K (.ref f28) = true)
    (a29 : PySem.W.nsIn K mainGlobals "_are_sizes_of" = some (some (.ref f29))) (l29 : K.lookup f29 = some ⟨oc29, od29, .func (PySem.W.fnOf "_are_sizes_of" "_are_sizes_of" (defArgs s__are_sizes_of) (defBody s__are_sizes_of) (defScope s__are_sizes_of) .none kV29 dc29 pm29 an29 cd29 ct29), sl29⟩) (c29 : PySem.W.codeIn K cd29 "_are_sizes_of" = true) (k29 : PySem.W.keepIn K (.ref f29) = true)
    (a30 : PySem.W.nsIn K mainGlobals "_law_dice" = some (some (.ref f30))) (l30 : K.lookup f30 = some ⟨oc30, od30, .func (PySem.W.fnOf "_law_dice" "_law_dice" (defArgs s__law_dice) (defBody s__law_dice) (defScope s__law_dice) .none kV30 dc30 pm30 an30 cd30 ct30), sl30⟩) (c30 : PySem.W.codeIn K cd30 "_law_dice" = true) (k30 : PySem.W.keepIn K (.ref f30) = true)
    (a31 : PySem.W.nsIn K mainGlobals "_law_roll" = some (some (.ref f31))) (l31 : K.lookup f31 = some ⟨oc31, od31, .func (PySem.W.fnOf "_law_roll" "_law_roll" (defArgs s__law_roll) (defBody s__law_roll) (defScope s__law_roll) .none kV31 dc31 pm31 an31 cd31 ct31), sl31⟩) (c31 : PySem.W.codeIn K cd31 "_law_roll" = true) (k31 : PySem.W.keepIn K (.ref f31) = true)
    (a32 : PySem.W.nsIn K mainGlobals "_law_pick" = some (some (.ref f32))) (l32 : K.lookup f32 = some ⟨oc32, od32, .func (PySem.W.fnOf "_law_pick" "_law_pick" (defArgs s__law_pick) (defBody s__law_pick) (defScope s__law_pick) .none kV32 dc32 pm32 an32 cd32 ct32), sl32⟩) (c32 : PySem.W.codeIn K cd32 "_law_pick" = true) (k32 : PySem.W.keepIn K (.ref f32) = true)
    (a33 : PySem.W.nsIn K mainGlobals "_law_great" = some (some (.ref f33))) (l33 : K.lookup f33 = some ⟨oc33, od33, .func (PySem.W.fnOf "_law_great" "_law_great" (defArgs s__law_great) (defBody s__law_great) (defScope s__law_great) .none kV33 dc33 pm33 an33 cd33 ct33), sl33⟩) (c33 : PySem.W.codeIn K cd33 "_law_great" = true) (k33 : PySem.W.keepIn K (.ref f33) = true)
    (a34 : PySem.W.nsIn K mainGlobals "_law_long_chain" = some (some (.ref f34))) (l34 : K.lookup f34 = some ⟨oc34, od34, .func (PySem.W.fnOf "_law_long_chain" "_law_long_chain" (defArgs s__law_long_chain) (defBody s__law_long_chain) (defScope s__law_long_chain) .none kV34 dc34 pm34 an34 cd34 ct34), sl34⟩) (c34 : PySem.W.codeIn K cd34 "_law_long_chain" = true) (k34 : PySem.W.keepIn K (.ref f34) = true)
    (a35 : PySem.W.nsIn K mainGlobals "_law_great_lot" = some (some (.ref f35))) (l35 : K.lookup f35 = some ⟨oc35, od35, .func (PySem.W.fnOf "_law_great_lot" "_law_great_lot" (defArgs s__law_great_lot) (defBody s__law_great_lot) (defScope s__law_great_lot) .none kV35 dc35 pm35 an35 cd35 ct35), sl35⟩) (c35 : PySem.W.codeIn K cd35 "_law_great_lot" = true) (k35 : PySem.W.keepIn K (.ref f35) = true)
    (a36 : PySem.W.nsIn K mainGlobals "_law_great_store" = some (some (.ref f36))) (l36 : K.lookup f36 = some ⟨oc36, od36, .func (PySem.W.fnOf "_law_great_store" "_law_great_store" (defArgs s__law_great_store) (defBody s__law_great_store) (defScope s__law_great_store) .none kV36 dc36 pm36 an36 cd36 ct36), sl36⟩) (c36 : PySem.W.codeIn K cd36 "_law_great_store" = true) (k36 : PySem.W.keepIn K (.ref f36) = true)
    (a37 : PySem.W.nsIn K mainGlobals "_law_merged" = some (some (.ref f37))) (l37 : K.lookup f37 = some ⟨oc37, od37, .func (PySem.W.fnOf "_law_merged" "_law_merged" (defArgs s__law_merged) (defBody s__law_merged) (defScope s__law_merged) .none kV37 dc37 pm37 an37 cd37 ct37), sl37⟩) (c37 : PySem.W.codeIn K cd37 "_law_merged" = true) (k37 : PySem.W.keepIn K (.ref f37) = true)
    (a38 : PySem.W.nsIn K mainGlobals "_law_made_lot" = some (some (.ref f38))) (l38 : K.lookup f38 = some ⟨oc38, od38, .func (PySem.W.fnOf "_law_made_lot" "_law_made_lot" (defArgs s__law_made_lot) (defBody s__law_made_lot) (defScope s__law_made_lot) .none kV38 dc38 pm38 an38 cd38 ct38), sl38⟩) (c38 : PySem.W.codeIn K cd38 "_law_made_lot" = true) (k38 : PySem.W.keepIn K (.ref f38) = true)
    (a39 : PySem.W.nsIn K mainGlobals "_law_made_store" = some (some (.ref f39))) (l39 : K.lookup f39 = some ⟨oc39, od39, .func (PySem.W.fnOf "_law_made_store" "_law_made_store" (defArgs s__law_made_store) (defBody s__law_made_store) (defScope s__law_made_store) .none kV39 dc39 pm39 an39 cd39 ct39), sl39⟩) (c39 : PySem.W.codeIn K cd39 "_law_made_store" = true) (k39 : PySem.W.keepIn K (.ref f39) = true)
    (a40 : PySem.W.nsIn K mainGlobals "_law_total" = some (some (.ref f40))) (l40 : K.lookup f40 = some ⟨oc40, od40, .func (PySem.W.fnOf "_law_total" "_law_total" (defArgs s__law_total) (defBody s__law_total) (defScope s__law_total) .none kV40 dc40 pm40 an40 cd40 ct40), sl40⟩) (c40 : PySem.W.codeIn K cd40 "_law_total" = true) (k40 : PySem.W.keepIn K (.ref f40) = true)
    (a41 : PySem.W.nsIn K mainGlobals "_law_units" = some (some (.ref f41))) (l41 : K.lookup f41 = some ⟨oc41, od41, .func (PySem.W.fnOf "_law_units" "_law_units" (defArgs s__law_units) (defBody s__law_units) (defScope s__law_units) .none kV41 dc41 pm41 an41 cd41 ct41), sl41⟩) (c41 : PySem.W.codeIn K cd41 "_law_units" = true) (k41 : PySem.W.keepIn K (.ref f41) = true)
    (a42 : PySem.W.nsIn K mainGlobals "_law_space" = some (some (.ref f42))) (l42 : K.lookup f42 = some ⟨oc42, od42, .func (PySem.W.fnOf "_law_space" "_law_space" (defArgs s__law_space) (defBody s__law_space) (defScope s__law_space) .none kV42 dc42 pm42 an42 cd42 ct42), sl42⟩) (c42 : PySem.W.codeIn K cd42 "_law_space" = true) (k42 : PySem.W.keepIn K (.ref f42) = true)
    (a43 : PySem.W.nsIn K mainGlobals "_law_bars" = some (some (.ref f43))) (l43 : K.lookup f43 = some ⟨oc43, od43, .func (PySem.W.fnOf "_law_bars" "_law_bars" (defArgs s__law_bars) (defBody s__law_bars) (defScope s__law_bars) .none kV43 dc43 pm43 an43 cd43 ct43), sl43⟩) (c43 : PySem.W.codeIn K cd43 "_law_bars" = true) (k43 : PySem.W.keepIn K (.ref f43) = true)
    (a44 : PySem.W.nsIn K mainGlobals "_law_number" = some (some (.ref f44))) (l44 : K.lookup f44 = some ⟨oc44, od44, .func (PySem.W.fnOf "_law_number" "_law_number" (defArgs s__law_number) (defBody s__law_number) (defScope s__law_number) .none kV44 dc44 pm44 an44 cd44 ct44), sl44⟩) (c44 : PySem.W.codeIn K cd44 "_law_number" = true) (k44 : PySem.W.keepIn K (.ref f44) = true)
    (a45 : PySem.W.nsIn K mainGlobals "_law_is_part" = some (some (.ref f45))) (l45 : K.lookup f45 = some ⟨oc45, od45, .func (PySem.W.fnOf "_law_is_part" "_law_is_part" (defArgs s__law_is_part) (defBody s__law_is_part) (defScope s__law_is_part) .none kV45 dc45 pm45 an45 cd45 ct45), sl45⟩) (c45 : PySem.W.codeIn K cd45 "_law_is_part" = true) (k45 : PySem.W.keepIn K (.ref f45) = true)
    (a46 : PySem.W.nsIn K mainGlobals "_law_counts_of" = some (some (.ref f46))) (l46 : K.lookup f46 = some ⟨oc46, od46, .func (PySem.W.fnOf "_law_counts_of" "_law_counts_of" (defArgs s__law_counts_of) (defBody s__law_counts_of) (defScope s__law_counts_of) .none kV46 dc46 pm46 an46 cd46 ct46), sl46⟩) (c46 : PySem.W.codeIn K cd46 "_law_counts_of" = true) (k46 : PySem.W.keepIn K (.ref f46) = true)
    (a47 : PySem.W.nsIn K mainGlobals "_law_fits" = some (some (.ref f47))) (l47 : K.lookup f47 = some ⟨oc47, od47, .func (PySem.W.fnOf "_law_fits" "_law_fits" (defArgs s__law_fits) (defBody s__law_fits) (defScope s__law_fits) .none kV47 dc47 pm47 an47 cd47 ct47), sl47⟩) (c47 : PySem.W.codeIn K cd47 "_law_fits" = true) (k47 : PySem.W.keepIn K (.ref f47) = true)
    (a48 : PySem.W.nsIn K mainGlobals "_law_with" = some (some (.ref f48))) (l48 : K.lookup f48 = some ⟨oc48, od48, .func (PySem.W.fnOf "_law_with" "_law_with" (defArgs s__law_with) (defBody s__law_with) (defScope s__law_with) .none kV48 dc48 pm48 an48 cd48 ct48), sl48⟩) (c48 : PySem.W.codeIn K cd48 "_law_with" = true) (k48 : PySem.W.keepIn K (.ref f48) = true)
    (a49 : PySem.W.nsIn K mainGlobals "_law_are_best" = some (some (.ref f49))) (l49 : K.lookup f49 = some ⟨oc49, od49, .func (PySem.W.fnOf "_law_are_best" "_law_are_best" (defArgs s__law_are_best) (defBody s__law_are_best) (defScope s__law_are_best) .none kV49 dc49 pm49 an49 cd49 ct49), sl49⟩) (c49 : PySem.W.codeIn K cd49 "_law_are_best" = true) (k49 : PySem.W.keepIn K (.ref f49) = true)
    (a50 : PySem.W.nsIn K mainGlobals "_law_most_of" = some (some (.ref f50))) (l50 : K.lookup f50 = some ⟨oc50, od50, .func (PySem.W.fnOf "_law_most_of" "_law_most_of" (defArgs s__law_most_of) (defBody s__law_most_of) (defScope s__law_most_of) .none kV50 dc50 pm50 an50 cd50 ct50), sl50⟩) (c50 : PySem.W.codeIn K cd50 "_law_most_of" = true) (k50 : PySem.W.keepIn K (.ref f50) = true)
    (a51 : PySem.W.nsIn K mainGlobals "_law_wanted_right" = some (some (.ref f51))) (l51 : K.lookup f51 = some ⟨oc51, od51, .func (PySem.W.fnOf "_law_wanted_right" "_law_wanted_right" (defArgs s__law_wanted_right) (defBody s__law_wanted_right) (defScope s__law_wanted_right) .none kV51 dc51 pm51 an51 cd51 ct51), sl51⟩) (c51 : PySem.W.codeIn K cd51 "_law_wanted_right" = true) (k51 : PySem.W.keepIn K (.ref f51) = true)
    (a52 : PySem.W.nsIn K mainGlobals "_law_right" = some (some (.ref f52))) (l52 : K.lookup f52 = some ⟨oc52, od52, .func (PySem.W.fnOf "_law_right" "_law_right" (defArgs s__law_right) (defBody s__law_right) (defScope s__law_right) .none kV52 dc52 pm52 an52 cd52 ct52), sl52⟩) (c52 : PySem.W.codeIn K cd52 "_law_right" = true) (k52 : PySem.W.keepIn K (.ref f52) = true)
    (a53 : PySem.W.nsIn K mainGlobals "law" = some (some (.ref f53))) (l53 : K.lookup f53 = some ⟨oc53, od53, .func (PySem.W.fnOf "law" "law" (defArgs s_law) (defBody s_law) (defScope s_law) .none kV53 dc53 pm53 an53 cd53 ct53), sl53⟩) (c53 : PySem.W.codeIn K cd53 "law" = true) (k53 : PySem.W.keepIn K (.ref f53) = true)
    (z_abs : PySem.W.nsIn K mainGlobals "abs" = some none)
    (z_all : PySem.W.nsIn K mainGlobals "all" = some none)
    (z_any : PySem.W.nsIn K mainGlobals "any" = some none)
    (z_bool : PySem.W.nsIn K mainGlobals "bool" = some none)
    (z_dict : PySem.W.nsIn K mainGlobals "dict" = some none)
    (z_int : PySem.W.nsIn K mainGlobals "int" = some none)
    (z_isinstance : PySem.W.nsIn K mainGlobals "isinstance" = some none)
    (z_len : PySem.W.nsIn K mainGlobals "len" = some none)
    (z_list : PySem.W.nsIn K mainGlobals "list" = some none)
    (z_max : PySem.W.nsIn K mainGlobals "max" = some none)
    (z_min : PySem.W.nsIn K mainGlobals "min" = some none)
    (z_range : PySem.W.nsIn K mainGlobals "range" = some none)
    (z_set : PySem.W.nsIn K mainGlobals "set" = some none)
    (z_sorted : PySem.W.nsIn K mainGlobals "sorted" = some none)
    (z_str : PySem.W.nsIn K mainGlobals "str" = some none)
    (z_sum : PySem.W.nsIn K mainGlobals "sum" = some none)
    (z_tuple : PySem.W.nsIn K mainGlobals "tuple" = some none)
    (z_zip : PySem.W.nsIn K mainGlobals "zip" = some none)
    (q_MAX_FIGURES : PySem.W.nsIn K mainGlobals "MAX_FIGURES" = some (some (.int 200 t_MAX_FIGURES)))
    (q_MAX_RUNS : PySem.W.nsIn K mainGlobals "MAX_RUNS" = some (some (.int 40 t_MAX_RUNS)))
    (q_MAX_SIZES : PySem.W.nsIn K mainGlobals "MAX_SIZES" = some (some (.int 12 t_MAX_SIZES)))
    (e_n : PySem.W.specialIn K (.builtin "object.__class__") "__get__" = some (some (.builtin "getset_descriptor.__get__")))
    (e_t : PySem.W.takesIn K (.builtin "object.__class__") = some true)
    (a_Lot : PySem.W.nsIn K mainGlobals "Lot" = some (some (.ref ccLot)))
    (pg_Lot : PySem.W.plainGet K ccLot Str.empty = true)
    (hd_Lot : PySem.W.hasDictIn K ccLot = true)
    (po_Lot : PySem.W.plainOver K ccLot = true)
    (sa_Lot : PySem.W.findIn K (.ref ccLot) "__setattr__" = some (some (.builtin "object.__setattr__")))
    (mk_Lot : PySem.W.makesIn K ccLot = true)
    (kp_Lot : PySem.W.keepIn K (.ref ccLot) = true)
    (ha_Lot : PySem.W.findIn K (.ref ccLot) "__class__" = some (some (.builtin "object.__class__")))
    (n0_Lot : PySem.W.findIn K (.ref ccLot) "_sizes" = some none)
    (n1_Lot : PySem.W.findIn K (.ref ccLot) "_pairs" = some none)
    (n2_Lot : PySem.W.findIn K (.ref ccLot) "_counts" = some none)
    (kttoint_Lot : PySem.W.subIn K (.ref ccLot) (.type "int") = some false)
    (ktofdict_Lot : PySem.W.subIn K (.type "dict") (.ref ccLot) = some false)
    (ktofint_Lot : PySem.W.subIn K (.type "int") (.ref ccLot) = some false)
    (ktofNoneType_Lot : PySem.W.subIn K (.type "NoneType") (.ref ccLot) = some false)
    (kic_Lot : PySem.W.isClsIn K ccLot = true)
    (kty_Lot : PySem.W.typeIn K (.ref ccLot) = some (.type "type"))
    (fa_Lot_init : PySem.W.findIn K (.ref ccLot) "__init__" = some (some (.ref g_Lot_init)))
    (fi_Lot_init : PySem.W.isFn K (.ref g_Lot_init) = true)
    (fl_Lot_init : K.lookup g_Lot_init = some ⟨oc_Lot_init, od_Lot_init, .func (PySem.W.fnOf "__init__" "Lot.__init__" (defArgs s_Lot_init) (defBody s_Lot_init) (defScope s_Lot_init) (.ref T_Lot_init) kV_Lot_init dc_Lot_init pm_Lot_init an_Lot_init cd_Lot_init ct_Lot_init), sl_Lot_init⟩)
    (ft_Lot_init : K.lookup T_Lot_init = some ⟨oT_Lot_init, dT_Lot_init, .seq #[.none] nT_Lot_init, sT_Lot_init⟩)
    (fc_Lot_init : PySem.W.codeIn K cd_Lot_init "Lot.__init__" = true)
    (fk_Lot_init : PySem.W.keepIn K (.ref g_Lot_init) = true)
    (pa_Lot_counts : PySem.W.findIn K (.ref ccLot) "counts" = some (some (.ref p_Lot_counts)))
    (pt_Lot_counts : PySem.W.specialIn K (.ref p_Lot_counts) "__get__" = some (some (.builtin "property.__get__")))
    (pk_Lot_counts : PySem.W.takesIn K (.ref p_Lot_counts) = some true)
    (pr_Lot_counts : PySem.W.recIn K p_Lot_counts "property" = some (.ref g_Lot_counts :: rs_Lot_counts))
    (fl_Lot_counts : K.lookup g_Lot_counts = some ⟨oc_Lot_counts, od_Lot_counts, .func (PySem.W.fnOf "counts" "Lot.counts" (defArgs s_Lot_counts) (defBody s_Lot_counts) (defScope s_Lot_counts) .none kV_Lot_counts dc_Lot_counts pm_Lot_counts an_Lot_counts cd_Lot_counts ct_Lot_counts), sl_Lot_counts⟩)
    (fc_Lot_counts : PySem.W.codeIn K cd_Lot_counts "Lot.counts" = true)
    (fk_Lot_counts : PySem.W.keepIn K (.ref g_Lot_counts) = true)
    (pa_Lot_sizes : PySem.W.findIn K (.ref ccLot) "sizes" = some (some (.ref p_Lot_sizes)))
    (pt_Lot_sizes : PySem.W.specialIn K (.ref p_Lot_sizes) "__get__" = some (some (.builtin "property.__get__")))
    (pk_Lot_sizes : PySem.W.takesIn K (.ref p_Lot_sizes) = some true)
    (pr_Lot_sizes : PySem.W.recIn K p_Lot_sizes "property" = some (.ref g_Lot_sizes :: rs_Lot_sizes))
    (fl_Lot_sizes : K.lookup g_Lot_sizes = some ⟨oc_Lot_sizes, od_Lot_sizes, .func (PySem.W.fnOf "sizes" "Lot.sizes" (defArgs s_Lot_sizes) (defBody s_Lot_sizes) (defScope s_Lot_sizes) .none kV_Lot_sizes dc_Lot_sizes pm_Lot_sizes an_Lot_sizes cd_Lot_sizes ct_Lot_sizes), sl_Lot_sizes⟩)
    (fc_Lot_sizes : PySem.W.codeIn K cd_Lot_sizes "Lot.sizes" = true)
    (fk_Lot_sizes : PySem.W.keepIn K (.ref g_Lot_sizes) = true)
    (pa_Lot_number : PySem.W.findIn K (.ref ccLot) "number" = some (some (.ref p_Lot_number)))
    (pt_Lot_number : PySem.W.specialIn K (.ref p_Lot_number) "__get__" = some (some (.builtin "property.__get__")))
    (pk_Lot_number : PySem.W.takesIn K (.ref p_Lot_number) = some true)
    (pr_Lot_number : PySem.W.recIn K p_Lot_number "property" = some (.ref g_Lot_number :: rs_Lot_number))
    (fl_Lot_number : K.lookup g_Lot_number = some ⟨oc_Lot_number, od_Lot_number, .func (PySem.W.fnOf "number" "Lot.number" (defArgs s_Lot_number) (defBody s_Lot_number) (defScope s_Lot_number) .none kV_Lot_number dc_Lot_number pm_Lot_number an_Lot_number cd_Lot_number ct_Lot_number), sl_Lot_number⟩)
    (fc_Lot_number : PySem.W.codeIn K cd_Lot_number "Lot.number" = true)
    (fk_Lot_number : PySem.W.keepIn K (.ref g_Lot_number) = true)
    (pa_Lot_total : PySem.W.findIn K (.ref ccLot) "total" = some (some (.ref p_Lot_total)))
    (pt_Lot_total : PySem.W.specialIn K (.ref p_Lot_total) "__get__" = some (some (.builtin "property.__get__")))
    (pk_Lot_total : PySem.W.takesIn K (.ref p_Lot_total) = some true)
    (pr_Lot_total : PySem.W.recIn K p_Lot_total "property" = some (.ref g_Lot_total :: rs_Lot_total))
    (fl_Lot_total : K.lookup g_Lot_total = some ⟨oc_Lot_total, od_Lot_total, .func (PySem.W.fnOf "total" "Lot.total" (defArgs s_Lot_total) (defBody s_Lot_total) (defScope s_Lot_total) .none kV_Lot_total dc_Lot_total pm_Lot_total an_Lot_total cd_Lot_total ct_Lot_total), sl_Lot_total⟩)
    (fc_Lot_total : PySem.W.codeIn K cd_Lot_total "Lot.total" = true)
    (fk_Lot_total : PySem.W.keepIn K (.ref g_Lot_total) = true)
    (fa_Lot_units : PySem.W.findIn K (.ref ccLot) "units" = some (some (.ref g_Lot_units)))
    (fi_Lot_units : PySem.W.isFn K (.ref g_Lot_units) = true)
    (ff_Lot_units : PySem.W.fnIn K g_Lot_units = true)
    (fl_Lot_units : K.lookup g_Lot_units = some ⟨oc_Lot_units, od_Lot_units, .func (PySem.W.fnOf "units" "Lot.units" (defArgs s_Lot_units) (defBody s_Lot_units) (defScope s_Lot_units) .none kV_Lot_units dc_Lot_units pm_Lot_units an_Lot_units cd_Lot_units ct_Lot_units), sl_Lot_units⟩)
    (fc_Lot_units : PySem.W.codeIn K cd_Lot_units "Lot.units" = true)
    (fk_Lot_units : PySem.W.keepIn K (.ref g_Lot_units) = true)
    (fa_Lot_is_part_of : PySem.W.findIn K (.ref ccLot) "is_part_of" = some (some (.ref g_Lot_is_part_of)))
    (fi_Lot_is_part_of : PySem.W.isFn K (.ref g_Lot_is_part_of) = true)
    (ff_Lot_is_part_of : PySem.W.fnIn K g_Lot_is_part_of = true)
    (fl_Lot_is_part_of : K.lookup g_Lot_is_part_of = some ⟨oc_Lot_is_part_of, od_Lot_is_part_of, .func (PySem.W.fnOf "is_part_of" "Lot.is_part_of" (defArgs s_Lot_is_part_of) (defBody s_Lot_is_part_of) (defScope s_Lot_is_part_of) .none kV_Lot_is_part_of dc_Lot_is_part_of pm_Lot_is_part_of an_Lot_is_part_of cd_Lot_is_part_of ct_Lot_is_part_of), sl_Lot_is_part_of⟩)
    (fc_Lot_is_part_of : PySem.W.codeIn K cd_Lot_is_part_of "Lot.is_part_of" = true)
    (fk_Lot_is_part_of : PySem.W.keepIn K (.ref g_Lot_is_part_of) = true)
    (fa_Lot_with_count : PySem.W.findIn K (.ref ccLot) "with_count" = some (some (.ref g_Lot_with_count)))
    (fi_Lot_with_count : PySem.W.isFn K (.ref g_Lot_with_count) = true)
    (ff_Lot_with_count : PySem.W.fnIn K g_Lot_with_count = true)
    (fl_Lot_with_count : K.lookup g_Lot_with_count = some ⟨oc_Lot_with_count, od_Lot_with_count, .func (PySem.W.fnOf "with_count" "Lot.with_count" (defArgs s_Lot_with_count) (defBody s_Lot_with_count) (defScope s_Lot_with_count) .none kV_Lot_with_count dc_Lot_with_count pm_Lot_with_count an_Lot_with_count cd_Lot_with_count ct_Lot_with_count), sl_Lot_with_count⟩)
    (fc_Lot_with_count : PySem.W.codeIn K cd_Lot_with_count "Lot.with_count" = true)
    (fk_Lot_with_count : PySem.W.keepIn K (.ref g_Lot_with_count) = true)
    (fa_Lot_getitem : PySem.W.findIn K (.ref ccLot) "__getitem__" = some (some (.ref g_Lot_getitem)))
    (fi_Lot_getitem : PySem.W.isFn K (.ref g_Lot_getitem) = true)
    (ff_Lot_getitem : PySem.W.fnIn K g_Lot_getitem = true)
    (fl_Lot_getitem : K.lookup g_Lot_getitem = some ⟨oc_Lot_getitem, od_Lot_getitem, .func (PySem.W.fnOf "__getitem__" "Lot.__getitem__" (defArgs s_Lot_getitem) (defBody s_Lot_getitem) (defScope s_Lot_getitem) .none kV_Lot_getitem dc_Lot_getitem pm_Lot_getitem an_Lot_getitem cd_Lot_getitem ct_Lot_getitem), sl_Lot_getitem⟩)
    (fc_Lot_getitem : PySem.W.codeIn K cd_Lot_getitem "Lot.__getitem__" = true)
    (fk_Lot_getitem : PySem.W.keepIn K (.ref g_Lot_getitem) = true)
    (fa_Lot_contains : PySem.W.findIn K (.ref ccLot) "__contains__" = some (some (.ref g_Lot_contains)))
    (fi_Lot_contains : PySem.W.isFn K (.ref g_Lot_contains) = true)
    (ff_Lot_contains : PySem.W.fnIn K g_Lot_contains = true)
    (fl_Lot_contains : K.lookup g_Lot_contains = some ⟨oc_Lot_contains, od_Lot_contains, .func (PySem.W.fnOf "__contains__" "Lot.__contains__" (defArgs s_Lot_contains) (defBody s_Lot_contains) (defScope s_Lot_contains) .none kV_Lot_contains dc_Lot_contains pm_Lot_contains an_Lot_contains cd_Lot_contains ct_Lot_contains), sl_Lot_contains⟩)
    (fc_Lot_contains : PySem.W.codeIn K cd_Lot_contains "Lot.__contains__" = true)
    (fk_Lot_contains : PySem.W.keepIn K (.ref g_Lot_contains) = true)
    (fa_Lot_len : PySem.W.findIn K (.ref ccLot) "__len__" = some (some (.ref g_Lot_len)))
    (fi_Lot_len : PySem.W.isFn K (.ref g_Lot_len) = true)
    (ff_Lot_len : PySem.W.fnIn K g_Lot_len = true)
    (fl_Lot_len : K.lookup g_Lot_len = some ⟨oc_Lot_len, od_Lot_len, .func (PySem.W.fnOf "__len__" "Lot.__len__" (defArgs s_Lot_len) (defBody s_Lot_len) (defScope s_Lot_len) .none kV_Lot_len dc_Lot_len pm_Lot_len an_Lot_len cd_Lot_len ct_Lot_len), sl_Lot_len⟩)
    (fc_Lot_len : PySem.W.codeIn K cd_Lot_len "Lot.__len__" = true)
    (fk_Lot_len : PySem.W.keepIn K (.ref g_Lot_len) = true)
    (fa_Lot_eq : PySem.W.findIn K (.ref ccLot) "__eq__" = some (some (.ref g_Lot_eq)))
    (fi_Lot_eq : PySem.W.isFn K (.ref g_Lot_eq) = true)
    (ff_Lot_eq : PySem.W.fnIn K g_Lot_eq = true)
    (fl_Lot_eq : K.lookup g_Lot_eq = some ⟨oc_Lot_eq, od_Lot_eq, .func (PySem.W.fnOf "__eq__" "Lot.__eq__" (defArgs s_Lot_eq) (defBody s_Lot_eq) (defScope s_Lot_eq) .none kV_Lot_eq dc_Lot_eq pm_Lot_eq an_Lot_eq cd_Lot_eq ct_Lot_eq), sl_Lot_eq⟩)
    (fc_Lot_eq : PySem.W.codeIn K cd_Lot_eq "Lot.__eq__" = true)
    (fk_Lot_eq : PySem.W.keepIn K (.ref g_Lot_eq) = true)
    (a_Store : PySem.W.nsIn K mainGlobals "Store" = some (some (.ref ccStore)))
    (pg_Store : PySem.W.plainGet K ccStore Str.empty = true)
    (hd_Store : PySem.W.hasDictIn K ccStore = true)
    (po_Store : PySem.W.plainOver K ccStore = true)
    (sa_Store : PySem.W.findIn K (.ref ccStore) "__setattr__" = some (some (.builtin "object.__setattr__")))
    (mk_Store : PySem.W.makesIn K ccStore = true)
    (kp_Store : PySem.W.keepIn K (.ref ccStore) = true)
    (ha_Store : PySem.W.findIn K (.ref ccStore) "__class__" = some (some (.builtin "object.__class__")))
    (n0_Store : PySem.W.findIn K (.ref ccStore) "_runs" = some none)
    (fa_Store_init : PySem.W.findIn K (.ref ccStore) "__init__" = some (some (.ref g_Store_init)))
    (fi_Store_init : PySem.W.isFn K (.ref g_Store_init) = true)
    (fl_Store_init : K.lookup g_Store_init = some ⟨oc_Store_init, od_Store_init, .func (PySem.W.fnOf "__init__" "Store.__init__" (defArgs s_Store_init) (defBody s_Store_init) (defScope s_Store_init) .none kV_Store_init dc_Store_init pm_Store_init an_Store_init cd_Store_init ct_Store_init), sl_Store_init⟩)
    (fc_Store_init : PySem.W.codeIn K cd_Store_init "Store.__init__" = true)
    (fk_Store_init : PySem.W.keepIn K (.ref g_Store_init) = true)
    (fa_Store_units : PySem.W.findIn K (.ref ccStore) "units" = some (some (.ref g_Store_units)))
    (fi_Store_units : PySem.W.isFn K (.ref g_Store_units) = true)
    (ff_Store_units : PySem.W.fnIn K g_Store_units = true)
    (fl_Store_units : K.lookup g_Store_units = some ⟨oc_Store_units, od_Store_units, .func (PySem.W.fnOf "units" "Store.units" (defArgs s_Store_units) (defBody s_Store_units) (defScope s_Store_units) .none kV_Store_units dc_Store_units pm_Store_units an_Store_units cd_Store_units ct_Store_units), sl_Store_units⟩)
    (fc_Store_units : PySem.W.codeIn K cd_Store_units "Store.units" = true)
    (fk_Store_units : PySem.W.keepIn K (.ref g_Store_units) = true)
    : ∃ fd : FuncData, (∀ (s : Shared) (v : Value), BindsTo s fd ⟨[v], []⟩ [("script", v)]) ∧ ∀ base : Heap, K.In base → base.Ns mainGlobals mg → FnG P w K mg base CX0 14 fa fd ["script"] (spLaw K) := by
  have e := hfa.symm.trans (PySem.W.mg_of X G a53)
  cases e
  have B : Bl mg := ⟨PySem.W.mg_none_of X G z_abs, PySem.W.mg_none_of X G z_all, PySem.W.mg_none_of X G z_any, PySem.W.mg_none_of X G z_bool, PySem.W.mg_none_of X G z_dict, PySem.W.mg_none_of X G z_int, PySem.W.mg_none_of X G z_isinstance, PySem.W.mg_none_of X G z_len, PySem.W.mg_none_of X G z_list, PySem.W.mg_none_of X G z_max, PySem.W.mg_none_of X G z_min, PySem.W.mg_none_of X G z_range, PySem.W.mg_none_of X G z_set, PySem.W.mg_none_of X G z_sorted, PySem.W.mg_none_of X G z_str, PySem.W.mg_none_of X G z_sum, PySem.W.mg_none_of X G z_tuple, PySem.W.mg_none_of X G z_zip⟩
  have T : Cs mg := ⟨trivial, ⟨_, PySem.W.mg_of X G q_MAX_FIGURES, ⟨_, rfl⟩⟩, ⟨_, PySem.W.mg_of X G q_MAX_RUNS, ⟨_, rfl⟩⟩, ⟨_, PySem.W.mg_of X G q_MAX_SIZES, ⟨_, rfl⟩⟩⟩
  have F0 := fun_mk (st := s_is_integer) l0 c0 k0
  have D0 : Df K mg "is_integer" s_is_integer ["value"] := ⟨f0, _, F0, PySem.W.mg_of X G a0, F0.binds (ps := ["value"]) (fnb1 rfl fun _ _ _ _ _ _ _ => rfl)⟩
  have F1 := fun_mk (st := s_is_count) l1 c1 k1
  have D1 : Df K mg "is_count" s_is_count ["value"] := ⟨f1, _, F1, PySem.W.mg_of X G a1, F1.binds (ps := ["value"]) (fnb1 rfl fun _ _ _ _ _ _ _ => rfl)⟩
  have F2 := fun_mk (st := s_is_size) l2 c2 k2
  have D2 : Df K mg "is_size" s_is_size ["value"] := ⟨f2, _, F2, PySem.W.mg_of X G a2, F2.binds (ps := ["value"]) (fnb1 rfl fun _ _ _ _ _ _ _ => rfl)⟩
  have F3 := fun_mk (st := s_is_run) l3 c3 k3
  have D3 : Df K mg "is_run" s_is_run ["value"] := ⟨f3, _, F3, PySem.W.mg_of X G a3, F3.binds (ps := ["value"]) (fnb1 rfl fun _ _ _ _ _ _ _ => rfl)⟩
  have F4 := fun_mk (st := s_number_of_all) l4 c4 k4
  have D4 : Df K mg "number_of_all" s_number_of_all ["runs"] := ⟨f4, _, F4, PySem.W.mg_of X G a4, F4.binds (ps := ["runs"]) (fnb1 rfl fun _ _ _ _ _ _ _ => rfl)⟩
  have F5 := fun_mk (st := s_units_of) l5 c5 k5
  have D5 : Df K mg "units_of" s_units_of ["runs", "size"] := ⟨f5, _, F5, PySem.W.mg_of X G a5, F5.binds (ps := ["runs", "size"]) (fnb2 rfl fun _ _ _ _ _ _ _ _ => rfl)⟩
  have F6 := fun_mk (st := s_joined_runs) l6 c6 k6
  have D6 : Df K mg "joined_runs" s_joined_runs ["runs"] := ⟨f6, _, F6, PySem.W.mg_of X G a6, F6.binds (ps := ["runs"]) (fnb1 rfl fun _ _ _ _ _ _ _ => rfl)⟩
  have F7 := fun_mk (st := s_check_size) l7 c7 k7
  have D7 : Df K mg "check_size" s_check_size ["value"] := ⟨f7, _, F7, PySem.W.mg_of X G a7, F7.binds (ps := ["value"]) (fnb1 rfl fun _ _ _ _ _ _ _ => rfl)⟩
  have F8 := fun_mk (st := s_check_count) l8 c8 k8
  have D8 : Df K mg "check_count" s_check_count ["value"] := ⟨f8, _, F8, PySem.W.mg_of X G a8, F8.binds (ps := ["value"]) (fnb1 rfl fun _ _ _ _ _ _ _ => rfl)⟩
  have F9 := fun_mk (st := s_first_gap) l9 c9 k9
  have D9 : Df K mg "first_gap" s_first_gap ["sizes"] := ⟨f9, _, F9, PySem.W.mg_of X G a9, F9.binds (ps := ["sizes"]) (fnb1 rfl fun _ _ _ _ _ _ _ => rfl)⟩
  have F10 := fun_mk (st := s_check_lot) l10 c10 k10
  have D10 : Df K mg "check_lot" s_check_lot ["value"] := ⟨f10, _, F10, PySem.W.mg_of X G a10, F10.binds (ps := ["value"]) (fnb1 rfl fun _ _ _ _ _ _ _ => rfl)⟩
  have F11 := fun_mk (st := s__are_counts) l11 c11 k11
  have D11 : Df K mg "_are_counts" s__are_counts ["value"] := ⟨f11, _, F11, PySem.W.mg_of X G a11, F11.binds (ps := ["value"]) (fnb1 rfl fun _ _ _ _ _ _ _ => rfl)⟩
  have F12 := fun_mk (st := s_check_store) l12 c12 k12
  have D12 : Df K mg "check_store" s_check_store ["value"] := ⟨f12, _, F12, PySem.W.mg_of X G a12, F12.binds (ps := ["value"]) (fnb1 rfl fun _ _ _ _ _ _ _ => rfl)⟩
  have F13 := fun_mk (st := s_check_together) l13 c13 k13
  have D13 : Df K mg "check_together" s_check_together ["sizes"] := ⟨f13, _, F13, PySem.W.mg_of X G a13, F13.binds (ps := ["sizes"]) (fnb1 rfl fun _ _ _ _ _ _ _ => rfl)⟩
  have F14 := fun_mk (st := s_check_levels) l14 c14 k14
  have D14 : Dfa K mg "check_levels" "_check" s_check_levels ["lot", "store"] := ⟨f14, _, F14, PySem.W.mg_of X G a14, F14.binds (ps := ["lot", "store"]) (fnb2 rfl fun _ _ _ _ _ _ _ _ => rfl)⟩
  have F15 := fun_mk (st := s_levels_of) l15 c15 k15
  have D15 : Df K mg "levels_of" s_levels_of ["lot", "store"] := ⟨f15, _, F15, PySem.W.mg_of X G a15, F15.binds (ps := ["lot", "store"]) (fnb2 rfl fun _ _ _ _ _ _ _ _ => rfl)⟩
  have F16 := fun_mk (st := s_fits) l16 c16 k16
  have D16 : Df K mg "fits" s_fits ["lot", "store"] := ⟨f16, _, F16, PySem.W.mg_of X G a16, F16.binds (ps := ["lot", "store"]) (fnb2 rfl fun _ _ _ _ _ _ _ _ => rfl)⟩
  have F17 := fun_mk (st := s_barring_sizes) l17 c17 k17
  have D17 : Df K mg "barring_sizes" s_barring_sizes ["lot", "store"] := ⟨f17, _, F17, PySem.W.mg_of X G a17, F17.binds (ps := ["lot", "store"]) (fnb2 rfl fun _ _ _ _ _ _ _ _ => rfl)⟩
  have F18 := fun_mk (st := s_spare) l18 c18 k18
  have D18 : Df K mg "spare" s_spare ["lot", "store", "size"] := ⟨f18, _, F18, PySem.W.mg_of X G a18, F18.binds (ps := ["lot", "store", "size"]) (fnb3 rfl fun _ _ _ _ _ _ _ _ _ => rfl)⟩
  have F19 := fun_mk (st := s_check_most) l19 c19 k19
  have D19 : Dfa K mg "check_most" "_check" s_check_most ["lot", "store"] := ⟨f19, _, F19, PySem.W.mg_of X G a19, F19.binds (ps := ["lot", "store"]) (fnb2 rfl fun _ _ _ _ _ _ _ _ => rfl)⟩
  have F20 := fun_mk (st := s_most_things) l20 c20 k20
  have D20 : Df K mg "most_things" s_most_things ["lot", "store"] := ⟨f20, _, F20, PySem.W.mg_of X G a20, F20.binds (ps := ["lot", "store"]) (fnb2 rfl fun _ _ _ _ _ _ _ _ => rfl)⟩
  have F21 := fun_mk (st := s_most_total) l21 c21 k21
  have D21 : Df K mg "most_total" s_most_total ["lot", "store"] := ⟨f21, _, F21, PySem.W.mg_of X G a21, F21.binds (ps := ["lot", "store"]) (fnb2 rfl fun _ _ _ _ _ _ _ _ => rfl)⟩
  have F22 := fun_mk (st := s_keep_things) l22 c22 k22
  have D22 : Df K mg "keep_things" s_keep_things ["lot", "store"] := ⟨f22, _, F22, PySem.W.mg_of X G a22, F22.binds (ps := ["lot", "store"]) (fnb2 rfl fun _ _ _ _ _ _ _ _ => rfl)⟩
  have F23 := fun_mk (st := s_keep_total) l23 c23 k23
  have D23 : Df K mg "keep_total" s_keep_total ["lot", "store"] := ⟨f23, _, F23, PySem.W.mg_of X G a23, F23.binds (ps := ["lot", "store"]) (fnb2 rfl fun _ _ _ _ _ _ _ _ => rfl)⟩
  have F24 := fun_mk (st := s__filled) l24 c24 k24
  have D24 : Df K mg "_filled" s__filled ["part", "lot", "store", "sizes"] := ⟨f24, _, F24, PySem.W.mg_of X G a24, F24.binds (ps := ["part", "lot", "store", "sizes"]) (fnb4 rfl fun _ _ _ _ _ _ _ _ _ _ => rfl)⟩
  have F25 := fun_mk (st := s__is_fitting_part) l25 c25 k25
  have D25 : Df K mg "_is_fitting_part" s__is_fitting_part ["lot", "store", "value"] := ⟨f25, _, F25, PySem.W.mg_of X G a25, F25.binds (ps := ["lot", "store", "value"]) (fnb3 rfl fun _ _ _ _ _ _ _ _ _ => rfl)⟩
  have F26 := fun_mk (st := s_is_kept_things) l26 c26 k26
  have D26 : Df K mg "is_kept_things" s_is_kept_things ["lot", "store", "value"] := ⟨f26, _, F26, PySem.W.mg_of X G a26, F26.binds (ps := ["lot", "store", "value"]) (fnb3 rfl fun _ _ _ _ _ _ _ _ _ => rfl)⟩
  have F27 := fun_mk (st := s_is_kept_total) l27 c27 k27
  have D27 : Df K mg "is_kept_total" s_is_kept_total ["lot", "store", "value"] := ⟨f27, _, F27, PySem.W.mg_of X G a27, F27.binds (ps := ["lot", "store", "value"]) (fnb3 rfl fun _ _ _ _ _ _ _ _ _ => rfl)⟩
  have F28 := fun_mk (st := s_keep_all_of) l28 c28 k28
  have D28 : Df K mg "keep_all_of" s_keep_all_of ["lot", "store", "sizes"] := ⟨f28, _, F28, PySem.W.mg_of X G a28, F28.binds (ps := ["lot", "store", "sizes"]) (fnb3 rfl fun _ _ _ _ _ _ _ _ _ => rfl)⟩
  have F29 := fun_mk (st := s__are_sizes_of) l29 c29 k29
  have D29 : Df K mg "_are_sizes_of" s__are_sizes_of ["lot", "value"] := ⟨f29, _, F29, PySem.W.mg_of X G a29, F29.binds (ps := ["lot", "value"]) (fnb2 rfl fun _ _ _ _ _ _ _ _ => rfl)⟩
  have F30 := fun_mk (st := s__law_dice) l30 c30 k30
  have D30 : Df K mg "_law_dice" s__law_dice ["script", "spot"] := ⟨f30, _, F30, PySem.W.mg_of X G a30, F30.binds (ps := ["script", "spot"]) (fnb2 rfl fun _ _ _ _ _ _ _ _ => rfl)⟩
  have F31 := fun_mk (st := s__law_roll) l31 c31 k31
  have D31 : Df K mg "_law_roll" s__law_roll ["dice", "total"] := ⟨f31, _, F31, PySem.W.mg_of X G a31, F31.binds (ps := ["dice", "total"]) (fnb2 rfl fun _ _ _ _ _ _ _ _ => rfl)⟩
  have F32 := fun_mk (st := s__law_pick) l32 c32 k32
  have D32 : Df K mg "_law_pick" s__law_pick ["dice", "items"] := ⟨f32, _, F32, PySem.W.mg_of X G a32, F32.binds (ps := ["dice", "items"]) (fnb2 rfl fun _ _ _ _ _ _ _ _ => rfl)⟩
  have F33 := fun_mk (st := s__law_great) l33 c33 k33
  have D33 : Df K mg "_law_great" s__law_great ["dice", "least"] := ⟨f33, _, F33, PySem.W.mg_of X G a33, F33.binds (ps := ["dice", "least"]) (fnb2 rfl fun _ _ _ _ _ _ _ _ => rfl)⟩
  have F34 := fun_mk (st := s__law_long_chain) l34 c34 k34
  have D34 : Df K mg "_law_long_chain" s__law_long_chain ["dice"] := ⟨f34, _, F34, PySem.W.mg_of X G a34, F34.binds (ps := ["dice"]) (fnb1 rfl fun _ _ _ _ _ _ _ => rfl)⟩
  have F35 := fun_mk (st := s__law_great_lot) l35 c35 k35
  have D35 : Df K mg "_law_great_lot" s__law_great_lot ["dice", "sizes"] := ⟨f35, _, F35, PySem.W.mg_of X G a35, F35.binds (ps := ["dice", "sizes"]) (fnb2 rfl fun _ _ _ _ _ _ _ _ => rfl)⟩
  have F36 := fun_mk (st := s__law_great_store) l36 c36 k36
  have D36 : Df K mg "_law_great_store" s__law_great_store ["dice", "sizes"] := ⟨f36, _, F36, PySem.W.mg_of X G a36, F36.binds (ps := ["dice", "sizes"]) (fnb2 rfl fun _ _ _ _ _ _ _ _ => rfl)⟩
  have F37 := fun_mk (st := s__law_merged) l37 c37 k37
  have D37 : Df K mg "_law_merged" s__law_merged ["runs"] := ⟨f37, _, F37, PySem.W.mg_of X G a37, F37.binds (ps := ["runs"]) (fnb1 rfl fun _ _ _ _ _ _ _ => rfl)⟩
  have F38 := fun_mk (st := s__law_made_lot) l38 c38 k38
  have D38 : Df K mg "_law_made_lot" s__law_made_lot ["plain"] := ⟨f38, _, F38, PySem.W.mg_of X G a38, F38.binds (ps := ["plain"]) (fnb1 rfl fun _ _ _ _ _ _ _ => rfl)⟩
  have F39 := fun_mk (st := s__law_made_store) l39 c39 k39
  have D39 : Df K mg "_law_made_store" s__law_made_store ["runs"] := ⟨f39, _, F39, PySem.W.mg_of X G a39, F39.binds (ps := ["runs"]) (fnb1 rfl fun _ _ _ _ _ _ _ => rfl)⟩
  have F40 := fun_mk (st := s__law_total) l40 c40 k40
  have D40 : Df K mg "_law_total" s__law_total ["plain"] := ⟨f40, _, F40, PySem.W.mg_of X G a40, F40.binds (ps := ["plain"]) (fnb1 rfl fun _ _ _ _ _ _ _ => rfl)⟩
  have F41 := fun_mk (st := s__law_units) l41 c41 k41
  have D41 : Df K mg "_law_units" s__law_units ["plain", "size"] := ⟨f41, _, F41, PySem.W.mg_of X G a41, F41.binds (ps := ["plain", "size"]) (fnb2 rfl fun _ _ _ _ _ _ _ _ => rfl)⟩
  have F42 := fun_mk (st := s__law_space) l42 c42 k42
  have D42 : Df K mg "_law_space" s__law_space ["runs", "size"] := ⟨f42, _, F42, PySem.W.mg_of X G a42, F42.binds (ps := ["runs", "size"]) (fnb2 rfl fun _ _ _ _ _ _ _ _ => rfl)⟩
  have F43 := fun_mk (st := s__law_bars) l43 c43 k43
  have D43 : Df K mg "_law_bars" s__law_bars ["plain", "runs"] := ⟨f43, _, F43, PySem.W.mg_of X G a43, F43.binds (ps := ["plain", "runs"]) (fnb2 rfl fun _ _ _ _ _ _ _ _ => rfl)⟩
  have F44 := fun_mk (st := s__law_number) l44 c44 k44
  have D44 : Df K mg "_law_number" s__law_number ["plain"] := ⟨f44, _, F44, PySem.W.mg_of X G a44, F44.binds (ps := ["plain"]) (fnb1 rfl fun _ _ _ _ _ _ _ => rfl)⟩
  have F45 := fun_mk (st := s__law_is_part) l45 c45 k45
  have D45 : Df K mg "_law_is_part" s__law_is_part ["part", "plain"] := ⟨f45, _, F45, PySem.W.mg_of X G a45, F45.binds (ps := ["part", "plain"]) (fnb2 rfl fun _ _ _ _ _ _ _ _ => rfl)⟩
  have F46 := fun_mk (st := s__law_counts_of) l46 c46 k46
  have D46 : Df K mg "_law_counts_of" s__law_counts_of ["lot"] := ⟨f46, _, F46, PySem.W.mg_of X G a46, F46.binds (ps := ["lot"]) (fnb1 rfl fun _ _ _ _ _ _ _ => rfl)⟩
  have F47 := fun_mk (st := s__law_fits) l47 c47 k47
  have D47 : Df K mg "_law_fits" s__law_fits ["part", "runs"] := ⟨f47, _, F47, PySem.W.mg_of X G a47, F47.binds (ps := ["part", "runs"]) (fnb2 rfl fun _ _ _ _ _ _ _ _ => rfl)⟩
  have F48 := fun_mk (st := s__law_with) l48 c48 k48
  have D48 : Df K mg "_law_with" s__law_with ["part", "size", "count"] := ⟨f48, _, F48, PySem.W.mg_of X G a48, F48.binds (ps := ["part", "size", "count"]) (fnb3 rfl fun _ _ _ _ _ _ _ _ _ => rfl)⟩
  have F49 := fun_mk (st := s__law_are_best) l49 c49 k49
  have D49 : Df K mg "_law_are_best" s__law_are_best ["plain", "runs", "most", "total"] := ⟨f49, _, F49, PySem.W.mg_of X G a49, F49.binds (ps := ["plain", "runs", "most", "total"]) (fnb4 rfl fun _ _ _ _ _ _ _ _ _ _ => rfl)⟩
  have F50 := fun_mk (st := s__law_most_of) l50 c50 k50
  have D50 : Df K mg "_law_most_of" s__law_most_of ["plain", "runs", "kept", "size"] := ⟨f50, _, F50, PySem.W.mg_of X G a50, F50.binds (ps := ["plain", "runs", "kept", "size"]) (fnb4 rfl fun _ _ _ _ _ _ _ _ _ _ => rfl)⟩
  have F51 := fun_mk (st := s__law_wanted_right) l51 c51 k51
  have D51 : Df K mg "_law_wanted_right" s__law_wanted_right ["dice", "plain", "runs", "lot", "store"] := ⟨f51, _, F51, PySem.W.mg_of X G a51, F51.binds (ps := ["dice", "plain", "runs", "lot", "store"]) (fnb5 rfl fun _ _ _ _ _ _ _ _ _ _ _ => rfl)⟩
  have F52 := fun_mk (st := s__law_right) l52 c52 k52
  have D52 : Df K mg "_law_right" s__law_right ["dice"] := ⟨f52, _, F52, PySem.W.mg_of X G a52, F52.binds (ps := ["dice"]) (fnb1 rfl fun _ _ _ _ _ _ _ => rfl)⟩
  have KL_Lot : Klass K mg "Lot" ccLot := ⟨PySem.W.mg_of X G a_Lot, ⟨pg_Lot, hd_Lot, po_Lot, sa_Lot⟩, mk_Lot, kp_Lot, ha_Lot, e_n, e_t⟩
  have LT_Lot : LotT K mg ccLot := ⟨KL_Lot, n0_Lot, n1_Lot, n2_Lot⟩
  have LK_LotN : LotNK K ccLot := ⟨kit_toT kttoint_Lot (by decide +kernel), kit_ofT ktofdict_Lot kic_Lot kty_Lot, kit_ofT ktofint_Lot kic_Lot kty_Lot, kit_ofT ktofNoneType_Lot kic_Lot kty_Lot⟩
  have DM_Lot_init : Din K mg "Lot" ccLot "Lot.__init__" s_Lot_init ["self", "counts"] := din_mk (PySem.W.mg_of X G a_Lot) mk_Lot fa_Lot_init fi_Lot_init kp_Lot fl_Lot_init ft_Lot_init fc_Lot_init fk_Lot_init rfl (fun _ _ _ _ _ _ _ us its h1 h2 => match us, its, h1, h2 with | [_, _], [_], _, _ => ⟨_, rfl, rfl⟩) (fun _ _ _ _ _ _ _ us its h1 h2 => match us, its, h1, h2 with | [_], [_], _, _ => ⟨_, rfl, rfl⟩)
  have DM_Lot_counts : Dpr K ccLot "counts" "Lot.counts" s_Lot_counts := dpr_mk pa_Lot_counts pt_Lot_counts pk_Lot_counts pr_Lot_counts fl_Lot_counts fc_Lot_counts fk_Lot_counts (fnb1 rfl fun _ _ _ _ _ _ _ => rfl)
  have DM_Lot_sizes : Dpr K ccLot "sizes" "Lot.sizes" s_Lot_sizes := dpr_mk pa_Lot_sizes pt_Lot_sizes pk_Lot_sizes pr_Lot_sizes fl_Lot_sizes fc_Lot_sizes fk_Lot_sizes (fnb1 rfl fun _ _ _ _ _ _ _ => rfl)
  have DM_Lot_number : Dpr K ccLot "number" "Lot.number" s_Lot_number := dpr_mk pa_Lot_number pt_Lot_number pk_Lot_number pr_Lot_number fl_Lot_number fc_Lot_number fk_Lot_number (fnb1 rfl fun _ _ _ _ _ _ _ => rfl)
  have DM_Lot_total : Dpr K ccLot "total" "Lot.total" s_Lot_total := dpr_mk pa_Lot_total pt_Lot_total pk_Lot_total pr_Lot_total fl_Lot_total fc_Lot_total fk_Lot_total (fnb1 rfl fun _ _ _ _ _ _ _ => rfl)
  have DM_Lot_units : Dop K ccLot "units" "Lot.units" s_Lot_units ["self", "size"] := dop_mk fa_Lot_units fi_Lot_units ff_Lot_units fl_Lot_units fc_Lot_units fk_Lot_units (fnb2 rfl fun _ _ _ _ _ _ _ _ => rfl)
  have DM_Lot_is_part_of : Dop K ccLot "is_part_of" "Lot.is_part_of" s_Lot_is_part_of ["self", "value"] := dop_mk fa_Lot_is_part_of fi_Lot_is_part_of ff_Lot_is_part_of fl_Lot_is_part_of fc_Lot_is_part_of fk_Lot_is_part_of (fnb2 rfl fun _ _ _ _ _ _ _ _ => rfl)
  have DM_Lot_with_count : Dop K ccLot "with_count" "Lot.with_count" s_Lot_with_count ["self", "size", "number"] := dop_mk fa_Lot_with_count fi_Lot_with_count ff_Lot_with_count fl_Lot_with_count fc_Lot_with_count fk_Lot_with_count (fnb3 rfl fun _ _ _ _ _ _ _ _ _ => rfl)
  have DM_Lot_getitem : Dop K ccLot "__getitem__" "Lot.__getitem__" s_Lot_getitem ["self", "at"] := dop_mk fa_Lot_getitem fi_Lot_getitem ff_Lot_getitem fl_Lot_getitem fc_Lot_getitem fk_Lot_getitem (fnb2 rfl fun _ _ _ _ _ _ _ _ => rfl)
  have DM_Lot_contains : Dop K ccLot "__contains__" "Lot.__contains__" s_Lot_contains ["self", "x"] := dop_mk fa_Lot_contains fi_Lot_contains ff_Lot_contains fl_Lot_contains fc_Lot_contains fk_Lot_contains (fnb2 rfl fun _ _ _ _ _ _ _ _ => rfl)
  have DM_Lot_len : Dop K ccLot "__len__" "Lot.__len__" s_Lot_len ["self"] := dop_mk fa_Lot_len fi_Lot_len ff_Lot_len fl_Lot_len fc_Lot_len fk_Lot_len (fnb1 rfl fun _ _ _ _ _ _ _ => rfl)
  have DM_Lot_eq : Dop K ccLot "__eq__" "Lot.__eq__" s_Lot_eq ["self", "other"] := dop_mk fa_Lot_eq fi_Lot_eq ff_Lot_eq fl_Lot_eq fc_Lot_eq fk_Lot_eq (fnb2 rfl fun _ _ _ _ _ _ _ _ => rfl)
  have KL_Store : Klass K mg "Store" ccStore := ⟨PySem.W.mg_of X G a_Store, ⟨pg_Store, hd_Store, po_Store, sa_Store⟩, mk_Store, kp_Store, ha_Store, e_n, e_t⟩
  have LT_Store : StoreT K mg ccStore := ⟨KL_Store, n0_Store⟩
  have DM_Store_init : Dis K mg "Store" ccStore "Store.__init__" s_Store_init "runs" := dis_mk (PySem.W.mg_of X G a_Store) mk_Store fa_Store_init fi_Store_init kp_Store fl_Store_init fc_Store_init (fun _ => rfl) (fun _ _ _ => rfl)
  have DM_Store_units : Dop K ccStore "units" "Store.units" s_Store_units ["self", "size"] := dop_mk fa_Store_units fi_Store_units ff_Store_units fl_Store_units fc_Store_units fk_Store_units (fnb2 rfl fun _ _ _ _ _ _ _ _ => rfl)
  exact ⟨PySem.W.fnOf "law" "law" (defArgs s_law) (defBody s_law) (defScope s_law) .none kV53 dc53 pm53 an53 cd53 ct53, fun s v => .of_eq rfl, fun base _ _ => ok_law B T D0 D1 D2 D3 D4 D5 D6 D7 D8 D9 D10 D11 D12 D13 D14 D15 D16 D17 D18 D19 D20 D21 D22 D23 D24 D25 D26 D27 D28 D29 D30 D31 D32 D33 D34 D35 D36 D37 D38 D39 D40 D41 D42 D43 D44 D45 D46 D47 D48 D49 D50 D51 D52 LT_Lot LK_LotN DM_Lot_init DM_Lot_counts DM_Lot_sizes DM_Lot_number DM_Lot_total DM_Lot_units DM_Lot_is_part_of DM_Lot_with_count DM_Lot_getitem DM_Lot_contains DM_Lot_len DM_Lot_eq LT_Store DM_Store_init DM_Store_units (fun_mk (st := s_law) l53 c53 k53)⟩
end Lk56
open PySem PySem.W PyProof.Rows
set_option maxRecDepth 100000 in
set_option maxHeartbeats 0 in
theorem PySem.Challenge.cw_chainpacks_k56_whole_great_lots_left_out_holds : PySem.Challenge.rw_chainpacks_k56_whole_great_lots_left_out.Holds := by
  w_on; o_law; k_head; (case hw => w_witness2)
  k_fill
  refine Ck.walk_g (l := PySem.Challenge.rw_chainpacks_k56_whole_great_lots_left_out) (n := 63) (k := 14) (x := "script") (sp := fun w => Lk56.spLaw _) rfl (by decide) rfl ⟨rfl, by decide, by decide⟩ (fun w h Y => PySem.W.kIn_of Y) ?F (fun w H a ns hl hO hS => Lk56.start_law hl hS)
  case F =>
    intro w mg fa h KX G hmg
    refine' Lk56.all_mk KX G hmg ?a0 ?l0 ?c0 ?k0 ?a1 ?l1 ?c1 ?k1 ?a2 ?l2 ?c2 ?k2 ?a3 ?l3 ?c3 ?k3 ?a4 ?l4 ?c4 ?k4 ?a5 ?l5 ?c5 ?k5 ?a6 ?l6 ?c6 ?k6 ?a7 ?l7 ?c7 ?k7 ?a8 ?l8 ?c8 ?k8 ?a9 ?l9 ?c9 ?k9 ?a10 ?l10 ?c10 ?k10 ?a11 ?l11 ?c11 ?k11 ?a12 ?l12 ?c12 ?k12 ?a13 ?l13 ?c13 ?k13 ?a14 ?l14 ?c14 ?k14 ?a15 ?l15 ?c15 ?k15 ?a16 ?l16 ?c16 ?k16 ?a17 ?l17 ?c17 ?k17 ?a18 ?l18 ?c18 ?k18 ?a19 ?l19 ?c19 ?k19 ?a20 ?l20 ?c20 ?k20 ?a21 ?l21 ?c21 ?k21 ?a22 ?l22 ?c22 ?k22 ?a23 ?l23 ?c23 ?k23 ?a24 ?l24 ?c24 ?k24 ?a25 ?l25 ?c25 ?k25 ?a26 ?l26 ?c26 ?k26 ?a27 ?l27 ?c27 ?k27 ?a28 ?l28 ?c28 ?k28 ?a29 ?l29 ?c29 ?k29 ?a30 ?l30 ?c30 ?k30 ?a31 ?l31 ?c31 ?k31 ?a32 ?l32 ?c32 ?k32 ?a33 ?l33 ?c33 ?k33 ?a34 ?l34 ?c34 ?k34 ?a35 ?l35 ?c35 ?k35 ?a36 ?l36 ?c36 ?k36 ?a37 ?l37 ?c37 ?k37 ?a38 ?l38 ?c38 ?k38 ?a39 ?l39 ?c39 ?k39 ?a40 ?l40 ?c40 ?k40 ?a41 ?l41 ?c41 ?k41 ?a42 ?l42 ?c42 ?k42 ?a43 ?l43 ?c43 ?k43 ?a44 ?l44 ?c44 ?k44 ?a45 ?l45 ?c45 ?k45 ?a46 ?l46 ?c46 ?k46 ?a47 ?l47 ?c47 ?k47 ?a48 ?l48 ?c48 ?k48 ?a49 ?l49 ?c49 ?k49 ?a50 ?l50 ?c50 ?k50 ?a51 ?l51 ?c51 ?k51 ?a52 ?l52 ?c52 ?k52 ?a53 ?l53 ?c53 ?k53 ?z_abs ?z_all ?z_any ?z_bool ?z_dict ?z_int ?z_isinstance ?z_len ?z_list ?z_max ?z_min ?z_range ?z_set ?z_sorted ?z_str ?z_sum ?z_tuple ?z_zip ?q_MAX_FIGURES ?q_MAX_RUNS ?q_MAX_SIZES ?e_n ?e_t ?a_Lot ?pg_Lot ?hd_Lot ?po_Lot ?sa_Lot ?mk_Lot ?kp_Lot ?ha_Lot ?n0_Lot ?n1_Lot ?n2_Lot ?kttoint_Lot ?ktofdict_Lot ?ktofint_Lot ?ktofNoneType_Lot ?kic_Lot ?kty_Lot ?fa_Lot_init ?fi_Lot_init ?fl_Lot_init ?ft_Lot_init ?fc_Lot_init ?fk_Lot_init ?pa_Lot_counts ?pt_Lot_counts ?pk_Lot_counts ?pr_Lot_counts ?fl_Lot_counts ?fc_Lot_counts ?fk_Lot_counts ?pa_Lot_sizes ?pt_Lot_sizes ?pk_Lot_sizes ?pr_Lot_sizes ?fl_Lot_sizes ?fc_Lot_sizes ?fk_Lot_sizes ?pa_Lot_number ?pt_Lot_number ?pk_Lot_number ?pr_Lot_number ?fl_Lot_number ?fc_Lot_number ?fk_Lot_number ?pa_Lot_total ?pt_Lot_total ?pk_Lot_total ?pr_Lot_total ?fl_Lot_total ?fc_Lot_total ?fk_Lot_total ?fa_Lot_units ?fi_Lot_units ?ff_Lot_units ?fl_Lot_units ?fc_Lot_units ?fk_Lot_units ?fa_Lot_is_part_of ?fi_Lot_is_part_of ?ff_Lot_is_part_of ?fl_Lot_is_part_of ?fc_Lot_is_part_of ?fk_Lot_is_part_of ?fa_Lot_with_count ?fi_Lot_with_count ?ff_Lot_with_count ?fl_Lot_with_count ?fc_Lot_with_count ?fk_Lot_with_count ?fa_Lot_getitem ?fi_Lot_getitem ?ff_Lot_getitem ?fl_Lot_getitem ?fc_Lot_getitem ?fk_Lot_getitem ?fa_Lot_contains ?fi_Lot_contains ?ff_Lot_contains ?fl_Lot_contains ?fc_Lot_contains ?fk_Lot_contains ?fa_Lot_len ?fi_Lot_len ?ff_Lot_len ?fl_Lot_len ?fc_Lot_len ?fk_Lot_len ?fa_Lot_eq ?fi_Lot_eq ?ff_Lot_eq ?fl_Lot_eq ?fc_Lot_eq ?fk_Lot_eq ?a_Store ?pg_Store ?hd_Store ?po_Store ?sa_Store ?mk_Store ?kp_Store ?ha_Store ?n0_Store ?fa_Store_init ?fi_Store_init ?fl_Store_init ?fc_Store_init ?fk_Store_init ?fa_Store_units ?fi_Store_units ?ff_Store_units ?fl_Store_units ?fc_Store_units ?fk_Store_units
    (case a0 => k_is); (case l0 => k_is); (case c0 => k_is); (case k0 => k_is); (case a1 => k_is); (case l1 => k_is); (case c1 => k_is); (case k1 => k_is); (case a2 => k_is); (case l2 => k_is); (case c2 => k_is); (case k2 => k_is); (case a3 => k_is); (case l3 => k_is); (case c3 => k_is); (case k3 => k_is); (case a4 => k_is); (case l4 => k_is); (case c4 => k_is); (case k4 => k_is); (case a5 => k_is); (case l5 => k_is); (case c5 => k_is); (case k5 => k_is); (case a6 => k_is); (case l6 => k_is); (case c6 => k_is); (case k6 => k_is); (case a7 => k_is); (case l7 => k_is); (case c7 => k_is); (case k7 => k_is); (case a8 => k_is); (case l8 => k_is); (case c8 => k_is); (case k8 => k_is); (case a9 => k_is); (case l9 => k_is); (case c9 => k_is); (case k9 => k_is); (case a10 => k_is); (case l10 => k_is); (case c10 => k_is); (case k10 => k_is); (case a11 => k_is); (case l11 => k_is); (case c11 => k_is); (case k11 => k_is); (case a12 => k_is); (case l12 => k_is); (case c12 => k_is); (case k12 => k_is); (case a13 => k_is); (case l13 => k_is); (case c13 => k_is); (case k13 => k_is); (case a14 => k_is); (case l14 => k_is); (case c14 => k_is); (case k14 => k_is); (case a15 => k_is); (case l15 => k_is); (case c15 => k_is); (case k15 => k_is); (case a16 => k_is); (case l16 => k_is); (case c16 => k_is); (case k16 => k_is); (case a17 => k_is); (case l17 => k_is); (case c17 => k_is); (case k17 => k_is); (case a18 => k_is); (case l18 => k_is); (case c18 => k_is); (case k18 => k_is); (case a19 => k_is); (case l19 => k_is); (case c19 => k_is); (case k19 => k_is); (case a20 => k_is); (case l20 => k_is); (case c20 => k_is); (case k20 => k_is); (case a21 => k_is); (case l21 => k_is); (case c21 => k_is); (case k21 => k_is); (case a22 => k_is); (case l22 => k_is); (case c22 => k_is); (case k22 => k_is); (case a23 => k_is); (case l23 => k_is); (case c23 => k_is); (case k23 => k_is); (case a24 => k_is); (case l24 => k_is); (case c24 => k_is); (case k24 => k_is); (case a25 => k_is); (case l25 => k_is); (case c25 => k_is); (case k25 => k_is); (case a26 => k_is); (case l26 => k_is); (case c26 => k_is); (case k26 => k_is); (case a27 => k_is); (case l27 => k_is); (case c27 => k_is); (case k27 => k_is); (case a28 => k_is); (case l28 => k_is); (case c28 => k_is); (case k28 => k_is); (case a29 => k_is); (case l29 => k_is); (case c29 => k_is); (case k29 => k_is); (case a30 => k_is); (case l30 => k_is); (case c30 => k_is); (case k30 => k_is); (case a31 => k_is); (case l31 => k_is); (case c31 => k_is); (case k31 => k_is); (case a32 => k_is); (case l32 => k_is); (case c32 => k_is); (case k32 => k_is); (case a33 => k_is); (case l33 => k_is); (case c33 => k_is); (case k33 => k_is); (case a34 => k_is); (case l34 => k_is); (case c34 => k_is); (case k34 => k_is); (case a35 => k_is); (case l35 => k_is); (case c35 => k_is); (case k35 => k_is); (case a36 => k_is); (case l36 => k_is); (case c36 => k_is); (case k36 => k_is); (case a37 => k_is); (case l37 => k_is); (case c37 => k_is); (case k37 => k_is); (case a38 => k_is); (case l38 => k_is); (case c38 => k_is); (case k38 => k_is); (case a39 => k_is); (case l39 => k_is); (case c39 => k_is); (case k39 => k_is); (case a40 => k_is); (case l40 => k_is); (case c40 => k_is); (case k40 => k_is); (case a41 => k_is); (case l41 => k_is); (case c41 => k_is); (case k41 => k_is); (case a42 => k_is); (case l42 => k_is); (case c42 => k_is); (case k42 => k_is); (case a43 => k_is); (case l43 => k_is); (case c43 => k_is); (case k43 => k_is); (case a44 => k_is); (case l44 => k_is); (case c44 => k_is); (case k44 => k_is); (case a45 => k_is); (case l45 => k_is); (case c45 => k_is); (case k45 => k_is); (case a46 => k_is); (case l46 => k_is); (case c46 => k_is); (case k46 => k_is); (case a47 => k_is); (case l47 => k_is); (case c47 => k_is); (case k47 => k_is); (case a48 => k_is); (case l48 => k_is); (case c48 => k_is); (case k48 => k_is); (case a49 => k_is); (case l49 => k_is); (case c49 => k_is); (case k49 => k_is); (case a50 => k_is); (case l50 => k_is); (case c50 => k_is); (case k50 => k_is); (case a51 => k_is); (case l51 => k_is); (case c51 => k_is); (case k51 => k_is); (case a52 => k_is); (case l52 => k_is); (case c52 => k_is); (case k52 => k_is); (case a53 => k_is); (case l53 => k_is); (case c53 => k_is); (case k53 => k_is); (case z_abs => k_is); (case z_all => k_is); (case z_any => k_is); (case z_bool => k_is); (case z_dict => k_is); (case z_int => k_is); (case z_isinstance => k_is); (case z_len => k_is); (case z_list => k_is); (case z_max => k_is); (case z_min => k_is); (case z_range => k_is); (case z_set => k_is); (case z_sorted => k_is); (case z_str => k_is); (case z_sum => k_is); (case z_tuple => k_is); (case z_zip => k_is); (case q_MAX_FIGURES => k_is); (case q_MAX_RUNS => k_is); (case q_MAX_SIZES => k_is); (case e_n => k_is); (case e_t => k_is); (case a_Lot => k_is); (case pg_Lot => k_is); (case hd_Lot => k_is); (case po_Lot => k_is); (case sa_Lot => k_is); (case mk_Lot => k_is); (case kp_Lot => k_is); (case ha_Lot => k_is); (case n0_Lot => k_is); (case n1_Lot => k_is); (case n2_Lot => k_is); (case kttoint_Lot => k_is); (case ktofdict_Lot => k_is); (case ktofint_Lot => k_is); (case ktofNoneType_Lot => k_is); (case kic_Lot => k_is); (case kty_Lot => k_is); (case fa_Lot_init => k_is); (case fi_Lot_init => k_is); (case fl_Lot_init => k_is); (case ft_Lot_init => k_is); (case fc_Lot_init => k_is); (case fk_Lot_init => k_is); (case pa_Lot_counts => k_is); (case pt_Lot_counts => k_is); (case pk_Lot_counts => k_is); (case pr_Lot_counts => k_is); (case fl_Lot_counts => k_is); (case fc_Lot_counts => k_is); (case fk_Lot_counts => k_is); (case pa_Lot_sizes => k_is); (case pt_Lot_sizes => k_is); (case pk_Lot_sizes => k_is); (case pr_Lot_sizes => k_is); (case fl_Lot_sizes => k_is); (case fc_Lot_sizes => k_is); (case fk_Lot_sizes => k_is); (case pa_Lot_number => k_is); (case pt_Lot_number => k_is); (case pk_Lot_number => k_is); (case pr_Lot_number => k_is); (case fl_Lot_number => k_is); (case fc_Lot_number => k_is); (case fk_Lot_number => k_is); (case pa_Lot_total => k_is); (case pt_Lot_total => k_is); (case pk_Lot_total => k_is); (case pr_Lot_total => k_is); (case fl_Lot_total => k_is); (case fc_Lot_total => k_is); (case fk_Lot_total => k_is); (case fa_Lot_units => k_is); (case fi_Lot_units => k_is); (case ff_Lot_units => k_is); (case fl_Lot_units => k_is); (case fc_Lot_units => k_is); (case fk_Lot_units => k_is); (case fa_Lot_is_part_of => k_is); (case fi_Lot_is_part_of => k_is); (case ff_Lot_is_part_of => k_is); (case fl_Lot_is_part_of => k_is); (case fc_Lot_is_part_of => k_is); (case fk_Lot_is_part_of => k_is); (case fa_Lot_with_count => k_is); (case fi_Lot_with_count => k_is); (case ff_Lot_with_count => k_is); (case fl_Lot_with_count => k_is); (case fc_Lot_with_count => k_is); (case fk_Lot_with_count => k_is); (case fa_Lot_getitem => k_is); (case fi_Lot_getitem => k_is); (case ff_Lot_getitem => k_is); (case fl_Lot_getitem => k_is); (case fc_Lot_getitem => k_is); (case fk_Lot_getitem => k_is); (case fa_Lot_contains => k_is); (case fi_Lot_contains => k_is); (case ff_Lot_contains => k_is); (case fl_Lot_contains => k_is); (case fc_Lot_contains => k_is); (case fk_Lot_contains => k_is); (case fa_Lot_len => k_is); (case fi_Lot_len => k_is); (case ff_Lot_len => k_is); (case fl_Lot_len => k_is); (case fc_Lot_len => k_is); (case fk_Lot_len => k_is); (case fa_Lot_eq => k_is); (case fi_Lot_eq => k_is); (case ff_Lot_eq => k_is); (case fl_Lot_eq => k_is); (case fc_Lot_eq => k_is); (case fk_Lot_eq => k_is); (case a_Store => k_is); (case pg_Store => k_is); (case hd_Store => k_is); (case po_Store => k_is); (case sa_Store => k_is); (case mk_Store => k_is); (case kp_Store => k_is); (case ha_Store => k_is); (case n0_Store => k_is); (case fa_Store_init => k_is); (case fi_Store_init => k_is); (case fl_Store_init => k_is); (case fc_Store_init => k_is); (case fk_Store_init => k_is); (case fa_Store_units => k_is); (case fi_Store_units => k_is); (case ff_Store_units => k_is); (case fl_Store_units => k_is); (case fc_Store_units => k_is); (case fk_Store_units => k_is)
