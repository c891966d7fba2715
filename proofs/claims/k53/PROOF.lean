import PyProof.Rows.All
import Wide.All
import OpenK.AllK
import Wide.FinOn
import PyProof.EqAt
import PyProof.EqKinds
import PyProof.TupleCall
import PyProof.ReprRoads
import HandS.ForMost
import HandS.IsInst
import HandS.Wide
import HandS.WideBits
import HandS.TupAny
import HandS.TupLe
import HandS.Walk
import HandS.Codes
import HandS.Evl
import HandS.SetFor
import HandS.Strs
import HandS.Zip
import HandS.Style
import HandS.Conv
import KE.KRevSl
import PyProof.WalksMore
import HandS.ExcInit
import HandS.ExcOwn
import HandS.ExcField
import HandS.TryMany
import HandS.ExcCtx
import KE.KExcInit
import HandS.SortKw
import HandS.TupSets
import HandS.Small
import HandS.Iter
import PyProof.Rows.SumGenD
import KE.KExcIs
import HandS.ExcIs
import HandS.ExcValue
import HandS.HotCalls
import HandS.Star
import HandS.Property
import KE.GoesEnum
import HandS.TupMul
import HandS.NoneIn
import KE.KDictPairs
import HandS.Defaults
import HandS.ListItems
import HandS.SortInts
import HandS.DictComp
import HandS.More
import HandS.OwnEq
import PyProof.DictUpdate
import PyProof.NeKinds
import KE.KEqDict
import KE.KDictZip
import PyProof.ListNew
import HandS.DictTup
import HandS.TryOnly
import KE.DatumOrd
import KE.KOpsOwn
import KE.GoesMore
import KE.KIndexOf
import HandS.SortRule
import KE.KTupSum
import KE.KDictList
import HandS.DeepEq
import KE.KEqNest
import PyProof.DictWalks
import PyProof.WalkInts
import PyProof.MinMaxWalk
import HandS.OwnIter
import KE.KDictIter
import KE.KCallOwn
import HandS.FStr
import HandS.WordsExc
import PyProof.StrLawsRepr
import HandS.ListEq
import HandS.Lambda
import HandS.HeadHook4
import HandS.Head2
import KE.KStateDown
import PySem.Challenge.RW_chainpacks_k53_whole_fewest_go_together
set_option Elab.async false
set_option linter.all false
set_option maxRecDepth 100000
set_option maxHeartbeats 4000000
namespace Ck
open PySem PySem.Spec PyProof.Rows L2
theorem bt_abs : bootBuiltins "abs" = some (.builtin "abs") := by decide +kernel
theorem bt_all : bootBuiltins "all" = some (.builtin "all") := by decide +kernel
theorem bt_any : bootBuiltins "any" = some (.builtin "any") := by decide +kernel
theorem bt_bool : bootBuiltins "bool" = some (.type "bool") := by decide +kernel
theorem bt_int : bootBuiltins "int" = some (.type "int") := by decide +kernel
theorem bt_str : bootBuiltins "str" = some (.type "str") := by decide +kernel
theorem bt_list : bootBuiltins "list" = some (.type "list") := by decide +kernel
theorem bt_tuple : bootBuiltins "tuple" = some (.type "tuple") := by decide +kernel
theorem bt_set : bootBuiltins "set" = some (.type "set") := by decide +kernel
theorem bt_isinstance : bootBuiltins "isinstance" = some (.builtin "isinstance") := by decide +kernel
theorem bt_len : bootBuiltins "len" = some (.builtin "len") := by decide +kernel
theorem bt_max : bootBuiltins "max" = some (.builtin "max") := by decide +kernel
theorem bt_min : bootBuiltins "min" = some (.builtin "min") := by decide +kernel
theorem bt_sum : bootBuiltins "sum" = some (.builtin "sum") := by decide +kernel
theorem bt_sorted : bootBuiltins "sorted" = some (.builtin "sorted") := by decide +kernel
def Df (K : PySem.W.Frag) (mg : Str → Option Value) (x : Str) (st : Stmt) (ps : List Str) : Prop :=
  ∃ f fd, Fun K x x st f fd ∧ mg x = some (.ref f) ∧ Binds K fd ps []
def Cl (P : Program) (w : World) (K : PySem.W.Frag) (mg : Str → Option Value) (base : Heap) (k : Nat) (x : Str) (sp : Sp) : Prop :=
  ∃ f fd ps, FnOk P w K mg base CX0 k f fd ps sp ∧ mg x = some (.ref f) ∧ PySem.W.keepIn K (.ref f) = true ∧ Binds K fd ps []
section
variable {P : Program} {w : World} {K : PySem.W.Frag} {mg : Str → Option Value} {base : Heap}
theorem cl_of {x : Str} {st : Stmt} {N ps : List Str} {k : Nat} {sp : Sp} (D : Df K mg x st ps) (S : FnScope N ps (defScope st)) (len : ∀ vs H Q E, sp vs H Q E → vs.length = ps.length)
    (hbody : ∀ (f : Addr) (cdv : Value) (A : Around) (outer : List Env) (s : Shared) (H : Hp) (vs : List V) (Q : VK) (E : XK), Room k (A.deeper (envOfC x (defScope st) s.heap.objs.size f cdv)) → sp vs H Q E →
      ∃ t, PSs (cxOf CX0 P w K mg base N x (defScope st) f cdv A outer s H E).nox (defBody st) t ∧ t { nx := fun _ H' => Q .non H', rt := Q } (start N vs) H) : Cl P w K mg base (k + 1) x sp := by
  obtain ⟨f, fd, F, g, b⟩ := D
  exact ⟨f, fd, ps, F.ok S len (hbody f), g, F.kp, b⟩
end
section
variable {X : Cx} {k j : Nat} {x : Str} {sp : Sp} {p pos : Pos} {e : Expr} {es : List Expr} {t : TA}
theorem pcal (c : Cl X.prog X.w X.K X.mg X.base k x sp) (hr : Room j X.A) (ha : PA X (e :: es) t) (hk : k ≤ j := by decide) (hg : Gl X x := by rfl)
    (hdb : (x == ("__debug__" : Str)) = false := by decide) (he : starEach (e :: es) X.env = (false, eval e X.env) :: starEach es X.env := by rfl) (hpl : (backTo pos (starEach es X.env)).any (·.1) = false := by rfl) :
    PE X (.Call (.Name x p) (e :: es) [] pos) (tCall sp [] E0 t) := by
  obtain ⟨f, fd, ps, F, hm, kp, b⟩ := c
  exact pe_call F (hr.mono hk) hg hm kp b .nil pass0 ha hdb he hpl
theorem pe_gc2 {v : V} (hg : Gl X x) (h : ∃ u, X.mg x = some u ∧ RelV v u) (hd : (x == ("__debug__" : Str)) = false := by decide) : PE X (.Name x pos) (tC v) := by
  obtain ⟨u, h1, h2⟩ := h
  exact pe_glob hg h1 h2 hd
end

end Ck

namespace Ck
open PySem PySem.Spec PyProof.Rows L2
structure FnG (P : Program) (w : World) (K : PySem.W.Frag) (mg : Str → Option Value) (base : Heap) (C : CXT) (k : Nat)
    (f : Addr) (fd : FuncData) (ps : List Str) (sp : Sp) : Prop where
  len : ∀ vs H Q E, sp vs H Q E → vs.length = ps.length
  run : ∀ (A : Around) (fr : List Env) (s : Shared) (H : Hp) (args : Args) (us : List Value) (vs : List V) (Q : VK) (E : XK),
    Room k A → A.guards = some [] → Env0 P w K mg base A fr s H → BindsTo s fd args (ps.zip us) → Vals vs us →
    sp vs H Q E → codeAny (model P w) A (.call (.ref f) args) (CR C fr P w H s Q E) s
section
variable {P : Program} {w : World} {K : PySem.W.Frag} {mg : Str → Option Value} {base : Heap} {C : CXT} {k : Nat}
  {f : Addr} {fd : FuncData} {ps : List Str} {sp : Sp}
theorem FnG.of (F : FnOk P w K mg base C k f fd ps sp) : FnG P w K mg base C k f fd ps sp :=
  ⟨F.len, fun A fr s H args us vs Q E r _ e b v h => F.run A fr s H args us vs Q E r e b v h⟩
theorem Fun.okG {x qual : Str} {st : Stmt} {N : List Str} (F : Fun K x qual st f fd) (S : FnScope N ps (defScope st))
    (len : ∀ vs H Q E, sp vs H Q E → vs.length = ps.length)
    (hbody : ∀ (cdv : Value) (A : Around) (fr : List Env) (s : Shared) (H : Hp) (vs : List V) (Q : VK) (E : XK),
      Room k (A.deeper (envOfC qual (defScope st) s.heap.objs.size f cdv)) → A.guards = some [] → sp vs H Q E →
      ∃ t, PSs (cxOf C P w K mg base N qual (defScope st) f cdv A fr s H E) (defBody st) t ∧
        t { nx := fun _ H' => Q .non H', rt := Q } (start N vs) H) : FnG P w K mg base C (k + 1) f fd ps sp := by
  obtain ⟨oc, od, kV, doc, pm, an, cdv, ct, osl, rfl, lk, hcd⟩ := F.ex
  constructor
  case len => exact len
  case run =>
    intro A fr s H args us vs Q E r g e b rv h
    have KX : K.In s.heap := e.mod.kin.keeps (fun c o q => (e.bs c o q).1)
    have lim : s.heap.NoLimit := e.mod.nolimit.keeps (fun c o q => (e.bs c o q).1)
    have hl := len vs H Q E h
    have knd : ∀ y ∈ ps.zip us, (defScope st).names.lookup y.1 = some .local ∨
        ((defScope st).names.lookup y.1 = some .cell ∧ ((cellsFrom (s.heap.objs.size + 1) (defScope st).names []).lookup y.1).isSome = true) := by
      intro y hy
      have hp := (List.of_mem_zip (a := y.1) (b := y.2) hy).1
      cases S.par y.1 hp with
      | inl q => exact Or.inl q
      | inr q => exact Or.inr ⟨q, PySem.W.cellsFrom_some _ _ _ (Or.inl q)⟩
    refine codeAny_call_function r.depth (KX f _ lk) rfl S.co S.gen rfl
      (PySem.W.codeRec_of KX hcd) (b _ _ _ _ (wpAny_newFunctionEnv_cells S.kind knd (fun env he s1 x => ?_)))
    cases he
    refine ⟨lim.keeps x.toInCall.keep, codeAny_func ?_⟩
    obtain ⟨t, ht, hq⟩ := hbody cdv A fr s H vs Q E (r.deeper _) g h
    have I := inv_start (CX := C) (E := E) S r.hd e hl rv x
    refine wpAny_mono (ht.run [] s1 (start N vs) H _ I hq) ?_ (fun _ _ z => z)
    intro fl s' hs
    cases fl with
    | brk => obtain ⟨_, _, _, z⟩ := hs; exact z.elim
    | cont => obtain ⟨_, _, _, z⟩ := hs; exact z.elim
    | ret u =>
      obtain ⟨v, σ', H', J, rr, z⟩ := hs
      exact ⟨v, H', J.os, J.bare, J.base, J.hok, rr, z⟩
    | next =>
      obtain ⟨σ', H', J, z⟩ := hs
      exact ⟨V.non, H', J.os, J.bare, J.base, J.hok, rfl, z⟩
end

def Cg (P : Program) (w : World) (K : PySem.W.Frag) (mg : Str → Option Value) (base : Heap) (C : CXT) (k : Nat) (x : Str) (sp : Sp) : Prop :=
  ∃ f fd ps, FnG P w K mg base C k f fd ps sp ∧ mg x = some (.ref f) ∧ PySem.W.keepIn K (.ref f) = true ∧ Binds K fd ps []
section
variable {P : Program} {w : World} {K : PySem.W.Frag} {mg : Str → Option Value} {base : Heap}
theorem cg_of {x : Str} {st : Stmt} {N ps : List Str} {k : Nat} {sp : Sp} (D : Df K mg x st ps) (S : FnScope N ps (defScope st))
    (len : ∀ vs H Q E, sp vs H Q E → vs.length = ps.length)
    (hbody : ∀ (f : Addr) (cdv : Value) (A : Around) (fr : List Env) (s : Shared) (H : Hp) (vs : List V) (Q : VK) (E : XK),
      Room k (A.deeper (envOfC x (defScope st) s.heap.objs.size f cdv)) → A.guards = some [] → sp vs H Q E →
      ∃ t, PSs (cxOf CX0 P w K mg base N x (defScope st) f cdv A fr s H E).nox (defBody st) t ∧
        t { nx := fun _ H' => Q .non H', rt := Q } (start N vs) H) : Cg P w K mg base CX0 (k + 1) x sp := by
  obtain ⟨f, fd, F, g, b⟩ := D
  refine ⟨f, fd, ps, Fun.okG F S len fun cdv A fr s H vs Q E r gd h => ?_, g, F.kp, b⟩
  obtain ⟨t, h1, h2⟩ := hbody f cdv A fr s H vs Q E r gd h
  exact ⟨t, h1.nox, h2⟩
end
section
variable {X : Cx} {C : CXT} {k j : Nat} {x : Str} {f : Addr} {fd : FuncData} {ps : List Str} {sp : Sp} {E : XK} {p pos : Pos} {e : Expr} {es : List Expr} {t : TA}
theorem run_fng {pins : List (Addr × Obj)} {σ : L2.St} {H : Hp} {s : Shared} {Q : VK} {us : List Value} {vs : List V}
    (F : FnG X.prog X.w X.K X.mg X.base C k f fd ps sp) (hr : Room k X.A) (hg : X.A.guards = some []) (hb : Binds X.K fd ps []) (hx : Passes C X E)
    (I : Inv X pins σ H s) (r : Vals vs us) (h : sp vs H Q E) :
    wpAny (model X.prog X.w) X.A (call (.ref f) us) (EP X pins σ Q) X.xe s := by
  have hl : us.length = ps.length := r.length.symm.trans (F.len vs H Q E h)
  have bd : BindsTo s fd ⟨us, []⟩ (ps.zip us) := by
    have z := hb s us I.kIn (by rw [List.append_nil]; exact hl)
    rw [List.append_nil] at z
    exact z
  refine wpAny_call (codeAny_mono (F.run X.A X.stack s H ⟨us, []⟩ us vs Q E hr hg I.env0 bd r h) ?_)
  intro res s' hq
  match res, hq with
  | .ok (.ret u), hq => exact I.after hq
  | .ok .next, hq => exact hq.elim
  | .ok .brk, hq => exact hq.elim
  | .ok .cont, hq => exact hq.elim
  | .error e, hq => exact hx pins σ H s e s' I hq
theorem pcg (c : Cg X.prog X.w X.K X.mg X.base CX0 k x sp) (hr : Room j X.A) (hgd : X.A.guards = some []) (ha : PA X (e :: es) t) (hk : k ≤ j := by decide) (hg : Gl X x := by rfl)
    (hdb : (x == ("__debug__" : Str)) = false := by decide) (he : starEach (e :: es) X.env = (false, eval e X.env) :: starEach es X.env := by rfl) (hpl : (backTo pos (starEach es X.env)).any (·.1) = false := by rfl) :
    PE X (.Call (.Name x p) (e :: es) [] pos) (tCall sp [] E0 t) := by
  obtain ⟨f, fd, ps, F, hm, kp, b⟩ := c
  constructor
  intro pins s σ H Q I h
  refine wpAny_Call_Name_kw (ld_glob I hg hm ?_ hdb)
  refine PySem.W.callWith_K (h₀ := X.base) I.ok.mod.kin kp (thn (ha.run pos pins s σ H _ I h) ?_) he hpl
  rintro us s1 ⟨vs, H1, I1, r, q⟩
  refine ⟨I1.kIn, run_fng F (hr.mono hk) hgd b pass0 I1 r ?_⟩
  have z : sp (vs ++ []) H1 Q E0 := q
  rw [List.append_nil] at z
  exact z
end
end Ck

namespace Ck
open PySem PySem.Spec PyProof.Rows L2
abbrev Fine (s₁ : Shared) (r : Result) (s' : Shared) : Prop := r = .ok (.ret (.bool true)) ∧ OldK s₁.heap s'.heap ∧ s'.os = s₁.os ∧ AllBare s'.gens
section
variable {P : Program} {w : World} {K : PySem.W.Frag} {mg mb : Str → Option Value} {k : Nat} {fa a : Addr} {fd : FuncData} {x : Str} {sp : Sp} {s₁ : Shared} {vs : List Value} {ns : List Int}
end
end Ck

namespace Ck
open PySem PySem.Spec PyProof.Rows L2
def Dice (H : Hp) (d : Addr) : Prop := ∃ a b c : Int, H d = some (.lst [.int a, .int b, .int c])
def But (d : Addr) (H H' : Hp) : Prop := ∀ b, b ≠ d → H' b = H b
def Kp (d : Addr) (H H' : Hp) : Prop := ∀ b o, b ≠ d → H b = some o → H' b = some o
theorem But.kp {d : Addr} {H H' : Hp} (h : But d H H') : Kp d H H' := fun b o n e => (h b n).trans e
theorem Kp.refl (d : Addr) (H : Hp) : Kp d H H := fun _ _ _ e => e
theorem Kp.trans {d : Addr} {H H1 H2 : Hp} (a : Kp d H H1) (b : Kp d H1 H2) : Kp d H H2 := fun c o n e => b c o n (a c o n e)
theorem Kp.mut {d p : Addr} {H H' : Hp} {o : HO} (k : Kp d H H') (h : H p = none) : Kp d H (upd H' p o) := fun b u n e => by
  rw [upd_ne (ne_of_none e h)]; exact k b u n e
theorem Dice.ne {d p : Addr} {H : Hp} (h : Dice H d) (n : H p = none) : p ≠ d := by
  obtain ⟨a, b, c, e⟩ := h
  exact fun z => by rw [z, e] at n; cases n
theorem Dice.new {d p : Addr} {H : Hp} {o : HO} (h : Dice H d) (n : H p = none) : Dice (upd H p o) d := by
  have z := h.ne n
  obtain ⟨a, b, c, e⟩ := h
  exact ⟨a, b, c, by rw [upd_ne z.symm]; exact e⟩
theorem Dice.put {d p : Addr} {H : Hp} {o : HO} (h : Dice H d) (n : p ≠ d) : Dice (upd H p o) d := by
  obtain ⟨a, b, c, e⟩ := h
  exact ⟨a, b, c, by rw [upd_ne n.symm]; exact e⟩
theorem Dice.at {d : Addr} {H : Hp} {a b c : Int} : Dice (upd H d (.lst [.int a, .int b, .int c])) d := ⟨a, b, c, upd_same⟩
theorem But.put {d : Addr} {H : Hp} {o : HO} : But d H (upd H d o) := fun b n => upd_ne n
theorem But.sqL {K : PySem.W.Frag} {d a : Addr} {H H' : Hp} {xs : List V} (k : But d H H') (n : a ≠ d) (h : SqL K H a xs) : SqL K H' a xs := by
  rcases h with (h | ⟨o, h⟩) | h
  · exact .inl (.inl ((k a n).trans h))
  · exact .inl (.inr ⟨o, (k a n).trans h⟩)
  · exact .inr h
theorem Kp.sqT {K : PySem.W.Frag} {d a : Addr} {H H' : Hp} {xs : List V} (k : Kp d H H') (n : a ≠ d) (h : SqT K H a xs) : SqT K H' a xs := by
  rcases h with (h | ⟨o, h⟩) | h
  · exact .inl (.inl (k a _ n h))
  · exact .inl (.inr ⟨o, k a _ n h⟩)
  · exact .inr h
def spRoll : Sp := fun vs H Q _ => ∃ d t, vs = [.ref d, .int t] ∧ 0 < t ∧ t < 1073741824 ∧ Dice H d ∧
  ∀ r H', 0 ≤ r → r < t → Dice H' d → But d H H' → Q (.int r) H'
def spDice (K : PySem.W.Frag) : Sp := fun vs H Q _ => ∃ (a : Addr) (k : Nat) (ns : List Int), vs = [.ref a, .int (k : Int)] ∧ SqL K H a (ns.map V.int) ∧
  ∀ d, H d = none → ∀ H', Dice H' d → But d H H' → Q (.ref d) H'
theorem at_int {ns : List Int} {k : Nat} (h : ((k : Nat) : Int) < ((ns.map V.int).length : Int)) : ∃ i, atI (ns.map V.int) (k : Int) = some (.int i) := by
  have h1 : k < ns.length := by rw [List.length_map] at h; omega
  exact ⟨ns[k], atI_nat (by rw [List.getElem?_map, List.getElem?_eq_getElem h1]; rfl)⟩
theorem ten60 : CMulW ((10 : Int) ^ (60 : Int).toNat) ((10 : Int) ^ (60 : Int).toNat) := by unfold CMulW; decide +kernel
theorem pow_ok {i j : Int} (h : (decide (0 ≤ j) && decide (j ≤ 1000000) && decide (i.natAbs < 2 ^ 64)) = true) : CPow i j := by
  simp only [Bool.and_eq_true, decide_eq_true_eq] at h
  exact ⟨h.1.1, h.1.2, h.2⟩
theorem r_mod {Q : VK} {H : Hp} {i j : Int} (hj : 0 < j) (h : ∀ r, 0 ≤ r → r < j → Q (.int r) H) : rI (fun _ j => 0 < j) (fun i j => .int (i % j)) (.int i) (.int j) H Q :=
  ⟨i, j, rfl, rfl, hj, h _ (Int.emod_nonneg _ (by omega)) (Int.emod_lt_of_pos _ hj)⟩
theorem r_modC {Q : VK} {σ : L2.St} {H : Hp} {i j : Int} (hj : 0 < j) (h : ∀ r, 0 ≤ r → r < j → Q (.int r) H) :
    tC (.int j) σ H (fun y H2 => rI (fun _ j => 0 < j) (fun i j => .int (i % j)) (.int i) y H2 Q) := r_mod hj h
theorem join {c : Prop} [Decidable c] {ta tb : TE} {σ : L2.St} {H : Hp} {Q : VK} (p : V → Prop) (hq : ∀ v, p v → Q v H) (h1 : c → ∀ Q' : VK, (∀ v, p v → Q' v H) → ta σ H Q')
    (h2 : ¬ c → ∀ Q' : VK, (∀ v, p v → Q' v H) → tb σ H Q') : if decide c = true then ta σ H Q else tb σ H Q := by
  by_cases h : c
  · rw [decide_eq_true h]; exact iteT (h1 h Q hq)
  · rw [decide_eq_false h]; exact iteF (h2 h Q hq)
abbrev IsI (v : V) : Prop := ∃ i : Int, v = .int i
theorem at_in {α : Type} {xs : List α} {r : Int} (h0 : 0 ≤ r) (h : r < (xs.length : Int)) : ∃ x, x ∈ xs ∧ atI xs r = some x := by
  have hr : r.toNat < xs.length := by omega
  refine ⟨xs[r.toNat], List.getElem_mem hr, ?_⟩
  have z := atI_nat (xs := xs) (j := r.toNat) (List.getElem?_eq_getElem hr)
  rwa [show ((r.toNat : Nat) : Int) = r by omega] at z
theorem ifd {c : Prop} [Decidable c] {A B : Prop} (h1 : c → A) (h2 : ¬ c → B) : if decide c = true then A else B := by
  by_cases h : c
  · rw [decide_eq_true h]; exact iteT (h1 h)
  · rw [decide_eq_false h]; exact iteF (h2 h)
end Ck

namespace Ck
open PySem PySem.Spec PyProof.Rows L2
section
variable {σ : L2.St} {H : Hp} {ta tb tc : TE} {t u : TT} {x y v : V} {K : PySem.W.Frag} {a b c : Int} {p q : Bool}
variable {D : Ends} {s r z : TS}
theorem nt {b : Bool} (h : (!b) = true) : b = false := by cases b with | true => cases h | false => rfl
theorem nf {b : Bool} (h : (!b) = false) : b = true := by cases b with | true => rfl | false => cases h
theorem yes_go {Q : Bool → Hp → Prop} (h : Q true H) : tYes σ H Q := h
theorem if_b {A B : Prop} (p : Bool) (h1 : p = true → A) (h2 : p = false → B) : if p = true then A else B := by
  cases p with
  | true => exact iteT (h1 rfl)
  | false => exact iteF (h2 rfl)
end
end Ck

namespace Ck
open PySem PySem.Spec PyProof.Rows L2 Evl
section
variable {K : PySem.W.Frag} {H H' : Hp}
mutual
theorem dpM (e : Ex H H') : ∀ {v : V} {d : PyData}, Dp K H v d → Dp K H' v d
  | _, _, .non => .non
  | _, _, .bl b => .bl b
  | _, _, .int i => .int i
  | _, _, .str x => .str x
  | _, _, .lst h a => .lst (ex_l e h) (dpaM e a)
  | _, _, .tup h a => .tup (ex_t e h) (dpaM e a)
theorem dpaM (e : Ex H H') : ∀ {vs : List V} {ds : List PyData}, DpAll K H vs ds → DpAll K H' vs ds
  | _, _, .nil => .nil
  | _, _, .cons h t => .cons (dpM e h) (dpaM e t)
end
end
def Ed (K : PySem.W.Frag) (te : TE) (σ : L2.St) (H : Hp) (d : PyData) : Prop := ∀ H1, Ex H H1 → ∀ Q : VK, (∀ v H2, Ex H1 H2 → Dp K H2 v d → Q v H2) → te σ H1 Q
def EdA (K : PySem.W.Frag) (ta : TA) (σ : L2.St) (H : Hp) (ds : List PyData) : Prop := ∀ H1, Ex H H1 → ∀ Q : List V → Hp → Prop, (∀ vs H2, Ex H1 H2 → DpAll K H2 vs ds → Q vs H2) → ta σ H1 Q
section
variable {K : PySem.W.Frag} {σ : L2.St} {H H' : Hp} {ta tb te tc : TE} {tr : TA} {t u : TT} {x y z v : V} {d e : PyData} {ds : List PyData} {a b c : Int} {p q : Bool}
theorem ed_of (h : Ev te σ H v) (hd : Dp K H v d) : Ed K te σ H d := fun H1 e Q q => h H1 e Q fun H2 e2 => q v H2 e2 (dpM (e.trans e2) hd)
theorem ed_int (h : Ev te σ H (.int a)) : Ed K te σ H (.int a) := ed_of h (.int a)
theorem ed_nil : EdA K tNil σ H [] := fun H1 _ _ q => q [] H1 (Ex.refl H1) .nil
theorem ed_cons (h : Ed K te σ H d) (hr : EdA K tr σ H ds) : EdA K (tCons te tr) σ H (d :: ds) := fun H1 e Q q =>
  h H1 e _ fun v H2 e2 hd => hr H2 (e.trans e2) _ fun vs H3 e3 ha => q (v :: vs) H3 (e2.trans e3) (.cons (dpM e3 hd) ha)
theorem dpa_len : ∀ {vs : List V} {ds : List PyData}, DpAll K H vs ds → vs.length = ds.length
  | _, _, .nil => rfl
  | _, _, .cons _ t => congrArg (· + 1) (dpa_len t)
theorem ed_lst (h : EdA K tr σ H ds) (hl : ds.length ≤ 100000 := by exact Nat.le_of_ble_eq_true rfl) : Ed K (tLst tr) σ H (.list ds) := fun H1 e Q q =>
  h H1 e _ fun vs H2 e2 ha => ⟨sz_of (by rw [dpa_len ha]; exact hl), fun p hp => q (.ref p) _ (e2.trans (Ex.new hp)) (.lst (sq_of upd_same) (dpaM (Ex.new hp) ha))⟩
theorem ed_tup (h : EdA K tr σ H ds) (hl : ds.length ≤ 100000 := by exact Nat.le_of_ble_eq_true rfl) : Ed K (tTup tr) σ H (.tuple ds) := fun H1 e Q q =>
  h H1 e _ fun vs H2 e2 ha => ⟨sz_of (by rw [dpa_len ha]; exact hl), fun p hp => q (.ref p) _ (e2.trans (Ex.new hp)) (.tup (st_of upd_same) (dpaM (Ex.new hp) ha))⟩
theorem ev_eqD (h : Ed K ta σ H d) (h' : Ed K tb σ H e) (s : SeqAt.shaped d = true) (s' : SeqAt.shaped e = true) : Ev (tOp (rEqD K) ta tb) σ H (.bl (PyData.eqv d e)) := fun H1 e1 Q q =>
  h H1 e1 _ fun v H2 e2 hd => h' H2 (e1.trans e2) _ fun u H3 e3 hd' => ⟨_, _, dpM e3 hd, hd', s, s', q H3 (e2.trans e3)⟩
theorem ev_neD (h : Ed K ta σ H d) (h' : Ed K tb σ H e) (s : SeqAt.shaped d = true) (s' : SeqAt.shaped e = true) : Ev (tOp (rNeD K) ta tb) σ H (.bl (!PyData.eqv d e)) := fun H1 e1 Q q =>
  h H1 e1 _ fun v H2 e2 hd => h' H2 (e1.trans e2) _ fun u H3 e3 hd' => ⟨_, _, dpM e3 hd, hd', s, s', q H3 (e2.trans e3)⟩
theorem ev_i0 {g : Int → Int → V} (ha : Ev ta σ H (.int a)) (hb : Ev tb σ H (.int b)) : Ev (tOp (rI0 g) ta tb) σ H (g a b) := ev_op ha hb rv_I0
theorem ev_i {C : Int → Int → Prop} {g : Int → Int → V} (ha : Ev ta σ H (.int a)) (hb : Ev tb σ H (.int b)) (hc : C a b) : Ev (tOp (rI C g) ta tb) σ H (g a b) := ev_op ha hb (rv_I hc)
theorem ev_eq (ha : Ev ta σ H x) (hb : Ev tb σ H y) (hs : scal x y = true) : Ev (tOp rEq ta tb) σ H (.bl (decide (x = y))) := ev_op ha hb (rv_eq hs)
theorem ev_ne (ha : Ev ta σ H x) (hb : Ev tb σ H y) (hs : scal x y = true) : Ev (tOp rNe ta tb) σ H (.bl (!decide (x = y))) := ev_op ha hb (rv_ne hs)
theorem ev_chain {f g : Int → Int → Bool} (ha : Ev ta σ H (.int a)) (hb : Ev tb σ H (.int b)) (hc : Ev tc σ H (.int c)) :
    Ev (tChain (rI0 fun i j => .bl (f i j)) (rI0 fun i j => .bl (g i j)) ta tb tc) σ H (.bl (f a b && g b c)) := fun H1 e Q q =>
  ha H1 e _ fun H2 e2 => hb H2 (e.trans e2) _ fun H3 e3 => ⟨a, b, rfl, rfl, f a b, rfl, by
    cases h : f a b with
    | true =>
      rw [h] at q
      exact iteT (hc H3 ((e.trans e2).trans e3) _ fun H4 e4 => ⟨b, c, rfl, rfl, q H4 ((e2.trans e3).trans e4)⟩)
    | false =>
      rw [h] at q
      exact iteF (q H3 (e2.trans e3))⟩
theorem ev_isi {k : V} {tt uu : Value} {r : Bool} (ha : Ev ta σ H x) (hb : Ev tb σ H k) (h1 : ClsV k uu) (h2 : ∀ H1, Ex H H1 → TyX K H1 x tt) (h3 : PySem.W.kitOne K tt uu = some r) :
    Ev (tCB (rIsi K) (tCons ta (tCons tb tNil))) σ H (.bl r) := fun H1 e Q q => ha H1 e _ fun H2 e2 => hb H2 (e.trans e2) _ fun H3 e3 => ⟨x, k, tt, uu, r, rfl, h1, h2 H3 ((e.trans e2).trans e3), h3, q H3 (e2.trans e3)⟩
theorem ev_lenS {s : Str} (ha : Ev ta σ H (.str s)) (hz : s.length ≤ sizeLine) :
    Ev (tCB (fun xs H Q => ∃ z, xs = [.str z] ∧ z.length ≤ sizeLine ∧ Q (.int z.length) H) (tCons ta tNil)) σ H (.int (s.length : Int)) := fun H1 e Q q => ha H1 e _ fun H2 e2 => ⟨s, rfl, hz, q H2 e2⟩
theorem ev_lenL {l : Addr} {xs : List V} (ha : Ev ta σ H (.ref l)) (hl : SqL K H l xs) :
    Ev (tCB (fun xs H Q => ∃ p ys, xs = [.ref p] ∧ (SqL K H p ys ∨ SqT K H p ys) ∧ Q (.int ys.length) H) (tCons ta tNil)) σ H (.int (xs.length : Int)) := fun H1 e Q q => ha H1 e _ fun H2 e2 => ⟨l, xs, rfl, .inl (ex_l (e.trans e2) hl), q H2 e2⟩
theorem ev_lenT {l : Addr} {xs : List V} (ha : Ev ta σ H (.ref l)) (hl : SqT K H l xs) :
    Ev (tCB (fun xs H Q => ∃ p ys, xs = [.ref p] ∧ (SqL K H p ys ∨ SqT K H p ys) ∧ Q (.int ys.length) H) (tCons ta tNil)) σ H (.int (xs.length : Int)) := fun H1 e Q q => ha H1 e _ fun H2 e2 => ⟨l, xs, rfl, .inr (ex_t (e.trans e2) hl), q H2 e2⟩
theorem ev_abs (ha : Ev ta σ H (.int a)) : Ev (tCB (fun xs H Q => ∃ i, xs = [.int i] ∧ Q (.int (if i < 0 then -i else i)) H) (tCons ta tNil)) σ H (.int (if a < 0 then -a else a)) := fun H1 e Q q => ha H1 e _ fun H2 e2 => ⟨a, rfl, q H2 e2⟩
theorem ev_min (ha : Ev ta σ H (.int a)) (hb : Ev tb σ H (.int b)) : Ev (tCB (fun xs H Q => ∃ i j, xs = [.int i, .int j] ∧ Q (.int (if j < i then j else i)) H) (tCons ta (tCons tb tNil))) σ H (.int (if b < a then b else a)) := fun H1 e Q q => ha H1 e _ fun H2 e2 => hb H2 (e.trans e2) _ fun H3 e3 => ⟨a, b, rfl, q H3 (e2.trans e3)⟩
theorem ev_strI (ha : Ev ta σ H (.int a)) (hz : a.natAbs.log2 < 1920) : Ev (tCB (fun xs H Q => ∃ i, xs = [.int i] ∧ i.natAbs.log2 < 1920 ∧ Q (.str (toString i)) H) (tCons ta tNil)) σ H (.str (toString a)) := fun H1 e Q q => ha H1 e _ fun H2 e2 => ⟨a, rfl, hz, q H2 e2⟩
theorem ev_bits (ha : Ev ta σ H (.int a)) : Ev (tBits ta) σ H (.int (Builtin.Int.intBits a : Nat)) := fun H1 e Q q => ha H1 e _ fun H2 e2 => ⟨a, rfl, q H2 e2⟩
theorem ev_notN (ha : Ev ta σ H x) : Ev (tOp (fun x y H Q => y = .non ∧ Q (.bl (!decide (x = .non))) H) ta (tC .non)) σ H (.bl (!decide (x = .non))) := fun H1 e Q q => ha H1 e _ fun H2 e2 => ⟨rfl, q H2 e2⟩
theorem ev_ixL {l : Addr} {xs : List V} {i : Int} (ha : Ev ta σ H (.ref l)) (hb : Ev tb σ H (.int i)) (hl : SqL K H l xs) (hi : atI xs i = some v) : Ev (tOp (rIxL K) ta tb) σ H v := ev_op ha hb (rv_ixL hl hi)
theorem ev_ixT {l : Addr} {xs : List V} {i : Int} (ha : Ev ta σ H (.ref l)) (hb : Ev tb σ H (.int i)) (hl : SqT K H l xs) (hi : atI xs i = some v) : Ev (tOp (rIxT K) ta tb) σ H v := ev_op ha hb (rv_ixT hl hi)
theorem ev_call1 {sp : Sp} {E : XK} (h : Ev te σ H x) (hs : SpV sp [x] H z) : Ev (tCall sp [] E (tCons te tNil)) σ H z := ev_call (vs := [x]) (ea_cons h ea_nil) hs
end

section
variable {K : PySem.W.Frag} {σ : L2.St} {H : Hp} {te tl : TE} {t : TT} {xs : List V} {ds : List PyData}
theorem dpa_map {α : Type} {f : α → V} {g : α → PyData} (h : ∀ x, Dp K H (f x) (g x)) : ∀ l : List α, DpAll K H (l.map f) (l.map g)
  | [] => .nil
  | x :: r => .cons (h x) (dpa_map h r)
end
section
variable {K : PySem.W.Frag} {σ : L2.St} {H : Hp} {D : Ends} {body rest : TS} {a : Addr} {ns : List Int}
def Out (a : Addr) (m : Nat) (H0 : Hp) (σ : L2.St) (H : Hp) : Prop := (∃ r, σ = some (.ref a) :: r ∧ r.length = m) ∧ Same H0 H
theorem spots {m : Nat} {k : Int} (hk : 0 ≤ k ∧ k ≤ 100) (hv : σ = some (.ref a) :: List.replicate m none) (hm : 0 < m) (hS : SqL K H a (ns.map V.int))
    (step : ∀ (s : Nat) (r : L2.St) (H1 : Hp), r.length + 1 = m → Same H H1 → body { D with nx := Out a m H, ct := Out a m H, bk := rest D } (some (.ref a) :: some (.int (s : Int)) :: r) H1)
    (done : ∀ (r : L2.St) (H1 : Hp), r.length = m → Same H H1 → rest D (some (.ref a) :: r) H1) :
    tSeq (tFor (iRng1 (tCons (tCB (fun xs H Q => ∃ i j, xs = [.int i, .int j] ∧ Q (.int (if j > i then j else i)) H) (tCons (tC (.int 1)) (tCons (tCB (fun xs H Q => ∃ i j, xs = [.int i, .int j] ∧ Q (.int (if j < i then j else i)) H) (tCons (tC (.int k))
      (tCons (tCB (fun xs H Q => ∃ p ys, xs = [.ref p] ∧ (SqL K H p ys ∨ SqT K H p ys) ∧ Q (.int ys.length) H) (tCons (tVar 0) tNil)) tNil))) tNil))) tNil)) (gName 1) body) rest D σ H := by
  subst hv
  have e0 : (some (V.ref a) :: List.replicate m none : L2.St)[0]? = some (some (.ref a)) := rfl
  refine ⟨.ref a, e0, a, _, rfl, .inl hS, k, _, rfl, 1, _, rfl, _, rfl, ?_, ?_, ?_⟩
  · split <;> split <;> omega
  · split <;> split <;> omega
  refine for_range (fun _ => Out a m H) ⟨⟨_, rfl, List.length_replicate⟩, Same.refl H⟩ ?_ ?_
  · rintro i σ' H' hi ⟨⟨r, rfl, hr⟩, hs⟩
    match r, hr with
    | x :: r, hr =>
      have z := step i r H' hr hs
      show body _ (some (.ref a) :: some (.int (0 + (i : Int))) :: r) H'
      rw [Int.zero_add]
      exact z
    | [], hr => exact absurd hr (by show ¬ 0 = m; omega)
  · rintro σ' H' ⟨⟨r, rfl, hr⟩, hs⟩
    exact done r H' hr hs
def Inn (a d : Addr) (m : Nat) (H0 : Hp) (σ : L2.St) (H : Hp) : Prop := (∃ s r, σ = some (.ref a) :: s :: some (.ref d) :: r ∧ r.length = m) ∧ Same H0 H ∧ Dice H d
end

def Lasts (Pr : V → Hp → Prop) : Prop := ∀ v H H', Ex H H' → Pr v H → Pr v H'
section
variable {K : PySem.W.Frag} {σ : L2.St} {H H' : Hp} {te ta : TE} {tr : TA} {Pr Pr' : V → Hp → Prop} {n : Nat} {v : V}
theorem tyM (e : Ex H H') {x : V} {t : Value} (h : TyX K H x t) : TyX K H' x t := by
  cases h with
  | base b =>
    refine .base ?_
    cases b with
    | non => exact .non
    | bl y => exact .bl y
    | int i => exact .int i
    | str y => exact .str y
    | flt y => exact .flt y
    | lst ea => exact .lst (e _ _ ea)
    | frz ea => exact .frz (e _ _ ea)
    | tup ea => exact .tup (e _ _ ea)
    | dK ea => exact .dK (e _ _ ea)
    | dT ea => exact .dT (e _ _ ea)
    | ins ea cl ha hn htk hm => exact .ins (e _ _ ea) cl ha hn htk hm
  | byt b => exact .byt b
  | set ea => exact .set (e _ _ ea)
  | kList a c => exact .kList a c
  | kTuple a c => exact .kTuple a c
  | kDict a c => exact .kDict a c
  | fTuple ea => exact .fTuple (e _ _ ea)
  | fDict ea => exact .fDict (e _ _ ea)
end
end Ck

namespace Ck
open PySem PySem.Spec PyProof.Rows L2 Evl
def intB (i : Int) : Bool := decide (i.natAbs < 10 ^ 200)
theorem num_len (n k : Nat) (hk : 0 < k) : (Str.ofString (toString ((n : Nat) : Int))).length ≤ k ↔ n < 10 ^ k := by
  have h := congrArg List.length (TL.tl_num n)
  unfold TL.numL at h
  rw [List.length_map] at h
  rw [← Nat.length_toDigits_le_iff (b := 10) (n := n) (k := k) (by decide) hk, ← h]
  show (Str.ofString (toString (n : Int))).cps.size ≤ k ↔ (Str.ofString (toString (n : Int))).cps.toList.length ≤ k
  rw [Array.length_toList]
theorem abs_if (i : Int) : (if i < 0 then -i else i) = (i.natAbs : Int) := by
  split <;> omega
theorem short_eq (i : Int) : decide (((Str.ofString (toString (if i < 0 then -i else i))).length : Int) ≤ 200) = intB i := by
  rw [abs_if]
  unfold intB
  refine decide_eq_decide.mpr ?_
  rw [← num_len i.natAbs 200 (by decide)]
  omega
theorem bits_big {i : Int} (h : (800 : Int) < ((Builtin.Int.intBits i : Nat) : Int)) : intB i = false := by
  refine decide_eq_false fun z => ?_
  have z2 : i.natAbs < 2 ^ 800 := Nat.lt_trans z (by decide +kernel)
  unfold Builtin.Int.intBits at h
  split at h
  · omega
  · have := PySem.Flt.log2_lt_of (by decide : 0 < 800) z2
    omega
theorem bits_small {i : Int} (h : ¬ (800 : Int) < ((Builtin.Int.intBits i : Nat) : Int)) : i.natAbs.log2 < 1920 := by
  unfold Builtin.Int.intBits at h
  split at h
  · rename_i z
    have : i = 0 := by simpa using z
    rw [this]
    decide
  · omega
inductive OddI (K : PySem.W.Frag) (H : Hp) (x : V) : Prop where
  | no (n : String) (h : TyX K H x (.type n)) (k : kitB n "int" = some false) (kb : kitB n "bool" = some false := by decide +kernel)
  | bl (b : Bool) (h : x = .bl b)
theorem OddI.lasts {K : PySem.W.Frag} : Lasts fun x H => OddI K H x := fun v H H' e h => by
  cases h with
  | no n h k kb => exact .no n (tyM e h) k kb
  | bl b h => exact .bl b h
def NumV (K : PySem.W.Frag) (p : Int → Bool) (H : Hp) (x : V) (b : Bool) : Prop := (∃ i, x = .int i ∧ b = p i) ∨ (OddI K H x ∧ b = false)
def spNum (K : PySem.W.Frag) (p : Int → Bool) : Sp := fun vs H Q _ => ∃ x b, vs = [x] ∧ NumV K p H x b ∧ ∀ H', Ex H H' → Q (.bl b) H'
def cntB (i : Int) : Bool := intB i && decide (0 ≤ i)
def sizB (i : Int) : Bool := intB i && decide (1 ≤ i)
theorem num_i {K : PySem.W.Frag} {p : Int → Bool} {H : Hp} {i : Int} : SpV (spNum K p) [.int i] H (.bl (p i)) := fun H1 _ Q q E => ⟨.int i, _, rfl, .inl ⟨i, rfl, rfl⟩, q⟩
theorem num_o {K : PySem.W.Frag} {p : Int → Bool} {H : Hp} {x : V} (h : OddI K H x) : SpV (spNum K p) [x] H (.bl false) := fun H1 e Q q E => ⟨x, _, rfl, .inr ⟨OddI.lasts _ _ _ e h, rfl⟩, q⟩
end Ck

namespace Ck
open PySem PySem.Spec PyProof.Rows L2
section
variable {P : Program} {w : World} {A : Around} {E : Value → Shared → Prop} {s : Shared}
abbrev emptyS (w : World) : Obj :=
  { cls := .type "set", dict := none
    data := .set #[] 0 (.fresh 0 0 (!w.params.followText "set-order")) }
abbrev laidS (w : World) (s : Shared) : Shared := { s with heap := s.heap.push (emptyS w) }
abbrev Full (w : World) (ns : List Int) (s : Shared) (h' : Heap) (c : Nat) : Prop :=
  SetR w h' s.heap.objs.size (fun j => decide (j ∈ ns)) c ∧ c ≤ ns.length ∧ ∀ b o, s.heap.get? b = some o → h'.get? b = some o
end
section
variable {X : Cx}
end
end Ck

namespace Ck
open PySem PySem.Spec PyProof.Rows L2 Evl RZ
def adj {α : Type} (f : Int → Int → α) : List Int → List α
  | x :: y :: r => f x y :: adj f (y :: r)
  | _ => []
theorem adj_range {α : Type} (f : Int → Int → α) : ∀ ns : List Int, adj f ns = (List.range (ns.length - 1)).map fun i => f (ns.getD i 0) (ns.getD (i + 1) 0)
  | [] => rfl
  | [_] => rfl
  | x :: y :: r => by
    have ih := adj_range f (y :: r)
    have e : (x :: y :: r).length - 1 = ((y :: r).length - 1) + 1 := by simp only [List.length_cons]; omega
    rw [e, List.range_succ_eq_map, List.map_cons, List.map_map]
    show f x y :: adj f (y :: r) = _
    rw [ih]
    rfl
def asc (ns : List Int) : Bool := (adj (fun x y => decide (x < y)) ns).all id
def gap (ns : List Int) : Option (Int × Int) := (adj (fun x y => (x, y)) ns).find? fun p => !decide (p.2 % p.1 = 0)
def gapD : Option (Int × Int) → PyData
  | some p => .tuple [.int p.1, .int p.2]
  | none => .none
section
variable {K : PySem.W.Frag} {σ : L2.St} {H H' : Hp} {ta tb te tl : TE} {tr : TA} {t : TT} {vs : List V} {d : PyData} {v : V} {p a b : Addr} {xs ys : List V}
theorem dp_non {v : V} (h : Dp K H v .none) : v = .non := by cases h; rfl
theorem walk_zipT {n : Nat} (hn : n = min xs.length ys.length) : Walk (ItzT K a b) n (fun H => SqT K H a xs ∧ SqT K H b ys) (YPair (fun i => xs[i]?) (fun i => ys[i]?)) where
  goes := by
    intro i H hi q
    have h1 : i < xs.length := by omega
    have h2 : i < ys.length := by omega
    exact ⟨xs, ys, xs[i], ys[i], q.1, q.2, List.getElem?_eq_getElem h1, List.getElem?_eq_getElem h2⟩
  stops := by
    intro H q
    exact ⟨xs, ys, q.1, q.2, by omega⟩
  yields := by
    rintro i H v H' _ q ⟨T, x, y, r1, r2, r3, r4, r5⟩
    exact ⟨T, x, y, r1, r2, r3, r4 xs q.1, r5 ys q.2⟩
theorem ev_all {bs : List Bool} (h : EvL te σ H (bs.map V.bl)) : Ev (tCB (rAll K) (tCons te tNil)) σ H (.bl (bs.all id)) := fun H1 e Q q =>
  h H1 e _ fun l H2 _ e2 hl => ⟨l, bs, rfl, sq_of hl, q H2 e2⟩
theorem given_all (n : Nat) (f : Nat → V) : given n (fun _ => true) f = (List.range n).map f := by
  unfold given
  rw [List.filter_eq_self.mpr fun _ _ => rfl]
theorem cutT1 (xs : List V) : cutV xs (some 1) none = xs.drop 1 := by
  have e : HT.sIx xs.length 0 (some 1) = min 1 xs.length := HT.sIx_nat xs.length 0 1
  show (xs.drop (HT.sIx xs.length 0 (some 1))).take (xs.length - HT.sIx xs.length 0 (some 1)) = _
  rw [e]
  cases xs with
  | nil => rfl
  | cons x r =>
    have e1 : min 1 (x :: r).length = 1 := by rw [List.length_cons]; omega
    rw [e1]
    show r.take (r.length + 1 - 1) = r
    exact List.take_of_length_le (by omega)
theorem min_zip (ns : List Int) : ns.length - 1 = min (ns.map V.int).length ((ns.drop 1).map V.int).length := by
  rw [List.length_map, List.length_map, List.length_drop]; omega
theorem at_zip {ns : List Int} {i : Nat} {x y : V} (hx : (ns.map V.int)[i]? = some x) (hy : ((ns.drop 1).map V.int)[i]? = some y) : x = .int (ns.getD i 0) ∧ y = .int (ns.getD (i + 1) 0) ∧ i + 1 < ns.length := by
  rw [List.getElem?_map] at hx hy
  rw [List.getElem?_drop, Nat.add_comm 1 i] at hy
  rw [List.getD_eq_getElem?_getD, List.getD_eq_getElem?_getD]
  cases h1 : ns[i]? with
  | none => rw [h1] at hx; cases hx
  | some m =>
    cases h2 : ns[i + 1]? with
    | none => rw [h2] at hy; cases hy
    | some n =>
      rw [h1] at hx
      rw [h2] at hy
      cases hx
      cases hy
      exact ⟨rfl, rfl, (List.getElem?_eq_some_iff.mp h2).1⟩
end
theorem ty_tup {K : PySem.W.Frag} {H : Hp} {p : Addr} {xs : List V} (h : SqT K H p xs) : TyX K H (.ref p) (.type "tuple") := by
  rcases h with (h | ⟨o, h⟩) | ⟨o, its, n, h1, h2, _⟩
  · exact .base (.tup h)
  · exact .fTuple h
  · exact .kTuple h1 h2
theorem decI (a b : Int) : V.bl (!decide ((V.int a) = V.int b)) = V.bl (!decide (a = b)) := by
  by_cases h : a = b
  · rw [h, decide_eq_true rfl, decide_eq_true rfl]
  · rw [decide_eq_false h, decide_eq_false fun z => h (V.int.inj z)]
theorem find_first {α : Type} {p : α → Bool} : ∀ {l : List α} {i : Nat} {x : α}, l[i]? = some x → p x = true → (∀ j y, j < i → l[j]? = some y → p y = false) → l.find? p = some x
  | [], _, _, h, _, _ => by cases h
  | a :: r, 0, x, h, hx, _ => by
    cases h
    rw [List.find?_cons, hx]
  | a :: r, i + 1, x, h, hx, hj => by
    rw [List.find?_cons, hj 0 a (Nat.succ_pos i) rfl]
    exact find_first (i := i) h hx fun j y hji hy => hj (j + 1) y (by omega) hy
theorem adj_at {α : Type} (f : Int → Int → α) {ns : List Int} {i : Nat} (h : i + 1 < ns.length) : (adj f ns)[i]? = some (f (ns.getD i 0) (ns.getD (i + 1) 0)) := by
  rw [adj_range, List.getElem?_map, List.getElem?_range (by omega)]
  rfl
theorem adj_len {α : Type} (f : Int → Int → α) (ns : List Int) : (adj f ns).length = ns.length - 1 := by
  rw [adj_range, List.length_map, List.length_range]
theorem gap_some {ns : List Int} {i : Nat} (hi : i + 1 < ns.length) (hj : ∀ j, j < i → ns.getD (j + 1) 0 % ns.getD j 0 = 0) (h : ¬ ns.getD (i + 1) 0 % ns.getD i 0 = 0) : gap ns = some (ns.getD i 0, ns.getD (i + 1) 0) := by
  unfold gap
  refine find_first (adj_at _ hi) (by show (!decide _) = true; rw [decide_eq_false h]; rfl) ?_
  intro j y hji hy
  rw [adj_at _ (show j + 1 < ns.length by omega)] at hy
  cases hy
  show (!decide _) = false
  rw [decide_eq_true (hj j hji)]
  rfl
theorem gap_none {ns : List Int} (hj : ∀ j, j < ns.length - 1 → ns.getD (j + 1) 0 % ns.getD j 0 = 0) : gap ns = none := by
  unfold gap
  rw [List.find?_eq_none]
  intro y hy
  obtain ⟨j, hj1, rfl⟩ := List.mem_iff_getElem.mp hy
  have l : j < ns.length - 1 := by rwa [adj_len] at hj1
  have e : (adj (fun x y => (x, y)) ns)[j] = (ns.getD j 0, ns.getD (j + 1) 0) := by
    have z := adj_at (fun x y => (x, y)) (ns := ns) (i := j) (by omega)
    rw [List.getElem?_eq_getElem hj1] at z
    exact Option.some.inj z
  rw [e]
  show ¬ (!decide _) = true
  rw [decide_eq_true (hj j l)]
  decide
theorem divW {a b : Int} (h : 0 < b) (hb : b.natAbs < 10 ^ 200) : CDivW a b := wide_div (b := 800) h (Nat.lt_trans hb (by decide +kernel)) (by decide) (by decide)
theorem siz_int {a : Int} (h : sizB a = true) : 0 < a ∧ a.natAbs < 10 ^ 200 := by
  unfold sizB intB at h
  rw [Bool.and_eq_true] at h
  exact ⟨by have := of_decide_eq_true h.2; omega, of_decide_eq_true h.1⟩
end Ck

namespace Ck
open PySem PySem.Spec PyProof.Rows L2 HT
section
variable {P : Program} {w : World} {A : Around} {E : Value → Shared → Prop} {s : Shared}
theorem back_n (n : Nat) : Builtin.Slice.slicePlaces ((n : Int) - 1) (-1) (-1) = n := by
  unfold Builtin.Slice.slicePlaces
  have a : ¬ ((-1 : Int) > 0) := by decide
  rw [if_neg a]
  by_cases h : (n : Int) - 1 > -1
  · rw [if_pos h, show (- -1 : Int) = 1 from rfl, Int.ediv_one]; omega
  · rw [if_neg h]; omega
theorem back_pick (xs : Array Value) : ((List.range xs.size).filterMap fun (m : Nat) => xs[(((xs.size : Int) - 1) + (m : Int) * (-1)).toNat]?).toArray = xs.toList.reverse.toArray := by
  have e : (List.range xs.size).filterMap (fun (m : Nat) => xs[(((xs.size : Int) - 1) + (m : Int) * (-1)).toNat]?) = ((List.range xs.size).map fun k => xs.size - 1 - k).filterMap (xs[·]?) := by
    rw [List.filterMap_map]
    congr 1
    funext m
    show xs[_]? = xs[xs.size - 1 - m]?
    congr 1
    omega
  rw [e, PySem.W.krv_range, List.filterMap_reverse, PySem.W.krv_all]
theorem applied_back {sl : Addr} {n : Nat} {v : Value} {Q : Int × Int × Nat → Shared → Prop} (hs : s.heap.IsSliceOf sl .none .none v) (pv : IsPart v (some (-1))) (h : Q ((n : Int) - 1, -1, n) s) :
    wpAny (model P w) A (Builtin.Slice.sliceApplied (.ref sl) (pure (n : Int))) Q E s := by
  obtain ⟨os, hos, _, hds⟩ := id hs
  unfold Builtin.Slice.sliceApplied Builtin.Slice.sliceFields
  refine wpAny_bind (wpAny_bind (wpAny_field hos hds (x := .none) rfl (wpAny_bind (wpAny_field hos hds (x := .none) rfl (wpAny_bind (wpAny_field hos hds (x := v) rfl (wpAny_pure ?_)))))))
  refine wpAny_bind (slicePart_ pv ?_)
  show wpAny _ _ (if ((-1 : Int) == 0) = true then _ else _) _ _ s
  rw [if_neg (by decide)]
  refine wpAny_bind (slicePart_none (wpAny_bind (slicePart_none (wpAny_bind (wpAny_pure ?_)))))
  show wpAny _ _ (pure (((n : Int) - 1), (-1 : Int), Builtin.Slice.slicePlaces ((n : Int) - 1) (-1) (-1))) _ _ s
  rw [back_n]
  exact wpAny_pure h
theorem get_back {t sl : Addr} {its : Array Value} {v : Value} {Q : Value → Shared → Prop} (ht : IsTup s.heap t its) (hs : s.heap.IsSliceOf sl .none .none v) (pv : IsPart v (some (-1)))
    (h : Q (.ref s.heap.objs.size) { s with heap := s.heap.push { cls := .type "tuple", data := .seq its.toList.reverse.toArray } }) (hz : its.size ≤ sizeLine) : wpAny (model P w) A (getItem (.ref t) (.ref sl)) Q E s := by
  have ok : sizeOk (.seq its.toList.reverse.toArray) := by
    show its.toList.reverse.toArray.size ≤ sizeLine
    rw [List.size_toArray, List.length_reverse, Array.length_toList]
    exact hz
  obtain ⟨ob, hob, hcb, hdb⟩ := id hs
  have tS : s.TypeIs (.ref sl) "slice" := ⟨ob, hob, hcb⟩
  have tT := ht.typeIs
  unfold getItem
  try with_reducible refine wpAny_holding ?_
  first | refine wpAny_bind (wpAny_pure ?_) | skip
  refine wpAny_bind (wpAny_sequenceKey tT (by decide) ?_)
  refine wpAny_bind (wpAny_callSpecial?_slot (name := Str.ofString "__getitem__") tT PyProof.Rows.slot_tuple_getitem (wpAny_call_entry PyProof.Rows.slot_tuple_getitem tT entry_tuple_getitem ?_ (args_tuple_getitem _ _)))
  show wpAny _ _ (Builtin.Tuple.tupleItemsOf (.ref t) >>= _) _ _ s
  refine wpAny_bind (tupleItemsOf_ ht ?_)
  refine wpAny_bind (wpAny_typeOf tS ?_)
  rw [if_pos (by decide)]
  refine wpAny_bind (applied_back hs pv ?_)
  have no : ¬ ((((its.size : Int) - 1) == 0 && (-1 : Int) == 1 && its.size == its.size) = true) := by
    intro q
    rw [Bool.and_eq_true, Bool.and_eq_true] at q
    exact absurd q.1.2 (by decide)
  show wpAny _ _ (if (((its.size : Int) - 1) == 0 && (-1 : Int) == 1 && its.size == its.size) = true then _ else _) _ _ s
  rw [if_neg no, back_pick]
  first
    | exact wpAny_bind (m := Builtin.Tuple.tupleExact _) (wpAny_newObj_type (wpAny_pure ⟨_, rfl, wpAny_pure h⟩) ok)
    | exact wpAny_bind (m := Builtin.Tuple.tupleExact _) (wpAny_newObj_type (wpAny_bind (wpAny_pure (wpAny_pure ⟨_, rfl, wpAny_pure h⟩))) ok)
    | exact wpAny_bind (wpAny_bind (m := Builtin.Tuple.tupleExact _) (wpAny_newObj_type (wpAny_pure (wpAny_pure ⟨_, rfl, wpAny_pure h⟩)) ok))
    | exact wpAny_bind (wpAny_bind (m := Builtin.Tuple.tupleExact _) (wpAny_newObj_type (wpAny_pure ⟨_, rfl, wpAny_pure h⟩) ok))
end
section
variable {X : Cx}
def tRevT (K : PySem.W.Frag) (te : TE) : TE := fun σ H Q => te σ H fun x H1 => ∃ a xs, x = .ref a ∧ SqT K H1 a xs ∧ ∀ p, H1 p = none → Q (.ref p) (upd H1 p (.tup xs.reverse))
theorem pe_revT {e : Expr} {te : TE} {k : Nat} {p1 p2 p3 pos : Pos} (he : PE X e te) : PE X (.Subscript e (.Slice none none (some (.UnaryOp .USub (.Constant (.int 1) k p1) p2)) p3) pos) (tRevT X.K te) := by
  refine ⟨fun pins s σ H Q I h => Subscript_ (thn (he.run pins s σ H _ I h) fun v s1 ⟨x, H1, I1, r1, a, xs, ex, hx, q⟩ => ?_)⟩
  subst ex
  cases r1
  have part : PO X (some (.UnaryOp .USub (.Constant (.int 1) k p1) p2)) (tPart (tUn (rU fun i => .int (-i)) (tC (.int 1)))) := po_some (pe_un un_neg pe_int)
  refine wpAny_Slice (thn (po_none.run pins s1 σ H1 (fun o H2 => o = none ∧ H2 = H1) I1 ⟨rfl, rfl⟩) fun vl s2 ⟨l, H2, I2, pl, el, e2⟩ => ?_)
  subst el e2
  refine thn (po_none.run pins s2 σ H2 (fun o H3 => o = none ∧ H3 = H2) I2 ⟨rfl, rfl⟩) fun vu s3 ⟨u, H3, I3, pu, eu, e3⟩ => ?_
  subst eu e3
  refine thn (part.run pins s3 σ H3 (fun o H4 => o = some (-1) ∧ H4 = H3) I3 ⟨1, rfl, -1, rfl, rfl, rfl⟩) fun vs s4 ⟨o, H4, I4, pv, eo, e4⟩ => ?_
  subst eo e4
  cases pl
  cases pu
  have I5 : Inv X pins σ H4 { s4 with heap := s4.heap.push { cls := .type "slice", data := .fields #[.none, .none, vs] } } := I4.kept (t' := s4.toks) fun b ob q => Heap.get?_push_of_some _ q
  obtain ⟨its, r, ht, hz⟩ := I5.tuple hx
  have hlen := r.length
  refine tail_any (ops := [.ref a, .ref s4.heap.objs.size]) ht.typeIs (PyProof.Rows.slot_tuple_getitem.lookup) ?_ (by with_unfolding_all rfl)
  refine get_back ht (Heap.IsSliceOf.new _ .none .none vs) pv ?_ (by rw [List.size_toArray]; omega)
  refine ⟨.ref _, _, I5.laid (t' := s4.toks) (o := .tup xs.reverse) (fun b ob q => Heap.get?_push_of_some _ q) (Nat.le_refl _) ?_, rfl, q _ (I5.hok.fresh (Nat.le_refl _))⟩
  exact ⟨by rw [List.length_reverse]; exact hz, _, r.reverse, IsTup.new _ _⟩
end
end Ck

namespace Ck
open PySem PySem.Spec PyProof.Rows L2 Evl
def Kd (d : Addr) (H H' : Hp) : Prop := Kp d H H' ∧ Dice H' d
theorem Kd.refl {d : Addr} {H : Hp} (h : Dice H d) : Kd d H H := ⟨Kp.refl d H, h⟩
theorem Kd.trans {d : Addr} {H H1 H2 : Hp} (a : Kd d H H1) (b : Kd d H1 H2) : Kd d H H2 := ⟨a.1.trans b.1, b.2⟩
theorem Dice.ex {d : Addr} {H H' : Hp} (h : Dice H d) (e : Ex H H') : Dice H' d := by
  obtain ⟨a, b, c, x⟩ := h
  exact ⟨a, b, c, e _ _ x⟩
theorem Kd.ex {d : Addr} {H H' : Hp} (h : Dice H d) (e : Ex H H') : Kd d H H' := ⟨fun b o _ x => e b o x, h.ex e⟩
theorem Kd.but {d : Addr} {H H' : Hp} (h : Dice H' d) (k : But d H H') : Kd d H H' := ⟨k.kp, h⟩
theorem Kd.to {d : Addr} {H H1 H2 : Hp} (a : Kd d H H1) (e : Ex H1 H2) : Kd d H H2 := a.trans (Kd.ex a.2 e)
section
variable {K : PySem.W.Frag} {H H' : Hp} {d : Addr}
end
section
variable {K : PySem.W.Frag} {d p : Addr} {σ : L2.St} {H : Hp} {ta tb te : TE} {tl th : TO} {n m : Nat} {xs ys : List V} {lo hi : Option Int}
theorem cutV_all (xs : List V) {lo hi : Option Int} (h : HT.sIx xs.length 0 lo = 0 ∧ HT.sIx xs.length xs.length hi = xs.length) : cutV xs lo hi = xs := by
  unfold cutV
  rw [h.1, h.2]
  exact List.take_of_length_le (Nat.le_refl _)
end
section
variable {K : PySem.W.Frag} {σ : L2.St} {H : Hp} {D : Ends} {z : TS} {te tl : TE} {d : PyData} {ds : List PyData} {xs : List V}
abbrev rTupS (K : PySem.W.Frag) : List V → Hp → VK → Prop := fun xs H Q => ∃ p ys, xs = [.ref p] ∧ ((SqL K H p ys ∧ ∀ l, H l = none → Q (.ref l) (upd H l (.tup ys))) ∨ (SqT K H p ys ∧ Q (.ref p) H))
theorem eu_tupleL (h : EvL tl σ H xs) : EvU (tCB (rTupS K) (tCons tl tNil)) σ H xs := fun H1 e Q q =>
  h H1 e _ fun p H2 _ e2 hp => ⟨p, xs, rfl, .inl ⟨SqL.of hp, fun l hl => q l _ (fresh_back e2 hl) (e2.trans (Ex.new hl)) upd_same⟩⟩
theorem dpa_ints {H : Hp} : ∀ ns : List Int, DpAll K H (ns.map V.int) (ns.map PyData.int) := dpa_map fun i => .int i
end
end Ck

namespace Ck
open PySem PySem.Spec PyProof.Rows L2
theorem eu_tup_of {K : PySem.W.Frag} {te : TE} {σ : L2.St} {H : Hp} {p : Addr} {xs : List V} (h : Evl.Ev te σ H (.ref p)) (hp : SqL K H p xs) : Evl.EvU (tCB (rTupS K) (tCons te tNil)) σ H xs := fun H1 e Q q =>
  h H1 e _ fun H2 e2 => ⟨p, xs, rfl, .inl ⟨Evl.ex_l (e.trans e2) hp, fun l hl => q l _ (Evl.fresh_back e2 hl) (e2.trans (Evl.Ex.new hl)) upd_same⟩⟩
def Ek (d : Addr) (Pr : V → Prop) (te : TE) (σ : L2.St) (H : Hp) : Prop := ∀ H1, Kd d H H1 → ∀ Q : VK, (∀ v H2, Kd d H1 H2 → Pr v → Q v H2) → te σ H1 Q
theorem sq_asgK {d : Addr} {Pr : V → Prop} {te : TE} {σ : L2.St} {H : Hp} {D : Ends} {z : TS} {i : Nat} (hd : Dice H d) (h : Ek d Pr te σ H) (k : ∀ v H1, Kd d H H1 → Pr v → z D (σ.set i (some v)) H1) : tSeq (tAsg te (gName i)) z D σ H := h H (Kd.refl hd) (fun x H1 => gName i x σ H1 (z D)) k
end Ck

namespace Ck
open PySem PySem.Spec PyProof.Rows L2
section
variable {X : Cx} {a b c d : Expr} {ta tb tc td : TE} {pos : Pos}
end
section
variable {σ : L2.St} {H : Hp} {ta tb tc td : TE} {a b c d : Int}
end
section
variable {σ : L2.St} {H : Hp} {D : Ends} {body : TS} {a : Addr}
theorem turnsE {m : Nat} {n : Int} {d : Addr} {H0 : Hp} (hn : 0 ≤ n ∧ n ≤ 100) (hi : Inn a d (m + 1) H0 σ H)
    (step : ∀ (t s : Option V) (r : L2.St) (H1 : Hp), r.length = m → Same H0 H1 → Dice H1 d → body { D with nx := Inn a d (m + 1) H0, ct := Inn a d (m + 1) H0, bk := D.nx } (some (.ref a) :: s :: some (.ref d) :: t :: r) H1)
    (done : ∀ (s : Option V) (r : L2.St) (H1 : Hp), r.length = m + 1 → Same H0 H1 → Dice H1 d → D.nx (some (.ref a) :: s :: some (.ref d) :: r) H1) :
    tFor (iRng1 (tCons (tC (.int n)) tNil)) (gName 3) body D σ H := by
  refine ⟨n, rfl, by omega, by omega, ?_⟩
  refine for_range (fun _ => Inn a d (m + 1) H0) hi ?_ ?_
  · rintro i σ' H' _ ⟨⟨s, r, rfl, hr⟩, hs, hd⟩
    match r, hr with
    | x :: r, hr => exact step _ s r H' (Nat.succ.inj hr) hs hd
  · rintro σ' H' ⟨⟨s, r, rfl, hr⟩, hs, hd⟩
    exact done s r H' hr hs hd
end
section
variable {K : PySem.W.Frag} {σ : L2.St} {H : Hp} {te : TE} {xs : List V} {d : PyData} {z : V}
end
end Ck

namespace Ck
open PySem PySem.Spec PyProof.Rows L2
end Ck

namespace Ck
open PySem PySem.Spec PyProof.Rows L2 Evl RZ
section
variable {K : PySem.W.Frag} {H H' : Hp}
def Etu (K : PySem.W.Frag) (te : TE) (σ : L2.St) (H : Hp) (xs : List V) : Prop := ∀ H1, Ex H H1 → ∀ Q : VK, (∀ p H2, Ex H1 H2 → SqT K H2 p xs → Q (.ref p) H2) → te σ H1 Q
theorem etu_ev {te : TE} {σ : L2.St} {p : Addr} {xs : List V} (h : Ev te σ H (.ref p)) (hp : SqT K H p xs) : Etu K te σ H xs := fun H1 e Q q => h H1 e _ fun H2 e2 => q p H2 e2 (ex_t (e.trans e2) hp)
end
section
variable {K : PySem.W.Frag} {H H' : Hp} {l : Addr}
theorem ev_sum {tl : TE} {σ : L2.St} {ns : List Int} (h : Evl.EvL tl σ H (ns.map V.int)) : Evl.Ev (tCB (rSum K) (tCons tl tNil)) σ H (.int ns.sum) := fun H1 e Q q => h H1 e _ fun p H2 _ e2 hp => ⟨p, ns, rfl, SqL.of hp, q H2 e2⟩
end
theorem mul200 {a b : Int} (ha : a.natAbs < 10 ^ 200) (hb : b.natAbs < 10 ^ 200) : CMulW a b := wide_mul (a := 800) (b := 800) (Nat.lt_trans ha (by decide +kernel)) (Nat.lt_trans hb (by decide +kernel)) (by decide) (by decide) (by decide)
end Ck

namespace Ck
open PySem PySem.Spec PyProof.Rows L2 Evl RZ
section
variable {K : PySem.W.Frag} {σ : L2.St} {H : Hp} {ta tb te : TE} {tl th : TO} {xs ys : List V} {lo hi : Option Int} {v : V}
theorem etu_sl (h : Etu K te σ H xs) (h1 : EvO tl σ H lo) (h2 : EvO th σ H hi) : Etu K (tSl (rSlA K) te tl th) σ H (cutV xs lo hi) := fun H1 e Q q => h H1 e _ fun p H2 e2 hp =>
  h1 H2 (e.trans e2) _ fun H3 e3 => h2 H3 ((e.trans e2).trans e3) _ fun H4 e4 => by
    have hp4 := ex_t (e3.trans e4) hp
    refine ⟨p, xs, rfl, hp4, fun w => ?_, fun _ b hb => q b _ ((e2.trans (e3.trans e4)).trans (Ex.new hb)) (SqT.of upd_same)⟩
    have z := q p H4 (e2.trans (e3.trans e4))
    rw [cutV_all xs w] at z
    exact z hp4
theorem etu_cat (ha : Etu K ta σ H xs) (hb : Etu K tb σ H ys) (hz : xs.length + ys.length ≤ 100000) : Etu K (tOp (rCatA K) ta tb) σ H (xs ++ ys) := fun H1 e Q q => ha H1 e _ fun a H2 e2 hx => hb H2 (e.trans e2) _ fun b H3 e3 hy => by
  have hx3 := ex_t e3 hx
  refine ⟨a, b, xs, ys, rfl, rfl, hx3, hy, sz_of hz, fun z => ?_, fun _ z => ?_, fun _ _ c hc => q c _ ((e2.trans e3).trans (Ex.new hc)) (SqT.of upd_same)⟩
  · subst z; exact q b H3 (e2.trans e3) hy
  · subst z; exact q a H3 (e2.trans e3) (by rw [List.append_nil]; exact hx3)
theorem etu_is (h : Etu K te σ H xs) (e : xs = ys) : Etu K te σ H ys := e ▸ h
theorem ed_etu {ns : List Int} (h : Etu K te σ H (ns.map V.int)) : Ed K te σ H (.tuple (ns.map PyData.int)) := fun H1 e Q q => h H1 e _ fun p H2 e2 hp => q (.ref p) H2 e2 (.tup hp (dpa_ints ns))
end
end Ck

namespace Ck
open PySem PySem.Spec PyProof.Rows L2
section
variable {P : Program} {w : World} {A : Around} {E : Value → Shared → Prop} {s : Shared}
theorem fill_tup {l : Addr} {items : Array Value} (ns : List Int) (hh : A.handled = none) (hl : s.heap.IsTuple l items) (hit : IntsAre items.toList ns) (hb : ns.length + 1 < scanBound) :
    codeAny (model P w) A (.call (.builtin "set.__init__") ⟨[.ref s.heap.objs.size, .ref l], []⟩)
      (wants (fun r s₂ => r = .none ∧ ∃ h' tk c, s₂ = { s with heap := h', toks := tk } ∧ Full w ns s h' c) E) (laidS w s) := by
  have sz : items.size = ns.length := (Array.length_toList (xs := items)).symm.trans (IntsAre.length hit)
  have at0 : (laidS w s).heap.get? s.heap.objs.size = some (emptyS w) := Heap.get?_push_size _ rfl
  have ty : (laidS w s).TypeIs (.ref s.heap.objs.size) "set" := ⟨emptyS w, at0, rfl⟩
  refine codeAny_call_builtin F.called_set.init.plain F.entry_set_init (check_set_init_1 ty ?_)
  obtain ⟨⟨k1, k2, k3, k4⟩, ho, e1, nl, e3⟩ := hl
  cases e1
  cases e3
  have ho' : (laidS w s).heap.get? l = some ⟨.type "tuple", k2, .seq items nl, k4⟩ := Heap.get?_push_of_some _ ho
  have isl : (laidS w s).heap.IsTuple l items := ⟨_, ho', rfl, nl, rfl⟩
  have q1 := PySem.F.sub_tuple_set
  have q2 := PySem.F.sub_tuple_frozenset
  have q3 : (Value.type "tuple" == Value.type "dict") = false := by decide
  unfold Builtin.«set.__init__» noKeywords Builtin.Frozenset.updateFrom
  generalize hp : pyIter = PI
  wp_walk
  subst hp
  refine wpAny_pyIter_tuple isl (wpAny_bind (wpAny_runValue ?_))
  have l0 : l < s.heap.objs.size := Heap.lt_size ho
  have n1 : (laidS w s).heap.objs.size = s.heap.objs.size + 1 := Heap.size_push ..
  have n2 : l ≠ (laidS w s).heap.objs.size := by rw [n1]; exact Nat.ne_of_lt (Nat.lt_succ_of_lt l0)
  have n3 : s.heap.objs.size ∉ [(laidS w s).heap.objs.size, l] := fun z => by
    rw [n1] at z
    rcases List.mem_cons.mp z with z | z
    · exact absurd z (Nat.ne_of_lt (Nat.lt_succ_self _))
    · exact absurd (List.mem_singleton.mp z) (Nat.ne_of_gt l0)
  have val : ∀ (i : Nat) (v : Value), items[i]? = some v → ∃ k t, ns[i]? = some k ∧ v = .int k t := by
    intro i v hv
    have hi : i < ns.length := sz ▸ (Array.getElem?_eq_some_iff.mp hv).1
    obtain ⟨t, e⟩ := IntsAre.int_at hit i v ((Array.getElem?_toList (xs := items)).trans hv)
    exact ⟨ns[i], t, List.getElem?_eq_getElem hi, by rw [e, List.getD_eq_getElem?_getD, List.getElem?_eq_getElem hi] <;> rfl⟩
  have W := (Walks.tuple (prog := P) (w := w) (show A.in1.in1.handled = none from hh) _ l n2 items).toS
  have start : (∃ c, c ≤ 0 ∧ SetR w ((laidS w s).heap.push { cls := .type "tuple_iterator", data := .fields #[.ref l, .int 0 0] }) s.heap.objs.size (fun j => decide (j ∈ ns.take 0)) c) :=
    ⟨0, Nat.le_refl 0, setR_new_at (Heap.get?_push_of_some _ at0)⟩
  refine set_update_ints W s.heap.objs.size n3 ns sz hb val _ 0 _ rfl (Nat.zero_le _) ?_ ?_ ?_
  · exact ⟨⟨_, Heap.get?_push_size _ rfl, rfl, rfl⟩, isl.push _⟩
  · exact start
  rintro ⟨h', g2, d2, tk, os2⟩ c mv hc hS
  obtain rfl : g2 = s.gens := mv.gens
  obtain rfl : d2 = s.drawn := mv.drawn
  obtain rfl : os2 = s.os := mv.os
  show wpAny _ _ _ _ _ _
  refine wpAny_pure ?_
  show wpAny _ _ (ret Value.none) _ _ _
  refine wpAny_pure ⟨rfl, h', tk, c, rfl, hS, sz ▸ hc, ?_⟩
  intro b o e
  have b0 : b < s.heap.objs.size := Heap.lt_size e
  refine mv.heap b o (fun z => ?_) (Heap.get?_push_of_some _ (Heap.get?_push_of_some _ e))
  rcases List.mem_cons.mp z with z | z
  · exact absurd z (Nat.ne_of_lt b0)
  · have z' := List.mem_singleton.mp z
    rw [n1] at z'
    exact absurd z' (Nat.ne_of_lt (Nat.lt_succ_of_lt b0))
theorem set_of_tup {l : Addr} {items : Array Value} (ns : List Int) {Q : Value → Shared → Prop} (hh : A.handled = none) (hl : s.heap.IsTuple l items) (hit : IntsAre items.toList ns) (hb : ns.length + 1 < scanBound)
    (h : ∀ (h' : Heap) (tk c : Nat), Full w ns s h' c → Q (.ref s.heap.objs.size) { s with heap := h', toks := tk }) :
    wpAny (model P w) A (call (.type "set") [.ref l]) Q E s := by
  obtain ⟨c0, t0, mro⟩ := F.called_set.mro
  have g1 := F.called_set.made
  have g2 := F.called_set.sub
  have g3 := F.called_set.notType
  have g4 := F.called_set.canCreate
  have g5 := F.typeCall_set_1 (.ref l)
  refine wpAny_call (codeAny_of_tree ?_)
  show wpAny _ _ (callAny (.type "set") _) _ _ _
  refine wpAny_pure ⟨Code.quiet_builtin _ (by decide +kernel), codeAny_builtin F.entry_type_call ?_⟩
  rw [Around.under_plain (weight_type_call_type "set" [.ref l] []) rfl]
  repeat (any_goals (first | assumption | wp_step))
  refine codeAny_mono (code_set_led1 (.ref l) (E := E) (Q₁ := fun obj s₁ => obj = .ref s.heap.objs.size ∧ s₁ = laidS w s) ⟨rfl, rfl⟩) ?_
  intro r s₁ hr
  match r, hr with
  | .error e, hr => exact hr
  | .ok .next, hr => exact hr.elim
  | .ok .brk, hr => exact hr.elim
  | .ok .cont, hr => exact hr.elim
  | .ok (.ret obj), hr =>
    obtain ⟨rfl, rfl⟩ := hr
    have ty : (laidS w s).TypeIs (.ref s.heap.objs.size) "set" := ⟨emptyS w, Heap.get?_push_size _ rfl, rfl⟩
    have g6 := F.called_set.init.lookup
    have g7 := F.called_set.init.bind (.ref s.heap.objs.size)
    repeat (any_goals (first | assumption | wp_step))
    refine codeAny_mono (fill_tup (E := E) ns (show A.in1.handled = none from hh) hl hit hb) ?_
    intro r₂ s₂ hr₂
    match r₂, hr₂ with
    | .error e, hr₂ => exact hr₂
    | .ok .next, hr₂ => exact hr₂.elim
    | .ok .brk, hr₂ => exact hr₂.elim
    | .ok .cont, hr₂ => exact hr₂.elim
    | .ok (.ret r), hr₂ =>
      obtain ⟨rfl, h', tk, c, rfl, full⟩ := hr₂
      repeat (any_goals (first | assumption | wp_step))
      exact h h' tk c full
end
section
variable {X : Cx}
def rSetT (K : PySem.W.Frag) (w : World) : List V → Hp → VK → Prop := fun xs H Q => ∃ (a : Addr) (ns : List Int), xs = [V.ref a] ∧ SqT K H a (ns.map V.int) ∧ ns.length < 60 ∧
  ∀ p c, H p = none → c ≤ ns.length → Q (.ref p) (upd H p (SetO w p (fun j => decide (j ∈ ns)) c))
theorem cr_setT (hc : X.calm = true) : CallR X (.type "set") (rSetT X.K X.w) := by
  intro pins s σ H xs us Q I r h
  obtain ⟨a, ns, rfl, hS, hl, q⟩ := h
  obtain ⟨u, rfl, ru⟩ := vals1 r
  cases (show u = Value.ref a from ru)
  obtain ⟨its, rv, pl, hz⟩ := I.tuple hS
  refine set_of_tup ns (I.ok.hd hc) pl (by simpa using rv.ints) (by unfold scanBound; omega) ?_
  rintro h' tk c ⟨hR, hcl, hk⟩
  exact ⟨.ref s.heap.objs.size, _, I.laid (t' := tk) hk (Nat.le_refl _) (setO_new hR), rfl, q _ c (I.hok.fresh (Nat.le_refl _)) hcl⟩
end
end Ck

namespace PySem
namespace CkX
open Builtin Builtin.ObjectAttr HandSPX
section
variable {prog : Program} {w : World} {A : Around} {E : Value → Shared → Prop} {R : Result → Shared → Prop} {hp : Heap} {g : Array GenState} {d : Drawn} {t : Nat} {os : OsState}
end
end CkX
end PySem
namespace Ck
open PySem PySem.Spec PyProof.Rows L2
section
variable {X : Cx} {pins : List (Addr × Obj)} {σ : L2.St} {H : Hp} {s : Shared} {a C : Addr} {f : Str} {y : V} {u : Value} {Q : Unit → Shared → Prop} {E : Value → Shared → Prop} {A : Around} {B newId sa ow : String} {T : List Value}
end
section
variable {X : Cx} {o e : Expr} {to te : TE} {f : Str} {p' pos : Pos} {B newId sa ow : String} {T : List Value}
end
section
variable {X : Cx} {e : Expr} {es : List Expr} {ta : TA} {p pos : Pos} {B newId initId : String} {T : List Value}
end
section
variable {P : Program} {w : World} {K : PySem.W.Frag} {mg : Str → Option Value} {base : Heap}
end
section
variable {X : Cx} {C : CXT} {k j : Nat} {x : Str} {f : Addr} {fd : FuncData} {ps : List Str} {sp : Sp} {E : L2.St → XK} {p pos : Pos} {e : Expr} {es : List Expr} {t : TA} {W : WX}
end
end Ck

namespace Ck
open PySem PySem.Spec PyProof.Rows L2
section
variable {X : Cx} {body : List Stmt} {h₀ : ExceptHandler} {hds : List ExceptHandler} {l : List Cl3} {pos : Pos} {tb : WX → TS} {Wo : WX}
end
end Ck

namespace Ck
open PySem PySem.Spec PyProof.Rows L2
section
variable {X : Cx} {x fld : Str} {B newId initId : String} {T : List Value} {C : Addr} {j : Nat} {e : Expr} {ta : TA} {p pos : Pos}
end
section
variable {P : Program} {w : World} {K : PySem.W.Frag} {mg : Str → Option Value} {base : Heap}
end
end Ck

namespace Ck
open PySem PySem.Spec PyProof.Rows L2
theorem sorted_one : ∀ {as bs : List Int}, as.Pairwise (· < ·) → bs.Pairwise (· < ·) → (∀ k, k ∈ as ↔ k ∈ bs) → as = bs
  | [], [], _, _, _ => rfl
  | [], b :: bs, _, _, h => nomatch (h b).mpr List.mem_cons_self
  | a :: as, [], _, _, h => nomatch (h a).mp List.mem_cons_self
  | a :: as, b :: bs, ha, hb, h => by
    obtain ⟨a1, a2⟩ := List.pairwise_cons.mp ha
    obtain ⟨b1, b2⟩ := List.pairwise_cons.mp hb
    have e : a = b := by
      rcases List.mem_cons.mp ((h a).mp List.mem_cons_self) with e | m1
      · exact e
      rcases List.mem_cons.mp ((h b).mpr List.mem_cons_self) with e | m2
      · exact e.symm
      have := b1 a m1
      have := a1 b m2
      omega
    subst e
    refine congrArg (a :: ·) (sorted_one a2 b2 fun k => ⟨fun hk => ?_, fun hk => ?_⟩)
    · rcases List.mem_cons.mp ((h k).mp (List.mem_cons_of_mem a hk)) with e | m
      · have := a1 k hk; omega
      · exact m
    · rcases List.mem_cons.mp ((h k).mpr (List.mem_cons_of_mem a hk)) with e | m
      · have := b1 k hk; omega
      · exact m
section
variable {K : PySem.W.Frag} {w : World} {σ : L2.St} {H : Hp} {te : TE} {ns us : List Int} {D : Ends} {z : TS} {i : Nat}
end
section
variable {K : PySem.W.Frag} {σ : L2.St} {H : Hp} {ta tb : TE} {t : TT} {d : PyData}
end
end Ck

namespace Ck
open PySem PySem.Spec PyProof.Rows L2 Evl
def insI (k : Int) : List Int → List Int
  | [] => [k]
  | a :: r => if k < a then k :: a :: r else if k = a then a :: r else a :: insI k r
def uni (ns : List Int) : List Int := ns.foldr insI []
theorem insI_mem {k j : Int} : ∀ {ns : List Int}, j ∈ insI k ns ↔ j = k ∨ j ∈ ns
  | [] => by unfold insI; simp
  | a :: r => by
    unfold insI
    split
    · exact List.mem_cons
    · split
      · next h => subst h; simp
      · rw [List.mem_cons, insI_mem, List.mem_cons]
        constructor <;> (intro h; rcases h with h | h | h <;> simp [h])
theorem insI_pw {k : Int} : ∀ {ns : List Int}, ns.Pairwise (· < ·) → (insI k ns).Pairwise (· < ·)
  | [], _ => by unfold insI; simp
  | a :: r, h => by
    obtain ⟨h1, h2⟩ := List.pairwise_cons.mp h
    unfold insI
    split
    · next l => exact List.pairwise_cons.mpr ⟨fun b hb => by
        rcases List.mem_cons.mp hb with rfl | hb
        · exact l
        · exact Int.lt_trans l (h1 b hb), h⟩
    · split
      · exact h
      · refine List.pairwise_cons.mpr ⟨fun b hb => ?_, insI_pw h2⟩
        rcases insI_mem.mp hb with rfl | hb
        · omega
        · exact h1 b hb
theorem uni_mem {k : Int} : ∀ {ns : List Int}, k ∈ uni ns ↔ k ∈ ns
  | [] => Iff.rfl
  | a :: r => by
    show k ∈ insI a (uni r) ↔ _
    rw [insI_mem, uni_mem, List.mem_cons]
theorem uni_pw : ∀ {ns : List Int}, (uni ns).Pairwise (· < ·)
  | [] => .nil
  | _ :: _ => insI_pw uni_pw
theorem uni_one {us ns : List Int} (h1 : us.Pairwise (· < ·)) (h2 : ∀ k, k ∈ us ↔ k ∈ ns) : uni ns = us := sorted_one uni_pw h1 fun k => uni_mem.trans (h2 k).symm
def Dv (a b : Int) : Prop := a < b ∧ b % a = 0
theorem asc_step {x y : Int} {r : List Int} (h : asc (x :: y :: r) = true) : x < y ∧ asc (y :: r) = true := by
  have h' : (decide (x < y) && asc (y :: r)) = true := h
  rw [Bool.and_eq_true] at h'
  exact ⟨of_decide_eq_true h'.1, h'.2⟩
theorem gap_step {x y : Int} {r : List Int} (h : gap (x :: y :: r) = none) : y % x = 0 ∧ gap (y :: r) = none := by
  have h' : ((x, y) :: adj (fun x y => (x, y)) (y :: r)).find? (fun p => !decide (p.2 % p.1 = 0)) = none := h
  rw [List.find?_cons] at h'
  cases z : decide (y % x = 0) with
  | true =>
    rw [z] at h'
    exact ⟨of_decide_eq_true z, h'⟩
  | false =>
    rw [z] at h'
    cases h'
theorem chain_pw : ∀ {ns : List Int}, asc ns = true → gap ns = none → (∀ n ∈ ns, 0 < n) → ns.Pairwise Dv
  | [], _, _, _ => .nil
  | [_], _, _, _ => List.pairwise_singleton _ _
  | x :: y :: r, h1, h2, h3 => by
    obtain ⟨a1, a2⟩ := asc_step h1
    obtain ⟨g1, g2⟩ := gap_step h2
    have ih := chain_pw a2 g2 fun n hn => h3 n (List.mem_cons_of_mem x hn)
    refine List.pairwise_cons.mpr ⟨fun b hb => ?_, ih⟩
    rcases List.mem_cons.mp hb with rfl | hb
    · exact ⟨a1, g1⟩
    · obtain ⟨l, d⟩ := (List.pairwise_cons.mp ih).1 b hb
      refine ⟨Int.lt_trans a1 l, Int.emod_eq_zero_of_dvd (Int.dvd_trans (Int.dvd_of_emod_eq_zero g1) (Int.dvd_of_emod_eq_zero d))⟩
theorem pw_gap : ∀ {ns : List Int}, ns.Pairwise Dv → gap ns = none
  | [], _ => rfl
  | [_], _ => rfl
  | x :: y :: r, h => by
    obtain ⟨h1, h2⟩ := List.pairwise_cons.mp h
    have d := (h1 y List.mem_cons_self).2
    show ((x, y) :: adj (fun x y => (x, y)) (y :: r)).find? (fun p => !decide (p.2 % p.1 = 0)) = none
    rw [List.find?_cons, decide_eq_true d]
    exact pw_gap h2
theorem pw_asc : ∀ {ns : List Int}, ns.Pairwise (· < ·) → asc ns = true
  | [], _ => rfl
  | [_], _ => rfl
  | x :: y :: r, h => by
    obtain ⟨h1, h2⟩ := List.pairwise_cons.mp h
    show (decide (x < y) && asc (y :: r)) = true
    rw [decide_eq_true (h1 y List.mem_cons_self), pw_asc h2]
    rfl
structure IsC (ns : List Int) : Prop where
  ne : ns ≠ []
  le : ns.length ≤ 12
  sz : ∀ n ∈ ns, 0 < n ∧ n.natAbs < 10 ^ 200
  pw : ns.Pairwise Dv
section
variable {K : PySem.W.Frag} {w : World} {σ : L2.St} {H : Hp} {ta tb te tl : TE} {tr : TA} {t : TT} {D : Ends} {body z : TS} {ns us : List Int} {xs : List V} {Pr : V → Hp → Prop} {S : L2.St → Prop} {n j : Nat}
theorem etu_of (h : Evl.EvU te σ H xs) : Etu K te σ H xs := fun H1 e Q q => h H1 e _ fun p H2 _ e2 hp => q p H2 e2 (SqT.of hp)
end
end Ck

namespace PySem
namespace CkM
open PySem PyProof.Rows
abbrev lsO (xs : Array Value) (c : Nat) : Obj := { cls := .type "list", dict := none, data := .seq xs c, slots := #[] }
def KeepX (wr : List Addr) (S : Addr) (h h' : Heap) : Prop := ∀ b o, b ∉ wr → b ≠ S → h.get? b = some o → h'.get? b = some o
section
variable {prog : Program} {w : World} {A : Around} {R : Result → Shared → Prop} {I : Addr} {fp wr : List Addr} {n : Nat} {P : Nat → Value → Prop} {St : Nat → Heap → Prop} -- own
theorem max_again {d : Value} (W : Walks prog w A.in1 I fp wr n P St) (bt : Nat → Nat → Bool) (hcmp : CmpOf prog w A.in1 .Gt P bt) (S : Addr) (hSf : S ∉ fp) : -- own
    ∀ (k j : Nat) (s : Shared) (vb : Value) (c : Nat), k + (j + 1) = n → St (j + 1) s.heap → P (argBest bt j) vb → s.heap.get? S = some (lsO #[vb, vb] c) → -- own
    (∀ v h' tk, P (argBest bt (n - 1)) v → KeepX wr S s.heap h' → R (.ok (.ret v)) ⟨h', s.gens, s.drawn, tk, s.os⟩) → codeAny (model prog w) A (.builtin "max.loop" ⟨[.ref I, .none, .ref S], [(Str.ofString "default", d)]⟩) R s := by -- own
  have hSw : S ∉ wr := fun h => hSf (W.sub _ h) -- own
  have nm : (toString "max" ++ toString ".loop" : String) = "max.loop" := by decide -- own
  intro k -- own
  induction k with
  | zero =>
    intro j s vb c hk hst hPb hS hR -- own
    have hin : j + 1 = n := by omega -- own
    refine codeAny_builtin PySem.F.entry_max_loop ?_ -- own
    rw [Around.under_plainId PySem.F.plain_max_loop _] -- own
    show wpAny _ A.in1 (seqItems? (.ref S) >>= _) _ _ s -- own
    refine wpAny_bind (wpAny_seqItems hS rfl ?_) -- own
    show wpAny _ A.in1 (tryCatch (pyNext (.ref I)) _ >>= _) _ _ s -- own
    refine wpAny_bind (wpAny_tryCatch (W.done s _ _ (hin ▸ hst) fun h' tk kp => ?_)) -- own
    have hS' := kp S _ hSw hS -- own
    show wpAny _ A.in1 (updateSeq S (fun _ => #[]) >>= _) _ _ _ -- own
    refine wpAny_bind (wpAny_updateSeq hS' rfl (wpAny_bind (wpAny_letGo (wpAny_pure ?_)))) -- own
    exact hR vb _ tk (by rw [← hin]; exact hPb) fun b o b1 b2 e => (Heap.get?_update_other _ _ (Ne.symm b2)).trans (kp b o b1 e) -- own
  | succ k ih =>
    intro j s vb c hk hst hPb hS hR -- own
    have hlt : j + 1 < n := by omega -- own
    refine codeAny_builtin PySem.F.entry_max_loop ?_ -- own
    rw [Around.under_plainId PySem.F.plain_max_loop _] -- own
    show wpAny _ A.in1 (seqItems? (.ref S) >>= _) _ _ s -- own
    refine wpAny_bind (wpAny_seqItems hS rfl ?_) -- own
    show wpAny _ A.in1 (tryCatch (pyNext (.ref I)) _ >>= _) _ _ s -- own
    refine wpAny_bind (wpAny_tryCatch (W.item (j + 1) s _ _ hlt hst fun v h' tk hP hst' kp => ?_)) -- own
    have hS' := kp S _ hSw hS -- own
    show wpAny _ A.in1 (tryCatch (holding [v, v] (richCompare .Gt v vb >>= _)) _ >>= _) _ _ _ -- own
    refine wpAny_bind (wpAny_tryCatch (wpAny_holding (wpAny_bind (hcmp (j + 1) (argBest bt j) v vb _ _ _ hP hPb (wpAny_bind (wpAny_holding (wpAny_truthy_bool (wpAny_bind (wpAny_letGo (wpAny_pure ?_)))))))))) -- own
    cases hb : bt (j + 1) (argBest bt j) with
    | true =>
      simp only [if_true] -- own
      refine wpAny_bind (wpAny_updateSeq hS' rfl (wpAny_bind (wpAny_letGo ?_))) -- own
      rw [nm] -- own
      refine wpAny_pure ⟨plainId_quiet PySem.F.plain_max_loop _, ih (j + 1) _ v _ (by omega) (W.frame _ _ _ hst' fun b hbf o e => (Heap.get?_update_other _ _ (fun h : S = b => hSf (by rw [h]; exact hbf))).trans e) (by simp only [argBest, hb, if_true]; exact hP) (Heap.get?_update_self _ hS' rfl) fun v' h2 t2 hP2 kp2 => ?_⟩ -- own
      exact hR v' h2 t2 hP2 fun b o b1 b2 e => kp2 b o b1 b2 ((Heap.get?_update_other _ _ (Ne.symm b2)).trans (kp b o b1 e)) -- own
    | false =>
      simp only [Bool.false_eq_true, if_false] -- own
      refine wpAny_bind (wpAny_letGo ?_) -- own
      rw [nm] -- own
      refine wpAny_pure ⟨plainId_quiet PySem.F.plain_max_loop _, ih (j + 1) _ vb c (by omega) hst' (by simp only [argBest, hb, Bool.false_eq_true, if_false]; exact hPb) hS' fun v' h2 t2 hP2 kp2 => ?_⟩ -- own
      exact hR v' h2 t2 hP2 fun b o b1 b2 e => kp2 b o b1 b2 (kp b o b1 e) -- own
theorem max_begin {d : Value} (W : Walks prog w A.in1 I fp wr n P St) (bt : Nat → Nat → Bool) (hcmp : CmpOf prog w A.in1 .Gt P bt) (S : Addr) (hSf : S ∉ fp) {s : Shared} {c : Nat} (hst : St 0 s.heap) (hS : s.heap.get? S = some (lsO #[] c)) -- own
    (h0 : n = 0 → ∀ h' tk, KeepX wr S s.heap h' → R (.ok (.ret d)) ⟨h', s.gens, s.drawn, tk, s.os⟩) -- own
    (hR : 0 < n → ∀ v h' tk, P (argBest bt (n - 1)) v → KeepX wr S s.heap h' → R (.ok (.ret v)) ⟨h', s.gens, s.drawn, tk, s.os⟩) : codeAny (model prog w) A (.builtin "max.loop" ⟨[.ref I, .none, .ref S], [(Str.ofString "default", d)]⟩) R s := by -- own
  have hSw : S ∉ wr := fun h => hSf (W.sub _ h) -- own
  have nm : (toString "max" ++ toString ".loop" : String) = "max.loop" := by decide -- own
  refine codeAny_builtin PySem.F.entry_max_loop ?_ -- own
  rw [Around.under_plainId PySem.F.plain_max_loop _] -- own
  show wpAny _ A.in1 (seqItems? (.ref S) >>= _) _ _ s -- own
  refine wpAny_bind (wpAny_seqItems hS rfl ?_) -- own
  show wpAny _ A.in1 (tryCatch (pyNext (.ref I)) _ >>= _) _ _ s -- own
  by_cases hn : 0 < n
  · refine wpAny_bind (wpAny_tryCatch (W.item 0 s _ _ hn hst fun v h' tk hP hst' kp => ?_)) -- own
    have hS' := kp S _ hSw hS -- own
    show wpAny _ A.in1 (updateSeq S (fun _ => #[v, v]) >>= _) _ _ _ -- own
    refine wpAny_bind (wpAny_updateSeq hS' rfl ?_) -- own
    rw [nm] -- own
    refine wpAny_pure ⟨plainId_quiet PySem.F.plain_max_loop _, max_again W bt hcmp S hSf (n - 1) 0 _ v _ (by omega) (W.frame _ _ _ hst' fun b hbf o e => (Heap.get?_update_other _ _ (fun h : S = b => hSf (by rw [h]; exact hbf))).trans e) hP (Heap.get?_update_self _ hS' rfl) fun v' h2 t2 hP2 kp2 => ?_⟩ -- own
    exact hR hn v' h2 t2 hP2 fun b o b1 b2 e => kp2 b o b1 b2 ((Heap.get?_update_other _ _ (Ne.symm b2)).trans (kp b o b1 e)) -- own
  · have z : n = 0 := by omega -- own
    refine wpAny_bind (wpAny_tryCatch (W.done s _ _ (z ▸ hst) fun h' tk kp => ?_)) -- own
    show wpAny _ A.in1 (rule _ >>= _) _ _ _ -- own
    exact wpAny_bind (wpAny_rule (wpAny_pure (h0 z h' tk fun b o b1 _ e => kp b o b1 e))) -- own
end
section
variable {prog : Program} {w : World} {A : Around} {E : Value → Shared → Prop} {s : Shared} -- own
theorem call_treeK {id : String} {b : Builtin} {args : List Value} {kw : List (Str × Value)} {Q : Value → Shared → Prop} (hk : builtinKind id = none) (hp : plainId id = true) (hb : entryFor table id = some b) (ha : argsOk id ⟨args, kw⟩) -- own
    (hc : wpAny (model prog w) A.in1 (b ⟨args, kw⟩) (fun fin s' => match fin with
      | .done f => (match (Except.ok f : Result) with | .ok (.ret v) => Q v s' | .ok _ => False | .error e => E e s') -- own
      | .again c' => c'.quiet = true ∧ codeAny (model prog w) A c' (fun r s' => match r with | .ok (.ret v) => Q v s' | .ok _ => False | .error e => E e s') s') E s) : wpAny (model prog w) A (call (.builtin id) args kw) Q E s := by -- own
  refine wpAny_call (codeAny_call_builtin hp hb ?_) -- own
  simp only [checkBuiltinCall, hk] -- own
  cases hsig : Manifest.signature? id with
  | none => exact wpAny_pure hc -- own
  | some sig =>
    have ha' : Bind.checkArgs id sig ⟨args, kw⟩ = pure () := by simpa only [argsOk, hsig] using ha -- own
    simp only [ha'] -- own
    exact wpAny_pure hc -- own
theorem args_maxK (a d : Value) : argsOk "max" ⟨[a], [(Str.ofString "default", d)]⟩ := by unfold argsOk; kernel_rfl -- own
theorem max_call {x d : Value} {Q : Value → Shared → Prop} -- own
    (h : wpAny (model prog w) A.in1 (pyIter x) (fun it s₂ => ∃ I fp wr n P St bt, it = .ref I ∧ Walks prog w A.in1 I fp wr n P St ∧ St 0 s₂.heap ∧ (∀ b ∈ fp, b < s₂.heap.objs.size) ∧ CmpOf prog w A.in1 .Gt P bt ∧ -- own
      (n = 0 → ∀ h' tk, (∀ b o, b ∉ wr → s₂.heap.get? b = some o → h'.get? b = some o) → Q d ⟨h', s₂.gens, s₂.drawn, tk, s₂.os⟩) ∧ -- own
      (0 < n → ∀ v h' tk, P (argBest bt (n - 1)) v → (∀ b o, b ∉ wr → s₂.heap.get? b = some o → h'.get? b = some o) → Q v ⟨h', s₂.gens, s₂.drawn, tk, s₂.os⟩)) E s) : -- own
    wpAny (model prog w) A (call (.builtin "max") [x] [(Str.ofString "default", d)]) Q E s := by -- own
  have nm : (toString "max" ++ toString ".loop" : String) = "max.loop" := by decide -- own
  refine call_treeK PySem.F.kind_max PySem.F.plain_max PySem.F.entry_max (args_maxK _ _) ?_ -- own
  show wpAny _ A.in1 (Builtin.Builtins.bindParams "max" ["key", "default"] 0 ⟨[], [(Str.ofString "default", d)]⟩ >>= _) _ _ s -- own
  refine wpAny_bind (wpAny_of_eq (show Builtin.Builtins.bindParams "max" ["key", "default"] 0 ⟨[], [(Str.ofString "default", d)]⟩ = pure [none, some d] from rfl) ?_) -- own
  refine wpAny_bind (wpAny_pure (wpAny_bind (wpAny_mono h (fun it s₂ h₂ => ?_) fun _ _ e => e))) -- own
  obtain ⟨I, fp, wr, n, P, St, bt, rfl, W, hst, hfp, hcmp, q0, q1⟩ := h₂ -- own
  refine wpAny_bind (wpAny_newObj_type ?_) -- own
  have hSf : s₂.heap.objs.size ∉ fp := fun hm => Nat.lt_irrefl _ (hfp _ hm) -- own
  rw [nm] -- own
  refine wpAny_pure ⟨plainId_quiet PySem.F.plain_max_loop _, max_begin W bt hcmp s₂.heap.objs.size hSf (W.frame _ _ _ hst fun b _ o e => Heap.get?_push_of_some _ e) (Heap.get?_push_size _ rfl) (fun z h' tk kp => ?_) (fun z v h' tk hP kp => ?_)⟩ -- own
  · exact q0 z h' tk fun b o b1 e => kp b o b1 (Nat.ne_of_lt (Heap.lt_size e)) (Heap.get?_push_of_some _ e) -- own
  · exact q1 z v h' tk hP fun b o b1 e => kp b o b1 (Nat.ne_of_lt (Heap.lt_size e)) (Heap.get?_push_of_some _ e) -- own
theorem max_ints {l : Addr} {xs : Array (Int × Tok)} {d : Value} {Q : Value → Shared → Prop} (hh : A.handled = none) (hl : s.heap.IsList l (intItems xs)) -- own
    (h0 : xs.size = 0 → ∀ h' tk, (∀ b o, s.heap.get? b = some o → h'.get? b = some o) → Q d ⟨h', s.gens, s.drawn, tk, s.os⟩) -- own
    (h : 0 < xs.size → ∀ v h' tk, (intItems xs)[argBest (fun i j => decide (numAt xs i > numAt xs j)) (xs.size - 1)]? = some v → (∀ b o, s.heap.get? b = some o → h'.get? b = some o) → Q v ⟨h', s.gens, s.drawn, tk, s.os⟩) : -- own
    wpAny (model prog w) A (call (.builtin "max") [.ref l] [(Str.ofString "default", d)]) Q E s := by -- own
  refine max_call (iter_intList hl fun s₂ e st hfp hlI => ?_) -- own
  subst e
  have ez : (intItems xs).size = xs.size := by simp [intItems] -- own
  refine ⟨_, _, _, _, _, _, _, rfl, Walks.list (A := A.in1) hh _ l hlI (intItems xs), st, hfp, CmpOf.ints_gt (numAt xs) (fun _ _ => intItems_at), fun z h' tk kp => ?_, fun z v h' tk hP kp => ?_⟩ -- own
  · exact h0 (by rw [← ez]; exact z) h' tk (old_kept kp) -- own
  · exact h (by rw [← ez]; exact z) v h' tk (by rw [← ez]; exact hP) (old_kept kp) -- own
end
end CkM
end PySem
namespace Ck
open PySem PySem.Spec PyProof.Rows L2
section
variable {X : Cx}
def rMaxD (K : PySem.W.Frag) : List V → List V → Hp → VK → Prop := fun vs zs H Q => ∃ (a : Addr) (ns : List Int) (d : V), vs = [V.ref a] ∧ zs = [d] ∧ SqL K H a (ns.map V.int) ∧ (ns = [] → Q d H) ∧ ∀ m, m ∈ ns → (∀ y, y ∈ ns → y ≤ m) → Q (.int m) H
theorem cr_maxD (hc : X.calm = true) : CallRK X (.builtin "max") [Str.ofString "default"] (rMaxD X.K) := by
  intro pins s σ H vs zs us ws Q I r rz h
  obtain ⟨a, ns, d, rfl, rfl, hs, q0, q⟩ := h
  obtain ⟨its, rv, hl, _⟩ := I.list hs
  obtain ⟨w1, rfl, e1⟩ := vals1 rz
  rw [Vals.ref1 r]
  have hi := rv.ints
  obtain ⟨xs, e⟩ := hi.allInts.items
  have hn : numsOf (intItems xs).toList = ns := by rw [← e]; exact hi.numsOf
  rw [nums_intItems] at hn
  subst hn
  have hl' := hl.isList
  rw [e] at hl'
  refine PySem.CkM.max_ints (I.ok.hd hc) hl' (fun z h' tk hk => ?_) (fun z v h' tk hv hk => ?_)
  · exact ⟨d, H, I.kept hk, e1, q0 (by rw [List.map_eq_nil_iff]; exact List.eq_nil_of_length_eq_zero (by rw [Array.length_toList]; exact z))⟩
  · obtain ⟨t, rfl⟩ := intItems_at hv
    obtain ⟨h1, h2⟩ := argBest_gt (numAt xs) (xs.size - 1)
    refine ⟨.int _, H, I.kept hk, ⟨_, rfl⟩, q _ ?_ fun a ha => ?_⟩
    · rw [numAt_eq]; exact PySem.getD_mem (by rw [List.length_map, Array.length_toList]; omega)
    · obtain ⟨j, hj, rfl⟩ := mem_getD ha
      rw [List.length_map, Array.length_toList] at hj
      rw [← numAt_eq]; exact h2 j (by omega)
end
end Ck

namespace Ck
open PySem PySem.Spec PyProof.Rows L2 Evl
inductive F2 {α : Type} (R : V → α → Prop) : List V → List α → Prop
  | nil : F2 R [] []
  | cons {x : V} {a : α} {xs : List V} {as : List α} (h : R x a) (t : F2 R xs as) : F2 R (x :: xs) (a :: as)
theorem F2.imp {α : Type} {R S : V → α → Prop} (h : ∀ x a, R x a → S x a) : ∀ {xs : List V} {as : List α}, F2 R xs as → F2 S xs as
  | _, _, .nil => .nil
  | _, _, .cons a t => .cons (h _ _ a) (F2.imp h t)
theorem F2.app {α : Type} {R : V → α → Prop} : ∀ {xs ys : List V} {as bs : List α}, F2 R xs as → F2 R ys bs → F2 R (xs ++ ys) (as ++ bs)
  | _, _, _, _, .nil, h => h
  | _, _, _, _, .cons a t, h => .cons a (F2.app t h)
theorem F2.len {α : Type} {R : V → α → Prop} : ∀ {xs : List V} {as : List α}, F2 R xs as → xs.length = as.length
  | _, _, .nil => rfl
  | _, _, .cons _ t => congrArg (· + 1) (F2.len t)
theorem F2.at {α : Type} {R : V → α → Prop} : ∀ {xs : List V} {as : List α}, F2 R xs as → ∀ {i : Nat} {x : V}, xs[i]? = some x → ∃ a, as[i]? = some a ∧ R x a
  | _, _, .nil, i, x, h => by simp at h
  | _, _, .cons a t, 0, x, h => by
    obtain rfl := Option.some.inj h
    exact ⟨_, rfl, a⟩
  | _, _, .cons a t, i + 1, x, h => F2.at t (i := i) h
section
variable {K : PySem.W.Frag} {H H' : Hp}
theorem sqT_updL {t l : Addr} {xs ys : List V} {o : HO} (h : SqT K H t xs) (hl : H l = some (.lst ys)) : SqT K (upd H l o) t xs := by
  by_cases e : t = l
  · subst e
    rcases h with (z | ⟨o', z⟩) | z
    · rw [hl] at z; cases z
    · rw [hl] at z; cases z
    · exact .inr z
  · rcases h with (z | ⟨o', z⟩) | z
    · exact .inl (.inl (by rw [upd_ne e]; exact z))
    · exact .inl (.inr ⟨o', by rw [upd_ne e]; exact z⟩)
    · exact .inr z
end
section
variable {K : PySem.W.Frag} {σ : L2.St} {H : Hp} {tl te : TE} {tt : TT} {a : Addr} {ns : List Int} {j : Nat} {ws : List Nat} {α : Type} {R : Hp → V → α → Prop} {c : Int → Bool} {e : Int → α}
def EvR (R : Hp → V → α → Prop) (te : TE) (σ : L2.St) (H : Hp) (x : α) : Prop := ∀ H1, Ex H H1 → ∀ Q : VK, (∀ v H2, Ex H1 H2 → R H2 v x → Q v H2) → te σ H1 Q
theorem lc_tupF (L : ∀ H H' x b, Ex H H' → R H x b → R H' x b) (LU : ∀ H l xs ys x b, H l = some (.lst xs) → R H x b → R (upd H l (.lst ys)) x b) (h : Ev tl σ H (.ref a)) (hx : SqT K H a (ns.map V.int)) (hz : ns.length ≤ 40000) (hw : ∀ x, wipe ((wipe σ ws).set j (some x)) ws = wipe σ ws)
    (ht : ∀ n ∈ ns, ∀ H1, Ex H H1 → EvT tt ((wipe σ ws).set j (some (.int n))) H1 (c n)) (he : ∀ n ∈ ns, c n = true → ∀ H1, Ex H H1 → EvR R te ((wipe σ ws).set j (some (.int n))) H1 (e n)) :
    ∀ H1, Ex H H1 → ∀ Q : VK, (∀ D vs H2, H1 D = none → Ex H1 H2 → H2 D = some (.lst vs) → F2 (R H2) vs ((ns.filter c).map e) → Q (.ref D) H2) → tLc (iTup K tl) (gName j) tt te ws σ H1 Q := fun H0 e0 Q q => h H0 e0 _ fun H1 e1 => ⟨a, rfl, ⟨_, ex_t (e0.trans e1) hx⟩, fun D hD => by
  refine lc_it walk_tup (fun i H' => H1 D = none ∧ Ex H1 H' ∧ ∃ vs, H' D = some (.lst vs) ∧ vs.length ≤ i ∧ F2 (R H') vs (((ns.take i).filter c).map e)) ⟨hD, Ex.new hD, [], upd_same, Nat.le_refl _, .nil⟩ (fun i H' _ p => ex_t ((e0.trans e1).trans p.2.1) hx) ?_ ?_
  · rintro i x H2 H3 hi ⟨p1, p2, vs, p3, p4, p5⟩ ⟨e3, hxi⟩
    rw [e3]
    rw [List.length_map] at hi
    rw [List.getElem?_map, List.getElem?_eq_getElem hi] at hxi
    obtain rfl := Option.some.inj hxi
    have m := List.getElem_mem hi
    have e02 := (e0.trans e1).trans p2
    refine ⟨hw _, ht _ m H2 e02 H2 (Ex.refl H2) _ fun H4 e4 => ?_⟩
    have st : ns.take (i + 1) = ns.take i ++ [ns[i]] := by rw [List.take_add_one, List.getElem?_eq_getElem hi]; rfl
    cases hc : c ns[i] with
    | true =>
      refine iteT (he _ m hc H4 (e02.trans e4) H4 (Ex.refl H4) _ fun v H5 e5 hv => ⟨vs, (e4.trans e5) _ _ p3, sz_lt (by omega), p1, Ex.mut (p2.trans (e4.trans e5)) p1, vs ++ [v], upd_same, by rw [List.length_append]; exact Nat.succ_le_succ p4, ?_⟩)
      have hD5 : H5 D = some (.lst vs) := (e4.trans e5) _ _ p3
      rw [st, List.filter_append, List.map_append, show [ns[i]].filter c = [ns[i]] by rw [List.filter_cons, hc]; rfl]
      exact ((p5.imp fun x b r => LU _ _ _ _ _ _ hD5 (L _ _ _ _ (e4.trans e5) r)).app (.cons (LU _ _ _ _ _ _ hD5 hv) .nil))
    | false =>
      refine iteF ⟨p1, p2.trans e4, vs, e4 _ _ p3, Nat.le_succ_of_le p4, ?_⟩
      rw [st, List.filter_append, show [ns[i]].filter c = [] by rw [List.filter_cons, hc]; rfl, List.append_nil]
      exact p5.imp fun x b r => L _ _ _ _ e4 r
  · rintro H2 ⟨p1, p2, vs, p3, _, p5⟩
    rw [List.length_map, List.take_of_length_le (Nat.le_refl _)] at p5
    exact q D vs H2 (fresh_back e1 p1) (e1.trans p2) p3 p5⟩
end
end Ck

namespace PySem
namespace CkM
open PySem PyProof.Rows
section
variable {prog : Program} {w : World} {A : Around} {R : Result → Shared → Prop} {I : Addr} {fp wr : List Addr} {n : Nat} {P : Nat → Value → Prop} {St : Nat → Heap → Prop} {key : Value} {kwd : List (Str × Value)} {val : Nat → Nat} -- own
end
section
variable {prog : Program} {w : World} {A : Around} {E : Value → Shared → Prop} {s : Shared} -- own
end
end CkM
end PySem
namespace Ck
open PySem PySem.Spec PyProof.Rows L2 Evl
section
variable {X : Cx} {e de : Expr} {te td : TE} {p p1 p2 k1 k2 k3 pos : Pos}
theorem eqv_tups : ∀ (ms ns : List Int), PyData.eqvAll (ms.map PyData.int) (ns.map PyData.int) = decide (ms = ns)
  | [], [] => by simp [PyData.eqvAll]
  | [], _ :: _ => by simp [PyData.eqvAll]
  | _ :: _, [] => by simp [PyData.eqvAll]
  | m :: ms, n :: ns => by
    simp only [List.map_cons, PyData.eqvAll, PyData.eqv, eqv_tups ms ns]
    by_cases e : m = n
    · subst e; simp
    · rw [decide_eq_false (show ¬ (m :: ms = n :: ns) from fun z => e (List.cons.inj z).1), show (m == n) = false from by simp [e]]; rfl
end
end Ck

namespace Ck
open PySem PySem.Spec PyProof.Rows L2 Evl
section
variable {X : Cx} {o : Expr} {p pos apos mpos : Pos} {td : TE}
end
end Ck

namespace Ck
open PySem PySem.Spec PyProof.Rows L2
end Ck

namespace Ck
open PySem PySem.Spec PyProof.Rows L2 Evl
section
variable {K : PySem.W.Frag} {σ : L2.St} {H : Hp} {tl te : TE} {tt : TT} {a : Addr} {xs : List V} {j : Nat} {ws : List Nat} {α β : Type} {R : Hp → V → α → Prop} {R' : Hp → V → β → Prop} {as : List α} {c : α → Bool} {e : α → β}
end
end Ck

namespace Ck
open PySem PySem.Spec PyProof.Rows L2
section
variable {X : Cx} {pins : List (Addr × Obj)} {σ : L2.St} {H : Hp} {s : Shared} {D a : Addr} {fs : List (Str × V)}
end
end Ck
namespace Ck
open PySem PySem.Spec PyProof.Rows L2
end Ck
namespace Ck
open PySem PySem.Spec PyProof.Rows L2
def NoSm (base : Heap) : Prop := ∃ mm, base.Ns sysModules mm
section
variable {K : PySem.W.Frag} {H H' : Hp}
end
section
variable {X : Cx} {pins : List (Addr × Obj)} {σ : L2.St} {H : Hp} {s : Shared}
end
end Ck

namespace Ck
open PySem PySem.Spec PyProof.Rows L2
section
variable {P : Program} {w : World} {K : PySem.W.Frag} {mg mb : Str → Option Value} {k : Nat} {fa a : Addr} {fd : FuncData} {x : Str} {sp : Sp} {s₁ : Shared} {vs : List Value} {ns : List Int}
end
end Ck

namespace PySem
namespace CkX
open HandSPX Builtin
section
variable {prog : Program} {w : World} {A : Around} {E : Value → Shared → Prop} {R : Result → Shared → Prop} {h : Heap} {g : Array GenState} {d : Drawn} {t : Nat} {os : OsState}
variable {nm q : Str} {C N : Addr} {bs bm bmB : List Value} {hdct : Bool} {sn : List Str} {sub : List Value} {ab : Bool} {col : Option Bool} {dd : Option Addr} {k0 k1 k2 k3 k5 : Option Value} {B newId initId : String}
end
end CkX
end PySem
namespace Ck
open PySem PySem.Spec PyProof.Rows L2
section
variable {X : Cx} {e : Expr} {es : List Expr} {ta : TA} {p pos : Pos} {B newId initId : String} {T bmB : List Value}
end
section
variable {X : Cx} {x fld : Str} {B newId initId : String} {T bmB : List Value} {C : Addr} {j : Nat} {e : Expr} {ta : TA} {p pos : Pos}
end
end Ck

namespace Ck
open PySem PySem.Spec PyProof.Rows L2 L2H
section
variable {P : Program} {w : World} {K : PySem.W.Frag} {mg : Str → Option Value} {base : Heap}
end
section
variable {X : Cx} {k j : Nat} {x : Str} {sp : Addr → Value → Option Addr → Sp} {p pos : Pos} {e : Expr} {es : List Expr} {t : TA} {a : Addr} {oe : Obj} {pn : List (Addr × Obj)} {cls : Value} {d : Option Addr}
end
end Ck

namespace Ck
open PySem PySem.Spec PyProof.Rows L2 RZ
section
variable {K : PySem.W.Frag} {σ : L2.St} {H H' : Hp} {ta tb te : TE} {tr : TA} {v : V} {d : PyData} {ds es : List PyData}
end
end Ck
namespace Ck
open PySem PySem.Spec PyProof.Rows L2 RZ
section
variable {K : PySem.W.Frag} {d : Addr} {H H' : Hp}
end
end Ck

namespace Ck
open PySem PySem.Spec PyProof.Rows L2 StX
section
variable {P : Program} {w : World} {K : PySem.W.Frag} {mg : Str → Option Value} {base : Heap} {k : Nat} {x : Str} {sp : Sp}
theorem Cl.g (c : Cl P w K mg base k x sp) : Cg P w K mg base CX0 k x sp := by
  obtain ⟨f, fd, ps, F, h1, h2, h3⟩ := c
  exact ⟨f, fd, ps, .of F, h1, h2, h3⟩
end
structure Klass (K : PySem.W.Frag) (mg : Str → Option Value) (x : Str) (C : Addr) : Prop where
  g : mg x = some (.ref C)
  cl : Cls K C
  mks : PySem.W.makesIn K C = true
  kp : PySem.W.keepIn K (.ref C) = true
  ha : PySem.W.findIn K (.ref C) "__class__" = some (some (.builtin "object.__class__"))
  hn : PySem.W.specialIn K (.builtin "object.__class__") "__get__" = some (some (.builtin "getset_descriptor.__get__"))
  ht : PySem.W.takesIn K (.builtin "object.__class__") = some true
theorem Klass.ty {K : PySem.W.Frag} {mg : Str → Option Value} {x : Str} {C a dx : Addr} {fs : List (Str × V)} {H : Hp} (c : Klass K mg x C) (e : H a = some (.ins C dx fs)) : TyX K H (.ref a) (.ref C) :=
  .base (.ins e c.cl c.ha c.hn c.ht (mro_obj c.mks))
section
variable {X : Cx} {CX : CXT} {k n : Nat} {f C : Addr} {fd : FuncData} {ps : List Str} {sp : Sp} {E : XK} {x : Str} {e : Expr} {te : TE} {p sp_ pos : Pos}
theorem pe_makeR0 (M : Mk X.K C f) (F : FnR X.prog X.w X.K X.mg X.base CX k f sp) (hr : Room (k + 1) X.A) (hg : Gl X x) (hm : X.mg x = some (.ref C)) (hx : Passes CX X E) (hdb : (x == ("__debug__" : Str)) = false := by decide) :
    PE X (.Call (.Name x p) [] [] pos) (tMakeR C sp E tNil) := by
  refine ⟨fun pins s σ H Q I h => ?_⟩
  refine wpAny_Call_Name_kw (ld_glob I hg hm ?_ hdb)
  exact PySem.W.callWith_K0 I.kIn M.kp (run_makeR (us := []) (vs := []) M F hr hx I .nil h)
def tMakeS (K : PySem.W.Frag) (C : Addr) (sp : Sp) (E : XK) (te : TE) : TE := fun σ H Q => te σ H fun y H1 => ∃ a xs, y = V.ref a ∧ (SqT K H1 a xs ∨ SqL K H1 a xs) ∧ ∀ x dx, H1 x = Option.none → H1 dx = Option.none → dx ≠ x →
  sp (V.ref x :: xs) (upd (upd H1 dx (.own x)) x (.ins C dx [])) (fun v H2 => v = .non ∧ Q (.ref x) H2) E
theorem pe_makeS (M : Mk X.K C f) (F : FnR X.prog X.w X.K X.mg X.base CX k f sp) (hr : Room (k + 1) X.A) (hg : Gl X x) (hm : X.mg x = some (.ref C)) (hx : Passes CX X E) (he : PE X e te) (hd : (x == ("__debug__" : Str)) = false := by decide)
    (hst : starEach [.Starred e sp_] X.env = [(true, eval e X.env)] := by rfl) : PE X (.Call (.Name x p) [.Starred e sp_] [] pos) (tMakeS X.K C sp E te) := by
  refine ⟨fun pins s σ H Q I h => ?_⟩
  refine wpAny_Call_Name_kw (ld_glob I hg hm ?_ hd)
  refine PySem.W.callWith_S (h₀ := X.base) I.ok.mod.kin M.kp (thn (he.run pins s σ H _ I h) fun v s1 ⟨y, H1, I1, ry, a, xs, ey, hxs, q⟩ => ?_) hst
  subst ey
  obtain rfl : v = Value.ref a := ry
  exact star_any I1 hxs fun us s2 I2 rv => ⟨I2.kIn, run_makeR M F hr hx I2 rv q⟩
theorem run_ownC {A : Around} {pins : List (Addr × Obj)} {σ : L2.St} {H : Hp} {s : Shared} {us : List Value} {vs : List V} {Q : VK} {R : Result → Shared → Prop}
    (F : FnOk X.prog X.w X.K X.mg X.base CX0 n f fd ps sp) (hb : Binds X.K fd ps []) (hr : Room n A) (hf : A.frames = X.A.frames) (I : Inv X pins σ H s) (r : Vals vs us) (h : sp vs H Q E0)
    (hR : ∀ v u H' s', Inv X pins σ H' s' → RelV v u → Q v H' → R (.ok (.ret u)) s') : codeAny (model X.prog X.w) A (.call (.ref f) ⟨us, []⟩) R s := by
  have hl : us.length = ps.length := r.length.symm.trans (F.len vs H Q E0 h)
  have e0 : Env0 X.prog X.w X.K X.mg X.base A X.stack s H := by
    have e := I.env0
    exact ⟨by rw [hf]; exact e.frames, e.mod, e.bs, e.bsz, e.funs, e.frf, e.hok, e.bare⟩
  refine codeAny_mono (F.run A X.stack s H ⟨us, []⟩ us vs Q E0 hr e0 (by
    have z := hb s us I.kIn (by rw [List.append_nil]; exact hl)
    rw [List.append_nil] at z
    exact z) r h) fun r' s' hq => ?_
  cases r' with
  | error e => exact hq.elim
  | ok fl =>
    cases fl with
    | ret u =>
      obtain ⟨v, H', I', rv, q⟩ := I.after hq
      exact hR v u H' s' I' rv q
    | next => exact hq.elim
    | brk => exact hq.elim
    | cont => exact hq.elim
theorem run_own {A : Around} {pins : List (Addr × Obj)} {σ : L2.St} {H : Hp} {s : Shared} {us : List Value} {vs : List V} {Q : VK} {R : Value → Shared → Prop} {Er : Value → Shared → Prop}
    (F : FnOk X.prog X.w X.K X.mg X.base CX0 n f fd ps sp) (hb : Binds X.K fd ps []) (hr : Room n A) (hf : A.frames = X.A.frames) (I : Inv X pins σ H s) (r : Vals vs us) (h : sp vs H Q E0)
    (hR : ∀ v u H' s', Inv X pins σ H' s' → RelV v u → Q v H' → R u s') : wpAny (model X.prog X.w) A (call (.ref f) us) R Er s :=
  wpAny_call (run_ownC F hb hr hf I r h hR)
end
section
variable {M : Model} {prog : Program} {w : World} {A : Around} {E : Value → Shared → Prop} {s : Shared} {K : PySem.W.Frag} {x C : Addr} {ox : Obj} {od : Option Obj}
end
section
variable {X : Cx} {n : Nat} {f C : Addr} {fd : FuncData} {ps : List Str} {sp : Sp}
end
end Ck

namespace Ck
open PySem PySem.Spec PyProof.Rows L2
def ItM (K : PySem.W.Frag) (a b : Addr) : It :=
  ⟨fun i H => ∃ (xs ys : List V) (x y : V), (SqT K H a xs ∧ SqL K H b ys) ∧ xs[i]? = some x ∧ ys[i]? = some y,
    fun i H v H' => ∃ T x y, v = .ref T ∧ H T = none ∧ H' = upd H T (.tup [x, y]) ∧ (∀ us, SqT K H a us → us[i]? = some x) ∧ ∀ us, SqL K H b us → us[i]? = some y,
    fun i H => ∃ xs ys : List V, (SqT K H a xs ∧ SqL K H b ys) ∧ (i = xs.length ∧ i ≤ ys.length ∨ i ≤ xs.length ∧ i = ys.length)⟩
abbrev cells5 (z ti to i1 i2 : Addr) : List Addr := [z, ti, to, i1, i2]
theorem in5 {z ti to i1 i2 c : Addr} (h : c ∈ cells5 z ti to i1 i2) : c = z ∨ c = ti ∨ c = to ∨ c = i1 ∨ c = i2 := by simpa using h
theorem no5 {z ti to i1 i2 c : Addr} (h : c ∉ cells5 z ti to i1 i2) : c ≠ z ∧ c ≠ to ∧ c ≠ i1 ∧ c ≠ i2 :=
  ⟨fun e => h (by simp [e]), fun e => h (by simp [e]), fun e => h (by simp [e]), fun e => h (by simp [e])⟩
def ZipS (a b z ti to i1 i2 : Addr) (i : Nat) (h : Heap) : Prop :=
  IsZip h z ti to .none ∧ IsTupOf2 h ti (.ref i1) (.ref i2) ∧ (∃ x y, IsTupOf2 h to x y) ∧ h.IsTupleIter i1 a i ∧ h.IsListIter i2 b i
theorem turnM {P : Program} {w : World} {K : PySem.W.Frag} {es : List Expr} {kk : Nat} {tp : Pos} {a b z ti to i1 i2 : Addr} (D : ZipSep2 z ti to i1 i2 [i1, a] [i2, b]) (na : a ≠ i1) (nb : b ≠ i2) :
    Turn P w K (.Tuple es kk tp) (ItM K a b) (cells5 z ti to i1 i2) z (ZipS a b z ti to i1 i2) where
  mem := List.mem_cons_self
  obj := by
    rintro i h ⟨s1, s2, ⟨x, y, s3⟩, ⟨o1, e1, _, d1⟩, ⟨o2, e2, _, d2⟩⟩ c hc
    rcases in5 hc with rfl | rfl | rfl | rfl | rfl
    · exact ⟨_, s1, fun v => Data.noConfusion⟩
    · exact ⟨_, s2, fun v => Data.noConfusion⟩
    · exact ⟨_, s3, fun v => Data.noConfusion⟩
    · exact ⟨o1, e1, fun v => by rw [d1]; exact Data.noConfusion⟩
    · exact ⟨o2, e2, fun v => by rw [d2]; exact Data.noConfusion⟩
  keep := by
    rintro i h h' ⟨s1, s2, ⟨x, y, s3⟩, s4, s5⟩ k
    have q : ∀ c, c ∈ cells5 z ti to i1 i2 → ∀ o, h.get? c = some o → h'.get? c = some o := k
    exact ⟨q z (by simp) _ s1, q ti (by simp) _ s2, ⟨x, y, q to (by simp) _ s3⟩, s4.at (q i1 (by simp)), s5.at (q i2 (by simp))⟩
  item := by
    intro X e1 e2 e3 hc i pins s σ H E I hf st hg
    subst e1 e2 e3
    obtain ⟨s1, s2, ⟨x0, y0, s3⟩, s4, s5⟩ := st
    obtain ⟨xs, ys, x, y, ⟨qx, qy⟩, gx, gy⟩ := hg
    obtain ⟨us, ru, pu, _⟩ := I.tuple qx
    obtain ⟨ws, rw', pw, _⟩ := I.list qy
    obtain ⟨u, hu, rxu⟩ := ru.get gx
    obtain ⟨v, hv, ryv⟩ := rw'.get gy
    have hh : X.A.in1.handled = none := I.ok.hd hc
    have lu := (List.getElem?_eq_some_iff.mp hu).1
    have lv := (List.getElem?_eq_some_iff.mp hv).1
    have zl := Heap.lt_size s1
    refine wpAny_pyNext_zipD2_item D (Draws.tuple hh i1 a na us.toArray) (Draws.list hh i2 b nb ws.toArray) s1 s2 s3 ⟨s4, pu⟩ ⟨s5, pw.isList⟩ (by simpa using lu) (by simpa using lv) ?_
    intro u' v' h' tk eu ev z' to' i1' i2' nt sz kp
    obtain rfl : u = u' := Option.some.inj (hu.symm.trans (by simpa using eu))
    obtain rfl : v = v' := Option.some.inj (hv.symm.trans (by simpa using ev))
    refine ⟨_, rfl, wpAny_letOwnedTupleGo_zip (s := { s with heap := h', toks := tk }) z' fun h2 z2 sb => ?_⟩
    have stay : ∀ c o, c ∉ cells5 z ti to i1 i2 → s.heap.get? c = some o → h2.get? c = some o := fun c o n e => by
      obtain ⟨n1, n2, n3, n4⟩ := no5 n
      exact (sb.2 c n1).trans (kp c o n1 n2 n3 n4 e)
    have new : ObjOk X.prog X.w (upd H s.heap.objs.size (.tup [x, y])) h2 s.heap.objs.size (.tup [x, y]) :=
      ⟨(show 2 ≤ sizeLine by decide), [u, v], .cons rxu (.cons ryv .nil), ⟨_, (sb.2 _ (Nat.ne_of_gt zl)).trans nt, rfl, _, rfl⟩⟩
    have J := I.turnedNew (t' := tk) (ch := cells5 z ti to i1 i2) stay hf (Nat.le_refl _) new
    have fr := I.hok.fresh (Nat.le_refl s.heap.objs.size)
    refine ⟨.ref s.heap.objs.size, _, J, rfl, ⟨_, x, y, rfl, fr, rfl, fun l hl => ?_, fun l hl => ?_⟩, ⟨z2, ?_, ⟨u, v, ?_⟩, ?_, ?_⟩, fun c hcm => ?_⟩
    · rw [I.tuple_inj hl qx]; exact gx
    · rw [I.list_inj hl qy]; exact gy
    · exact (sb.2 ti D.TIz).trans (kp ti _ D.TIz D.TITO D.TIi1 D.TIi2 s2)
    · exact (sb.2 to D.TOz).trans to'
    · exact i1'.1.at fun o q => (sb.2 i1 D.zi1.symm).trans q
    · exact i2'.1.at fun o q => (sb.2 i2 D.zi2.symm).trans q
    · have lt : c < s.heap.objs.size := by
        rcases in5 hcm with e | e | e | e | e
        · exact e ▸ zl
        · exact e ▸ Heap.lt_size s2
        · exact e ▸ Heap.lt_size s3
        · obtain ⟨_, q, _⟩ := s4
          exact e ▸ Heap.lt_size q
        · obtain ⟨_, q, _⟩ := s5
          exact e ▸ Heap.lt_size q
      rw [upd_ne (Nat.ne_of_lt lt)]
      exact (hf c hcm).1
  done := by
    intro X e1 e2 e3 hc i pins s σ H E I hf st hg
    subst e1 e2 e3
    obtain ⟨s1, s2, ⟨x0, y0, s3⟩, s4, s5⟩ := st
    obtain ⟨xs, ys, ⟨qx, qy⟩, hend⟩ := hg
    obtain ⟨us, ru, pu, _⟩ := I.tuple qx
    obtain ⟨ws, rw', pw, _⟩ := I.list qy
    have hh : X.A.in1.handled = none := I.ok.hd hc
    have l1 := ru.length
    have l2 := rw'.length
    refine wpAny_pyNext_zipD2_end D (Draws.tuple hh i1 a na us.toArray) (Draws.list hh i2 b nb ws.toArray) s1 s2 s3 ⟨s4, pu⟩ ⟨s5, pw.isList⟩ (by simp; omega) (by simp; omega) (by simp; omega) fun h' tk kp => ⟨rfl, ?_⟩
    refine I.turnedL (t' := tk) (ch := cells5 z ti to i1 i2) (fun c o n e => ?_) hf
    obtain ⟨n1, n2, n3, n4⟩ := no5 n
    exact kp c o n1 n2 n3 n4 e
  self := fun A i s Q E st h => wpAny_pyIter_zip st.1 h
end Ck

namespace Ck
open PySem PySem.Spec PyProof.Rows L2 Evl
def cnt : List (Int × Int) → Int → Option Int
  | [], _ => none
  | p :: r, s => if p.1 = s then some p.2 else cnt r s
def kc (p : Int × Int) : Key × V := (Sum.inl p.1, V.int p.2)
theorem valV_kc (s : Int) : ∀ ps : List (Int × Int), valV (ps.map kc) (Sum.inl s : Key) = (cnt ps s).map V.int
  | [] => rfl
  | p :: r => by
    by_cases e : p.1 = s
    · rw [List.map_cons, valV_pos (show (kc p).1 = Sum.inl s from congrArg Sum.inl e)]
      unfold cnt
      rw [if_pos e]
      rfl
    · rw [List.map_cons, valV_neg (show ¬ (kc p).1 = Sum.inl s from fun z => e (Sum.inl.inj z)), valV_kc s r]
      conv => rhs; unfold cnt
      rw [if_neg e]
theorem cnt_none {s : Int} : ∀ {ps : List (Int × Int)}, cnt ps s = none ↔ s ∉ ps.map Prod.fst
  | [] => by simp [cnt]
  | p :: r => by
    unfold cnt
    by_cases e : p.1 = s
    · simp [e]
    · rw [if_neg e, cnt_none (ps := r)]
      simp [Ne.symm e]
theorem cnt_mem {s c : Int} : ∀ {ps : List (Int × Int)}, (ps.map Prod.fst).Nodup → ((s, c) ∈ ps ↔ cnt ps s = some c)
  | [], _ => by simp [cnt]
  | p :: r, h => by
    obtain ⟨h1, h2⟩ := List.nodup_cons.mp h
    unfold cnt
    by_cases e : p.1 = s
    · rw [if_pos e]
      constructor
      · intro m
        rcases List.mem_cons.mp m with z | z
        · rw [← z]
        · exact absurd (List.mem_map.mpr ⟨_, z, e.symm⟩) h1
      · intro z
        rw [← Option.some.inj z, ← e]
        exact List.mem_cons_self
    · rw [if_neg e, ← cnt_mem (ps := r) h2]
      constructor
      · intro m
        rcases List.mem_cons.mp m with z | z
        · exact absurd (by rw [← z]) e
        · exact z
      · exact fun z => List.mem_cons_of_mem _ z
abbrev Dk (H : Hp) (d : Addr) (ps : List (Int × Int)) : Prop := Rd H d (.dK (ps.map kc))
theorem Dk.get {H : Hp} {d : Addr} {ps : List (Int × Int)} {s : Int} (h : Dk H d ps) : DGet H d (.int s) ((cnt ps s).map V.int) := .inl ⟨_, Sum.inl s, h, rfl, (valV_kc s ps).symm⟩
def Fz (d : Addr) (u : HO) (H H1 : Hp) : Prop := (∀ a o, a ≠ d → H a = some o → H1 a = some o) ∧ ∃ od, H1 d = some (.frz od u)
theorem Fz.to {d : Addr} {u : HO} {H H1 H2 : Hp} (h : Fz d u H H1) (e : Ex H1 H2) : Fz d u H H2 := ⟨fun a o n k => e _ _ (h.1 a o n k), h.2.imp fun _ k => e _ _ k⟩
theorem Fz.of {d : Addr} {u : HO} {H H0 H1 : Hp} (h : Fz d u H0 H1) (e : Ex H H0) : Fz d u H H1 := ⟨fun a o n k => h.1 a o n (e _ _ k), h.2⟩
theorem Fz.back {d : Addr} {u : HO} {H H1 : Hp} (h : Fz d u H H1) (hd : H d = some u) : Ex H (upd H1 d u) := fun a o k => by
  by_cases z : a = d
  · rw [z, hd] at k
    rw [z, upd_same]
    exact k
  · rw [upd_ne z]
    exact h.1 a o z k
theorem Fz.new {d p : Addr} {u : HO} {H H1 : Hp} (h : Fz d u H H1) (hd : H d = some u) (hp : H1 p = none) : H p = none ∧ p ≠ d := by
  obtain ⟨k, od, e⟩ := h
  have n : p ≠ d := fun z => by rw [z, e] at hp; cases hp
  refine ⟨?_, n⟩
  cases q : H p with
  | none => rfl
  | some o =>
    rw [k p o n q] at hp
    cases hp
theorem Fz.dk {d : Addr} {kvs : List (Key × V)} {H H1 : Hp} (h : Fz d (.dK kvs) H H1) : Rd H1 d (.dK kvs) := h.2.elim fun od e => .inr ⟨od, e⟩
theorem Fz.t {K : PySem.W.Frag} {d a : Addr} {kvs : List (Key × V)} {xs : List V} {H H1 : Hp} (h : Fz d (.dK kvs) H H1) (hd : H d = some (.dK kvs)) (t : SqT K H a xs) : SqT K H1 a xs := by
  rcases t with (t | ⟨o, t⟩) | t
  · exact .inl (.inl (h.1 a _ (fun z => by rw [z, hd] at t; cases t) t))
  · exact .inl (.inr ⟨o, h.1 a _ (fun z => by rw [z, hd] at t; cases t) t⟩)
  · exact .inr t
theorem fz_of {d : Addr} {u : HO} {od : Obj} {H : Hp} : Fz d u H (upd H d (.frz od u)) := ⟨fun a o n k => by rw [upd_ne n]; exact k, od, upd_same⟩
theorem sqT_back {K : PySem.W.Frag} {d t : Addr} {kvs : List (Key × V)} {u : HO} {od : Obj} {xs : List V} {H : Hp} (hd : H d = some (.frz od (.dK kvs))) (h : SqT K H t xs) : SqT K (upd H d u) t xs := by
  rcases h with (h | ⟨o, h⟩) | h
  · exact .inl (.inl (by rw [upd_ne (fun z => by rw [z, hd] at h; cases h)]; exact h))
  · exact .inl (.inr ⟨o, by rw [upd_ne (fun z => by rw [z, hd] at h; cases h)]; exact h⟩)
  · exact .inr h
section
variable {K : PySem.W.Frag} {σ : L2.St} {H : Hp} {td te ty tx : TE} {tt : TT} {d : Addr} {kvs : List (Key × V)} {j j2 : Nat} {ws : List Nat} {ps : List (Int × Int)} {s c : Int}
theorem ev_dget (h : Ev td σ H (.ref d)) (hs : Ev ty σ H (.int s)) (hd : ∀ H1, Ex H H1 → Dk H1 d ps) (hc : cnt ps s = some c) : Ev (tDGet td ty) σ H (.int c) := fun H1 e Q q =>
  h H1 e _ fun H2 e2 => hs H2 (e.trans e2) _ fun H3 e3 => ⟨d, .int c, rfl, by
    have g := (hd H3 ((e.trans e2).trans e3)).get (s := s)
    rw [hc] at g
    exact g, q H3 (e2.trans e3)⟩
theorem Dk.up {H H' : Hp} (h : Dk H d ps) (e : Ex H H') : Dk H' d ps := ex_rd e h
theorem ev_dget2 (h : Ev td σ H (.ref d)) (hs : Ev ty σ H (.int s)) (hx : Ev tx σ H (.int c)) (hd : Dk H d ps) : Ev (tDGet2 td ty tx) σ H (.int ((cnt ps s).getD c)) := fun H1 e Q q =>
  h H1 e _ fun H2 e2 => ⟨d, rfl, .inl ⟨_, hd.up (e.trans e2)⟩, hs H2 (e.trans e2) _ fun H3 e3 => hx H3 ((e.trans e2).trans e3) _ fun H4 e4 => ⟨_, (hd.up (((e.trans e2).trans e3).trans e4)).get, by
    have z := q H4 ((e2.trans e3).trans e4)
    cases h : cnt ps s with
    | none => rw [h] at z; exact z
    | some y => rw [h] at z; exact z⟩⟩
theorem el_lcK (f : Nat → Bool) (v : Nat → V) (hv : ∀ H1, Ev td σ H1 (.ref d)) (hd : H d = some (.dK kvs)) (hl : kvs.length ≤ 40000) (hw : ∀ x, wipe ((wipe σ ws).set j (some x)) ws = wipe σ ws)
    (ht : ∀ i k x H1, kvs[i]? = some (k, x) → Fz d (.dK kvs) H H1 → EvT tt ((wipe σ ws).set j (some (kV k))) H1 (f i)) (he : ∀ i k x H1, kvs[i]? = some (k, x) → Fz d (.dK kvs) H H1 → f i = true → Ev te ((wipe σ ws).set j (some (kV k))) H1 (v i)) :
    EvL (tLockE (tLc (iKeys td) (gName j) tt te ws)) σ H (given kvs.length f v) := fun H0 e Q q => by
  have hd0 := e _ _ hd
  refine ⟨d, _, hd0, trivial, fun od => hv _ _ (Ex.refl _) _ fun H2 e2 => ?_⟩
  have z : Fz d (.dK kvs) H0 H2 := (fz_of (od := od)).to e2
  have hd2 : H2 d = some (.frz od (.dK kvs)) := e2 _ _ upd_same
  refine ⟨d, od, rfl, .inl ⟨kvs, hd2, fun D hD => ?_⟩⟩
  refine lc_it walk_keys (Cw H2 f v D) ⟨hD, Ex.new hD, upd_same⟩ (fun _ _ _ p => p.2.1 _ _ hd2) ?_ (fun H' p => ?_)
  · rintro i _ H' _ hi p ⟨rfl, k, x, hk, rfl⟩
    exact ⟨hw _, cw_turn p (by omega) (ht i k x H2 hk (z.of e)) (fun hf => he i k x H2 hk (z.of e) hf)⟩
  · obtain ⟨p1, p2, p3⟩ := p
    obtain ⟨n1, n2⟩ := z.new hd0 hD
    exact ⟨p2 _ _ hd2, q D _ n1 ((z.to p2).back hd0) (by rw [upd_ne n2]; exact p3)⟩
theorem el_lcI (f : Nat → Bool) (v : Nat → V) (hv : ∀ H1, Ev td σ H1 (.ref d)) (hd : H d = some (.dK kvs)) (hl : kvs.length ≤ 40000) (hw : ∀ x y, wipe (((wipe σ ws).set j (some x)).set j2 (some y)) ws = wipe σ ws)
    (ht : ∀ i k x H1, kvs[i]? = some (k, x) → Fz d (.dK kvs) H H1 → EvT tt (((wipe σ ws).set j (some (kV k))).set j2 (some x)) H1 (f i)) (he : ∀ i k x H1, kvs[i]? = some (k, x) → Fz d (.dK kvs) H H1 → f i = true → Ev te (((wipe σ ws).set j (some (kV k))).set j2 (some x)) H1 (v i)) :
    EvL (tLockE (tLc (iItems td) (gTup K 2 (gCons (gName j) (gCons (gName j2) gNil))) tt te ws)) σ H (given kvs.length f v) := fun H0 e Q q => by
  have hd0 := e _ _ hd
  refine ⟨d, _, hd0, trivial, fun od => hv _ _ (Ex.refl _) _ fun H2 e2 => ?_⟩
  have z : Fz d (.dK kvs) H0 H2 := (fz_of (od := od)).to e2
  have hd2 : H2 d = some (.frz od (.dK kvs)) := e2 _ _ upd_same
  refine ⟨d, od, kvs, rfl, hd2, fun D hD => ?_⟩
  refine lc_it walk_items (Cw H2 f v D) ⟨hD, Ex.new hD, upd_same⟩ (fun _ _ _ p => p.2.1 _ _ hd2) ?_ (fun H' p => ?_)
  · rintro i _ H' _ hi p ⟨T, x, y, rfl, hT, rfl, hx, hy⟩
    obtain ⟨⟨k, w⟩, hk, rfl⟩ := Option.map_eq_some_iff.mp hx
    have hy : (kvs[i]?.map Prod.snd) = some y := hy
    rw [hk] at hy
    obtain rfl : w = y := Option.some.inj hy
    have p' : Cw H2 f v D i (upd H' T (.tup [kV k, w])) := ⟨p.1, p.2.1.trans (Ex.new hT), by rw [upd_ne (ne_of_none p.2.2 hT)]; exact p.2.2⟩
    exact ⟨T, _, rfl, SqT.of upd_same, rfl, _, _, rfl, _, _, rfl, rfl, ⟨hw _ _, cw_turn p' (by omega) (ht i k w H2 hk (z.of e)) (fun hf => he i k w H2 hk (z.of e) hf)⟩⟩
  · obtain ⟨p1, p2, p3⟩ := p
    obtain ⟨n1, n2⟩ := z.new hd0 hD
    exact ⟨p2 _ _ hd2, q D _ n1 ((z.to p2).back hd0) (by rw [upd_ne n2]; exact p3)⟩
end
end Ck

namespace Ck
open PySem PySem.Spec PyProof.Rows L2 Evl
def RP (K : PySem.W.Frag) (H : Hp) (x : V) (p : Int × Int) : Prop := ∃ t, x = .ref t ∧ SqT K H t [.int p.1, .int p.2]
section
variable {K : PySem.W.Frag} {σ : L2.St} {H H' : Hp} {td te : TE} {d l : Addr} {kvs : List (Key × V)} {j : Nat} {ws : List Nat} {ps : List (Int × Int)} {x : V} {p : Int × Int}
theorem RP.ex (e : Ex H H') (h : RP K H x p) : RP K H' x p := h.imp fun t h => ⟨h.1, ex_t e h.2⟩
theorem RP.upd {xs ys : List V} (hl : H l = some (.lst xs)) (h : RP K H x p) : RP K (L2.upd H l (.lst ys)) x p := h.imp fun t h => ⟨h.1, sqT_updL h.2 hl⟩
theorem RP.back {od : Obj} {u : HO} (hd : H d = some (.frz od (.dK kvs))) (h : RP K H x p) : RP K (L2.upd H d u) x p := h.imp fun t h => ⟨h.1, sqT_back hd h.2⟩
theorem lc_keysP (e : Nat → Int × Int) (hv : ∀ H1, Ev td σ H1 (.ref d)) (hd : H d = some (.dK kvs)) (hl : kvs.length ≤ 40000) (hw : ∀ x, wipe ((wipe σ ws).set j (some x)) ws = wipe σ ws)
    (he : ∀ i k x H1, kvs[i]? = some (k, x) → Fz d (.dK kvs) H H1 → EvR (RP K) te ((wipe σ ws).set j (some (kV k))) H1 (e i)) :
    ∀ H0, Ex H H0 → ∀ Q : VK, (∀ D vs H2, H0 D = none → Ex H0 H2 → H2 D = some (.lst vs) → F2 (RP K H2) vs ((List.range kvs.length).map e) → Q (.ref D) H2) → tLockE (tLc (iKeys td) (gName j) tYes te ws) σ H0 Q := fun H0 e0 Q q => by
  have hd0 := e0 _ _ hd
  refine ⟨d, _, hd0, trivial, fun od => hv _ _ (Ex.refl _) _ fun H2 e2 => ?_⟩
  have z : Fz d (.dK kvs) H0 H2 := (fz_of (od := od)).to e2
  have hd2 : H2 d = some (.frz od (.dK kvs)) := e2 _ _ upd_same
  refine ⟨d, od, rfl, .inl ⟨kvs, hd2, fun D hD => ?_⟩⟩
  refine lc_it walk_keys (fun i H' => H2 D = none ∧ Ex H2 H' ∧ ∃ vs, H' D = some (.lst vs) ∧ vs.length ≤ i ∧ F2 (RP K H') vs ((List.range i).map e)) ⟨hD, Ex.new hD, [], upd_same, Nat.le_refl _, .nil⟩ (fun _ _ _ p => p.2.1 _ _ hd2) ?_ ?_
  · rintro i _ H' H6 hi ⟨p1, p2, vs, p3, p4, p5⟩ ⟨rfl, k, x, hk, rfl⟩
    refine ⟨hw _, yes_go (iteT (he i k x H6 hk ((z.to p2).of e0) _ (Ex.refl _) _ fun v H5 e5 hv5 => ⟨vs, e5 _ _ p3, sz_lt (by omega), p1, Ex.mut (p2.trans e5) p1, vs ++ [v], upd_same, by rw [List.length_append]; exact Nat.succ_le_succ p4, ?_⟩))⟩
    have hD5 := e5 _ _ p3
    rw [List.range_succ, List.map_append]
    exact (p5.imp fun x b r => (r.ex e5).upd hD5).app (.cons (hv5.upd hD5) .nil)
  · rintro H' ⟨p1, p2, vs, p3, _, p5⟩
    obtain ⟨n1, n2⟩ := z.new hd0 hD
    have hd3 := p2 _ _ hd2
    exact ⟨hd3, q D vs _ n1 ((z.to p2).back hd0) (by rw [upd_ne n2]; exact p3) (p5.imp fun x b r => r.back hd3)⟩
theorem evr_pair {ta tb : TE} {a b : Int} (ha : Ev ta σ H (.int a)) (hb : Ev tb σ H (.int b)) : EvR (RP K) (tTup (tCons ta (tCons tb tNil))) σ H (a, b) := fun H1 e Q q =>
  ha H1 e _ fun H2 e2 => hb H2 (e.trans e2) _ fun H3 e3 => ⟨(show 2 ≤ sizeLine by decide), fun t ht => q _ _ ((e2.trans e3).trans (Ex.new ht)) ⟨t, rfl, SqT.of upd_same⟩⟩
end
theorem mergeK_nodup : ∀ {more acc : List (Key × V)}, ((acc ++ more).map Prod.fst).Nodup → mergeK acc more = acc ++ more
  | [], acc, _ => by rw [List.append_nil]; rfl
  | p :: r, acc, h => by
    have n : (acc.any fun kv => decide (kv.1 = p.1)) = false := by
      rw [List.any_eq_false]
      intro kv hkv z
      rw [List.map_append, List.map_cons, List.nodup_append] at h
      exact h.2.2 _ (List.mem_map_of_mem hkv) _ List.mem_cons_self (of_decide_eq_true z)
    have e : putK acc p.1 p.2 = acc ++ [p] := by
      unfold putK
      rw [if_neg (by rw [n]; exact Bool.false_ne_true)]
    show mergeK (putK acc p.1 p.2) r = _
    rw [e, mergeK_nodup (acc := acc ++ [p]) (by rw [List.append_assoc]; exact h), List.append_assoc]
    rfl
theorem merge_kc {ps : List (Int × Int)} (h : (ps.map Prod.fst).Nodup) : mergeK [] (ps.map kc) = ps.map kc := by
  refine mergeK_nodup (acc := []) ?_
  rw [List.nil_append, List.map_map]
  show (ps.map fun p => (Sum.inl p.1 : Key)).Nodup
  have := h
  rw [show (ps.map fun p => (Sum.inl p.1 : Key)) = (ps.map Prod.fst).map Sum.inl by rw [List.map_map]; rfl]
  exact List.Pairwise.map _ (fun a b n z => n (Sum.inl.inj z)) h
def TupZ (H : Hp) (a : Addr) (xs : List V) : Prop := ∃ o, H a = some (.frz o (.tup xs)) ∧ o.cls = .type "tuple" ∧ o.dict = none
theorem TupZ.t {K : PySem.W.Frag} {H : Hp} {a : Addr} {xs : List V} (h : TupZ H a xs) : SqT K H a xs := h.elim fun o h => .inl (.inr ⟨o, h.1⟩)
theorem TupZ.ex {H H' : Hp} {a : Addr} {xs : List V} (h : TupZ H a xs) (e : Ex H H') : TupZ H' a xs := h.imp fun o h => ⟨e _ _ h.1, h.2⟩
section
variable {X : Cx}
def rTupZ (K : PySem.W.Frag) : List V → Hp → VK → Prop := fun xs H Q => ∃ p ys, xs = [.ref p] ∧ SqL K H p ys ∧ ∀ l o, H l = none → o.cls = .type "tuple" → o.dict = none → Q (.ref l) (upd H l (.frz o (.tup ys)))
theorem call_tupleZ : CallR X (.type "tuple") (rTupZ X.K) := by
  rintro pins s σ H _ us Q I r ⟨p, ys, rfl, hq, q⟩
  obtain ⟨u, rfl, rx⟩ := vals1 r
  cases rx
  obtain ⟨its, rv, pl, hz⟩ := I.list hq
  have hlen := rv.length
  refine call_tuple_list pl.isList (fun h' kp => ?_) (by rw [List.size_toArray, ← hlen]; exact hz)
  have I1 : Inv X pins σ H { s with heap := h' } := I.kept (t' := s.toks) kp
  have at_ : (h'.push { cls := .type "tuple", data := .seq its.toArray }).get? h'.objs.size = some { cls := .type "tuple", data := .seq its.toArray } := Heap.get?_push_size _ rfl
  have J := I1.laid (t' := s.toks) (a := h'.objs.size) (o := .frz { cls := .type "tuple", data := .seq its.toArray } (.tup ys)) (fun b o e => Heap.get?_push_of_some _ e) (Nat.le_refl _) ⟨at_, hz, its, rv, IsTup.new _ _⟩
  exact ⟨.ref _, _, J, rfl, q _ _ (I1.hok.fresh (Nat.le_refl _)) rfl rfl⟩
theorem pairs_at {pins : List (Addr × Obj)} {σ : L2.St} {H : Hp} {s : Shared} (I : Inv X pins σ H s) : ∀ {ts : List Addr} {kvs : List (Key × V)}, Paired (fun t kv => SqT X.K H t [kV kv.1, kv.2]) ts kvs →
    ∃ (prs : List (Key × Value)) (ps : List (Value × Value)), KV kvs prs ∧ ps.length = ts.length ∧ prs.length = ts.length ∧ ∀ (j : Nat) (k v : Value), ps[j]? = some (k, v) → ∃ (b : Addr) (c : Key), ts[j]? = some b ∧ IsTup s.heap b #[k, v] ∧ prs[j]? = some (c, v) ∧ (mixKind X.prog X.w).is c k = true
  | _, _, .nil => ⟨[], [], .nil, rfl, rfl, fun j k v e => by simp at e⟩
  | _, _, .cons (a := t) (b := kv) h tl => by
    obtain ⟨prs, ps, r, l1, l2, hp⟩ := pairs_at I tl
    obtain ⟨its, rv, ht, _⟩ := I.tuple h
    obtain ⟨u, y, rfl, ru, ry⟩ := vals2 rv
    refine ⟨(kv.1, y) :: prs, (u, y) :: ps, .cons ⟨rfl, ry⟩ r, congrArg Nat.succ l1, congrArg Nat.succ l2, fun j k v e => ?_⟩
    cases j with
    | zero =>
      obtain ⟨rfl, rfl⟩ := Prod.mk.inj (Option.some.inj e)
      exact ⟨t, kv.1, rfl, ht, rfl, kV_is (P := X.prog) (w := X.w) ru⟩
    | succ j =>
      obtain ⟨b, c, e1, e2, e3, e4⟩ := hp j k v (by simpa using e)
      exact ⟨b, c, by simpa using e1, e2, by simpa using e3, e4⟩
def rDictZ (K : PySem.W.Frag) : List V → Hp → VK → Prop := fun xs H Q => ∃ (a : Addr) (ts : List Addr) (kvs : List (Key × V)), xs = [.ref a] ∧ TupZ H a (ts.map V.ref) ∧ Paired (fun t kv => SqT K H t [kV kv.1, kv.2]) ts kvs ∧ ∀ p, H p = none → Q (.ref p) (upd H p (.dK (mergeK [] kvs)))
theorem call_dictZ (hc : X.calm = true) : CallR X (.type "dict") (rDictZ X.K) := by
  rintro pins s σ H _ us Q I r ⟨a, ts, kvs, rfl, hz, hp, q⟩
  obtain ⟨u, rfl, rx⟩ := vals1 r
  cases rx
  obtain ⟨o, ho, oc, od⟩ := id hz
  obtain ⟨hget, _⟩ := I.hok a _ ho
  obtain ⟨its, rv, ⟨o', hget', _, n, hdat⟩, hsz⟩ := I.tuple (hz.t (K := X.K))
  obtain rfl : o = o' := Option.some.inj (hget.symm.trans hget')
  have ei := refs_at rv
  subst ei
  rw [List.length_map] at hsz
  obtain ⟨prs, ps, rel, l1, l2, hps⟩ := pairs_at I hp
  have P := PairArg.tuple (prog := X.prog) (w := X.w) a (ts.map Value.ref).toArray (fun j => ts.getD j 0) ps
  refine _root_.PySem.call_dict_pairs (knd := mixKind X.prog X.w) (kvs := prs) P (I.ok.hd hc) ⟨⟨o, n, hget, oc, od, hdat⟩, by rw [List.size_toArray, List.length_map, l1], fun j k v e => ?_⟩ ⟨by rw [l1, l2], fun j k v e => ?_⟩ (by rw [l1]; exact hsz) fun h' tk hd' kp => ?_
  · obtain ⟨b, c, e1, e2, _⟩ := hps j k v e
    have eb : ts.getD j 0 = b := by rw [List.getD_eq_getElem?_getD, e1]; rfl
    refine ⟨?_, .inl ?_⟩
    · show _ = some (Value.ref (ts.getD j 0))
      rw [eb]
      simp [e1]
    · show s.heap.IsTuple (ts.getD j 0) _
      rw [eb]
      exact e2
  · obtain ⟨b, c, _, _, e3, e4⟩ := hps j k v e
    exact ⟨c, e3, e4⟩
  · have big : (s.heap.objs.size == sysModules) = false := beq_eq_false_iff_ne.mpr (Nat.ne_of_gt I.big)
    have len : (mergeK [] kvs).length ≤ sizeLine := by
      have z := length_mergeK kvs []
      have z2 := rel.length
      rw [List.length_nil, Nat.zero_add] at z
      omega
    have J := I.laid (t' := tk) (a := s.heap.objs.size) (o := .dK (mergeK [] kvs)) (fun b ob e => kp b ob (fun hm => nomatch hm) e) (Nat.le_refl _) ⟨len, big, merged [] prs, KV.merge rel .nil, hd'⟩
    exact ⟨.ref _, _, J, rfl, q _ (I.hok.fresh (Nat.le_refl _))⟩
end
end Ck

namespace Ck
open PySem PySem.Spec PyProof.Rows L2 StX Evl
def Mkc (P : Program) (w : World) (K : PySem.W.Frag) (mg : Str → Option Value) (base : Heap) (k : Nat) (x : Str) (C : Addr) (sp : Sp) : Prop :=
  ∃ f, Mk K C f ∧ mg x = some (.ref C) ∧ FnR P w K mg base CX0 k f sp
def Pg (P : Program) (w : World) (K : PySem.W.Frag) (mg : Str → Option Value) (base : Heap) (k : Nat) (C : Addr) (x : Str) (sp : Sp) : Prop :=
  Cls K C ∧ ∃ p g fd, PropOf K C x p g ∧ FnOk P w K mg base CX0 k g fd ["self"] sp ∧ Binds K fd ["self"] []
def Og (P : Program) (w : World) (K : PySem.W.Frag) (mg : Str → Option Value) (base : Heap) (k : Nat) (C : Addr) (x : Str) (ps : List Str) (sp : Sp) : Prop :=
  Cls K C ∧ ∃ g fd, PySem.W.findIn K (.ref C) x = some (some (.ref g)) ∧ PySem.W.isFn K (.ref g) = true ∧ PySem.W.fnIn K g = true ∧ PySem.W.keepIn K (.ref g) = true ∧ FnOk P w K mg base CX0 k g fd ps sp ∧ Binds K fd ps []
section
variable {X : Cx} {k j : Nat} {C : Addr} {x : Str} {sp : Sp} {ps : List Str} {e : Expr} {es : List Expr} {te ti : TE} {t : TA} {p pos : Pos}
theorem pmk (c : Mkc X.prog X.w X.K X.mg X.base k x C sp) (hr : Room j X.A) (ha : PA X (e :: es) t) (hk : k + 1 ≤ j := by decide) (hg : Gl X x := by rfl) (hdb : (x == ("__debug__" : Str)) = false := by decide)
    (he : starEach (e :: es) X.env = (false, eval e X.env) :: starEach es X.env := by rfl) (hpl : (backTo pos (starEach es X.env)).any (·.1) = false := by rfl) : PE X (.Call (.Name x p) (e :: es) [] pos) (tMakeR C sp E0 t) := by
  obtain ⟨f, M, hm, F⟩ := c
  exact pe_makeR M F (hr.mono hk) hg hm pass0 ha hdb he hpl
theorem pmk0 (c : Mkc X.prog X.w X.K X.mg X.base k x C sp) (hr : Room j X.A) (hk : k + 1 ≤ j := by decide) (hg : Gl X x := by rfl) (hdb : (x == ("__debug__" : Str)) = false := by decide) : PE X (.Call (.Name x p) [] [] pos) (tMakeR C sp E0 tNil) := by
  obtain ⟨f, M, hm, F⟩ := c
  exact pe_makeR0 M F (hr.mono hk) hg hm pass0 hdb
theorem pprop (c : Pg X.prog X.w X.K X.mg X.base k C x sp) (hr : Room j X.A) (he : PE X e te) (hk : k + 1 ≤ j := by decide) (hab : attributeBase e x X.env (eval e X.env) = eval e X.env := by rfl) : PE X (.Attribute e x pos) (tProp C sp [] E0 te) := by
  obtain ⟨hc, p, g, fd, hp, F, b⟩ := c
  exact pe_prop he hc hp F (hr.mono hk) b .nil pass0 hab
end
def lotF (t1 t2 d : Addr) : List (Str × V) := putF "_counts" (.ref d) (putF "_pairs" (.ref t2) (putF "_sizes" (.ref t1) []))
structure LotAt (K : PySem.W.Frag) (C : Addr) (H : Hp) (a : Addr) (ps : List (Int × Int)) : Prop where
  ex : ∃ dx t1 t2 d ts, H a = some (.ins C dx (lotF t1 t2 d)) ∧ SqT K H t1 ((ps.map Prod.fst).map V.int) ∧ SqT K H t2 ts ∧ F2 (RP K H) ts ps ∧ Dk H d ps
theorem LotAt.up {K : PySem.W.Frag} {C a : Addr} {H H' : Hp} {ps : List (Int × Int)} (h : LotAt K C H a ps) (e : Ex H H') : LotAt K C H' a ps := by
  obtain ⟨dx, t1, t2, d, ts, h1, h2, h3, h4, h5⟩ := h
  exact ⟨dx, t1, t2, d, ts, e _ _ h1, ex_t e h2, ex_t e h3, h4.imp fun x b r => r.ex e, h5.up e⟩
theorem lot_sizes (t1 t2 d : Addr) : (lotF t1 t2 d).lookup ("_sizes" : Str) = some (.ref t1) := by
  unfold lotF
  rw [lookup_putF, if_neg (by decide +kernel), lookup_putF, if_neg (by decide +kernel), lookup_putF, if_pos rfl]
theorem lot_pairs (t1 t2 d : Addr) : (lotF t1 t2 d).lookup ("_pairs" : Str) = some (.ref t2) := by
  unfold lotF
  rw [lookup_putF, if_neg (by decide +kernel), lookup_putF, if_pos rfl]
theorem lot_counts (t1 t2 d : Addr) : (lotF t1 t2 d).lookup ("_counts" : Str) = some (.ref d) := by
  unfold lotF
  rw [lookup_putF, if_pos rfl]
end Ck

namespace Ck
open PySem PySem.Spec PyProof.Rows L2 StX Evl
def Dpr (K : PySem.W.Frag) (C : Addr) (x qual : Str) (st : Stmt) : Prop := ∃ p g fd, PropOf K C x p g ∧ Fun K x qual st g fd ∧ Binds K fd ["self"] []
def Dop (K : PySem.W.Frag) (C : Addr) (x qual : Str) (st : Stmt) (ps : List Str) : Prop :=
  ∃ g fd, PySem.W.findIn K (.ref C) x = some (some (.ref g)) ∧ PySem.W.isFn K (.ref g) = true ∧ PySem.W.fnIn K g = true ∧ PySem.W.keepIn K (.ref g) = true ∧ Fun K x qual st g fd ∧ Binds K fd ps []
def Din (K : PySem.W.Frag) (mg : Str → Option Value) (x : Str) (C : Addr) (qual : Str) (st : Stmt) (ps : List Str) : Prop :=
  ∃ f fd, Mk K C f ∧ mg x = some (.ref C) ∧ FunD K "__init__" qual (defArgs st) (defBody st) (defScope st) [V.non] [] f fd ∧ Binds K fd ps [] ∧ ∃ ds, Vals [V.non] ds ∧ Binds K fd ps ds
section
variable {P : Program} {w : World} {K : PySem.W.Frag} {mg : Str → Option Value} {base : Heap} {k : Nat} {C : Addr} {x qual : Str} {st : Stmt} {N ps : List Str} {sp : Sp}
theorem pg_of (c : Cls K C) (D : Dpr K C x qual st) (S : FnScope N ["self"] (defScope st)) (len : ∀ vs H Q E, sp vs H Q E → vs.length = 1)
    (hbody : ∀ (f : Addr) (cdv : Value) (A : Around) (outer : List Env) (s : Shared) (H : Hp) (vs : List V) (Q : VK) (E : XK), Room k (A.deeper (envOfC qual (defScope st) s.heap.objs.size f cdv)) → sp vs H Q E →
      ∃ t, PSs (cxOf CX0 P w K mg base N qual (defScope st) f cdv A outer s H E).nox (defBody st) t ∧ t { nx := fun _ H' => Q .non H', rt := Q } (start N vs) H) : Pg P w K mg base (k + 1) C x sp := by
  obtain ⟨p, g, fd, hp, F, b⟩ := D
  exact ⟨c, p, g, fd, hp, F.ok S len (hbody g), b⟩
theorem og_of (c : Cls K C) (D : Dop K C x qual st ps) (S : FnScope N ps (defScope st)) (len : ∀ vs H Q E, sp vs H Q E → vs.length = ps.length)
    (hbody : ∀ (f : Addr) (cdv : Value) (A : Around) (outer : List Env) (s : Shared) (H : Hp) (vs : List V) (Q : VK) (E : XK), Room k (A.deeper (envOfC qual (defScope st) s.heap.objs.size f cdv)) → sp vs H Q E →
      ∃ t, PSs (cxOf CX0 P w K mg base N qual (defScope st) f cdv A outer s H E).nox (defBody st) t ∧ t { nx := fun _ H' => Q .non H', rt := Q } (start N vs) H) : Og P w K mg base (k + 1) C x ps sp := by
  obtain ⟨g, fd, h1, h2, h3, h4, F, b⟩ := D
  exact ⟨c, g, fd, h1, h2, h3, h4, F.ok S len (hbody g), b⟩
theorem mkc_of (D : Din K mg x C qual st ps) (S : FnScope N ps (defScope st)) (len : ∀ vs H Q E, sp vs H Q E → vs.length = ps.length)
    (hbody : ∀ (f : Addr) (cdv : Value) (A : Around) (outer : List Env) (s : Shared) (H : Hp) (vs : List V) (Q : VK) (E : XK), Room k (A.deeper (envOfC qual (defScope st) s.heap.objs.size f cdv)) → sp vs H Q E →
      ∃ t, PSs (cxOf CX0 P w K mg base N qual (defScope st) f cdv A outer s H E).nox (defBody st) t ∧ t { nx := fun _ H' => Q .non H', rt := Q } (start N vs) H) :
    Mkc P w K mg base (k + 1) x C sp ∧ Mkc P w K mg base (k + 1) x C fun vs H Q E => sp (vs ++ [.non]) H Q E := by
  obtain ⟨f, fd, M, hm, F, b, ds, hd, b2⟩ := D
  have G : FnOk P w K mg base CX0 (k + 1) f fd ps sp := F.ok S len fun cdv A outer s H vs Q E hr h => by
    obtain ⟨t, h1, h2⟩ := hbody f cdv A outer s H vs Q E hr h
    exact ⟨t, h1.nox, h2⟩
  exact ⟨⟨f, M, hm, (G.raw b .nil).imp fun vs H Q E h => by rw [List.append_nil]; exact h⟩, ⟨f, M, hm, G.raw b2 hd⟩⟩
end
structure LotT (K : PySem.W.Frag) (mg : Str → Option Value) (CL : Addr) : Prop where
  k : Klass K mg "Lot" CL
  n1 : NoAttr K CL "_sizes"
  n2 : NoAttr K CL "_pairs"
  n3 : NoAttr K CL "_counts"
structure Cts (ps : List (Int × Int)) : Prop where
  nd : (ps.map Prod.fst).Nodup
  ln : ps.length ≤ 12
  ok : ∀ p ∈ ps, sizB p.1 = true ∧ sizB p.2 = true
def Asc (ps : List (Int × Int)) : Prop := (ps.map Prod.fst).Pairwise (· < ·)
def spLotI (K : PySem.W.Frag) (C : Addr) : Sp := fun vs H Q _ => ∃ (x dx : Addr) (v : V) (ps : List (Int × Int)) (H0 : Hp), vs = [.ref x, v] ∧ Ex H0 H ∧ H0 x = none ∧ H x = some (.ins C dx []) ∧ Cts ps ∧
  ((v = .non ∧ ps = []) ∨ ∃ d, v = .ref d ∧ H0 d = some (.dK (ps.map kc))) ∧ ∀ qs H', Ex H0 H' → qs.Perm ps → Asc qs → LotAt K C H' x qs → Q .non H'
def spSizes (K : PySem.W.Frag) (C : Addr) : Sp := fun vs H Q _ => ∃ a ps, vs = [.ref a] ∧ LotAt K C H a ps ∧ ∀ t H', Ex H H' → SqT K H' t ((ps.map Prod.fst).map V.int) → Q (.ref t) H'
def spIsLot (K : PySem.W.Frag) (C : Addr) : Sp := fun vs H Q _ => ∃ a ps, vs = [.ref a] ∧ LotAt K C H a ps ∧ ∀ H', Ex H H' → Q .non H'
def spAreC (K : PySem.W.Frag) : Sp := fun vs H Q _ => ∃ d ps, vs = [.ref d] ∧ H d = some (.dK (ps.map kc)) ∧ Cts ps ∧ ∀ H', Ex H H' → Q (.bl true) H'
theorem kit_self {K : PySem.W.Frag} {C : Addr} : PySem.W.kitOne K (.ref C) (.ref C) = some true := by
  unfold PySem.W.kitOne
  rw [if_pos (by simp)]
theorem ev_lenD {te : TE} {σ : L2.St} {H : Hp} {d : Addr} {kvs : List (Key × V)} (h : Ev te σ H (.ref d)) (hd : H d = some (.dK kvs)) :
    Ev (tCB (fun xs H Q => ∃ a kvs, xs = [V.ref a] ∧ H a = some (.dK kvs) ∧ Q (.int kvs.length) H) (tCons te tNil)) σ H (.int (kvs.length : Int)) := fun H1 e Q q => h H1 e _ fun H2 e2 => ⟨d, kvs, rfl, e2 _ _ (e _ _ hd), q H2 e2⟩
theorem el_is {te : TE} {σ : L2.St} {H : Hp} {xs ys : List V} (h : EvL te σ H xs) (e : xs = ys) : EvL te σ H ys := e ▸ h
theorem ev_fldL {K : PySem.W.Frag} {te : TE} {σ : L2.St} {H : Hp} {a C dx : Addr} {fs : List (Str × V)} {f : Str} {v : V} (h : Ev te σ H (.ref a)) (ha : H a = some (.ins C dx fs)) (c : Cls K C) (n : NoAttr K C f) (l : fs.lookup f = some v) :
    Ev (tFld K te f) σ H v := fun H1 e Q q => h H1 e _ fun H2 e2 => ⟨a, C, dx, fs, v, rfl, (e.trans e2) _ _ ha, c, n, l, q H2 e2⟩
theorem siz_nat {i : Int} (h : sizB i = true) : i.natAbs < 10 ^ 200 := (siz_int h).2
theorem bt_dict : bootBuiltins "dict" = some (.type "dict") := by decide +kernel
end Ck

namespace Ck
open PySem PySem.Spec PyProof.Rows L2 StX Evl
def srt (ps : List (Int × Int)) : List (Int × Int) := ps.mergeSort fun p q => decide (p.1 ≤ q.1)
theorem srt_perm (ps : List (Int × Int)) : (srt ps).Perm ps := List.mergeSort_perm ps _
theorem srt_asc {ps : List (Int × Int)} (h : (ps.map Prod.fst).Nodup) : Asc (srt ps) := by
  have h1 : (srt ps).Pairwise fun p q => decide (p.1 ≤ q.1) = true := List.pairwise_mergeSort (fun a b c x y => by simp only [decide_eq_true_eq] at *; omega) (fun a b => by simp only [Bool.or_eq_true, decide_eq_true_eq]; omega) ps
  have h2 : ((srt ps).map Prod.fst).Nodup := (List.Perm.nodup_iff ((srt_perm ps).map Prod.fst)).mpr h
  unfold Asc
  rw [List.pairwise_map]
  have h3 : (srt ps).Pairwise fun p q => p.1 ≠ q.1 := by
    rw [List.nodup_iff_pairwise_ne, List.pairwise_map] at h2
    exact h2
  exact (h1.and h3).imp fun ⟨a, b⟩ => by simp only [decide_eq_true_eq] at a; omega
theorem asc_nodup {ps : List (Int × Int)} (h : Asc ps) : (ps.map Prod.fst).Nodup := List.Pairwise.imp (fun h => by omega) h
theorem cnt_perm {ps qs : List (Int × Int)} (h : (ps.map Prod.fst).Nodup) (p : qs.Perm ps) (s : Int) : cnt qs s = cnt ps s := by
  have h2 : (qs.map Prod.fst).Nodup := (List.Perm.nodup_iff (p.map Prod.fst)).mpr h
  cases e : cnt ps s with
  | none =>
    rw [cnt_none] at e ⊢
    exact fun m => e ((p.map Prod.fst).mem_iff.mp m)
  | some c =>
    rw [← cnt_mem h] at e
    exact (cnt_mem h2).mp (p.mem_iff.mpr e)
theorem Cts.perm {ps qs : List (Int × Int)} (h : Cts ps) (p : qs.Perm ps) : Cts qs := ⟨(List.Perm.nodup_iff (p.map Prod.fst)).mpr h.nd, by rw [p.length_eq]; exact h.ln, fun x hx => h.ok x (p.mem_iff.mp hx)⟩
section
variable {K : PySem.W.Frag} {σ : L2.St} {H : Hp} {te : TE} {d : Addr} {ps : List (Int × Int)}
abbrev rSortD : List V → Hp → VK → Prop := fun xs H Q => ∃ (a : Addr) (kvs : List (Key × V)) (ks : List Int), xs = [.ref a] ∧ Rd H a (.dK kvs) ∧ kvs.map (·.1) = ks.map Sum.inl ∧ ks.length < 64 ∧
  ∀ (ys : List Int) (p : Addr), ys.Perm ks → ys.Pairwise (· ≤ ·) → H p = none → Q (.ref p) (upd H p (.lst (ys.map V.int)))
theorem el_sortD (h : Ev te σ H (.ref d)) (hd : Dk H d ps) (hn : (ps.map Prod.fst).Nodup) (hl : ps.length < 64) : EvL (tCB rSortD (tCons te tNil)) σ H (((srt ps).map Prod.fst).map V.int) := fun H0 e0 Q q =>
  h H0 e0 _ fun H1 e1 => ⟨d, _, ps.map Prod.fst, rfl, hd.up (e0.trans e1), by rw [List.map_map, List.map_map]; rfl, by rw [List.length_map]; exact hl, fun ys p hp hs hn2 => by
    have nd : ys.Nodup := (List.Perm.nodup_iff hp).mpr hn
    have lt : ys.Pairwise (· < ·) := (hs.and (List.nodup_iff_pairwise_ne.mp nd)).imp fun ⟨a, b⟩ => by omega
    have e : ys = (srt ps).map Prod.fst := sorted_one lt (srt_asc hn) fun k => hp.mem_iff.trans ((srt_perm ps).map Prod.fst).mem_iff.symm
    rw [e]
    exact q p _ (fresh_back e1 hn2) (e1.trans (Ex.new hn2)) upd_same⟩
theorem f2_refs {H : Hp} : ∀ {vs : List V} {qs : List (Int × Int)}, F2 (RP K H) vs qs → ∃ ts : List Addr, vs = ts.map V.ref ∧ Paired (fun t (kv : Key × V) => SqT K H t [kV kv.1, kv.2]) ts (qs.map kc)
  | _, _, .nil => ⟨[], rfl, .nil⟩
  | _, _, .cons ⟨t, e, h⟩ tl => by
    obtain ⟨ts, rfl, r⟩ := f2_refs tl
    exact ⟨t :: ts, by rw [e]; rfl, .cons h r⟩
theorem pairs_srt (hn : (ps.map Prod.fst).Nodup) : ((srt ps).map Prod.fst).map (fun n => (n, (cnt ps n).getD 0)) = srt ps := by
  rw [List.map_map]
  have key : ∀ p ∈ srt ps, ((fun n => (n, (cnt ps n).getD 0)) ∘ Prod.fst) p = p := fun p hp => by
    have m := (srt_perm ps).mem_iff.mp hp
    have e := (cnt_mem hn).mp (show (p.1, p.2) ∈ ps from m)
    show (p.1, (cnt ps p.1).getD 0) = p
    rw [e]
    rfl
  rw [List.map_congr_left key, List.map_id']
end
end Ck
namespace Ck
open PySem PySem.Spec PyProof.Rows L2 StX Evl
section
variable {K : PySem.W.Frag} {σ : L2.St} {H : Hp} {D : Ends} {z : TS} {v : V} {ps : List (Int × Int)}
theorem asg_told (h1 : σ[1]? = some (some v)) (hv : (v = .non ∧ ps = []) ∨ ∃ d, v = .ref d ∧ H d = some (.dK (ps.map kc))) (k : ∀ d H1, Ex H H1 → H1 d = some (.dK (ps.map kc)) → z D (σ.set 2 (some (.ref d))) H1) :
    tSeq (tAsg (tIf (tTest (tOp (fun x y H Q => y = .non ∧ Q (.bl (decide (x = .non))) H) (tVar 1) (tC .non))) tDNewK (tVar 1)) (gName 2)) z D σ H := by
  refine ⟨v, h1, rfl, _, rfl, ?_⟩
  rcases hv with ⟨rfl, rfl⟩ | ⟨d, rfl, hd⟩
  · exact iteT fun p hp => k p _ (Ex.new hp) upd_same
  · exact iteF ⟨_, h1, k d H (Ex.refl H) hd⟩
theorem sq_fld {ta tv : TE} {f : Str} (h : tv σ H fun y H1 => ta σ H1 fun x H2 => ∃ a C dx fs, x = .ref a ∧ H2 a = some (.ins C dx fs) ∧ Cls K C ∧ NoAttr K C f ∧ fs.length < 1000 ∧ z D σ (upd H2 a (.ins C dx (putF f y fs)))) : tSeq (sFld K ta tv f) z D σ H := h
theorem one_fld {ta tv : TE} {f : Str} (h : tv σ H fun y H1 => ta σ H1 fun x H2 => ∃ a C dx fs, x = .ref a ∧ H2 a = some (.ins C dx fs) ∧ Cls K C ∧ NoAttr K C f ∧ fs.length < 1000 ∧ D.nx σ (upd H2 a (.ins C dx (putF f y fs)))) : sFld K ta tv f D σ H := h
theorem arec_v {d : Addr} (hd : H d = some (.dK (ps.map kc))) (hc : Cts ps) : SpV (spAreC K) [.ref d] H (.bl true) := fun H1 e Q q E => ⟨d, ps, rfl, e _ _ hd, hc, q⟩
end
theorem up_x {H : Hp} {x b : Addr} {o u : HO} (h : H b = some o) (n : b ≠ x) : upd H x u b = some o := by rw [upd_ne n]; exact h
theorem sqT_x {K : PySem.W.Frag} {H : Hp} {x t C dx : Addr} {fs : List (Str × V)} {u : HO} {xs : List V} (h : SqT K H t xs) (hx : H x = some (.ins C dx fs)) : SqT K (upd H x u) t xs := by
  rcases h with (h | ⟨o, h⟩) | h
  · exact .inl (.inl (up_x h fun e => by rw [e, hx] at h; cases h))
  · exact .inl (.inr ⟨o, up_x h fun e => by rw [e, hx] at h; cases h⟩)
  · exact .inr h
end Ck
namespace Ck
open PySem PySem.Spec PyProof.Rows L2 StX Evl
section
variable {K : PySem.W.Frag} {σ : L2.St} {H : Hp} {tl te : TE} {α : Type} {R : Hp → V → α → Prop} {bs : List α} {a : Addr} {qs : List (Int × Int)}
theorem tz_of (L : ∀ H H' x b, Ex H H' → R H x b → R H' x b) (h : ∀ H1, Ex H H1 → ∀ Q : VK, (∀ D vs H2, H1 D = none → Ex H1 H2 → H2 D = some (.lst vs) → F2 (R H2) vs bs → Q (.ref D) H2) → tl σ H1 Q) :
    ∀ H1, Ex H H1 → ∀ Q : VK, (∀ l vs H2, H1 l = none → Ex H1 H2 → TupZ H2 l vs → F2 (R H2) vs bs → Q (.ref l) H2) → tCB (rTupZ K) (tCons tl tNil) σ H1 Q := fun H1 e1 Q q =>
  h H1 e1 _ fun D vs H2 nD e2 hD hf => ⟨D, vs, rfl, SqL.of hD, fun l o hl oc od => q l vs _ (fresh_back e2 hl) (e2.trans (Ex.new hl)) ⟨o, upd_same, oc, od⟩ (hf.imp fun x b r => L _ _ _ _ (Ex.new hl) r)⟩
theorem dz_of {vs : List V} (h : Ev te σ H (.ref a)) (hz : TupZ H a vs) (hf : F2 (RP K H) vs qs) (hn : (qs.map Prod.fst).Nodup) :
    ∀ H1, Ex H H1 → ∀ Q : VK, (∀ p H2, H1 p = none → Ex H1 H2 → H2 p = some (.dK (qs.map kc)) → Q (.ref p) H2) → tCB (rDictZ K) (tCons te tNil) σ H1 Q := fun H1 e1 Q q =>
  h H1 e1 _ fun H2 e2 => by
    obtain ⟨ts, rfl, hp⟩ := f2_refs (K := K) (hf.imp fun x b r => r.ex (e1.trans e2))
    exact ⟨a, ts, qs.map kc, rfl, hz.ex (e1.trans e2), hp, fun p hp2 => by
      rw [merge_kc hn]
      exact q p _ (fresh_back e2 hp2) (e2.trans (Ex.new hp2)) upd_same⟩
theorem TupZ.x {H : Hp} {x t C dx : Addr} {fs : List (Str × V)} {u : HO} {xs : List V} (h : TupZ H t xs) (hx : H x = some (.ins C dx fs)) : TupZ (L2.upd H x u) t xs := h.imp fun o h => ⟨up_x h.1 (fun e => by rw [e, hx] at h; exact (nomatch h.1)), h.2⟩
theorem RP.x {H : Hp} {x C dx : Addr} {fs : List (Str × V)} {u : HO} {v : V} {p : Int × Int} (hx : H x = some (.ins C dx fs)) (h : RP K H v p) : RP K (L2.upd H x u) v p := h.imp fun t h => ⟨h.1, sqT_x h.2 hx⟩
end
end Ck

namespace Ck
open PySem PySem.Spec PyProof.Rows L2 StX Evl RZ
section
variable {K : PySem.W.Frag} {w : World} {σ : L2.St} {H : Hp} {p : Addr} {te : TE} {ns us : List Int}
theorem el_tss (h : Etu K te σ H (ns.map V.int)) (hl : ns.length < 60) (h1 : us.Pairwise (· < ·)) (h2 : ∀ k, k ∈ us ↔ k ∈ ns) :
    EvL (tCB (rSortedSet w) (tCons (tCB (rSetT K w) (tCons te tNil)) tNil)) σ H (us.map V.int) := fun H0 e0 Q q => h H0 e0 _ fun p H1 e1 hp => ⟨p, ns, rfl, hp, hl, fun b c hb hc =>
  ⟨b, _, c, rfl, upd_same, Nat.lt_of_le_of_lt hc (Nat.lt_trans hl (by decide)), fun vs p2 hpw hmem hlen hp2 => by
    have e : vs = us := sorted_one hpw h1 fun k => ⟨fun hk => (h2 k).mpr (of_decide_eq_true ((hmem k).mp hk)), fun hk => (hmem k).mpr (decide_eq_true ((h2 k).mp hk))⟩
    subst e
    have e2 := (Ex.new (o := SetO w b (fun j => decide (j ∈ ns)) c) hb).trans (Ex.new (o := .lst (vs.map V.int)) hp2)
    exact q p2 _ (fresh_back e1 (fresh_back (Ex.new (o := SetO w b (fun j => decide (j ∈ ns)) c) hb) hp2)) (e1.trans e2) upd_same⟩⟩
end
end Ck
namespace Ck
open PySem PySem.Spec PyProof.Rows L2 StX Evl RZ
section
variable {K : PySem.W.Frag} {σ : L2.St} {H : Hp} {C a : Addr} {te ti tl ta tb : TE} {tt : TT} {ps : List (Int × Int)} {ns : List Int} {s n : Int} {j : Nat} {ws : List Nat}
theorem etu_sizes (h : Ev te σ H (.ref a)) (hl : LotAt K C H a ps) : Etu K (tProp C (spSizes K C) [] E0 te) σ H ((ps.map Prod.fst).map V.int) := fun H1 e Q q => h H1 e _ fun H2 e2 => by
  obtain ⟨dx, t1, t2, d, ts, h1, _⟩ := (hl.up (e.trans e2)).ex
  exact ⟨a, dx, _, rfl, h1, a, ps, rfl, hl.up (e.trans e2), fun t H' e3 ht => q t H' (e2.trans e3) ht⟩
theorem el_lcN (c : Int → Bool) (f : Int → V) (h : Etu K tl σ H (ns.map V.int)) (hz : ns.length ≤ 40000) (hw : ∀ x, wipe ((wipe σ ws).set j (some x)) ws = wipe σ ws)
    (ht : ∀ n ∈ ns, ∀ H1, Ex H H1 → EvT tt ((wipe σ ws).set j (some (.int n))) H1 (c n)) (he : ∀ n ∈ ns, c n = true → ∀ H1, Ex H H1 → Ev te ((wipe σ ws).set j (some (.int n))) H1 (f n)) :
    EvL (tLc (iTup K tl) (gName j) tt te ws) σ H ((ns.filter c).map f) := fun H0 e0 Q q => h H0 e0 _ fun a H1 e1 hx => ⟨a, rfl, ⟨_, hx⟩, fun D hD => by
  refine lc_it walk_tup (fun i H' => H1 D = none ∧ Ex H1 H' ∧ ∃ vs, H' D = some (.lst vs) ∧ vs.length ≤ i ∧ vs = ((ns.take i).filter c).map f) ⟨hD, Ex.new hD, [], upd_same, Nat.le_refl _, rfl⟩ (fun i H' _ p => ex_t p.2.1 hx) ?_ ?_
  · rintro i x H2 H3 hi ⟨p1, p2, vs, p3, p4, p5⟩ ⟨e3, hxi⟩
    rw [e3]
    rw [List.length_map] at hi
    rw [List.getElem?_map, List.getElem?_eq_getElem hi] at hxi
    obtain rfl := Option.some.inj hxi
    have m := List.getElem_mem hi
    have e02 := (e0.trans e1).trans p2
    refine ⟨hw _, ht _ m H2 e02 H2 (Ex.refl H2) _ fun H4 e4 => ?_⟩
    have st : ns.take (i + 1) = ns.take i ++ [ns[i]] := by rw [List.take_add_one, List.getElem?_eq_getElem hi]; rfl
    cases hc : c ns[i] with
    | true =>
      refine iteT (he _ m hc H4 (e02.trans e4) H4 (Ex.refl H4) _ fun H5 e5 => ⟨vs, (e4.trans e5) _ _ p3, sz_lt (by omega), p1, Ex.mut (p2.trans (e4.trans e5)) p1, vs ++ [f ns[i]], upd_same, by rw [List.length_append]; exact Nat.succ_le_succ p4, ?_⟩)
      rw [st, List.filter_append, List.map_append, show [ns[i]].filter c = [ns[i]] by rw [List.filter_cons, hc]; rfl, p5]
      rfl
    | false =>
      refine iteF ⟨p1, p2.trans e4, vs, e4 _ _ p3, Nat.le_succ_of_le p4, ?_⟩
      rw [st, List.filter_append, show [ns[i]].filter c = [] by rw [List.filter_cons, hc]; rfl, List.append_nil]
      exact p5
  · rintro H2 ⟨p1, p2, vs, p3, _, p5⟩
    rw [List.length_map, List.take_of_length_le (Nat.le_refl _)] at p5
    rw [p5] at p3
    exact q D H2 (fresh_back e1 p1) (e1.trans p2) p3⟩
theorem chklot_v (hl : LotAt K C H a ps) : SpV (spIsLot K C) [.ref a] H .non := fun H1 e Q q E => ⟨a, ps, rfl, hl.up e, q⟩
end
theorem cts_pos {ps : List (Int × Int)} (h : Cts ps) : ∀ n ∈ ps.map Prod.fst, 0 < n ∧ n.natAbs < 10 ^ 200 ∧ sizB n = true := fun n hn => by
  obtain ⟨p, hp, rfl⟩ := List.mem_map.mp hn
  obtain ⟨s1, _⟩ := h.ok p hp
  exact ⟨(siz_int s1).1, (siz_int s1).2, s1⟩
end Ck
namespace Ck
open PySem PySem.Spec PyProof.Rows L2 Evl
theorem lay_ints : ∀ ns : List Int, PyData.canLayAll0 (ns.map PyData.int) = true ∧ PyData.depthAll (ns.map PyData.int) = 0
  | [] => ⟨rfl, rfl⟩
  | x :: r => by
    obtain ⟨a, b⟩ := lay_ints r
    exact ⟨by rw [List.map_cons]; simp only [PyData.canLayAll0, a]; rfl, by rw [List.map_cons]; simp only [PyData.depthAll, b]; rfl⟩
theorem shaped_tints (ns : List Int) : SeqAt.shaped (.tuple (ns.map PyData.int)) = true := by
  obtain ⟨a, b⟩ := lay_ints ns
  unfold SeqAt.shaped
  simp only [PyData.canLay0, PyData.depth, a, b]
  rfl
theorem eqv_tnil (ns : List Int) : PyData.eqv (.tuple (ns.map PyData.int)) (.tuple []) = decide (ns = []) := by
  cases ns with
  | nil => rfl
  | cons a r => rfl
end Ck

namespace Ck
open PySem PySem.Spec PyProof.Rows L2 Evl
end Ck

namespace Ck
open PySem PySem.Spec PyProof.Rows L2 Evl
structure Chd (ns : List Int) (L : Int) : Prop where
  last : ∃ r, ns = r ++ [L]
  pw : ns.Pairwise fun a b => a < b ∧ a ∣ b
  pos : ∀ n ∈ ns, 0 < n ∧ n ≤ L ∧ n ∣ L
theorem Chd.one {L : Int} (h : 0 < L) : Chd [L] L := ⟨⟨[], rfl⟩, List.pairwise_singleton _ _, fun n hn => by cases List.mem_singleton.mp hn; exact ⟨h, Int.le_refl _, Int.dvd_refl _⟩⟩
theorem Chd.posL {ns : List Int} {L : Int} (h : Chd ns L) : 0 < L := by
  obtain ⟨r, e⟩ := h.last
  exact (h.pos L (by rw [e]; exact List.mem_append_right _ (List.mem_singleton.mpr rfl))).1
theorem Chd.at {ns : List Int} {L : Int} (h : Chd ns L) : atI (ns.map V.int) (-1) = some (.int L) := by
  obtain ⟨r, rfl⟩ := h.last
  rw [List.map_append]
  exact atI_last _ _
theorem Chd.snoc {ns : List Int} {L s : Int} (h : Chd ns L) (hs : 2 ≤ s) : Chd (ns ++ [L * s]) (L * s) := by
  have l0 := h.posL
  have lt : L < L * s := by
    have : L * 2 ≤ L * s := Int.mul_le_mul_of_nonneg_left hs (by omega)
    omega
  have dv : L ∣ L * s := Int.dvd_mul_right L s
  refine ⟨⟨ns, rfl⟩, List.pairwise_append.mpr ⟨h.pw, List.pairwise_singleton _ _, fun a ha b hb => ?_⟩, fun n hn => ?_⟩
  · cases List.mem_singleton.mp hb
    obtain ⟨_, h2, h3⟩ := h.pos a ha
    exact ⟨by omega, Int.dvd_trans h3 dv⟩
  · rcases List.mem_append.mp hn with m | m
    · obtain ⟨h1, h2, h3⟩ := h.pos n m
      exact ⟨h1, by omega, Int.dvd_trans h3 dv⟩
    · cases List.mem_singleton.mp m
      exact ⟨by omega, Int.le_refl _, Int.dvd_refl _⟩
theorem cons_eraseIdx {α : Type} : ∀ (xs : List α) (k : Nat) (h : k < xs.length), (xs[k] :: xs.eraseIdx k).Perm xs
  | x :: r, 0, _ => List.Perm.refl _
  | x :: r, k + 1, h => (List.Perm.swap x _ _).trans (List.Perm.cons x (cons_eraseIdx r k (Nat.lt_of_succ_lt_succ h)))
def spMade (K : PySem.W.Frag) (C : Addr) : Sp := fun vs H Q _ => ∃ d ps, vs = [.ref d] ∧ H d = some (.dK (ps.map kc)) ∧ Cts ps ∧ ∀ a qs H', Ex H H' → qs.Perm ps → Asc qs → LotAt K C H' a qs → Q (.ref a) H'
def RD (H : Hp) (x : V) (ps : List (Int × Int)) : Prop := ∃ d, x = .ref d ∧ H d = some (.dK (ps.map kc))
end Ck
namespace Ck
open PySem PySem.Spec PyProof.Rows L2 Evl
theorem putK_new {ps : List (Int × Int)} {s c : Int} (h : s ∉ ps.map Prod.fst) : putK (ps.map kc) (Sum.inl s : Key) (.int c) = (ps ++ [(s, c)]).map kc := by
  unfold putK
  rw [valV_any, valV_kc, cnt_none.mpr h]
  show (if false = true then _ else _) = _
  rw [if_neg Bool.false_ne_true, List.map_append]
  rfl
end Ck
namespace Ck
open PySem PySem.Spec PyProof.Rows L2 StX Evl
theorem range_getD (ps : List (Int × Int)) : (List.range ps.length).map (fun i => ps.getD i (0, 0)) = ps := by
  refine List.ext_getElem (by rw [List.length_map, List.length_range]) fun i h1 h2 => ?_
  rw [List.getElem_map, List.getElem_range, List.getD_eq_getElem?_getD, List.getElem?_eq_getElem h2]
  rfl
theorem kc_at {ps : List (Int × Int)} {i : Nat} {k : Key} {x : V} (h : (ps.map kc)[i]? = some (k, x)) : ∃ p ∈ ps, ps.getD i (0, 0) = p ∧ k = Sum.inl p.1 ∧ x = V.int p.2 := by
  rw [List.getElem?_map] at h
  obtain ⟨p, hp, e⟩ := Option.map_eq_some_iff.mp h
  obtain ⟨rfl, rfl⟩ := Prod.mk.inj e
  exact ⟨p, List.mem_of_getElem? hp, by rw [List.getD_eq_getElem?_getD, hp]; rfl, rfl, rfl⟩
section
variable {K : PySem.W.Frag} {σ : L2.St} {H : Hp} {tl te : TE} {tt : TT} {ta : TA} {C d : Addr} {ps qs : List (Int × Int)} {j : Nat} {ws : List Nat}
abbrev rDictP (K : PySem.W.Frag) : List V → Hp → VK → Prop := fun xs H Q => ∃ (a : Addr) (ps : List Addr) (kvs : List (Key × V)), xs = [.ref a] ∧ SqL K H a (ps.map V.ref) ∧ Paired (fun p kv => SqT K H p [kV kv.1, kv.2]) ps kvs ∧
  ∀ p, H p = none → Q (.ref p) (upd H p (.dK (mergeK [] kvs)))
theorem dl_of (h : ∀ H1, Ex H H1 → ∀ Q : VK, (∀ D vs H2, H1 D = none → Ex H1 H2 → H2 D = some (.lst vs) → F2 (RP K H2) vs qs → Q (.ref D) H2) → tl σ H1 Q) (hn : (qs.map Prod.fst).Nodup) :
    ∀ H1, Ex H H1 → ∀ Q : VK, (∀ p H2, H1 p = none → Ex H1 H2 → H2 p = some (.dK (qs.map kc)) → Q (.ref p) H2) → tCB (rDictP K) (tCons tl tNil) σ H1 Q := fun H1 e1 Q q =>
  h H1 e1 _ fun D vs H2 nD e2 hD hf => by
    obtain ⟨ts, rfl, hp⟩ := f2_refs hf
    exact ⟨D, ts, qs.map kc, rfl, SqL.of hD, hp, fun p hp2 => by
      rw [merge_kc hn]
      exact q p _ (fresh_back e2 hp2) (e2.trans (Ex.new hp2)) upd_same⟩
theorem lc_self (hv : ∀ H1, Ev te σ H1 (.ref d)) (hv2 : ∀ x H1, Ev te ((wipe σ ws).set j x) H1 (.ref d)) (hj : ∀ x : V, ((wipe σ ws).set j (some x))[j]? = some (some x)) (hd : H d = some (.dK (ps.map kc))) (hn : (ps.map Prod.fst).Nodup) (hl : ps.length ≤ 40000) (hw : ∀ x, wipe ((wipe σ ws).set j (some x)) ws = wipe σ ws) :
    ∀ H1, Ex H H1 → ∀ Q : VK, (∀ D vs H2, H1 D = none → Ex H1 H2 → H2 D = some (.lst vs) → F2 (RP K H2) vs ps → Q (.ref D) H2) → tLockE (tLc (iKeys te) (gName j) tYes (tTup (tCons (tVar j) (tCons (tDGet te (tVar j)) tNil))) ws) σ H1 Q := by
  have z := lc_keysP (K := K) (H := H) (td := te) (te := tTup (tCons (tVar j) (tCons (tDGet te (tVar j)) tNil))) (fun i => ps.getD i (0, 0)) hv hd (by rw [List.length_map]; exact hl) hw (fun i k x H1 hk hf => by
    obtain ⟨p, hp, e, rfl, rfl⟩ := kc_at hk
    rw [e]
    exact evr_pair (ev_var (hj _)) (ev_dget (hv2 _ H1) (ev_var (hj _)) (fun H2 e2 => (hf.to e2).dk) ((cnt_mem hn).mp hp)))
  rw [List.length_map, range_getD] at z
  exact z
theorem lot_make (h : ∀ Q : VK, (∀ p H1, Ex H H1 → H1 p = some (.dK (ps.map kc)) → Q (.ref p) H1) → te σ H Q) (hc : Cts ps) (Q : VK) (q : ∀ a qs H', Ex H H' → qs.Perm ps → Asc qs → LotAt K C H' a qs → Q (.ref a) H') :
    tMakeR C (spLotI K C) E0 (tCons te tNil) σ H Q := h _ fun p H1 e1 h1 x dx nx ndx ne => by
  have e2 : Ex H1 (upd (upd H1 dx (.own x)) x (.ins C dx [])) := Ex.mut (Ex.new ndx) nx
  exact ⟨x, dx, .ref p, ps, H1, rfl, e2, nx, upd_same, hc, .inr ⟨p, rfl, h1⟩, fun qs H' e3 hp ha hl => ⟨rfl, q x qs H' (e1.trans e3) hp ha hl⟩⟩
end
theorem given_if (ps : List (Int × Int)) (c : Int × Int → Bool) (g : Int × Int → Int) : given ps.length (fun i => c (ps.getD i (0, 0))) (fun i => V.int (g (ps.getD i (0, 0)))) = ((ps.filter c).map g).map V.int := by
  unfold given
  conv => rhs; rw [← range_getD ps, List.filter_map, List.map_map, List.map_map]
  rfl
end Ck

namespace Ck
open PySem PySem.Spec PyProof.Rows L2 StX Evl
def EvP (K : PySem.W.Frag) (te : TE) (σ : L2.St) (H : Hp) (qs : List (Int × Int)) : Prop := ∀ H1, Ex H H1 → ∀ Q : VK, (∀ D vs H2, H1 D = none → Ex H1 H2 → H2 D = some (.lst vs) → F2 (RP K H2) vs qs → Q (.ref D) H2) → te σ H1 Q
section
variable {K : PySem.W.Frag} {σ : L2.St} {H : Hp} {ta tb te : TE} {d : Addr} {qs rs : List (Int × Int)} {a b : Int}
theorem f2_of_paired {H' : Hp} : ∀ {ts : List Addr} {qs : List (Int × Int)}, Paired (fun (t : Addr) (q : Key × V) => H' t = some (.tup [kV q.1, q.2])) ts (qs.map kc) → F2 (RP K H') (ts.map V.ref) qs
  | [], [], _ => .nil
  | t :: ts, q :: qs, .cons h r => .cons ⟨t, rfl, SqT.of h⟩ (f2_of_paired r)
theorem evp_one (ha : Ev ta σ H (.int a)) (hb : Ev tb σ H (.int b)) : EvP K (tLst (tCons (tTup (tCons ta (tCons tb tNil))) tNil)) σ H [(a, b)] := fun H1 e Q q =>
  evr_pair (K := K) ha hb H1 e (fun x H2 => tNil σ H2 fun xs H3 => (x :: xs).length ≤ sizeLine ∧ ∀ p, H3 p = none → Q (.ref p) (L2.upd H3 p (.lst (x :: xs)))) fun v H2 e2 hv => ⟨(show 1 ≤ sizeLine by decide), fun p hp => q p [v] _ (fresh_back e2 hp) (e2.trans (Ex.new hp)) upd_same (.cons (hv.ex (Ex.new hp)) .nil)⟩
end
end Ck
namespace Ck
open PySem PySem.Spec PyProof.Rows L2 StX Evl
theorem sum_of_perm {a b : List Int} (h : a.Perm b) : a.sum = b.sum := by
  induction h with
  | nil => rfl
  | cons x _ ih => rw [List.sum_cons, List.sum_cons, ih]
  | swap x y l => rw [List.sum_cons, List.sum_cons, List.sum_cons, List.sum_cons]; omega
  | trans _ _ a b => rw [a, b]
end Ck

namespace Ck
open PySem PySem.Spec PyProof.Rows L2 StX Evl RZ
theorem self_cnt {ps : List (Int × Int)} (h : (ps.map Prod.fst).Nodup) : (ps.map Prod.fst).map (fun n => (n, (cnt ps n).getD 0)) = ps := by
  rw [List.map_map]
  have key : ∀ p ∈ ps, ((fun n => (n, (cnt ps n).getD 0)) ∘ Prod.fst) p = p := fun p hp => by
    show (p.1, (cnt ps p.1).getD 0) = p
    rw [(cnt_mem h).mp (show (p.1, p.2) ∈ ps from hp)]
    rfl
  rw [List.map_congr_left key, List.map_id']
theorem asc_unique {a b : List (Int × Int)} (ha : Asc a) (hb : Asc b) (p : a.Perm b) : a = b := by
  have k : a.map Prod.fst = b.map Prod.fst := sorted_one ha hb fun k => (p.map Prod.fst).mem_iff
  rw [← self_cnt (asc_nodup ha), ← self_cnt (asc_nodup hb), k]
  exact List.map_congr_left fun n _ => by rw [cnt_perm (asc_nodup hb) p]
theorem siz_of {i : Int} (h : 0 < i) (h2 : i.natAbs < 10 ^ 200) : sizB i = true := by
  unfold sizB intB
  rw [decide_eq_true h2, decide_eq_true (show 1 ≤ i by omega)]
  rfl
section
variable {K : PySem.W.Frag} {σ : L2.St} {H : Hp} {tl te ty td : TE} {tt : TT} {a p : Addr} {ns : List Int} {n : Int} {j : Nat} {ws : List Nat}
end
end Ck
namespace Ck
open PySem PySem.Spec PyProof.Rows L2
theorem Chd.nodup {ns : List Int} {L : Int} (h : Chd ns L) : ns.Nodup := List.Pairwise.imp (fun {a b} (x : a < b ∧ a ∣ b) (e : a = b) => by omega) h.pw
end Ck
namespace Ck
open PySem PySem.Spec PyProof.Rows L2 StX Evl
section
variable {K : PySem.W.Frag} {σ : L2.St} {H : Hp} {ta tb te : TE} {tr : TA} {C a : Addr} {ds es : List PyData}
end
end Ck

namespace Ck
open PySem PySem.Spec PyProof.Rows L2 StX Evl
section
variable {K : PySem.W.Frag} {mg : Str → Option Value} {x qual : Str} {C f p g T : Addr} {st : Stmt} {ps : List Str} {oc kV dc pm cd ct oT : Value} {od an dT : Option Addr} {sl sT : Array (Option Value)} {nT : Nat} {rest : List Value}
theorem dpr_mk (a : PySem.W.findIn K (.ref C) x = some (some (.ref p))) (gt : PySem.W.specialIn K (.ref p) "__get__" = some (some (.builtin "property.__get__"))) (tk : PySem.W.takesIn K (.ref p) = some true) (rc : PySem.W.recIn K p "property" = some (.ref g :: rest))
    (l : K.lookup g = some ⟨oc, od, .func (PySem.W.fnOf x qual (defArgs st) (defBody st) (defScope st) .none kV dc pm an cd ct), sl⟩) (c : PySem.W.codeIn K cd qual = true) (k : PySem.W.keepIn K (.ref g) = true)
    (h : ∀ (kV doc pm : Value) (an : Option Addr) (cdv ct : Value) (us : List Value), us.length = (["self"] : List Str).length → bindArgs (PySem.W.fnOf x qual (defArgs st) (defBody st) (defScope st) .none kV doc pm an cdv ct) ⟨us, []⟩ = pure ((["self"] : List Str).zip us)) : Dpr K C x qual st :=
  ⟨p, g, _, ⟨a, gt, tk, rest, rc⟩, fun_mk l c k, (fun_mk (st := st) l c k).binds h⟩
theorem dop_mk (a : PySem.W.findIn K (.ref C) x = some (some (.ref g))) (i : PySem.W.isFn K (.ref g) = true) (fi : PySem.W.fnIn K g = true)
    (l : K.lookup g = some ⟨oc, od, .func (PySem.W.fnOf x qual (defArgs st) (defBody st) (defScope st) .none kV dc pm an cd ct), sl⟩) (c : PySem.W.codeIn K cd qual = true) (k : PySem.W.keepIn K (.ref g) = true)
    (h : ∀ (kV doc pm : Value) (an : Option Addr) (cdv ct : Value) (us : List Value), us.length = ps.length → bindArgs (PySem.W.fnOf x qual (defArgs st) (defBody st) (defScope st) .none kV doc pm an cdv ct) ⟨us, []⟩ = pure (ps.zip us)) : Dop K C x qual st ps :=
  ⟨g, _, a, i, fi, k, fun_mk l c k, (fun_mk (st := st) l c k).binds h⟩
theorem din_mk (gc : mg x = some (.ref C)) (mks : PySem.W.makesIn K C = true) (a : PySem.W.findIn K (.ref C) "__init__" = some (some (.ref f))) (i : PySem.W.isFn K (.ref f) = true) (kc : PySem.W.keepIn K (.ref C) = true)
    (l : K.lookup f = some ⟨oc, od, .func (PySem.W.fnOf "__init__" qual (defArgs st) (defBody st) (defScope st) (.ref T) kV dc pm an cd ct), sl⟩) (lT : K.lookup T = some ⟨oT, dT, .seq #[.none] nT, sT⟩) (c : PySem.W.codeIn K cd qual = true) (k : PySem.W.keepIn K (.ref f) = true) (h2 : ps.length = 2)
    (b2 : ∀ (T : Addr) (kV doc pm : Value) (an : Option Addr) (cdv ct : Value) (us its : List Value), us.length = 2 → its.length = 1 →
      ∃ k, bindArgs (PySem.W.fnOf "__init__" qual (defArgs st) (defBody st) (defScope st) (.ref T) kV doc pm an cdv ct) ⟨us, []⟩ = seqItems? (.ref T) >>= k ∧ k (some its.toArray) = pure (ps.zip (us ++ its.drop 1)))
    (b1 : ∀ (T : Addr) (kV doc pm : Value) (an : Option Addr) (cdv ct : Value) (us its : List Value), us.length = 1 → its.length = 1 →
      ∃ k, bindArgs (PySem.W.fnOf "__init__" qual (defArgs st) (defBody st) (defScope st) (.ref T) kV doc pm an cdv ct) ⟨us, []⟩ = seqItems? (.ref T) >>= k ∧ k (some its.toArray) = pure (ps.zip (us ++ its.drop 0))) : Din K mg x C qual st ps := by
  have F : FunD K "__init__" qual (defArgs st) (defBody st) (defScope st) [V.non] [] f (PySem.W.fnOf "__init__" qual (defArgs st) (defBody st) (defScope st) (.ref T) kV dc pm an cd ct) :=
    ⟨⟨oc, od, .ref T, kV, dc, pm, an, cd, ct, sl, rfl, l, c, .inr ⟨List.cons_ne_nil _ _, T, _, [.none], nT, rfl, lT, rfl, .cons rfl .nil⟩, .inl rfl⟩, k⟩
  refine ⟨f, _, ⟨mks, a, i, kc⟩, gc, F, ?_, F.binds1 1 0 (List.cons_ne_nil _ _) (by rw [h2]; rfl) b1⟩
  obtain ⟨ds, v, b⟩ := F.binds1 2 1 (List.cons_ne_nil _ _) (by rw [h2]; rfl) b2
  cases v
  exact b
end
end Ck

namespace Ck
open PySem PySem.Spec PyProof.Rows L2 Evl
theorem bool_iff {a b : Bool} (h : a = true ↔ b = true) : a = b := by
  cases a <;> cases b <;> simp at h <;> rfl
section
variable {us : List (Int × Int)} {p : Int × Int}
end
end Ck

namespace Ck
open PySem PySem.Spec PyProof.Rows L2 Evl
end Ck

namespace Ck
open PySem PySem.Spec PyProof.Rows L2
section
variable {P : Program} {w : World} {A : Around} {E : Value → Shared → Prop} {s : Shared} {a : Addr}
end
section
variable {X : Cx}
end
section
variable {X : Cx} {k j : Nat} {C : Addr} {sp : Sp} {ps : List Str}
def rLenO (C : Addr) (sp : Sp) : List V → Hp → VK → Prop := fun xs H Q => ∃ a dx fs, xs = [V.ref a] ∧ H a = some (.ins C dx fs) ∧ sp [.ref a] H (fun v H' => ∃ n : Nat, v = .int n ∧ n < 100000 ∧ Q (.int n) H') E0
theorem call_lenO (c : Og X.prog X.w X.K X.mg X.base k C "__len__" ps sp) (hr : Room j X.A) (hk : k + 1 ≤ j := by decide) : CallR X (.builtin "len") (rLenO C sp) := by
  obtain ⟨hc, g, fd, hs, hfn, hf, kp, F, b⟩ := c
  intro pins s σ H xs us Q I r h
  obtain ⟨a, dx, fs, rfl, ha, hsp⟩ := h
  rw [Vals.ref1 r]
  obtain ⟨mA, J, _⟩ := ins_get I.hok ha
  obtain ⟨od, J, _⟩ := J.look
  obtain ⟨m, hF⟩ := I.fr
  refine PySem.W.len_K hF I.ok.mod.kin J hs hfn (run_own (vs := [.ref a]) F b (hr.mono hk).in1 rfl I (.cons rfl .nil) hsp fun v u H' s' I' rv q => ?_)
  obtain ⟨n, rfl, hn, q⟩ := q
  obtain ⟨tk, rfl⟩ := rv
  have l63 : ((n : Nat) : Int) < 2 ^ 63 := Int.lt_of_lt_of_le (show ((n : Nat) : Int) < 100000 by omega) (by decide)
  exact ⟨⟨Int.natCast_nonneg n, l63⟩, .int n, H', I'.tok _, ⟨_, rfl⟩, q⟩
end
end Ck
namespace Ck
open PySem PySem.Spec PyProof.Rows L2
section
variable {X : Cx}
end
end Ck

namespace Ck
open PySem PySem.Spec PyProof.Rows L2 StX Evl
theorem F2.rev {α : Type} {R : V → α → Prop} : ∀ {xs : List V} {as : List α}, F2 R xs as → F2 R xs.reverse as.reverse
  | _, _, .nil => .nil
  | x :: xs, a :: as, .cons h t => by
    rw [List.reverse_cons, List.reverse_cons]
    exact F2.app (F2.rev t) (.cons h .nil)
def spBtw : Sp := fun vs H Q _ => ∃ v lo hi : Int, vs = [.int v, .int lo, .int hi] ∧ v.natAbs < 10 ^ 200 ∧ lo ≤ v ∧ v ≤ hi ∧ ∀ H', Ex H H' → Q .non H'
def spLen (K : PySem.W.Frag) (C : Addr) : Sp := fun vs H Q _ => ∃ a ps, vs = [.ref a] ∧ LotAt K C H a ps ∧ ∀ H', Ex H H' → Q (.int (ps.length : Int)) H'
section
variable {K : PySem.W.Frag} {σ : L2.St} {H : Hp} {C a l : Addr} {te tl : TE} {ta : TA} {ps : List (Int × Int)} {ns us : List Int} {xs : List V} {ts : List (Int × Int × Int)} {b n : Int} {w : World}
end
end Ck
namespace Ck
open PySem PySem.Spec PyProof.Rows L2 StX Evl
theorem atI_0 (x : V) (xs : List V) : atI (x :: xs) 0 = some x := atI_nat (xs := x :: xs) (j := 0) rfl
section
variable {K : PySem.W.Frag} {σ : L2.St} {H : Hp} {C a : Addr} {te tb : TE} {ps : List (Int × Int)} {xs : List V} {i : Int} {v : V}
theorem ev_lenO (h : Ev te σ H (.ref a)) (hl : LotAt K C H a ps) (hz : ps.length < 100000) : Ev (tCB (rLenO C (spLen K C)) (tCons te tNil)) σ H (.int (ps.length : Int)) := fun H1 e Q q => h H1 e _ fun H2 e2 => by
  obtain ⟨dx, t1, t2, d, ts, h1, _⟩ := (hl.up (e.trans e2)).ex
  exact ⟨a, dx, _, rfl, h1, a, ps, rfl, hl.up (e.trans e2), fun H' e3 => ⟨ps.length, rfl, hz, q H' (e2.trans e3)⟩⟩
end
end Ck
namespace Ck
open PySem PySem.Spec PyProof.Rows L2 StX Evl
section
variable {K : PySem.W.Frag} {σ : L2.St} {H : Hp} {C a d p : Addr} {ta te tb tl : TE} {tr : TA} {ps : List (Int × Int)} {xs : List V} {i n : Int} {v : V} {j : Nat} {ws : List Nat} {kvs : List (Key × V)}
end
theorem eqv_lints (ms ns : List Int) : PyData.eqv (.list (ms.map PyData.int)) (.list (ns.map PyData.int)) = decide (ms = ns) := by
  simp only [PyData.eqv, eqv_tups]
theorem shaped_lints (ns : List Int) : SeqAt.shaped (.list (ns.map PyData.int)) = true := by
  obtain ⟨a, b⟩ := lay_ints ns
  unfold SeqAt.shaped
  simp only [PyData.canLay0, PyData.depth, a, b]
  rfl
end Ck
namespace Ck
end Ck
namespace Ck
open PySem PySem.Spec PyProof.Rows L2 StX Evl
theorem ev_neg {σ : L2.St} {H : Hp} {te : TE} {i : Int} (h : Ev te σ H (.int i)) : Ev (tUn (rU fun i => .int (-i)) te) σ H (.int (-i)) := ev_un h fun H1 _ _ q => ⟨i, rfl, q H1 (Ex.refl H1)⟩
end Ck
namespace Ck
open PySem PySem.Spec PyProof.Rows L2 StX Evl
section
variable {K : PySem.W.Frag} {σ : L2.St} {H : Hp} {C a : Addr} {te : TE}
end
end Ck

namespace Ck
open PySem PySem.Spec PyProof.Rows L2 Evl
end Ck
namespace Ck
open PySem PySem.Spec PyProof.Rows L2 StX Evl
section
variable {K : PySem.W.Frag} {σ : L2.St} {H : Hp} {td te : TE} {tt : TT} {d : Addr} {od : Obj} {kvs : List (Key × V)} {j : Nat} {ws : List Nat}
end
end Ck
namespace Ck
open PySem PySem.Spec PyProof.Rows L2 StX Evl
section
variable {K : PySem.W.Frag} {σ : L2.St} {H : Hp} {ta tb te tl : TE} {d : Addr} {ps : List (Int × Int)} {ns : List Int} {xs ys : List V}
theorem el_catL (ha : EvL ta σ H xs) (hb : EvL tb σ H ys) (hz : xs.length + ys.length ≤ 100000) : EvL (tOp rCat ta tb) σ H (xs ++ ys) := fun H1 e Q q => ha H1 e _ fun a H2 n2 e2 hx => hb H2 (e.trans e2) _ fun b H3 n3 e3 hy =>
  ⟨a, b, xs, ys, rfl, rfl, e3 _ _ hx, hy, sz_of hz, fun p hp => q p _ (fresh_back (e2.trans e3) hp) ((e2.trans e3).trans (Ex.new hp)) upd_same⟩
end
end Ck
namespace Ck
open PySem PySem.Spec PyProof.Rows L2 StX Evl
end Ck
namespace Ck
open PySem PySem.Spec PyProof.Rows L2 StX Evl
section
variable {K : PySem.W.Frag} {H H' : Hp} {d : Addr}
theorem dice_ne {b : Addr} {o : HO} (hd : Dice H d) (h : H b = some o) (n : ∀ xs, o ≠ .lst xs) : b ≠ d := fun e => by
  obtain ⟨x, y, z, q⟩ := hd
  rw [e, q] at h
  exact n _ (Option.some.inj h).symm
theorem sqT_kp {t : Addr} {xs : List V} (hd : Dice H d) (k : Kp d H H') (h : SqT K H t xs) : SqT K H' t xs := by
  rcases h with (h | ⟨o, h⟩) | h
  · exact .inl (.inl (k _ _ (dice_ne hd h fun _ z => by cases z) h))
  · exact .inl (.inr ⟨o, k _ _ (dice_ne hd h fun _ z => by cases z) h⟩)
  · exact .inr h
end
end Ck
namespace Ck
open PySem PySem.Spec PyProof.Rows L2 StX Evl
section
variable {K : PySem.W.Frag} {σ : L2.St} {H : Hp} {ta tb : TE}
end
end Ck

namespace Ck
open PySem PySem.Spec PyProof.Rows L2
section
variable {X : Cx}
end
section
variable {X : Cx} {k j : Nat} {C : Addr} {m : Str} {sp : Sp} {ps : List Str} {e o : Expr} {es : List Expr} {ta : TE} {t : TA} {apos pos : Pos} {pl : Sem Bool}
theorem pmeth (c : Og X.prog X.w X.K X.mg X.base k C m ps sp) (hr : Room j X.A) (he : PE X o ta) (ha : PA X (e :: es) t) (hk : k ≤ j := by decide)
    (hst : starEach (e :: es) X.env = (false, eval e X.env) :: starEach es X.env := by rfl) (hpl : (backTo pos (starEach es X.env)).any (·.1) = false := by rfl)
    (ht : eval (.Call (.Attribute o m apos) (e :: es) [] pos) X.env = (do
      let ov ← eval o X.env
      standAt apos.atName
      let (f, first) ← holding [ov] (getMethod ov m pl)
      callWith pos f first (backTo pos (starEach (e :: es) X.env)) (backToKw pos (keywordEach [] X.env))) := by rfl) :
    PE X (.Call (.Attribute o m apos) (e :: es) [] pos) (tMeth C m sp [] E0 ta t) := by
  obtain ⟨hc, g, fd, hs, hfn, hf, kp, F, b⟩ := c
  exact pe_meth (pl := pl) he hc ⟨hs, hfn, kp⟩ F (hr.mono hk) b .nil pass0 ha hst hpl ht
end
end Ck

namespace Ck
open PySem PySem.Spec PyProof.Rows L2 StX Evl
def spCounts (K : PySem.W.Frag) (C : Addr) : Sp := fun vs H Q _ => ∃ a ps, vs = [.ref a] ∧ LotAt K C H a ps ∧ ∀ p H', Ex H H' → H p = none → H' p = some (.dK (ps.map kc)) → Q (.ref p) H'
end Ck
namespace Ck
open PySem PySem.Spec PyProof.Rows L2 StX Evl
theorem et_tupN {K : PySem.W.Frag} {σ : L2.St} {H : Hp} {te : TE} {t : Addr} {ns : List Int} (h : Ev te σ H (.ref t)) (ht : SqT K H t (ns.map V.int)) : EvT (fun σ H Q => te σ H fun x H' => ∃ k, TruV K x H' k ∧ Q k H') σ H (!decide (ns = [])) := fun H1 e _ q => h H1 e _ fun H2 e2 => ⟨!decide (ns = []), .inr (.inl ⟨ns.map V.int, ex_t (e.trans e2) ht, by cases ns <;> rfl⟩), q H2 e2⟩
end Ck
namespace Ck
open PySem PySem.Spec PyProof.Rows L2 StX Evl
section
variable {K : PySem.W.Frag}
theorem kit_ofT {T : String} {C : Addr} {b : Bool} (h : PySem.W.subIn K (.type T) (.ref C) = some b) (hc : PySem.W.isClsIn K C = true) (ht : PySem.W.typeIn K (.ref C) = some (.type "type")) : PySem.W.kitOne K (.type T) (.ref C) = some b := by
  unfold PySem.W.kitOne
  rw [if_neg (by simp)]
  show (if ((PySem.W.clsIn K C).isSome && PySem.W.typeIn K (.ref C) == some (.type "type")) = true then PySem.W.subIn K (.type T) (.ref C) else none) = some b
  rw [if_pos (by rw [show (PySem.W.clsIn K C).isSome = true from hc, ht]; rfl), h]
theorem kit_toT {D : Addr} {T : String} {b : Bool} (h : PySem.W.subIn K (.ref D) (.type T) = some b) (hm : PySem.W.kitMeta T = true) : PySem.W.kitOne K (.ref D) (.type T) = some b := by
  show (if PySem.W.kitMeta T = true then PySem.W.subIn K (.ref D) (.type T) else none) = some b
  rw [if_pos hm, h]
end
section
variable {K : PySem.W.Frag} {C : Addr} {p : Int → Bool} {H : Hp} {i : Int} {x : V}
end
end Ck
namespace Ck
open PySem PySem.Spec PyProof.Rows L2 StX Evl
section
variable {K : PySem.W.Frag} {σ : L2.St} {H : Hp} {ta tb : TE} {t : Addr} {xs : List V} {i : Int} {ns : List Int}
end
end Ck
namespace Ck
open PySem PySem.Spec PyProof.Rows L2 StX Evl
end Ck
namespace Ck
open PySem PySem.Spec PyProof.Rows L2 StX Evl
end Ck

namespace Ck
open PySem PySem.Spec PyProof.Rows L2 StX Evl
section
variable {K : PySem.W.Frag} {σ : L2.St} {H : Hp} {d g : Addr} {td te tk : TE} {tt : TT} {ta : TA} {j : Nat} {ws : List Nat} {kvs : List (Key × V)} {s c : Int}
theorem RP.kd {H' : Hp} {x : V} {p : Int × Int} (hd : Dice H d) (k : Kd d H H') (h : RP K H x p) : RP K H' x p := h.imp fun t h => ⟨h.1, sqT_kp hd k.1 h.2⟩
end
section
variable {K : PySem.W.Frag} {σ : L2.St} {H : Hp} {ta tb : TE} {α : Type} {R : Hp → V → α → Prop} {as bs : List α} {x y : α}
end
end Ck
namespace Ck
open PySem PySem.Spec PyProof.Rows L2 StX Evl
theorem cnt_ext {as bs : List (Int × Int)} {s : Int} (ha : (as.map Prod.fst).Nodup) (hb : (bs.map Prod.fst).Nodup) (h : ∀ c, (s, c) ∈ as ↔ (s, c) ∈ bs) : cnt as s = cnt bs s := by
  cases e : cnt as s with
  | some c => exact ((cnt_mem hb).mp ((h c).mp ((cnt_mem ha).mpr e))).symm
  | none =>
    cases e2 : cnt bs s with
    | none => rfl
    | some c =>
      have := (cnt_mem ha).mp ((h c).mpr ((cnt_mem hb).mpr e2))
      rw [e] at this
      cases this
end Ck
namespace Ck
open PySem PySem.Spec PyProof.Rows L2 StX Evl
section
variable {K : PySem.W.Frag} {σ : L2.St} {H : Hp} {C a t : Addr} {te : TE} {ps qs : List (Int × Int)} {n : Int}
end
end Ck
namespace Ck
open PySem PySem.Spec PyProof.Rows L2 StX Evl
end Ck

namespace Ck
open PySem PySem.Spec PyProof.Rows L2 StX Evl
section
variable {K : PySem.W.Frag} {σ : L2.St} {H : Hp} {d g : Addr} {te td tk : TE} {j i : Nat} {ws : List Nat} {ps : List (Int × Int)} {D : Ends} {z : TS}
end
end Ck
namespace Ck
open PySem PySem.Spec PyProof.Rows L2 StX Evl
section
variable {K : PySem.W.Frag} {σ : L2.St} {H : Hp} {te tl : TE} {tr : TA} {tt : TT} {Pr : V → Hp → Prop} {n i i' j : Nat} {l : Addr} {xs : List V} {D : Ends} {z : TS} {ws : List Nat}
end
end Ck
namespace Ck
open PySem PySem.Spec PyProof.Rows L2 StX Evl
section
variable {K : PySem.W.Frag} {σ : L2.St} {H : Hp} {te tl : TE} {tt : TT} {i j : Nat} {d l : Addr} {xs : List V} {D : Ends} {z : TS} {ws : List Nat}
theorem q_asgP (P : V → Hp → Prop) (h : ∀ Q : VK, (∀ v H1, P v H1 → Q v H1) → te σ H Q) (k : ∀ v H1, P v H1 → z D (σ.set i (some v)) H1) : tSeq (tAsg te (gName i)) z D σ H := h (fun x H1 => gName i x σ H1 (z D)) k
end
end Ck

namespace Ck
open PySem PySem.Spec PyProof.Rows L2 StX Evl
section
variable {J : It} {n : Nat} {G : Hp → Prop} {Y : Nat → Hp → V → Hp → Prop}
theorem dc_it (w : Walk J n G Y) {g : TG} {tt : TT} {tk tv : TE} {vs : List Nat} {σ : L2.St} {H1 : Hp} {D : Addr} {Qd : Hp → Prop} (Pv : Nat → Hp → Prop) (h0 : Pv 0 (upd H1 D (.dK []))) (hG : ∀ i H, i ≤ n → Pv i H → G H)
    (hs : ∀ i x H H', i < n → Pv i H → Y i H x H' → g x (wipe σ vs) H' fun σ2 H2 => wipe σ2 vs = wipe σ vs ∧ tt σ2 H2 fun b H3 =>
      if b = true then tk σ2 H3 fun y H4 => tv σ2 H4 fun z H5 => ∃ kvs k, y = kV k ∧ H5 D = some (.dK kvs) ∧ kvs.length < sizeLine ∧ Pv (i + 1) (upd H5 D (.dK (putK kvs k z))) else Pv (i + 1) H3) (hd : ∀ H, Pv n H → Qd H) :
    ∃ W : Nat → Nat → Hp → Prop, (∃ m, W 0 m (upd H1 D (.dK []))) ∧ ∀ i m H, W i m H →
      (J.stop i H ∧ Qd H) ∨ (J.go i H ∧ ∃ Nx : Hp → Prop, (∀ H', Nx H' → ∃ m', m' < m ∧ W (i + 1) m' H') ∧ ∀ x H', J.yld i H x H' → g x (wipe σ vs) H' fun σ2 H2 => wipe σ2 vs = wipe σ vs ∧ tt σ2 H2 fun b H3 =>
        if b = true then tk σ2 H3 fun y H4 => tv σ2 H4 fun z H5 => ∃ kvs k, y = kV k ∧ H5 D = some (.dK kvs) ∧ kvs.length < sizeLine ∧ Nx (upd H5 D (.dK (putK kvs k z))) else Nx H3) := by
  refine ⟨fun i m H => m = n - i ∧ i ≤ n ∧ Pv i H, ⟨n, by simp, Nat.zero_le _, h0⟩, ?_⟩
  rintro i m H ⟨rfl, hi, p⟩
  have q := hG i H hi p
  by_cases hlt : i < n
  · refine .inr ⟨w.goes i H hlt q, Pv (i + 1), fun H' p' => ⟨n - (i + 1), by omega, rfl, hlt, p'⟩, fun x H' y => hs i x H H' hlt p (w.yields i H x H' hlt q y)⟩
  · have e : i = n := by omega
    subst e
    exact .inl ⟨w.stops H q, hd H p⟩
end
def putP (acc : List (Int × Int)) (p : Int × Int) : List (Int × Int) := if p.1 ∈ acc.map Prod.fst then acc.map (fun q => if q.1 = p.1 then p else q) else acc ++ [p]
def merP (acc more : List (Int × Int)) : List (Int × Int) := more.foldl putP acc
theorem putP_kc (acc : List (Int × Int)) (p : Int × Int) : putK (acc.map kc) (Sum.inl p.1 : Key) (.int p.2) = (putP acc p).map kc := by
  unfold putK putP
  have e : ((acc.map kc).any fun kv => decide (kv.1 = (Sum.inl p.1 : Key))) = decide (p.1 ∈ acc.map Prod.fst) := by
    rw [List.any_map]
    refine bool_iff ?_
    rw [List.any_eq_true, decide_eq_true_eq, List.mem_map]
    constructor
    · rintro ⟨x, hx, e⟩
      exact ⟨x, hx, Sum.inl.inj (of_decide_eq_true e)⟩
    · rintro ⟨x, hx, e⟩
      exact ⟨x, hx, decide_eq_true (congrArg Sum.inl e)⟩
  rw [e]
  by_cases h : p.1 ∈ acc.map Prod.fst
  · rw [decide_eq_true h, if_pos rfl, if_pos h, List.map_map, List.map_map]
    refine List.map_congr_left fun q _ => ?_
    show (if (kc q).1 = (Sum.inl p.1 : Key) then ((kc q).1, V.int p.2) else kc q) = kc (if q.1 = p.1 then p else q)
    by_cases z : q.1 = p.1
    · rw [if_pos (show (kc q).1 = (Sum.inl p.1 : Key) from congrArg Sum.inl z), if_pos z]
      show ((Sum.inl q.1 : Key), V.int p.2) = ((Sum.inl p.1 : Key), V.int p.2)
      rw [z]
    · rw [if_neg (show ¬ (kc q).1 = (Sum.inl p.1 : Key) from fun e => z (Sum.inl.inj e)), if_neg z]
  · rw [decide_eq_false h, if_neg Bool.false_ne_true, if_neg h, List.map_append]
    rfl
theorem putP_fst (acc : List (Int × Int)) (p : Int × Int) : (putP acc p).map Prod.fst = if p.1 ∈ acc.map Prod.fst then acc.map Prod.fst else acc.map Prod.fst ++ [p.1] := by
  unfold putP
  split
  · rw [List.map_map]
    refine List.map_congr_left fun q _ => ?_
    show (if q.1 = p.1 then p else q).1 = q.1
    split
    · next z => exact z.symm
    · rfl
  · rw [List.map_append]
    rfl
theorem putP_nodup {acc : List (Int × Int)} {p : Int × Int} (h : (acc.map Prod.fst).Nodup) : ((putP acc p).map Prod.fst).Nodup := by
  rw [putP_fst]
  split
  · exact h
  · next n => exact List.nodup_append.mpr ⟨h, List.nodup_cons.mpr ⟨List.not_mem_nil, List.nodup_nil⟩, fun a ha b hb => by rw [List.mem_singleton.mp hb]; exact fun e => n (e ▸ ha)⟩
theorem putP_mem {acc : List (Int × Int)} {p : Int × Int} (s : Int) : s ∈ (putP acc p).map Prod.fst ↔ s ∈ acc.map Prod.fst ∨ s = p.1 := by
  rw [putP_fst]
  split
  · next h => exact ⟨.inl, fun z => z.elim id fun e => e ▸ h⟩
  · rw [List.mem_append, List.mem_singleton]
theorem putP_cnt {acc : List (Int × Int)} {p : Int × Int} (h : (acc.map Prod.fst).Nodup) (s : Int) : cnt (putP acc p) s = if s = p.1 then some p.2 else cnt acc s := by
  have nd := putP_nodup (p := p) h
  by_cases z : s = p.1
  · rw [if_pos z]
    refine (cnt_mem nd).mp ?_
    subst z
    unfold putP
    split
    · next m =>
      obtain ⟨q, hq, e⟩ := List.mem_map.mp m
      exact List.mem_map.mpr ⟨q, hq, by rw [if_pos e]⟩
    · exact List.mem_append_right _ (List.mem_singleton.mpr rfl)
  · rw [if_neg z]
    refine cnt_ext nd h fun c => ?_
    unfold putP
    split
    · rw [List.mem_map]
      constructor
      · rintro ⟨q, hq, e⟩
        by_cases y : q.1 = p.1
        · rw [if_pos y] at e
          rw [e] at z
          exact absurd rfl z
        · rw [if_neg y] at e
          rw [← e]
          exact hq
      · intro m
        exact ⟨_, m, if_neg z⟩
    · rw [List.mem_append, List.mem_singleton]
      exact ⟨fun m => m.elim id fun e => absurd (congrArg Prod.fst e) z, .inl⟩
theorem putP_len (acc : List (Int × Int)) (p : Int × Int) : (putP acc p).length ≤ acc.length + 1 := by
  unfold putP
  split
  · rw [List.length_map]
    omega
  · rw [List.length_append]
    exact Nat.le_refl _
theorem merP_snoc (acc more : List (Int × Int)) (p : Int × Int) : merP acc (more ++ [p]) = putP (merP acc more) p := by
  unfold merP
  rw [List.foldl_append]
  rfl
theorem merP_nodup {more : List (Int × Int)} : ∀ {acc : List (Int × Int)}, (acc.map Prod.fst).Nodup → ((merP acc more).map Prod.fst).Nodup := by
  induction more with
  | nil => exact fun h => h
  | cons p r ih => exact fun h => ih (putP_nodup h)
theorem merP_mem {more : List (Int × Int)} (s : Int) : ∀ {acc : List (Int × Int)}, s ∈ (merP acc more).map Prod.fst ↔ s ∈ acc.map Prod.fst ∨ s ∈ more.map Prod.fst := by
  induction more with
  | nil => exact fun {acc} => ⟨.inl, fun h => h.elim id fun m => nomatch m⟩
  | cons p r ih =>
    intro acc
    show s ∈ (merP (putP acc p) r).map Prod.fst ↔ _
    rw [ih, putP_mem, List.map_cons, List.mem_cons, or_assoc]
theorem merP_fn {f : Int → Int} (s : Int) : ∀ {ns : List Int} {acc : List (Int × Int)}, (acc.map Prod.fst).Nodup → cnt (merP acc (ns.map fun s => (s, f s))) s = if s ∈ ns then some (f s) else cnt acc s
  | [], _, _ => rfl
  | n :: r, acc, h => by
    show cnt (merP (putP acc (n, f n)) (r.map fun s => (s, f s))) s = _
    rw [merP_fn s (putP_nodup h), putP_cnt h]
    by_cases m : s ∈ r
    · rw [if_pos m, if_pos (List.mem_cons_of_mem n m)]
    · rw [if_neg m]
      by_cases e : s = n
      · rw [if_pos e, if_pos (by rw [e]; exact List.mem_cons_self), e]
      · rw [if_neg e, if_neg (fun z => (List.mem_cons.mp z).elim e m)]
def EvD (te : TE) (σ : L2.St) (H : Hp) (ps : List (Int × Int)) : Prop := ∀ H1, Ex H H1 → ∀ Q : VK, (∀ p H2, H1 p = none → Ex H1 H2 → H2 p = some (.dK (ps.map kc)) → Q (.ref p) H2) → te σ H1 Q
section
variable {K : PySem.W.Frag} {σ : L2.St} {H : Hp} {td tl tk tv : TE} {tt : TT} {a d : Addr} {ts : List V} {ps : List (Int × Int)} {ns : List Int} {j j2 : Nat} {ws : List Nat}
theorem EvD.is {te : TE} {qs : List (Int × Int)} (h : EvD te σ H ps) (e : ps = qs) : EvD te σ H qs := e ▸ h
theorem dc_turn {H1 H2 : Hp} {D : Addr} {i : Nat} {p : Int × Int} {acc : List (Int × Int)} {σ2 : L2.St} {H3 : Hp} {Pv : Hp → Prop} (p1 : H1 D = none) (p2 : Ex H1 H3) (p3 : H3 D = some (.dK (acc.map kc))) (p4 : acc.length ≤ 40000)
    (hk : Ev tk σ2 H3 (.int p.1)) (hv : Ev tv σ2 H3 (.int p.2)) (k : ∀ H5, Ex H1 H5 → H5 D = some (.dK ((putP acc p).map kc)) → Pv H5) :
    tk σ2 H3 fun y H4 => tv σ2 H4 fun z H5 => ∃ kvs k, y = kV k ∧ H5 D = some (.dK kvs) ∧ kvs.length < sizeLine ∧ Pv (upd H5 D (.dK (putK kvs k z))) :=
  hk H3 (Ex.refl H3) _ fun H4 e4 => hv H4 e4 _ fun H5 e5 => ⟨acc.map kc, Sum.inl p.1, rfl, (e4.trans e5) _ _ p3, sz_lt (by rw [List.length_map]; omega), k _ (Ex.mut (p2.trans (e4.trans e5)) p1) (by rw [upd_same, putP_kc])⟩
theorem dc_tupN (c : Int → Bool) (g : Int → Int × Int) (h : Etu K tl σ H (ns.map V.int)) (hz : ns.length ≤ 40000) (hw : ∀ x, wipe ((wipe σ ws).set j (some x)) ws = wipe σ ws)
    (ht : ∀ n ∈ ns, ∀ H1, Ex H H1 → EvT tt ((wipe σ ws).set j (some (.int n))) H1 (c n)) (hk : ∀ n ∈ ns, c n = true → ∀ H1, Ex H H1 → Ev tk ((wipe σ ws).set j (some (.int n))) H1 (.int (g n).1)) (hv : ∀ n ∈ ns, c n = true → ∀ H1, Ex H H1 → Ev tv ((wipe σ ws).set j (some (.int n))) H1 (.int (g n).2)) :
    EvD (tDc (iTup K tl) (gName j) tt tk tv ws) σ H (merP [] ((ns.filter c).map g)) := fun H0 e0 Q q => h H0 e0 _ fun a H1 e1 hx => ⟨a, rfl, ⟨_, hx⟩, fun D hD => by
  refine dc_it walk_tup (fun i H' => H1 D = none ∧ Ex H1 H' ∧ ∃ acc, H' D = some (.dK (acc.map kc)) ∧ acc.length ≤ i ∧ acc = merP [] (((ns.take i).filter c).map g)) ⟨hD, Ex.new hD, [], upd_same, Nat.le_refl _, rfl⟩ (fun i H' _ p => ex_t p.2.1 hx) ?_ ?_
  · rintro i x H2 H3 hi ⟨p1, p2, acc, p3, p4, p5⟩ ⟨e3, hxi⟩
    rw [e3]
    rw [List.length_map] at hi
    rw [List.getElem?_map, List.getElem?_eq_getElem hi] at hxi
    obtain rfl := Option.some.inj hxi
    have m := List.getElem_mem hi
    have e02 := (e0.trans e1).trans p2
    refine ⟨hw _, ht _ m H2 e02 H2 (Ex.refl H2) _ fun H4 e4 => ?_⟩
    have st : ns.take (i + 1) = ns.take i ++ [ns[i]] := by rw [List.take_add_one, List.getElem?_eq_getElem hi]; rfl
    cases hc : c ns[i] with
    | true =>
      refine iteT (dc_turn (H2 := H4) (i := i) (p := g ns[i]) (Pv := fun H' => H1 D = none ∧ Ex H1 H' ∧ ∃ acc, H' D = some (.dK (acc.map kc)) ∧ acc.length ≤ i + 1 ∧ acc = merP [] (((ns.take (i + 1)).filter c).map g)) p1 (p2.trans e4) (e4 _ _ p3) (by omega) (hk _ m hc H4 (e02.trans e4)) (hv _ m hc H4 (e02.trans e4)) fun H5 e5 h5 => ⟨p1, e5, _, h5, Nat.le_trans (putP_len _ _) (Nat.succ_le_succ p4), ?_⟩)
      rw [st, List.filter_append, List.map_append, show [ns[i]].filter c = [ns[i]] by rw [List.filter_cons, hc]; rfl, p5]
      exact (merP_snoc _ _ _).symm
    | false =>
      refine iteF ⟨p1, p2.trans e4, acc, e4 _ _ p3, Nat.le_succ_of_le p4, ?_⟩
      rw [st, List.filter_append, show [ns[i]].filter c = [] by rw [List.filter_cons, hc]; rfl, List.append_nil]
      exact p5
  · rintro H2 ⟨p1, p2, acc, p3, _, p5⟩
    rw [List.length_map, List.take_of_length_le (Nat.le_refl _)] at p5
    rw [p5] at p3
    exact q D H2 (fresh_back e1 p1) (e1.trans p2) p3⟩
end
end Ck

namespace Ck
open PySem PySem.Spec PyProof.Rows L2 StX Evl
section
variable {X : Cx}
end
end Ck

namespace Ck
open PySem PySem.Spec PyProof.Rows L2 StX Evl
theorem sum_cons2 {α : Type} (a : α) (r : List α) (f : α → Int) : ((a :: r).map f).sum = f a + (r.map f).sum := by rw [List.map_cons, List.sum_cons]
theorem len_sub : ∀ {as bs : List Int}, as.Nodup → (∀ a ∈ as, a ∈ bs) → as.length ≤ bs.length
  | [], _, _, _ => Nat.zero_le _
  | a :: r, bs, h, sub => by
    obtain ⟨n, h2⟩ := List.nodup_cons.mp h
    have m := sub a List.mem_cons_self
    have := len_sub (bs := bs.erase a) h2 fun b hb => (List.mem_erase_of_ne (fun e : b = a => n (by rw [← e]; exact hb))).mpr (sub b (List.mem_cons_of_mem a hb))
    rw [List.length_erase_of_mem m] at this
    have := List.length_pos_of_mem m
    rw [List.length_cons]
    omega
end Ck

namespace Ck
open PySem PySem.Spec PyProof.Rows L2 StX Evl
section
variable {X : Cx}
end
section
variable {X : Cx} {k j : Nat} {C : Addr}
end
end Ck
namespace Ck
open PySem PySem.Spec PyProof.Rows L2 StX Evl
theorem sw_trueD {kx vx : Expr} {gs : List Comprehension} {scope : Scope} {pos py : Pos} {y : Str} {l : Nat} {env : Env} (hk : env.scope.kind = .function) (hy : env.scope.names.lookup y = some .local) (hl : (py.line == pos.line) = true)
    (ha : (scope.names.any fun (n, k) => n == y && (k == .local || k == .cell)) = false) : swapsWith (.DictComp kx vx gs scope pos) (some (.Name y py)) l env = pure true := by
  have ky : env.kindOf y = some .local := hy
  have hb : env.blockKind = .function := by unfold Env.blockKind; rw [hk]; rfl
  unfold swapsWith
  simp only [hb, ky, ha, Expr.pos, hl]
  rfl
section
variable {X : Cx}
theorem ps_setDc {i : Nat} {y : Str} {py : Pos} {kx vx tg iter : Expr} {ifs : List Expr} {scope : Scope} {own : List (Str × Nat)} {pos spos : Pos} {wi : TI} {g : TG} {tt : TT} {tk tv : TE} (hc : X.calm = true) (hN : X.N.Nodup) (hy : X.N[i]? = some y) (hyl : X.env.scope.names.lookup y = some .local)
    (hsw : swapsWith (.DictComp kx vx [⟨tg, iter, ifs, 0⟩] scope pos) (some (.Name y py)) spos.line X.env = pure true) (hi : PI X tg iter wi) (ok : BlkOk X.N X.env.scope scope own)
    (hg : ∀ (s : Shared) (H : Hp) (C : Addr) (cl : List (Str × Addr)) (fp : List Addr), PG (X.blk s H scope (compEnvC scope cl C X.env) fp) tg g) (ht : ∀ (s : Shared) (H : Hp) (C : Addr) (cl : List (Str × Addr)) (fp : List Addr), PTs (X.blk s H scope (compEnvC scope cl C X.env) fp) ifs tt)
    (hk : ∀ (s : Shared) (H : Hp) (C : Addr) (cl : List (Str × Addr)) (fp : List Addr), PE (X.blk s H scope (compEnvC scope cl C X.env) fp) kx tk) (he : ∀ (s : Shared) (H : Hp) (C : Addr) (cl : List (Str × Addr)) (fp : List Addr), PE (X.blk s H scope (compEnvC scope cl C X.env) fp) vx tv) (hs : ∀ x, foldedSetIterable iter X.env x = pure x := by intro _; rfl) :
    PS X (.Assign [.Name y py] (.DictComp kx vx [⟨tg, iter, ifs, 0⟩] scope pos) spos) (tAsg (tDc wi g tt tk tv (own.map (·.2))) (gName i)) := by
  refine ⟨fun pins s σ H D I h => ?_⟩
  rw [exec_Assign_Name_used _ _ _ _ hsw]
  refine wpAny_bind (wpAny_standAt (wpAny_bind ?_))
  show wpAny _ X.A (do let _ ← comprehension (.DictComp kx vx [⟨tg, iter, ifs, 0⟩] scope pos) scope X.env (firstIterPos [⟨tg, iter, ifs, 0⟩] pos) newDict false (eval iter X.env) (some (assign (.Name y py) X.env))) _ _ s
  have h : tDc wi g tt tk tv (own.map (·.2)) σ H (fun x H1 => gName i x σ H1 D.nx) := h
  refine wpAny_bind (thn (dc_core (Qf := fun _ s' => SP X pins D .next s') hc hN I hi ok hg ht hk he hs h fun L C s' m H' I' q hn f => ?_) fun _ s' hq => wpAny_pure (wpAny_pure hq))
  show wpAny _ _ (assign (.Name y py) X.env (.ref L)) _ _ _
  refine wpAny_assign_Name (store_ok2 (v := V.ref L) I' hN hy (.inl hyl) rfl (fun s2 I2 ⟨a, sb, ha⟩ => ?_) (.inr hyl))
  obtain ⟨f0, f1, f2, f3, f4, f5⟩ := f
  have haC : C ≠ a := by
    rcases ha with z | z
    · rw [z]; exact f1
    · exact fun e => f4 y a z e.symm
  refine ⟨m, hn.sameBut sb haC, fun h3 sb3 => ?_⟩
  exact ⟨_, H', I2.turned (t' := s2.toks) (fun b o hb e => (sb3.2 b hb).trans e) f0 f1 f3 f4 f5, q⟩
end
section
variable {σ : L2.St} {H : Hp} {te : TE} {ps : List (Int × Int)} {i : Nat} {D : Ends} {z : TS}
theorem q_setD (h : EvD te σ H ps) (k : ∀ p H1, H p = none → Ex H H1 → H1 p = some (.dK (ps.map kc)) → z D (σ.set i (some (.ref p))) H1) : tSeq (tAsg te (gName i)) z D σ H := h H (Ex.refl H) (fun x H1 => gName i x σ H1 (z D)) k
end
section
variable {K : PySem.W.Frag} {σ : L2.St} {H : Hp} {td ty : TE} {d : Addr} {kvs : List (Key × V)} {s : Int}
end
structure LotNK (K : PySem.W.Frag) (C : Addr) : Prop where
  int : PySem.W.kitOne K (.ref C) (.type "int") = some false
  dict : PySem.W.kitOne K (.type "dict") (.ref C) = some false
  num : PySem.W.kitOne K (.type "int") (.ref C) = some false
  none : PySem.W.kitOne K (.type "NoneType") (.ref C) = some false
end Ck

namespace Ck
open PySem PySem.Spec PyProof.Rows L2 StX Evl
section
variable {K : PySem.W.Frag} {σ : L2.St} {H H' : Hp} {tl te : TE} {l p0 : Addr} {x : V} {k : Int} {ks : List Int} {xs : List V} {D : Ends} {z : TS} {i : Nat}
end
section
variable {K : PySem.W.Frag} {σ : L2.St} {H : Hp} {te : TE} {i j l : Nat} {D : Ends} {z : TS}
theorem q_parP {ta tb : TE} (P : V → V → Hp → Prop) (h : ∀ Q : V → V → Hp → Prop, (∀ x y H1, P x y H1 → Q x y H1) → ta σ H fun x H1 => tb σ H1 fun y H2 => Q x y H2) (k : ∀ x y H1, P x y H1 → z D ((σ.set i (some x)).set j (some y)) H1) : tSeq (tPar i j (tCons ta (tCons tb tNil))) z D σ H :=
  h (fun x y H2 => ∃ x' y', [x, y] = [x', y'] ∧ z D ((σ.set i (some x')).set j (some y')) H2) fun x y H1 p => ⟨x, y, rfl, k x y H1 p⟩
end
section
variable {K : PySem.W.Frag} {σ : L2.St} {H : Hp} {C : Addr} {ta tb tc : TE} {y z : V} {sp : Sp} {E : XK} {Q : VK}
end
end Ck

namespace Ck
open PySem PySem.Spec PyProof.Rows L2 StX Evl
def Dis (K : PySem.W.Frag) (mg : Str → Option Value) (x : Str) (C : Addr) (qual : Str) (st : Stmt) (pv : Str) : Prop :=
  ∃ (f : Addr), Mk K C f ∧ mg x = some (.ref C) ∧ ∃ (oc : Value) (od : Option Addr) (dV kV doc pm : Value) (an : Option Addr) (cdv ct : Value) (osl : Array (Option Value)),
    K.lookup f = some ⟨oc, od, .func (PySem.W.fnOf "__init__" qual (defArgs st) (defBody st) (defScope st) dV kV doc pm an cdv ct), osl⟩ ∧ PySem.W.codeIn K cdv qual = true ∧
    ∀ us rest : List Value, us.length = (["self"] : List Str).length → bindArgs (PySem.W.fnOf "__init__" qual (defArgs st) (defBody st) (defScope st) dV kV doc pm an cdv ct) ⟨us ++ rest, []⟩ = (newTuple rest >>= fun t => pure ((["self"] : List Str).zip us ++ [(pv, t)]))
section
variable {P : Program} {w : World} {K : PySem.W.Frag} {mg : Str → Option Value} {base : Heap} {k : Nat} {C : Addr} {x qual pv : Str} {st : Stmt} {N : List Str} {sp : Sp}
theorem mks_of (D : Dis K mg x C qual st pv) (S : FnScope N ["self", pv] (defScope st))
    (hbody : ∀ (f : Addr) (cdv : Value) (A : Around) (outer : List Env) (s : Shared) (H : Hp) (vs : List V) (Q : VK) (E : XK), Room k (A.deeper (envOfC qual (defScope st) s.heap.objs.size f cdv)) → sp vs H Q E →
      ∃ t, PSs (cxOf CX0 P w K mg base N qual (defScope st) f cdv A outer s H E).nox (defBody st) t ∧ t { nx := fun _ H' => Q .non H', rt := Q } (start N vs) H) :
    Mkc P w K mg base (k + 1) x C fun vs H Q E => ∃ ws rest, vs = ws ++ rest ∧ ws.length = 1 ∧ rest.length ≤ sizeLine ∧ ∀ p, H p = Option.none → sp (ws ++ [V.ref p]) (upd H p (.tup rest)) Q E := by
  obtain ⟨f, M, hm, oc, od, dV, kV, doc, pm, an, cdv, ct, osl, lk, hcd, hb⟩ := D
  exact ⟨f, M, hm, fn_star (ps := ["self"]) lk hcd S cxUp_none hb fun A outer s H vs Q E hr h => by
    obtain ⟨t, h1, h2⟩ := hbody f cdv A outer s H vs Q E hr h
    exact ⟨t, h1.nox, h2⟩⟩
theorem dis_mk {oc dV kV dc pm cd ct : Value} {od an : Option Addr} {sl : Array (Option Value)} {f : Addr} (gc : mg x = some (.ref C)) (mks : PySem.W.makesIn K C = true) (a : PySem.W.findIn K (.ref C) "__init__" = some (some (.ref f))) (i : PySem.W.isFn K (.ref f) = true) (kc : PySem.W.keepIn K (.ref C) = true)
    (l : K.lookup f = some ⟨oc, od, .func (PySem.W.fnOf "__init__" qual (defArgs st) (defBody st) (defScope st) dV kV dc pm an cd ct), sl⟩) (c : PySem.W.codeIn K cd qual = true)
    (h0 : ∀ a, bindArgs (PySem.W.fnOf "__init__" qual (defArgs st) (defBody st) (defScope st) dV kV dc pm an cd ct) ⟨[a], []⟩ = (newTuple [] >>= fun t => pure [(("self" : Str), a), (pv, t)]))
    (h1 : ∀ a r rs, bindArgs (PySem.W.fnOf "__init__" qual (defArgs st) (defBody st) (defScope st) dV kV dc pm an cd ct) ⟨a :: r :: rs, []⟩ = (newTuple (r :: rs) >>= fun t => pure [(("self" : Str), a), (pv, t)])) : Dis K mg x C qual st pv :=
  ⟨f, ⟨mks, a, i, kc⟩, gc, oc, od, dV, kV, dc, pm, an, cd, ct, sl, l, c, bind_star1 (B := fun us => bindArgs (PySem.W.fnOf "__init__" qual (defArgs st) (defBody st) (defScope st) dV kV dc pm an cd ct) ⟨us, []⟩) h0 h1⟩
end
theorem f2_snoc {α : Type} {R : V → α → Prop} {z : α} : ∀ {as : List α} {vs : List V}, F2 R vs (as ++ [z]) → ∃ ys y, vs = ys ++ [y] ∧ F2 R ys as ∧ R y z
  | [], _, .cons h .nil => ⟨[], _, rfl, .nil, h⟩
  | a :: as, _, .cons h t => by
    obtain ⟨ys, y, rfl, h1, h2⟩ := f2_snoc (as := as) t
    exact ⟨_ :: ys, y, rfl, .cons h h1, h2⟩
theorem nil_or_snoc {α : Type} (l : List α) : l = [] ∨ ∃ as z, l = as ++ [z] := by
  by_cases h : l = []
  · exact .inl h
  · exact .inr ⟨l.dropLast, l.getLast h, (List.dropLast_concat_getLast h).symm⟩
theorem ixN_last (n : Nat) : ixN (n + 1) (-1) = some n := by
  unfold ixN
  rw [if_neg (show ¬ (0 : Int) ≤ -1 by decide), if_pos (by omega)]
  exact congrArg some (by omega)
theorem ix_tupK {X : Cx} {K : PySem.W.Frag} (h : X.K = K) : IxR X (rIxT K) := h ▸ ix_tup
theorem el_lcP1 {K : PySem.W.Frag} {tl te : TE} {σ : L2.St} {H : Hp} {a : Addr} {ts : List V} {ps : List (Int × Int)} {j : Nat} {ws : List Nat} (f : Int × Int → V) (h : Ev tl σ H (.ref a)) (ht : SqT K H a ts) (hf : F2 (RP K H) ts ps) (hz : ps.length ≤ 40000)
    (hw : ∀ x, wipe ((wipe σ ws).set j (some x)) ws = wipe σ ws) (he : ∀ p ∈ ps, ∀ x H1, Ex H H1 → RP K H1 x p → Ev te ((wipe σ ws).set j (some x)) H1 (f p)) :
    EvL (tLc (iTup K tl) (gName j) tYes te ws) σ H (ps.map f) := fun H0 e0 Q q => h H0 e0 _ fun H1 e1 => ⟨a, rfl, ⟨ts, ex_t (e0.trans e1) ht⟩, fun D hD => by
  have e01 := e0.trans e1
  refine lc_it walk_tup (fun i H' => H1 D = none ∧ Ex H1 H' ∧ H' D = some (.lst ((ps.take i).map f))) ⟨hD, Ex.new hD, upd_same⟩ (fun i H' _ p => ex_t (e01.trans p.2.1) ht) ?_ ?_
  · rintro i x H' H2 hi ⟨p1, p2, p3⟩ ⟨rfl, hxi⟩
    obtain ⟨p, hp, hpt⟩ := hf.at hxi
    have m := List.mem_of_getElem? hp
    have st : ps.take (i + 1) = ps.take i ++ [p] := by rw [List.take_add_one, hp]; rfl
    have i12 : i < ps.length := (List.getElem?_eq_some_iff.mp hp).1
    refine ⟨hw _, yes_go (iteT (he p m x H2 (e01.trans p2) (hpt.ex (e01.trans p2)) H2 (Ex.refl _) _ fun H5 e5 => ⟨_, e5 _ _ p3, sz_lt (by rw [List.length_map, List.length_take]; omega), p1, Ex.mut (p2.trans e5) p1, by rw [upd_same, st, List.map_append]; rfl⟩))⟩
  · rintro H' ⟨p1, p2, p3⟩
    rw [hf.len, List.take_of_length_le (Nat.le_refl _)] at p3
    exact q D H' (fresh_back e1 p1) (e1.trans p2) p3⟩
def jn1 (acc : List (Int × Int)) (r : Int × Int) : List (Int × Int) := match acc.getLast? with
  | some l => if l.1 = r.1 then acc.dropLast ++ [(r.1, l.2 + r.2)] else acc ++ [r]
  | none => acc ++ [r]
def jr (rs : List (Int × Int)) : List (Int × Int) := rs.foldl jn1 []
theorem jr_snoc (rs : List (Int × Int)) (r : Int × Int) : jr (rs ++ [r]) = jn1 (jr rs) r := by
  unfold jr
  rw [List.foldl_append]
  rfl
theorem jn1_len (acc : List (Int × Int)) (r : Int × Int) : (jn1 acc r).length ≤ acc.length + 1 := by
  unfold jn1
  split
  · next l e =>
    split
    · rw [List.length_append, List.length_dropLast]
      show _ + 1 ≤ _
      omega
    · rw [List.length_append]
      exact Nat.le_refl _
  · rw [List.length_append]
    exact Nat.le_refl _
theorem jr_len (rs : List (Int × Int)) : (jr rs).length ≤ rs.length := by
  have : ∀ (rs acc : List (Int × Int)), (rs.foldl jn1 acc).length ≤ acc.length + rs.length := fun rs => by
    induction rs with
    | nil => exact fun acc => Nat.le_refl _
    | cons r t ih =>
      intro acc
      have := ih (jn1 acc r)
      have := jn1_len acc r
      rw [List.foldl_cons, List.length_cons]
      omega
  have := this rs []
  rw [List.length_nil] at this
  unfold jr
  omega
theorem jr_all {P : Int × Int → Prop} (add : ∀ a b c, P (a, b) → P (a, c) → P (a, b + c)) {rs : List (Int × Int)} (h : ∀ r ∈ rs, P r) : ∀ r ∈ jr rs, P r := by
  have : ∀ (rs acc : List (Int × Int)), (∀ r ∈ rs, P r) → (∀ r ∈ acc, P r) → ∀ r ∈ rs.foldl jn1 acc, P r := fun rs => by
    induction rs with
    | nil => exact fun acc _ h => h
    | cons r t ih =>
      intro acc h1 h2
      refine ih (jn1 acc r) (fun x hx => h1 x (List.mem_cons_of_mem r hx)) fun x hx => ?_
      have hr := h1 r List.mem_cons_self
      unfold jn1 at hx
      split at hx
      · next l e =>
        have ml : l ∈ acc := List.mem_of_getLast? e
        split at hx
        · next el =>
          rcases List.mem_append.mp hx with m | m
          · exact h2 x (List.dropLast_subset acc m)
          · rw [List.mem_singleton.mp m]
            have pl := h2 l ml
            exact add r.1 l.2 r.2 (by rw [← el]; exact pl) hr
        · rcases List.mem_append.mp hx with m | m
          · exact h2 x m
          · rw [List.mem_singleton.mp m]
            exact hr
      · rcases List.mem_append.mp hx with m | m
        · exact h2 x m
        · rw [List.mem_singleton.mp m]
          exact hr
  exact this rs [] h fun r hr => nomatch hr
theorem jr_sum {g : Int × Int → Int} (add : ∀ a b c, g (a, b + c) = g (a, b) + g (a, c)) (rs : List (Int × Int)) : ((jr rs).map g).sum = (rs.map g).sum := by
  have : ∀ (rs acc : List (Int × Int)), ((rs.foldl jn1 acc).map g).sum = (acc.map g).sum + (rs.map g).sum := fun rs => by
    induction rs with
    | nil => exact fun acc => (Int.add_zero _).symm
    | cons r t ih =>
      intro acc
      rw [List.foldl_cons, ih, sum_cons2]
      have e : ((jn1 acc r).map g).sum = (acc.map g).sum + g r := by
        unfold jn1
        split
        · next l e =>
          obtain ⟨ys, rfl⟩ := List.getLast?_eq_some_iff.mp e
          split
          · next el =>
            rw [List.dropLast_concat, List.map_append, List.map_append, List.sum_append, List.sum_append]
            show _ + (g (r.1, l.2 + r.2) + 0) = _ + (g l + 0) + g r
            rw [add, ← el]
            show _ + (g l + g (l.1, r.2) + 0) = _
            rw [show (l.1, r.2) = r by rw [el]]
            omega
          · rw [List.map_append, List.sum_append]
            show _ + (g r + 0) = _
            omega
        · rw [List.map_append, List.sum_append]
          show _ + (g r + 0) = _
          omega
      rw [e]
      omega
  have := this rs []
  rw [List.map_nil, List.sum_nil, Int.zero_add] at this
  exact this
def unt (rs : List (Int × Int)) (s : Int) : Int := (rs.map fun r => r.2 * (r.1 / s)).sum
theorem unt_jr (rs : List (Int × Int)) (s : Int) : unt (jr rs) s = unt rs s := jr_sum (g := fun r => r.2 * (r.1 / s)) (fun a b c => Int.add_mul b c (a / s)) rs
def stoF (t : Addr) : List (Str × V) := putF "_runs" (.ref t) []
structure StoAt (K : PySem.W.Frag) (C : Addr) (H : Hp) (a : Addr) (rs : List (Int × Int)) : Prop where
  ex : ∃ dx t ts, H a = some (.ins C dx (stoF t)) ∧ SqT K H t ts ∧ F2 (RP K H) ts rs
theorem StoAt.up {K : PySem.W.Frag} {C a : Addr} {H H' : Hp} {rs : List (Int × Int)} (h : StoAt K C H a rs) (e : Ex H H') : StoAt K C H' a rs := by
  obtain ⟨dx, t, ts, h1, h2, h3⟩ := h.ex
  exact ⟨dx, t, ts, e _ _ h1, ex_t e h2, h3.imp fun x b r => r.ex e⟩
theorem sto_runs (t : Addr) : (stoF t).lookup ("_runs" : Str) = some (.ref t) := by
  unfold stoF
  rw [lookup_putF, if_pos rfl]
structure StoreT (K : PySem.W.Frag) (mg : Str → Option Value) (CS : Addr) : Prop where
  k : Klass K mg "Store" CS
  n1 : NoAttr K CS "_runs"
structure Rns (rs : List (Int × Int)) : Prop where
  ok : ∀ r ∈ rs, sizB r.1 = true ∧ sizB r.2 = true
  ln : rs.length ≤ 1000
  jl : (jr rs).length ≤ 40
def spStoI (K : PySem.W.Frag) (C : Addr) : Sp := fun vs H Q _ => ∃ (x dx : Addr) (xs : List V) (rs : List (Int × Int)) (H0 : Hp), vs = .ref x :: xs ∧ Ex H0 H ∧ H0 x = none ∧ H x = some (.ins C dx []) ∧ F2 (RP K H0) xs rs ∧ Rns rs ∧ ∀ H', Ex H0 H' → StoAt K C H' x (jr rs) → Q .non H'
def spStoB (K : PySem.W.Frag) (C : Addr) : Sp := fun vs H Q _ => ∃ (x dx p : Addr) (xs : List V) (rs : List (Int × Int)) (H0 : Hp), vs = [.ref x, .ref p] ∧ Ex H0 H ∧ H0 x = none ∧ H x = some (.ins C dx []) ∧ SqT K H p xs ∧ F2 (RP K H0) xs rs ∧ Rns rs ∧ ∀ H', Ex H0 H' → StoAt K C H' x (jr rs) → Q .non H'
def spIsRun (K : PySem.W.Frag) : Sp := fun vs H Q _ => ∃ t a b, vs = [.ref t] ∧ SqT K H t [.int a, .int b] ∧ ∀ H', Ex H H' → Q (.bl (sizB a && sizB b)) H'
def spJoinR (K : PySem.W.Frag) : Sp := fun vs H Q _ => ∃ t xs rs, vs = [.ref t] ∧ SqT K H t xs ∧ F2 (RP K H) xs rs ∧ rs.length ≤ 2000 ∧ ∀ u ys H', Ex H H' → SqT K H' u ys → F2 (RP K H') ys (jr rs) → Q (.ref u) H'
def spUnitsOf (K : PySem.W.Frag) : Sp := fun vs H Q _ => ∃ t s xs rs, vs = [.ref t, .int s] ∧ SqT K H t xs ∧ F2 (RP K H) xs rs ∧ rs.length ≤ 2000 ∧ (∀ r ∈ rs, 0 ≤ r.1 ∧ r.1.natAbs < 10 ^ 200 ∧ r.2.natAbs < 10 ^ 200) ∧ 0 < s ∧ s.natAbs < 10 ^ 200 ∧ ∀ H', Ex H H' → Q (.int (unt rs s)) H'
def spIsSto (K : PySem.W.Frag) (C : Addr) : Sp := fun vs H Q _ => ∃ a rs, vs = [.ref a] ∧ StoAt K C H a rs ∧ ∀ H', Ex H H' → Q .non H'
structure StoOk (rs : List (Int × Int)) : Prop where
  ok : ∀ r ∈ rs, sizB r.1 = true ∧ 0 < r.2 ∧ r.2.natAbs < 10 ^ 200
  ln : rs.length ≤ 40
def spUnits (K : PySem.W.Frag) (C : Addr) : Sp := fun vs H Q _ => ∃ a s rs, vs = [.ref a, .int s] ∧ StoAt K C H a rs ∧ StoOk rs ∧ sizB s = true ∧ ∀ H', Ex H H' → Q (.int (unt rs s)) H'
theorem sto_mk {P : Program} {w : World} {K : PySem.W.Frag} {mg : Str → Option Value} {base : Heap} {k : Nat} {x : Str} {C : Addr}
    (h : Mkc P w K mg base k x C fun vs H Q E => ∃ ws rest, vs = ws ++ rest ∧ ws.length = 1 ∧ rest.length ≤ sizeLine ∧ ∀ p, H p = Option.none → spStoB K C (ws ++ [V.ref p]) (upd H p (.tup rest)) Q E) : Mkc P w K mg base k x C (spStoI K C) := by
  obtain ⟨f, M, hm, F⟩ := h
  refine ⟨f, M, hm, F.imp ?_⟩
  rintro vs H Q E ⟨x, dx, xs, rs, H0, rfl, e0, x0, hx, hf, hr, q⟩
  refine ⟨[.ref x], xs, rfl, rfl, ?_, fun p np => ?_⟩
  · rw [hf.len]
    exact Nat.le_trans hr.ln (show 1000 ≤ sizeLine by decide)
  · exact ⟨x, dx, p, xs, rs, H0, rfl, e0.trans (Evl.Ex.new np), x0, (Evl.Ex.new np) _ _ hx, SqT.of upd_same, hf, hr, q⟩
section
variable {X : Cx} {k j : Nat} {C : Addr} {x : Str} {sp : Sp} {e : Expr} {te : TE} {p sp_ pos : Pos}
theorem pmkS (c : Mkc X.prog X.w X.K X.mg X.base k x C sp) (hr : Room j X.A) (he : PE X e te) (hk : k + 1 ≤ j := by decide) (hg : Gl X x := by rfl) (hdb : (x == ("__debug__" : Str)) = false := by decide)
    (hst : starEach [.Starred e sp_] X.env = [(true, eval e X.env)] := by rfl) : PE X (.Call (.Name x p) [.Starred e sp_] [] pos) (tMakeS X.K C sp E0 te) := by
  obtain ⟨f, M, hm, F⟩ := c
  exact pe_makeS M F (hr.mono hk) hg hm pass0 he hdb hst
end
def prD (p : Int × Int) : PyData := .tuple [.int p.1, .int p.2]
theorem lay_prs : ∀ rs : List (Int × Int), PyData.canLayAll0 (rs.map prD) = true ∧ PyData.depthAll (rs.map prD) ≤ 1
  | [] => ⟨rfl, Nat.zero_le _⟩
  | x :: r => by
    obtain ⟨a, b⟩ := lay_prs r
    refine ⟨by rw [List.map_cons]; simp only [PyData.canLayAll0, a]; rfl, ?_⟩
    rw [List.map_cons]
    simp only [PyData.depthAll]
    exact Nat.max_le.mpr ⟨(show PyData.depth (.tuple ([x.1, x.2].map PyData.int)) ≤ 1 by simp only [PyData.depth, (lay_ints [x.1, x.2]).2]; exact Nat.le_refl _), b⟩
theorem eqv_prs : ∀ rs ss : List (Int × Int), PyData.eqvAll (rs.map prD) (ss.map prD) = decide (rs = ss)
  | [], [] => by simp [PyData.eqvAll]
  | [], _ :: _ => by simp [PyData.eqvAll]
  | _ :: _, [] => by simp [PyData.eqvAll]
  | m :: ms, n :: ns => by
    have e : PyData.eqv (prD m) (prD n) = decide (m = n) := by
      have z := eqv_tups [m.1, m.2] [n.1, n.2]
      unfold prD
      simp only [PyData.eqv]
      refine z.trans (decide_eq_decide.mpr ⟨fun h => ?_, fun h => by rw [h]⟩)
      have h1 := (List.cons.inj h).1
      have h2 := (List.cons.inj (List.cons.inj h).2).1
      exact Prod.ext h1 h2
    simp only [List.map_cons, PyData.eqvAll, e, eqv_prs ms ns]
    by_cases h : m = n
    · subst h; simp
    · rw [decide_eq_false h, decide_eq_false (show ¬ (m :: ms = n :: ns) from fun z => h (List.cons.inj z).1)]; rfl
theorem dpa_rns {K : PySem.W.Frag} {H : Hp} : ∀ {ts : List V} {rs : List (Int × Int)}, F2 (RP K H) ts rs → DpAll K H ts (rs.map prD)
  | _, _, .nil => .nil
  | _, _, .cons ⟨t, e, h⟩ r => by
    subst e
    exact .cons (.tup h (.cons (.int _) (.cons (.int _) .nil))) (dpa_rns r)
end Ck

namespace Ck
open PySem PySem.Spec PyProof.Rows L2 StX Evl
section
variable {K : PySem.W.Frag} {σ : L2.St} {H H' : Hp} {ta tb te tl : TE} {tt : TT} {p a b : Addr} {xs ys : List V} {ms ns : List Int} {j1 j2 : Nat} {ws : List Nat} {ps : List (Int × Int)}
theorem el_lcPL (f : Int × Int → V) (h : EvP K tl σ H ps) (hz : ps.length ≤ 40000)
    (hw : ∀ x y, wipe (((wipe σ ws).set j1 (some x)).set j2 (some y)) ws = wipe σ ws) (he : ∀ p ∈ ps, ∀ H1, Ex H H1 → Ev te (((wipe σ ws).set j1 (some (.int p.1))).set j2 (some (.int p.2))) H1 (f p)) :
    EvL (tLc (iList K tl) (gTup K 2 (gCons (gName j1) (gCons (gName j2) gNil))) tYes te ws) σ H (ps.map f) := fun H0 e0 Q q => h H0 e0 _ fun l ts H1 nl e1 hl hf => ⟨l, rfl, ⟨ts, SqL.of hl⟩, fun D hD => by
  have e01 := e0.trans e1
  refine lc_it walk_list (fun i H' => H1 D = none ∧ Ex H1 H' ∧ H' D = some (.lst ((ps.take i).map f))) ⟨hD, Ex.new hD, upd_same⟩ (fun i H' _ p => SqL.of (p.2.1 _ _ hl)) ?_ ?_
  · rintro i x H' H2 hi ⟨p1, p2, p3⟩ ⟨rfl, hxi⟩
    obtain ⟨p, hp, t, rfl, hpt⟩ := hf.at hxi
    have m := List.mem_of_getElem? hp
    have st : ps.take (i + 1) = ps.take i ++ [p] := by rw [List.take_add_one, hp]; rfl
    have i12 : i < ps.length := (List.getElem?_eq_some_iff.mp hp).1
    refine ⟨t, _, rfl, ex_t p2 hpt, rfl, _, _, rfl, _, _, rfl, rfl, hw _ _, yes_go (iteT (he p m H2 (e01.trans p2) H2 (Ex.refl _) _ fun H5 e5 => ⟨_, e5 _ _ p3, sz_lt (by rw [List.length_map, List.length_take]; omega), p1, Ex.mut (p2.trans e5) p1, by rw [upd_same, st, List.map_append]; rfl⟩))⟩
  · rintro H' ⟨p1, p2, p3⟩
    rw [hf.len, List.take_of_length_le (Nat.le_refl _)] at p3
    exact q D H' (fresh_back e1 p1) (e1.trans p2) p3⟩
end
section
variable {K : PySem.W.Frag} {C : Addr} {σ : L2.St} {H : Hp} {tl te ti : TE} {a : Addr} {s : Int} {ns : List Int} {rs : List (Int × Int)} {j : Nat} {ws : List Nat}
theorem el_lcY (f : Int → V) (h : Etu K tl σ H (ns.map V.int)) (hz : ns.length ≤ 40000) (hw : ∀ x, wipe ((wipe σ ws).set j (some x)) ws = wipe σ ws)
    (he : ∀ n ∈ ns, ∀ H1, Ex H H1 → Ev te ((wipe σ ws).set j (some (.int n))) H1 (f n)) : EvL (tLc (iTup K tl) (gName j) tYes te ws) σ H (ns.map f) := by
  have z := el_lcN (K := K) (te := te) (tt := tYes) (fun _ => true) f h hz hw (fun n _ H1 _ H2 _ Q q => q H2 (Ex.refl H2)) (fun n hn _ H1 e => he n hn H1 e)
  rw [List.filter_eq_self.mpr fun _ _ => rfl] at z
  exact z
theorem sto_units (t : Addr) : (stoF t).lookup ("units" : Str) = none := by
  unfold stoF
  rw [lookup_putF, if_neg (by decide +kernel)]
  rfl
theorem ev_units (h : Ev te σ H (.ref a)) (hb : Ev ti σ H (.int s)) (hs : StoAt K C H a rs) (ho : StoOk rs) (hz : sizB s = true) : Ev (tMeth C "units" (spUnits K C) [] E0 te (tCons ti tNil)) σ H (.int (unt rs s)) := fun H1 e Q q => h H1 e _ fun H2 e2 => by
  obtain ⟨dx, t, ts, h1, _⟩ := (hs.up (e.trans e2)).ex
  exact ⟨a, dx, _, rfl, h1, sto_units t, hb H2 (e.trans e2) _ fun H3 e3 => ⟨a, s, rs, rfl, hs.up ((e.trans e2).trans e3), ho, hz, fun H' e4 => q H' ((e2.trans e3).trans e4)⟩⟩
end
theorem mk_stoL {K : PySem.W.Frag} {C l : Addr} {σ : L2.St} {H : Hp} {te : TE} {vs : List V} {rs : List (Int × Int)} {Q : VK} (h : Ev te σ H (.ref l)) (hl : H l = some (.lst vs)) (hf : F2 (RP K H) vs rs) (hr : Rns rs) (q : ∀ a H', Ex H H' → StoAt K C H' a (jr rs) → Q (.ref a) H') : tMakeS K C (spStoI K C) E0 te σ H Q :=
  h H (Ex.refl H) _ fun H1 e1 => ⟨l, vs, rfl, .inr (SqL.of (e1 _ _ hl)), fun x dx nx nd ne => by
    have n2 : (upd H1 dx (.own x)) x = none := by rw [upd_ne ne.symm]; exact nx
    exact ⟨x, dx, vs, rs, H1, rfl, (Ex.new nd).trans (Ex.new n2), nx, upd_same, hf.imp fun y b r => r.ex e1, hr, fun H' e' hst => ⟨rfl, q x H' (e1.trans e') hst⟩⟩⟩
end Ck

namespace CZ
open PySem
open PySem.Sem (wp)
open RZ
section
variable {prog : Program} {w : World} {A : Around} {E : Value → Shared → Prop} {s : Shared} {z TI TO T i1 i2 l1 l2 : Addr} {f : Bool} {oT : Obj} {k1 k2 : Nat} {xs ys : Array Value} {x y : Value}
end
section
variable {prog : Program} {w : World} {A : Around} {s : Shared} {R : Result → Shared → Prop} {z TI TO i1 i2 l1 l2 S : Addr} {xs ys : Array Value} {n N : Nat}
end
section
variable {prog : Program} {w : World} {A : Around} {E : Value → Shared → Prop} {s : Shared} {z TI TO i1 i2 l1 l2 : Addr} {xs ys : Array Value} {n : Nat}
end
end CZ
namespace Ck
open PySem PySem.Spec PyProof.Rows L2 StX RZ
end Ck

namespace Ck
open PySem PySem.Spec PyProof.Rows L2 Evl
structure Pws (ns : List Int) : Prop where
  pw : ns.Pairwise fun a b => a < b ∧ a ∣ b
  pos : ∀ n ∈ ns, 0 < n
theorem unt_cons (r : Int × Int) (rs : List (Int × Int)) (s : Int) : unt (r :: rs) s = r.2 * (r.1 / s) + unt rs s := by
  unfold unt
  rw [List.map_cons, List.sum_cons]
theorem unt_step {a b : Int} (ha : 0 < a) (hb : 0 < b) (d : a ∣ b) : ∀ {rs : List (Int × Int)}, (∀ r ∈ rs, 0 ≤ r.1 ∧ 0 ≤ r.2) → unt rs b * (b / a) ≤ unt rs a
  | [], _ => by unfold unt; rw [List.map_nil, List.map_nil, List.sum_nil, Int.zero_mul]; exact Int.le_refl 0
  | r :: rs, h => by
    have ih := unt_step ha hb d (rs := rs) fun x hx => h x (List.mem_cons_of_mem _ hx)
    obtain ⟨r1, r2⟩ := h r List.mem_cons_self
    rw [unt_cons, unt_cons, Int.add_mul]
    refine Int.add_le_add ?_ ih
    rw [Int.mul_assoc]
    refine Int.mul_le_mul_of_nonneg_left ?_ r2
    refine (Int.le_ediv_iff_mul_le ha).mpr ?_
    rw [Int.mul_assoc, Int.ediv_mul_cancel d]
    exact Int.ediv_mul_le _ (by omega)
theorem unt_nn {s : Int} (hs : 0 < s) : ∀ {rs : List (Int × Int)}, (∀ r ∈ rs, 0 ≤ r.1 ∧ 0 ≤ r.2) → 0 ≤ unt rs s
  | [], _ => Int.le_refl 0
  | r :: rs, h => by
    have ih := unt_nn hs (rs := rs) fun x hx => h x (List.mem_cons_of_mem _ hx)
    obtain ⟨r1, r2⟩ := h r List.mem_cons_self
    rw [unt_cons]
    have := Int.mul_nonneg r2 (Int.ediv_nonneg r1 (Int.le_of_lt hs))
    omega
theorem all_same {α : Type} {p q : α → Bool} : ∀ {l : List α}, (∀ x ∈ l, p x = q x) → l.all p = l.all q
  | [], _ => rfl
  | x :: l, h => by rw [List.all_cons, List.all_cons, h x List.mem_cons_self, all_same fun y hy => h y (List.mem_cons_of_mem _ hy)]
section
variable {K : PySem.W.Frag} {d : Addr} {σ : L2.St} {H : Hp} {te ta tb : TE} {P R S : Int → Prop} {i : Nat} {n t : Int}
def Ei (d : Addr) (P : Int → Prop) (te : TE) (σ : L2.St) (H : Hp) : Prop := Ek d (fun v => ∃ y, v = .int y ∧ P y) te σ H
theorem Ei.mono {P R : Int → Prop} (h : Ei d P te σ H) (k : ∀ y, P y → R y) : Ei d R te σ H := fun H1 e Q q => h H1 e Q fun v H2 e2 ⟨y, r, p⟩ => q v H2 e2 ⟨y, r, k y p⟩
theorem ei_c (h : P n) : Ei d P (tC (.int n)) σ H := fun H1 e Q q => q _ H1 (Kd.refl e.2) ⟨n, rfl, h⟩
theorem ei_v (hv : σ[i]? = some (some (.int n))) (h : P n) : Ei d P (tVar i) σ H := fun H1 e Q q => ⟨_, hv, q _ H1 (Kd.refl e.2) ⟨n, rfl, h⟩⟩
theorem ei_rollV (hv : σ[i]? = some (some (.ref d))) {B : Int} (h : Ei d (fun t => 0 < t ∧ t ≤ B) te σ H) (hB : B < 1073741824) : Ei d (fun y => 0 ≤ y ∧ y < B) (tCall spRoll [] E0 (tCons (tVar i) (tCons te tNil))) σ H := fun H1 e Q q =>
  ⟨_, hv, h H1 e _ fun v H2 e2 ⟨t, r, t0, t1⟩ => by
    subst r
    exact ⟨d, t, rfl, t0, by omega, e2.2, fun y H3 y0 y1 hd k => q _ H3 (e2.trans (Kd.but hd k)) ⟨y, rfl, y0, by omega⟩⟩⟩
theorem ei_roll (hv : σ[i]? = some (some (.ref d))) (t0 : 0 < t) (t1 : t < 1073741824) : Ei d (fun y => 0 ≤ y ∧ y < t) (tCall spRoll [] E0 (tCons (tVar i) (tCons (tC (.int t)) tNil))) σ H := ei_rollV hv (ei_c ⟨t0, Int.le_refl t⟩) t1
theorem ei_0 {g : Int → Int → Int} (ha : Ei d P ta σ H) (hb : Ei d R tb σ H) (k : ∀ a b, P a → R b → S (g a b)) : Ei d S (tOp (rI0 fun i j => .int (g i j)) ta tb) σ H := fun H1 e Q q => ha H1 e _ fun v H2 e2 ⟨a, r, pa⟩ => hb H2 (e.trans e2) _ fun w H3 e3 ⟨b, r2, pb⟩ => by
  subst r r2
  exact ⟨a, b, rfl, rfl, q _ H3 (e2.trans e3) ⟨_, rfl, k a b pa pb⟩⟩
theorem ei_C {C : Int → Int → Prop} {g : Int → Int → Int} (ha : Ei d P ta σ H) (hb : Ei d R tb σ H) (c : ∀ a b, P a → R b → C a b) (k : ∀ a b, P a → R b → S (g a b)) : Ei d S (tOp (rI C fun i j => .int (g i j)) ta tb) σ H := fun H1 e Q q => ha H1 e _ fun v H2 e2 ⟨a, r, pa⟩ => hb H2 (e.trans e2) _ fun w H3 e3 ⟨b, r2, pb⟩ => by
  subst r r2
  exact ⟨a, b, rfl, rfl, c a b pa pb, q _ H3 (e2.trans e3) ⟨_, rfl, k a b pa pb⟩⟩
def spPickS (K : PySem.W.Frag) : Sp := fun vs H Q _ => ∃ (d p : Addr) (xs : List V), vs = [.ref d, .ref p] ∧ Dice H d ∧ (SqL K H p xs ∨ SqT K H p xs) ∧ p ≠ d ∧ xs ≠ [] ∧ xs.length < 1073741824 ∧
  ∀ x ∈ xs, ∀ H', Dice H' d → But d H H' → Q x H'
theorem ei_pick (hv : σ[i]? = some (some (.ref d))) {ns : List Int} (h : ∀ H1, Kd d H H1 → ∀ Q : VK, (∀ g H2, Kd d H1 H2 → g ≠ d → (SqL K H2 g (ns.map V.int) ∨ SqT K H2 g (ns.map V.int)) → Q (.ref g) H2) → te σ H1 Q) (h0 : ns ≠ []) (hl : ns.length < 1073741824) : Ei d (fun y => y ∈ ns) (tCall (spPickS K) [] E0 (tCons (tVar i) (tCons te tNil))) σ H := fun H1 e Q q =>
  ⟨_, hv, h H1 e _ fun g H2 e2 gd hg => ⟨d, g, _, rfl, e2.2, hg, gd, by simpa using h0, by rw [List.length_map]; exact hl, fun x hx H3 hd k => by
    obtain ⟨y, hy, rfl⟩ := List.mem_map.mp hx
    exact q _ H3 (e2.trans (Kd.but hd k)) ⟨y, rfl, hy⟩⟩⟩
theorem pick_tup {p : Addr} {ns : List Int} (hv : σ[i]? = some (some (.ref p))) (hp : SqT K H p (ns.map V.int)) (pd : p ≠ d) : ∀ H1, Kd d H H1 → ∀ Q : VK, (∀ g H2, Kd d H1 H2 → g ≠ d → (SqL K H2 g (ns.map V.int) ∨ SqT K H2 g (ns.map V.int)) → Q (.ref g) H2) → (tVar i) σ H1 Q := fun H1 e Q q => ⟨_, hv, q p H1 (Kd.refl e.2) pd (.inr (e.1.sqT pd hp))⟩
theorem pick_lst {tr : TA} {xs : List Int} (h : ∀ H1, Kd d H H1 → EvA tr σ H1 (xs.map V.int)) (hl : xs.length ≤ 1000) : ∀ H1, Kd d H H1 → ∀ Q : VK, (∀ g H2, Kd d H1 H2 → g ≠ d → (SqL K H2 g (xs.map V.int) ∨ SqT K H2 g (xs.map V.int)) → Q (.ref g) H2) → (tLst tr) σ H1 Q := fun H1 e Q q =>
  h H1 e H1 (Ex.refl H1) _ fun H2 e2 => ⟨by rw [List.length_map]; exact Nat.le_trans hl (show 1000 ≤ sizeLine by decide), fun g ng => q g _ ((Kd.ex e.2 e2).to (Ex.new ng)) ((e.2.ex e2).ne ng) (.inl (SqL.of upd_same))⟩
end
structure GrR (rs : List (Int × Int)) : Prop where
  ln : rs.length ≤ 5
  ok : ∀ r ∈ rs, (0 < r.1 ∧ r.1 < 10 ^ 28) ∧ 0 < r.2 ∧ r.2 < 10 ^ 32
end Ck

namespace L2
open PySem PySem.Spec PyProof.Rows
end L2

namespace Ck
open PySem PySem.Spec PyProof.Rows L2 StX Evl
section
variable {K : PySem.W.Frag} {C : Addr} {σ : L2.St} {H : Hp} {ta tb te : TE} {xs : List V}
theorem el_copy {l : Addr} (h : Ev te σ H (.ref l)) (hl : SqL K H l xs) : EvL (tCB (fun xs H Q => ∃ p ys, xs = [V.ref p] ∧ (SqL K H p ys ∨ SqT K H p ys) ∧ ∀ l, H l = none → Q (.ref l) (upd H l (.lst ys))) (tCons te tNil)) σ H xs := fun H1 e Q q =>
  h H1 e _ fun H2 e2 => ⟨l, xs, rfl, .inl (ex_l (e.trans e2) hl), fun p hp => q p _ (fresh_back e2 hp) (e2.trans (Ex.new hp)) upd_same⟩
theorem el_rep (h : EvL ta σ H xs) {n : Int} (hb : Ev tb σ H (.int n)) (h0 : 0 ≤ n) (h1 : n ≤ 100) (hl : xs.length ≤ 100) : EvL (tOp rRep ta tb) σ H (List.replicate n.toNat xs).flatten := fun H1 e Q q =>
  h H1 e _ fun p H2 n2 e2 hp => hb H2 (e.trans e2) _ fun H3 e3 => ⟨p, n, xs, rfl, rfl, e3 _ _ hp, by omega, by omega, Nat.le_trans (Nat.mul_le_mul hl (show n.toNat ≤ 100 by omega)) (show 100 * 100 ≤ sizeLine by decide), fun t nt => q t _ (fresh_back (e2.trans e3) nt) ((e2.trans e3).trans (Ex.new nt)) upd_same⟩
end
theorem shaped_lrs (rs : List (Int × Int)) : SeqAt.shaped (.list (rs.map prD)) = true := by
  obtain ⟨a, b⟩ := lay_prs rs
  unfold SeqAt.shaped
  simp only [PyData.canLay0, PyData.depth, a]
  exact decide_eq_true (by omega)
theorem mk_stoR {K : PySem.W.Frag} {C : Addr} {σ : L2.St} {H : Hp} {tr : TA} {vs : List V} {rs : List (Int × Int)} {Q : VK} (h : EvA tr σ H vs) (hf : F2 (RP K H) vs rs) (hr : Rns rs) (q : ∀ a H', Ex H H' → StoAt K C H' a (jr rs) → Q (.ref a) H') : tMakeR C (spStoI K C) E0 tr σ H Q :=
  h H (Ex.refl H) _ fun H1 e1 => fun x dx nx nd ne => by
    have n2 : (upd H1 dx (.own x)) x = none := by rw [upd_ne ne.symm]; exact nx
    exact ⟨x, dx, vs, rs, H1, rfl, (Ex.new nd).trans (Ex.new n2), nx, upd_same, hf.imp fun y b r => r.ex e1, hr, fun H' e' hst => ⟨rfl, q x H' (e1.trans e') hst⟩⟩
end Ck

namespace Ck
open PySem PySem.Spec PyProof.Rows L2 StX Evl
section
variable {K : PySem.W.Frag} {σ : L2.St} {H : Hp} {ta tb te tl : TE} {tt : TT} {tr : TA} {l : Addr} {ts : List V} {ps : List (Int × Int)} {j j1 j2 : Nat} {ws : List Nat}
theorem el_lcPV (f : Int × Int → V) (h : Ev tl σ H (.ref l)) (hl : SqL K H l ts) (hf : F2 (RP K H) ts ps) (hz : ps.length ≤ 40000)
    (hw : ∀ x y, wipe (((wipe σ ws).set j1 (some x)).set j2 (some y)) ws = wipe σ ws) (he : ∀ p ∈ ps, ∀ H1, Ex H H1 → Ev te (((wipe σ ws).set j1 (some (.int p.1))).set j2 (some (.int p.2))) H1 (f p)) :
    EvL (tLc (iList K tl) (gTup K 2 (gCons (gName j1) (gCons (gName j2) gNil))) tYes te ws) σ H (ps.map f) := fun H0 e0 Q q => h H0 e0 _ fun H1 e1 => ⟨l, rfl, ⟨ts, ex_l (e0.trans e1) hl⟩, fun D hD => by
  have e01 := e0.trans e1
  refine lc_it walk_list (fun i H' => H1 D = none ∧ Ex H1 H' ∧ H' D = some (.lst ((ps.take i).map f))) ⟨hD, Ex.new hD, upd_same⟩ (fun i H' _ p => ex_l (e01.trans p.2.1) hl) ?_ ?_
  · rintro i x H' H2 hi ⟨p1, p2, p3⟩ ⟨rfl, hxi⟩
    obtain ⟨p, hp, t, rfl, hpt⟩ := hf.at hxi
    have m := List.mem_of_getElem? hp
    have st : ps.take (i + 1) = ps.take i ++ [p] := by rw [List.take_add_one, hp]; rfl
    have i12 : i < ps.length := (List.getElem?_eq_some_iff.mp hp).1
    refine ⟨t, _, rfl, ex_t (e01.trans p2) hpt, rfl, _, _, rfl, _, _, rfl, rfl, hw _ _, yes_go (iteT (he p m H2 (e01.trans p2) H2 (Ex.refl _) _ fun H5 e5 => ⟨_, e5 _ _ p3, sz_lt (by rw [List.length_map, List.length_take]; omega), p1, Ex.mut (p2.trans e5) p1, by rw [upd_same, st, List.map_append]; rfl⟩))⟩
  · rintro H' ⟨p1, p2, p3⟩
    rw [hf.len, List.take_of_length_le (Nat.le_refl _)] at p3
    exact q D H' (fresh_back e1 p1) (e1.trans p2) p3⟩
end
theorem fil_nil {α : Type} {c : α → Bool} : ∀ (l : List α), decide (l.filter c = []) = l.all fun x => !c x
  | [] => rfl
  | x :: l => by
    have ih := fil_nil (c := c) l
    rw [List.filter_cons, List.all_cons, ← ih]
    cases h : c x with
    | true => rfl
    | false => rfl
end Ck

namespace Ck
open PySem PySem.Spec PyProof.Rows L2 StX Evl
theorem chd_isc {ns : List Int} {L : Int} (h : Chd ns L) (hl : ns.length ≤ 6) (hL : L < 10 ^ 27) : IsC ns := by
  have big : (10 : Int) ^ 27 < 10 ^ 200 := by decide +kernel
  refine ⟨fun e => ?_, by omega, fun n hn => ?_, h.pw.imp fun h => ⟨h.1, Int.emod_eq_zero_of_dvd h.2⟩⟩
  · obtain ⟨r, e2⟩ := h.last
    rw [e] at e2
    exact nomatch (List.append_eq_nil_iff.mp e2.symm).2
  · obtain ⟨a, b, _⟩ := h.pos n hn
    exact ⟨a, by omega⟩
theorem sum_bound {rs : List (Int × Int)} {g : Int × Int → Int} {B : Int} (h : ∀ r ∈ rs, 0 ≤ g r ∧ g r ≤ B) : 0 ≤ (rs.map g).sum ∧ (rs.map g).sum ≤ rs.length * B ∧ ∀ r ∈ rs, g r ≤ (rs.map g).sum := by
  induction rs with
  | nil => exact ⟨Int.le_refl 0, by rw [List.length_nil]; show (0 : Int) ≤ 0 * B; rw [Int.zero_mul]; exact Int.le_refl 0, fun r hr => nomatch hr⟩
  | cons x t ih =>
    obtain ⟨i1, i2, i3⟩ := ih fun r hr => h r (List.mem_cons_of_mem _ hr)
    obtain ⟨x1, x2⟩ := h x List.mem_cons_self
    rw [List.map_cons, List.sum_cons, List.length_cons]
    have e : (((t.length + 1 : Nat) : Int)) * B = t.length * B + B := by rw [Int.natCast_add, Int.add_mul]; show _ + 1 * B = _; rw [Int.one_mul]
    refine ⟨by omega, by rw [e]; omega, fun r hr => ?_⟩
    rcases List.mem_cons.mp hr with rfl | hr
    · omega
    · have := i3 r hr
      omega
theorem snd_each : ∀ {l : List (Int × Int)}, (∀ r ∈ l, 0 < r.2) → 0 ≤ (l.map fun r => r.2).sum ∧ ∀ r ∈ l, r.2 ≤ (l.map fun r => r.2).sum
  | [], _ => ⟨Int.le_refl 0, fun r hr => nomatch hr⟩
  | x :: t, h => by
    obtain ⟨i1, i2⟩ := snd_each fun r hr => h r (List.mem_cons_of_mem _ hr)
    have x0 := h x List.mem_cons_self
    rw [List.map_cons, List.sum_cons]
    refine ⟨by omega, fun r hr => ?_⟩
    rcases List.mem_cons.mp hr with rfl | hr
    · omega
    · have := i2 r hr
      omega
section
variable {K : PySem.W.Frag} {C : Addr} {σ : L2.St} {H H' : Hp} {ta tb te tl : TE} {a p u d : Addr} {ns us : List Int} {rs : List (Int × Int)} {j1 j2 : Nat} {ws : List Nat}
theorem StoAt.kd (hd : Dice H d) (k : Kd d H H') (h : StoAt K C H a rs) : StoAt K C H' a rs := by
  obtain ⟨dx, t, ts, h1, h2, h3⟩ := h.ex
  obtain ⟨x, y, z, e⟩ := hd
  exact ⟨dx, t, ts, k.1 _ _ (fun z => by rw [z, e] at h1; cases h1) h1, sqT_kp ⟨x, y, z, e⟩ k.1 h2, h3.imp fun x b r => r.kd ⟨_, _, _, e⟩ k⟩
end
section
variable {K : PySem.W.Frag} {σ : L2.St} {H : Hp} {ta tb te : TE} {p d l : Addr} {ns zs : List Int} {xs ys : List V} {i j n : Nat} {P : Int → Prop}
end
section
variable {K : PySem.W.Frag} {σ : L2.St} {H : Hp} {ta tb te : TE} {xs : List V} {Pr : V → Hp → Prop} {u : Addr} {z : V}
end
section
variable {K : PySem.W.Frag} {CS : Addr} {σ : L2.St} {H : Hp} {Q : VK}
theorem mk_stoV {vs : List V} {rs : List (Int × Int)} (hf : F2 (RP K H) vs rs) (hr : Rns rs) (q : ∀ a H', Ex H H' → StoAt K CS H' a (jr rs) → Q (.ref a) H') : ∀ x dx, H x = Option.none → H dx = Option.none → dx ≠ x → spStoI K CS (V.ref x :: vs) (upd (upd H dx (.own x)) x (.ins CS dx [])) (fun v H2 => v = .non ∧ Q (.ref x) H2) E0 := fun x dx nx nd ne => by
  have n2 : (upd H dx (.own x)) x = none := by rw [upd_ne ne.symm]; exact nx
  exact ⟨x, dx, vs, rs, H, rfl, (Ex.new nd).trans (Ex.new n2), nx, upd_same, hf, hr, fun H' e' hst => ⟨rfl, q x H' e' hst⟩⟩
theorem mk_sto0 (q : ∀ x H', Ex H H' → StoAt K CS H' x [] → Q (.ref x) H') : tMakeR CS (spStoI K CS) E0 tNil σ H Q := mk_stoV (rs := []) .nil ⟨(fun r h => nomatch h), by decide, by decide⟩ q
end
end Ck

namespace Ck
open PySem PySem.Spec PyProof.Rows L2 RZ
def ItN (K : PySem.W.Frag) (a b : Addr) : It :=
  ⟨fun i H => ∃ (xs ys : List V) (x y : V), (SqL K H a xs ∧ SqT K H b ys) ∧ xs[i]? = some x ∧ ys[i]? = some y,
    fun i H v H' => ∃ T x y, v = .ref T ∧ H T = none ∧ H' = upd H T (.tup [x, y]) ∧ (∀ us, SqL K H a us → us[i]? = some x) ∧ ∀ us, SqT K H b us → us[i]? = some y,
    fun i H => ∃ xs ys : List V, (SqL K H a xs ∧ SqT K H b ys) ∧ (i = xs.length ∧ i ≤ ys.length ∨ i ≤ xs.length ∧ i = ys.length)⟩
def ZipN (a b z ti to i1 i2 : Addr) (i : Nat) (h : Heap) : Prop :=
  IsZip h z ti to .none ∧ IsTupOf2 h ti (.ref i1) (.ref i2) ∧ (∃ x y, IsTupOf2 h to x y) ∧ h.IsListIter i1 a i ∧ h.IsTupleIter i2 b i
theorem turnN {P : Program} {w : World} {K : PySem.W.Frag} {es : List Expr} {kk : Nat} {tp : Pos} {a b z ti to i1 i2 : Addr} (D : ZipSep2 z ti to i1 i2 [i1, a] [i2, b]) (na : a ≠ i1) (nb : b ≠ i2) :
    Turn P w K (.Tuple es kk tp) (ItN K a b) (cells5 z ti to i1 i2) z (ZipN a b z ti to i1 i2) where
  mem := List.mem_cons_self
  obj := by
    rintro i h ⟨s1, s2, ⟨x, y, s3⟩, ⟨o1, e1, _, d1⟩, ⟨o2, e2, _, d2⟩⟩ c hc
    rcases in5 hc with rfl | rfl | rfl | rfl | rfl
    · exact ⟨_, s1, fun v => Data.noConfusion⟩
    · exact ⟨_, s2, fun v => Data.noConfusion⟩
    · exact ⟨_, s3, fun v => Data.noConfusion⟩
    · exact ⟨o1, e1, fun v => by rw [d1]; exact Data.noConfusion⟩
    · exact ⟨o2, e2, fun v => by rw [d2]; exact Data.noConfusion⟩
  keep := by
    rintro i h h' ⟨s1, s2, ⟨x, y, s3⟩, s4, s5⟩ k
    have q : ∀ c, c ∈ cells5 z ti to i1 i2 → ∀ o, h.get? c = some o → h'.get? c = some o := k
    exact ⟨q z (by simp) _ s1, q ti (by simp) _ s2, ⟨x, y, q to (by simp) _ s3⟩, s4.at (q i1 (by simp)), s5.at (q i2 (by simp))⟩
  item := by
    intro X e1 e2 e3 hc i pins s σ H E I hf st hg
    subst e1 e2 e3
    obtain ⟨s1, s2, ⟨x0, y0, s3⟩, s4, s5⟩ := st
    obtain ⟨xs, ys, x, y, ⟨qx, qy⟩, gx, gy⟩ := hg
    obtain ⟨us, ru, pu, _⟩ := I.list qx
    obtain ⟨ws, rw', pw, _⟩ := I.tuple qy
    obtain ⟨u, hu, rxu⟩ := ru.get gx
    obtain ⟨v, hv, ryv⟩ := rw'.get gy
    have hh : X.A.in1.handled = none := I.ok.hd hc
    have lu := (List.getElem?_eq_some_iff.mp hu).1
    have lv := (List.getElem?_eq_some_iff.mp hv).1
    have zl := Heap.lt_size s1
    refine wpAny_pyNext_zipD2_item D (Draws.list hh i1 a na us.toArray) (Draws.tuple hh i2 b nb ws.toArray) s1 s2 s3 ⟨s4, pu.isList⟩ ⟨s5, pw⟩ (by simpa using lu) (by simpa using lv) ?_
    intro u' v' h' tk eu ev z' to' i1' i2' nt sz kp
    obtain rfl : u = u' := Option.some.inj (hu.symm.trans (by simpa using eu))
    obtain rfl : v = v' := Option.some.inj (hv.symm.trans (by simpa using ev))
    refine ⟨_, rfl, wpAny_letOwnedTupleGo_zip (s := { s with heap := h', toks := tk }) z' fun h2 z2 sb => ?_⟩
    have stay : ∀ c o, c ∉ cells5 z ti to i1 i2 → s.heap.get? c = some o → h2.get? c = some o := fun c o n e => by
      obtain ⟨n1, n2, n3, n4⟩ := no5 n
      exact (sb.2 c n1).trans (kp c o n1 n2 n3 n4 e)
    have new : ObjOk X.prog X.w (upd H s.heap.objs.size (.tup [x, y])) h2 s.heap.objs.size (.tup [x, y]) :=
      ⟨(show 2 ≤ sizeLine by decide), [u, v], .cons rxu (.cons ryv .nil), ⟨_, (sb.2 _ (Nat.ne_of_gt zl)).trans nt, rfl, _, rfl⟩⟩
    have J := I.turnedNew (t' := tk) (ch := cells5 z ti to i1 i2) stay hf (Nat.le_refl _) new
    have fr := I.hok.fresh (Nat.le_refl s.heap.objs.size)
    refine ⟨.ref s.heap.objs.size, _, J, rfl, ⟨_, x, y, rfl, fr, rfl, fun l hl => ?_, fun l hl => ?_⟩, ⟨z2, ?_, ⟨u, v, ?_⟩, ?_, ?_⟩, fun c hcm => ?_⟩
    · rw [I.list_inj hl qx]; exact gx
    · rw [I.tuple_inj hl qy]; exact gy
    · exact (sb.2 ti D.TIz).trans (kp ti _ D.TIz D.TITO D.TIi1 D.TIi2 s2)
    · exact (sb.2 to D.TOz).trans to'
    · exact i1'.1.at fun o q => (sb.2 i1 D.zi1.symm).trans q
    · exact i2'.1.at fun o q => (sb.2 i2 D.zi2.symm).trans q
    · have lt : c < s.heap.objs.size := by
        rcases in5 hcm with e | e | e | e | e
        · exact e ▸ zl
        · exact e ▸ Heap.lt_size s2
        · exact e ▸ Heap.lt_size s3
        · obtain ⟨_, q, _⟩ := s4
          exact e ▸ Heap.lt_size q
        · obtain ⟨_, q, _⟩ := s5
          exact e ▸ Heap.lt_size q
      rw [upd_ne (Nat.ne_of_lt lt)]
      exact (hf c hcm).1
  done := by
    intro X e1 e2 e3 hc i pins s σ H E I hf st hg
    subst e1 e2 e3
    obtain ⟨s1, s2, ⟨x0, y0, s3⟩, s4, s5⟩ := st
    obtain ⟨xs, ys, ⟨qx, qy⟩, hend⟩ := hg
    obtain ⟨us, ru, pu, _⟩ := I.list qx
    obtain ⟨ws, rw', pw, _⟩ := I.tuple qy
    have hh : X.A.in1.handled = none := I.ok.hd hc
    have l1 := ru.length
    have l2 := rw'.length
    refine wpAny_pyNext_zipD2_end D (Draws.list hh i1 a na us.toArray) (Draws.tuple hh i2 b nb ws.toArray) s1 s2 s3 ⟨s4, pu.isList⟩ ⟨s5, pw⟩ (by simp; omega) (by simp; omega) (by simp; omega) fun h' tk kp => ⟨rfl, ?_⟩
    refine I.turnedL (t' := tk) (ch := cells5 z ti to i1 i2) (fun c o n e => ?_) hf
    obtain ⟨n1, n2, n3, n4⟩ := no5 n
    exact kp c o n1 n2 n3 n4 e
  self := fun A i s Q E st h => wpAny_pyIter_zip st.1 h

def iZipX (K : PySem.W.Frag) (ta : TA) : TI := fun σ H R => ta σ H fun vs H1 => ∃ a b xs ys, vs = [.ref a, .ref b] ∧ ((SqL K H1 a xs ∧ SqL K H1 b ys ∧ R (Itz K a b) H1) ∨ (SqT K H1 a xs ∧ SqT K H1 b ys ∧ R (ItzT K a b) H1) ∨ (SqT K H1 a xs ∧ SqL K H1 b ys ∧ R (ItM K a b) H1) ∨ (SqL K H1 a xs ∧ SqT K H1 b ys ∧ R (ItN K a b) H1))
theorem pi_zipX {X : Cx} {e e2 : Expr} {ta : TA} {p pos tp : Pos} {es : List Expr} {kk : Nat} (hg : Gl X "zip") (hm : X.mg "zip" = none) (ha : PA X [e, e2] ta)
    (hs : starEach [e, e2] X.env = (false, eval e X.env) :: starEach [e2] X.env := by rfl) (hpl : (backTo pos (starEach [e2] X.env)).any (·.1) = false := by rfl) :
    PI X (.Tuple es kk tp) (.Call (.Name "zip" p) [e, e2] [] pos) (iZipX X.K ta) := by
  refine ⟨fun pins s σ H R I h => Call_ (ld_blt I hg hm PyProof.Rows.boot_zip (PyProof.Rows.callWith_type1 (thn (ha.run pos pins s σ H _ I h) ?_) hs hpl))⟩
  rintro us s1 ⟨vs, H1, I1, r, a, b, xs, ys, rfl, q⟩
  obtain ⟨u, v, rfl, ra, rb⟩ := vals2 r
  cases ra
  cases rb
  have fr : ∀ c, c ∈ cells5 (s1.heap.objs.size + 4) (s1.heap.objs.size + 2) (s1.heap.objs.size + 3) s1.heap.objs.size (s1.heap.objs.size + 1) → FpOk X pins H1 c := fun c hcm => by
    have le : s1.heap.objs.size ≤ c := by
      rcases in5 hcm with e | e | e | e | e
      · rw [e]; exact Nat.le_add_right _ _
      · rw [e]; exact Nat.le_add_right _ _
      · rw [e]; exact Nat.le_add_right _ _
      · rw [e]; exact Nat.le_refl _
      · rw [e]; exact Nat.le_add_right _ _
    exact I1.fpOk le (I1.hok.fresh le)
  rcases q with ⟨qx, qy, q⟩ | ⟨qx, qy, q⟩ | ⟨qx, qy, q⟩ | ⟨qx, qy, q⟩
  · obtain ⟨its, rv, p1, _⟩ := I1.list qx
    obtain ⟨its2, rv2, p2, _⟩ := I1.list qy
    refine call_zip_2 p1.isList p2.isList fun h' hz hTI hTO h1 h2 hsz hk => wpAny_pyIter_zip hz ?_
    exact ⟨s1.heap.objs.size + 4, _, _, _, H1, rfl, I1.kept (t' := s1.toks) hk, turn_zip (PySem.W.ktu_apart s1.heap.objs.size a b p1.lt p2.lt), ⟨hz, hTI, ⟨_, _, hTO⟩, h1, h2⟩, fr, q⟩
  · obtain ⟨its, rv, p1, _⟩ := I1.tuple qx
    obtain ⟨its2, rv2, p2, _⟩ := I1.tuple qy
    obtain ⟨o1, ho1, _⟩ := id p1
    obtain ⟨o2, ho2, _⟩ := id p2
    refine call_zipT (show s1.heap.IsTuple a its.toArray from p1) (show s1.heap.IsTuple b its2.toArray from p2) fun h' hz hTI hTO h1 h2 hsz hk => wpAny_pyIter_zip hz ?_
    exact ⟨s1.heap.objs.size + 4, _, _, _, H1, rfl, I1.kept (t' := s1.toks) hk, turn_zipT (PySem.W.ktu_apart s1.heap.objs.size a b (Heap.lt_size ho1) (Heap.lt_size ho2)), ⟨hz, hTI, ⟨_, _, hTO⟩, h1, h2⟩, fr, q⟩
  · obtain ⟨its, _, p1, _⟩ := I1.tuple qx
    obtain ⟨its2, _, p2, _⟩ := I1.list qy
    have la : a < s1.heap.objs.size := by
      obtain ⟨_, e, _⟩ := id p1
      exact Heap.lt_size e
    have lb := p2.lt
    refine zip_begins2 (begins_tuple a its.toArray) (begins_list b its2.toArray) p1 p2.isList fun h' z ti to g1 g2 sz kp => wpAny_pyIter_zip z ?_
    have D := zip_sep2 (N := s1.heap.objs.size) (fp1 := [a]) (fp2 := [b]) (fun c hc => by cases List.mem_singleton.mp hc; exact la) (fun c hc => by cases List.mem_singleton.mp hc; exact lb)
    exact ⟨_, _, _, _, H1, rfl, I1.kept (t' := s1.toks) kp, turnM D (Nat.ne_of_lt la) (Nat.ne_of_lt (Nat.lt_succ_of_lt lb)), ⟨z, ti, ⟨_, _, to⟩, ⟨_, g1, rfl, rfl⟩, ⟨_, g2, rfl, rfl⟩⟩, fr, q⟩
  · obtain ⟨its, _, p1, _⟩ := I1.list qx
    obtain ⟨its2, _, p2, _⟩ := I1.tuple qy
    have la := p1.lt
    have lb : b < s1.heap.objs.size := by
      obtain ⟨_, e, _⟩ := id p2
      exact Heap.lt_size e
    refine zip_begins2 (begins_list a its.toArray) (begins_tuple b its2.toArray) p1.isList p2 fun h' z ti to g1 g2 sz kp => wpAny_pyIter_zip z ?_
    have D := zip_sep2 (N := s1.heap.objs.size) (fp1 := [a]) (fp2 := [b]) (fun c hc => by cases List.mem_singleton.mp hc; exact la) (fun c hc => by cases List.mem_singleton.mp hc; exact lb)
    exact ⟨_, _, _, _, H1, rfl, I1.kept (t' := s1.toks) kp, turnN D (Nat.ne_of_lt la) (Nat.ne_of_lt (Nat.lt_succ_of_lt lb)), ⟨z, ti, ⟨_, _, to⟩, ⟨_, g1, rfl, rfl⟩, ⟨_, g2, rfl, rfl⟩⟩, fr, q⟩
end Ck

namespace Ck
open PySem PySem.Spec PyProof.Rows L2 StX RZ
section
variable {X : Cx}
theorem int_of {h : Heap} {v : Value} {a : Int} (H : PySem.W.Holds h v a) : ∃ t, v = .int a t := by
  obtain ⟨as, r⟩ := H
  cases r with
  | int i t => exact ⟨t, rfl⟩
end
def rSlB (K : PySem.W.Frag) : V → Option Int → Option Int → Hp → VK → Prop := fun x lo hi H Q => rSlL K x lo hi H Q ∨ rSlA K x lo hi H Q
theorem sl_both {X : Cx} : SlR X (rSlB X.K) := sl_list.or sl_tupA
def spGapB (K : PySem.W.Frag) : Sp := fun vs H Q _ => ∃ (p : Addr) (ns : List Int), vs = [.ref p] ∧ (SqL K H p (ns.map V.int) ∨ (SqT K H p (ns.map V.int) ∧ ns ≠ [])) ∧ (∀ n ∈ ns, 0 < n) ∧ ∀ v H', Evl.Ex H H' → Dp K H' v (gapD (gap ns)) → Q v H'
section
variable {K : PySem.W.Frag} {σ : L2.St} {H : Hp} {p : Addr} {ns : List Int}
def tZipB (K : PySem.W.Frag) : TI := iZipX K (tCons (tVar 0) (tCons (tSl (rSlB K) (tVar 0) (tPart (tC (.int 1))) tNoPart) tNil))
theorem zip_goBL (hv : σ[0]? = some (some (.ref p))) (hp : SqL K H p (ns.map V.int)) {R : It → Hp → Prop} (k : ∀ c, H c = none → R (Itz K p c) (upd H c (.lst ((ns.drop 1).map V.int)))) : tZipB K σ H R := by
  refine ⟨.ref p, hv, .ref p, hv, 1, rfl, .inl ⟨p, _, rfl, hp, fun c hc => ⟨p, c, ns.map V.int, (ns.drop 1).map V.int, rfl, .inl ⟨Evl.ex_l (Evl.Ex.new hc) hp, ?_, ?_⟩⟩⟩⟩
  · rw [cutT1, ← List.map_drop]
    exact SqL.of upd_same
  · rw [cutT1, ← List.map_drop]
    exact k c hc
theorem zip_goBT (hv : σ[0]? = some (some (.ref p))) (hp : SqT K H p (ns.map V.int)) (hne : ns ≠ []) {R : It → Hp → Prop} (k : ∀ c, H c = none → R (ItzT K p c) (upd H c (.tup ((ns.drop 1).map V.int)))) : tZipB K σ H R := by
  refine ⟨.ref p, hv, .ref p, hv, 1, rfl, .inr ⟨p, _, rfl, hp, fun z => ?_, fun _ c hc => ?_⟩⟩
  · have e : HT.sIx (ns.map V.int).length 0 (some 1) = min 1 (ns.map V.int).length := HT.sIx_nat _ 0 1
    rw [e, List.length_map] at z
    have l : 0 < ns.length := List.length_pos_iff.mpr hne
    omega
  · refine ⟨p, c, ns.map V.int, (ns.drop 1).map V.int, rfl, .inr (.inl ⟨?_, ?_, ?_⟩)⟩
    · exact Evl.ex_t (Evl.Ex.new hc) hp
    · rw [cutT1, ← List.map_drop]
      exact SqT.of upd_same
    · rw [cutT1, ← List.map_drop]
      exact k c hc
end
end Ck

namespace Ck
open PySem PySem.Spec PyProof.Rows L2 StX Evl
structure LotC (ps : List (Int × Int)) : Prop where
  ct : Cts ps
  asc : Asc ps
  ch : gap (ps.map Prod.fst) = none
def spTogN (K : PySem.W.Frag) : Sp := fun vs H Q _ => ∃ (p : Addr) (ns : List Int), vs = [.ref p] ∧ SqT K H p (ns.map V.int) ∧ ns.length < 60 ∧ (∀ n ∈ ns, 0 < n) ∧ gap (uni ns) = none ∧ ∀ H', Ex H H' → Q .non H'
def spLotU (K : PySem.W.Frag) (C : Addr) : Sp := fun vs H Q _ => ∃ (a : Addr) (s : Int) (ps : List (Int × Int)), vs = [.ref a, .int s] ∧ LotAt K C H a ps ∧ Cts ps ∧ sizB s = true ∧ (∀ p ∈ ps, s < p.1 → s ∣ p.1) ∧ ∀ H', Ex H H' → Q (.int (unt ps s)) H'
def spChkL (K : PySem.W.Frag) (CL CS : Addr) : Sp := fun vs H Q _ => ∃ (a b : Addr) (ps rs : List (Int × Int)), vs = [.ref a, .ref b] ∧ LotAt K CL H a ps ∧ LotC ps ∧ StoAt K CS H b rs ∧ ∀ H', Ex H H' → Q .non H'
def RT3 (K : PySem.W.Frag) (H : Hp) (x : V) (q : Int × Int × Int) : Prop := ∃ t, x = .ref t ∧ SqT K H t [.int q.1, .int q.2.1, .int q.2.2]
def lvs (ps rs : List (Int × Int)) : List (Int × Int × Int) := (ps.map Prod.fst).map fun s => (s, unt ps s, unt rs s)
def brs (ps rs : List (Int × Int)) : List Int := (ps.map Prod.fst).filter fun s => decide (unt rs s < unt ps s)
def spLvs (K : PySem.W.Frag) (CL CS : Addr) : Sp := fun vs H Q _ => ∃ (a b : Addr) (ps rs : List (Int × Int)), vs = [.ref a, .ref b] ∧ LotAt K CL H a ps ∧ LotC ps ∧ StoAt K CS H b rs ∧ StoOk rs ∧ ∀ t ts H', Ex H H' → SqT K H' t ts → F2 (RT3 K H') ts (lvs ps rs) → Q (.ref t) H'
def spBrs (K : PySem.W.Frag) (CL CS : Addr) : Sp := fun vs H Q _ => ∃ (a b : Addr) (ps rs : List (Int × Int)), vs = [.ref a, .ref b] ∧ LotAt K CL H a ps ∧ LotC ps ∧ StoAt K CS H b rs ∧ StoOk rs ∧ ∀ t H', Ex H H' → SqT K H' t ((brs ps rs).map V.int) → Q (.ref t) H'
def fitB (ps rs : List (Int × Int)) : Bool := (ps.map Prod.fst).all fun s => decide (unt ps s ≤ unt rs s)
def spFits (K : PySem.W.Frag) (CL CS : Addr) : Sp := fun vs H Q _ => ∃ (a b : Addr) (ps rs : List (Int × Int)), vs = [.ref a, .ref b] ∧ LotAt K CL H a ps ∧ LotC ps ∧ StoAt K CS H b rs ∧ StoOk rs ∧ ∀ H', Ex H H' → Q (.bl (fitB ps rs)) H'
theorem RT3.ex {K : PySem.W.Frag} {H H' : Hp} {x : V} {q : Int × Int × Int} (e : Ex H H') (h : RT3 K H x q) : RT3 K H' x q := h.imp fun t h => ⟨h.1, ex_t e h.2⟩
theorem RT3.upd {K : PySem.W.Frag} {H : Hp} {l : Addr} {xs ys : List V} {x : V} {q : Int × Int × Int} (hl : H l = some (.lst xs)) (h : RT3 K H x q) : RT3 K (L2.upd H l (.lst ys)) x q := h.imp fun t h => ⟨h.1, sqT_updL h.2 hl⟩
theorem lot_m (t1 t2 d : Addr) : (lotF t1 t2 d).lookup ("units" : Str) = none := by
  unfold lotF
  rw [lookup_putF, if_neg (by decide +kernel), lookup_putF, if_neg (by decide +kernel), lookup_putF, if_neg (by decide +kernel)]
  rfl
theorem ev_lotU {K : PySem.W.Frag} {C : Addr} {σ : L2.St} {H : Hp} {te ti : TE} {a : Addr} {s : Int} {ps : List (Int × Int)} (h : Ev te σ H (.ref a)) (hb : Ev ti σ H (.int s)) (hs : LotAt K C H a ps) (hc : Cts ps) (hz : sizB s = true) (hd : ∀ p ∈ ps, s < p.1 → s ∣ p.1) : Ev (tMeth C "units" (spLotU K C) [] E0 te (tCons ti tNil)) σ H (.int (unt ps s)) := fun H1 e Q q => h H1 e _ fun H2 e2 => by
  obtain ⟨dx, t1, t2, d, ts, h1, _⟩ := (hs.up (e.trans e2)).ex
  exact ⟨a, dx, _, rfl, h1, lot_m t1 t2 d, hb H2 (e.trans e2) _ fun H3 e3 => ⟨a, s, ps, rfl, hs.up ((e.trans e2).trans e3), hc, hz, hd, fun H' e4 => q H' ((e2.trans e3).trans e4)⟩⟩
theorem ev_any {K : PySem.W.Frag} {σ : L2.St} {H : Hp} {te : TE} {bs : List Bool} (h : EvL te σ H (bs.map V.bl)) : Ev (tCB (rAny K) (tCons te tNil)) σ H (.bl (bs.any id)) := fun H1 e Q q =>
  h H1 e _ fun l H2 _ e2 hl => ⟨l, bs, rfl, sq_of hl, q H2 e2⟩
theorem fit_brs (ps rs : List (Int × Int)) : decide (brs ps rs = []) = fitB ps rs := by
  unfold brs fitB
  rw [fil_nil]
  refine all_same fun s _ => ?_
  by_cases c : unt rs s < unt ps s
  · rw [decide_eq_true c, decide_eq_false (by omega)]; rfl
  · rw [decide_eq_false c, decide_eq_true (by omega)]; rfl
theorem LotC.dv {ps : List (Int × Int)} (h : LotC ps) : ∀ s ∈ ps.map Prod.fst, ∀ p ∈ ps, s < p.1 → s ∣ p.1 := by
  have pos : ∀ n ∈ ps.map Prod.fst, 0 < n := fun n hn => (cts_pos h.ct n hn).1
  have pw : (ps.map Prod.fst).Pairwise Dv := chain_pw (pw_asc h.asc) h.ch pos
  intro s hs p hp lt
  have hm : p.1 ∈ ps.map Prod.fst := List.mem_map_of_mem hp
  obtain ⟨i, hi, ei⟩ := List.mem_iff_getElem.mp hs
  obtain ⟨j, hj, ej⟩ := List.mem_iff_getElem.mp hm
  have r := List.pairwise_iff_getElem.mp pw
  rcases Nat.lt_trichotomy i j with h1 | h1 | h1
  · have z := (r i j hi hj h1).2
    rw [ei, ej] at z
    exact Int.dvd_of_emod_eq_zero z
  · subst h1
    rw [ei] at ej
    omega
  · have z := (r j i hj hi h1).1
    rw [ei, ej] at z
    omega
section
variable {K : PySem.W.Frag} {σ : L2.St} {H : Hp} {tl te ta tb tc : TE} {tt : TT} {ns : List Int} {qs : List (Int × Int × Int)} {j j1 j2 j3 : Nat} {ws : List Nat}
theorem lc_tupE {α : Type} {R : Hp → V → α → Prop} {e : Int → α} (L : ∀ H H' x b, Ex H H' → R H x b → R H' x b) (LU : ∀ H l xs ys x b, H l = some (.lst xs) → R H x b → R (upd H l (.lst ys)) x b) (h : Etu K tl σ H (ns.map V.int)) (hz : ns.length ≤ 40000) (hw : ∀ x, wipe ((wipe σ ws).set j (some x)) ws = wipe σ ws)
    (he : ∀ n ∈ ns, ∀ H1, Ex H H1 → EvR R te ((wipe σ ws).set j (some (.int n))) H1 (e n)) :
    ∀ H1, Ex H H1 → ∀ Q : VK, (∀ D vs H2, H1 D = none → Ex H1 H2 → H2 D = some (.lst vs) → F2 (R H2) vs (ns.map e) → Q (.ref D) H2) → tLc (iTup K tl) (gName j) tYes te ws σ H1 Q := fun H0 e0 Q q => h H0 e0 _ fun a H1 e1 hx => by
  have z := lc_tupF (K := K) (σ := σ) (tl := tC (.ref a)) (te := te) (tt := tYes) (ws := ws) (j := j) (R := R) (c := fun _ => true) (e := e) L LU (H := H1) (ev_c) hx hz hw (fun n _ H2 _ H3 _ Q q => q H3 (Ex.refl H3)) (fun n hn _ H2 e2 => he n hn H2 ((e0.trans e1).trans e2)) H1 (Ex.refl H1) Q (fun D vs H2 nD e2 hD hf => by
    rw [List.filter_eq_self.mpr fun _ _ => rfl] at hf
    exact q D vs H2 (fresh_back e1 nD) (e1.trans e2) hD hf)
  exact z
theorem evr_t3 {a b c : Int} (ha : Ev ta σ H (.int a)) (hb : Ev tb σ H (.int b)) (hc : Ev tc σ H (.int c)) : EvR (RT3 K) (tTup (tCons ta (tCons tb (tCons tc tNil)))) σ H (a, b, c) := fun H1 e Q q =>
  ha H1 e _ fun H2 e2 => hb H2 (e.trans e2) _ fun H3 e3 => hc H3 ((e.trans e2).trans e3) _ fun H4 e4 => ⟨(show 3 ≤ sizeLine by decide), fun p hp => q _ _ (((e2.trans e3).trans e4).trans (Ex.new hp)) ⟨p, rfl, SqT.of upd_same⟩⟩
theorem el_lcT3 (c : Int × Int × Int → Bool) (f : Int × Int × Int → V) (h : ∀ H1, Ex H H1 → ∀ Q : VK, (∀ t ts H2, Ex H1 H2 → SqT K H2 t ts → F2 (RT3 K H2) ts qs → Q (.ref t) H2) → tl σ H1 Q) (hz : qs.length ≤ 40000)
    (hw : ∀ x y z, wipe ((((wipe σ ws).set j1 (some x)).set j2 (some y)).set j3 (some z)) ws = wipe σ ws)
    (ht : ∀ q ∈ qs, ∀ H1, Ex H H1 → EvT tt ((((wipe σ ws).set j1 (some (.int q.1))).set j2 (some (.int q.2.1))).set j3 (some (.int q.2.2))) H1 (c q))
    (he : ∀ q ∈ qs, ∀ H1, Ex H H1 → Ev te ((((wipe σ ws).set j1 (some (.int q.1))).set j2 (some (.int q.2.1))).set j3 (some (.int q.2.2))) H1 (f q)) :
    EvL (tLc (iTup K tl) (gTup K 3 (gCons (gName j1) (gCons (gName j2) (gCons (gName j3) gNil)))) tt te ws) σ H ((qs.filter c).map f) := fun H0 e0 Q q => h H0 e0 _ fun l ts H1 e1 hl hf => ⟨l, rfl, ⟨ts, hl⟩, fun D hD => by
  have e01 := e0.trans e1
  refine lc_it walk_tup (fun i H' => H1 D = none ∧ Ex H1 H' ∧ H' D = some (.lst (((qs.take i).filter c).map f))) ⟨hD, Ex.new hD, upd_same⟩ (fun i H' _ p => ex_t p.2.1 hl) ?_ ?_
  · rintro i x H' H2 hi ⟨p1, p2, p3⟩ ⟨rfl, hxi⟩
    obtain ⟨p, hp, t, rfl, hpt⟩ := hf.at hxi
    have m := List.mem_of_getElem? hp
    have st : qs.take (i + 1) = qs.take i ++ [p] := by rw [List.take_add_one, hp]; rfl
    have i12 : i < qs.length := (List.getElem?_eq_some_iff.mp hp).1
    refine ⟨t, _, rfl, ex_t p2 hpt, rfl, _, _, rfl, _, _, rfl, _, _, rfl, rfl, hw _ _ _, ht p m H2 (e01.trans p2) H2 (Ex.refl H2) _ fun H4 e4 => ?_⟩
    cases hc : c p with
    | true =>
      refine iteT (he p m H4 ((e01.trans p2).trans e4) H4 (Ex.refl _) _ fun H5 e5 => ⟨_, e5 _ _ (e4 _ _ p3), sz_lt ?_, p1, Ex.mut (p2.trans (e4.trans e5)) p1, ?_⟩)
      · rw [List.length_map]
        have := List.length_filter_le c (qs.take i)
        rw [List.length_take] at this
        omega
      · rw [upd_same, st, List.filter_append, List.map_append, show [p].filter c = [p] by rw [List.filter_cons, hc]; rfl]
        rfl
    | false =>
      refine iteF ⟨p1, p2.trans e4, ?_⟩
      rw [e4 _ _ p3, st, List.filter_append, show [p].filter c = [] by rw [List.filter_cons, hc]; rfl, List.append_nil]
  · rintro H' ⟨p1, p2, p3⟩
    rw [hf.len, List.take_of_length_le (Nat.le_refl _)] at p3
    exact q D H' (fresh_back e1 p1) (e1.trans p2) p3⟩
end
theorem brs_lvs (ps rs : List (Int × Int)) : ((lvs ps rs).filter fun q => decide (q.2.1 > q.2.2)).map Prod.fst = brs ps rs := by
  unfold lvs brs
  generalize ps.map Prod.fst = ns
  induction ns with
  | nil => rfl
  | cons n r ih =>
    rw [List.map_cons, List.filter_cons, List.filter_cons]
    show List.map Prod.fst (if decide (unt ps n > unt rs n) = true then _ else _) = if decide (unt rs n < unt ps n) = true then _ else _
    by_cases c : unt rs n < unt ps n
    · rw [if_pos (decide_eq_true c), if_pos (decide_eq_true c), List.map_cons, ih]
    · rw [if_neg (by rw [decide_eq_false c]; exact Bool.false_ne_true), if_neg (by rw [decide_eq_false c]; exact Bool.false_ne_true), ih]
theorem LotC.uni {ps : List (Int × Int)} (h : LotC ps) : gap (uni (ps.map Prod.fst)) = none := by
  rw [uni_one h.asc fun k => Iff.rfl]
  exact h.ch
theorem st_retTF {K : PySem.W.Frag} {σ : L2.St} {H : Hp} {tl : TE} {D : Ends} {α : Type} {R : Hp → V → α → Prop} {as : List α} (RE : ∀ H H' x b, Ex H H' → R H x b → R H' x b) (h : ∀ Q : VK, (∀ p vs H2, H p = none → Ex H H2 → H2 p = some (.lst vs) → F2 (R H2) vs as → Q (.ref p) H2) → tl σ H Q)
    (k : ∀ l vs H2, Ex H H2 → SqT K H2 l vs → F2 (R H2) vs as → D.rt (.ref l) H2) : tRet (tCB (rTupS K) (tCons tl tNil)) D σ H := h _ fun p vs H2 np e hp hf => ⟨p, vs, rfl, .inl ⟨SqL.of hp, fun l nl => k l vs _ (e.trans (Ex.new nl)) (SqT.of upd_same) (hf.imp fun x b r => RE _ _ _ _ (Ex.new nl) r)⟩⟩
end Ck

namespace Ck
open PySem PySem.Spec PyProof.Rows L2 StX Evl RZ
section
variable {K : PySem.W.Frag} {σ : L2.St} {H H3 : Hp} {ta tb te tl : TE} {p a b : Addr} {xs ys : List V} {ms ns : List Int} {j1 j2 : Nat} {ws : List Nat}
def SqB (K : PySem.W.Frag) (H : Hp) (p : Addr) (xs : List V) : Prop := SqL K H p xs ∨ SqT K H p xs
theorem SqB.ex {H H' : Hp} (e : Ex H H') (h : SqB K H p xs) : SqB K H' p xs := h.imp (ex_l e) (ex_t e)
end
end Ck

namespace Ck
open PySem PySem.Spec PyProof.Rows L2 StX Evl RZ
section
variable {K : PySem.W.Frag} {σ : L2.St} {H H' : Hp} {d : Addr} {te : TE} {j : Nat} {ws : List Nat}
end
section
variable {K : PySem.W.Frag} {CL CS : Addr} {σ : L2.St} {H : Hp} {ta tb tc : TE} {p a b : Addr} {ns : List Int} {ps rs ss : List (Int × Int)}
def Esto (K : PySem.W.Frag) (C : Addr) (te : TE) (σ : L2.St) (H : Hp) (rs : List (Int × Int)) : Prop := ∀ H1, Ex H H1 → ∀ Q : VK, (∀ c H2, Ex H1 H2 → StoAt K C H2 c rs → Q (.ref c) H2) → te σ H1 Q
end
end Ck
namespace Ck
open PySem PySem.Spec PyProof.Rows L2 StX Evl RZ
section
variable {K : PySem.W.Frag} {C : Addr} {σ : L2.St} {H : Hp} {ta tb : TE} {a : Addr} {ms ns : List Int} {rs : List (Int × Int)}
end
theorem cut_lotC {ns : List Int} {ps qs : List (Int × Int)} (ic : IsC ns) (hc : Cts ps) (hm : ∀ x ∈ ps, x.1 ∈ ns) (hp : qs.Perm ps) (ha : Asc qs) : LotC qs ∧ ∀ s ∈ qs.map Prod.fst, s ∈ ns := by
  have sub : ∀ s ∈ qs.map Prod.fst, s ∈ ns := fun s hs => by
    obtain ⟨x, hx, rfl⟩ := List.mem_map.mp hs
    exact hm x (hp.mem_iff.mp hx)
  refine ⟨⟨hc.perm hp, ha, pw_gap ?_⟩, sub⟩
  refine List.Pairwise.imp_of_mem (fun {a b} ha hb (lt : a < b) => ⟨lt, ?_⟩) ha
  obtain ⟨i, hi, ei⟩ := List.mem_iff_getElem.mp (sub a ha)
  obtain ⟨j, hj, ej⟩ := List.mem_iff_getElem.mp (sub b hb)
  have r := List.pairwise_iff_getElem.mp ic.pw
  rcases Nat.lt_trichotomy i j with h | h | h
  · have z := (r i j hi hj h).2
    rw [ei, ej] at z
    exact z
  · subst h
    rw [ei] at ej
    omega
  · have z := (r j i hj hi h).1
    rw [ei, ej] at z
    omega
section
variable {K : PySem.W.Frag} {C : Addr} {σ : L2.St} {H : Hp} {te : TE} {i j l : Nat} {z : TS} {D : Ends}
end
end Ck
namespace Ck
open PySem PySem.Spec PyProof.Rows L2 StX Evl RZ
section
variable {K : PySem.W.Frag} {C : Addr} {σ : L2.St} {H : Hp} {tl te : TE} {D : Addr} {i j : Nat} {ws : List Nat} {l1 l2 l3 : Addr} {r1 r2 r3 : List (Int × Int)}
end
end Ck

namespace Ck
open PySem PySem.Spec PyProof.Rows L2 StX Evl RZ
theorem unt_perm {a b : List (Int × Int)} (p : a.Perm b) (s : Int) : unt a s = unt b s := sum_of_perm (p.map _)
section
variable {K : PySem.W.Frag} {σ : L2.St} {H : Hp} {tl te ta tb tc : TE} {tt : TT} {ns : List Int} {qs : List (Int × Int × Int)} {j j1 j2 j3 : Nat} {ws : List Nat}
end
section
variable {K : PySem.W.Frag} {CL CS : Addr} {σ : L2.St} {H : Hp} {te ta tb tc : TE} {tr : TA} {a b : Addr} {ps rs : List (Int × Int)}
def Elot (K : PySem.W.Frag) (C : Addr) (te : TE) (σ : L2.St) (H : Hp) (ps : List (Int × Int)) : Prop := ∀ H1, Ex H H1 → ∀ Q : VK, (∀ a H2, Ex H1 H2 → LotAt K C H2 a ps → Q (.ref a) H2) → te σ H1 Q
theorem elot_v (h : Ev te σ H (.ref a)) (hl : LotAt K CL H a ps) : Elot K CL te σ H ps := fun H1 e Q q => h H1 e _ fun H2 e2 => q a H2 e2 (hl.up (e.trans e2))
theorem elot_mk (h : ∀ H1, Ex H H1 → ∀ Q : VK, (∀ p H2, Ex H1 H2 → H2 p = some (.dK (ps.map kc)) → Q (.ref p) H2) → te σ H1 Q) (hc : Cts ps) (ha : Asc ps) : Elot K CL (tMakeR CL (spLotI K CL) E0 (tCons te tNil)) σ H ps := fun H1 e Q q =>
  lot_make (K := K) (ps := ps) (fun Q2 q2 => h H1 e Q2 q2) hc Q fun x qs H2 e2 hp hq hl => q x H2 e2 (by rw [← asc_unique hq ha hp]; exact hl)
theorem esto_v (h : Ev te σ H (.ref a)) (hl : StoAt K CS H a rs) : Esto K CS te σ H rs := fun H1 e Q q => h H1 e _ fun H2 e2 => q a H2 e2 (hl.up (e.trans e2))
def EvPs (K : PySem.W.Frag) (ta : TA) (σ : L2.St) (H : Hp) (rs : List (Int × Int)) : Prop := ∀ H1, Ex H H1 → ∀ Q : List V → Hp → Prop, (∀ vs H2, Ex H1 H2 → F2 (RP K H2) vs rs → Q vs H2) → ta σ H1 Q
theorem eps_nil : EvPs K tNil σ H [] := fun H1 e Q q => q [] H1 (Ex.refl H1) .nil
theorem eps_cons {p : Int × Int} (h : EvR (RP K) te σ H p) (hr : EvPs K tr σ H rs) : EvPs K (tCons te tr) σ H (p :: rs) := fun H1 e Q q => h H1 e _ fun v H2 e2 r => hr H2 (e.trans e2) _ fun vs H3 e3 hf => q (v :: vs) H3 (e2.trans e3) (.cons (r.ex e3) hf)
theorem esto_mk (h : EvPs K tr σ H rs) (hr : Rns rs) : Esto K CS (tMakeR CS (spStoI K CS) E0 tr) σ H (jr rs) := fun H1 e Q q => h H1 e _ fun vs H2 e2 hf => mk_stoV (K := K) hf hr fun a H3 e3 hs => q a H3 (e2.trans e3) hs
theorem esto_is {ss : List (Int × Int)} (h : Esto K CS te σ H rs) (e : rs = ss) : Esto K CS te σ H ss := e ▸ h
theorem fits_e (ha : Elot K CL ta σ H ps) (hb : Esto K CS tb σ H rs) (hc : LotC ps) (ho : StoOk rs) : Ev (tCall (spFits K CL CS) [] E0 (tCons ta (tCons tb tNil))) σ H (.bl (fitB ps rs)) := fun H1 e Q q => ha H1 e _ fun a H2 e2 hl => hb H2 (e.trans e2) _ fun b H3 e3 hs =>
  ⟨a, b, ps, rs, rfl, hl.up e3, hc, hs, ho, fun H4 e4 => q H4 ((e2.trans e3).trans e4)⟩
end
end Ck

namespace Ck
open PySem PySem.Spec PyProof.Rows L2 StX Evl RZ
section
variable {X : Cx} {n k j : Nat} {f C : Addr} {fd : FuncData} {ps : List Str} {sp : Sp} {op : Operator} {x : Str}
theorem op_binO (F : FnOk X.prog X.w X.K X.mg X.base CX0 n f fd ps sp) (hc : PySem.W.selfFirst X.K C = true) (hs : PySem.W.findIn X.K (.ref C) (PySem.dunder op.info.2) = some (some (.ref f))) (hf : PySem.W.isFn X.K (.ref f) = true) (hb : Binds X.K fd ps []) (hr : Room n X.A) :
    OpR X (binaryOp op) (fun x y H Q => ∃ a b dx dy fs gs, x = .ref a ∧ y = .ref b ∧ H a = some (.ins C dx fs) ∧ H b = some (.ins C dy gs) ∧ sp [.ref a, .ref b] H (fun v H' => ∃ p, v = .ref p ∧ Q (.ref p) H') E0) := by
  intro pins s σ H x y v u Q I rx ry h
  obtain ⟨a, b, dx, dy, fs, gs, rfl, rfl, ha, hb', hsp⟩ := h
  cases rx
  cases ry
  obtain ⟨mA, J, _⟩ := ins_get I.hok ha
  obtain ⟨mB, J', _⟩ := ins_get I.hok hb'
  obtain ⟨od, J, _⟩ := J.look
  obtain ⟨od', J', _⟩ := J'.look
  obtain ⟨m, hF⟩ := I.fr
  refine PySem.W.binop_K hF I.ok.mod.kin J J'.type hc hs hf (run_own (vs := [.ref a, .ref b]) F hb hr rfl I (.cons rfl (.cons rfl .nil)) hsp fun v u H' s' I' rv q => ?_)
  obtain ⟨p, rfl, q⟩ := q
  cases rv
  exact ⟨.ref p, H', I', rfl, q⟩
theorem obinO (c : Og X.prog X.w X.K X.mg X.base k C x ps sp) (sf : PySem.W.selfFirst X.K C = true) (hr : Room j X.A) (hx : PySem.dunder op.info.2 = x := by decide +kernel) (hk : k ≤ j := by decide) :
    OpR X (binaryOp op) (fun x y H Q => ∃ a b dx dy fs gs, x = .ref a ∧ y = .ref b ∧ H a = some (.ins C dx fs) ∧ H b = some (.ins C dy gs) ∧ sp [.ref a, .ref b] H (fun v H' => ∃ p, v = .ref p ∧ Q (.ref p) H') E0) := by
  obtain ⟨hc, g, fd, hs, hfn, hf, kp, F, b⟩ := c
  subst hx
  exact op_binO F sf hs hfn b (hr.mono hk)
end
theorem unt_app (a b : List (Int × Int)) (s : Int) : unt (a ++ b) s = unt a s + unt b s := by
  unfold unt
  rw [List.map_append, List.sum_append]
section
variable {K : PySem.W.Frag} {C l : Addr} {σ : L2.St} {H : Hp} {te ta tb : TE} {vs : List V} {rs ss : List (Int × Int)} {Q : VK}
theorem mk_stoT (h : Ev te σ H (.ref l)) (hl : SqT K H l vs) (hf : F2 (RP K H) vs rs) (hr : Rns rs) (q : ∀ a H', Ex H H' → StoAt K C H' a (jr rs) → Q (.ref a) H') : tMakeS K C (spStoI K C) E0 te σ H Q :=
  h H (Ex.refl H) _ fun H1 e1 => ⟨l, vs, rfl, .inl (ex_t e1 hl), fun x dx nx nd ne => by
    have n2 : (upd H1 dx (.own x)) x = none := by rw [upd_ne ne.symm]; exact nx
    exact ⟨x, dx, vs, rs, H1, rfl, (Ex.new nd).trans (Ex.new n2), nx, upd_same, hf.imp fun y b r => r.ex e1, hr, fun H' e' hst => ⟨rfl, q x H' (e1.trans e') hst⟩⟩⟩
end
end Ck

namespace Ck
open PySem PySem.Spec PyProof.Rows L2 StX Evl RZ
theorem LotAt.kd {K : PySem.W.Frag} {C a d : Addr} {H H' : Hp} {ps : List (Int × Int)} (hd : Dice H d) (k : Kd d H H') (h : LotAt K C H a ps) : LotAt K C H' a ps := by
  obtain ⟨dx, t1, t2, g, ts, h1, h2, h3, h4, h5⟩ := h.ex
  obtain ⟨x, y, z, e⟩ := hd
  exact ⟨dx, t1, t2, g, ts, k.1 _ _ (fun z => by rw [z, e] at h1; cases h1) h1, sqT_kp ⟨x, y, z, e⟩ k.1 h2, sqT_kp ⟨x, y, z, e⟩ k.1 h3, h4.imp fun x b r => r.kd ⟨_, _, _, e⟩ k, h5.imp (fun h => k.1 _ _ (fun z => by rw [z, e] at h; cases h) h) (fun ⟨o, h⟩ => ⟨o, k.1 _ _ (fun z => by rw [z, e] at h; cases h) h⟩)⟩
section
variable {K : PySem.W.Frag} {σ : L2.St} {H : Hp} {tl te : TE} {tt : TT} {ns : List Int} {xs : List V} {a : Addr} {j : Nat} {ws : List Nat}
end
section
variable {K : PySem.W.Frag} {CL CS : Addr} {σ : L2.St} {H : Hp} {te ta tb tc : TE} {tr : TA} {tt : TT} {a b g : Addr} {ps qs rs : List (Int × Int)} {room : Int}
end
end Ck

namespace Ck
open PySem PySem.Spec PyProof.Rows L2 StX Evl RZ
def srtI (l : List Int) : List Int := l.mergeSort fun a b => decide (a ≤ b)
theorem srtI_perm (l : List Int) : (srtI l).Perm l := List.mergeSort_perm l _
theorem srtI_pw (l : List Int) : (srtI l).Pairwise (· ≤ ·) := by
  have z := List.pairwise_mergeSort (le := fun a b : Int => decide (a ≤ b)) (fun a b c h1 h2 => decide_eq_true (Int.le_trans (of_decide_eq_true h1) (of_decide_eq_true h2))) (fun a b => by
    rcases Int.le_total a b with h | h
    · rw [decide_eq_true h]; rfl
    · rw [decide_eq_true h, Bool.or_true]) l
  exact z.imp fun h => of_decide_eq_true h
theorem srt_unique : ∀ {a b : List Int}, a.Pairwise (· ≤ ·) → b.Pairwise (· ≤ ·) → a.Perm b → a = b
  | [], b, _, _, p => (List.nil_perm.mp p).symm
  | x :: a, [], _, _, p => absurd p.length_eq (by simp)
  | x :: a, y :: b, ha, hb, p => by
    obtain ⟨h1, h2⟩ := List.pairwise_cons.mp ha
    obtain ⟨g1, g2⟩ := List.pairwise_cons.mp hb
    have xy : x ≤ y := by
      rcases List.mem_cons.mp (p.mem_iff.mpr List.mem_cons_self : y ∈ x :: a) with e | m
      · omega
      · exact h1 y m
    have yx : y ≤ x := by
      rcases List.mem_cons.mp (p.mem_iff.mp List.mem_cons_self : x ∈ y :: b) with e | m
      · omega
      · exact g1 x m
    have e : x = y := by omega
    subst e
    rw [srt_unique h2 g2 (List.Perm.cons_inv p)]
theorem srtI_of {a l : List Int} (p : a.Perm l) (h : a.Pairwise (· ≤ ·)) : a = srtI l := srt_unique h (srtI_pw l) (p.trans (srtI_perm l).symm)
theorem srtI_congr {a b : List Int} (p : a.Perm b) : srtI a = srtI b := srt_unique (srtI_pw a) (srtI_pw b) ((srtI_perm a).trans (p.trans (srtI_perm b).symm))
end Ck

namespace Ck
open PySem PySem.Spec PyProof.Rows L2 StX Evl RZ
section
variable {K : PySem.W.Frag} {σ : L2.St} {H : Hp} {te ta tb : TE} {xs ys : List V} {ns : List Int}
end
section
variable {K : PySem.W.Frag} {σ : L2.St} {H : Hp} {te : TE} {xs : List V}
end
section
variable {K : PySem.W.Frag} {σ : L2.St} {H : Hp} {ta te : TE} {xs ys : List V} {D : Ends} {z : TS} {l : Addr}
end
section
variable {K : PySem.W.Frag} {σ : L2.St} {H : Hp} {td ty : TE} {xs ys : List V} {D : Ends} {g : Addr} {ks : List (List Int)} {u : List Int}
end
section
variable {K : PySem.W.Frag} {σ : L2.St} {H : Hp} {te : TE} {l : Addr} {vs : List V} {rs : List (Int × Int)}
end
def spMixV (K : PySem.W.Frag) : Sp := fun vs H Q _ => ∃ (d p : Addr) (xs : List V), vs = [.ref d, .ref p] ∧ p ≠ d ∧ Dice H d ∧ (SqL K H p xs ∨ SqT K H p xs) ∧ xs.length ≤ 1000 ∧ ∀ (l : Addr) (ys : List V) (H' : Hp), Kd d H H' → l ≠ d → H l = none → H' l = some (.lst ys) → ys.Perm xs → Q (.ref l) H'
def spMadeG (K : PySem.W.Frag) (C : Addr) : Sp := fun vs H Q _ => ∃ (l : Addr) (vs' : List V) (rs : List (Int × Int)), vs = [.ref l] ∧ SqL K H l vs' ∧ F2 (RP K H) vs' rs ∧ rs.length ≤ 8 ∧ Rns rs ∧ ∀ a H', Ex H H' → StoAt K C H' a (jr rs) → Q (.ref a) H'
theorem f2_perm {α : Type} {R : V → α → Prop} {ys xs : List V} (h : ys.Perm xs) : ∀ {rs : List α}, F2 R xs rs → ∃ ss : List α, ss.Perm rs ∧ F2 R ys ss := by
  induction h with
  | nil => exact fun {rs} h => ⟨rs, List.Perm.refl _, h⟩
  | cons x _ ih =>
    intro rs h
    cases h with
    | cons h t =>
      obtain ⟨ss, p, f⟩ := ih t
      exact ⟨_ :: ss, p.cons _, .cons h f⟩
  | swap x y l =>
    intro rs h
    cases h with
    | cons h t =>
      cases t with
      | cons h2 t => exact ⟨_, List.Perm.swap _ _ _, .cons h2 (.cons h t)⟩
  | trans _ _ ih1 ih2 =>
    intro rs h
    obtain ⟨ss, p, f⟩ := ih2 h
    obtain ⟨us, p2, f2⟩ := ih1 f
    exact ⟨us, p2.trans p, f2⟩
section
variable {K : PySem.W.Frag} {CL CS : Addr} {σ : L2.St} {H : Hp} {te ta tb : TE} {a g l d : Addr} {ps qs rs : List (Int × Int)} {vs : List V} {i : Nat} {Q : VK}
theorem esto_made (h : Ev te σ H (.ref l)) (hl : SqL K H l vs) (hf : F2 (RP K H) vs rs) (hn : rs.length ≤ 8) (hr : Rns rs) : Esto K CS (tCall (spMadeG K CS) [] E0 (tCons te tNil)) σ H (jr rs) := fun H1 e Q q => h H1 e _ fun H2 e2 =>
  ⟨l, vs, rs, rfl, ex_l (e.trans e2) hl, hf.imp fun x b r => r.ex (e.trans e2), hn, hr, fun b H3 e3 hs => q b H3 (e2.trans e3) hs⟩
theorem fit_jr (ps rs : List (Int × Int)) : fitB ps (jr rs) = fitB ps rs := by
  unfold fitB
  exact all_same fun s _ => by rw [unt_jr]
end
end Ck

namespace Ck
open PySem PySem.Spec PyProof.Rows L2 StX Evl RZ
theorem unt_up {ps : List (Int × Int)} {s u : Int} (s0 : 0 < s) (u0 : 0 < u) (su : s ∣ u) (hp : ∀ p ∈ ps, 0 < p.1 ∧ (s ≤ p.1 → u ∣ p.1)) : unt ps s = unt ps u * (u / s) := by
  induction ps with
  | nil => show (0 : Int) = 0 * _; rw [Int.zero_mul]
  | cons p r ih =>
    rw [unt_cons, unt_cons, Int.add_mul, ih fun q hq => hp q (List.mem_cons_of_mem p hq)]
    obtain ⟨p0, h⟩ := hp p List.mem_cons_self
    congr 1
    obtain ⟨k, rfl⟩ := su
    rw [Int.mul_ediv_cancel_left k (by omega)]
    by_cases c : s ≤ p.1
    · obtain ⟨m, e⟩ := h c
      rw [e, Int.mul_ediv_cancel_left m (by omega), Int.mul_assoc s k m, Int.mul_ediv_cancel_left _ (by omega), Int.mul_comm k m, Int.mul_assoc]
    · have k0 : 0 < k := by
        rcases Int.lt_or_le 0 k with h | h
        · exact h
        · have : s * k ≤ s * 0 := Int.mul_le_mul_of_nonneg_left h (by omega)
          rw [Int.mul_zero] at this
          omega
      have le : s * 1 ≤ s * k := Int.mul_le_mul_of_nonneg_left (by omega) (by omega)
      rw [Int.mul_one] at le
      rw [Int.ediv_eq_zero_of_lt (by omega) (by omega), Int.ediv_eq_zero_of_lt (by omega) (by omega), Int.mul_zero, Int.zero_mul]
theorem key_full {ns : List Int} (hn : Pws ns) {ps rs : List (Int × Int)} (hp : ∀ p ∈ ps, p.1 ∈ ns) (hr : ∀ r ∈ rs, 0 ≤ r.1 ∧ 0 ≤ r.2) : (∀ s ∈ ps.map Prod.fst, unt ps s ≤ unt rs s) ↔ ∀ s ∈ ns, unt ps s ≤ unt rs s := by
  refine ⟨fun h s hs => ?_, fun h s hs => ?_⟩
  · have s0 := hn.pos s hs
    by_cases e : ∃ p ∈ ps, s ≤ p.1
    · obtain ⟨u, hu, su, least⟩ : ∃ u ∈ ps.map Prod.fst, s ≤ u ∧ ∀ p ∈ ps, s ≤ p.1 → u ≤ p.1 := by
        have : ∀ l : List (Int × Int), (∃ p ∈ l, s ≤ p.1) → ∃ u ∈ l.map Prod.fst, s ≤ u ∧ ∀ p ∈ l, s ≤ p.1 → u ≤ p.1 := fun l => by
          induction l with
          | nil => rintro ⟨p, hp, _⟩; cases hp
          | cons q r ih =>
            rintro ⟨p, hp, le⟩
            by_cases c : ∃ p ∈ r, s ≤ p.1
            · obtain ⟨u, h1, h2, h3⟩ := ih c
              by_cases d : s ≤ q.1 ∧ q.1 < u
              · refine ⟨q.1, List.mem_cons_self, d.1, fun x hx le => ?_⟩
                rcases List.mem_cons.mp hx with rfl | hx
                · exact Int.le_refl _
                · have := h3 x hx le
                  omega
              · refine ⟨u, List.mem_cons_of_mem _ h1, h2, fun x hx le => ?_⟩
                rcases List.mem_cons.mp hx with rfl | hx
                · omega
                · exact h3 x hx le
            · rcases List.mem_cons.mp hp with rfl | hp
              · refine ⟨p.1, List.mem_cons_self, le, fun x hx le => ?_⟩
                rcases List.mem_cons.mp hx with rfl | hx
                · exact Int.le_refl _
                · exact absurd ⟨x, hx, le⟩ c
              · exact absurd ⟨p, hp, le⟩ c
        exact this ps e
      obtain ⟨q, hq, rfl⟩ := List.mem_map.mp hu
      have um := hp q hq
      have u0 := hn.pos _ um
      have dv : ∀ a ∈ ns, ∀ b ∈ ns, a ≤ b → a ∣ b := fun a ha b hb le => by
        obtain ⟨i, hi, ei⟩ := List.mem_iff_getElem.mp ha
        obtain ⟨j, hj, ej⟩ := List.mem_iff_getElem.mp hb
        have r := List.pairwise_iff_getElem.mp hn.pw
        rcases Nat.lt_trichotomy i j with h1 | h1 | h1
        · have z := (r i j hi hj h1).2
          rw [ei, ej] at z
          exact z
        · subst h1
          rw [ei] at ej
          rw [ej]
          exact Int.dvd_refl _
        · have z := (r j i hj hi h1).1
          rw [ei, ej] at z
          omega
      rw [unt_up s0 u0 (dv s hs _ um su) fun p hpp => ⟨hn.pos _ (hp p hpp), fun le => dv _ um _ (hp p hpp) (least p hpp le)⟩]
      exact Int.le_trans (Int.mul_le_mul_of_nonneg_right (h _ hu) (Int.ediv_nonneg (by omega) (by omega))) (unt_step s0 u0 (dv s hs _ um su) hr)
    · have z : unt ps s = 0 := by
        have : ∀ l : List (Int × Int), (∀ p ∈ l, 0 ≤ p.1 ∧ p.1 < s) → unt l s = 0 := fun l => by
          induction l with
          | nil => exact fun _ => rfl
          | cons p r ih =>
            intro h
            obtain ⟨a, b⟩ := h p List.mem_cons_self
            rw [unt_cons, ih fun q hq => h q (List.mem_cons_of_mem p hq), Int.ediv_eq_zero_of_lt a b, Int.mul_zero]
            rfl
        refine this ps fun p hpp => ⟨Int.le_of_lt (hn.pos _ (hp p hpp)), ?_⟩
        rcases Int.lt_or_le p.1 s with h | h
        · exact h
        · exact absurd ⟨p, hpp, h⟩ e
      rw [z]
      exact unt_nn s0 hr
  · obtain ⟨p, hpp, rfl⟩ := List.mem_map.mp hs
    exact h _ (hp p hpp)
section
variable {K : PySem.W.Frag} {CL CS : Addr} {σ : L2.St} {H : Hp} {te ta tb tc : TE} {a b g : Addr} {ps qs rs : List (Int × Int)} {z : Int} {Q : VK}
end
section
variable {K : PySem.W.Frag} {CL CS : Addr} {σ : L2.St} {H : Hp} {te ta tb tc : TE} {a b g : Addr} {ps qs rs : List (Int × Int)} {z : Int}
end
section
variable {K : PySem.W.Frag} {CL CS : Addr} {σ : L2.St} {H : Hp} {te tl ta tb tc : TE} {ps rs : List (Int × Int)} {z : Int} {ns : List Int} {j : Nat} {ws : List Nat}
end
end Ck

namespace Ck
open PySem PySem.Spec PyProof.Rows L2 StX Evl RZ
section
variable {X : Cx} {K : PySem.W.Frag} {e : Expr} {f : Str} {ta : TE} {pos : Pos}
theorem pe_fldK (hK : X.K = K) (he : PE X e ta) (hb : attributeBase e f X.env (eval e X.env) = eval e X.env) : PE X (.Attribute e f pos) (tFld K ta f) := hK ▸ pe_fld he hb
end
theorem sum_if {f : Int → Int} {k v : Int} : ∀ {D : List Int}, D.Nodup → k ∈ D → (D.map fun n => if k = n then v else f n).sum = (D.map f).sum + (v - f k)
  | n :: D, nd, m => by
    obtain ⟨n1, n2⟩ := List.nodup_cons.mp nd
    rw [List.map_cons, List.sum_cons, List.map_cons, List.sum_cons]
    by_cases c : k = n
    · subst c
      rw [if_pos rfl]
      have e : (D.map fun n => if k = n then v else f n) = D.map f := List.map_congr_left fun x hx => if_neg fun e => n1 (by rw [e]; exact hx)
      rw [e]
      omega
    · rw [if_neg c, sum_if n2 ((List.mem_cons.mp m).resolve_left c)]
      omega
theorem sum_zero {f : Int → Int} : ∀ {D : List Int}, (∀ n ∈ D, f n = 0) → (D.map f).sum = 0
  | [], _ => rfl
  | n :: D, h => by
    rw [List.map_cons, List.sum_cons, h n List.mem_cons_self, sum_zero fun x hx => h x (List.mem_cons_of_mem n hx)]
    rfl
theorem unt_cnt {D : List Int} (hD : D.Nodup) (s : Int) : ∀ {ps : List (Int × Int)}, (ps.map Prod.fst).Nodup → (∀ p ∈ ps, p.1 ∈ D) → unt ps s = (D.map fun n => (cnt ps n).getD 0 * (n / s)).sum
  | [], _, _ => (sum_zero fun n _ => Int.zero_mul _).symm
  | p :: r, nd, h => by
    obtain ⟨n1, n2⟩ := List.nodup_cons.mp nd
    have ih := unt_cnt hD s n2 fun q hq => h q (List.mem_cons_of_mem p hq)
    have cz : cnt r p.1 = none := Ck.cnt_none.mpr n1
    have e : (fun n => (cnt (p :: r) n).getD 0 * (n / s)) = fun n => if p.1 = n then p.2 * (p.1 / s) else (cnt r n).getD 0 * (n / s) := by
      funext n
      show (if p.1 = n then some p.2 else cnt r n).getD 0 * (n / s) = _
      by_cases c : p.1 = n
      · rw [if_pos c, if_pos c, c]
        rfl
      · rw [if_neg c, if_neg c]
    rw [unt_cons, e, sum_if hD (h p List.mem_cons_self), ← ih, cz]
    show _ = _ + (_ - 0 * _)
    rw [Int.zero_mul]
    omega
def sumC (ps qs : List (Int × Int)) (n : Int) : Int := (cnt ps n).getD 0 + (cnt qs n).getD 0
def sumP (ps qs : List (Int × Int)) : List (Int × Int) := merP [] ((ps.map Prod.fst ++ qs.map Prod.fst).map fun n => (n, sumC ps qs n))
theorem sumP_nd (ps qs : List (Int × Int)) : ((sumP ps qs).map Prod.fst).Nodup := merP_nodup List.nodup_nil
theorem sumP_key {ps qs : List (Int × Int)} {s : Int} : s ∈ (sumP ps qs).map Prod.fst ↔ s ∈ ps.map Prod.fst ∨ s ∈ qs.map Prod.fst := by
  unfold sumP
  rw [merP_mem, List.map_map]
  have e : (ps.map Prod.fst ++ qs.map Prod.fst).map (Prod.fst ∘ fun n => (n, sumC ps qs n)) = ps.map Prod.fst ++ qs.map Prod.fst := by
    conv => rhs; rw [← List.map_id (ps.map Prod.fst ++ qs.map Prod.fst)]
    rfl
  rw [e, List.mem_append]
  simp
theorem sumP_cnt {ps qs : List (Int × Int)} {s : Int} (h : s ∈ (sumP ps qs).map Prod.fst) : cnt (sumP ps qs) s = some (sumC ps qs s) := by
  have m := sumP_key.mp h
  unfold sumP
  rw [merP_fn (acc := []) (f := sumC ps qs) s List.nodup_nil, if_pos (List.mem_append.mpr m)]
theorem unt_sum {ps qs : List (Int × Int)} (hp : (ps.map Prod.fst).Nodup) (hq : (qs.map Prod.fst).Nodup) (s : Int) : unt (sumP ps qs) s = unt ps s + unt qs s := by
  have nd := sumP_nd ps qs
  rw [unt_cnt nd s nd (fun p h => List.mem_map_of_mem h), unt_cnt nd s hp (fun p h => sumP_key.mpr (.inl (List.mem_map_of_mem h))), unt_cnt nd s hq (fun p h => sumP_key.mpr (.inr (List.mem_map_of_mem h)))]
  have : ∀ D : List Int, (∀ n ∈ D, n ∈ (sumP ps qs).map Prod.fst) → (D.map fun n => (cnt (sumP ps qs) n).getD 0 * (n / s)).sum = (D.map fun n => (cnt ps n).getD 0 * (n / s)).sum + (D.map fun n => (cnt qs n).getD 0 * (n / s)).sum := fun D => by
    induction D with
    | nil => exact fun _ => rfl
    | cons n D ih =>
      intro h
      rw [List.map_cons, List.sum_cons, List.map_cons, List.sum_cons, List.map_cons, List.sum_cons, ih fun x hx => h x (List.mem_cons_of_mem n hx), sumP_cnt (h n List.mem_cons_self)]
      show (sumC ps qs n) * (n / s) + _ = _
      unfold sumC
      rw [Int.add_mul]
      omega
  exact this _ fun n h => h
theorem cntP_nn {ps : List (Int × Int)} {B : Int} (h : ∀ p ∈ ps, 0 ≤ p.2 ∧ p.2 ≤ B) (hB : 0 ≤ B) (n : Int) : 0 ≤ (cnt ps n).getD 0 ∧ (cnt ps n).getD 0 ≤ B := by
  induction ps with
  | nil => exact ⟨Int.le_refl 0, hB⟩
  | cons p r ih =>
    have ih := ih fun q hq => h q (List.mem_cons_of_mem p hq)
    show 0 ≤ (if p.1 = n then some p.2 else cnt r n).getD 0 ∧ (if p.1 = n then some p.2 else cnt r n).getD 0 ≤ B
    by_cases c : p.1 = n
    · rw [if_pos c]
      exact h p List.mem_cons_self
    · rw [if_neg c]
      exact ih
theorem sumP_ok {ns : List Int} {ps qs : List (Int × Int)} {B : Int} (ic : IsC ns) (hp : ∀ p ∈ ps, p.1 ∈ ns ∧ 0 < p.2 ∧ p.2 ≤ B) (hq : ∀ p ∈ qs, p.1 ∈ ns ∧ 0 < p.2 ∧ p.2 ≤ B) (np : (ps.map Prod.fst).Nodup) (nq : (qs.map Prod.fst).Nodup) (b0 : 0 ≤ B) (hB : B < 10 ^ 199) : Cts (sumP ps qs) ∧ ∀ x ∈ sumP ps qs, x.1 ∈ ns := by
  have big : (2 : Int) * 10 ^ 199 < 10 ^ 200 := by decide +kernel
  have km : ∀ x ∈ sumP ps qs, x.1 ∈ ns := fun x hx => by
    rcases sumP_key.mp (List.mem_map_of_mem hx) with h | h
    · obtain ⟨p, m, e⟩ := List.mem_map.mp h
      exact e ▸ (hp p m).1
    · obtain ⟨p, m, e⟩ := List.mem_map.mp h
      exact e ▸ (hq p m).1
  refine ⟨⟨sumP_nd ps qs, ?_, fun x hx => ?_⟩, km⟩
  · have sub : ∀ k ∈ (sumP ps qs).map Prod.fst, k ∈ ns := fun k hk => by
      obtain ⟨x, hx, rfl⟩ := List.mem_map.mp hk
      exact km x hx
    have a := len_sub (sumP_nd ps qs) sub
    rw [List.length_map] at a
    exact Nat.le_trans a ic.le
  · obtain ⟨a, b⟩ := ic.sz _ (km x hx)
    have m := List.mem_map_of_mem (f := Prod.fst) hx
    have c := sumP_cnt m
    have e : x.2 = sumC ps qs x.1 := Option.some.inj (((cnt_mem (sumP_nd ps qs)).mp hx).symm.trans c)
    have p1 := cntP_nn (fun p h => ⟨Int.le_of_lt (hp p h).2.1, (hp p h).2.2⟩) b0 x.1
    have q1 := cntP_nn (fun p h => ⟨Int.le_of_lt (hq p h).2.1, (hq p h).2.2⟩) b0 x.1
    have pos : 0 < x.2 := by
      rw [e]
      unfold sumC
      rcases sumP_key.mp m with h | h
      · obtain ⟨p, mp, ep⟩ := List.mem_map.mp h
        have : cnt ps x.1 = some p.2 := (cnt_mem np).mp (by rw [← ep]; exact mp)
        rw [this]
        have := (hp p mp).2.1
        show 0 < p.2 + _
        omega
      · obtain ⟨p, mp, ep⟩ := List.mem_map.mp h
        have : cnt qs x.1 = some p.2 := (cnt_mem nq).mp (by rw [← ep]; exact mp)
        rw [this]
        have := (hq p mp).2.1
        show 0 < _ + p.2
        omega
    refine ⟨siz_of a b, siz_of pos ?_⟩
    rw [e]
    unfold sumC
    omega
def spLotAdd (K : PySem.W.Frag) (C : Addr) : Sp := fun vs H Q _ => ∃ a b ps qs, vs = [.ref a, .ref b] ∧ LotAt K C H a ps ∧ LotAt K C H b qs ∧ ps.length ≤ 12 ∧ qs.length ≤ 12 ∧ Cts (sumP ps qs) ∧ ∀ c ts H', Ex H H' → ts.Perm (sumP ps qs) → Asc ts → LotAt K C H' c ts → Q (.ref c) H'
theorem rd_up {H H' : Hp} {g : Addr} {u : HO} (e : Ex H H') (h : Rd H g u) : Rd H' g u := h.elim (fun k => .inl (e _ _ k)) fun ⟨od, k⟩ => .inr ⟨od, e _ _ k⟩
section
variable {K : PySem.W.Frag} {CL CS : Addr} {σ : L2.St} {H : Hp} {te ta tb : TE} {ps qs ts : List (Int × Int)} {a g : Addr} {Q : VK}
theorem elot_add (ha : Elot K CL ta σ H ps) (hb : Elot K CL tb σ H qs) (lp : ps.length ≤ 12) (lq : qs.length ≤ 12) (hc : Cts (sumP ps qs)) (hp : ts.Perm (sumP ps qs)) (has : Asc ts) :
    Elot K CL (tOp (fun x y H Q => ∃ a b dx dy fs gs, x = .ref a ∧ y = .ref b ∧ H a = some (.ins CL dx fs) ∧ H b = some (.ins CL dy gs) ∧ spLotAdd K CL [.ref a, .ref b] H (fun v H' => ∃ p, v = .ref p ∧ Q (.ref p) H') E0) ta tb) σ H ts := fun H1 e Q q => ha H1 e _ fun a H2 e2 h2 => hb H2 (e.trans e2) _ fun b H3 e3 h3 => by
  have h2 := h2.up e3
  obtain ⟨dx, t1, t2, d, us, x1, _⟩ := h2.ex
  obtain ⟨dy, u1, u2, d2, us2, x2, _⟩ := h3.ex
  exact ⟨a, b, dx, dy, _, _, rfl, rfl, x1, x2, a, b, ps, qs, rfl, h2, h3, lp, lq, hc, fun c ts' H4 e4 hp' ha' hc => ⟨c, rfl, q c H4 ((e2.trans e3).trans e4) (by rw [← asc_unique ha' has (hp'.trans hp.symm)]; exact hc)⟩⟩
end
section
variable {K : PySem.W.Frag} {σ : L2.St} {H : Hp} {tl te : TE} {tt : TT} {a : Addr} {xs : List V} {j : Nat} {ws : List Nat} {α β : Type} {R : Hp → V → α → Prop} {R' : Hp → V → β → Prop} {as : List α} {c : α → Bool} {e : α → β}
end
section
variable {K : PySem.W.Frag} {CL CS : Addr} {σ : L2.St} {H : Hp} {te ta tb : TE} {ps qs rs : List (Int × Int)} {g g' : Addr} {ns : List Int}
end
end Ck

namespace CZM
open PySem
open PySem.Sem (wp)
open RZ
section
variable {prog : Program} {w : World} {A : Around} {E : Value → Shared → Prop} {s : Shared} {z TI TO T i1 i2 l1 l2 : Addr} {f : Bool} {oT : Obj} {k1 k2 : Nat} {xs ys : Array Value} {x y : Value}
end
section
variable {prog : Program} {w : World} {A : Around} {s : Shared} {R : Result → Shared → Prop} {z TI TO i1 i2 l1 l2 S : Addr} {xs ys : Array Value} {n N : Nat}
end
section
variable {prog : Program} {w : World} {A : Around} {E : Value → Shared → Prop} {s : Shared} {z TI TO i1 i2 l1 l2 : Addr} {xs ys : Array Value} {n : Nat}
end
end CZM
namespace Ck
open PySem PySem.Spec PyProof.Rows L2 StX RZ
end Ck

namespace Ck
open PySem PySem.Spec PyProof.Rows L2 StX Evl RZ
def spNoa (K : PySem.W.Frag) : Sp := fun vs H Q _ => ∃ (t : Addr) (xs : List V) (rs : List (Int × Int)), vs = [.ref t] ∧ SqT K H t xs ∧ F2 (RP K H) xs rs ∧ rs.length ≤ 2000 ∧ ∀ H', Ex H H' → Q (.int (rs.map fun r => r.2).sum) H'
def spLNum (K : PySem.W.Frag) (C : Addr) : Sp := fun vs H Q _ => ∃ a ps, vs = [.ref a] ∧ LotAt K C H a ps ∧ ps.length ≤ 2000 ∧ ∀ H', Ex H H' → Q (.int (ps.map fun r => r.2).sum) H'
def spSNum (K : PySem.W.Frag) (C : Addr) : Sp := fun vs H Q _ => ∃ a rs, vs = [.ref a] ∧ StoAt K C H a rs ∧ rs.length ≤ 2000 ∧ ∀ H', Ex H H' → Q (.int (rs.map fun r => r.2).sum) H'
section
variable {K : PySem.W.Frag} {CL CS : Addr} {σ : L2.St} {H : Hp} {te ta tb tl : TE} {α : Type} {R : Hp → V → α → Prop} {as : List α} {D : Ends} {z : TS}
theorem ev_lnum {a : Addr} {ps : List (Int × Int)} (h : Ev te σ H (.ref a)) (hl : LotAt K CL H a ps) (hz : ps.length ≤ 2000) : Ev (tProp CL (spLNum K CL) [] E0 te) σ H (.int (ps.map fun r => r.2).sum) := fun H1 e Q q => h H1 e _ fun H2 e2 => by
  obtain ⟨dx, t1, t2, d, ts, h1, _⟩ := (hl.up (e.trans e2)).ex
  exact ⟨a, dx, _, rfl, h1, a, ps, rfl, hl.up (e.trans e2), hz, fun H' e3 => q H' (e2.trans e3)⟩
theorem ev_snum {a : Addr} {rs : List (Int × Int)} (h : Ev te σ H (.ref a)) (hl : StoAt K CS H a rs) (hz : rs.length ≤ 2000) : Ev (tProp CS (spSNum K CS) [] E0 te) σ H (.int (rs.map fun r => r.2).sum) := fun H1 e Q q => h H1 e _ fun H2 e2 => by
  obtain ⟨dx, t1, ts, h1, _⟩ := (hl.up (e.trans e2)).ex
  exact ⟨a, dx, _, rfl, h1, a, rs, rfl, hl.up (e.trans e2), hz, fun H' e3 => q H' (e2.trans e3)⟩
end
section
variable {K : PySem.W.Frag} {CL CS : Addr} {σ : L2.St} {H : Hp} {te ta tb tc tl : TE} {tt : TT} {ns : List Int} {rs ss : List (Int × Int)} {p a b l : Addr} {j : Nat} {ws : List Nat} {i s m : Int}
end
section
variable {K : PySem.W.Frag} {CL CS : Addr} {σ : L2.St} {H : Hp} {ta tb tc : TE} {ns : List Int} {rs ss : List (Int × Int)} {s0 : Int}
end
end Ck

namespace SrtO
open PySem PySem.Spec PyProof.Rows
section
variable {prog : Program} {w : World} {A : Around} {E : Value → Shared → Prop} {s : Shared}
theorem collect_tup {l : Addr} {vs : List Value} {Q : List Value → Shared → Prop} (hl : s.heap.IsTuple l vs.toArray)
    (h : Q vs { s with heap := (s.heap.push (seqObj "list" #[] 0)).update s.heap.objs.size (Obj.mapSeq (· ++ vs.toArray)) }) (hsz : vs.length ≤ sizeLine) :
    wpAny (model prog w) A (collect (.ref l)) Q E s := by
  obtain ⟨o, ho, hc, n, hd⟩ := id hl
  unfold collect
  refine wpAny_bind (wpAny_runValue (codeAny_builtin entry_proto_collect' ?_))
  show wpAny _ _ (do again (.builtin "list.__iadd__" ⟨[← newList [], .ref l], []⟩)) _ _ s
  refine wpAny_bind (wpAny_newList (wpAny_pure ⟨Code.quiet_builtin _ (by decide +kernel), codeAny_builtin entry_list_iadd' ?_⟩))
  show wpAny _ _ (Builtin.List.listExtendWith (.ref s.heap.objs.size) (.ref l) (.ref s.heap.objs.size)) _ _ { s with heap := s.heap.push (seqObj "list" #[] 0) }
  unfold Builtin.List.listExtendWith
  have ho' : (s.heap.push (seqObj "list" #[] 0)).get? l = some o := Heap.get?_push_of_some _ ho
  refine wpAny_bind (wpAny_typeOf (T := "tuple") ⟨o, ho', hc⟩ ?_)
  have ht : (Value.type "tuple" == Value.type "tuple") = true := by rfl
  rw [if_pos (by rw [ht]; simp)]
  refine wpAny_bind (listItems_at ho' hd ?_)
  refine wpAny_bind (listItems_at (xs := #[]) (n := 0) (Heap.get?_push_size _ rfl) rfl ?_)
  rw [if_neg (by simp)]
  refine wpAny_bind (listUpdate_at (xs := #[]) (n := 0) (Heap.get?_push_size _ rfl) rfl ?_ (Nat.zero_le _) (by show (#[] ++ vs.toArray).size ≤ sizeLine + 1; simp only [Array.size_append, List.size_toArray, List.length_nil]; omega))
  refine wpAny_pure ?_
  show wpAny (model prog w) A (do
      let o ← load s.heap.objs.size
      match o.data with
      | .seq xs _ => pure xs.toList
      | _ => unsupported "internal:collect") Q E { s with heap := (s.heap.push (seqObj "list" #[] 0)).update s.heap.objs.size (Obj.mapSeq (· ++ vs.toArray)) }
  refine wpAny_bind (wpAny_load (get?_update_seq (Heap.get?_push_size _ rfl) _) ?_)
  show wpAny _ _ (pure ((#[] : Array Value) ++ vs.toArray).toList) Q E _
  rw [show ((#[] : Array Value) ++ vs.toArray).toList = vs by simp]
  exact wpAny_pure h
theorem sorted_ordT {l : Addr} {vs : List Value} {ltv : Value → Value → Bool} {Q : Value → Shared → Prop} (O : Swo ltv) (hl : s.heap.IsTuple l vs.toArray) (hz : vs.length ≤ sizeLine)
    (hS : 2 ≤ vs.length → ∀ (h₁ : Heap) (a : Addr), h₁.get? a = some (seqObj "list" vs.toArray 0) → (∀ b o, s.heap.get? b = some o → b ≠ a ∧ h₁.get? b = some o) → SortableO prog w A.in1.in1 { s with heap := h₁ } a vs ltv)
    (h : ∀ out : List Value, Srtd ltv out → Stb ltv out vs → Q (.ref (s.heap.objs.size + 1)) { s with heap := sortedAll s.heap vs out.toArray }) :
    wpAny (model prog w) A (call (.builtin "sorted") [.ref l]) Q E s := by
  refine Calls.call_function_entry kind_sorted plain_sorted entry_sorted (args_sorted1 _) ?_
  unfold Builtin.«sorted»
  refine wpAny_bind (m := checkCount "sorted" 1 1 _) (wpAny_pure ?_)
  refine wpAny_bind (collect_tup hl ?_ hz)
  refine wpAny_bind (wpAny_newList ?_ hz)
  have hsz : ((s.heap.push (seqObj "list" #[] 0)).update s.heap.objs.size (Obj.mapSeq (· ++ vs.toArray))).objs.size = s.heap.objs.size + 1 := by
    rw [Heap.size_update, size_push']
  have hoL : (((s.heap.push (seqObj "list" #[] 0)).update s.heap.objs.size (Obj.mapSeq (· ++ vs.toArray))).push (seqObj "list" vs.toArray 0)).get? (s.heap.objs.size + 1) = some (seqObj "list" vs.toArray 0) := by
    rw [← hsz]; exact Heap.get?_push_size _ rfl
  have keep : ∀ b o, s.heap.get? b = some o → b ≠ s.heap.objs.size + 1 ∧ (((s.heap.push (seqObj "list" #[] 0)).update s.heap.objs.size (Obj.mapSeq (· ++ vs.toArray))).push (seqObj "list" vs.toArray 0)).get? b = some o := fun b o q => by
    have hlt : b < s.heap.objs.size := Heap.lt_size q
    refine ⟨Nat.ne_of_lt (Nat.lt_succ_of_lt hlt), Heap.get?_push_of_some _ ?_⟩
    rw [Heap.get?_update_ne _ _ _ _ (Nat.ne_of_lt hlt)]
    exact Heap.get?_push_of_some _ q
  show wpAny _ _ _ _ _ { s with heap := ((s.heap.push (seqObj "list" #[] 0)).update s.heap.objs.size (Obj.mapSeq (· ++ vs.toArray))).push (seqObj "list" vs.toArray 0) }
  rw [hsz]
  refine wpAny_bind (wpAny_holding (wpAny_call_entry slot_list_sort ⟨_, hoL, rfl⟩ entry_list_sort (list_sort_ord O hoL hz (fun h2 => hS h2 _ _ hoL keep) fun out hs hb => ⟨_, rfl, ?_⟩) (args_list_sort _)))
  exact wpAny_pure ⟨_, rfl, h out hs hb⟩
theorem sorted_pairsT {l : Addr} {vs : List Value} {k : Value → Int × Int} {Q : Value → Shared → Prop} (hl : s.heap.IsTuple l vs.toArray) (hz : vs.length ≤ sizeLine) (hp : ∀ v ∈ vs, Srt.IsPair s.heap v (k v).1 (k v).2)
    (h : ∀ (h' : Heap) (d : Addr) (out : List Value), Srtd (fun v u => lexB (k v) (k u)) out → Stb (fun v u => lexB (k v) (k u)) out vs → (∀ b o, s.heap.get? b = some o → h'.get? b = some o) → s.heap.objs.size ≤ d → (∃ n, h'.get? d = some (seqObj "list" out.toArray n)) → Q (.ref d) { s with heap := h' }) :
    wpAny (model prog w) A (call (.builtin "sorted") [.ref l]) Q E s := by
  refine sorted_ordT (swo_lex k) hl hz (fun h2 h₁ a ha kk => ?_) fun out hs hb => ?_
  · refine pairs_sortableO (s := { s with heap := h₁ }) (by omega) (fun v hm => (hp v hm).keeps fun b o e _ => (kk b o e).2) fun o e => ?_
    have e' : some o = some (seqObj "list" vs.toArray 0) := e.symm.trans ha
    cases e'
    intro c
    exact absurd (Value.type.inj c) (by decide)
  · exact h _ _ out hs hb (fun b o e => sortedAll_old e) (Nat.le_succ _) (sortedAll_at s.heap vs out.toArray)
end
end SrtO
namespace Ck
open PySem PySem.Spec PyProof.Rows L2 StX RZ
section
variable {X : Cx}
end
end Ck

namespace Ck
open PySem PySem.Spec PyProof.Rows L2 StX Evl RZ
def spStoBack (K : PySem.W.Frag) (C : Addr) : Sp := fun vs H Q _ => ∃ (a : Addr) (rs : List (Int × Int)), vs = [.ref a] ∧ StoAt K C H a rs ∧ Rns rs.reverse ∧ ∀ c H', Ex H H' → StoAt K C H' c (jr rs.reverse) → Q (.ref c) H'
section
variable {K : PySem.W.Frag} {CL CS : Addr} {σ : L2.St} {H : Hp} {tl te ta tb tc : TE} {tt : TT} {a p : Addr} {ts : List V} {ps rs ss : List (Int × Int)} {j j2 : Nat} {ws : List Nat} {ns us : List Int}
theorem lc_tupPP (c : Int × Int → Bool) (f : Int × Int → Int × Int) (h : Ev tl σ H (.ref a)) (ht : SqT K H a ts) (hf : F2 (RP K H) ts ps) (hz : ps.length ≤ 40000) (hw : ∀ x y, wipe (((wipe σ ws).set j (some x)).set j2 (some y)) ws = wipe σ ws)
    (hc : ∀ p ∈ ps, ∀ H1, Ex H H1 → EvT tt (((wipe σ ws).set j (some (.int p.1))).set j2 (some (.int p.2))) H1 (c p)) (he : ∀ p ∈ ps, c p = true → ∀ H1, Ex H H1 → EvR (RP K) te (((wipe σ ws).set j (some (.int p.1))).set j2 (some (.int p.2))) H1 (f p)) :
    ∀ H1, Ex H H1 → ∀ Q : VK, (∀ D vs H2, H1 D = none → Ex H1 H2 → H2 D = some (.lst vs) → F2 (RP K H2) vs ((ps.filter c).map f) → Q (.ref D) H2) → tLc (iTup K tl) (gTup K 2 (gCons (gName j) (gCons (gName j2) gNil))) tt te ws σ H1 Q := fun H0 e0 Q q => h H0 e0 _ fun H1 e1 => ⟨a, rfl, ⟨ts, ex_t (e0.trans e1) ht⟩, fun D hD => by
  have e01 := e0.trans e1
  refine lc_it walk_tup (fun i H' => H1 D = none ∧ Ex H1 H' ∧ ∃ vs, H' D = some (.lst vs) ∧ vs.length ≤ i ∧ F2 (RP K H') vs (((ps.take i).filter c).map f)) ⟨hD, Ex.new hD, [], upd_same, Nat.le_refl _, .nil⟩ (fun i H' _ p => ex_t (e01.trans p.2.1) ht) ?_ ?_
  · rintro i x H' H2 hi ⟨p1, p2, vs, p3, p4, p5⟩ ⟨rfl, hxi⟩
    obtain ⟨p, hp, t, rfl, hpt⟩ := hf.at hxi
    have m := List.mem_of_getElem? hp
    have st : ps.take (i + 1) = ps.take i ++ [p] := by rw [List.take_add_one, hp]; rfl
    have i12 : i < ps.length := (List.getElem?_eq_some_iff.mp hp).1
    refine ⟨t, _, rfl, ex_t (e01.trans p2) hpt, rfl, _, _, rfl, _, _, rfl, rfl, hw _ _, hc p m H2 (e01.trans p2) H2 (Ex.refl _) _ fun H4 e4 => ?_⟩
    cases hcp : c p with
    | true =>
      refine iteT (he p m hcp H4 ((e01.trans p2).trans e4) H4 (Ex.refl _) _ fun v H5 e5 hv => ⟨vs, (e4.trans e5) _ _ p3, sz_lt (by omega), p1, Ex.mut (p2.trans (e4.trans e5)) p1, vs ++ [v], upd_same, by rw [List.length_append]; exact Nat.succ_le_succ p4, ?_⟩)
      have hD5 : H5 D = some (.lst vs) := (e4.trans e5) _ _ p3
      rw [st, List.filter_append, List.map_append, show [p].filter c = [p] by rw [List.filter_cons, hcp]; rfl]
      exact ((p5.imp fun x b r => RP.upd hD5 (r.ex (e4.trans e5))).app (.cons (RP.upd hD5 hv) .nil))
    | false =>
      refine iteF ⟨p1, p2.trans e4, vs, e4 _ _ p3, Nat.le_succ_of_le p4, ?_⟩
      rw [st, List.filter_append, show [p].filter c = [] by rw [List.filter_cons, hcp]; rfl, List.append_nil]
      exact p5.imp fun x b r => r.ex e4
  · rintro H2 ⟨p1, p2, vs, p3, _, p5⟩
    rw [hf.len, List.take_of_length_le (Nat.le_refl _)] at p5
    exact q D vs H2 (fresh_back e1 p1) (e1.trans p2) p3 p5⟩
end
end Ck

namespace Ck
open PySem PySem.Spec PyProof.Rows L2 StX RZ
noncomputable def keyV (K : PySem.W.Frag) (H : Hp) (x : V) : Int × Int := open Classical in if h : ∃ r, RP K H x r then h.choose else (0, 0)
theorem keyV_all {K : PySem.W.Frag} {H : Hp} {ts : List V} {rs : List (Int × Int)} (h : F2 (RP K H) ts rs) : ∀ x ∈ ts, ∃ t, x = V.ref t ∧ SqT K H t [.int (keyV K H x).1, .int (keyV K H x).2] := fun x hx => by
  obtain ⟨i, hi⟩ := List.getElem?_of_mem hx
  obtain ⟨b, _, r⟩ := h.at hi
  have e : ∃ r, RP K H x r := ⟨b, r⟩
  unfold keyV
  rw [dif_pos e]
  exact e.choose_spec
section
variable {K : PySem.W.Frag} {CL CS : Addr} {σ : L2.St} {H : Hp} {te ta tb : TE} {ps qs rs : List (Int × Int)} {ns : List Int}
end
section
variable {X : Cx} {k j : Nat} {C : Addr} {m : Str} {sp : Sp} {ps : List Str} {o : Expr} {ta : TE} {apos pos : Pos} {pl : Sem Bool}
theorem pmeth0 (c : Og X.prog X.w X.K X.mg X.base k C m ps sp) (hr : Room j X.A) (he : PE X o ta) (hk : k ≤ j := by decide)
    (ht : eval (.Call (.Attribute o m apos) [] [] pos) X.env = (do
      let ov ← eval o X.env
      standAt apos.atName
      let (f, first) ← holding [ov] (getMethod ov m pl)
      callWith pos f first (backTo pos (starEach [] X.env)) (backToKw pos (keywordEach [] X.env))) := by rfl) :
    PE X (.Call (.Attribute o m apos) [] [] pos) (tMeth C m sp [] E0 ta tNil) := by
  obtain ⟨hc, g, fd, hs, hfn, hf, kp, F, b⟩ := c
  exact pe_meth0 (pl := pl) he hc ⟨hs, hfn, kp⟩ F (hr.mono hk) b .nil pass0 ht
end
theorem sto_look {t : Addr} {m : Str} (h : (("_runs" : Str) == m) = false := by decide +kernel) : (stoF t).lookup m = none := by
  unfold stoF
  rw [lookup_putF, if_neg (by intro e; rw [e] at h; simp at h)]
  rfl
section
variable {K : PySem.W.Frag} {σ : L2.St} {H : Hp} {td : TE} {g : Addr} {ps : List (Int × Int)} {j : Nat} {ws : List Nat}
end
end Ck

namespace Ck
open PySem PySem.Spec PyProof.Rows L2 StX RZ
end Ck

namespace Ck
open PySem PySem.Spec PyProof.Rows L2 StX RZ
section
variable {X : Cx} {pins : List (Addr × Obj)} {σ : L2.St} {H : Hp} {s : Shared}
end
end Ck

namespace Ck
open PySem PySem.Spec PyProof.Rows L2 StX Evl RZ
def mny (s c f l : Int) : Int := (if l < s + c then l else s + c) - (if f > s then f else s)
theorem mny_f (s c f l : Int) : mny s c f l ≤ l - f ∧ mny s c f l ≤ l - s ∧ mny s c f l ≤ s + c - f ∧ mny s c f l ≤ c ∧ (mny s c f l = l - f ∨ mny s c f l = l - s ∨ mny s c f l = s + c - f ∨ mny s c f l = c) := by
  unfold mny
  split <;> split <;> omega
def prt (s f l : Int) : List (Int × Int) → List (Int × Int)
  | [] => []
  | r :: t => (if mny s r.2 f l > 0 then [(r.1, mny s r.2 f l)] else []) ++ prt (s + r.2) f l t
def numR (rs : List (Int × Int)) : Int := (rs.map fun r => r.2).sum
theorem numR_cons (r : Int × Int) (t : List (Int × Int)) : numR (r :: t) = r.2 + numR t := by
  unfold numR
  rw [List.map_cons, List.sum_cons]
theorem numR_nn {rs : List (Int × Int)} (h : ∀ r ∈ rs, 0 < r.2) : 0 ≤ numR rs := (snd_each h).1
theorem prt_sub (f l : Int) : ∀ (rs : List (Int × Int)) (s : Int), ((prt s f l rs).map Prod.fst).Sublist (rs.map Prod.fst)
  | [], _ => List.Sublist.refl _
  | r :: t, s => by
    have ih := prt_sub f l t (s + r.2)
    unfold prt
    split
    · exact ih.cons₂ r.1
    · exact ih.cons r.1
theorem prt_pos {f l : Int} (fl : f ≤ l) : ∀ {rs : List (Int × Int)} {s : Int}, (∀ r ∈ rs, 0 < r.2) → ∀ x ∈ prt s f l rs, 0 < x.2 ∧ ∃ r ∈ rs, x.1 = r.1 ∧ x.2 ≤ r.2
  | [], _, _, x, hx => nomatch hx
  | r :: t, s, h, x, hx => by
    have r0 := h r List.mem_cons_self
    unfold prt at hx
    rcases List.mem_append.mp hx with m | m
    · split at m
      · rename_i c
        rw [List.mem_singleton.mp m]
        refine ⟨c, r, List.mem_cons_self, rfl, ?_⟩
        show mny s r.2 f l ≤ r.2
        unfold mny
        split <;> split <;> omega
      · cases m
    · obtain ⟨a, q, b, c⟩ := prt_pos fl (fun y hy => h y (List.mem_cons_of_mem r hy)) x m
      exact ⟨a, q, List.mem_cons_of_mem r b, c⟩
def cz (rs : List (Int × Int)) (x : Int) : Int := (cnt rs x).getD 0
theorem cz_none {t : List (Int × Int)} {x : Int} (h : x ∉ t.map Prod.fst) : cz t x = 0 := by
  unfold cz
  rw [Ck.cnt_none.mpr h]
  rfl
def exR (rs : List (Int × Int)) : List Int := rs.flatMap fun r => List.replicate r.2.toNat r.1
end Ck

namespace Ck
open PySem PySem.Spec PyProof.Rows L2 StX Evl RZ
end Ck

namespace Ck
open PySem PySem.Spec PyProof.Rows L2 RZ
section
variable {X : Cx} {pins : List (Addr × Obj)} {σ : L2.St} {H : Hp} {s : Shared}
end
section
variable {K : PySem.W.Frag} {H H' : Hp}
end
section
variable {K : PySem.W.Frag} {σ : L2.St} {H H' : Hp} {ta tb te : TE} {tr : TA} {v : V} {d : PyData} {ds es : List PyData} {ps : List (Int × Int)}
def EvPrs (trs : List (TE × TE)) (σ : L2.St) (H : Hp) (ps : List (Int × Int)) : Prop := ∀ H1, Evl.Ex H H1 → ∀ Q : List (V × V) → Hp → Prop, (∀ H2, Evl.Ex H1 H2 → Q (ps.map fun p => (V.int p.1, V.int p.2)) H2) → tPairs trs σ H1 Q
theorem prs_nil : EvPrs [] σ H [] := fun H1 _ _ q => q H1 (Evl.Ex.refl H1)
theorem prs_cons {trs : List (TE × TE)} {a b : Int} (ha : Evl.Ev ta σ H (.int a)) (hb : Evl.Ev tb σ H (.int b)) (hr : EvPrs trs σ H ps) : EvPrs ((ta, tb) :: trs) σ H ((a, b) :: ps) := fun H1 e Q q =>
  ha H1 e _ fun H2 e2 => hb H2 (e.trans e2) _ fun H3 e3 => hr H3 (e.trans (e2.trans e3)) _ fun H4 e4 => q H4 (e2.trans (e3.trans e4))
theorem evd_disp {trs : List (TE × TE)} (h : EvPrs trs σ H ps) (n : (ps.map Prod.fst).Nodup := by decide +kernel) (l : ps.length ≤ 15 := by exact Nat.le_of_ble_eq_true rfl) : EvD (tDisp trs) σ H ps := fun H1 e Q q => by
  intro p hp
  refine h _ (e.trans (Evl.Ex.new hp)) _ fun H2 e2 => ⟨e2 _ _ upd_same, ps.map kc, by rw [List.map_map]; rfl, by rw [List.length_map]; exact l, ?_⟩
  rw [merge_kc n]
  exact q p _ hp (Evl.Ex.mut ((Evl.Ex.new hp).trans e2) hp) upd_same
theorem evd_new : EvD tDNewK σ H [] := fun H1 e Q q p hp => q p _ hp (Evl.Ex.new hp) upd_same
end
end Ck

namespace Ck
open PySem PySem.Spec PyProof.Rows L2 RZ Evl
theorem nd_pairs {as : List (Int × Int)} (ha : (as.map Prod.fst).Nodup) : as.Nodup := List.Pairwise.imp (fun {a b} (h : a.1 ≠ b.1) (e : a = b) => h (congrArg Prod.fst e)) (List.pairwise_map.mp (List.nodup_iff_pairwise_ne.mp ha))
theorem sub_perm {α : Type} [DecidableEq α] : ∀ {xs ys : List α}, xs.Nodup → (∀ x ∈ xs, x ∈ ys) → ∃ zs, ys.Perm (xs ++ zs)
  | [], ys, _, _ => ⟨ys, List.Perm.refl _⟩
  | x :: r, ys, n, s => by
    obtain ⟨n1, n2⟩ := List.nodup_cons.mp n
    have m := s x List.mem_cons_self
    obtain ⟨zs, p⟩ := sub_perm (ys := ys.erase x) n2 fun y hy => (List.mem_erase_of_ne (fun e : y = x => n1 (by rw [← e]; exact hy))).mpr (s y (List.mem_cons_of_mem x hy))
    exact ⟨zs, (List.perm_cons_erase m).trans (List.Perm.cons x p)⟩
theorem perm_cnt {as bs : List (Int × Int)} (ha : (as.map Prod.fst).Nodup) (hb : (bs.map Prod.fst).Nodup) (h : ∀ s, cnt as s = cnt bs s) : as.Perm bs := by
  have sub : ∀ x, x ∈ as ↔ x ∈ bs := fun x => by rw [show x = (x.1, x.2) from rfl, cnt_mem ha, cnt_mem hb, h]
  obtain ⟨zs, p⟩ := sub_perm (nd_pairs ha) fun x hx => (sub x).mp hx
  have nd := (List.Perm.nodup_iff p).mp (nd_pairs hb)
  cases zs with
  | nil =>
    rw [List.append_nil] at p
    exact p.symm
  | cons z r =>
    have m : z ∈ as := (sub z).mpr (p.mem_iff.mpr (List.mem_append_right _ List.mem_cons_self))
    exact absurd rfl ((List.nodup_append.mp nd).2.2 z m z List.mem_cons_self)
section
variable {K : PySem.W.Frag} {σ : L2.St} {H : Hp} {tl te td : TE} {tt : TT} {d : Addr} {ns : List Int} {ps : List (Int × Int)} {j : Nat} {ws : List Nat}
end
end Ck

namespace Ck
open PySem PySem.Spec PyProof.Rows L2 RZ Evl
section
variable {X : Cx}
end
end Ck

namespace Ck
open PySem PySem.Spec PyProof.Rows L2 StX RZ
section
variable {P : Program} {w : World} {K : PySem.W.Frag} {mg : Str → Option Value} {base : Heap}
theorem evr_counts {CL : Addr} {te : TE} {σ : L2.St} {H : Hp} {ps : List (Int × Int)} (h : Elot K CL te σ H ps) : EvR RD (tProp CL (spCounts K CL) [] E0 te) σ H ps := fun H1 e Q q => h H1 e _ fun a H2 e2 hl => by
  obtain ⟨dx, t1, t2, d, ts, h1, _⟩ := hl.ex
  exact ⟨a, dx, _, rfl, h1, a, ps, rfl, hl, fun p H3 e3 np hp => q _ H3 (e2.trans e3) ⟨p, rfl, hp⟩⟩
theorem q_fall {S z : TS} {D : Ends} {σ : L2.St} {H : Hp} (I : L2.St → Hp → Prop) (hz : ∀ σ' H', I σ' H' → z D σ' H') (h : (∀ σ' H', I σ' H' → z D σ' H') → tSeq S z D σ H) : tSeq S z D σ H := h hz
end
end Ck

namespace Ck
open PySem PySem.Spec PyProof.Rows L2
section
variable {prog : Program} {w : World} {A : Around} {E : Value → Shared → Prop} {s : Shared} {it t : Addr} {i : Nat} {items : Array Value}
end
section
variable {X : Cx} {pins : List (Addr × Obj)} {σ : L2.St} {H : Hp} {s : Shared}
variable {C fi fl a q : Addr} {fdI fdL : FuncData} {psI psL : List Str} {spI spL : Sp} {n : Nat} {A1 : Around}
end
end Ck

namespace Ck
open PySem PySem.Spec PyProof.Rows L2 RZ
section
variable {P : Program} {w : World} {K : PySem.W.Frag} {mg : Str → Option Value} {base : Heap} {k : Nat} {C : Addr} {x qual : Str} {st : Stmt} {N ps : List Str} {sp : Sp}
end
section
variable {X : Cx} {k j : Nat} {C : Addr} {m : Str} {sp : Sp} {ps : List Str} {e o : Expr} {es : List Expr} {ta : TE} {t : TA} {apos pos : Pos} {pl : Sem Bool} {W : WX}
end
section
variable {X : Cx} {n k j : Nat} {f C : Addr} {fd : FuncData} {ps : List Str} {sp : Sp}
end
section
variable {X : Cx} {pins : List (Addr × Obj)} {σ : L2.St} {H : Hp} {s : Shared}
end
section
variable {K : PySem.W.Frag} {σ : L2.St} {H : Hp} {te ta : TE} {d : PyData}
end
end Ck

namespace Ck
open PySem PySem.Spec PyProof.Rows L2 StX Evl RZ
section
variable {K : PySem.W.Frag} {σ : L2.St} {H H3 : Hp} {ta tb te tl : TE} {tt : TT} {p a b : Addr} {xs ys : List V} {ms ns : List Int} {j j1 j2 : Nat} {ws : List Nat}
theorem sum_rng {α : Type} {f : α → Int} {B : Int} : ∀ {l : List α}, (∀ r ∈ l, 0 ≤ f r ∧ f r ≤ B) → 0 ≤ (l.map f).sum ∧ (l.map f).sum ≤ l.length * B
  | [], _ => ⟨Int.le_refl _, by show (0 : Int) ≤ ((0 : Nat) : Int) * B; omega⟩
  | r :: t, h => by
    obtain ⟨a, b⟩ := sum_rng fun x hx => h x (List.mem_cons_of_mem r hx)
    obtain ⟨c, d⟩ := h r List.mem_cons_self
    have e : ((r :: t).map f).sum = f r + (t.map f).sum := by rw [List.map_cons, List.sum_cons]
    rw [e, List.length_cons, Int.natCast_succ, Int.add_mul, Int.one_mul]
    omega
theorem nat_lt {i : Int} (h0 : 0 ≤ i) (h : i ≤ 12 * (10 ^ 200 * 10 ^ 200)) : i.natAbs < 10 ^ 500 := by
  have d : (12 : Int) * (10 ^ 200 * 10 ^ 200) < ((10 ^ 500 : Nat) : Int) := by decide +kernel
  omega
theorem mul_rng {a b : Int} (a0 : 0 ≤ a) (a1 : a ≤ 10 ^ 200) (b0 : 0 ≤ b) (b1 : b ≤ 10 ^ 200) : 0 ≤ a * b ∧ a * b ≤ 10 ^ 200 * 10 ^ 200 :=
  ⟨Int.mul_nonneg a0 b0, Int.mul_le_mul a1 b1 b0 (by decide +kernel)⟩
theorem siz_rng {i : Int} (h : sizB i = true) : 0 < i ∧ i ≤ 10 ^ 200 := by
  obtain ⟨a, b⟩ := siz_int h
  have c : ((10 ^ 200 : Nat) : Int) = 10 ^ 200 := by decide +kernel
  exact ⟨a, by omega⟩
theorem untC {ps : List (Int × Int)} (hc : Cts ps) {s : Int} (s0 : 0 < s) : 0 ≤ unt ps s ∧ (unt ps s).natAbs < 10 ^ 500 := by
  have ln := hc.ln
  obtain ⟨a, b⟩ := sum_rng (l := ps) (f := fun r => r.2 * (r.1 / s)) (B := 10 ^ 200 * 10 ^ 200) fun r hr => by
    obtain ⟨x0, x1⟩ := siz_rng (hc.ok r hr).1
    obtain ⟨y0, y1⟩ := siz_rng (hc.ok r hr).2
    exact mul_rng (by omega) y1 (Int.ediv_nonneg (by omega) (by omega)) (Int.le_trans (Int.ediv_le_self _ (by omega)) x1)
  have c : (ps.length : Int) * (10 ^ 200 * 10 ^ 200) ≤ 12 * (10 ^ 200 * 10 ^ 200) := Int.mul_le_mul_of_nonneg_right (by omega) (by decide +kernel)
  exact ⟨a, nat_lt a (Int.le_trans b c)⟩
section
variable {K : PySem.W.Frag} {σ : L2.St} {H : Hp} {tl te : TE} {tt : TT} {xs : List V} {ns : List Int} {j : Nat} {ws : List Nat}
end
end
end Ck

namespace Ck
open PySem PySem.Spec PyProof.Rows L2 StX Evl RZ
def rSortedPS (K : PySem.W.Frag) : List V → Hp → VK → Prop := fun vs H Q => ∃ (a : Addr) (xs : List V) (k : V → Int × Int), vs = [V.ref a] ∧ (SqL K H a xs ∨ SqT K H a xs) ∧ (∀ x ∈ xs, ∃ t, x = V.ref t ∧ SqT K H t [.int (k x).1, .int (k x).2]) ∧
  ∀ ys p, ys.Perm xs → SrtO.Srtd (ltP k) ys → H p = none → Q (.ref p) (upd H p (.lst ys))
section
variable {X : Cx}
theorem cr_sortedPS : CallR X (.builtin "sorted") (rSortedPS X.K) := by
  intro pins s σ H vs us Q I r h
  obtain ⟨a, xs, k, rfl, hs, hx, q⟩ := h
  obtain ⟨u, rfl, ru⟩ := vals1 r
  obtain rfl : u = Value.ref a := ru
  rcases hs with hs | hs
  · obtain ⟨its, rv, hl, hz⟩ := I.list hs
    obtain ⟨e1, e2⟩ := refs_back rv fun x m => by
      obtain ⟨t, e, _⟩ := hx x m
      exact ⟨t, e⟩
    refine SrtO.sorted_pairsO (k := fun u => k (backV u)) hl.isList (by rw [← rv.length]; exact hz) (fun v hv => ?_) fun h' d out h1 h2 kp hd hn => ?_
    · obtain ⟨t, rfl⟩ := e2 v hv
      have hm : V.ref t ∈ xs := by rw [e1]; exact List.mem_map.mpr ⟨_, hv, rfl⟩
      obtain ⟨t', e, ht⟩ := hx _ hm
      cases e
      obtain ⟨its2, r2, ⟨o, ho, hc, n, hd⟩, _⟩ := I.tuple ht
      obtain ⟨u1, u2, rfl, ri, rj⟩ := vals2 r2
      obtain ⟨t1, rfl⟩ := ri
      obtain ⟨t2, rfl⟩ := rj
      exact ⟨t, o, t1, t2, n, rfl, ho, hc, hd⟩
    · have h3 : ∀ u ∈ out, ∃ a, u = Value.ref a := fun u hu => e2 u (h2.perm.mem_iff.mp hu)
      obtain ⟨n, hn⟩ := hn
      have hb : SrtO.Stb (ltP k) (out.map backV) xs := by
        rw [e1]
        exact SrtO.Stb.map (ltP_swo k) backV h2
      refine ⟨.ref d, upd H d (.lst (out.map backV)), I.laid (t' := s.toks) kp hd ⟨?_, out, n, vals_back h3, hn⟩, rfl, q _ d hb.perm (SrtO.srtd_map h1) (I.hok.fresh hd)⟩
      rw [hb.len]
      exact hz
  · obtain ⟨its, rv, hl, hz⟩ := I.tuple hs
    obtain ⟨e1, e2⟩ := refs_back rv fun x m => by
      obtain ⟨t, e, _⟩ := hx x m
      exact ⟨t, e⟩
    refine SrtO.sorted_pairsT (k := fun u => k (backV u)) hl (by rw [← rv.length]; exact hz) (fun v hv => ?_) fun h' d out h1 h2 kp hd hn => ?_
    · obtain ⟨t, rfl⟩ := e2 v hv
      have hm : V.ref t ∈ xs := by rw [e1]; exact List.mem_map.mpr ⟨_, hv, rfl⟩
      obtain ⟨t', e, ht⟩ := hx _ hm
      cases e
      obtain ⟨its2, r2, ⟨o, ho, hc, n, hd⟩, _⟩ := I.tuple ht
      obtain ⟨u1, u2, rfl, ri, rj⟩ := vals2 r2
      obtain ⟨t1, rfl⟩ := ri
      obtain ⟨t2, rfl⟩ := rj
      exact ⟨t, o, t1, t2, n, rfl, ho, hc, hd⟩
    · have h3 : ∀ u ∈ out, ∃ a, u = Value.ref a := fun u hu => e2 u (h2.perm.mem_iff.mp hu)
      obtain ⟨n, hn⟩ := hn
      have hb : SrtO.Stb (ltP k) (out.map backV) xs := by
        rw [e1]
        exact SrtO.Stb.map (ltP_swo k) backV h2
      refine ⟨.ref d, upd H d (.lst (out.map backV)), I.laid (t' := s.toks) kp hd ⟨?_, out, n, vals_back h3, hn⟩, rfl, q _ d hb.perm (SrtO.srtd_map h1) (I.hok.fresh hd)⟩
      rw [hb.len]
      exact hz
end
def SrF (ss : List (Int × Int)) : Prop := ss.Pairwise fun a b => a.1 ≤ b.1
def rSortedPP (K : PySem.W.Frag) : List V → Hp → VK → Prop := fun vs H Q => ∃ (a : Addr) (xs : List V) (rs : List (Int × Int)), vs = [V.ref a] ∧ SqB K H a xs ∧ F2 (RP K H) xs rs ∧
  ∀ ys ss p, F2 (RP K H) ys ss → ss.Perm rs → SrF ss → H p = none → Q (.ref p) (upd H p (.lst ys))
theorem f2_map {β : Type} {R : V → β → Prop} {k : V → β} : ∀ {ys : List V} {ss : List β}, F2 R ys ss → (∀ x ∈ ys, ∀ b, R x b → b = k x) → ss = ys.map k
  | [], [], _, _ => rfl
  | x :: ys, b :: ss, .cons h t, f => by
    rw [List.map_cons, ← f x List.mem_cons_self b h, ← f2_map t fun y hy => f y (List.mem_cons_of_mem x hy)]
section
variable {X : Cx}
theorem sqT_fun {pins : List (Addr × Obj)} {σ : L2.St} {H : Hp} {s : Shared} (I : Inv X pins σ H s) {t : Addr} {a b c d : Int} (h : SqT X.K H t [.int a, .int b]) (h' : SqT X.K H t [.int c, .int d]) : a = c ∧ b = d := by
  obtain ⟨its, r, ⟨o, ho, _, n, hd⟩, _⟩ := I.tuple h
  obtain ⟨its', r', ⟨o', ho', _, n', hd'⟩, _⟩ := I.tuple h'
  rw [ho] at ho'
  cases ho'
  rw [hd] at hd'
  have e : its.toArray = its'.toArray := by
    injection hd'
  have e2 : its = its' := by simpa using e
  subst e2
  obtain ⟨u1, u2, rfl, ⟨t1, e1⟩, ⟨t2, e3⟩⟩ := vals2 r
  obtain ⟨v1, v2, ev, ⟨t3, e4⟩, ⟨t4, e5⟩⟩ := vals2 r'
  cases ev
  rw [e1] at e4
  rw [e3] at e5
  cases e4
  cases e5
  exact ⟨rfl, rfl⟩
theorem cr_sortedPP : CallR X (.builtin "sorted") (rSortedPP X.K) := by
  intro pins s σ H vs us Q I r h
  obtain ⟨a, xs, rs, rfl, hs, hf, q⟩ := h
  refine cr_sortedPS pins s σ H _ us Q I r ⟨a, xs, keyV X.K H, rfl, hs, keyV_all hf, fun ys p pm srt np => ?_⟩
  obtain ⟨ss, ps, fs⟩ := f2_perm pm hf
  refine q ys ss p fs ps ?_ np
  have e : ss = ys.map (keyV X.K H) := f2_map fs fun x hx b hb => by
    obtain ⟨t, ex, ht⟩ := keyV_all fs x hx
    obtain ⟨t', ex', ht'⟩ := hb
    rw [ex] at ex'
    cases ex'
    obtain ⟨h1, h2⟩ := sqT_fun I ht ht'
    exact Prod.ext h1.symm h2.symm
  rw [e]
  refine List.pairwise_map.mpr (srt.imp fun {x y} h => ?_)
  have := SrtO.lexB_no.mp h
  omega
end
section
variable {K : PySem.W.Frag} {σ : L2.St} {H : Hp} {te : TE} {rs : List (Int × Int)}
def Ebp (K : PySem.W.Frag) (te : TE) (σ : L2.St) (H : Hp) (rs : List (Int × Int)) : Prop := ∀ H1, Ex H H1 → ∀ Q : VK, (∀ t xs H2, Ex H1 H2 → SqB K H2 t xs → F2 (RP K H2) xs rs → Q (.ref t) H2) → te σ H1 Q
theorem ebp_v {t : Addr} {xs : List V} (h : Ev te σ H (.ref t)) (hx : SqB K H t xs) (hf : F2 (RP K H) xs rs) : Ebp K te σ H rs := fun H1 e Q q => h H1 e _ fun H2 e2 => q t xs H2 e2 (hx.ex (e.trans e2)) (hf.imp fun x b r => r.ex (e.trans e2))
theorem ebp_f {t : Addr} {xs : List V} (h : Ev te σ H (.ref t)) (hx : SqB K H t xs) (hf : F2 (RP K H) xs rs) : Ebp K te σ H rs := ebp_v h hx hf
theorem evp_srtP (h : Ebp K te σ H rs) : ∀ H1, Ex H H1 → ∀ Q : VK, (∀ D vs ss H2, H1 D = none → Ex H1 H2 → H2 D = some (.lst vs) → F2 (RP K H2) vs ss → ss.Perm rs → SrF ss → Q (.ref D) H2) → tCB (rSortedPP K) (tCons te tNil) σ H1 Q := fun H1 e Q q =>
  h H1 e _ fun t xs H2 e2 hx hf => ⟨t, xs, rs, rfl, hx, hf, fun ys ss p fs pm so np => q p ys ss _ (fresh_back e2 np) (e2.trans (Ex.new np)) upd_same (fs.imp fun x b r => r.ex (Ex.new np)) pm so⟩
end
def rm1 (acc : List (Int × Int)) (p : Int × Int) : List (Int × Int) := putP acc (p.1, (cnt acc p.1).getD 0 + p.2)
def rms (ss : List (Int × Int)) : List (Int × Int) := ss.foldl rm1 []
theorem rms_snoc (ss : List (Int × Int)) (p : Int × Int) : rms (ss ++ [p]) = rm1 (rms ss) p := by
  unfold rms
  rw [List.foldl_append]
  rfl
def manyOf (rs : List (Int × Int)) (s : Int) : Int := (rs.map fun r => if r.1 = s then r.2 else 0).sum
theorem manyOf_snoc (rs : List (Int × Int)) (p : Int × Int) (s : Int) : manyOf (rs ++ [p]) s = manyOf rs s + if p.1 = s then p.2 else 0 := by
  unfold manyOf
  rw [List.map_append, List.sum_append]
  simp
theorem sum_z0 {α : Type} {f : α → Int} : ∀ {l : List α}, (∀ r ∈ l, f r = 0) → (l.map f).sum = 0
  | [], _ => rfl
  | r :: t, h => by
    rw [List.map_cons, List.sum_cons, h r List.mem_cons_self, sum_z0 fun x hx => h x (List.mem_cons_of_mem r hx)]
    rfl
theorem rms_all : ∀ (n : Nat) (ss : List (Int × Int)), ss.length = n → ((rms ss).map Prod.fst).Nodup ∧ (∀ s, s ∈ (rms ss).map Prod.fst ↔ s ∈ ss.map Prod.fst) ∧ (∀ s, cnt (rms ss) s = if s ∈ ss.map Prod.fst then some (manyOf ss s) else none) ∧ (SrF ss → Asc (rms ss)) := by
  intro n
  induction n with
  | zero =>
    intro ss h
    obtain rfl := List.eq_nil_of_length_eq_zero h
    exact ⟨List.nodup_nil, fun s => Iff.rfl, fun s => rfl, fun _ => List.Pairwise.nil⟩
  | succ n ih =>
    intro ss h
    rcases nil_or_snoc ss with rfl | ⟨as, p, rfl⟩
    · cases h
    · rw [List.length_append] at h
      obtain ⟨a, b, c, d⟩ := ih as (Nat.succ.inj h)
      rw [rms_snoc]
      have key : ∀ s, s ∈ (rm1 (rms as) p).map Prod.fst ↔ s ∈ (as ++ [p]).map Prod.fst := fun s => by
        unfold rm1
        rw [putP_mem, b s, List.map_append, List.mem_append]
        simp
      refine ⟨putP_nodup a, key, fun s => ?_, fun hs => ?_⟩
      · unfold rm1
        rw [putP_cnt a]
        show (if s = p.1 then some ((cnt (rms as) p.1).getD 0 + p.2) else cnt (rms as) s) = _
        rw [manyOf_snoc, List.map_append]
        by_cases e : s = p.1
        · subst e
          rw [if_pos rfl, if_pos rfl, if_pos (List.mem_append_right _ (by simp)), c]
          split
          · rfl
          · rename_i no
            have z : manyOf as p.1 = 0 := by
              unfold manyOf
              refine sum_z0 fun r hr => ?_
              exact if_neg fun e => no (List.mem_map.mpr ⟨r, hr, e⟩)
            rw [z]
            rfl
        · rw [if_neg e, if_neg (show ¬ p.1 = s from fun z => e z.symm), c, Int.add_zero]
          have : s ∈ as.map Prod.fst ++ [p].map Prod.fst ↔ s ∈ as.map Prod.fst := by simp [e]
          simp only [this]
      · have hs' := List.pairwise_append.mp hs
        have asc := d hs'.1
        unfold Asc rm1
        rw [putP_fst]
        split
        · exact asc
        · rename_i no
          refine List.pairwise_append.mpr ⟨asc, List.pairwise_singleton _ _, fun x hx y hy => ?_⟩
          obtain rfl := List.mem_singleton.mp hy
          obtain ⟨r, hr, rfl⟩ := List.mem_map.mp ((b x).mp hx)
          have le := hs'.2.2 r hr p (List.mem_singleton.mpr rfl)
          have ne : r.1 ≠ p.1 := fun e => no (e ▸ hx)
          show r.1 < p.1
          omega
theorem rms_eq {ss ts : List (Int × Int)} (h1 : SrF ss) (h2 : SrF ts) (k : ∀ s, s ∈ ss.map Prod.fst ↔ s ∈ ts.map Prod.fst) (m : ∀ s, manyOf ss s = manyOf ts s) : rms ss = rms ts := by
  obtain ⟨a, b, c, d⟩ := rms_all _ ss rfl
  obtain ⟨a', b', c', d'⟩ := rms_all _ ts rfl
  refine asc_unique (d h1) (d' h2) (perm_cnt a a' fun s => ?_)
  rw [c, c', m s]
  simp only [k s]
theorem manyOf_perm {ss ts : List (Int × Int)} (p : ss.Perm ts) (s : Int) : manyOf ss s = manyOf ts s := sum_of_perm (p.map _)
theorem sqT_dict {K : PySem.W.Frag} {d t : Addr} {kvs : List (Key × V)} {u : HO} {xs : List V} {H : Hp} (hd : H d = some (.dK kvs)) (h : SqT K H t xs) : SqT K (upd H d u) t xs := by
  rcases h with (h | ⟨o, h⟩) | h
  · exact .inl (.inl (by rw [upd_ne (fun z => by rw [z, hd] at h; cases h)]; exact h))
  · exact .inl (.inr ⟨o, by rw [upd_ne (fun z => by rw [z, hd] at h; cases h)]; exact h⟩)
  · exact .inr h
theorem numR_le {B : Int} : ∀ {l : List (Int × Int)}, (∀ r ∈ l, r.2 ≤ B) → numR l ≤ l.length * B
  | [], _ => by
    show (0 : Int) ≤ ((0 : Nat) : Int) * B
    omega
  | r :: t, h => by
    have a := numR_le fun x hx => h x (List.mem_cons_of_mem r hx)
    have b := h r List.mem_cons_self
    rw [numR_cons, List.length_cons, Int.natCast_succ, Int.add_mul, Int.one_mul]
    omega
section
variable {K : PySem.W.Frag} {C : Addr} {p : Int → Bool} {H : Hp} {i : Int} {x : V}
end
end Ck

namespace Ck
section
variable {ns : List Int} {U c g : Int → Int}
end
section
variable {N : List Int} {c U g h : Int → Int}
end
end Ck

namespace Ck
open PySem PySem.Spec PyProof.Rows L2
section
variable {P : Program} {w : World} {K : PySem.W.Frag} {mg : Str → Option Value} {base : Heap}
end
end Ck

namespace Ck
section
open PySem PySem.Spec PyProof.Rows L2 StX Evl
end
end Ck

namespace Ck
section
open PySem PySem.Spec PySem.SeqAt
open PySem.AutoSeq1 (wpAny_loadPart')
open PySem.MeetsSeq PySem.MeetsSeq2 PySem.MeetsSeq3 PySem.SeqRoads2
variable {prog : Program} {w : World}
variable {A : Around} {E : Value → Shared → Prop} {s : Shared}
end
open PySem PySem.Spec PyProof.Rows L2 StX Evl
section
variable {X : Cx}
end
section
variable {K : PySem.W.Frag} {σ : L2.St} {H : Hp} {ta tb : TE} {l : Addr} {qs : List (Int × Int)} {L : List (List (Int × Int))} {xs : List V}
end
end Ck

namespace Ck
open PySem PySem.Spec PyProof.Rows L2 StX Evl
section
variable {qs rs fs X : List (Int × Int)}
end
end Ck

namespace Ck
open PySem PySem.Spec PyProof.Rows L2 StX Evl RZ
section
variable {K : PySem.W.Frag} {σ : L2.St} {H : Hp} {d : Addr} {tl te : TE} {tt : TT} {ns : List Int} {j : Nat} {ws : List Nat}
end
section
variable {X : Cx}
end
section
variable {X : Cx}
variable {K : PySem.W.Frag} {σ : L2.St} {H : Hp} {tl te : TE} {l : Addr} {xs : List V} {j : Nat} {ws : List Nat}
end
section
variable {qs ss fs X : List (Int × Int)} {n : Int}
end
end Ck

namespace Ck
open PySem PySem.Spec PyProof.Rows L2 StX Evl
section
variable {N : List Int} {c U h : Int → Int}
end
section
variable {ps qs ss X : List (Int × Int)} {N : List Int} {z n : Int}
end
section
variable {X : Cx} {e : Expr} {te : TE} {p apos cpos pos : Pos}
open LiI
def rItemsR : V → Hp → VK → Prop := fun x H Q => ∃ (d : Addr) (kvs : List (Key × V)), x = .ref d ∧ Rd H d (.dK kvs) ∧
  ∀ (H' : Hp) (p : Addr) (ts : List Addr), (∀ b o, H b = some o → H' b = some o) → H p = none → (∀ t ∈ ts, H t = none) → p ∉ ts → H' p = some (.lst (ts.map V.ref)) → Paired (fun (t : Addr) (q : Key × V) => H' t = some (.tup [kV q.1, q.2])) ts kvs → Q (.ref p) H'
def tListItemsR (te : TE) : TE := fun σ H Q => te σ H fun x H1 => rItemsR x H1 Q
theorem pe_listItemsR (hc : X.calm = true) (he : PE X e te) (hg : Gl X "list") (hm : X.mg "list" = none) (hv : bootBuiltins "list" = some (.type "list")) (hbase : attributeBase e "items" X.env (eval e X.env) = eval e X.env := by rfl) (hline : (apos.endLine == cpos.line) = true := by rfl)
    (hs : starEach [.Call (.Attribute e "items" apos) [] [] cpos] X.env = (false, eval (.Call (.Attribute e "items" apos) [] [] cpos) X.env) :: starEach [] X.env := by rfl) :
    PE X (.Call (.Name "list" p) [.Call (.Attribute e "items" apos) [] [] cpos] [] pos) (tListItemsR te) := by
  refine ⟨fun pins s σ H Q I hq => ?_⟩
  refine wpAny_Call_Name_kw (ld_blt I hg hm hv ?_)
  refine PyProof.Rows.callWith_type1 ?_ hs rfl
  rw [hs]
  show wpAny _ _ (spliced ((false, eval (.Call (.Attribute e "items" apos) [] [] cpos) X.env) :: backTo pos (starEach [] X.env))) _ _ s
  refine Calls.spliced_cons ?_
  refine wpAny_Call_method (T := "dict") (id := "dict.items") hbase rfl hline F.plainAttrs_dict F.slot_dict_items F.type_dict_items (thn (he.run pins s σ H _ I hq) fun u s1 ⟨x, H1, I1, rx, d, kvs, ex, hd, q⟩ => ?_)
  subst ex
  obtain rfl : u = Value.ref d := rx
  obtain ⟨hz, hs0, vs, kv, hdo⟩ := dk_rd I1.hok hd
  obtain ⟨ep, hat⟩ := hdo.dictAt
  have lk : kvs.length = vs.length := Paired.length kv
  have I2 : Inv X pins σ H1 { s1 with heap := s1.heap.push { cls := .type "dict_items", data := .fields #[.ref d] } } := I1.kept (t' := s1.toks) fun b ob q => Heap.get?_push_of_some _ q
  refine ⟨hdo.typeIs, hdo.mapOf.noDict, ?_⟩
  show wpAny _ _ (callWith cpos (.builtin "dict.items") [.ref d] [] []) _ X.xe s1
  refine method_meetsIn F.slot_dict_items F.entry_dict_items rfl (PySem.evalArgs_none ⟨rfl, hdo.typeIs, F.args_dict_items_1 _, _, meets_dict_items (mixKind X.prog X.w) d hs0, ⟨vs, hdo⟩, ?_⟩)
  refine Calls.spliced_nil ?_
  refine PySem.W.kdx_call (knd := mixKind X.prog X.w) (kvs := vs) (ep := ep) (I1.ok.hd hc) ⟨_, Heap.get?_push_size _ rfl, rfl, rfl⟩ (hat.push _) (by omega) fun h' tk acc c as hk hS hl hG hacc => ?_
  obtain ⟨H', k1, k2, k3, k4, k5, k6, J⟩ := items_laid (tk := tk) I2 hz kv hk hS hl hG hacc
  exact ⟨.ref _, H', J, rfl, q H' _ as k1 k2 k3 k4 k5 k6⟩
end
section
variable {K : PySem.W.Frag} {σ : L2.St} {H : Hp} {te tl : TE} {d : Addr} {qs : List (Int × Int)}
theorem evp_itemsR (h : Ev te σ H (.ref d)) (hd : Rd H d (.dK (qs.map kc))) : EvP K (tListItemsR te) σ H qs := fun H1 e Q q => h H1 e _ fun H2 e2 => ⟨d, _, rfl, rd_up (e.trans e2) hd, fun H' p ts e3 hp _ _ hl hr => q p _ H' (fresh_back e2 hp) (e2.trans e3) hl (f2_of_paired hr)⟩
end
section
end
end Ck

namespace Ck
open PySem PySem.Spec PyProof.Rows L2 StX Evl RZ
theorem fnb1 {x qual : Str} {st : Stmt} {ps : List Str} (e : ps.length = 1) (h : ∀ (kV doc pm : Value) (an : Option Addr) (cdv ct : Value) (a0 : Value), bindArgs (PySem.W.fnOf x qual (defArgs st) (defBody st) (defScope st) .none kV doc pm an cdv ct) ⟨[a0], []⟩ = pure (ps.zip [a0])) : ∀ (kV doc pm : Value) (an : Option Addr) (cdv ct : Value) (us : List Value), us.length = ps.length → bindArgs (PySem.W.fnOf x qual (defArgs st) (defBody st) (defScope st) .none kV doc pm an cdv ct) ⟨us, []⟩ = pure (ps.zip us) := by
  intro kV doc pm an cdv ct us hl
  rw [e] at hl
  match us, hl with
  | [a0], _ => exact h kV doc pm an cdv ct a0
theorem fnb2 {x qual : Str} {st : Stmt} {ps : List Str} (e : ps.length = 2) (h : ∀ (kV doc pm : Value) (an : Option Addr) (cdv ct : Value) (a0 a1 : Value), bindArgs (PySem.W.fnOf x qual (defArgs st) (defBody st) (defScope st) .none kV doc pm an cdv ct) ⟨[a0, a1], []⟩ = pure (ps.zip [a0, a1])) : ∀ (kV doc pm : Value) (an : Option Addr) (cdv ct : Value) (us : List Value), us.length = ps.length → bindArgs (PySem.W.fnOf x qual (defArgs st) (defBody st) (defScope st) .none kV doc pm an cdv ct) ⟨us, []⟩ = pure (ps.zip us) := by
  intro kV doc pm an cdv ct us hl
  rw [e] at hl
  match us, hl with
  | [a0, a1], _ => exact h kV doc pm an cdv ct a0 a1
theorem fnb3 {x qual : Str} {st : Stmt} {ps : List Str} (e : ps.length = 3) (h : ∀ (kV doc pm : Value) (an : Option Addr) (cdv ct : Value) (a0 a1 a2 : Value), bindArgs (PySem.W.fnOf x qual (defArgs st) (defBody st) (defScope st) .none kV doc pm an cdv ct) ⟨[a0, a1, a2], []⟩ = pure (ps.zip [a0, a1, a2])) : ∀ (kV doc pm : Value) (an : Option Addr) (cdv ct : Value) (us : List Value), us.length = ps.length → bindArgs (PySem.W.fnOf x qual (defArgs st) (defBody st) (defScope st) .none kV doc pm an cdv ct) ⟨us, []⟩ = pure (ps.zip us) := by
  intro kV doc pm an cdv ct us hl
  rw [e] at hl
  match us, hl with
  | [a0, a1, a2], _ => exact h kV doc pm an cdv ct a0 a1 a2
theorem fnb4 {x qual : Str} {st : Stmt} {ps : List Str} (e : ps.length = 4) (h : ∀ (kV doc pm : Value) (an : Option Addr) (cdv ct : Value) (a0 a1 a2 a3 : Value), bindArgs (PySem.W.fnOf x qual (defArgs st) (defBody st) (defScope st) .none kV doc pm an cdv ct) ⟨[a0, a1, a2, a3], []⟩ = pure (ps.zip [a0, a1, a2, a3])) : ∀ (kV doc pm : Value) (an : Option Addr) (cdv ct : Value) (us : List Value), us.length = ps.length → bindArgs (PySem.W.fnOf x qual (defArgs st) (defBody st) (defScope st) .none kV doc pm an cdv ct) ⟨us, []⟩ = pure (ps.zip us) := by
  intro kV doc pm an cdv ct us hl
  rw [e] at hl
  match us, hl with
  | [a0, a1, a2, a3], _ => exact h kV doc pm an cdv ct a0 a1 a2 a3
end Ck

namespace Ck
open PySem PySem.Spec PyProof.Rows L2 StX Evl RZ
section
open LiI
end
section
variable {prog : Program} {w : World} {KT : Type} [DecidableEq KT] {knd : KeyKind prog w KT} {A : Around} {E : Value → Shared → Prop} {s : Shared} {r d : Addr} {kvs : List (KT × Value)} {ep : Nat}
end
section
variable {X : Cx} {e : Expr} {te : TE} {p apos cpos pos : Pos}
open LiI
end
end Ck

namespace Ck
open PySem PySem.Spec PyProof.Rows L2 StX Evl RZ
section
variable {qs ss os Y : List (Int × Int)}
end
end Ck

namespace Ck
open PySem PySem.Spec PyProof.Rows L2 StX Evl RZ
section
variable {qs ss fs : List (Int × Int)} {z : Int}
end
end Ck

namespace Ck
open PySem PySem.Spec PyProof.Rows L2 StX Evl RZ
theorem el_lcP1L {K : PySem.W.Frag} {tl te : TE} {σ : L2.St} {H : Hp} {a : Addr} {ts : List V} {ps : List (Int × Int)} {j : Nat} {ws : List Nat} (f : Int × Int → V) (h : Ev tl σ H (.ref a)) (ht : SqL K H a ts) (hf : F2 (RP K H) ts ps) (hz : ps.length ≤ 40000)
    (hw : ∀ x, wipe ((wipe σ ws).set j (some x)) ws = wipe σ ws) (he : ∀ p ∈ ps, ∀ x H1, Ex H H1 → RP K H1 x p → Ev te ((wipe σ ws).set j (some x)) H1 (f p)) :
    EvL (tLc (iList K tl) (gName j) tYes te ws) σ H (ps.map f) := fun H0 e0 Q q => h H0 e0 _ fun H1 e1 => ⟨a, rfl, ⟨ts, ex_l (e0.trans e1) ht⟩, fun D hD => by
  have e01 := e0.trans e1
  refine lc_it walk_list (fun i H' => H1 D = none ∧ Ex H1 H' ∧ H' D = some (.lst ((ps.take i).map f))) ⟨hD, Ex.new hD, upd_same⟩ (fun i H' _ p => ex_l (e01.trans p.2.1) ht) ?_ ?_
  · rintro i x H' H2 hi ⟨p1, p2, p3⟩ ⟨rfl, hxi⟩
    obtain ⟨p, hp, hpt⟩ := hf.at hxi
    have m := List.mem_of_getElem? hp
    have st : ps.take (i + 1) = ps.take i ++ [p] := by rw [List.take_add_one, hp]; rfl
    have i12 : i < ps.length := (List.getElem?_eq_some_iff.mp hp).1
    refine ⟨hw _, yes_go (iteT (he p m x H2 (e01.trans p2) (hpt.ex (e01.trans p2)) H2 (Ex.refl _) _ fun H5 e5 => ⟨_, e5 _ _ p3, sz_lt (by rw [List.length_map, List.length_take]; omega), p1, Ex.mut (p2.trans e5) p1, by rw [upd_same, st, List.map_append]; rfl⟩))⟩
  · rintro H' ⟨p1, p2, p3⟩
    rw [hf.len, List.take_of_length_le (Nat.le_refl _)] at p3
    exact q D H' (fresh_back e1 p1) (e1.trans p2) p3⟩
def spUnitsL (K : PySem.W.Frag) : Sp := fun vs H Q _ => ∃ t s xs rs, vs = [.ref t, .int s] ∧ SqL K H t xs ∧ F2 (RP K H) xs rs ∧ rs.length ≤ 2000 ∧ (∀ r ∈ rs, 0 ≤ r.1 ∧ r.1.natAbs < 10 ^ 200 ∧ r.2.natAbs < 10 ^ 200) ∧ 0 < s ∧ s.natAbs < 10 ^ 200 ∧ ∀ H', Ex H H' → Q (.int (unt rs s)) H'
end Ck

namespace Ck
open PySem PySem.Spec PyProof.Rows L2 StX Evl RZ
def cdv (a b : Int) : Int := -((-a) / b)
theorem cdv_le {a b n : Int} (b0 : 0 < b) : cdv a b ≤ n ↔ a ≤ n * b := by
  unfold cdv
  have k := Int.le_ediv_iff_mul_le (a := -n) (b := -a) b0
  rw [Int.neg_mul] at k
  constructor
  · intro h
    have := k.mp (by omega)
    omega
  · intro h
    have := k.mpr (by omega)
    omega
theorem cdv_nn {a b : Int} (b0 : 0 < b) (a0 : 0 ≤ a) : 0 ≤ cdv a b := by
  have h : ¬ cdv a b ≤ -1 := fun h => by
    have := (cdv_le b0).mp h
    omega
  omega
theorem cdv_pos {a b : Int} (b0 : 0 < b) (a0 : 0 < a) : 0 < cdv a b := by
  have h : ¬ cdv a b ≤ 0 := fun h => by
    have := (cdv_le b0).mp h
    omega
  omega
def LeastN (F : Int → Prop) (n : Int) : Prop := 0 ≤ n ∧ ∀ m, 0 ≤ m → (F m ↔ n ≤ m)
theorem LeastN.uniq {F : Int → Prop} {n m : Int} (a : LeastN F n) (b : LeastN F m) : n = m := by
  have h1 := (a.2 m b.1).mp ((b.2 m b.1).mpr (Int.le_refl _))
  have h2 := (b.2 n a.1).mp ((a.2 n a.1).mpr (Int.le_refl _))
  omega
theorem LeastN.congr {F G : Int → Prop} {n : Int} (a : LeastN F n) (h : ∀ m, 0 ≤ m → (F m ↔ G m)) : LeastN G n := ⟨a.1, fun m hm => (h m hm).symm.trans (a.2 m hm)⟩
def mx0 : List Int → Int
  | [] => 0
  | x :: t => if mx0 t ≤ x then x else mx0 t
theorem mx0_nn : ∀ {ns : List Int}, (∀ y ∈ ns, 0 ≤ y) → 0 ≤ mx0 ns
  | [], _ => Int.le_refl 0
  | x :: t, h => by
    have a := mx0_nn fun y hy => h y (List.mem_cons_of_mem _ hy)
    have b := h x List.mem_cons_self
    unfold mx0
    split <;> omega
theorem mx0_le {m : Int} (h0 : 0 ≤ m) : ∀ {ns : List Int}, mx0 ns ≤ m ↔ ∀ y ∈ ns, y ≤ m
  | [] => ⟨fun _ y hy => (nomatch hy), fun _ => h0⟩
  | x :: t => by
    have ih := mx0_le h0 (ns := t)
    rw [List.forall_mem_cons, ← ih]
    have e : mx0 (x :: t) = if mx0 t ≤ x then x else mx0 t := rfl
    rw [e]
    split <;> omega
theorem mx0_mem : ∀ {ns : List Int}, ns ≠ [] → (∀ y ∈ ns, 0 ≤ y) → mx0 ns ∈ ns
  | [], h, _ => (h rfl).elim
  | [x], _, h => by
    have := h x List.mem_cons_self
    unfold mx0 mx0
    rw [if_pos this]
    exact List.mem_cons_self
  | x :: y :: t, _, h => by
    have ih := mx0_mem (ns := y :: t) (fun z => nomatch z) fun z hz => h z (List.mem_cons_of_mem _ hz)
    rw [mx0]
    split
    · exact List.mem_cons_self
    · exact List.mem_cons_of_mem _ ih
theorem least_all {α : Type} {F : α → Int → Prop} {f : α → Int} : ∀ {l : List α}, (∀ x ∈ l, LeastN (F x) (f x)) → LeastN (fun m => ∀ x ∈ l, F x m) (mx0 (l.map f)) := fun {l} h => by
  have nn : ∀ y ∈ l.map f, 0 ≤ y := fun y hy => by
    obtain ⟨x, hx, rfl⟩ := List.mem_map.mp hy
    exact (h x hx).1
  refine ⟨mx0_nn nn, fun m hm => ?_⟩
  rw [mx0_le hm]
  constructor
  · intro k y hy
    obtain ⟨x, hx, rfl⟩ := List.mem_map.mp hy
    exact ((h x hx).2 m hm).mp (k x hx)
  · intro k x hx
    exact ((h x hx).2 m hm).mpr (k _ (List.mem_map_of_mem hx))
theorem unt_1 {r m s : Int} : unt [(r, m)] s = m * (r / s) := by
  unfold unt
  simp
theorem few_one {u r s : Int} (s0 : 0 < s) (sr : s ≤ r) (u0 : 0 ≤ u) : LeastN (fun m => u ≤ unt [(r, m)] s) (cdv u (r / s)) := by
  have k : 0 < r / s := by
    have := (Int.le_ediv_iff_mul_le (a := 1) (b := r) s0).mpr (by omega)
    omega
  exact ⟨cdv_nn k u0, fun m _ => by
    show u ≤ unt [(r, m)] s ↔ _
    rw [unt_1]
    exact (cdv_le k).symm⟩
theorem few_room {u n s : Int} (s0 : 0 < s) (n0 : 0 < n) (u0 : 0 ≤ u) : LeastN (fun r => u ≤ unt [(r, n)] s) (cdv u n * s) := by
  refine ⟨Int.mul_nonneg (cdv_nn n0 u0) (by omega), fun r _ => ?_⟩
  show u ≤ unt [(r, n)] s ↔ _
  rw [unt_1, Int.mul_comm n, ← cdv_le n0, Int.le_ediv_iff_mul_le s0]
def GU (s : Int) : List (Int × Int) → Int → Int
  | [], _ => 0
  | (r, m) :: t, n => if n ≤ m then n * (r / s) else m * (r / s) + GU s t (n - m)
def rwN (s : Int) : List (Int × Int) → Int → Int
  | [], _ => 0
  | (r, m) :: t, left => if left ≤ r / s * m then cdv left (r / s) else m + rwN s t (left - r / s * m)
theorem gu_zero (s : Int) : ∀ {rs : List (Int × Int)}, (∀ r ∈ rs, 0 < r.2) → GU s rs 0 = 0
  | [], _ => rfl
  | (r, m) :: t, h => by
    have := h (r, m) List.mem_cons_self
    unfold GU
    rw [if_pos (by omega), Int.zero_mul]
theorem unt_c (r m s : Int) (t : List (Int × Int)) : unt ((r, m) :: t) s = m * (r / s) + unt t s := by
  unfold unt
  rw [List.map_cons, List.sum_cons]
theorem div_nn {r s : Int} (r0 : 0 ≤ r) (s0 : 0 < s) : 0 ≤ r / s := Int.ediv_nonneg r0 (Int.le_of_lt s0)
theorem rwN_least {s : Int} (s0 : 0 < s) : ∀ {rs : List (Int × Int)} {left : Int}, (∀ r ∈ rs, 0 ≤ r.1 ∧ 0 < r.2) → 0 < left → left ≤ unt rs s → LeastN (fun n => left ≤ GU s rs n) (rwN s rs left) ∧ 0 < rwN s rs left
  | [], left, _, h0, h1 => by
    have : unt [] s = 0 := rfl
    omega
  | (r, m) :: t, left, h, h0, h1 => by
    obtain ⟨r0, m0⟩ := h (r, m) List.mem_cons_self
    have k0 := div_nn (s := s) r0 s0
    rw [unt_c] at h1
    unfold rwN
    by_cases c : left ≤ r / s * m
    · rw [if_pos c]
      have kp : 0 < r / s := by
        rcases Int.lt_or_eq_of_le k0 with k | k
        · exact k
        · rw [← k, Int.zero_mul] at c
          omega
      have cm : cdv left (r / s) ≤ m := (cdv_le kp).mpr (by rw [Int.mul_comm]; exact c)
      refine ⟨⟨cdv_nn kp (by omega), fun n hn => ?_⟩, cdv_pos kp h0⟩
      show left ≤ GU s ((r, m) :: t) n ↔ _
      unfold GU
      by_cases e : n ≤ m
      · rw [if_pos e]
        exact (cdv_le kp).symm
      · rw [if_neg e]
        have g : 0 ≤ GU s t (n - m) := by
          have : ∀ {t : List (Int × Int)}, (∀ r ∈ t, 0 ≤ r.1 ∧ 0 < r.2) → ∀ n, 0 ≤ n → 0 ≤ GU s t n := by
            intro t
            induction t with
            | nil => exact fun _ _ _ => Int.le_refl 0
            | cons p t ih =>
              intro h n hn
              obtain ⟨q0, q1⟩ := h p List.mem_cons_self
              have k := div_nn (s := s) q0 s0
              show 0 ≤ GU s ((p.1, p.2) :: t) n
              unfold GU
              split
              · exact Int.mul_nonneg hn k
              · have := ih (fun r hr => h r (List.mem_cons_of_mem _ hr)) (n - p.2) (by omega)
                have := Int.mul_nonneg (Int.le_of_lt q1) k
                omega
          exact this (fun r hr => h r (List.mem_cons_of_mem _ hr)) _ (by omega)
        have e1 : m * (r / s) = r / s * m := Int.mul_comm _ _
        constructor
        · intro _
          omega
        · intro _
          omega
    · rw [if_neg c]
      have e1 : m * (r / s) = r / s * m := Int.mul_comm _ _
      obtain ⟨⟨i0, ih⟩, ip⟩ := rwN_least s0 (rs := t) (left := left - r / s * m) (fun r hr => h r (List.mem_cons_of_mem _ hr)) (by omega) (by omega)
      refine ⟨⟨by omega, fun n hn => ?_⟩, by omega⟩
      show left ≤ GU s ((r, m) :: t) n ↔ _
      unfold GU
      by_cases e : n ≤ m
      · rw [if_pos e]
        have : n * (r / s) ≤ m * (r / s) := Int.mul_le_mul_of_nonneg_right e k0
        constructor <;> intro _ <;> omega
      · rw [if_neg e]
        have k := ih (n - m) (by omega)
        have k : left - r / s * m ≤ GU s t (n - m) ↔ rwN s t (left - r / s * m) ≤ n - m := k
        constructor
        · intro z
          have := k.mp (by omega)
          omega
        · intro z
          have := k.mpr (by omega)
          omega
def FU (s : Int) (rs : List (Int × Int)) (u : Int) : Int := (rs.map fun r => r.2 * (if r.1 / s ≤ u then r.1 / s else u)).sum
theorem fu_cons (s r m u : Int) (t : List (Int × Int)) : FU s ((r, m) :: t) u = m * (if r / s ≤ u then r / s else u) + FU s t u := by
  unfold FU
  rw [List.map_cons, List.sum_cons]
def numQ (rs : List (Int × Int)) : Int := (rs.map fun r => r.2).sum
def luN (s : Int) : List (Int × Int) → Int → Int
  | [], _ => 0
  | (r, m) :: t, left => if cdv left (m + numQ t) ≤ r / s then cdv left (m + numQ t) else luN s t (left - r / s * m)
theorem numQ_nn : ∀ {rs : List (Int × Int)}, (∀ r ∈ rs, 0 < r.2) → 0 ≤ numQ rs
  | [], _ => Int.le_refl 0
  | (r, m) :: t, h => by
    have a := numQ_nn fun r hr => h r (List.mem_cons_of_mem _ hr)
    have b := h (r, m) List.mem_cons_self
    show 0 ≤ (((r, m) :: t).map fun r => r.2).sum
    rw [List.map_cons, List.sum_cons]
    have : (t.map fun r => r.2).sum = numQ t := rfl
    omega
theorem fu_low {s k u : Int} (uk : u ≤ k) : ∀ {rs : List (Int × Int)}, (∀ r ∈ rs, k ≤ r.1 / s) → FU s rs u = numQ rs * u
  | [], _ => by
    show (0 : Int) = 0 * u
    omega
  | (r, m) :: t, h => by
    have ih := fu_low uk fun r hr => h r (List.mem_cons_of_mem _ hr)
    have b := h (r, m) List.mem_cons_self
    have b : k ≤ r / s := b
    rw [fu_cons, ih]
    have e : numQ ((r, m) :: t) = m + numQ t := by
      unfold numQ
      rw [List.map_cons, List.sum_cons]
    rw [e, Int.add_mul]
    split
    · rw [show r / s = u by omega]
    · rfl
theorem fu_mono {s u v : Int} (uv : u ≤ v) : ∀ {rs : List (Int × Int)}, (∀ r ∈ rs, 0 < r.2) → FU s rs u ≤ FU s rs v
  | [], _ => Int.le_refl 0
  | (r, m) :: t, h => by
    have ih := fu_mono (s := s) uv fun r hr => h r (List.mem_cons_of_mem _ hr)
    have b := h (r, m) List.mem_cons_self
    rw [fu_cons, fu_cons]
    have : m * (if r / s ≤ u then r / s else u) ≤ m * (if r / s ≤ v then r / s else v) := Int.mul_le_mul_of_nonneg_left (by split <;> split <;> omega) (Int.le_of_lt b)
    omega
theorem luN_least {s : Int} (s0 : 0 < s) : ∀ {rs : List (Int × Int)} {left : Int}, (∀ r ∈ rs, 0 ≤ r.1 ∧ 0 < r.2) → rs.Pairwise (fun a b => a.1 / s ≤ b.1 / s) → 0 < left → left ≤ unt rs s → LeastN (fun u => left ≤ FU s rs u) (luN s rs left)
  | [], left, _, _, h0, h1 => by
    have : unt [] s = 0 := rfl
    omega
  | (r, m) :: t, left, h, hp, h0, h1 => by
    obtain ⟨r0, m0⟩ := h (r, m) List.mem_cons_self
    have k0 := div_nn (s := s) r0 s0
    have ht : ∀ r ∈ t, 0 ≤ r.1 ∧ 0 < r.2 := fun r hr => h r (List.mem_cons_of_mem _ hr)
    obtain ⟨hp1, hp2⟩ := List.pairwise_cons.mp hp
    have n0 := numQ_nn fun r hr => (ht r hr).2
    have N0 : 0 < m + numQ t := by omega
    have eN : numQ ((r, m) :: t) = m + numQ t := by
      unfold numQ
      rw [List.map_cons, List.sum_cons]
    have low : ∀ u, u ≤ r / s → FU s ((r, m) :: t) u = (m + numQ t) * u := fun u hu => by
      rw [← eN]
      exact fu_low hu fun q hq => by
        rcases List.mem_cons.mp hq with e | e
        · rw [e]
          exact Int.le_refl _
        · exact hp1 q e
    rw [unt_c] at h1
    unfold luN
    by_cases c : cdv left (m + numQ t) ≤ r / s
    · rw [if_pos c]
      refine ⟨cdv_nn N0 (by omega), fun u hu => ?_⟩
      show left ≤ FU s ((r, m) :: t) u ↔ _
      by_cases e : u ≤ r / s
      · rw [low u e, Int.mul_comm]
        exact (cdv_le N0).symm
      · have a := (cdv_le N0).mp c
        have b := fu_mono (s := s) (u := r / s) (v := u) (by omega) (rs := (r, m) :: t) fun q hq => (h q hq).2
        rw [low _ (Int.le_refl _), Int.mul_comm] at b
        constructor <;> intro _ <;> omega
    · rw [if_neg c]
      have big : r / s * (m + numQ t) < left := Int.not_le.mp fun z => c ((cdv_le N0).mpr z)
      have e1 : m * (r / s) = r / s * m := Int.mul_comm _ _
      have e2 : r / s * (m + numQ t) = r / s * m + r / s * numQ t := Int.mul_add _ _ _
      have e3 : 0 ≤ r / s * numQ t := Int.mul_nonneg k0 n0
      obtain ⟨i0, ih⟩ := luN_least s0 (rs := t) (left := left - r / s * m) ht hp2 (by omega) (by omega)
      refine ⟨i0, fun u hu => ?_⟩
      show left ≤ FU s ((r, m) :: t) u ↔ _
      rw [← ih u hu]
      show left ≤ FU s ((r, m) :: t) u ↔ left - r / s * m ≤ FU s t u
      by_cases e : u ≤ r / s
      · have a := low u e
        have b : FU s t u = numQ t * u := fu_low e hp1
        have c1 : (m + numQ t) * u ≤ (m + numQ t) * (r / s) := Int.mul_le_mul_of_nonneg_left e (Int.le_of_lt N0)
        have c2 : numQ t * u ≤ numQ t * (r / s) := Int.mul_le_mul_of_nonneg_left e n0
        have c3 : (m + numQ t) * (r / s) = r / s * (m + numQ t) := Int.mul_comm _ _
        have c4 : numQ t * (r / s) = r / s * numQ t := Int.mul_comm _ _
        constructor <;> intro _ <;> omega
      · rw [fu_cons, if_pos (by omega)]
        constructor <;> intro _ <;> omega
theorem fu_cap {s c : Int} (s0 : 0 < s) : ∀ (rs : List (Int × Int)), FU s rs (c / s) = unt (rs.map fun r => (if r.1 ≤ c then r.1 else c, r.2)) s
  | [] => rfl
  | (r, m) :: t => by
    rw [fu_cons, fu_cap s0 t, List.map_cons, unt_c]
    congr 2
    by_cases e : r ≤ c
    · rw [if_pos (Int.ediv_le_ediv s0 e)]
      show r / s = (if r ≤ c then r else c) / s
      rw [if_pos e]
    · have := Int.ediv_le_ediv (c := s) s0 (show c ≤ r by omega)
      show _ = (if r ≤ c then r else c) / s
      rw [if_neg e]
      split <;> omega
theorem cap_least {s left : Int} (s0 : 0 < s) {rs : List (Int × Int)} (h : ∀ r ∈ rs, 0 ≤ r.1 ∧ 0 < r.2) (hp : rs.Pairwise (fun a b => a.1 / s ≤ b.1 / s)) (l0 : 0 < left) (l1 : left ≤ unt rs s) :
    LeastN (fun c => left ≤ unt (rs.map fun r => (if r.1 ≤ c then r.1 else c, r.2)) s) (luN s rs left * s) := by
  obtain ⟨a, b⟩ := luN_least s0 h hp l0 l1
  refine ⟨Int.mul_nonneg a (Int.le_of_lt s0), fun c hc => ?_⟩
  show left ≤ unt (rs.map fun r => (if r.1 ≤ c then r.1 else c, r.2)) s ↔ _
  rw [← fu_cap s0, show left ≤ FU s rs (c / s) ↔ _ from b (c / s) (div_nn hc s0), Int.le_ediv_iff_mul_le s0]
end Ck

namespace Ck
open PySem PySem.Spec PyProof.Rows L2 StX Evl RZ
def sD (s : Int) (l : List Int) : Int := (l.map fun x => x / s).sum
theorem sD_app (s : Int) (a b : List Int) : sD s (a ++ b) = sD s a + sD s b := by
  unfold sD
  rw [List.map_append, List.sum_append]
theorem sD_rep (s x : Int) : ∀ n : Nat, sD s (List.replicate n x) = n * (x / s)
  | 0 => by
    show (0 : Int) = _
    simp
  | n + 1 => by
    rw [List.replicate_succ]
    show x / s + sD s (List.replicate n x) = _
    rw [sD_rep s x n, show ((n + 1 : Nat) : Int) = n + 1 from by omega, Int.add_mul]
    omega
theorem exR_cons (r : Int × Int) (t : List (Int × Int)) : exR (r :: t) = List.replicate r.2.toNat r.1 ++ exR t := rfl
theorem exR_app (a b : List (Int × Int)) : exR (a ++ b) = exR a ++ exR b := List.flatMap_append
theorem exR_one (r : Int × Int) : exR [r] = List.replicate r.2.toNat r.1 := by
  rw [exR_cons]
  exact List.append_nil _
theorem unt_ex {s : Int} : ∀ {rs : List (Int × Int)}, (∀ r ∈ rs, 0 ≤ r.2) → unt rs s = sD s (exR rs)
  | [], _ => rfl
  | (r, m) :: t, h => by
    have m0 := h (r, m) List.mem_cons_self
    rw [unt_c, exR_cons, sD_app, sD_rep, unt_ex fun x hx => h x (List.mem_cons_of_mem _ hx)]
    have e : ((m.toNat : Nat) : Int) = m := Int.toNat_of_nonneg m0
    show _ = ((m.toNat : Nat) : Int) * (r / s) + _
    rw [e]
theorem exR_len : ∀ {rs : List (Int × Int)}, (∀ r ∈ rs, 0 ≤ r.2) → ((exR rs).length : Int) = numR rs
  | [], _ => rfl
  | (r, m) :: t, h => by
    have m0 : 0 ≤ m := h (r, m) List.mem_cons_self
    have ih := exR_len fun x hx => h x (List.mem_cons_of_mem _ hx)
    rw [exR_cons, List.length_append, List.length_replicate, numR_cons]
    show ((m.toNat + (exR t).length : Nat) : Int) = m + numR t
    omega
theorem exR_rev : ∀ (rs : List (Int × Int)), exR rs.reverse = (exR rs).reverse
  | [] => rfl
  | r :: t => by rw [List.reverse_cons, exR_app, exR_rev t, exR_one, exR_cons, List.reverse_append, List.reverse_replicate]
theorem exR_perm {a b : List (Int × Int)} (p : a.Perm b) : (exR a).Perm (exR b) := by
  induction p with
  | nil => exact List.Perm.refl _
  | cons x _ ih => exact List.Perm.append_left _ ih
  | swap x y l =>
    rw [exR_cons, exR_cons, exR_cons, exR_cons, ← List.append_assoc, ← List.append_assoc]
    exact List.Perm.append_right _ List.perm_append_comm
  | trans _ _ i j => exact i.trans j
theorem rep_add (x : Int) {a b : Int} (ha : 0 ≤ a) (hb : 0 ≤ b) : List.replicate (a + b).toNat x = List.replicate a.toNat x ++ List.replicate b.toNat x := by
  rw [List.replicate_append_replicate]
  congr 1
  omega
theorem exR_jn1 {acc : List (Int × Int)} {r : Int × Int} (h : ∀ x ∈ acc, 0 ≤ x.2) (hr : 0 ≤ r.2) : exR (jn1 acc r) = exR acc ++ List.replicate r.2.toNat r.1 := by
  rcases nil_or_snoc acc with rfl | ⟨as, l, rfl⟩
  · exact exR_one r
  · have hl := h l (List.mem_append_right _ (List.mem_singleton.mpr rfl))
    unfold jn1
    rw [List.getLast?_append]
    show exR (if l.1 = r.1 then (as ++ [l]).dropLast ++ [(r.1, l.2 + r.2)] else (as ++ [l]) ++ [r]) = _
    split
    · rename_i e
      rw [List.dropLast_concat, exR_app, exR_app, exR_one, exR_one, List.append_assoc, e]
      show _ ++ List.replicate (l.2 + r.2).toNat r.1 = _
      rw [rep_add r.1 hl hr]
    · rw [exR_app, exR_one]
theorem exR_jr {rs : List (Int × Int)} (h : ∀ r ∈ rs, 0 ≤ r.2) : exR (jr rs) = exR rs := by
  have key : ∀ n (rs : List (Int × Int)), rs.length = n → (∀ r ∈ rs, 0 ≤ r.2) → exR (jr rs) = exR rs := by
    intro n
    induction n with
    | zero =>
      intro rs e _
      obtain rfl := List.eq_nil_of_length_eq_zero e
      rfl
    | succ n ih =>
      intro rs e h
      rcases nil_or_snoc rs with rfl | ⟨as, p, rfl⟩
      · rfl
      · rw [List.length_append] at e
        have ha : ∀ r ∈ as, 0 ≤ r.2 := fun r hr => h r (List.mem_append_left _ hr)
        rw [jr_snoc, exR_jn1 (jr_all (P := fun r => 0 ≤ r.2) (fun a b c x y => by show (0 : Int) ≤ b + c; have x : 0 ≤ b := x; have y : 0 ≤ c := y; omega) ha) (h p (List.mem_append_right _ (List.mem_singleton.mpr rfl))), ih as (Nat.succ.inj e) ha, exR_app, exR_one]
  exact key _ rs rfl h
theorem exR_mem {rs : List (Int × Int)} {x : Int} (h : x ∈ exR rs) : ∃ r ∈ rs, x = r.1 := by
  obtain ⟨r, hr, hx⟩ := List.mem_flatMap.mp h
  exact ⟨r, hr, List.eq_of_mem_replicate hx⟩
theorem exR_srt : ∀ {ss : List (Int × Int)}, SrF ss → (exR ss).Pairwise (· ≤ ·)
  | [], _ => List.Pairwise.nil
  | r :: t, h => by
    obtain ⟨h1, h2⟩ := List.pairwise_cons.mp h
    rw [exR_cons]
    refine List.pairwise_append.mpr ⟨List.pairwise_replicate.mpr (.inr (Int.le_refl _)), exR_srt h2, fun x hx y hy => ?_⟩
    obtain ⟨q, hq, rfl⟩ := exR_mem hy
    rw [List.eq_of_mem_replicate hx]
    exact h1 q hq
theorem exR_count {x : Int} : ∀ {rs : List (Int × Int)}, (∀ r ∈ rs, 0 ≤ r.2) → ((exR rs).count x : Int) = manyOf rs x
  | [], _ => rfl
  | (r, m) :: t, h => by
    have m0 : 0 ≤ m := h (r, m) List.mem_cons_self
    have ih := exR_count (x := x) fun x hx => h x (List.mem_cons_of_mem _ hx)
    rw [exR_cons, List.count_append, List.count_replicate]
    have e : manyOf ((r, m) :: t) x = (if r = x then m else 0) + manyOf t x := by
      unfold manyOf
      rw [List.map_cons, List.sum_cons]
    rw [e]
    show (((if r == x then m.toNat else 0) + (exR t).count x : Nat) : Int) = _
    by_cases c : r = x
    · rw [if_pos c, if_pos (beq_iff_eq.mpr c)]
      omega
    · rw [if_neg c, if_neg (by rw [beq_iff_eq]; exact c)]
      omega
theorem manyOf_cz : ∀ {rs : List (Int × Int)} {x : Int}, (rs.map Prod.fst).Nodup → manyOf rs x = (cnt rs x).getD 0
  | [], _, _ => rfl
  | (r, m) :: t, x, h => by
    obtain ⟨n1, n2⟩ := List.nodup_cons.mp h
    have e : manyOf ((r, m) :: t) x = (if r = x then m else 0) + manyOf t x := by
      unfold manyOf
      rw [List.map_cons, List.sum_cons]
    rw [e, manyOf_cz n2]
    show _ = (if r = x then some m else cnt t x).getD 0
    by_cases c : r = x
    · rw [if_pos c, if_pos c]
      have z := cz_none (t := t) (x := x) (c ▸ n1)
      unfold cz at z
      rw [z]
      exact Int.add_zero m
    · rw [if_neg c, if_neg c, Int.zero_add]
theorem rms_pos {ss : List (Int × Int)} (h : ∀ r ∈ ss, 0 < r.2) : ∀ r ∈ rms ss, (∃ q ∈ ss, r.1 = q.1) ∧ 0 < r.2 ∧ r.2 ≤ numR ss := fun r hr => by
  obtain ⟨a, b, c, _⟩ := rms_all _ ss rfl
  have m := (cnt_mem a).mp hr
  have k := (b r.1).mp (List.mem_map_of_mem hr)
  rw [c r.1, if_pos k] at m
  have m := Option.some.inj m
  obtain ⟨q, hq, e⟩ := List.mem_map.mp k
  refine ⟨⟨q, hq, e.symm⟩, ?_, ?_⟩
  · rw [← m, ← exR_count fun r hr => Int.le_of_lt (h r hr)]
    have : 0 < (exR ss).count r.1 := List.count_pos_iff.mpr (List.mem_flatMap.mpr ⟨q, hq, List.mem_replicate.mpr ⟨by have := h q hq; omega, e.symm⟩⟩)
    omega
  · rw [← m, ← exR_count fun r hr => Int.le_of_lt (h r hr), ← exR_len fun r hr => Int.le_of_lt (h r hr)]
    have := List.count_le_length (a := r.1) (l := exR ss)
    omega
theorem exR_rms {ss : List (Int × Int)} (h : SrF ss) (pos : ∀ r ∈ ss, 0 < r.2) : exR (rms ss) = exR ss := by
  obtain ⟨a, b, c, d⟩ := rms_all _ ss rfl
  have asc := d h
  have rp := rms_pos pos
  refine srt_unique (exR_srt ?_) (exR_srt h) ?_
  · exact (List.pairwise_map.mp asc).imp fun h => Int.le_of_lt h
  · rw [List.perm_iff_count]
    intro x
    have e1 := exR_count (x := x) fun r hr => Int.le_of_lt (rp r hr).2.1
    have e2 := exR_count (x := x) fun r hr => Int.le_of_lt (pos r hr)
    rw [manyOf_cz a, c x] at e1
    by_cases k : x ∈ ss.map Prod.fst
    · rw [if_pos k] at e1
      have e1 : _ = manyOf ss x := e1
      omega
    · rw [if_neg k] at e1
      have e1 : _ = (0 : Int) := e1
      have z : manyOf ss x = 0 := sum_z0 fun r hr => if_neg fun e => k (List.mem_map.mpr ⟨r, hr, e⟩)
      omega
theorem gu_ex {s : Int} : ∀ {rs : List (Int × Int)} {n : Int}, (∀ r ∈ rs, 0 < r.2) → 0 ≤ n → GU s rs n = sD s ((exR rs).take n.toNat)
  | [], n, _, _ => by
    show (0 : Int) = sD s (([] : List Int).take n.toNat)
    rw [List.take_nil]
    rfl
  | (r, m) :: t, n, h, n0 => by
    have m0 : 0 < m := h (r, m) List.mem_cons_self
    rw [exR_cons, List.take_append, List.take_replicate, sD_app, sD_rep, List.length_replicate]
    show _ = ((min n.toNat m.toNat : Nat) : Int) * (r / s) + sD s ((exR t).take (n.toNat - m.toNat))
    unfold GU
    split
    · rename_i c
      rw [show n.toNat - m.toNat = 0 from by omega, List.take_zero, show ((min n.toNat m.toNat : Nat) : Int) = n from by omega]
      exact (Int.add_zero _).symm
    · rename_i c
      rw [gu_ex (fun x hx => h x (List.mem_cons_of_mem _ hx)) (by omega), show ((min n.toNat m.toNat : Nat) : Int) = m from by omega, show (n - m).toNat = n.toNat - m.toNat from by omega]
theorem exR_prt {f l : Int} (fl : f ≤ l) : ∀ {rs : List (Int × Int)} {s : Int}, (∀ r ∈ rs, 0 < r.2) → 0 ≤ s → exR (prt s f l rs) = ((exR rs).take (l - s).toNat).drop (f - s).toNat
  | [], s, _, _ => by
    show [] = (([] : List Int).take _).drop _
    rw [List.take_nil, List.drop_nil]
  | (r, m) :: t, s, h, s0 => by
    have m0 : 0 < m := h (r, m) List.mem_cons_self
    have ih := exR_prt fl (rs := t) (s := s + m) (fun x hx => h x (List.mem_cons_of_mem _ hx)) (by omega)
    have e : prt s f l ((r, m) :: t) = (if mny s m f l > 0 then [(r, mny s m f l)] else []) ++ prt (s + m) f l t := rfl
    rw [e, exR_app, ih, exR_cons, List.take_append, List.take_replicate, List.drop_append, List.drop_replicate, List.length_replicate, List.length_replicate]
    show _ = List.replicate (min (l - s).toNat m.toNat - (f - s).toNat) r ++ List.drop ((f - s).toNat - min (l - s).toNat m.toNat) (List.take ((l - s).toNat - m.toNat) (exR t))
    have a := mny_f s m f l
    generalize mny s m f l = A at *
    congr 1
    · split
      · rw [exR_one]
        show List.replicate A.toNat r = _
        congr 1
        omega
      · show [] = _
        rw [show min (l - s).toNat m.toNat - (f - s).toNat = 0 from by omega]
        rfl
    · rw [show (l - (s + m)).toNat = (l - s).toNat - m.toNat from by omega]
      by_cases c : m ≤ l - s
      · congr 1
        omega
      · rw [show (l - s).toNat - m.toNat = 0 from by omega, List.take_zero, List.drop_nil, List.drop_nil]
theorem exR_map {g : Int → Int} : ∀ (rs : List (Int × Int)), exR (rs.map fun r => (g r.1, r.2)) = (exR rs).map g
  | [] => rfl
  | r :: t => by
    rw [List.map_cons, exR_cons, exR_cons, List.map_append, List.map_replicate, exR_map t]
theorem exR_sorted {ss rs : List (Int × Int)} (h : SrF ss) (p : ss.Perm rs) : exR ss = srtI (exR rs) := srtI_of (exR_perm p) (exR_srt h)
end Ck

namespace Ck
open PySem PySem.Spec PyProof.Rows L2 StX Evl RZ
section
variable {K : PySem.W.Frag} {σ : L2.St} {H : Hp} {tl te ta tb tc : TE} {tt : TT} {ns : List Int} {qs : List (Int × Int × Int)} {j j1 j2 j3 : Nat} {ws : List Nat} {ps rs ss : List (Int × Int)}
theorem et_yes : EvT tYes σ H true := fun H1 _ Q q => q H1 (Ex.refl H1)
theorem evp_lcT3 (f : Int × Int × Int → Int × Int) (h : ∀ H1, Ex H H1 → ∀ Q : VK, (∀ t ts H2, Ex H1 H2 → SqT K H2 t ts → F2 (RT3 K H2) ts qs → Q (.ref t) H2) → tl σ H1 Q) (hz : qs.length ≤ 40000)
    (hw : ∀ x y z, wipe ((((wipe σ ws).set j1 (some x)).set j2 (some y)).set j3 (some z)) ws = wipe σ ws)
    (he : ∀ q ∈ qs, ∀ H1, Ex H H1 → EvR (RP K) te ((((wipe σ ws).set j1 (some (.int q.1))).set j2 (some (.int q.2.1))).set j3 (some (.int q.2.2))) H1 (f q)) :
    EvP K (tLc (iTup K tl) (gTup K 3 (gCons (gName j1) (gCons (gName j2) (gCons (gName j3) gNil)))) tYes te ws) σ H (qs.map f) := fun H0 e0 Q q => h H0 e0 _ fun l ts H1 e1 hl hf => ⟨l, rfl, ⟨ts, hl⟩, fun D hD => by
  have e01 := e0.trans e1
  refine lc_it walk_tup (fun i H' => H1 D = none ∧ Ex H1 H' ∧ ∃ vs, H' D = some (.lst vs) ∧ vs.length ≤ i ∧ F2 (RP K H') vs ((qs.take i).map f)) ⟨hD, Ex.new hD, [], upd_same, Nat.le_refl _, .nil⟩ (fun i H' _ p => ex_t p.2.1 hl) ?_ ?_
  · rintro i x H' H2 hi ⟨p1, p2, vs, p3, p4, p5⟩ ⟨rfl, hxi⟩
    obtain ⟨p, hp, t, rfl, hpt⟩ := hf.at hxi
    have m := List.mem_of_getElem? hp
    have st : qs.take (i + 1) = qs.take i ++ [p] := by rw [List.take_add_one, hp]; rfl
    have i12 : i < qs.length := (List.getElem?_eq_some_iff.mp hp).1
    refine ⟨t, _, rfl, ex_t p2 hpt, rfl, _, _, rfl, _, _, rfl, _, _, rfl, rfl, hw _ _ _, ?_⟩
    refine et_yes H2 (Ex.refl _) _ fun H4 e4 => iteT (he p m H4 ((e01.trans p2).trans e4) H4 (Ex.refl _) _ fun v H5 e5' hv => ?_)
    have e5 := e4.trans e5'
    refine (⟨vs, e5 _ _ p3, sz_lt (by omega), p1, Ex.mut (p2.trans e5) p1, vs ++ [v], upd_same, by rw [List.length_append]; exact Nat.succ_le_succ p4, ?_⟩)
    have hD5 : H5 D = some (.lst vs) := e5 _ _ p3
    rw [st, List.map_append]
    exact ((p5.imp fun x b r => RP.upd hD5 (r.ex e5)).app (.cons (RP.upd hD5 hv) .nil))
  · rintro H' ⟨p1, p2, vs, p3, _, p5⟩
    rw [hf.len, List.take_of_length_le (Nat.le_refl _)] at p5
    exact q D vs H' (fresh_back e1 p1) (e1.trans p2) p3 p5⟩
theorem evp_rev (h : EvP K te σ H ps) : EvP K (tRevL K te) σ H ps.reverse := fun H1 e Q q => h H1 e _ fun p xs H2 n2 e2 hp hf => ⟨p, xs, rfl, SqL.of hp, fun l nl => q l _ _ (fresh_back e2 nl) (e2.trans (Ex.new nl)) upd_same ((F2.rev hf).imp fun x b r => r.ex (Ex.new nl))⟩
end
theorem SqL.fz {K : PySem.W.Frag} {d a : Addr} {kvs : List (Key × V)} {xs : List V} {H H1 : Hp} (h : Fz d (.dK kvs) H H1) (hd : H d = some (.dK kvs)) (t : SqL K H a xs) : SqL K H1 a xs := by
  rcases t with (t | ⟨o, t⟩) | t
  · exact .inl (.inl (h.1 a _ (fun e => by rw [e, hd] at t; cases t) t))
  · exact .inl (.inr ⟨o, h.1 a _ (fun e => by rw [e, hd] at t; cases t) t⟩)
  · exact .inr t
theorem rp_fz {K : PySem.W.Frag} {d : Addr} {kvs : List (Key × V)} {vs : List V} {rs : List (Int × Int)} {H H1 : Hp} (h : Fz d (.dK kvs) H H1) (hd : H d = some (.dK kvs)) (t : F2 (RP K H) vs rs) : F2 (RP K H1) vs rs := t.imp fun x b r => by
  obtain ⟨t, e, k⟩ := r
  exact ⟨t, e, h.t hd k⟩
theorem el_listD {te : TE} {σ : L2.St} {H : Hp} {d : Addr} {ps : List (Int × Int)} (h : Ev te σ H (.ref d)) (hd : Rd H d (.dK (ps.map kc))) : EvL (tCB (fun xs H Q => ∃ (a : Addr) (kvs : List (Key × V)), xs = [.ref a] ∧ Rd H a (.dK kvs) ∧ ∀ p, H p = none → Q (.ref p) (upd H p (.lst (kvs.map fun kv => kV kv.1)))) (tCons te tNil)) σ H ((ps.map Prod.fst).map V.int) := fun H1 e Q q => h H1 e _ fun H2 e2 => ⟨d, _, rfl, rd_up (e.trans e2) hd, fun p np => q p _ (fresh_back e2 np) (e2.trans (Ex.new np)) (by
  rw [upd_same, List.map_map, List.map_map]
  rfl)⟩
def IsFr (ps : List (Int × Int)) (r n : Int) : Prop := LeastN (fun m => ∀ p ∈ ps, unt ps p.1 ≤ unt [(r, m)] p.1) n
def IsRm (ps : List (Int × Int)) (n r : Int) : Prop := LeastN (fun m => ∀ p ∈ ps, unt ps p.1 ≤ unt [(m, n)] p.1) r
def IsFo (ps rs : List (Int × Int)) (n : Int) : Prop := LeastN (fun m => ∀ p ∈ ps, unt ps p.1 ≤ sD p.1 ((srtI (exR rs)).reverse.take m.toNat)) n
def capI (c x : Int) : Int := if x < c then x else c
def IsCp (ps rs : List (Int × Int)) (n : Int) : Prop := LeastN (fun c => ∀ p ∈ ps, unt ps p.1 ≤ sD p.1 ((exR rs).map (capI c))) n
theorem own_pos {ps : List (Int × Int)} (ct : Cts ps) {p : Int × Int} (hp : p ∈ ps) : 0 < p.1 ∧ 0 < unt ps p.1 := by
  have z := (siz_int (ct.ok p hp).1).1
  have key : ∀ {l : List (Int × Int)}, (∀ q ∈ l, 0 ≤ q.1 ∧ 0 < q.2) → p ∈ l → 0 < unt l p.1 := by
    intro l
    induction l with
    | nil => intro _ h; cases h
    | cons q t ih =>
      intro h hm
      obtain ⟨q0, q1⟩ := h q List.mem_cons_self
      have nn : 0 ≤ unt t p.1 := unt_nn z fun r hr => by
        obtain ⟨a, b⟩ := h r (List.mem_cons_of_mem _ hr)
        exact ⟨a, Int.le_of_lt b⟩
      rw [unt_cons]
      rcases List.mem_cons.mp hm with e | m
      · subst e
        rw [Int.ediv_self (Int.ne_of_gt z), Int.mul_one]
        omega
      · have := ih (fun r hr => h r (List.mem_cons_of_mem _ hr)) m
        have := Int.mul_nonneg (Int.le_of_lt q1) (div_nn q0 z)
        omega
  exact ⟨z, key (fun q hq => ⟨Int.le_of_lt (siz_int (ct.ok q hq).1).1, (siz_int (ct.ok q hq).2).1⟩) hp⟩
theorem fr_is {ps : List (Int × Int)} (ct : Cts ps) {r : Int} (hr : ∀ p ∈ ps, p.1 ≤ r) : IsFr ps r (mx0 (ps.map fun p => cdv (unt ps p.1) (r / p.1))) :=
  least_all fun p hp => few_one (own_pos ct hp).1 (hr p hp) (Int.le_of_lt (own_pos ct hp).2)
theorem rm_is {ps : List (Int × Int)} (ct : Cts ps) {n : Int} (n0 : 0 < n) : IsRm ps n (mx0 (ps.map fun p => cdv (unt ps p.1) n * p.1)) :=
  least_all fun p hp => few_room (own_pos ct hp).1 n0 (Int.le_of_lt (own_pos ct hp).2)
theorem sto_ss {rs ss : List (Int × Int)} (so : StoOk rs) (p : ss.Perm rs) : ∀ r ∈ ss, 0 < r.1 ∧ r.1.natAbs < 10 ^ 200 ∧ 0 < r.2 ∧ r.2.natAbs < 10 ^ 200 := fun r hr => by
  obtain ⟨a, b, c⟩ := so.ok r (p.mem_iff.mp hr)
  exact ⟨(siz_int a).1, siz_nat a, b, c⟩
theorem rms_unt {ss : List (Int × Int)} (h : SrF ss) (pos : ∀ r ∈ ss, 0 < r.2) (s : Int) : unt (rms ss) s = unt ss s := by
  rw [unt_ex fun r hr => Int.le_of_lt (rms_pos pos r hr).2.1, exR_rms h pos, ← unt_ex fun r hr => Int.le_of_lt (pos r hr)]
theorem fo_is {ps rs ss : List (Int × Int)} (ct : Cts ps) (so : StoOk rs) (pm : ss.Perm rs) (h : SrF ss) (hf : ∀ p ∈ ps, unt ps p.1 ≤ unt rs p.1) : IsFo ps rs (mx0 (ps.map fun p => rwN p.1 (rms ss).reverse (unt ps p.1))) := by
  have pos : ∀ r ∈ ss, 0 < r.2 := fun r hr => (sto_ss so pm r hr).2.2.1
  have rp := rms_pos pos
  have e : ∀ m : Int, 0 ≤ m → ∀ s, GU s (rms ss).reverse m = sD s ((srtI (exR rs)).reverse.take m.toNat) := fun m hm s => by
    rw [gu_ex (fun r hr => (rp r (List.mem_reverse.mp hr)).2.1) hm, exR_rev, exR_rms h pos, exR_sorted h pm]
  refine LeastN.congr (least_all (F := fun p m => unt ps p.1 ≤ GU p.1 (rms ss).reverse m) fun p hp => (rwN_least (own_pos ct hp).1 (fun r hr => ?_) (own_pos ct hp).2 ?_).1) fun m hm => forall_congr' fun p => by rw [e m hm]
  · obtain ⟨⟨q, hq, e⟩, b, _⟩ := rp r (List.mem_reverse.mp hr)
    exact ⟨by rw [e]; exact Int.le_of_lt (sto_ss so pm q hq).1, b⟩
  · rw [unt_perm (List.reverse_perm _), rms_unt h pos, unt_perm pm]
    exact hf p hp
theorem capI_le (c x : Int) : (if x ≤ c then x else c) = capI c x := by
  unfold capI
  split <;> split <;> omega
theorem cp_is {ps rs ss : List (Int × Int)} (ct : Cts ps) (so : StoOk rs) (pm : ss.Perm rs) (h : SrF ss) (hf : ∀ p ∈ ps, unt ps p.1 ≤ unt rs p.1) : IsCp ps rs (mx0 (ps.map fun p => luN p.1 (rms ss) (unt ps p.1) * p.1)) := by
  have pos : ∀ r ∈ ss, 0 < r.2 := fun r hr => (sto_ss so pm r hr).2.2.1
  have rp := rms_pos pos
  have asc := (rms_all _ ss rfl).2.2.2 h
  have e : ∀ c s : Int, unt ((rms ss).map fun r => (if r.1 ≤ c then r.1 else c, r.2)) s = sD s ((exR rs).map (capI c)) := fun c s => by
    have f : ((rms ss).map fun r => (if r.1 ≤ c then r.1 else c, r.2)) = (rms ss).map fun r => (capI c r.1, r.2) := List.map_congr_left fun r _ => by rw [capI_le]
    rw [f, unt_ex (fun r hr => by
      obtain ⟨q, hq, rfl⟩ := List.mem_map.mp hr
      exact Int.le_of_lt (rp q hq).2.1), exR_map, exR_rms h pos]
    unfold sD
    exact sum_of_perm (((exR_perm pm).map _).map _)
  refine LeastN.congr (least_all (F := fun p c => unt ps p.1 ≤ unt ((rms ss).map fun r => (if r.1 ≤ c then r.1 else c, r.2)) p.1) fun p hp => cap_least (own_pos ct hp).1 (fun r hr => ?_) ?_ (own_pos ct hp).2 ?_) fun m hm => forall_congr' fun p => by rw [e m]
  · obtain ⟨⟨q, hq, e⟩, b, _⟩ := rp r hr
    exact ⟨by rw [e]; exact Int.le_of_lt (sto_ss so pm q hq).1, b⟩
  · exact (List.pairwise_map.mp asc).imp fun h => Int.ediv_le_ediv (own_pos ct hp).1 (Int.le_of_lt h)
  · rw [rms_unt h pos, unt_perm pm]
    exact hf p hp
theorem evr_p2 {K : PySem.W.Frag} {σ : L2.St} {H : Hp} {ta tb : TE} {a b : Int} (ha : Evl.Ev ta σ H (.int a)) (hb : Evl.Ev tb σ H (.int b)) : EvR (RP K) (tTup (tCons ta (tCons tb tNil))) σ H (a, b) := evr_pair ha hb
def srtR (rs : List (Int × Int)) : List (Int × Int) := rs.mergeSort fun a b => decide (a.1 ≤ b.1)
theorem srtR_perm (rs : List (Int × Int)) : (srtR rs).Perm rs := List.mergeSort_perm rs _
theorem srtR_srt (rs : List (Int × Int)) : SrF (srtR rs) := by
  have z := List.pairwise_mergeSort (le := fun a b : Int × Int => decide (a.1 ≤ b.1)) (fun a b c h1 h2 => decide_eq_true (Int.le_trans (of_decide_eq_true h1) (of_decide_eq_true h2))) (fun a b => by
    rcases Int.le_total a.1 b.1 with h | h
    · rw [decide_eq_true h]; rfl
    · rw [decide_eq_true h, Bool.or_true]) rs
  exact z.imp fun h => of_decide_eq_true h
def RMs (rs : List (Int × Int)) : List (Int × Int) := rms (srtR rs)
theorem rms_RM {ss rs : List (Int × Int)} (p : ss.Perm rs) (h : SrF ss) : rms ss = RMs rs :=
  rms_eq h (srtR_srt rs) (fun s => ((p.trans (srtR_perm rs).symm).map Prod.fst).mem_iff) (manyOf_perm (p.trans (srtR_perm rs).symm))
theorem RM_ok {rs : List (Int × Int)} (so : StoOk rs) : ∀ r ∈ RMs rs, 0 < r.1 ∧ r.1.natAbs < 10 ^ 200 ∧ 0 < r.2 ∧ r.2 ≤ numR rs := fun r hr => by
  obtain ⟨⟨q, hq, e⟩, b, c⟩ := rms_pos (fun r hr => (sto_ss so (srtR_perm rs) r hr).2.2.1) r hr
  obtain ⟨x, y, _⟩ := sto_ss so (srtR_perm rs) q hq
  rw [e]
  exact ⟨x, y, b, by
    have z : numR (srtR rs) = numR rs := sum_of_perm ((srtR_perm rs).map _)
    omega⟩
theorem RM_num {rs : List (Int × Int)} (so : StoOk rs) : numQ (RMs rs) = numR rs := by
  have pos : ∀ r ∈ srtR rs, 0 < r.2 := fun r hr => (sto_ss so (srtR_perm rs) r hr).2.2.1
  have a := exR_len (rs := RMs rs) fun r hr => Int.le_of_lt (RM_ok so r hr).2.2.1
  rw [show exR (RMs rs) = exR (srtR rs) from exR_rms (srtR_srt rs) pos, exR_len fun r hr => Int.le_of_lt (pos r hr)] at a
  have z : numR (srtR rs) = numR rs := sum_of_perm ((srtR_perm rs).map _)
  show numR (RMs rs) = _
  omega
theorem lu_le {s B : Int} (b0 : 0 ≤ B) : ∀ {rs : List (Int × Int)} {left : Int}, (∀ r ∈ rs, r.1 / s ≤ B) → luN s rs left ≤ B
  | [], _, _ => b0
  | (r, m) :: t, left, h => by
    unfold luN
    have a := h (r, m) List.mem_cons_self
    split
    · exact Int.le_trans (by assumption) a
    · exact lu_le b0 fun x hx => h x (List.mem_cons_of_mem _ hx)
end Ck

namespace Ck
open PySem PySem.Spec PyProof.Rows L2 StX Evl RZ
structure Alk (ns : List Int) (L : Int) (ps : List (Int × Int)) : Prop where
  ch : Chd ns L
  ln : ns.length ≤ 6
  lL : L < 10 ^ 27
  lc : LotC ps
  sub : ∀ p ∈ ps, p.1 ∈ ns ∧ 0 < p.2 ∧ p.2 ≤ 10 ^ 31
theorem LeastN.at {F : Int → Prop} {n : Int} (h : LeastN F n) : F n := (h.2 n h.1).mpr (Int.le_refl _)
theorem LeastN.le {F : Int → Prop} {n m : Int} (h : LeastN F n) (m0 : 0 ≤ m) (f : F m) : n ≤ m := (h.2 m m0).mp f
theorem LeastN.no {F : Int → Prop} {n m : Int} (h : LeastN F n) (m0 : 0 ≤ m) (c : m < n) : ¬ F m := fun f => by
  have := h.le m0 f
  omega
theorem Alk.isc {ns : List Int} {L : Int} {qs : List (Int × Int)} (h : Alk ns L qs) : IsC ns := chd_isc h.ch h.ln h.lL
theorem Alk.pws {ns : List Int} {L : Int} {qs : List (Int × Int)} (h : Alk ns L qs) : Pws ns := ⟨h.ch.pw, fun n hn => (h.ch.pos n hn).1⟩
theorem Alk.sz {ns : List Int} {L : Int} {ps : List (Int × Int)} (h : Alk ns L ps) {p : Int × Int} (hp : p ∈ ps) : 0 < p.1 ∧ p.1 ≤ L := by
  obtain ⟨a, b, _⟩ := h.ch.pos p.1 (h.sub p hp).1
  exact ⟨a, b⟩
theorem unt_leB {A C s : Int} (s0 : 0 < s) (A0 : 0 ≤ A) (C0 : 0 ≤ C) : ∀ {l : List (Int × Int)}, (∀ r ∈ l, 0 ≤ r.1 ∧ r.1 ≤ A ∧ 0 ≤ r.2 ∧ r.2 ≤ C) → unt l s ≤ l.length * (C * A)
  | [], _ => by
    show (0 : Int) ≤ 0 * _
    rw [Int.zero_mul]
    exact Int.le_refl 0
  | r :: t, h => by
    obtain ⟨a, b, c, d⟩ := h r List.mem_cons_self
    have ih := unt_leB s0 A0 C0 fun x hx => h x (List.mem_cons_of_mem _ hx)
    have k1 : r.1 / s ≤ A := Int.le_trans (Int.ediv_le_self s a) b
    have k2 := Int.mul_le_mul d k1 (div_nn a s0) C0
    rw [unt_cons, List.length_cons, show ((t.length + 1 : Nat) : Int) = t.length + 1 from by omega, Int.add_mul, Int.one_mul]
    omega
theorem Alk.unt {ns : List Int} {L : Int} {ps : List (Int × Int)} (h : Alk ns L ps) {s : Int} (s0 : 0 < s) : unt ps s ≤ 10 ^ 60 := by
  have z := unt_leB (A := 10 ^ 27) (C := 10 ^ 31) s0 (by decide +kernel) (by decide +kernel) (l := ps) fun r hr => by
    have a := h.sz hr
    have b := h.sub r hr
    have := h.lL
    exact ⟨by omega, by omega, by omega, b.2.2⟩
  have ln := h.lc.ct.ln
  have e : (12 : Int) * (10 ^ 31 * 10 ^ 27) ≤ 10 ^ 60 := by decide +kernel
  have k : (ps.length : Int) * (10 ^ 31 * 10 ^ 27) ≤ 12 * (10 ^ 31 * 10 ^ 27) := Int.mul_le_mul_of_nonneg_right (by omega) (by decide +kernel)
  exact Int.le_trans z (Int.le_trans k e)
theorem div_pos {r s : Int} (s0 : 0 < s) (sr : s ≤ r) : 0 < r / s := by
  have := (Int.le_ediv_iff_mul_le (a := 1) (b := r) s0).mpr (by omega)
  omega
theorem fr_le {ns : List Int} {L R n : Int} {ps : List (Int × Int)} (h : Alk ns L ps) (hR : L ≤ R) (hn : IsFr ps R n) : n ≤ 10 ^ 60 :=
  hn.le (by decide +kernel) fun p hp => by
    have k := div_pos (h.sz hp).1 (Int.le_trans (h.sz hp).2 hR)
    rw [unt_1]
    have := h.unt (h.sz hp).1
    have := Int.mul_le_mul_of_nonneg_left (show 1 ≤ R / p.1 by omega) (show (0 : Int) ≤ 10 ^ 60 by decide +kernel)
    rw [Int.mul_one] at this
    exact Int.le_trans (by assumption) this
theorem fr_fit {ps : List (Int × Int)} {R m : Int} : fitB ps [(R, m)] = true ↔ ∀ p ∈ ps, unt ps p.1 ≤ unt [(R, m)] p.1 := by
  unfold fitB
  rw [List.all_eq_true]
  constructor
  · exact fun h p hp => of_decide_eq_true (h p.1 (List.mem_map_of_mem hp))
  · intro h s hs
    obtain ⟨p, hp, rfl⟩ := List.mem_map.mp hs
    exact decide_eq_true (h p hp)
theorem fit_all {ns : List Int} {L : Int} {ps rs : List (Int × Int)} (h : Alk ns L ps) (hr : ∀ r ∈ rs, 0 ≤ r.1 ∧ 0 ≤ r.2) (hf : ∀ p ∈ ps, unt ps p.1 ≤ unt rs p.1) {s : Int} (hs : s ∈ ns) : unt ps s ≤ unt rs s :=
  (key_full h.pws (fun p hp => (h.sub p hp).1) hr).mp (fun s hs => by
    obtain ⟨p, hp, rfl⟩ := List.mem_map.mp hs
    exact hf p hp) s hs
structure More (ps ts : List (Int × Int)) (z : Int) : Prop where
  key : ∀ p ∈ ps, ∃ q ∈ ts, q.1 = p.1
  un : ∀ s, unt ts s = unt ps s + z / s
theorem more_fr {ns : List Int} {L R n m z : Int} {ps ts : List (Int × Int)} (h : Alk ns L ps) (h2 : ∀ q ∈ ts, q.1 ∈ ns) (mo : More ps ts z) (hz : z ∈ ns) (hR : L ≤ R) (hn : IsFr ps R n) (hm : IsFr ts R m) : m = n ∨ m = n + 1 := by
  have L0 := h.ch.posL
  obtain ⟨z0, zL, _⟩ := h.ch.pos z hz
  have a : n ≤ m := hn.le hm.1 fun p hp => by
    obtain ⟨q, hq, e⟩ := mo.key p hp
    have k := hm.at q hq
    rw [mo.un, e] at k
    have := div_nn (Int.le_of_lt z0) (h.sz hp).1
    omega
  have n0 := hn.1
  have b : m ≤ n + 1 := hm.le (by omega) fun q hq => by
    have s0 := (h.ch.pos q.1 (h2 q hq)).1
    have k := fit_all h (rs := [(R, n)]) (fun r hr => by cases List.mem_singleton.mp hr; exact ⟨by show 0 ≤ R; omega, n0⟩) hn.at (h2 q hq)
    rw [mo.un, unt_1, Int.add_mul, Int.one_mul]
    rw [unt_1] at k
    have := Int.ediv_le_ediv s0 (Int.le_trans zL hR)
    omega
  omega
theorem fr_up {R n m : Int} {ps : List (Int × Int)} (ct : Cts ps) (hn : IsFr ps R n) (hm : IsFr ps (R + 1) m) : m ≤ n := hm.le hn.1 fun p hp => by
  have k := hn.at p hp
  rw [unt_1] at k ⊢
  have s0 := (own_pos ct hp).1
  have := Int.mul_le_mul_of_nonneg_left (Int.ediv_le_ediv s0 (show R ≤ R + 1 by omega)) hn.1
  omega
theorem rm_up {k r t : Int} {ps : List (Int × Int)} (ct : Cts ps) (hr : IsRm ps k r) (ht : IsRm ps (k + 1) t) : t ≤ r := ht.le hr.1 fun p hp => by
  have z := hr.at p hp
  rw [unt_1] at z ⊢
  have := div_nn hr.1 (own_pos ct hp).1
  rw [Int.add_mul]
  omega
theorem more_rm {k r t z : Int} {ps ts : List (Int × Int)} (ct : Cts ps) (mo : More ps ts z) (z0 : 0 ≤ z) (hr : IsRm ps k r) (ht : IsRm ts k t) : r ≤ t := hr.le ht.1 fun p hp => by
  obtain ⟨q, hq, e⟩ := mo.key p hp
  have k := ht.at q hq
  rw [mo.un, e] at k
  have := div_nn z0 (own_pos ct hp).1
  omega
theorem least_nil {F : Int → Prop} {n : Int} (h : LeastN F n) (f : F 0) : n = 0 := by
  have := h.le (Int.le_refl 0) f
  have := h.1
  omega
theorem fr_pos {R n : Int} {ps : List (Int × Int)} (ct : Cts ps) (ne : ps ≠ []) (hn : IsFr ps R n) : 0 < n := by
  have n0 := hn.1
  rcases Int.lt_or_eq_of_le n0 with k | k
  · exact k
  · exfalso
    obtain ⟨p, t, rfl⟩ := List.exists_cons_of_ne_nil ne
    have z := hn.at p List.mem_cons_self
    rw [unt_1, ← k, Int.zero_mul] at z
    have := (own_pos ct (p := p) List.mem_cons_self).2
    omega
theorem srtI_rep (n : Nat) (x : Int) : srtI (List.replicate n x) = List.replicate n x := (srtI_of (List.Perm.refl _) (List.pairwise_replicate.mpr (.inr (Int.le_refl _)))).symm
theorem fo_wide {R n g m : Int} {ps : List (Int × Int)} (g0 : 0 ≤ g) (hn : IsFr ps R n) (hm : IsFo ps [(R, n + g)] m) : m = n := by
  have n0 := hn.1
  refine LeastN.uniq (hm.congr (G := fun m => ∀ p ∈ ps, unt ps p.1 ≤ unt [(R, if m ≤ n + g then m else n + g)] p.1) fun m m0 => ?_) ⟨n0, fun m m0 => ?_⟩
  · refine forall_congr' fun p => forall_congr' fun _ => ?_
    rw [exR_one, srtI_rep, List.reverse_replicate, List.take_replicate, sD_rep, unt_1]
    have e : ((min m.toNat (n + g).toNat : Nat) : Int) = if m ≤ n + g then m else n + g := by split <;> omega
    show _ ≤ ((min m.toNat (n + g).toNat : Nat) : Int) * _ ↔ _
    rw [e]
  · have z := hn.2 (if m ≤ n + g then m else n + g) (by split <;> omega)
    refine z.trans ?_
    split <;> omega
theorem capI_self (c : Int) : capI c c = c := by
  unfold capI
  split <;> omega
theorem cap_room {R n c : Int} {ps : List (Int × Int)} (R0 : 0 ≤ R) (hn : IsFr ps R n) (hc : IsCp ps [(R, n)] c) : c ≤ R := hc.le R0 fun p hp => by
  have k := hn.at p hp
  rw [exR_one, List.map_replicate, sD_rep, capI_self]
  rw [unt_1] at k
  have e : ((n.toNat : Nat) : Int) = n := Int.toNat_of_nonneg hn.1
  show _ ≤ ((n.toNat : Nat) : Int) * _
  rw [e]
  exact k
end Ck

namespace Ck
open PySem PySem.Spec PyProof.Rows L2 StX Evl RZ
theorem fit_iff {ps rs : List (Int × Int)} : fitB ps rs = true ↔ ∀ p ∈ ps, unt ps p.1 ≤ unt rs p.1 := by
  unfold fitB
  rw [List.all_eq_true]
  constructor
  · exact fun h p hp => of_decide_eq_true (h p.1 (List.mem_map_of_mem hp))
  · intro h s hs
    obtain ⟨p, hp, rfl⟩ := List.mem_map.mp hs
    exact decide_eq_true (h p hp)
theorem sD_perm {s : Int} {a b : List Int} (p : a.Perm b) : sD s a = sD s b := sum_of_perm (p.map _)
theorem fo_perm {ps rs rs' : List (Int × Int)} {n m : Int} (p : (exR rs').Perm (exR rs)) (h : IsFo ps rs n) (h' : IsFo ps rs' m) : m = n := by
  unfold IsFo at h'
  rw [srtI_congr p] at h'
  exact LeastN.uniq h' h
theorem cp_perm {ps rs rs' : List (Int × Int)} {n m : Int} (p : (exR rs').Perm (exR rs)) (h : IsCp ps rs n) (h' : IsCp ps rs' m) : m = n := by
  refine LeastN.uniq (h'.congr (G := fun c => ∀ p ∈ ps, unt ps p.1 ≤ sD p.1 ((exR rs).map (capI c))) fun c _ => forall_congr' fun q => ?_) h
  rw [sD_perm (p.map (capI c))]
theorem cap_fit {ps rs : List (Int × Int)} {c : Int} (nn : ∀ r ∈ rs, 0 ≤ r.2) : fitB ps (rs.map fun r => (capI c r.1, r.2)) = true ↔ ∀ p ∈ ps, unt ps p.1 ≤ sD p.1 ((exR rs).map (capI c)) := by
  rw [fit_iff]
  refine forall_congr' fun p => ?_
  rw [unt_ex (rs := rs.map fun r => (capI c r.1, r.2)) (fun r hr => by
    obtain ⟨q, hq, rfl⟩ := List.mem_map.mp hr
    exact nn q hq), exR_map]
theorem last_ex {aa : List (Int × Int)} {n : Int} (pos : ∀ r ∈ aa, 0 < r.2) (n0 : 0 ≤ n) (n1 : n ≤ numR aa) : exR (prt 0 (numR aa - n) (numR aa) aa) = (exR aa).drop ((exR aa).length - n.toNat) := by
  have e := exR_len fun r hr => Int.le_of_lt (pos r hr)
  rw [exR_prt (by omega) pos (Int.le_refl 0), List.take_of_length_le (by omega)]
  congr 1
  omega
theorem last_rev {aa : List (Int × Int)} {n : Int} (pos : ∀ r ∈ aa, 0 < r.2) (n0 : 0 ≤ n) (n1 : n ≤ numR aa) : (exR (prt 0 (numR aa - n) (numR aa) aa)).reverse = (exR aa).reverse.take n.toNat := by
  rw [last_ex pos n0 n1, List.take_reverse]
theorem last_fit {ps aa rs : List (Int × Int)} {n : Int} (pos : ∀ r ∈ aa, 0 < r.2) (n0 : 0 ≤ n) (n1 : n ≤ numR aa) (e : exR aa = srtI (exR rs)) : fitB ps (prt 0 (numR aa - n) (numR aa) aa) = true ↔ ∀ p ∈ ps, unt ps p.1 ≤ sD p.1 ((srtI (exR rs)).reverse.take n.toNat) := by
  rw [fit_iff]
  refine forall_congr' fun p => ?_
  have pp := prt_pos (f := numR aa - n) (l := numR aa) (by omega) (rs := aa) (s := 0) pos
  rw [unt_ex (fun r hr => Int.le_of_lt (pp r hr).1), ← sD_perm (List.reverse_perm _), last_rev pos n0 n1, e]
theorem fo_last {ps aa rs : List (Int × Int)} {n m : Int} (pos : ∀ r ∈ aa, 0 < r.2) (n1 : n ≤ numR aa) (e : exR aa = srtI (exR rs)) (hn : IsFo ps rs n) (hm : IsFo ps (prt 0 (numR aa - n) (numR aa) aa) m) : m = n := by
  have n0 := hn.1
  have sr : srtI (exR (prt 0 (numR aa - n) (numR aa) aa)) = exR (prt 0 (numR aa - n) (numR aa) aa) := (srtI_of (List.Perm.refl _) (by
    rw [last_ex pos n0 n1, e]
    exact (srtI_pw _).drop)).symm
  refine LeastN.uniq (hm.congr (G := fun m => ∀ p ∈ ps, unt ps p.1 ≤ sD p.1 ((srtI (exR rs)).reverse.take (if m ≤ n then m else n).toNat)) fun m m0 => forall_congr' fun p => ?_) ⟨n0, fun m m0 => ?_⟩
  · rw [sr, last_rev pos n0 n1, e, List.take_take]
    have k : min m.toNat n.toNat = (if m ≤ n then m else n).toNat := by split <;> omega
    rw [k]
  · have z := hn.2 (if m ≤ n then m else n) (by split <;> omega)
    refine z.trans ?_
    split <;> omega
theorem fo_num {ps rs : List (Int × Int)} {n : Int} (pos : ∀ r ∈ rs, 0 < r.2) (hf : ∀ p ∈ ps, unt ps p.1 ≤ unt rs p.1) (hn : IsFo ps rs n) : n ≤ numR rs := by
  have e := exR_len fun r hr => Int.le_of_lt (pos r hr)
  refine hn.le (by omega) fun p hp => ?_
  rw [List.take_of_length_le (by rw [List.length_reverse, (srtI_perm _).length_eq]; omega), sD_perm ((List.reverse_perm _).trans (srtI_perm _)), ← unt_ex fun r hr => Int.le_of_lt (pos r hr)]
  exact hf p hp
theorem fo_pos {ps rs : List (Int × Int)} {n : Int} (ct : Cts ps) (ne : ps ≠ []) (hn : IsFo ps rs n) : 0 < n := by
  rcases Int.lt_or_eq_of_le hn.1 with k | k
  · exact k
  · exfalso
    obtain ⟨p, t, rfl⟩ := List.exists_cons_of_ne_nil ne
    have z := hn.at p List.mem_cons_self
    rw [← k] at z
    have z : _ ≤ (0 : Int) := z
    have := (own_pos ct (p := p) List.mem_cons_self).2
    omega
theorem cp_pos {ps rs : List (Int × Int)} {c : Int} (ct : Cts ps) (ne : ps ≠ []) (r0 : ∀ r ∈ rs, 0 ≤ r.1) (hc : IsCp ps rs c) : 0 < c := by
  rcases Int.lt_or_eq_of_le hc.1 with k | k
  · exact k
  · exfalso
    obtain ⟨p, t, rfl⟩ := List.exists_cons_of_ne_nil ne
    have z := hc.at p List.mem_cons_self
    rw [← k] at z
    have e : (exR rs).map (capI 0) = (exR rs).map fun _ => 0 := List.map_congr_left fun x hx => by
      obtain ⟨r, hr, rfl⟩ := exR_mem hx
      unfold capI
      exact if_neg (by have := r0 r hr; omega)
    rw [e] at z
    have e2 : sD p.1 ((exR rs).map fun _ => 0) = 0 := by
      unfold sD
      rw [List.map_map]
      refine sum_z0 fun x _ => ?_
      show (0 : Int) / p.1 = 0
      exact Int.zero_ediv _
    rw [e2] at z
    have := (own_pos ct (p := p) List.mem_cons_self).2
    omega
theorem cp_le {ps rs : List (Int × Int)} {c B : Int} (pos : ∀ r ∈ rs, 0 < r.2) (b0 : 0 ≤ B) (hb : ∀ r ∈ rs, r.1 ≤ B) (hf : ∀ p ∈ ps, unt ps p.1 ≤ unt rs p.1) (hc : IsCp ps rs c) : c ≤ B := hc.le b0 fun p hp => by
  have e : (exR rs).map (capI B) = exR rs := by
    refine (List.map_congr_left fun x hx => ?_).trans (List.map_id _)
    obtain ⟨r, hr, rfl⟩ := exR_mem hx
    have := hb r hr
    show capI B r.1 = r.1
    unfold capI
    split <;> omega
  rw [e, ← unt_ex fun r hr => Int.le_of_lt (pos r hr)]
  exact hf p hp
theorem unt_numR {L s : Int} (s0 : 0 < s) : ∀ {l : List (Int × Int)}, (∀ r ∈ l, r.1 ≤ L ∧ 0 ≤ r.2) → unt l s ≤ numR l * (L / s)
  | [], _ => by
    show (0 : Int) ≤ 0 * _
    rw [Int.zero_mul]
    exact Int.le_refl 0
  | r :: t, h => by
    obtain ⟨a, b⟩ := h r List.mem_cons_self
    have ih := unt_numR (L := L) s0 fun x hx => h x (List.mem_cons_of_mem _ hx)
    have k := Int.mul_le_mul_of_nonneg_left (Int.ediv_le_ediv s0 a) b
    rw [unt_cons, numR_cons, Int.add_mul]
    omega
theorem wide_fit {ns : List Int} {L : Int} {ps rs : List (Int × Int)} (h : Alk ns L ps) (hr : ∀ r ∈ rs, 0 ≤ r.1 ∧ 0 ≤ r.2) : fitB ps (rs ++ [(L * 2 + 1, numR ps / 2 + 1)]) = true := by
  rw [fit_iff]
  intro p hp
  have s0 := (h.sz hp).1
  have L0 := h.ch.posL
  have a := unt_numR (L := L) s0 (l := ps) fun r hr => ⟨(h.sz hr).2, Int.le_of_lt (h.sub r hr).2.1⟩
  have nn := numR_nn fun r hr => (h.sub r hr).2.1
  have k : 2 * (L / p.1) ≤ (L * 2 + 1) / p.1 := (Int.le_ediv_iff_mul_le s0).mpr (by
    have := Int.ediv_mul_le L (Int.ne_of_gt s0)
    rw [Int.mul_assoc]
    omega)
  have k2 := Int.mul_le_mul_of_nonneg_left k (show 0 ≤ numR ps / 2 + 1 by omega)
  have k3 : numR ps * (L / p.1) ≤ (numR ps / 2 + 1) * (2 * (L / p.1)) := by
    rw [← Int.mul_assoc]
    exact Int.mul_le_mul_of_nonneg_right (by omega) (div_nn (Int.le_of_lt L0) s0)
  have u := unt_nn s0 hr
  rw [unt_app, unt_1]
  omega
theorem Alk.num {ns : List Int} {L : Int} {ps : List (Int × Int)} (h : Alk ns L ps) : 0 ≤ numR ps ∧ numR ps ≤ 10 ^ 33 := by
  refine ⟨numR_nn fun r hr => (h.sub r hr).2.1, ?_⟩
  have a := numR_le (B := 10 ^ 31) (l := ps) fun r hr => (h.sub r hr).2.2
  have ln := h.lc.ct.ln
  have k : (ps.length : Int) * 10 ^ 31 ≤ 12 * 10 ^ 31 := Int.mul_le_mul_of_nonneg_right (by omega) (by decide +kernel)
  have e : (12 : Int) * 10 ^ 31 ≤ 10 ^ 33 := by decide +kernel
  exact Int.le_trans a (Int.le_trans k e)
end Ck

namespace Ck
open PySem PySem.Spec PyProof.Rows L2 StX Evl RZ
def rMaxTI (K : PySem.W.Frag) : List V → Hp → VK → Prop := fun vs H Q => ∃ (t : Addr) (ns : List Int) (m : Int), vs = [V.ref t] ∧ SqT K H t (ns.map V.int) ∧ m ∈ ns ∧ (∀ y ∈ ns, y ≤ m) ∧ Q (.int m) H
theorem reads_ints {h : Heap} : ∀ {ns : List Int} {its : List Value}, Vals (ns.map V.int) its → PySem.W.HoldAll h its ns
  | [], its, r => by
    cases r
    exact ⟨_, .nil⟩
  | n :: t, its, r => by
    cases r with
    | cons a b =>
      obtain ⟨x, rfl⟩ := a
      obtain ⟨as, k⟩ := reads_ints (ns := t) b
      exact ⟨_, .cons (.int n x) k⟩
theorem maxOf_is : ∀ {ns : List Int} {a m : Int}, m ∈ a :: ns → (∀ y ∈ a :: ns, y ≤ m) → PySem.W.maxOf a ns = m
  | [], a, m, h, _ => by
    cases List.mem_singleton.mp h
    rfl
  | b :: t, a, m, h, k => by
    have e : PySem.W.maxOf a (b :: t) = PySem.W.maxOf (if a < b then b else a) t := by
      show List.foldl _ (if decide (a < b) = true then b else a) t = List.foldl _ (if a < b then b else a) t
      by_cases c : a < b
      · rw [if_pos (decide_eq_true c), if_pos c]
      · rw [if_neg (by rw [decide_eq_false c]; exact Bool.false_ne_true), if_neg c]
    rw [e]
    have ka := k a List.mem_cons_self
    have kb := k b (List.mem_cons_of_mem _ List.mem_cons_self)
    refine maxOf_is ?_ fun y hy => ?_
    · rcases List.mem_cons.mp h with rfl | h
      · rw [if_neg (by omega)]
        exact List.mem_cons_self
      · rcases List.mem_cons.mp h with rfl | h
        · split
          · exact List.mem_cons_self
          · have : m = a := by omega
            rw [this]
            exact List.mem_cons_self
        · exact List.mem_cons_of_mem _ h
    · rcases List.mem_cons.mp hy with rfl | h
      · split <;> assumption
      · exact k y (List.mem_cons_of_mem _ (List.mem_cons_of_mem _ h))
theorem cr_maxT {X : Cx} (hc : X.calm = true) (hu : X.A.units + 64 < cLine) : CallR X (.builtin "max") (rMaxTI X.K) := by
  intro pins s σ H vs us Q I r h
  obtain ⟨t, ns, m, rfl, ht, hm, hle, q⟩ := h
  rw [Vals.ref1 r]
  obtain ⟨its, rv, p, hz⟩ := I.tuple ht
  obtain ⟨a, ms, rfl⟩ : ∃ a ms, ns = a :: ms := by
    cases ns with
    | nil => cases hm
    | cons a ms => exact ⟨a, ms, rfl⟩
  refine PySem.W.max_tuple_datum (α := Int) (x := a) (xs := ms) (I.ok.hd hc) (show s.heap.IsTuple t _ from p) (reads_ints rv) (by show _ + 1 + 0 < _; omega) fun i v h' tk hv hh hk => ?_
  obtain ⟨z, rfl⟩ := int_of hh
  refine ⟨.int _, H, I.kept hk, ⟨z, rfl⟩, ?_⟩
  rw [maxOf_is hm hle]
  exact q
theorem cr_maxTK {X : Cx} {K : PySem.W.Frag} (h : X.K = K) (hc : X.calm = true) (hu : X.A.units + 64 < cLine) : CallR X (.builtin "max") (rMaxTI K) := h ▸ cr_maxT hc hu
theorem ei_maxT {K : PySem.W.Frag} {d p : Addr} {σ : L2.St} {H : Hp} {i : Nat} {ns : List Int} {m : Int} {P : Int → Prop} (hv : σ[i]? = some (some (.ref p))) (hp : SqT K H p (ns.map V.int)) (pd : p ≠ d) (hm : m ∈ ns) (hle : ∀ y ∈ ns, y ≤ m) (pm : P m) : Ei d P (tCB (rMaxTI K) (tCons (tVar i) tNil)) σ H := fun H1 e Q q => ⟨_, hv, p, ns, m, rfl, e.1.sqT pd hp, hm, hle, q _ H1 (Kd.refl e.2) ⟨m, rfl, pm⟩⟩
theorem ev_maxT {K : PySem.W.Frag} {p : Addr} {σ : L2.St} {H : Hp} {te : TE} {ns : List Int} {m : Int} (h : Ev te σ H (.ref p)) (hp : SqT K H p (ns.map V.int)) (hm : m ∈ ns) (hle : ∀ y ∈ ns, y ≤ m) : Ev (tCB (rMaxTI K) (tCons te tNil)) σ H (.int m) := fun H1 e Q q => h H1 e _ fun H2 e2 => ⟨p, ns, m, rfl, ex_t (e.trans e2) hp, hm, hle, q H2 e2⟩
theorem Chd.mem {ns : List Int} {L : Int} (h : Chd ns L) : L ∈ ns := by
  obtain ⟨r, e⟩ := h.last
  rw [e]
  exact List.mem_append_right _ (List.mem_singleton.mpr rfl)
theorem lot2 {ns : List Int} {L z : Int} {ps : List (Int × Int)} (h : Alk ns L ps) (hz : z ∈ ns) : Cts (sumP ps [(z, 1)]) ∧ LotC (srt (sumP ps [(z, 1)])) ∧ (∀ q ∈ srt (sumP ps [(z, 1)]), q.1 ∈ ns) ∧ More ps (srt (sumP ps [(z, 1)])) z := by
  have nq : ([(z, (1 : Int))].map Prod.fst).Nodup := List.nodup_cons.mpr ⟨List.not_mem_nil, List.nodup_nil⟩
  obtain ⟨c, k⟩ := sumP_ok (B := 10 ^ 31) h.isc h.sub (qs := [(z, 1)]) (fun p hp => by
    cases List.mem_singleton.mp hp
    exact ⟨hz, (show (0 : Int) < 1 by decide), (show (1 : Int) ≤ 10 ^ 31 by decide +kernel)⟩) h.lc.ct.nd nq (by decide +kernel) (by decide +kernel)
  obtain ⟨lc, sub⟩ := cut_lotC h.isc c k (srt_perm _) (srt_asc c.nd)
  refine ⟨c, lc, fun q hq => sub q.1 (List.mem_map_of_mem hq), ⟨fun p hp => ?_, fun s => ?_⟩⟩
  · have m := (sumP_key (ps := ps) (qs := [(z, 1)]) (s := p.1)).mpr (.inl (List.mem_map_of_mem hp))
    obtain ⟨q, hq, e⟩ := List.mem_map.mp m
    exact ⟨q, (srt_perm _).mem_iff.mpr hq, e⟩
  · rw [unt_perm (srt_perm _), unt_sum h.lc.ct.nd nq, unt_1, Int.one_mul]
section
variable {K : PySem.W.Frag} {CL CS : Addr} {σ : L2.St} {H : Hp} {ta tb tc te : TE} {ps rs ts : List (Int × Int)} {R n z m x y : Int}
theorem notin_2 (ha : Ev ta σ H (.int m)) (hb : Ev tb σ H (.int x)) (hc : Ev tc σ H (.int y)) (h : m = x ∨ m = y) : Ev (tOp (rIn K true) ta (tTup (tCons tb (tCons tc tNil)))) σ H (.bl false) := fun H1 e Q q => ha H1 e _ fun H2 e2 => hb H2 (e.trans e2) _ fun H3 e3 => hc H3 ((e.trans e2).trans e3) _ fun H4 e4 => ⟨(show 2 ≤ sizeLine by decide), fun u nu => ⟨u, [x, y].map V.int, rfl, .inr (SqT.of upd_same), rfl, by
  rw [List.all_map]
  exact List.all_eq_true.mpr fun _ _ => rfl, by
    have k : inV (.int m) ([x, y].map V.int) = true := by
      unfold inV
      rw [List.any_map]
      refine List.any_eq_true.mpr ?_
      rcases h with rfl | rfl
      · exact ⟨m, List.mem_cons_self, show (m == m) = true from beq_self_eq_true m⟩
      · exact ⟨m, List.mem_cons_of_mem _ List.mem_cons_self, show (m == m) = true from beq_self_eq_true m⟩
    show Q (.bl (if true = true then !inV (.int m) ([x, y].map V.int) else _)) _
    rw [if_pos rfl, k]
    exact q _ ((e2.trans (e3.trans e4)).trans (Ex.new nu))⟩⟩
theorem elot_one {tz : TE} (ha : Elot K CL ta σ H ps) (hz : Ev tz σ H (.int z)) (c1 : Cts [(z, 1)]) (lp : ps.length ≤ 12) (hc : Cts (sumP ps [(z, 1)])) : Elot K CL (tOp (fun x y H Q => ∃ a b dx dy fs gs, x = .ref a ∧ y = .ref b ∧ H a = some (.ins CL dx fs) ∧ H b = some (.ins CL dy gs) ∧ spLotAdd K CL [.ref a, .ref b] H (fun v H' => ∃ p, v = .ref p ∧ Q (.ref p) H') E0) ta (tMakeR CL (spLotI K CL) E0 (tCons (tDisp [(tz, tC (.int 1))]) tNil))) σ H (srt (sumP ps [(z, 1)])) :=
  elot_add ha (elot_mk (fun H1 e Q q => evd_disp (ps := [(z, 1)]) (prs_cons hz ev_c prs_nil) c1.nd (show 1 ≤ 15 by decide) H1 e Q fun p H2 _ e2 hp => q p H2 e2 hp) c1 (List.pairwise_singleton _ _)) lp (show 1 ≤ 12 by decide) hc (srt_perm _) (srt_asc hc.nd)
end
end Ck

namespace Ck
open PySem PySem.Spec PyProof.Rows L2 StX Evl RZ
structure Sm (X : List (Int × Int)) : Prop where
  ok : ∀ r ∈ X, (0 < r.1 ∧ r.1 < 10 ^ 28) ∧ 0 < r.2
  nm : numR X ≤ 10 ^ 35
  ln : X.length ≤ 40
theorem Sm.each {X : List (Int × Int)} (h : Sm X) : ∀ r ∈ X, sizB r.1 = true ∧ sizB r.2 = true := fun r hr => by
  obtain ⟨⟨a, b⟩, c⟩ := h.ok r hr
  have d := (snd_each fun r hr => (h.ok r hr).2).2 r hr
  have e := h.nm
  have b1 : (10 : Int) ^ 28 < 10 ^ 200 := by decide +kernel
  have b2 : (10 : Int) ^ 35 < 10 ^ 200 := by decide +kernel
  have d : r.2 ≤ numR X := d
  exact ⟨siz_of a (by omega), siz_of c (by omega)⟩
theorem Sm.rns {X : List (Int × Int)} (h : Sm X) : Rns X := ⟨h.each, Nat.le_trans h.ln (by decide), Nat.le_trans (jr_len X) h.ln⟩
theorem Sm.sto {X : List (Int × Int)} (h : Sm X) : StoOk X := ⟨fun r hr => ⟨(h.each r hr).1, (h.ok r hr).2, siz_nat (h.each r hr).2⟩, h.ln⟩
theorem Sm.pos {X : List (Int × Int)} (h : Sm X) : ∀ r ∈ X, 0 < r.2 := fun r hr => (h.ok r hr).2
theorem Sm.nn {X : List (Int × Int)} (h : Sm X) : ∀ r ∈ X, 0 ≤ r.2 := fun r hr => Int.le_of_lt (h.ok r hr).2
theorem Sm.perm {X Y : List (Int × Int)} (h : Sm X) (p : Y.Perm X) : Sm Y := ⟨fun r hr => h.ok r (p.mem_iff.mp hr), by
  have z : numR Y = numR X := sum_of_perm (p.map _)
  rw [z]
  exact h.nm, by rw [p.length_eq]; exact h.ln⟩
theorem Sm.jr {X : List (Int × Int)} (h : Sm X) : Sm (jr X) := ⟨jr_all (P := fun r => (0 < r.1 ∧ r.1 < 10 ^ 28) ∧ 0 < r.2) (fun a b c x y => ⟨x.1, by
  have k1 : 0 < b := x.2
  have k2 : 0 < c := y.2
  show 0 < b + c
  omega⟩) h.ok, by
  have z : numR (Ck.jr X) = numR X := jr_sum (g := fun r => r.2) (fun a b c => rfl) X
  rw [z]
  exact h.nm, Nat.le_trans (jr_len X) h.ln⟩
theorem numR_jr (X : List (Int × Int)) : numR (jr X) = numR X := jr_sum (g := fun r => r.2) (fun a b c => rfl) X
theorem Sm.prt {X : List (Int × Int)} {f l : Int} (h : Sm X) (fl : f ≤ l) : Sm (prt 0 f l X) := by
  have pp := prt_pos fl (rs := X) (s := 0) h.pos
  refine ⟨fun r hr => ?_, ?_, ?_⟩
  · obtain ⟨a, q, hq, e, _⟩ := pp r hr
    rw [e]
    exact ⟨(h.ok q hq).1, a⟩
  · have a := exR_len (rs := Ck.prt 0 f l X) fun r hr => Int.le_of_lt (pp r hr).1
    have b := exR_len h.nn
    rw [exR_prt fl h.pos (Int.le_refl 0), List.length_drop, List.length_take] at a
    have := h.nm
    omega
  · have z := (prt_sub f l X 0).length_le
    rw [List.length_map, List.length_map] at z
    exact Nat.le_trans z h.ln
theorem Sm.cap {X : List (Int × Int)} {c : Int} (h : Sm X) (c0 : 0 < c) : Sm (X.map fun r => (capI c r.1, r.2)) := by
  refine ⟨fun r hr => ?_, ?_, by rw [List.length_map]; exact h.ln⟩
  · obtain ⟨q, hq, rfl⟩ := List.mem_map.mp hr
    obtain ⟨⟨a, b⟩, d⟩ := h.ok q hq
    refine ⟨?_, d⟩
    show 0 < capI c q.1 ∧ capI c q.1 < 10 ^ 28
    unfold capI
    split <;> omega
  · have z : numR (X.map fun r => (capI c r.1, r.2)) = numR X := by
      unfold numR
      rw [List.map_map]
      rfl
    rw [z]
    exact h.nm
theorem numR_app2 (a b : List (Int × Int)) : numR (a ++ b) = numR a + numR b := by
  unfold numR
  rw [List.map_append, List.sum_append]
theorem wide_sm {ns : List Int} {L : Int} {ps rs : List (Int × Int)} (h : Alk ns L ps) (g : GrR rs) : Sm (rs ++ [(L * 2 + 1, numR ps / 2 + 1)]) := by
  have L0 := h.ch.posL
  have lL := h.lL
  obtain ⟨n0, n1⟩ := h.num
  have b1 : (10 : Int) ^ 27 * 2 + 1 < 10 ^ 28 := by decide +kernel
  refine ⟨fun r hr => ?_, ?_, ?_⟩
  · rcases List.mem_append.mp hr with m | m
    · obtain ⟨a, b, _⟩ := g.ok r m
      exact ⟨a, b⟩
    · rw [List.mem_singleton.mp m]
      exact ⟨⟨by show 0 < L * 2 + 1; omega, by show L * 2 + 1 < _; omega⟩, by show 0 < numR ps / 2 + 1; omega⟩
  · have a := numR_le (B := 10 ^ 32) (l := rs) fun r hr => Int.le_of_lt (g.ok r hr).2.2
    have ln := g.ln
    have k : (rs.length : Int) * 10 ^ 32 ≤ 5 * 10 ^ 32 := Int.mul_le_mul_of_nonneg_right (by omega) (by decide +kernel)
    have b2 : (5 : Int) * 10 ^ 32 + 10 ^ 33 + 1 ≤ 10 ^ 35 := by decide +kernel
    rw [numR_app2]
    have z : numR [(L * 2 + 1, numR ps / 2 + 1)] = numR ps / 2 + 1 := Int.add_zero _
    rw [z]
    omega
  · rw [List.length_append]
    have := g.ln
    show _ + 1 ≤ _
    omega
section
variable {K : PySem.W.Frag} {CL CS : Addr} {σ : L2.St} {H : Hp} {ta tb tx ty te : TE} {ps rs : List (Int × Int)} {x y z : Int} {b : Addr}
theorem esto_back (ha : Esto K CS te σ H rs) (hr : Rns rs.reverse) : Esto K CS (tMeth CS "backward" (spStoBack K CS) [] E0 te tNil) σ H (jr rs.reverse) := fun H1 e Q q => ha H1 e _ fun a H2 e2 hs => by
  obtain ⟨dx, t, ts, h1, _⟩ := hs.ex
  exact ⟨a, dx, _, rfl, h1, sto_look, a, rs, rfl, hs, hr, fun c H3 e3 hc => q c H3 (e2.trans e3) hc⟩
end
end Ck

namespace Ck
open PySem PySem.Spec PyProof.Rows L2
structure FnE where
  at_ : PySem.W.Frag → Addr
  name : Str
  qual : Str
  params : Arguments
  body : List Stmt
  scope : Scope
  dfl : Bool
abbrev FnT : Type := Option (Str × Str × Arguments × FuncBody × Scope × Addr × List (Str × Addr) × Addr)
def fnO (K : PySem.W.Frag) (a : Addr) : FnT := match K.lookup a with
  | some ⟨_, _, .func fd, _⟩ => some (fd.name, fd.qualname, fd.params, fd.body, fd.scope, fd.globals, fd.closure, fd.builtins)
  | _ => none
def FnE.val (d : FnE) : FnT := some (d.name, d.qual, d.params, .stmts d.body, d.scope, mainGlobals, [], builtinsNs)
def oneNone : List Value → Bool
  | [.none] => true
  | _ => false
def isNoneV : Value → Bool
  | .none => true
  | _ => false
theorem isNoneV_ok {v : Value} (h : isNoneV v = true) : v = .none := by
  cases v with
  | none => rfl
  | _ => cases h
def seqB (K : PySem.W.Frag) (T : Addr) : Bool := match K.lookup T with
  | some ⟨_, _, .seq its _, _⟩ => oneNone its.toList
  | _ => false
def refB (K : PySem.W.Frag) : Value → Bool
  | .ref T => seqB K T
  | _ => false
def dfB (K : PySem.W.Frag) (a : Addr) (b : Bool) : Bool := match K.lookup a with
  | some ⟨_, _, .func fd, _⟩ => cond b (refB K fd.defaults) (isNoneV fd.defaults)
  | _ => false
def cqB (K : PySem.W.Frag) (a : Addr) (q : Str) : Bool := match K.lookup a with
  | some ⟨_, _, .func fd, _⟩ => PySem.W.codeIn K fd.code q
  | _ => false
def FnE.ok (K : PySem.W.Frag) (d : FnE) : Bool := dfB K (d.at_ K) d.dfl && cqB K (d.at_ K) d.qual
theorem oneNone_ok {l : List Value} (h : oneNone l = true) : l = [.none] := by
  cases l with
  | nil => cases h
  | cons v r =>
    cases v with
    | none =>
      cases r with
      | nil => rfl
      | cons _ _ => cases h
    | _ => cases h
theorem seqB_ok {K : PySem.W.Frag} {T : Addr} (h : seqB K T = true) : ∃ (oT : Value) (dT : Option Addr) (n : Nat) (sT : Array (Option Value)), K.lookup T = some ⟨oT, dT, .seq #[.none] n, sT⟩ := by
  unfold seqB at h
  cases q : K.lookup T with
  | none => rw [q] at h; cases h
  | some o =>
    obtain ⟨oT, dT, dd, sT⟩ := o
    rw [q] at h
    cases dd with
    | seq its n =>
      have e : its.toList = [.none] := oneNone_ok h
      have e2 : its = #[.none] := by rw [← Array.toArray_toList (xs := its), e]
      exact ⟨oT, dT, n, sT, by rw [e2]⟩
    | _ => cases h
theorem refB_ok {K : PySem.W.Frag} {v : Value} (h : refB K v = true) : ∃ T, v = .ref T ∧ seqB K T = true := by
  cases v with
  | ref T => exact ⟨T, rfl, h⟩
  | _ => cases h
def IsFn (K : PySem.W.Frag) (d : FnE) (dV : Value) : Prop := ∃ (oc : Value) (od : Option Addr) (kV dc pm : Value) (an : Option Addr) (cd ct : Value) (sl : Array (Option Value)),
  K.lookup (d.at_ K) = some ⟨oc, od, .func (PySem.W.fnOf d.name d.qual d.params d.body d.scope dV kV dc pm an cd ct), sl⟩ ∧ PySem.W.codeIn K cd d.qual = true
theorem isFn_of {K : PySem.W.Frag} {d : FnE} (e : fnO K (d.at_ K) = d.val) (c : d.ok K = true) : ∃ dV, IsFn K d dV ∧
    ((d.dfl = false → dV = .none) ∧ (d.dfl = true → ∃ T, dV = .ref T ∧ ∃ (oT : Value) (dT : Option Addr) (n : Nat) (sT : Array (Option Value)), K.lookup T = some ⟨oT, dT, .seq #[.none] n, sT⟩)) := by
  obtain ⟨c1, c2⟩ := Bool.and_eq_true_iff.mp c
  unfold dfB at c1
  unfold cqB at c2
  unfold fnO at e
  cases q : K.lookup (d.at_ K) with
  | none => rw [q] at c2; cases c2
  | some o =>
    obtain ⟨oc, od, dt, sl⟩ := o
    rw [q] at c1 c2 e
    cases dt with
    | func fd =>
      obtain ⟨a1, a2, a3, a4, a5, a6, a7, a8, a9, a10, a11, a12, a13, a14, a15⟩ := fd
      have e' : (some (a1, a2, a3, a4, a5, a6, a7, a15) : FnT) = some (d.name, d.qual, d.params, .stmts d.body, d.scope, mainGlobals, [], builtinsNs) := e
      simp only [Option.some.injEq, Prod.mk.injEq] at e'
      obtain ⟨z1, z2, z3, z4, z5, z6, z7, z8⟩ := e'
      subst z1 z2 z3 z4 z5 z6 z7 z8
      have c1' : cond d.dfl (refB K a8) (isNoneV a8) = true := c1
      refine ⟨a8, ⟨oc, od, a9, a10, a11, a12, a13, a14, sl, q, c2⟩, fun f => ?_, fun f => ?_⟩
      · rw [f] at c1'
        exact isNoneV_ok c1'
      · rw [f] at c1'
        obtain ⟨T, z, y⟩ := refB_ok c1'
        exact ⟨T, z, seqB_ok y⟩
    | _ => cases c2
abbrev AlC : Type := Bool × List FnT
abbrev Chks : Type := List (List (PySem.W.Frag → Bool))
def obsK (chk : Chks) (fn : List FnE) (tf : List He.Defn) (g : Addr → Option Obj) (K : PySem.W.Frag) : AlC :=
  ((chk.all fun l => l.all fun c => c K) && ((fn.all fun d => d.ok K) && He.tabsB g tf K), fn.map fun d => fnO K (d.at_ K))
def obsC (as : List Addr) (chk : Chks) (fn : List FnE) (tf : List He.Defn) (g : Addr → Option Obj) : AlC := obsK chk fn tf g (He.frT g as)
def valC (fn : List FnE) : AlC := (true, fn.map FnE.val)
structure SaysC (chk : Chks) (fn : List FnE) (tf : List He.Defn) (h : Heap) (K : PySem.W.Frag) : Prop where
  chk : ∀ l ∈ chk, ∀ c ∈ l, c K = true
  fn : ∀ d ∈ fn, fnO K (d.at_ K) = d.val ∧ d.ok K = true
  hd : ∀ p ∈ tf, PySem.W.codeHdIn K (He.cT K p).1 (He.cT K p).2 = true
  out : ∀ p ∈ tf, K.lookup (He.cT K p).2 = none
  empty : ∀ p ∈ tf, h.get? (He.cT K p).2 = some { cls := .none, data := .fields #[] }
theorem saysC_of {as : List Addr} {chk : Chks} {fn : List FnE} {tf : List He.Defn} {h : Heap} (e : obsC as chk fn tf h.get? = valC fn) : SaysC chk fn tf h (He.frT h.get? as) := by
  have e1 : ((chk.all fun l => l.all fun c => c (He.frT h.get? as)) && ((fn.all fun d => d.ok (He.frT h.get? as)) && He.tabsB h.get? tf (He.frT h.get? as))) = true := congrArg (fun z : AlC => z.1) e
  have e2 : fn.map (fun d => fnO (He.frT h.get? as) (d.at_ (He.frT h.get? as))) = fn.map FnE.val := congrArg (fun z : AlC => z.2) e
  obtain ⟨e3, e4⟩ := Bool.and_eq_true_iff.mp e1
  obtain ⟨e5, e6⟩ := Bool.and_eq_true_iff.mp e4
  have key : ∀ p ∈ tf, PySem.W.codeHdIn (He.frT h.get? as) (He.cT (He.frT h.get? as) p).1 (He.cT (He.frT h.get? as) p).2 = true ∧ ∃ o, h.get? (He.cT (He.frT h.get? as) p).2 = some o ∧ He.emptyTab o = true := by
    intro p hp
    obtain ⟨y1, y2⟩ := Bool.and_eq_true_iff.mp (List.all_eq_true.mp e6 p hp)
    refine ⟨y1, ?_⟩
    cases q : h.get? (He.cT (He.frT h.get? as) p).2 with
    | none => rw [q] at y2; cases y2
    | some o => rw [q] at y2; exact ⟨o, rfl, y2⟩
  refine ⟨fun l hl c hc => List.all_eq_true.mp (List.all_eq_true.mp e3 l hl) c hc, fun d hd => ⟨?_, List.all_eq_true.mp e5 d hd⟩, fun p hp => (key p hp).1, fun p hp => ?_, fun p hp => ?_⟩
  · obtain ⟨i, hi⟩ := List.mem_iff_getElem?.mp hd
    have e7 : (fn.map (fun d => fnO (He.frT h.get? as) (d.at_ (He.frT h.get? as))))[i]? = (fn.map FnE.val)[i]? := by rw [e2]
    rw [List.getElem?_map, List.getElem?_map, hi] at e7
    exact Option.some.inj e7
  · obtain ⟨_, o, q, z⟩ := key p hp
    exact He.frT_none q z
  · obtain ⟨_, o, q, z⟩ := key p hp
    rw [q, He.emptyTab_eq z]
def hookC (as : List Addr) (chk : Chks) (fn : List FnE) (tf : List He.Defn) : PySem.W.Hook where
  α := AlC
  obs := fun s => obsC as chk fn tf s.heap.get?
  val := fun _ => valC fn
  says := fun _ h => ∃ K : PySem.W.Frag, K.In h ∧ SaysC chk fn tf h K
  of := fun _ _ e => ⟨_, He.frT_in, saysC_of e⟩
  keeps := fun _ _ _ ⟨K, hK, c⟩ k => ⟨K, PySem.W.Frag.In.keeps hK k, ⟨c.chk, c.fn, c.hd, c.out, fun p hp => k _ _ (c.empty p hp)⟩⟩
theorem obsC_eq {as : List Addr} {chk : Chks} {fn : List FnE} {tf : List He.Defn} (s : PySem.W.SharedT) : obsC as chk fn tf (HandSHeadRun.getT s) = (hookC as chk fn tf).obs s.abs := by
  have e : HandSHeadRun.getT s = s.abs.heap.get? := funext fun a => HandSHeadRun.getT_eq s a
  rw [e] <;> rfl
section
variable {chk : Chks} {fn : List FnE} {tf : List He.Defn} {h : Heap} {K : PySem.W.Frag}
theorem SaysC.at_ (S : SaysC chk fn tf h K) (i j : Nat) {l : List (PySem.W.Frag → Bool)} {c : PySem.W.Frag → Bool} (h1 : chk[i]? = some l) (h2 : l[j]? = some c) : c K = true :=
  S.chk l (List.mem_of_getElem? h1) c (List.mem_of_getElem? h2)
theorem SaysC.f0 (S : SaysC chk fn tf h K) (i : Nat) {d : FnE} (h1 : fn[i]? = some d) (h2 : d.dfl = false) : IsFn K d .none := by
  obtain ⟨a, b⟩ := S.fn d (List.mem_of_getElem? h1)
  obtain ⟨dV, z, y, _⟩ := isFn_of a b
  rw [y h2] at z
  exact z
theorem SaysC.f1 (S : SaysC chk fn tf h K) (i : Nat) {d : FnE} (h1 : fn[i]? = some d) (h2 : d.dfl = true) : ∃ T, IsFn K d (.ref T) ∧ ∃ (oT : Value) (dT : Option Addr) (n : Nat) (sT : Array (Option Value)), K.lookup T = some ⟨oT, dT, .seq #[.none] n, sT⟩ := by
  obtain ⟨a, b⟩ := S.fn d (List.mem_of_getElem? h1)
  obtain ⟨dV, z, _, y⟩ := isFn_of a b
  obtain ⟨T, e, t⟩ := y h2
  rw [e] at z
  exact ⟨T, z, t⟩
end
def mP (K : PySem.W.Frag) (x m : Str) : Addr := He.ma K (He.ga K x) m
def adV : Value → Addr
  | .ref a => a
  | _ => 0
def hdV : Option (List Value) → Addr
  | some (v :: _) => adV v
  | _ => 0
def gP (K : PySem.W.Frag) (x m : Str) : Addr := hdV (PySem.W.recIn K (mP K x m) "property")
def recB : Option (List Value) → Bool
  | some (.ref _ :: _) => true
  | _ => false
theorem recB_ok {o : Option (List Value)} (h : recB o = true) : ∃ rs, o = some (.ref (hdV o) :: rs) := by
  cases o with
  | none => cases h
  | some l =>
    cases l with
    | nil => cases h
    | cons v r =>
      cases v with
      | ref a => exact ⟨r, rfl⟩
      | _ => cases h
theorem hdRec_ok {K : PySem.W.Frag} {x m : Str} (h : recB (PySem.W.recIn K (mP K x m) "property") = true) : ∃ rs, PySem.W.recIn K (mP K x m) "property" = some (.ref (gP K x m) :: rs) := recB_ok h
def intEq (i : Int) : Option (Option Value) → Bool
  | some (some (.int j _)) => decide (j = i)
  | _ => false
theorem hdInt_of {i : Int} {o : Option (Option Value)} (h : intEq i o = true) : ∃ t, o = some (some (.int i t)) := by
  cases o with
  | none => cases h
  | some o =>
    cases o with
    | none => cases h
    | some v =>
      cases v with
      | int j t => exact ⟨t, by rw [of_decide_eq_true (show decide (j = i) = true from h)]⟩
      | _ => cases h
end Ck

namespace Ck
open PySem PySem.Spec PyProof.Rows L2 LamX
abbrev tabE : Obj := { cls := .none, data := .fields #[] }
abbrev BiMod (mg : Str → Option Value) (h : Heap) : Prop :=
  ∃ (bm : Addr) (ob : Obj), mg "__builtins__" = some (.ref bm) ∧ bm ≠ builtinsNs ∧ h.get? bm = some ob ∧ ob.cls = .type "module" ∧ ob.dict = some builtinsNs ∧ ob.data = .plain
section
variable {P : Program} {w : World} {K : PySem.W.Frag} {mg mb : Str → Option Value} {k : Nat} {fa a : Addr} {cs : List (Addr × Addr)} {fd : FuncData} {x : Str} {sp : Sp} {s₁ : Shared} {vs : List Value} {ns : List Int}
theorem law_runT (KX : K.In s₁.heap) (HM : NoSm s₁.heap) (hns : s₁.heap.Ns mainGlobals mg) (hb : s₁.heap.Ns builtinsNs mb) (hbb : ∀ x : Str, x ≠ "__name__" → mb x = bootBuiltins x)
    (hlim : s₁.heap.NoLimit) (hg : s₁.gens = #[]) (hT : ∀ p ∈ cs, s₁.heap.get? p.2 = some tabE) (nT : ∀ p ∈ cs, K.lookup p.2 = none) (C : ∀ p ∈ cs, PySem.W.CodeHd s₁.heap p.1 p.2) (hbm : BiMod mg s₁.heap)
    (ha : s₁.heap.get? a = some { cls := .type "list", data := .seq vs.toArray }) (hr : Room k callerA)
    (F : ∀ base : Heap, K.In base → base.Ns mainGlobals mg → NoSm base → (∀ p ∈ cs, TabB base mg p.1 p.2) → FnG P w K mg base CX0 k fa fd [x] sp) (hbind : ∀ (s : Shared) (u : Value), BindsTo s fd ⟨[u], []⟩ [(x, u)])
    (hsp : ∀ H : Hp, (∀ p ∈ cs, H p.2 = some (.tbl #[])) → SqL K H a (ns.map V.int) → sp [.ref a] H (fun v _ => v = .bl true) fun _ _ _ => False)
    (H : Hp) (hH : ∀ p ∈ cs, H p.2 = some (.tbl #[])) (hS : SqL K H a (ns.map V.int)) (hok : HOk P w H s₁.heap)
    (only : ∀ b u, H b = some u → (b = a ∧ ∃ o xs, u = .frz o (.lst xs)) ∨ ∃ p ∈ cs, b = p.2 ∧ u = .tbl #[]) (off : ∀ u, H a = some u → K.lookup a = none) :
    codeAny (model P w) callerA (.call (.ref fa) ⟨[.ref a], []⟩) (Fine s₁) s₁ := by
  -- what is neither the script nor an empty table stays in the base
  have free : ∀ (b : Addr) (o : Obj), s₁.heap.get? b = some o → (∀ xs n, o.data ≠ .seq xs n) → o.data ≠ .fields #[] → H b = none := by
    intro b o e d1 d2
    match q : H b with
    | none => rfl
    | some u =>
      rcases only b u q with ⟨z, _⟩ | ⟨p, hp, z, _⟩
      · rw [z, ha] at e
        obtain rfl := Option.some.inj e
        exact (d1 _ _ rfl).elim
      · rw [z, hT p hp] at e
        obtain rfl := Option.some.inj e
        exact (d2 rfl).elim
  have nsOff : ∀ (b : Addr) (m : Str → Option Value), s₁.heap.Ns b m → (hidT s₁.heap H).Ns b m := by
    rintro b m ⟨o, es, ep, e, d, r⟩
    refine ⟨o, es, ep, hidT_get e (free b o e (fun xs n z => ?_) fun z => ?_), d, r⟩ <;> (rw [d] at z; cases z)
  have inB : K.In (hidT s₁.heap H) := by
    intro b o e
    refine hidT_get (KX b o e) ?_
    match q : H b with
    | none => rfl
    | some u =>
      rcases only b u q with ⟨z, _⟩ | ⟨p, hp, z, _⟩
      · rw [z] at q e
        rw [off u q] at e
        cases e
      · rw [z, nT p hp] at e
        cases e
  have M : Mod K mg (hidT s₁.heap H) := by
    obtain ⟨mc, h1, h2⟩ := hlim
    exact ⟨inB, nsOff _ _ hns, ⟨mb, nsOff _ _ hb, hbb⟩, ⟨mc, nsOff _ _ h1, h2⟩⟩
  have noD : ∀ (b P' : Addr), s₁.heap.get? P' = some tabE → (∃ o, s₁.heap.get? b = some o ∧ ∀ y, o.data ≠ .fields y) → b ≠ P' := by
    rintro b P' e ⟨o, e2, d⟩ z
    rw [z, e] at e2
    obtain rfl := Option.some.inj e2
    exact d _ rfl
  have TB : ∀ p ∈ cs, TabB (hidT s₁.heap H) mg p.1 p.2 := by
    intro p hp
    obtain ⟨bm, ob, b1, b2, b3, b4, b5, b6⟩ := hbm
    obtain ⟨og, es, ep, g1, g2, _⟩ := hns
    have obF : ∀ y, ob.data ≠ .fields y := fun y z => by rw [b6] at z; cases z
    have obS : ∀ xs n, ob.data ≠ .seq xs n := fun xs n z => by rw [b6] at z; cases z
    have ogF : ∀ y, og.data ≠ .fields y := fun y z => by rw [g2] at z; cases z
    refine ⟨?_, ⟨bm, ob, b1, b2, fun z => ?_, noD bm p.2 (hT p hp) ⟨ob, b3, obF⟩, hidT_get b3 (free bm ob b3 obS (obF _)), b4, b5, b6⟩, noD mainGlobals p.2 (hT p hp) ⟨og, g1, ogF⟩⟩
    · obtain ⟨o, us, file, tf, flags, tg, inF, text, tt, e1, r1, r2, r3, more⟩ := C p hp
      refine ⟨o, us, file, tf, flags, tg, inF, text, tt, hidT_get e1 (free _ o e1 (fun xs n z => ?_) fun z => ?_), r1, r2, r3, more⟩
      · rw [r2] at z
        cases z
      · rw [r2] at z
        cases z
        simp at r3
    · rw [z] at b3
      have e := b3.symm.trans g1
      obtain rfl := Option.some.inj e
      rw [b6] at g2
      cases g2
  have no : ∀ (b : Addr), b ∉ frs [] := fun b z => by cases z
  have E0' : Env0 P w K mg (hidT s₁.heap H) callerA [] s₁ H :=
    ⟨rfl, M, fun b o e => of_hidT e, Nat.le_of_eq (hidT_size s₁.heap H), trivial, fun b z => (no b z).elim, hok, .of_eq hg⟩
  have run := (F (hidT s₁.heap H) inB (nsOff _ _ hns) (HM.imp fun _ z => nsOff _ _ z) TB).run callerA [] s₁ H ⟨[.ref a], []⟩ [.ref a] [.ref a] (fun v _ => v = .bl true) (fun _ _ _ => False) hr rfl E0' (hbind s₁ (.ref a)) (.cons rfl .nil) (hsp H hH hS)
  refine codeAny_mono run ?_
  intro r s' h
  match r, h with
  | .error _, h => exact h.elim
  | .ok .next, h => exact h.elim
  | .ok .brk, h => exact h.elim
  | .ok .cont, h => exact h.elim
  | .ok (.ret u), h =>
    obtain ⟨v, H', os, bare, un, hok', rv, q⟩ := h
    cases q
    cases rv
    have stay : ∀ b o, s₁.heap.get? b = some o → s'.heap.get? b = some o ∨ ∃ p ∈ cs, b = p.2 ∧ ∃ more : Array Value, s'.heap.get? b = some { cls := .none, data := .fields more } := by
      intro b o e
      match q : H b with
      | none => exact .inl (un.keep b o e q (no b) (List.not_mem_nil))
      | some u =>
        rcases only b u q with ⟨_, ob, xs, z⟩ | ⟨p, hp, z, _⟩
        · rw [z] at q
          have e1 := (hok b _ q).1
          rw [e] at e1
          obtain rfl := Option.some.inj e1
          exact .inl (hok' b _ (un.frzs b _ _ q)).1
        · obtain ⟨more, y⟩ := un.tbls p.2 #[] (hH p hp)
          rw [z]
          exact .inr ⟨p, hp, rfl, _, hok' p.2 _ y⟩
    refine ⟨rfl, ⟨fun b o e => ?_, fun b o e => ?_⟩, os, bare⟩
    · rcases stay b o e with z | ⟨p, hp, z, more, y⟩
      · exact .inl z
      · rw [z] at e y ⊢
        rw [hT p hp] at e
        obtain rfl := Option.some.inj e
        refine .inr (.inl ⟨((C p hp).tab (hT p hp)).isCodeTable, rfl, #[], more, rfl, ?_⟩)
        rw [Array.empty_append]
        exact y
    · rcases stay b o e with z | ⟨_, _, _, _, y⟩
      · exact ⟨o, z⟩
      · exact ⟨_, y⟩
theorem law_doneT (KX : K.In s₁.heap) (HM : NoSm s₁.heap) (hns : s₁.heap.Ns mainGlobals mg) (hb : s₁.heap.Ns builtinsNs mb) (hbb : ∀ x : Str, x ≠ "__name__" → mb x = bootBuiltins x)
    (hlim : s₁.heap.NoLimit) (hg : s₁.gens = #[]) (hT : ∀ p ∈ cs, s₁.heap.get? p.2 = some tabE) (nT : ∀ p ∈ cs, K.lookup p.2 = none) (C : ∀ p ∈ cs, PySem.W.CodeHd s₁.heap p.1 p.2) (hbm : BiMod mg s₁.heap)
    (ha : s₁.heap.get? a = some { cls := .type "list", data := .seq vs.toArray }) (hi : IntsAre vs ns) (hl : ns.length ≤ sizeLine) (hr : Room k callerA)
    (F : ∀ base : Heap, K.In base → base.Ns mainGlobals mg → NoSm base → (∀ p ∈ cs, TabB base mg p.1 p.2) → FnG P w K mg base CX0 k fa fd [x] sp) (hbind : ∀ (s : Shared) (u : Value), BindsTo s fd ⟨[u], []⟩ [(x, u)])
    (hsp : ∀ H : Hp, (∀ p ∈ cs, H p.2 = some (.tbl #[])) → SqL K H a (ns.map V.int) → sp [.ref a] H (fun v _ => v = .bl true) fun _ _ _ => False) :
    codeAny (model P w) callerA (.call (.ref fa) ⟨[.ref a], []⟩) (Fine s₁) s₁ := by
  have rv : Vals (ns.map V.int) vs := vals_ints hi
  have sz : vs.length ≤ sizeLine := by rw [← rv.length, List.length_map]; exact hl
  let T : Hp := fun b => if b ∈ cs.map (·.2) then some (.tbl #[]) else none
  have mem : ∀ p ∈ cs, p.2 ∈ cs.map (·.2) := fun p hp => List.mem_map.mpr ⟨p, hp, rfl⟩
  have tat : ∀ p ∈ cs, T p.2 = some (.tbl #[]) := fun p hp => if_pos (mem p hp)
  have tof : ∀ b u, T b = some u → ∃ p ∈ cs, b = p.2 ∧ u = .tbl #[] := by
    intro b u e
    by_cases q : b ∈ cs.map (·.2)
    · obtain ⟨p, hp, z⟩ := List.mem_map.mp q
      have e2 : some (HO.tbl #[]) = some u := (if_pos q).symm.trans e
      exact ⟨p, hp, z.symm, (Option.some.inj e2).symm⟩
    · have e2 : (none : Option HO) = some u := (if_neg q).symm.trans e
      cases e2
  have tne : ∀ p ∈ cs, p.2 ≠ a := by
    intro p hp z
    have e := hT p hp
    rw [z, ha] at e
    have e2 : Data.seq vs.toArray _ = Data.fields #[] := congrArg Obj.data (Option.some.inj e)
    cases e2
  match hk : K.lookup a with
  | some o =>
    have e := KX a o hk
    rw [ha] at e
    obtain rfl := Option.some.inj e
    refine law_runT KX HM hns hb hbb hlim hg hT nT C hbm ha hr F hbind hsp T tat (.inr ⟨_, vs.toArray, _, hk, rfl, rfl, rfl, by simpa using sz, by simpa using rv⟩) (fun b u z => ?_) (fun b u z => .inr (tof b u z)) (fun u z => ?_)
    · obtain ⟨p, hp, e1, e2⟩ := tof b u z
      rw [e1, e2]
      exact hT p hp
    · obtain ⟨p, hp, e1, _⟩ := tof a u z
      exact (tne p hp e1.symm).elim
  | none =>
    let o : Obj := { cls := .type "list", data := .seq vs.toArray }
    let H : Hp := fun b => if b = a then some (.frz o (.lst (ns.map V.int))) else T b
    have hA : H a = some (.frz o (.lst (ns.map V.int))) := if_pos rfl
    have hN : ∀ b, b ≠ a → H b = T b := fun b z => if_neg z
    refine law_runT KX HM hns hb hbb hlim hg hT nT C hbm ha hr F hbind hsp H (fun p hp => (hN _ (tne p hp)).trans (tat p hp)) (.inl (.inr ⟨o, hA⟩)) (fun b u z => ?_) (fun b u z => ?_) (fun _ _ => hk)
    · by_cases q : b = a
      · rw [q] at z ⊢
        rw [hA] at z
        obtain rfl := Option.some.inj z
        exact ⟨ha, by rw [List.length_map]; exact hl, vs, _, rv, ha⟩
      · rw [hN b q] at z
        obtain ⟨p, hp, e1, e2⟩ := tof b u z
        rw [e1, e2]
        exact hT p hp
    · by_cases q : b = a
      · rw [q, hA] at z
        exact .inl ⟨q, _, _, (Option.some.inj z).symm⟩
      · rw [hN b q] at z
        exact .inr (tof b u z)
end
theorem walk_gC {l : PySem.W.OpenLaw} {n k : Nat} {q : Program} {loose : List Str} {XP : (Str → Option Value) → Heap → Prop} {YP : World → Heap → Prop} {d : DefRec} {sp : World → PySem.W.Frag → List (Addr × Addr) → Sp} {x : Str}
    (hq : importsNone q = true) (hn : l.most = some n) (hn2 : n ≤ sizeLine) (hdf : d.params.defaults = []) (hr : Room k callerA)
    (F : ∀ (w : World) (mg : Str → Option Value) (fa : Addr) (h : Heap), YP w h → h.Ns mainGlobals mg → mg d.name = some (.ref fa) →
      ∃ (K : PySem.W.Frag) (cs : List (Addr × Addr)) (fd : FuncData), K.In h ∧ (∀ p ∈ cs, h.get? p.2 = some tabE) ∧ (∀ p ∈ cs, K.lookup p.2 = none) ∧ (∀ p ∈ cs, PySem.W.CodeHd h p.1 p.2) ∧ (∀ (s : Shared) (u : Value), BindsTo s fd ⟨[u], []⟩ [(x, u)]) ∧
        ∀ base : Heap, K.In base → base.Ns mainGlobals mg → NoSm base → (∀ p ∈ cs, TabB base mg p.1 p.2) → FnG l.prog w K mg base CX0 k fa fd [x] (sp w K cs))
    (hsp : ∀ (w : World) (K : PySem.W.Frag) (cs : List (Addr × Addr)) (H : Hp) (a : Addr) (ns : List Int), ns.length ≤ n → (∀ p ∈ cs, H p.2 = some (.tbl #[])) → SqL K H a (ns.map V.int) → sp w K cs [.ref a] H (fun v _ => v = .bl true) fun _ _ _ => False) :
    PySem.W.WalkO q loose XP YP l.row.toRowW d [] (fun f vs => PySem.call f vs) := by
  refine Att.attach_call hn hdf ?_
  intro w s₀ s₁ mg mb fa o pm cd doc a vs ns G Y ho hd hcd hmg hobj hints hlen hg
  obtain ⟨K, cs, fd, KX, hT, nT, C, hb, hF⟩ := F w mg fa s₁.heap Y G.T.g hmg
  exact law_doneT KX (let ⟨mm, z, _⟩ := (G.T.seer hq).mods; ⟨mm, z⟩) G.T.g G.T.b G.T.builtins G.T.nolimit hg hT nT C G.T.bmain hobj hints (Nat.le_trans hlen hn2) hr hF hb (fun H hH hS => hsp w K cs H a ns hlen hH hS)
end Ck

namespace Lk53
open PySem PySem.Spec PyProof.Rows L2 Ck RZ
def topS (i : Nat) : Stmt := PySem.Challenge.pw_chainpacks_k53_whole_fewest_go_together.main.body.getD i (.Pass ⟨0, 0, 0, 0⟩)
abbrev s_is_integer : Stmt := topS 3
abbrev n_is_integer : List Str := ["value"]
theorem sc_is_integer : FnScope n_is_integer ["value"] (defScope s_is_integer) := ⟨rfl, rfl, rfl, by decide +kernel, rfl, by decide +kernel, by decide +kernel⟩
abbrev s_is_count : Stmt := topS 4
abbrev n_is_count : List Str := ["value"]
theorem sc_is_count : FnScope n_is_count ["value"] (defScope s_is_count) := ⟨rfl, rfl, rfl, by decide +kernel, rfl, by decide +kernel, by decide +kernel⟩
abbrev s_is_size : Stmt := topS 5
abbrev n_is_size : List Str := ["value"]
theorem sc_is_size : FnScope n_is_size ["value"] (defScope s_is_size) := ⟨rfl, rfl, rfl, by decide +kernel, rfl, by decide +kernel, by decide +kernel⟩
abbrev s_check_size : Stmt := topS 16
abbrev n_check_size : List Str := ["value"]
theorem sc_check_size : FnScope n_check_size ["value"] (defScope s_check_size) := ⟨rfl, rfl, rfl, by decide +kernel, rfl, by decide +kernel, by decide +kernel⟩
abbrev s_check_between : Stmt := topS 17
abbrev n_check_between : List Str := ["value", "low", "high"]
theorem sc_check_between : FnScope n_check_between ["value", "low", "high"] (defScope s_check_between) := ⟨rfl, rfl, rfl, by decide +kernel, rfl, by decide +kernel, by decide +kernel⟩
abbrev s_is_run : Stmt := topS 19
abbrev n_is_run : List Str := ["value"]
theorem sc_is_run : FnScope n_is_run ["value"] (defScope s_is_run) := ⟨rfl, rfl, rfl, by decide +kernel, rfl, by decide +kernel, by decide +kernel⟩
abbrev s_number_of_all : Stmt := topS 20
abbrev n_number_of_all : List Str := ["runs", "run"]
theorem sc_number_of_all : FnScope n_number_of_all ["runs"] (defScope s_number_of_all) := ⟨rfl, rfl, rfl, by decide +kernel, rfl, by decide +kernel, by decide +kernel⟩
abbrev s_units_of : Stmt := topS 21
abbrev n_units_of : List Str := ["runs", "size", "run"]
theorem sc_units_of : FnScope n_units_of ["runs", "size"] (defScope s_units_of) := ⟨rfl, rfl, rfl, by decide +kernel, rfl, by decide +kernel, by decide +kernel⟩
abbrev s_joined_runs : Stmt := topS 22
abbrev n_joined_runs : List Str := ["runs", "joined", "run"]
theorem sc_joined_runs : FnScope n_joined_runs ["runs"] (defScope s_joined_runs) := ⟨rfl, rfl, rfl, by decide +kernel, rfl, by decide +kernel, by decide +kernel⟩
abbrev s_part_of_runs : Stmt := topS 23
abbrev n_part_of_runs : List Str := ["runs", "first", "last", "part", "start", "run", "end", "many"]
theorem sc_part_of_runs : FnScope n_part_of_runs ["runs", "first", "last"] (defScope s_part_of_runs) := ⟨rfl, rfl, rfl, by decide +kernel, rfl, by decide +kernel, by decide +kernel⟩
abbrev s_first_gap : Stmt := topS 25
abbrev n_first_gap : List Str := ["sizes", "low", "high"]
theorem sc_first_gap : FnScope n_first_gap ["sizes"] (defScope s_first_gap) := ⟨rfl, rfl, rfl, by decide +kernel, rfl, by decide +kernel, by decide +kernel⟩
abbrev s_check_lot : Stmt := topS 28
abbrev n_check_lot : List Str := ["value"]
theorem sc_check_lot : FnScope n_check_lot ["value"] (defScope s_check_lot) := ⟨rfl, rfl, rfl, by decide +kernel, rfl, by decide +kernel, by decide +kernel⟩
abbrev s__are_counts : Stmt := topS 29
abbrev n__are_counts : List Str := ["value", "size", "count"]
theorem sc__are_counts : FnScope n__are_counts ["value"] (defScope s__are_counts) := ⟨rfl, rfl, rfl, by decide +kernel, rfl, by decide +kernel, by decide +kernel⟩
abbrev s_check_store : Stmt := topS 33
abbrev n_check_store : List Str := ["value"]
theorem sc_check_store : FnScope n_check_store ["value"] (defScope s_check_store) := ⟨rfl, rfl, rfl, by decide +kernel, rfl, by decide +kernel, by decide +kernel⟩
abbrev s_check_together : Stmt := topS 37
abbrev n_check_together : List Str := ["sizes", "gap"]
theorem sc_check_together : FnScope n_check_together ["sizes"] (defScope s_check_together) := ⟨rfl, rfl, rfl, by decide +kernel, rfl, by decide +kernel, by decide +kernel⟩
abbrev s__check : Stmt := topS 38
abbrev n__check : List Str := ["lot", "store"]
theorem sc__check : FnScope n__check ["lot", "store"] (defScope s__check) := ⟨rfl, rfl, rfl, by decide +kernel, rfl, by decide +kernel, by decide +kernel⟩
abbrev s_levels_of : Stmt := topS 39
abbrev n_levels_of : List Str := ["lot", "store", "size"]
theorem sc_levels_of : FnScope n_levels_of ["lot", "store"] (defScope s_levels_of) := ⟨rfl, rfl, rfl, by decide +kernel, rfl, by decide +kernel, by decide +kernel⟩
abbrev s_fits : Stmt := topS 40
abbrev n_fits : List Str := ["lot", "store"]
theorem sc_fits : FnScope n_fits ["lot", "store"] (defScope s_fits) := ⟨rfl, rfl, rfl, by decide +kernel, rfl, by decide +kernel, by decide +kernel⟩
abbrev s_barring_sizes : Stmt := topS 41
abbrev n_barring_sizes : List Str := ["lot", "store", "size", "needed", "given"]
theorem sc_barring_sizes : FnScope n_barring_sizes ["lot", "store"] (defScope s_barring_sizes) := ⟨rfl, rfl, rfl, by decide +kernel, rfl, by decide +kernel, by decide +kernel⟩
abbrev s__rounded_up : Stmt := topS 43
abbrev n__rounded_up : List Str := ["number", "divisor"]
theorem sc__rounded_up : FnScope n__rounded_up ["number", "divisor"] (defScope s__rounded_up) := ⟨rfl, rfl, rfl, by decide +kernel, rfl, by decide +kernel, by decide +kernel⟩
abbrev s_fewest_rooms : Stmt := topS 44
abbrev n_fewest_rooms : List Str := ["lot", "room"]
theorem sc_fewest_rooms : FnScope n_fewest_rooms ["lot", "room"] (defScope s_fewest_rooms) := ⟨rfl, rfl, rfl, by decide +kernel, rfl, by decide +kernel, by decide +kernel⟩
abbrev s_fewest_for : Stmt := topS 45
abbrev n_fewest_for : List Str := ["counts", "room", "greatest", "things", "size"]
theorem sc_fewest_for : FnScope n_fewest_for ["counts", "room"] (defScope s_fewest_for) := ⟨rfl, rfl, rfl, by decide +kernel, rfl, by decide +kernel, by decide +kernel⟩
abbrev s_least_room : Stmt := topS 46
abbrev n_least_room : List Str := ["lot", "rooms", "size"]
theorem sc_least_room : FnScope n_least_room ["lot", "rooms"] (defScope s_least_room) := ⟨rfl, rfl, rfl, by decide +kernel, rfl, by decide +kernel, by decide +kernel⟩
abbrev s__check_fit : Stmt := topS 47
abbrev n__check_fit : List Str := ["lot", "store", "barring"]
theorem sc__check_fit : FnScope n__check_fit ["lot", "store"] (defScope s__check_fit) := ⟨rfl, rfl, rfl, by decide +kernel, rfl, by decide +kernel, by decide +kernel⟩
abbrev s__numbers : Stmt := topS 48
abbrev n__numbers : List Str := ["lot", "store", "rooms", "size", "needed", "_"]
theorem sc__numbers : FnScope n__numbers ["lot", "store"] (defScope s__numbers) := ⟨rfl, rfl, rfl, by decide +kernel, rfl, by decide +kernel, by decide +kernel⟩
abbrev s__rooms_with : Stmt := topS 49
abbrev n__rooms_with : List Str := ["runs", "size", "needed", "number", "left", "room", "many", "units"]
theorem sc__rooms_with : FnScope n__rooms_with ["runs", "size", "needed"] (defScope s__rooms_with) := ⟨rfl, rfl, rfl, by decide +kernel, rfl, by decide +kernel, by decide +kernel⟩
abbrev s_fewest_of : Stmt := topS 50
abbrev n_fewest_of : List Str := ["lot", "store", "number", "_"]
theorem sc_fewest_of : FnScope n_fewest_of ["lot", "store"] (defScope s_fewest_of) := ⟨rfl, rfl, rfl, by decide +kernel, rfl, by decide +kernel, by decide +kernel⟩
abbrev s__caps : Stmt := topS 51
abbrev n__caps : List Str := ["lot", "store", "rooms", "size", "needed", "_"]
theorem sc__caps : FnScope n__caps ["lot", "store"] (defScope s__caps) := ⟨rfl, rfl, rfl, by decide +kernel, rfl, by decide +kernel, by decide +kernel⟩
abbrev s__least_units : Stmt := topS 52
abbrev n__least_units : List Str := ["rooms", "size", "needed", "left", "number", "room", "many", "units", "_"]
theorem sc__least_units : FnScope n__least_units ["rooms", "size", "needed"] (defScope s__least_units) := ⟨rfl, rfl, rfl, by decide +kernel, rfl, by decide +kernel, by decide +kernel⟩
abbrev s_least_cap : Stmt := topS 53
abbrev n_least_cap : List Str := ["lot", "store", "cap", "_"]
theorem sc_least_cap : FnScope n_least_cap ["lot", "store"] (defScope s_least_cap) := ⟨rfl, rfl, rfl, by decide +kernel, rfl, by decide +kernel, by decide +kernel⟩
abbrev s__law_dice : Stmt := topS 55
abbrev n__law_dice : List Str := ["script", "spot", "cell", "left"]
theorem sc__law_dice : FnScope n__law_dice ["script", "spot"] (defScope s__law_dice) := ⟨rfl, rfl, rfl, by decide +kernel, rfl, by decide +kernel, by decide +kernel⟩
abbrev s__law_roll : Stmt := topS 56
abbrev n__law_roll : List Str := ["dice", "total", "found", "one", "two"]
theorem sc__law_roll : FnScope n__law_roll ["dice", "total"] (defScope s__law_roll) := ⟨rfl, rfl, rfl, by decide +kernel, rfl, by decide +kernel, by decide +kernel⟩
abbrev s__law_pick : Stmt := topS 57
abbrev n__law_pick : List Str := ["dice", "items"]
theorem sc__law_pick : FnScope n__law_pick ["dice", "items"] (defScope s__law_pick) := ⟨rfl, rfl, rfl, by decide +kernel, rfl, by decide +kernel, by decide +kernel⟩
abbrev s__law_mixed : Stmt := topS 58
abbrev n__law_mixed : List Str := ["dice", "items", "left", "found", "turn"]
theorem sc__law_mixed : FnScope n__law_mixed ["dice", "items"] (defScope s__law_mixed) := ⟨rfl, rfl, rfl, by decide +kernel, rfl, by decide +kernel, by decide +kernel⟩
abbrev s__law_great : Stmt := topS 59
abbrev n__law_great : List Str := ["dice", "least", "way", "found", "turn"]
theorem sc__law_great : FnScope n__law_great ["dice", "least"] (defScope s__law_great) := ⟨rfl, rfl, rfl, by decide +kernel, rfl, by decide +kernel, by decide +kernel⟩
abbrev s__law_long_chain : Stmt := topS 60
abbrev n__law_long_chain : List Str := ["dice", "found", "turn", "step"]
theorem sc__law_long_chain : FnScope n__law_long_chain ["dice"] (defScope s__law_long_chain) := ⟨rfl, rfl, rfl, by decide +kernel, rfl, by decide +kernel, by decide +kernel⟩
abbrev s__law_great_lot : Stmt := topS 61
abbrev n__law_great_lot : List Str := ["dice", "sizes", "found", "size"]
theorem sc__law_great_lot : FnScope n__law_great_lot ["dice", "sizes"] (defScope s__law_great_lot) := ⟨rfl, rfl, rfl, by decide +kernel, rfl, by decide +kernel, by decide +kernel⟩
abbrev s__law_great_store : Stmt := topS 62
abbrev n__law_great_store : List Str := ["dice", "sizes", "found", "turn", "room"]
theorem sc__law_great_store : FnScope n__law_great_store ["dice", "sizes"] (defScope s__law_great_store) := ⟨rfl, rfl, rfl, by decide +kernel, rfl, by decide +kernel, by decide +kernel⟩
abbrev s__law_made_lot : Stmt := topS 63
abbrev n__law_made_lot : List Str := ["plain", "size"]
theorem sc__law_made_lot : FnScope n__law_made_lot ["plain"] (defScope s__law_made_lot) := ⟨rfl, rfl, rfl, by decide +kernel, rfl, by decide +kernel, by decide +kernel⟩
abbrev s__law_made_store : Stmt := topS 64
abbrev n__law_made_store : List Str := ["runs", "rest", "one", "two", "three", "four", "five", "six", "seven", "eight"]
theorem sc__law_made_store : FnScope n__law_made_store ["runs"] (defScope s__law_made_store) := ⟨rfl, rfl, rfl, by decide +kernel, rfl, by decide +kernel, by decide +kernel⟩
abbrev s__law_alike_right : Stmt := topS 65
abbrev n__law_alike_right : List Str := ["dice", "chain", "lot", "room", "size", "number", "more", "rooms", "least", "wide"]
theorem sc__law_alike_right : FnScope n__law_alike_right ["dice", "chain", "lot"] (defScope s__law_alike_right) := ⟨rfl, rfl, rfl, by decide +kernel, rfl, by decide +kernel, by decide +kernel⟩
abbrev s__law_store_right : Stmt := topS 66
abbrev n__law_store_right : List Str := ["dice", "chain", "lot", "runs", "wide", "store", "number", "cap", "other", "chosen"]
theorem sc__law_store_right : FnScope n__law_store_right ["dice", "chain", "lot", "runs"] (defScope s__law_store_right) := ⟨rfl, rfl, rfl, by decide +kernel, rfl, by decide +kernel, by decide +kernel⟩
abbrev s_law : Stmt := topS 67
abbrev n_law : List Str := ["script", "spot", "dice", "turn", "chain", "lot"]
theorem sc_law : FnScope n_law ["script"] (defScope s_law) := ⟨rfl, rfl, rfl, by decide +kernel, rfl, by decide +kernel, by decide +kernel⟩
abbrev s_Lot_init : Stmt := inClass (topS 30) 0
abbrev n_Lot_init : List Str := ["self", "counts", "told", "size"]
theorem sc_Lot_init : FnScope n_Lot_init ["self", "counts"] (defScope s_Lot_init) := ⟨rfl, rfl, rfl, by decide +kernel, rfl, by decide +kernel, by decide +kernel⟩
abbrev s_Lot_counts : Stmt := inClass (topS 30) 2
abbrev n_Lot_counts : List Str := ["self"]
theorem sc_Lot_counts : FnScope n_Lot_counts ["self"] (defScope s_Lot_counts) := ⟨rfl, rfl, rfl, by decide +kernel, rfl, by decide +kernel, by decide +kernel⟩
abbrev s_Lot_sizes : Stmt := inClass (topS 30) 3
abbrev n_Lot_sizes : List Str := ["self"]
theorem sc_Lot_sizes : FnScope n_Lot_sizes ["self"] (defScope s_Lot_sizes) := ⟨rfl, rfl, rfl, by decide +kernel, rfl, by decide +kernel, by decide +kernel⟩
abbrev s_Lot_number : Stmt := inClass (topS 30) 5
abbrev n_Lot_number : List Str := ["self"]
theorem sc_Lot_number : FnScope n_Lot_number ["self"] (defScope s_Lot_number) := ⟨rfl, rfl, rfl, by decide +kernel, rfl, by decide +kernel, by decide +kernel⟩
abbrev s_Lot_units : Stmt := inClass (topS 30) 8
abbrev n_Lot_units : List Str := ["self", "size", "each"]
theorem sc_Lot_units : FnScope n_Lot_units ["self", "size"] (defScope s_Lot_units) := ⟨rfl, rfl, rfl, by decide +kernel, rfl, by decide +kernel, by decide +kernel⟩
abbrev s_Lot_add : Stmt := inClass (topS 30) 15
abbrev n_Lot_add : List Str := ["self", "other", "sizes", "counts", "size"]
theorem sc_Lot_add : FnScope n_Lot_add ["self", "other"] (defScope s_Lot_add) := ⟨rfl, rfl, rfl, by decide +kernel, rfl, by decide +kernel, by decide +kernel⟩
abbrev s_Lot_len : Stmt := inClass (topS 30) 21
abbrev n_Lot_len : List Str := ["self"]
theorem sc_Lot_len : FnScope n_Lot_len ["self"] (defScope s_Lot_len) := ⟨rfl, rfl, rfl, by decide +kernel, rfl, by decide +kernel, by decide +kernel⟩
abbrev s_Store_init : Stmt := inClass (topS 35) 0
abbrev n_Store_init : List Str := ["self", "runs", "run", "joined"]
theorem sc_Store_init : FnScope n_Store_init ["self", "runs"] (defScope s_Store_init) := ⟨rfl, rfl, rfl, by decide +kernel, rfl, by decide +kernel, by decide +kernel⟩
abbrev s_Store_number : Stmt := inClass (topS 35) 4
abbrev n_Store_number : List Str := ["self"]
theorem sc_Store_number : FnScope n_Store_number ["self"] (defScope s_Store_number) := ⟨rfl, rfl, rfl, by decide +kernel, rfl, by decide +kernel, by decide +kernel⟩
abbrev s_Store_rooms : Stmt := inClass (topS 35) 7
abbrev n_Store_rooms : List Str := ["self", "many_of", "room", "many"]
theorem sc_Store_rooms : FnScope n_Store_rooms ["self"] (defScope s_Store_rooms) := ⟨rfl, rfl, rfl, by decide +kernel, rfl, by decide +kernel, by decide +kernel⟩
abbrev s_Store_units : Stmt := inClass (topS 35) 8
abbrev n_Store_units : List Str := ["self", "size"]
theorem sc_Store_units : FnScope n_Store_units ["self", "size"] (defScope s_Store_units) := ⟨rfl, rfl, rfl, by decide +kernel, rfl, by decide +kernel, by decide +kernel⟩
abbrev s_Store_part : Stmt := inClass (topS 35) 10
abbrev n_Store_part : List Str := ["self", "first", "last", "runs"]
theorem sc_Store_part : FnScope n_Store_part ["self", "first", "last"] (defScope s_Store_part) := ⟨rfl, rfl, rfl, by decide +kernel, rfl, by decide +kernel, by decide +kernel⟩
abbrev s_Store_backward : Stmt := inClass (topS 35) 11
abbrev n_Store_backward : List Str := ["self", "runs"]
theorem sc_Store_backward : FnScope n_Store_backward ["self"] (defScope s_Store_backward) := ⟨rfl, rfl, rfl, by decide +kernel, rfl, by decide +kernel, by decide +kernel⟩
abbrev s_Store_ascending : Stmt := inClass (topS 35) 12
abbrev n_Store_ascending : List Str := ["self", "runs"]
theorem sc_Store_ascending : FnScope n_Store_ascending ["self"] (defScope s_Store_ascending) := ⟨rfl, rfl, rfl, by decide +kernel, rfl, by decide +kernel, by decide +kernel⟩
abbrev s_Store_capped : Stmt := inClass (topS 35) 14
abbrev n_Store_capped : List Str := ["self", "room", "runs", "each", "many"]
theorem sc_Store_capped : FnScope n_Store_capped ["self", "room"] (defScope s_Store_capped) := ⟨rfl, rfl, rfl, by decide +kernel, rfl, by decide +kernel, by decide +kernel⟩
structure Bl (mg : Str → Option Value) : Prop where
  abs : mg "abs" = none
  all : mg "all" = none
  any : mg "any" = none
  bool : mg "bool" = none
  dict : mg "dict" = none
  int : mg "int" = none
  isinstance : mg "isinstance" = none
  len : mg "len" = none
  list : mg "list" = none
  max : mg "max" = none
  min : mg "min" = none
  range : mg "range" = none
  set : mg "set" = none
  sorted : mg "sorted" = none
  str : mg "str" = none
  sum : mg "sum" = none
  tuple : mg "tuple" = none
  zip : mg "zip" = none
structure Cs (mg : Str → Option Value) : Prop where
  one : True
  c_MAX_FIGURES : ∃ u, mg "MAX_FIGURES" = some u ∧ RelV (.int 200) u
  c_MAX_RUNS : ∃ u, mg "MAX_RUNS" = some u ∧ RelV (.int 40) u
  c_MAX_SIZES : ∃ u, mg "MAX_SIZES" = some u ∧ RelV (.int 12) u
def spLaw (K : PySem.W.Frag) : Sp := fun vs H Q _ => ∃ (a : Addr) (ns : List Int), vs = [.ref a] ∧ SqL K H a (ns.map V.int) ∧ ns.length ≤ 63 ∧ ∀ H', Q (.bl true) H'
section
variable {P : Program} {w : World} {K : PySem.W.Frag} {mg : Str → Option Value} {base : Heap}
theorem ok_int (B : Bl mg) (T : Cs mg) (D : Df K mg "is_integer" s_is_integer ["value"]) : Cl P w K mg base 1 "is_integer" (spNum K intB) := by
  refine cl_of D sc_is_integer (fun vs H Q E h => ?_) (fun f cdv A fr s H vs Q E hr h => ?_)
  · obtain ⟨x, b, rfl, _⟩ := h
    rfl
  · obtain ⟨x, b, rfl, hx, q⟩ := h
    refine ⟨_, (pss_cons (ps_if (pw_or (pt_not (pt_val (pe_callB call_isi (by rfl) B.isinstance bt_isinstance (pa_cons (pv 0) (pa_cons (pe_bltn (v := V.ty "int") (by rfl) B.int bt_int rfl) pa_nil))))) (pw_or1 (pt_val (pe_callB call_isi (by rfl) B.isinstance bt_isinstance (pa_cons (pv 0) (pa_cons (pe_bltn (v := V.ty "bool") (by rfl) B.bool bt_bool rfl) pa_nil)))))).pt (pss_one (ps_ret pe_bl)) pss_nil)
    (pss_cons (ps_if (pt_cmpR op_gt (pe_bits (pv 0)) (pe_op op_mul pe_int (pe_gc2 (by rfl) T.c_MAX_FIGURES)) (nomark _)) (pss_one (ps_ret pe_bl)) pss_nil)
     (pss_one (ps_ret (pe_cmpR op_le (pe_callB call_len_str (by rfl) B.len bt_len (pa_cons (pe_callTy call_str_int (by rfl) B.str bt_str (pa_cons (pe_callB call_abs (by rfl) B.abs bt_abs (pa_cons (pv 0) pa_nil)) pa_nil)) pa_nil)) (pe_gc2 (by rfl) T.c_MAX_FIGURES) (nomark _)))))), ?_⟩
    rcases hx with ⟨i, rfl, rfl⟩ | ⟨ho, rfl⟩
    · refine Evl.q_when (b := false) (Evl.et_is (Evl.et_or (Evl.et_not (Evl.et_B (ev_isi (Evl.ev_var rfl) Evl.ev_c (.ty _) (fun _ _ => .base (.int i)) (kit_ty (r := true) (by decide +kernel)))))
        (fun _ => Evl.et_B (ev_isi (Evl.ev_var rfl) Evl.ev_c (.ty _) (fun _ _ => .base (.int i)) (kit_ty (r := false) (by decide +kernel))))) rfl) (fun z => nomatch z) (fun _ H1 e1 => ?_)
      refine Evl.q_when (Evl.et_test (ev_i0 (ev_bits (Evl.ev_var rfl)) (ev_i Evl.ev_c Evl.ev_c (.inl (by decide))))) (fun z H2 e2 => ?_) (fun z H2 e2 => ?_)
      · have z' := bits_big (of_decide_eq_true z)
        rw [z'] at q
        exact q H2 (e1.trans e2)
      · have z' := bits_small (of_decide_eq_false z)
        refine Evl.s_ret (Evl.ev_is (ev_i0 (ev_lenS (ev_strI (ev_abs (Evl.ev_var rfl)) ?_) ?_) Evl.ev_c) (congrArg V.bl (short_eq i))) (fun H3 e3 => q H3 ((e1.trans e2).trans e3))
        · rw [abs_if]
          exact z'
        · rw [abs_if]
          have lt : i.natAbs < 10 ^ 600 := Nat.lt_trans (Nat.lt_of_lt_of_le Nat.lt_log2_self (Nat.pow_le_pow_right (by decide) z')) (by decide +kernel)
          exact Nat.le_trans ((num_len i.natAbs 600 (by decide)).mpr lt) (by decide)
    · cases ho with
      | no n h k =>
        refine Evl.q_when (b := true) (Evl.et_is (Evl.et_or (b := true) (Evl.et_not (Evl.et_B (ev_isi (Evl.ev_var rfl) Evl.ev_c (.ty _) (fun _ e => tyM e h) (kit_ty k)))) (fun z => nomatch z)) rfl) (fun _ H1 e1 => ?_) (fun z => nomatch z)
        exact q H1 e1
      | bl b h =>
        subst h
        refine Evl.q_when (b := true) (Evl.et_is (Evl.et_or (Evl.et_not (Evl.et_B (ev_isi (Evl.ev_var rfl) Evl.ev_c (.ty _) (fun _ _ => .base (.bl b)) (kit_ty (r := true) (by decide +kernel)))))
          (fun _ => Evl.et_B (ev_isi (Evl.ev_var rfl) Evl.ev_c (.ty _) (fun _ _ => .base (.bl b)) (kit_ty (r := true) (by decide +kernel))))) rfl) (fun _ H1 e1 => ?_) (fun z => nomatch z)
        exact q H1 e1
theorem ok_count (B : Bl mg) (D : Df K mg "is_count" s_is_count ["value"]) (C_is_integer : Cl P w K mg base 1 "is_integer" (spNum K intB)) : Cl P w K mg base 2 "is_count" (spNum K cntB) := by
  refine cl_of D sc_is_count (fun vs H Q E h => ?_) (fun f cdv A fr s H vs Q E hr h => ?_)
  · obtain ⟨x, b, rfl, _⟩ := h
    rfl
  · obtain ⟨x, b, rfl, hx, q⟩ := h
    refine ⟨_, (pss_one (ps_ret (pe_and (pcal C_is_integer hr (pa_cons (pv 0) pa_nil)) (pe_one (pe_cmpR op_ge (pv 0) pe_int (nomark _)))))), ?_⟩
    rcases hx with ⟨i, rfl, rfl⟩ | ⟨ho, rfl⟩
    · exact Evl.s_ret (Evl.ev_andV (ev_call1 (Evl.ev_var rfl) num_i) (fun _ => ev_i0 (Evl.ev_var rfl) Evl.ev_c)) q
    · exact Evl.s_ret (Evl.ev_is (Evl.ev_andV (b := true) (ev_call1 (Evl.ev_var rfl) (num_o ho)) (fun z => nomatch z)) rfl) q
theorem ok_size (B : Bl mg) (D : Df K mg "is_size" s_is_size ["value"]) (C_is_integer : Cl P w K mg base 1 "is_integer" (spNum K intB)) : Cl P w K mg base 2 "is_size" (spNum K sizB) := by
  refine cl_of D sc_is_size (fun vs H Q E h => ?_) (fun f cdv A fr s H vs Q E hr h => ?_)
  · obtain ⟨x, b, rfl, _⟩ := h
    rfl
  · obtain ⟨x, b, rfl, hx, q⟩ := h
    refine ⟨_, (pss_one (ps_ret (pe_and (pcal C_is_integer hr (pa_cons (pv 0) pa_nil)) (pe_one (pe_cmpR op_ge (pv 0) pe_int (nomark _)))))), ?_⟩
    rcases hx with ⟨i, rfl, rfl⟩ | ⟨ho, rfl⟩
    · exact Evl.s_ret (Evl.ev_andV (ev_call1 (Evl.ev_var rfl) num_i) (fun _ => ev_i0 (Evl.ev_var rfl) Evl.ev_c)) q
    · exact Evl.s_ret (Evl.ev_is (Evl.ev_andV (b := true) (ev_call1 (Evl.ev_var rfl) (num_o ho)) (fun z => nomatch z)) rfl) q

theorem ok_gapB (B : Bl mg) (D : Df K mg "first_gap" s_first_gap ["sizes"]) : Cg P w K mg base CX0 1 "first_gap" (spGapB K) := by
  refine cg_of D sc_first_gap (fun vs H Q E h => ?_) (fun f cdv A fr s H vs Q E hr hgd h => ?_)
  · obtain ⟨p, ns, rfl, _⟩ := h
    rfl
  · obtain ⟨p, ns, rfl, hp, hpos, q⟩ := h
    refine ⟨_, (pss_cons (ps_for PassesOwn.never rfl (pi_zipX (by rfl) B.zip (pa_cons (pv 0) (pa_cons (pe_slice sl_both (pv 0) (po_some pe_int) po_none) pa_nil))) (pg_tup (n := 2) rfl (pgs_cons (pg_name (i := 1) sc_first_gap.nd rfl (by first | exact Or.inl rfl | exact Or.inr rfl)) (pgs_cons (pg_name (i := 2) sc_first_gap.nd rfl (by first | exact Or.inl rfl | exact Or.inr rfl)) pgs_nil))) (pss_one (ps_if (pt_cmpR op_ne (pe_op op_mod (pv 2) (pv 1)) pe_int (nomark _)) (pss_one (ps_ret (pe_tup (pa_cons (pv 1) (pa_cons (pv 2) pa_nil))))) pss_nil)))
    (pss_one (ps_ret pe_non))), ?_⟩
    rcases hp with hp | ⟨hp, hne⟩
    · refine zip_goBL (K := K) rfl hp fun c hc => ?_
      have hp1 := Evl.ex_l (Evl.Ex.new (o := .lst ((ns.drop 1).map V.int)) hc) hp
      have hc1 : SqL K (upd H c (.lst ((ns.drop 1).map V.int))) c ((ns.drop 1).map V.int) := SqL.of upd_same
      have e0 : Evl.Ex H (upd H c (.lst ((ns.drop 1).map V.int))) := Evl.Ex.new hc
      generalize upd H c (.lst ((ns.drop 1).map V.int)) = H1 at hp1 hc1 e0 ⊢
      refine for_it (walk_zip (min_zip ns)) (fun i σ H' => Evl.Ex H1 H' ∧ (∃ y z, σ = [some (.ref p), y, z]) ∧ ∀ j, j < i → ns.getD (j + 1) 0 % ns.getD j 0 = 0) ⟨Evl.Ex.refl _, ⟨_, _, rfl⟩, fun j hj => absurd hj (Nat.not_lt_zero j)⟩
        (fun i σ H' _ h => ⟨Evl.ex_l h.1 hp1, Evl.ex_l h.1 hc1⟩) ?_ ?_
      · rintro i _ σ H' _ hi ⟨e1, ⟨y0, z0, rfl⟩, hj⟩ ⟨t, x, y, rfl, ht, rfl, hx, hy⟩
        obtain ⟨rfl, rfl, hi2⟩ := at_zip hx hy
        have lp : 0 < ns.getD i 0 := by
          rw [List.getD_eq_getElem?_getD, List.getElem?_eq_getElem (show i < ns.length by omega)]
          exact hpos _ (List.getElem_mem _)
        refine ⟨t, _, rfl, SqT.of upd_same, rfl, _, _, rfl, _, _, rfl, rfl, ?_⟩
        refine Evl.s_if (b := !decide (ns.getD (i + 1) 0 % ns.getD i 0 = 0)) (Evl.et_test (Evl.ev_is (ev_ne (ev_i (Evl.ev_var rfl) (Evl.ev_var rfl) lp) Evl.ev_c rfl) ?_)) (fun z H2 e2 => ?_) (fun z H2 e2 => ?_)
        · exact decI _ _
        · have e : gap ns = some (ns.getD i 0, ns.getD (i + 1) 0) := gap_some hi2 hj (by have z' := nt z; exact of_decide_eq_false z')
          rw [e] at q
          refine ed_tup (K := K) (ed_cons (ed_int (Evl.ev_var rfl)) (ed_cons (ed_int (Evl.ev_var rfl)) ed_nil)) (show 2 ≤ 100000 by decide) H2 (Evl.Ex.refl H2) _ (fun v H3 e3 hd => ?_)
          exact q v H3 (((e0.trans e1).trans (Evl.Ex.new ht)).trans (e2.trans e3)) hd
        · refine ⟨(e1.trans (Evl.Ex.new ht)).trans e2, ⟨_, _, rfl⟩, fun j hj2 => ?_⟩
          by_cases ej : j = i
          · rw [ej]; exact of_decide_eq_true (nf z)
          · exact hj j (by omega)
      · rintro σ H' ⟨e1, ⟨y0, z0, rfl⟩, hj⟩
        have e : gap ns = none := gap_none hj
        rw [e] at q
        exact q .non H' (e0.trans e1) .non
    · refine zip_goBT (K := K) rfl hp hne fun c hc => ?_
      have hp1 := Evl.ex_t (Evl.Ex.new (o := .tup ((ns.drop 1).map V.int)) hc) hp
      have hc1 : SqT K (upd H c (.tup ((ns.drop 1).map V.int))) c ((ns.drop 1).map V.int) := SqT.of upd_same
      have e0 : Evl.Ex H (upd H c (.tup ((ns.drop 1).map V.int))) := Evl.Ex.new hc
      generalize upd H c (.tup ((ns.drop 1).map V.int)) = H1 at hp1 hc1 e0 ⊢
      refine for_it (walk_zipT (min_zip ns)) (fun i σ H' => Evl.Ex H1 H' ∧ (∃ y z, σ = [some (.ref p), y, z]) ∧ ∀ j, j < i → ns.getD (j + 1) 0 % ns.getD j 0 = 0) ⟨Evl.Ex.refl _, ⟨_, _, rfl⟩, fun j hj => absurd hj (Nat.not_lt_zero j)⟩
        (fun i σ H' _ h => ⟨Evl.ex_t h.1 hp1, Evl.ex_t h.1 hc1⟩) ?_ ?_
      · rintro i _ σ H' _ hi ⟨e1, ⟨y0, z0, rfl⟩, hj⟩ ⟨t, x, y, rfl, ht, rfl, hx, hy⟩
        obtain ⟨rfl, rfl, hi2⟩ := at_zip hx hy
        have lp : 0 < ns.getD i 0 := by
          rw [List.getD_eq_getElem?_getD, List.getElem?_eq_getElem (show i < ns.length by omega)]
          exact hpos _ (List.getElem_mem _)
        refine ⟨t, _, rfl, SqT.of upd_same, rfl, _, _, rfl, _, _, rfl, rfl, ?_⟩
        refine Evl.s_if (b := !decide (ns.getD (i + 1) 0 % ns.getD i 0 = 0)) (Evl.et_test (Evl.ev_is (ev_ne (ev_i (Evl.ev_var rfl) (Evl.ev_var rfl) lp) Evl.ev_c rfl) ?_)) (fun z H2 e2 => ?_) (fun z H2 e2 => ?_)
        · exact decI _ _
        · have e : gap ns = some (ns.getD i 0, ns.getD (i + 1) 0) := gap_some hi2 hj (by have z' := nt z; exact of_decide_eq_false z')
          rw [e] at q
          refine ed_tup (K := K) (ed_cons (ed_int (Evl.ev_var rfl)) (ed_cons (ed_int (Evl.ev_var rfl)) ed_nil)) (show 2 ≤ 100000 by decide) H2 (Evl.Ex.refl H2) _ (fun v H3 e3 hd => ?_)
          exact q v H3 (((e0.trans e1).trans (Evl.Ex.new ht)).trans (e2.trans e3)) hd
        · refine ⟨(e1.trans (Evl.Ex.new ht)).trans e2, ⟨_, _, rfl⟩, fun j hj2 => ?_⟩
          by_cases ej : j = i
          · rw [ej]; exact of_decide_eq_true (nf z)
          · exact hj j (by omega)
      · rintro σ H' ⟨e1, ⟨y0, z0, rfl⟩, hj⟩
        have e : gap ns = none := gap_none hj
        rw [e] at q
        exact q .non H' (e0.trans e1) .non

def spChkN (f : Int → Bool) : Sp := fun vs H Q _ => ∃ a : Int, vs = [.int a] ∧ f a = true ∧ ∀ H', Evl.Ex H H' → Q .non H'
theorem ok_chks (B : Bl mg) (D : Df K mg "check_size" s_check_size ["value"]) (C_is_size : Cl P w K mg base 2 "is_size" (spNum K sizB)) : Cl P w K mg base 3 "check_size" (spChkN sizB) := by
  refine cl_of D sc_check_size (fun vs H Q E h => ?_) (fun f cdv A fr s H vs Q E hr h => ?_)
  · obtain ⟨a, rfl, _⟩ := h
    rfl
  · obtain ⟨a, rfl, ha, q⟩ := h
    refine ⟨_, (pss_one (ps_if (pt_not (pt_val (pcal C_is_size hr (pa_cons (pv 0) pa_nil)))) (pss_one ps_never) pss_nil)), ?_⟩
    exact Evl.s_when (b := false) (Evl.et_is (Evl.et_not (Evl.et_B (ev_call1 (Evl.ev_var rfl) num_i))) (by rw [ha]; rfl)) (fun z => nomatch z) (fun _ H1 e1 => q H1 e1)
theorem chkn_v {f : Int → Bool} {H : Hp} {a : Int} (h : f a = true) : Evl.SpV (spChkN f) [.int a] H .non := fun H1 e Q q E => ⟨a, rfl, h, q⟩
theorem ok_chklot (B : Bl mg) {CL : Addr} (LT_Lot : LotT K mg CL) (D : Df K mg "check_lot" s_check_lot ["value"]) : Cl P w K mg base 1 "check_lot" (spIsLot K CL) := by
  refine cl_of D sc_check_lot (fun vs H Q E h => ?_) (fun f cdv A fr s H vs Q E hr h => ?_)
  · obtain ⟨a, ps, rfl, _⟩ := h
    rfl
  · obtain ⟨a, ps, rfl, hl, q⟩ := h
    refine ⟨_, (pss_one (ps_if (pt_not (pt_val (pe_callB call_isi (by rfl) B.isinstance bt_isinstance (pa_cons (pv 0) (pa_cons (pe_glob (v := V.ref _) (by rfl) LT_Lot.k.g rfl) pa_nil))))) (pss_one ps_never) pss_nil)), ?_⟩
    obtain ⟨dx, t1, t2, d, ts, h1, _⟩ := hl.ex
    exact Evl.s_when (b := false) (Evl.et_is (Evl.et_not (Evl.et_B (ev_isi (Evl.ev_var rfl) Evl.ev_c (.own CL) (fun H1 e => LT_Lot.k.ty (e _ _ h1)) kit_self))) rfl) (fun z => nomatch z) (fun _ H1 e1 => q H1 e1)
theorem ok_arec (B : Bl mg) (T : Cs mg) (D : Df K mg "_are_counts" s__are_counts ["value"]) (C_is_size : Cl P w K mg base 2 "is_size" (spNum K sizB)) : Cl P w K mg base 3 "_are_counts" (spAreC K) := by
  refine cl_of D sc__are_counts (fun vs H Q E h => ?_) (fun f cdv A fr s H vs Q E hr h => ?_)
  · obtain ⟨d, ps, rfl, _⟩ := h
    rfl
  · obtain ⟨d, ps, rfl, hd, hc, q⟩ := h
    refine ⟨_, (pss_cons (ps_if (pw_or (pt_not (pt_val (pe_callB call_isi (by rfl) B.isinstance bt_isinstance (pa_cons (pv 0) (pa_cons (pe_bltn (v := V.ty "dict") (by rfl) B.dict bt_dict rfl) pa_nil))))) (pw_or1 (pt_cmpR op_gt (pe_callB call_lenD (by rfl) B.len bt_len (pa_cons (pv 0) pa_nil)) (pe_gc2 (by rfl) T.c_MAX_SIZES) (nomark _)))).pt (pss_one (ps_ret pe_bl)) pss_nil)
    (pss_one (ps_ret (pe_callB (cr_all rfl) (by rfl) B.all bt_all (pa_cons (pe_lock (pe_lc (own := [("size", 1), ("count", 2)]) (g := (gTup K 2 (gCons (gName 1) (gCons (gName 2) gNil)))) rfl sc__are_counts.nd (pi_items (pv 0)) (blkOk_by (own := [("size", 1), ("count", 2)]) (N := n__are_counts) (sc := defScope s__are_counts) (by decide +kernel)) (fun _ _ _ _ _ => (pg_tup (n := 2) rfl (pgs_cons (pg_name (i := 1) sc__are_counts.nd rfl (by first | exact Or.inl rfl | exact Or.inr rfl)) (pgs_cons (pg_name (i := 2) sc__are_counts.nd rfl (by first | exact Or.inl rfl | exact Or.inr rfl)) pgs_nil)))) (fun _ _ _ _ _ => pts_nil) (fun _ _ _ _ _ => (pe_and (pcal C_is_size hr (pa_cons (pv 1) pa_nil)) (pe_one (pcal C_is_size hr (pa_cons (pv 2) pa_nil))))))) pa_nil))))), ?_⟩
    have hl := hc.ln
    refine Evl.q_when (b := false) (Evl.et_is (Evl.et_or (Evl.et_not (Evl.et_B (ev_isi (Evl.ev_var rfl) Evl.ev_c (.ty _) (fun H1 e => .base (.dK (e _ _ hd))) (kit_ty (r := true) (by decide +kernel)))))
      (fun _ => Evl.et_test (ev_i0 (ev_lenD (Evl.ev_var rfl) hd) Evl.ev_c))) ?_) (fun z => nomatch z) (fun _ H1 e1 => ?_)
    · rw [List.length_map]
      exact decide_eq_false (by omega)
    refine Evl.s_ret (Evl.ev_is (ev_all (K := K) (bs := (List.range (ps.map kc).length).map fun _ => true) (Ck.el_is (el_lcI (fun _ => true) (fun _ => .bl true) (fun _ => Evl.ev_var rfl) (e1 _ _ hd) (by rw [List.length_map]; omega) (fun _ _ => rfl) (fun _ _ _ H2 _ _ H3 _ Q q => q H3 (Evl.Ex.refl H3)) (fun i k x H2 hk _ _ => ?_)) ?_)) ?_) (fun H2 e2 => q H2 (e1.trans e2))
    · rw [List.getElem?_map] at hk
      obtain ⟨p, hp, e⟩ := Option.map_eq_some_iff.mp hk
      obtain ⟨rfl, rfl⟩ := Prod.mk.inj e
      obtain ⟨s1, s2⟩ := hc.ok p (List.mem_of_getElem? hp)
      exact Evl.ev_is (Evl.ev_andV (ev_call1 (Evl.ev_var rfl) num_i) (fun _ => ev_call1 (Evl.ev_var rfl) num_i)) (by rw [s1, s2]; rfl)
    · rw [given_all, List.map_map]
      rfl
    · rw [List.all_map]
      exact congrArg V.bl (List.all_eq_true.mpr fun _ _ => rfl)
theorem ok_lotsizes {CL : Addr} (LT_Lot : LotT K mg CL) (D : Dpr K CL "sizes" "Lot.sizes" s_Lot_sizes) : Pg P w K mg base 1 CL "sizes" (spSizes K CL) := by
  refine pg_of LT_Lot.k.cl D sc_Lot_sizes (fun vs H Q E h => ?_) (fun f cdv A fr s H vs Q E hr h => ?_)
  · obtain ⟨a, ps, rfl, _⟩ := h
    rfl
  · obtain ⟨a, ps, rfl, hl, q⟩ := h
    refine ⟨_, (pss_one (ps_ret (pe_fld (pv 0) rfl))), ?_⟩
    obtain ⟨dx, t1, t2, d, ts, h1, h2, _⟩ := hl.ex
    exact ⟨_, rfl, a, CL, dx, _, _, rfl, h1, LT_Lot.k.cl, LT_Lot.n1, lot_sizes t1 t2 d, q t1 H (Evl.Ex.refl H) h2⟩
theorem ok_lotinit (B : Bl mg) {CL : Addr} (LT_Lot : LotT K mg CL) (D : Din K mg "Lot" CL "Lot.__init__" s_Lot_init ["self", "counts"]) (C__are_counts : Cl P w K mg base 3 "_are_counts" (spAreC K)) :
    Mkc P w K mg base 4 "Lot" CL (spLotI K CL) ∧ Mkc P w K mg base 4 "Lot" CL fun vs H Q E => spLotI K CL (vs ++ [.non]) H Q E := by
  refine mkc_of D sc_Lot_init (fun vs H Q E h => ?_) (fun f cdv A fr s H vs Q E hr h => ?_)
  · obtain ⟨x, dx, v, ps, H0, rfl, _⟩ := h
    rfl
  · obtain ⟨x, dx, v, ps, H0, rfl, e0, x0, hx, hc, hv, q⟩ := h
    refine ⟨_, (pss_cons (ps_set (i := 2) sc_Lot_init.nd rfl (by first | exact Or.inl rfl | exact Or.inr rfl) (pe_ifExp (pt_cmpR op_isN (pv 1) pe_non (nomark _)) pe_dnewK (pv 1)))
    (pss_cons (ps_if (pt_not (pt_val (pcal C__are_counts hr (pa_cons (pv 2) pa_nil)))) (pss_one ps_never) pss_nil)
     (pss_cons (ps_fld (pv 0) (pe_callTy call_tuple_of (by rfl) B.tuple bt_tuple (pa_cons (pe_callB (call_sortedDI rfl) (by rfl) B.sorted bt_sorted (pa_cons (pv 2) pa_nil)) pa_nil)) rfl)
      (pss_cons (ps_fld (pv 0) (pe_callTy call_tupleZ (by rfl) B.tuple bt_tuple (pa_cons (pe_lc (own := [("size", 3)]) (g := (gName 3)) rfl sc_Lot_init.nd (pi_tup (pe_fld (pv 0) rfl)) (blkOk_by (own := [("size", 3)]) (N := n_Lot_init) (sc := defScope s_Lot_init) (by decide +kernel)) (fun _ _ _ _ _ => (pg_name (i := 3) sc_Lot_init.nd rfl (by first | exact Or.inl rfl | exact Or.inr rfl))) (fun _ _ _ _ _ => pts_nil) (fun _ _ _ _ _ => (pe_tup (pa_cons (pv 3) (pa_cons (pe_dget (hu_of hr) (pv 2) (pv 3) (fun _ _ => rfl)) pa_nil))))) pa_nil)) rfl)
       (pss_one (ps_fld (pv 0) (pe_callTy (call_dictZ rfl) (by rfl) B.dict bt_dict (pa_cons (pe_fld (pv 0) rfl) pa_nil)) rfl)))))), ?_⟩
    refine asg_told (ps := ps) rfl (hv.imp id fun ⟨d, h1, h2⟩ => ⟨d, h1, e0 _ _ h2⟩) (fun d H1 e1 hd => ?_)
    refine Evl.q_when (b := false) (Evl.et_is (Evl.et_not (Evl.et_B (ev_call1 (Evl.ev_var rfl) (arec_v hd hc)))) rfl) (fun z => nomatch z) (fun _ H2 e2 => ?_)
    have E2 := e0.trans (e1.trans e2)
    have hx2 := (e1.trans e2) _ _ hx
    have hd2 := e2 _ _ hd
    generalize H2 = H3 at E2 hx2 hd2 ⊢
    clear e2 hd hv hx e1 e0
    have ln := hc.ln
    have xd : d ≠ x := fun z => by rw [z, hx2] at hd2; cases hd2
    refine sq_fld (eu_tupleL (K := K) (el_sortD (Evl.ev_var rfl) (.inl hd2) hc.nd (by omega)) H3 (Evl.Ex.refl H3) _ fun t1 H5 f1 e5 h1' => ?_)
    have E4 := E2.trans e5
    have h1 : SqT K H5 t1 (((srt ps).map Prod.fst).map V.int) := SqT.of h1'
    have hx4 := e5 _ _ hx2
    have hd4 := e5 _ _ hd2
    refine ⟨.ref x, rfl, x, CL, dx, [], rfl, hx4, LT_Lot.k.cl, LT_Lot.n1, by decide, ?_⟩
    have E5 : Evl.Ex H0 (upd H5 x (.ins CL dx (putF "_sizes" (.ref t1) []))) := Evl.Ex.mut E4 x0
    have h15 := sqT_x (u := .ins CL dx (putF "_sizes" (.ref t1) [])) h1 hx4
    have hd5 := up_x (u := .ins CL dx (putF "_sizes" (.ref t1) [])) hd4 xd
    have hx5 : upd H5 x (.ins CL dx (putF "_sizes" (.ref t1) [])) x = some (.ins CL dx (putF "_sizes" (.ref t1) [])) := upd_same
    generalize upd H5 x (.ins CL dx (putF "_sizes" (.ref t1) [])) = H6 at E5 h15 hd5 hx5 ⊢
    clear E4 h1 h1' hx4 hd4 f1 e5
    refine sq_fld (tz_of (K := K) (R := RP K) (fun _ _ _ _ e r => r.ex e) (lc_tupF (K := K) (R := RP K) (c := fun _ => true) (e := fun n => (n, (cnt ps n).getD 0)) (fun _ _ _ _ e r => r.ex e) (fun _ _ _ _ _ _ hl r => r.upd hl) (ev_fldL (v := .ref t1) (Evl.ev_var rfl) hx5 LT_Lot.k.cl LT_Lot.n1 rfl) h15 (by rw [List.length_map, (srt_perm ps).length_eq]; omega) (fun _ => rfl) (fun n _ H7 _ H8 _ Q q => q H8 (Evl.Ex.refl H8)) (fun n hn _ H7 e7 => ?_)) H6 (Evl.Ex.refl H6) _ fun t2 vs H7 f2 e7 hz hf => ?_)
    · obtain ⟨p, hp, rfl⟩ := List.mem_map.mp hn
      have m := (cnt_mem hc.nd).mp (show (p.1, p.2) ∈ ps from (srt_perm ps).mem_iff.mp hp)
      rw [m]
      exact evr_pair (Evl.ev_var rfl) (ev_dget (Evl.ev_var rfl) (Evl.ev_var rfl) (fun H8 e8 => .inl (e8 _ _ (e7 _ _ hd5))) m)
    · rw [List.filter_eq_self.mpr fun _ _ => rfl, pairs_srt hc.nd] at hf
      have E7 := E5.trans e7
      have hx7 := e7 _ _ hx5
      have h17 := Evl.ex_t e7 h15
      refine ⟨.ref x, rfl, x, CL, dx, _, rfl, hx7, LT_Lot.k.cl, LT_Lot.n2, Nat.lt_of_le_of_lt (length_putF "_sizes" (.ref t1) []) (by decide), ?_⟩
      have E8 : Evl.Ex H0 (upd H7 x (.ins CL dx (putF "_pairs" (.ref t2) (putF "_sizes" (.ref t1) [])))) := Evl.Ex.mut E7 x0
      have h18 := sqT_x (u := .ins CL dx (putF "_pairs" (.ref t2) (putF "_sizes" (.ref t1) []))) h17 hx7
      have hz8 := hz.x (u := .ins CL dx (putF "_pairs" (.ref t2) (putF "_sizes" (.ref t1) []))) hx7
      have hf8 := hf.imp fun y b r => RP.x (u := .ins CL dx (putF "_pairs" (.ref t2) (putF "_sizes" (.ref t1) []))) hx7 r
      have hx8 : upd H7 x (.ins CL dx (putF "_pairs" (.ref t2) (putF "_sizes" (.ref t1) []))) x = some (.ins CL dx (putF "_pairs" (.ref t2) (putF "_sizes" (.ref t1) []))) := upd_same
      generalize upd H7 x (.ins CL dx (putF "_pairs" (.ref t2) (putF "_sizes" (.ref t1) []))) = H8 at E8 h18 hz8 hf8 hx8 ⊢
      have lk : (putF "_pairs" (.ref t2) (putF "_sizes" (.ref t1) [])).lookup ("_pairs" : Str) = some (V.ref t2) := by rw [lookup_putF, if_pos rfl]
      have nd := asc_nodup (srt_asc hc.nd)
      refine one_fld (dz_of (K := K) (ev_fldL (Evl.ev_var rfl) hx8 LT_Lot.k.cl LT_Lot.n2 lk) hz8 hf8 nd H8 (Evl.Ex.refl H8) _ fun t3 H9 f3 e9 h9 => ?_)
      have hx9 := e9 _ _ hx8
      have n3 : t3 ≠ x := fun e => by rw [e, hx9] at h9; cases h9
      have le := Nat.le_trans (length_putF "_pairs" (.ref t2) (putF "_sizes" (V.ref t1) [])) (Nat.succ_le_succ (length_putF "_sizes" (.ref t1) []))
      refine ⟨.ref x, rfl, x, CL, dx, _, rfl, hx9, LT_Lot.k.cl, LT_Lot.n3, Nat.lt_of_le_of_lt le (by decide), ?_⟩
      refine q (srt ps) _ (Evl.Ex.mut (E8.trans e9) x0) (srt_perm ps) (srt_asc hc.nd) ⟨dx, t1, t2, t3, vs, upd_same, sqT_x (Evl.ex_t e9 h18) hx9, sqT_x (Evl.ex_t e9 hz8.t) hx9, hf8.imp fun y b r => (r.ex e9).x hx9, .inl (up_x h9 n3)⟩

theorem ok_noa (B : Bl mg) (D : Df K mg "number_of_all" s_number_of_all ["runs"]) : Cl P w K mg base 1 "number_of_all" (spNoa K) := by
  refine cl_of D sc_number_of_all (fun vs H Q E h => ?_) (fun f cdv A fr s H vs Q E hr h => ?_)
  · obtain ⟨t, xs, rs, rfl, _⟩ := h
    rfl
  · obtain ⟨t, xs, rs, rfl, ht, hf, hl, q⟩ := h
    refine ⟨_, (pss_one (ps_ret (pe_callB (cr_sum rfl) (by rfl) B.sum bt_sum (pa_cons (pe_lc (own := [("run", 1)]) (g := (gName 1)) rfl sc_number_of_all.nd (pi_tup (pv 0)) (blkOk_by (own := [("run", 1)]) (N := n_number_of_all) (sc := defScope s_number_of_all) (by decide +kernel)) (fun _ _ _ _ _ => (pg_name (i := 1) sc_number_of_all.nd rfl (by first | exact Or.inl rfl | exact Or.inr rfl))) (fun _ _ _ _ _ => pts_nil) (fun _ _ _ _ _ => (pe_ix (ix_tupK (K := K) rfl) (pv 1) pe_int (fun _ _ => rfl)))) pa_nil)))), ?_⟩
    refine Evl.s_ret (Evl.ev_is (ev_sum (K := K) (ns := rs.map fun r => r.2) (Ck.el_is (el_lcP1 (fun r => .int r.2) (Evl.ev_var rfl) ht hf (by omega) (fun _ => rfl) (fun r hr x H1 e1 hx => ?_)) (by rw [List.map_map]; rfl))) rfl) q
    obtain ⟨t1, rfl, h1⟩ := hx
    exact ev_ixT (Evl.ev_var rfl) Evl.ev_c h1 (atI_nat (j := 1) rfl)
theorem ok_lotnum {CL : Addr} (LT_Lot : LotT K mg CL) (D : Dpr K CL "number" "Lot.number" s_Lot_number) (C_number_of_all : Cl P w K mg base 1 "number_of_all" (spNoa K)) : Pg P w K mg base 2 CL "number" (spLNum K CL) := by
  refine pg_of LT_Lot.k.cl D sc_Lot_number (fun vs H Q E h => ?_) (fun f cdv A fr s H vs Q E hr h => ?_)
  · obtain ⟨a, ps, rfl, _⟩ := h
    rfl
  · obtain ⟨a, ps, rfl, hl, hz, q⟩ := h
    refine ⟨_, (pss_one (ps_ret (pcal C_number_of_all hr (pa_cons (pe_fld (pv 0) rfl) pa_nil)))), ?_⟩
    obtain ⟨dx, t1, t2, d, ts, h1, h2, h3, h4, h5⟩ := hl.ex
    refine ev_fldL (Evl.ev_var rfl) h1 LT_Lot.k.cl LT_Lot.n2 (lot_pairs t1 t2 d) H (Evl.Ex.refl H) _ fun H1 e1 => ⟨t2, ts, ps, rfl, Evl.ex_t e1 h3, h4.imp fun x b r => r.ex e1, hz, fun H2 e2 => q H2 (e1.trans e2)⟩

theorem ok_lotcounts (B : Bl mg) {CL : Addr} (LT_Lot : LotT K mg CL) (D : Dpr K CL "counts" "Lot.counts" s_Lot_counts) : Pg P w K mg base 1 CL "counts" (spCounts K CL) := by
  refine pg_of LT_Lot.k.cl D sc_Lot_counts (fun vs H Q E h => ?_) (fun f cdv A fr s H vs Q E hr h => ?_)
  · obtain ⟨a, ps, rfl, _⟩ := h
    rfl
  · obtain ⟨a, ps, rfl, hl, q⟩ := h
    refine ⟨_, (pss_one (ps_ret (pe_callTy call_dictD (by rfl) B.dict bt_dict (pa_cons (pe_fld (pv 0) rfl) pa_nil)))), ?_⟩
    obtain ⟨dx, t1, t2, d, ts, h1, h2, h3, h4, h5⟩ := hl.ex
    exact ⟨_, rfl, a, CL, dx, _, _, rfl, h1, LT_Lot.k.cl, LT_Lot.n3, lot_counts t1 t2 d, d, ps.map kc, rfl, h5, fun p hp => q p _ (Evl.Ex.new hp) hp upd_same⟩
theorem et_lst {te : TE} {σ : L2.St} {H : Hp} {l : Addr} {xs : List V} (h : Evl.Ev te σ H (.ref l)) (hl : H l = some (.lst xs)) : Evl.EvT (fun σ H Q => te σ H fun x H' => ∃ k, TruV K x H' k ∧ Q k H') σ H (!xs.isEmpty) := fun H1 e _ q => h H1 e _ fun H2 e2 => ⟨_, .inl ⟨xs, SqL.of ((e.trans e2) _ _ hl), rfl⟩, q H2 e2⟩
theorem ok_isrun (B : Bl mg) (D : Df K mg "is_run" s_is_run ["value"]) (C_is_size : Cl P w K mg base 2 "is_size" (spNum K sizB)) : Cl P w K mg base 3 "is_run" (spIsRun K) := by
  refine cl_of D sc_is_run (fun vs H Q E h => ?_) (fun f cdv A fr s H vs Q E hr h => ?_)
  · obtain ⟨t, a, b, rfl, _⟩ := h
    rfl
  · obtain ⟨t, a, b, rfl, ht, q⟩ := h
    refine ⟨_, (pss_one (ps_ret (pe_and (pe_callB call_isi (by rfl) B.isinstance bt_isinstance (pa_cons (pv 0) (pa_cons (pe_bltn (v := V.ty "tuple") (by rfl) B.tuple bt_tuple rfl) pa_nil))) (pe_and (pe_cmpR op_eq (pe_callB call_len_seq (by rfl) B.len bt_len (pa_cons (pv 0) pa_nil)) pe_int (nomark _)) (pe_and (pcal C_is_size hr (pa_cons (pe_ix ix_tup (pv 0) pe_int (fun _ _ => rfl)) pa_nil)) (pe_one (pcal C_is_size hr (pa_cons (pe_ix ix_tup (pv 0) pe_int (fun _ _ => rfl)) pa_nil)))))))), ?_⟩
    exact Evl.s_ret (Evl.ev_is (Evl.ev_andV (a := true) (ev_isi (Evl.ev_var rfl) Evl.ev_c (.ty _) (fun H1 e => ty_tup (Evl.ex_t e ht)) (kit_ty (r := true) (by decide +kernel))) (fun _ => Evl.ev_andV (a := true) (Evl.ev_is (ev_eq (ev_lenT (Evl.ev_var rfl) ht) Evl.ev_c rfl) rfl) (fun _ => Evl.ev_andV (ev_call1 (ev_ixT (Evl.ev_var rfl) Evl.ev_c ht (atI_0 _ _)) num_i) (fun _ => ev_call1 (ev_ixT (Evl.ev_var rfl) Evl.ev_c ht (atI_nat (j := 1) rfl)) num_i)))) rfl) q
theorem isrun_v {H : Hp} {x : V} {a b : Int} (h : RP K H x (a, b)) : Evl.SpV (spIsRun K) [x] H (.bl (sizB a && sizB b)) := fun H1 e Q q E => by
  obtain ⟨t, rfl, ht⟩ := h
  exact ⟨t, a, b, rfl, Evl.ex_t e ht, q⟩
theorem ok_unitsof (B : Bl mg) (D : Df K mg "units_of" s_units_of ["runs", "size"]) : Cl P w K mg base 1 "units_of" (spUnitsOf K) := by
  refine cl_of D sc_units_of (fun vs H Q E h => ?_) (fun f cdv A fr s H vs Q E hr h => ?_)
  · obtain ⟨t, s, xs, rs, rfl, _⟩ := h
    rfl
  · obtain ⟨t, sz, xs, rs, rfl, ht, hf, hl, hp, s0, s1, q⟩ := h
    refine ⟨_, (pss_one (ps_ret (pe_callB (cr_sum rfl) (by rfl) B.sum bt_sum (pa_cons (pe_lc (own := [("run", 2)]) (g := (gName 2)) rfl sc_units_of.nd (pi_tup (pv 0)) (blkOk_by (own := [("run", 2)]) (N := n_units_of) (sc := defScope s_units_of) (by decide +kernel)) (fun _ _ _ _ _ => (pg_name (i := 2) sc_units_of.nd rfl (by first | exact Or.inl rfl | exact Or.inr rfl))) (fun _ _ _ _ _ => pts_nil) (fun _ _ _ _ _ => (pe_op op_mulW (pe_ix (ix_tupK (K := K) rfl) (pv 2) pe_int (fun _ _ => rfl)) (pe_op op_fdivW (pe_ix (ix_tupK (K := K) rfl) (pv 2) pe_int (fun _ _ => rfl)) (pv 1))))) pa_nil)))), ?_⟩
    refine Evl.s_ret (Evl.ev_is (ev_sum (K := K) (ns := rs.map fun r => r.2 * (r.1 / sz)) (Ck.el_is (el_lcP1 (fun r => .int (r.2 * (r.1 / sz))) (Evl.ev_var rfl) ht hf (by omega) (fun _ => rfl) (fun r hr x H1 e1 hx => ?_)) (by rw [List.map_map]; rfl))) rfl) q
    obtain ⟨t1, rfl, h1⟩ := hx
    obtain ⟨p0, p1, p2⟩ := hp r hr
    exact ev_i (g := fun i j => .int (i * j)) (ev_ixT (Evl.ev_var rfl) Evl.ev_c h1 (atI_nat (j := 1) rfl)) (ev_i (g := fun i j => .int (i / j)) (ev_ixT (Evl.ev_var rfl) Evl.ev_c h1 (atI_0 _ _)) (Evl.ev_var rfl) (divW s0 s1)) (mul200 p2 (Nat.lt_of_le_of_lt (by
      have e : (r.1 / sz).natAbs = r.1.natAbs / sz.natAbs := by
        obtain ⟨n, hn⟩ := Int.eq_ofNat_of_zero_le p0
        obtain ⟨m, hm⟩ := Int.eq_ofNat_of_zero_le (show 0 ≤ sz by omega)
        rw [hn, hm]
        rfl
      rw [e]
      exact Nat.div_le_self _ _) p1))
theorem ok_joinr (B : Bl mg) (D : Df K mg "joined_runs" s_joined_runs ["runs"]) : Cl P w K mg base 1 "joined_runs" (spJoinR K) := by
  refine cl_of D sc_joined_runs (fun vs H Q E h => ?_) (fun f cdv A fr s H vs Q E hr h => ?_)
  · obtain ⟨t, xs, rs, rfl, _⟩ := h
    rfl
  · obtain ⟨t, xs, rs, rfl, ht, hf, hl, q⟩ := h
    refine ⟨_, (pss_cons (ps_set (i := 1) sc_joined_runs.nd rfl (by first | exact Or.inl rfl | exact Or.inr rfl) (pe_lst pa_nil))
    (pss_cons (ps_for PassesOwn.never rfl (pi_tup (pv 0)) (pg_name (i := 2) sc_joined_runs.nd rfl (by first | exact Or.inl rfl | exact Or.inr rfl)) (pss_one (ps_if (pw_and (pt_truth (pv 1) (fun _ => rfl)) (pw_and (pt_cmpR op_eq (pe_ix ix_tup (pe_ix ix_list (pv 1) (pe_un un_neg pe_int) (fun _ _ => rfl)) pe_int (fun _ _ => rfl)) (pe_ix ix_tup (pv 2) pe_int (fun _ _ => rfl)) (nomark _)) (pw_and1 (pt_cmpR (op_eqD hr.units) (pe_slice sl_tupA (pe_ix ix_list (pv 1) (pe_un un_neg pe_int) (fun _ _ => rfl)) (po_some pe_int) po_none) (pe_slice sl_tupA (pv 2) (po_some pe_int) po_none) (nomark _))))).pt (pss_one (ps_asg (pe_op op_catA (pe_tup (pa_cons (pe_ix ix_tup (pv 2) pe_int (fun _ _ => rfl)) (pa_cons (pe_op op_add (pe_ix ix_tup (pe_ix ix_list (pv 1) (pe_un un_neg pe_int) (fun _ _ => rfl)) pe_int (fun _ _ => rfl)) (pe_ix ix_tup (pv 2) pe_int (fun _ _ => rfl))) pa_nil))) (pe_slice sl_tupA (pv 2) (po_some pe_int) po_none)) (pg_sub (pv 1) (pe_un un_neg pe_int) set_list))) (pss_one (ps_expr (pe_bm PySem.F.plainAttrs_list PySem.F.slot_list_append PySem.F.type_list_append mt_append (pv 1) (pa_cons (pv 2) pa_nil)))))))
     (pss_one (ps_ret (pe_callTy call_tuple_of (by rfl) B.tuple bt_tuple (pa_cons (pv 1) pa_nil)))))), ?_⟩
    refine ⟨(show 0 ≤ sizeLine by decide), fun l nl => ?_⟩
    have E1 : Evl.Ex H (upd H l (.lst [])) := Evl.Ex.new nl
    have h1 : upd H l (.lst []) l = some (.lst []) := upd_same
    generalize upd H l (.lst []) = H1 at E1 h1 ⊢
    refine ⟨.ref t, rfl, t, rfl, ⟨_, Evl.ex_t E1 ht⟩, ?_⟩
    refine for_it walk_tup (fun i σ H' => Evl.Ex H H' ∧ SqT K H' t xs ∧ ∃ (vs : List V) (t2 : Option V), σ = [some (.ref t), some (.ref l), t2] ∧ H' l = some (.lst vs) ∧ F2 (RP K H') vs (jr (rs.take i))) ⟨E1, Evl.ex_t E1 ht, [], none, rfl, h1, .nil⟩ (fun i σ H' _ h => h.2.1) ?_ ?_
    · rintro i x σ H3' H3 hi ⟨e3, ht3, vs, t2, rfl, hl3, hf3⟩ ⟨rfl, hxi⟩
      obtain ⟨r, hri, hx⟩ := F2.at (hf.imp fun x b r => r.ex e3) hxi
      obtain ⟨hi2, rfl⟩ := List.getElem?_eq_some_iff.mp hri
      have tk : jr (rs.take (i + 1)) = jn1 (jr (rs.take i)) rs[i] := by rw [List.take_add_one, List.getElem?_eq_getElem hi2]; exact jr_snoc _ _
      have ll : vs.length ≤ 2000 := by rw [hf3.len]; refine Nat.le_trans (jr_len _) ?_; rw [List.length_take]; omega
      obtain ⟨u, rfl, hu⟩ := hx
      have fin : ∀ (H5 : Hp) (vs' : List V), Evl.Ex H H5 → H5 l = some (.lst vs') → F2 (RP K H5) vs' (jr (rs.take (i + 1))) → SqT K H5 t xs → Evl.Ex H H5 ∧ SqT K H5 t xs ∧ ∃ (vs : List V) (t2 : Option V), [some (.ref t), some (.ref l), some (.ref u)] = [some (.ref t), some (.ref l), t2] ∧ H5 l = some (.lst vs) ∧ F2 (RP K H5) vs (jr (rs.take (i + 1))) := fun H5 vs' a b c d => ⟨a, d, vs', _, rfl, b, c⟩
      rcases nil_or_snoc (jr (rs.take i)) with en | ⟨as, z, en⟩
      · rw [en] at hf3
        obtain rfl : vs = [] := List.eq_nil_of_length_eq_zero hf3.len
        refine Evl.s_if (b := false) (Evl.et_is (Evl.et_and (b := true) (et_lst (K := K) (Evl.ev_var rfl) hl3) (fun z => nomatch z)) rfl) (fun z => nomatch z) (fun _ H4 e4 => ?_)
        refine Evl.s_app (e4 _ _ hl3) (Evl.ev_var rfl) (Evl.ev_var rfl) (by show 0 < _; omega) (fun H5 e5 => ?_)
        have hl5 := (e4.trans e5) _ _ hl3
        refine fin _ _ (Evl.Ex.mut (e3.trans (e4.trans e5)) nl) upd_same ?_ (sqT_updL (Evl.ex_t (e4.trans e5) ht3) hl5)
        rw [tk, en]
        exact .cons (RP.upd hl5 ⟨u, rfl, Evl.ex_t (e4.trans e5) hu⟩) .nil
      · have jn : jn1 (jr (rs.take i)) rs[i] = if z.1 = rs[i].1 then as ++ [(rs[i].1, z.2 + rs[i].2)] else as ++ [z] ++ [rs[i]] := by
          rw [en]
          unfold jn1
          rw [List.getLast?_concat, List.dropLast_concat]
        rw [en] at hf3
        obtain ⟨ys, y, rfl, fy, ⟨v, rfl, hv⟩⟩ := f2_snoc hf3
        have hlast : ∀ H4, Evl.Ex H3 H4 → Evl.Ev (tOp (rIxL K) (tVar 1) (tUn (rU fun i => V.int (-i)) (tC (V.int 1)))) [some (.ref t), some (.ref l), some (.ref u)] H4 (.ref v) := fun H4 e4 => ev_ixL (Evl.ev_var rfl) (ev_neg Evl.ev_c) (SqL.of (e4 _ _ hl3)) (atI_last _ _)
        have hvs : ∀ H4, Evl.Ex H3 H4 → SqT K H4 v [.int z.1, .int z.2] := fun H4 e4 => Evl.ex_t e4 hv
        have hus : ∀ H4, Evl.Ex H3 H4 → SqT K H4 u [.int rs[i].1, .int rs[i].2] := fun H4 e4 => Evl.ex_t e4 hu
        have c2 : ∀ a b : Int, cutV [V.int a, V.int b] (some 2) none = [] := fun a b => rfl
        have sl : ∀ H4, Evl.Ex H3 H4 → Etu K (tSl (rSlA K) (tVar 2) (tPart (tC (V.int 2))) tNoPart) [some (.ref t), some (.ref l), some (.ref u)] H4 [] := fun H4 e4 => etu_is (etu_sl (etu_ev (Evl.ev_var rfl) (hus H4 e4)) (Evl.eo_some Evl.ev_c) Evl.eo_none) (c2 _ _)
        refine Evl.s_if (b := decide (z.1 = rs[i].1)) (Evl.et_is (Evl.et_and (et_lst (K := K) (Evl.ev_var rfl) hl3) (fun _ => Evl.et_and (Evl.et_test (ev_eq (ev_ixT (hlast _ (Evl.Ex.refl _)) Evl.ev_c (hvs _ (Evl.Ex.refl _)) (atI_0 _ _)) (ev_ixT (Evl.ev_var rfl) Evl.ev_c (hus _ (Evl.Ex.refl _)) (atI_0 _ _)) rfl))
          (fun _ => Evl.et_test (ev_eqD (K := K) (ed_etu (ns := []) (etu_is (etu_sl (etu_ev (hlast _ (Evl.Ex.refl _)) (hvs _ (Evl.Ex.refl _))) (Evl.eo_some Evl.ev_c) Evl.eo_none) (c2 _ _))) (ed_etu (ns := []) (sl _ (Evl.Ex.refl _))) (by decide +kernel) (by decide +kernel))))) ?_) (fun hb H4 e4 => ?_) (fun hb H4 e4 => ?_)
        · rw [show (!(ys ++ [V.ref v]).isEmpty) = true by cases ys <;> rfl, Bool.true_and, show PyData.eqv (.tuple (([] : List Int).map PyData.int)) (.tuple (([] : List Int).map PyData.int)) = true by decide +kernel, Bool.and_true]
          exact decide_eq_decide.mpr ⟨V.int.inj, congrArg V.int⟩
        · have ez := of_decide_eq_true hb
          refine etu_cat (K := K) (etu_of (Evl.eu_tup (vs := [.int rs[i].1, .int (z.2 + rs[i].2)]) (Evl.ea_cons (ev_ixT (Evl.ev_var rfl) Evl.ev_c (hus _ e4) (atI_0 _ _)) (Evl.ea_cons (ev_i0 (g := fun i j => V.int (i + j)) (ev_ixT (hlast _ e4) Evl.ev_c (hvs _ e4) (atI_nat (j := 1) rfl)) (ev_ixT (Evl.ev_var rfl) Evl.ev_c (hus _ e4) (atI_nat (j := 1) rfl))) Evl.ea_nil)) (show 2 ≤ 100000 by decide))) (sl _ e4) (show 2 ≤ 100000 by decide) H4 (Evl.Ex.refl _) _ fun p H5 e5 hp => ?_
          have hl5 := (e4.trans e5) _ _ hl3
          refine ⟨.ref l, rfl, 1, rfl, l, _, -1, ys.length, rfl, rfl, hl5, ?_, ?_⟩
          · rw [List.length_append]
            exact ixN_last ys.length
          · refine fin _ _ (Evl.Ex.mut (e3.trans (e4.trans e5)) nl) upd_same ?_ (sqT_updL (Evl.ex_t (e4.trans e5) ht3) hl5)
            rw [tk, jn, if_pos ez, List.set_append_right _ _ (Nat.le_refl _), Nat.sub_self]
            exact (F2.app (fy.imp fun x b r => RP.upd hl5 (r.ex (e4.trans e5))) (.cons (RP.upd hl5 ⟨p, rfl, hp⟩) .nil))
        · refine Evl.s_app (e4 _ _ hl3) (Evl.ev_var rfl) (Evl.ev_var rfl) (by omega) (fun H5 e5 => ?_)
          have hl5 := (e4.trans e5) _ _ hl3
          refine fin _ _ (Evl.Ex.mut (e3.trans (e4.trans e5)) nl) upd_same ?_ (sqT_updL (Evl.ex_t (e4.trans e5) ht3) hl5)
          rw [tk, jn, if_neg (of_decide_eq_false hb)]
          exact ((fy.app (.cons ⟨v, rfl, hv⟩ .nil)).app (.cons ⟨u, rfl, hu⟩ .nil)).imp fun x b r => RP.upd hl5 (r.ex (e4.trans e5))
    · rintro _ H3 ⟨e3, ht3, vs, t2, rfl, hl3, hf3⟩
      rw [List.take_of_length_le (by rw [← hf.len]; exact Nat.le_refl _)] at hf3
      exact ⟨.ref l, rfl, l, vs, rfl, .inl ⟨SqL.of hl3, fun b nb => q b vs _ (e3.trans (Evl.Ex.new nb)) (SqT.of upd_same) (hf3.imp fun x r h => h.ex (Evl.Ex.new nb))⟩⟩
theorem ok_chksto (B : Bl mg) {CS : Addr} (LT_Store : StoreT K mg CS) (D : Df K mg "check_store" s_check_store ["value"]) : Cg P w K mg base CX0 1 "check_store" (spIsSto K CS) := by
  refine cg_of D sc_check_store (fun vs H Q E h => ?_) (fun f cdv A fr s H vs Q E hr hgd h => ?_)
  · obtain ⟨a, ps, rfl, _⟩ := h
    rfl
  · obtain ⟨a, ps, rfl, hl, q⟩ := h
    refine ⟨_, (pss_one (ps_if (pt_not (pt_val (pe_callB call_isi (by rfl) B.isinstance bt_isinstance (pa_cons (pv 0) (pa_cons (pe_glob (v := V.ref _) (by rfl) LT_Store.k.g rfl) pa_nil))))) (pss_one ps_never) pss_nil)), ?_⟩
    obtain ⟨dx, t1, ts, h1, _⟩ := hl.ex
    exact Evl.s_when (b := false) (Evl.et_is (Evl.et_not (Evl.et_B (ev_isi (Evl.ev_var rfl) Evl.ev_c (.own CS) (fun H1 e => LT_Store.k.ty (e _ _ h1)) kit_self))) rfl) (fun z => nomatch z) (fun _ H1 e1 => q H1 e1)
theorem ok_stoinit (B : Bl mg) (T : Cs mg) {CS : Addr} (LT_Store : StoreT K mg CS) (D : Dis K mg "Store" CS "Store.__init__" s_Store_init "runs") (C_is_run : Cl P w K mg base 3 "is_run" (spIsRun K)) (C_joined_runs : Cl P w K mg base 1 "joined_runs" (spJoinR K)) : Mkc P w K mg base 4 "Store" CS (spStoI K CS) := by
  refine sto_mk (mks_of D sc_Store_init (fun f cdv A fr s H vs Q E hr h => ?_))
  obtain ⟨x, dx, p, xs, rs, H0, rfl, e0, x0, hx, hp, hf, hrn, q⟩ := h
  refine ⟨_, (pss_cons (ps_for PassesOwn.never rfl (pi_tup (pv 1)) (pg_name (i := 2) sc_Store_init.nd rfl (by first | exact Or.inl rfl | exact Or.inr rfl)) (pss_one (ps_if (pt_not (pt_val (pcal C_is_run hr (pa_cons (pv 2) pa_nil)))) (pss_one ps_never) pss_nil)))
    (pss_cons (ps_set (i := 3) sc_Store_init.nd rfl (by first | exact Or.inl rfl | exact Or.inr rfl) (pcal C_joined_runs hr (pa_cons (pv 1) pa_nil)))
     (pss_cons (ps_if (pt_cmpR op_gt (pe_callB call_len_seq (by rfl) B.len bt_len (pa_cons (pv 3) pa_nil)) (pe_gc2 (by rfl) T.c_MAX_RUNS) (nomark _)) (pss_one ps_never) pss_nil)
      (pss_one (ps_fld (pv 0) (pv 3) rfl))))), ?_⟩
  have hln := hrn.ln
  refine ⟨.ref p, rfl, p, rfl, ⟨_, hp⟩, ?_⟩
  refine for_it walk_tup (fun i σ H' => Evl.Ex H H' ∧ SqT K H' p xs ∧ ∃ (t2 : Option V), σ = [some (.ref x), some (.ref p), t2, none]) ⟨Evl.Ex.refl _, hp, none, rfl⟩ (fun i σ H' _ h => h.2.1) ?_ ?_
  · rintro i y σ H3' H3 hi ⟨e3, ht3, t2, rfl⟩ ⟨rfl, hxi⟩
    obtain ⟨r, hri, hy⟩ := F2.at (hf.imp fun x b r => r.ex (e0.trans e3)) hxi
    obtain ⟨s1, s2⟩ := hrn.ok r (List.mem_of_getElem? hri)
    exact Evl.s_when (b := false) (Evl.et_is (Evl.et_not (Evl.et_B (ev_call1 (Evl.ev_var rfl) (isrun_v hy)))) (by rw [s1, s2]; rfl)) (fun z => nomatch z) (fun _ H4 e4 => ⟨e3.trans e4, Evl.ex_t e4 ht3, _, rfl⟩)
  · rintro _ H3 ⟨e3, ht3, t2, rfl⟩
    dsimp only
    refine q_asgP (P := fun v H' => ∃ u ys, v = .ref u ∧ Evl.Ex H H' ∧ SqT K H' u ys ∧ F2 (RP K H') ys (jr rs)) (fun Q2 q2 => ⟨.ref p, rfl, p, xs, rs, rfl, ht3, hf.imp fun x b r => r.ex (e0.trans e3), by omega, fun u ys H4 e4 hu hy => q2 _ _ ⟨u, ys, rfl, e3.trans e4, hu, hy⟩⟩) ?_
    rintro _ H4 ⟨u, ys, rfl, e4, hu, hy⟩
    refine Evl.q_when (b := false) (Evl.et_is (Evl.et_test (ev_i0 (ev_lenT (Evl.ev_var rfl) hu) (Evl.ev_c (v := .int 40)))) ?_) (fun z => nomatch z) (fun _ H5 e5 => ?_)
    · rw [hy.len]
      have := hrn.jl
      exact decide_eq_false (by omega)
    have E5 := e0.trans (e4.trans e5)
    have hx5 := (e4.trans e5) _ _ hx
    refine ⟨.ref u, rfl, .ref x, rfl, x, CS, dx, [], rfl, hx5, LT_Store.k.cl, LT_Store.n1, by decide, ?_⟩
    exact q _ (Evl.Ex.mut E5 x0) ⟨dx, u, ys, upd_same, sqT_x (Evl.ex_t e5 hu) hx5, hy.imp fun y b r => RP.x hx5 (r.ex e5)⟩
theorem ok_stounits {CS : Addr} (LT_Store : StoreT K mg CS) (D : Dop K CS "units" "Store.units" s_Store_units ["self", "size"]) (C_check_size : Cl P w K mg base 3 "check_size" (spChkN sizB)) (C_units_of : Cl P w K mg base 1 "units_of" (spUnitsOf K)) : Og P w K mg base 4 CS "units" ["self", "size"] (spUnits K CS) := by
  refine og_of LT_Store.k.cl D sc_Store_units (fun vs H Q E h => ?_) (fun f cdv A fr s H vs Q E hr h => ?_)
  · obtain ⟨a, z, ps, rfl, _⟩ := h
    rfl
  · obtain ⟨a, z, rs, rfl, hl, ho, hz, q⟩ := h
    refine ⟨_, (pss_cons (ps_expr (pcal C_check_size hr (pa_cons (pv 1) pa_nil)))
    (pss_one (ps_ret (pcal C_units_of hr (pa_cons (pe_fld (pv 0) rfl) (pa_cons (pv 1) pa_nil)))))), ?_⟩
    refine Evl.q_drop (ev_call1 (Evl.ev_var rfl) (chkn_v hz)) (fun H1 e1 => ?_)
    obtain ⟨dx, t, ts, h1, h2, h3⟩ := (hl.up e1).ex
    obtain ⟨z0, z1⟩ := siz_int hz
    have ln := ho.ln
    refine ⟨.ref a, rfl, a, CS, dx, _, _, rfl, h1, LT_Store.k.cl, LT_Store.n1, sto_runs t, .int z, rfl, t, z, ts, rs, rfl, h2, h3, by omega, fun r hr => ?_, z0, z1, fun H2 e2 => q H2 (e1.trans e2)⟩
    obtain ⟨s1, s2, s3⟩ := ho.ok r hr
    obtain ⟨s4, s5⟩ := siz_int s1
    exact ⟨by omega, s5, s3⟩
theorem ev_maxD0 {te : TE} {σ : L2.St} {H : Hp} {ns : List Int} {m : Int} (h : Evl.EvL te σ H (ns.map V.int)) (h0 : ns = [] → m = 0) (h1 : ns ≠ [] → m ∈ ns ∧ ∀ y ∈ ns, y ≤ m) : Evl.Ev (tCKw (rMaxD K) (tCons te tNil) (tCons (tC (.int 0)) tNil)) σ H (.int m) := fun H1 e Q q => h H1 e _ fun p H2 n2 e2 hp => ⟨p, ns, .int 0, rfl, rfl, Evl.sq_of hp, fun z => by
    have z' := h0 z
    rw [z'] at q
    exact q H2 e2, fun x hx hy => by
    have := h1 fun z => by rw [z] at hx; cases hx
    have e : x = m := Int.le_antisymm (this.2 x hx) (hy m this.1)
    rw [e]
    exact q H2 e2⟩
def spSRooms (K : PySem.W.Frag) (C : Addr) : Sp := fun vs H Q _ => ∃ a rs, vs = [.ref a] ∧ StoAt K C H a rs ∧ rs.length ≤ 40 ∧ ∀ p ss H', H p = none → Evl.Ex H H' → ss.Perm rs → SrF ss → H' p = some (.dK ((rms ss).map kc)) → Q (.ref p) H'
theorem rms_len (ss : List (Int × Int)) : (rms ss).length ≤ ss.length := by
  have : ∀ (ss acc : List (Int × Int)), (ss.foldl rm1 acc).length ≤ acc.length + ss.length := fun ss => by
    induction ss with
    | nil => exact fun acc => Nat.le_refl _
    | cons p r ih =>
      intro acc
      have a := ih (rm1 acc p)
      have b := putP_len acc (p.1, (cnt acc p.1).getD 0 + p.2)
      rw [List.length_cons]
      show (r.foldl rm1 (rm1 acc p)).length ≤ _
      unfold rm1 at a b ⊢
      omega
  have z := this ss []
  rw [List.length_nil, Nat.zero_add] at z
  exact z
theorem ok_storooms (B : Bl mg) {CS : Addr} (LT_Store : StoreT K mg CS) (D : Dpr K CS "rooms" "Store.rooms" s_Store_rooms) : Pg P w K mg base 1 CS "rooms" (spSRooms K CS) := by
  refine pg_of LT_Store.k.cl D sc_Store_rooms (fun vs H Q E h => ?_) (fun f cdv A fr s H vs Q E hr h => ?_)
  · obtain ⟨a, rs, rfl, _⟩ := h
    rfl
  · obtain ⟨a, rs, rfl, hl, ln, q⟩ := h
    refine ⟨_, (pss_cons (ps_set (i := 1) sc_Store_rooms.nd rfl (by first | exact Or.inl rfl | exact Or.inr rfl) pe_dnewK)
    (pss_cons (ps_for PassesOwn.never rfl (pi_list (pe_callB cr_sortedPP (by rfl) B.sorted bt_sorted (pa_cons (pe_fld (pv 0) rfl) pa_nil))) (pg_tup (n := 2) rfl (pgs_cons (pg_name (i := 2) sc_Store_rooms.nd rfl (by first | exact Or.inl rfl | exact Or.inr rfl)) (pgs_cons (pg_name (i := 3) sc_Store_rooms.nd rfl (by first | exact Or.inl rfl | exact Or.inr rfl)) pgs_nil))) (pss_one (ps_dput (hu_of hr) (pv 1) (pv 2) (pe_op op_add (pe_dget2 (hu_of hr) (pv 1) (pv 2) pe_int ⟨rfl, rfl, rfl, rfl⟩) (pv 3)) rfl)))
     (pss_one (ps_ret (pv 1))))), ?_⟩
    refine q_setD (ps := []) evd_new (fun g H1 ng e1 hg => ?_)
    obtain ⟨dx, t, ts, h1, h2, h3⟩ := (hl.up e1).ex
    refine q_fall (fun σ' H' => Evl.Ex H H' ∧ ∃ (ss : List (Int × Int)) (x2 x3 : Option V), σ' = [some (.ref a), some (.ref g), x2, x3] ∧ ss.Perm rs ∧ SrF ss ∧ H' g = some (.dK ((rms ss).map kc))) ?_ (fun hz => ?_)
    · rintro σ' H' ⟨e', ss, x2, x3, rfl, pm, so, hg'⟩
      exact ⟨_, rfl, q g ss H' ng e' pm so hg'⟩
    refine evp_srtP (K := K) (rs := rs) (ebp_f (ev_fldL (Evl.ev_var rfl) h1 LT_Store.k.cl LT_Store.n1 (sto_runs t)) (.inr h2) h3) H1 (Evl.Ex.refl H1) _ (fun l vs ss H2 nl e2 hl2 hf2 pm so => ?_)
    have lss : ss.length ≤ 40 := by rw [pm.length_eq]; exact ln
    have gl : g ≠ l := ne_of_none hg nl
    refine ⟨l, rfl, ⟨_, Evl.sq_of hl2⟩, for_list (fun i σ' H' => Evl.Ex H H' ∧ H' l = some (.lst vs) ∧ F2 (RP K H') vs ss ∧ ∃ (x2 x3 : Option V), σ' = [some (.ref a), some (.ref g), x2, x3] ∧ H' g = some (.dK ((rms (ss.take i)).map kc))) ⟨e1.trans e2, hl2, hf2, _, _, rfl, by rw [List.take_zero]; exact e2 _ _ hg⟩ (fun i σ' H' _ h => Evl.sq_of h.2.1) ?_ ?_⟩
    · rintro i x σ' H' hx ⟨e', hl', hf', x2, x3, rfl, hg'⟩
      obtain ⟨r, hri, hr⟩ := hf'.at hx
      obtain ⟨hi2, rfl⟩ := List.getElem?_eq_some_iff.mp hri
      obtain ⟨u, rfl, hu⟩ := hr
      have tk : rms (ss.take (i + 1)) = rm1 (rms (ss.take i)) ss[i] := by rw [List.take_add_one, List.getElem?_eq_getElem hi2]; exact rms_snoc _ _
      have lr : (rms (ss.take i)).length ≤ 40 := Nat.le_trans (rms_len _) (by rw [List.length_take]; omega)
      refine ⟨u, _, rfl, hu, rfl, _, _, rfl, _, _, rfl, rfl, ?_⟩
      refine (ev_i0 (g := fun i j => .int (i + j)) (ev_dget2 (c := 0) (Evl.ev_var rfl) (Evl.ev_var rfl) Evl.ev_c (.inl hg')) (Evl.ev_var rfl)) H' (Evl.Ex.refl H') _ (fun H5 e5 => ⟨.ref g, rfl, .int ss[i].1, rfl, g, _, rfl, DPut.k (k := Sum.inl ss[i].1) (e5 _ _ hg') (by rw [List.length_map, sizeLine_eq]; omega), ?_⟩)
      have gl' : l ≠ g := fun z => gl z.symm
      refine ⟨Evl.Ex.mut (e'.trans e5) ng, by rw [upd_ne gl']; exact e5 _ _ hl', hf'.imp fun x b r => ?_, _, _, rfl, ?_⟩
      · exact (r.ex e5).imp fun t h => ⟨h.1, sqT_dict (e5 _ _ hg') h.2⟩
      · rw [upd_same, tk]
        exact congrArg (fun z => some (HO.dK z)) (putP_kc (rms (ss.take i)) (ss[i].1, (cnt (rms (ss.take i)) ss[i].1).getD 0 + ss[i].2))
    · rintro σ' H' ⟨e', hl', hf', x2, x3, rfl, hg'⟩
      rw [List.take_of_length_le (by rw [← hf'.len]; exact Nat.le_refl _)] at hg'
      exact hz _ _ ⟨e', ss, _, _, rfl, pm, so, hg'⟩

theorem ok_stonum {CS : Addr} (LT_Store : StoreT K mg CS) (D : Dpr K CS "number" "Store.number" s_Store_number) (C_number_of_all : Cl P w K mg base 1 "number_of_all" (spNoa K)) : Pg P w K mg base 2 CS "number" (spSNum K CS) := by
  refine pg_of LT_Store.k.cl D sc_Store_number (fun vs H Q E h => ?_) (fun f cdv A fr s H vs Q E hr h => ?_)
  · obtain ⟨a, ps, rfl, _⟩ := h
    rfl
  · obtain ⟨a, ps, rfl, hl, hz, q⟩ := h
    refine ⟨_, (pss_one (ps_ret (pcal C_number_of_all hr (pa_cons (pe_fld (pv 0) rfl) pa_nil)))), ?_⟩
    obtain ⟨dx, t, ts, h1, h2, h3⟩ := hl.ex
    refine ev_fldL (Evl.ev_var rfl) h1 LT_Store.k.cl LT_Store.n1 (sto_runs t) H (Evl.Ex.refl H) _ fun H1 e1 => ⟨t, ts, ps, rfl, Evl.ex_t e1 h2, h3.imp fun x b r => r.ex e1, hz, fun H2 e2 => q H2 (e1.trans e2)⟩

theorem ok_togN (B : Bl mg) (D : Df K mg "check_together" s_check_together ["sizes"]) (C_first_gap : Cg P w K mg base CX0 1 "first_gap" (spGapB K)) : Cg P w K mg base CX0 2 "check_together" (spTogN K) := by
  refine cg_of D sc_check_together (fun vs H Q E h => ?_) (fun f cdv A fr s H vs Q E hr hgd h => ?_)
  · obtain ⟨p, ns, rfl, _⟩ := h
    rfl
  · obtain ⟨p, ns, rfl, hp, hl, hpos, hg, q⟩ := h
    refine ⟨_, (pss_cons (ps_set (i := 1) sc_check_together.nd rfl (by first | exact Or.inl rfl | exact Or.inr rfl) (pcg C_first_gap hr hgd (pa_cons (pe_callB (cr_sortedSet rfl) (by rfl) B.sorted bt_sorted (pa_cons (pe_callTy (cr_setT rfl) (by rfl) B.set bt_set (pa_cons (pv 0) pa_nil)) pa_nil)) pa_nil)))
    (pss_one (ps_if (pt_cmpR op_notN (pv 1) pe_non (nomark _)) (pss_one ps_never) pss_nil))), ?_⟩
    refine el_tss (K := K) (us := uni ns) (etu_ev (Evl.ev_var rfl) hp) hl uni_pw (fun k => uni_mem) H (Evl.Ex.refl H) _ (fun l H1 _ e1 h1 => ⟨l, uni ns, rfl, .inl (SqL.of h1), fun n hn => hpos n (uni_mem.mp hn), fun v H2 e2 hd => ?_⟩)
    rw [hg] at hd
    rw [dp_non hd]
    exact Evl.s_when (b := false) (Evl.et_test (Evl.ev_is (ev_notN (Evl.ev_var rfl)) rfl)) (fun z => nomatch z) (fun _ H3 e3 => q H3 (e1.trans (e2.trans e3)))
theorem ok_lotunits (B : Bl mg) {CL : Addr} (LT_Lot : LotT K mg CL) (D : Dop K CL "units" "Lot.units" s_Lot_units ["self", "size"]) (C_check_size : Cl P w K mg base 3 "check_size" (spChkN sizB)) (C_units_of : Cl P w K mg base 1 "units_of" (spUnitsOf K)) : Og P w K mg base 4 CL "units" ["self", "size"] (spLotU K CL) := by
  refine og_of LT_Lot.k.cl D sc_Lot_units (fun vs H Q E h => ?_) (fun f cdv A fr s H vs Q E hr h => ?_)
  · obtain ⟨a, z, ps, rfl, _⟩ := h
    rfl
  · obtain ⟨a, z, ps, rfl, hl, hc, hz, hdv, q⟩ := h
    refine ⟨_, (pss_cons (ps_expr (pcal C_check_size hr (pa_cons (pv 1) pa_nil)))
    (pss_cons (ps_if (pt_val (pe_callB (cr_any rfl) (by rfl) B.any bt_any (pa_cons (pe_lc (own := [("each", 2)]) (g := (gName 2)) rfl sc_Lot_units.nd (pi_tup (pe_fld (pv 0) rfl)) (blkOk_by (own := [("each", 2)]) (N := n_Lot_units) (sc := defScope s_Lot_units) (by decide +kernel)) (fun _ _ _ _ _ => (pg_name (i := 2) sc_Lot_units.nd rfl (by first | exact Or.inl rfl | exact Or.inr rfl))) (fun _ _ _ _ _ => pts_nil) (fun _ _ _ _ _ => (pe_and (pe_cmpR op_gt (pv 2) (pv 1) (nomark _)) (pe_one (pe_cmpR op_ne (pe_op op_mod (pv 2) (pv 1)) pe_int (nomark _)))))) pa_nil))) (pss_one ps_never) pss_nil)
     (pss_one (ps_ret (pcal C_units_of hr (pa_cons (pe_fld (pv 0) rfl) (pa_cons (pv 1) pa_nil))))))), ?_⟩
    obtain ⟨z0, z1⟩ := siz_int hz
    have ln := hc.ln
    refine Evl.q_drop (ev_call1 (Evl.ev_var rfl) (chkn_v hz)) (fun H1 e1 => ?_)
    obtain ⟨dx, t1, t2, d, ts, h1, h2, h3, h4, h5⟩ := (hl.up e1).ex
    refine Evl.q_when (b := false) (Evl.et_is (Evl.et_B (ev_any (K := K) (bs := (ps.map Prod.fst).map fun n => decide (z < n) && !decide (n % z = 0)) (Ck.el_is (el_lcY (K := K) (fun n => .bl (decide (z < n) && !decide (n % z = 0))) (etu_ev (ev_fldL (Evl.ev_var rfl) h1 LT_Lot.k.cl LT_Lot.n1 (lot_sizes t1 t2 d)) h2) (by rw [List.length_map]; omega) (fun _ => rfl) (fun n hn H2 e2 => Evl.ev_is (Evl.ev_andV (ev_i0 (Evl.ev_var rfl) (Evl.ev_var rfl)) (fun _ => ev_ne (ev_i (g := fun i j => .int (i % j)) (Evl.ev_var rfl) (Evl.ev_var rfl) z0) Evl.ev_c rfl)) ?_)) (by rw [List.map_map, List.map_map, List.map_map]; rfl)))) ?_) (fun z => nomatch z) (fun _ H2 e2 => ?_)
    · exact congrArg V.bl (congrArg (decide (z < n) && ·) (congrArg (!·) (decide_eq_decide.mpr ⟨V.int.inj, congrArg V.int⟩)))
    · have e : ((ps.map Prod.fst).map fun n => decide (z < n) && !decide (n % z = 0)).any id = false := by
        rw [List.any_map, List.any_eq_false]
        intro n hn
        obtain ⟨r, hr, rfl⟩ := List.mem_map.mp hn
        show ¬ (decide (z < r.1) && !decide (r.1 % z = 0)) = true
        by_cases c : z < r.1
        · rw [decide_eq_true (Int.emod_eq_zero_of_dvd (hdv r hr c)), Bool.not_true, Bool.and_false]
          exact Bool.false_ne_true
        · rw [decide_eq_false c, Bool.false_and]
          exact Bool.false_ne_true
      exact e
    · have hl2 := hl.up (e1.trans e2)
      obtain ⟨dx, t1, t2, d, ts, h1, h2, h3, h4, h5⟩ := hl2.ex
      exact ⟨.ref a, rfl, a, CL, dx, _, _, rfl, h1, LT_Lot.k.cl, LT_Lot.n2, lot_pairs t1 t2 d, .int z, rfl, t2, z, ts, ps, rfl, h3, h4, by omega, fun r hr => ⟨Int.le_of_lt (siz_int (hc.ok r hr).1).1, (siz_int (hc.ok r hr).1).2, (siz_int (hc.ok r hr).2).2⟩, z0, z1, fun H3 e3 => q H3 (e1.trans (e2.trans e3))⟩
theorem ok_chkL {CL CS : Addr} (B : Bl mg) (D : Df K mg "_check" s__check ["lot", "store"]) (C_check_lot : Cl P w K mg base 1 "check_lot" (spIsLot K CL)) (C_check_store : Cg P w K mg base CX0 1 "check_store" (spIsSto K CS)) (C_check_together : Cg P w K mg base CX0 2 "check_together" (spTogN K)) (P_sizes : Pg P w K mg base 1 CL "sizes" (spSizes K CL)) : Cg P w K mg base CX0 3 "_check" (spChkL K CL CS) := by
  refine cg_of D sc__check (fun vs H Q E h => ?_) (fun f cdv A fr s H vs Q E hr hgd h => ?_)
  · obtain ⟨a, b, ps, rs, rfl, _⟩ := h
    rfl
  · obtain ⟨a, b, ps, rs, rfl, hl, hc, hs, q⟩ := h
    refine ⟨_, (pss_cons (ps_expr (pcg (Cl.g C_check_lot) hr hgd (pa_cons (pv 0) pa_nil)))
    (pss_cons (ps_expr (pcg C_check_store hr hgd (pa_cons (pv 1) pa_nil)))
     (pss_one (ps_expr (pcg C_check_together hr hgd (pa_cons (pprop P_sizes hr (pv 0)) pa_nil)))))), ?_⟩
    refine Evl.q_drop (ev_call1 (Evl.ev_var rfl) (chklot_v hl)) (fun H1 e1 => Evl.q_drop (ev_call1 (Evl.ev_var rfl) (fun H2 e2 Q q E => ⟨b, rs, rfl, hs.up (e1.trans e2), q⟩)) (fun H2 e2 => ?_))
    refine etu_sizes (Evl.ev_var rfl) (hl.up (e1.trans e2)) H2 (Evl.Ex.refl H2) _ (fun t H3 e3 ht => ⟨t, _, rfl, ht, ?_, fun n hn => (cts_pos hc.ct n hn).1, hc.uni, fun H4 e4 => q H4 (e1.trans (e2.trans (e3.trans e4)))⟩)
    rw [List.length_map]
    have := hc.ct.ln
    omega
theorem ok_levels {CL CS : Addr} (B : Bl mg) (D : Df K mg "levels_of" s_levels_of ["lot", "store"]) (C__check : Cg P w K mg base CX0 3 "_check" (spChkL K CL CS)) (P_sizes : Pg P w K mg base 1 CL "sizes" (spSizes K CL)) (O_Lot_units : Og P w K mg base 4 CL "units" ["self", "size"] (spLotU K CL)) (O_Store_units : Og P w K mg base 4 CS "units" ["self", "size"] (spUnits K CS)) : Cg P w K mg base CX0 5 "levels_of" (spLvs K CL CS) := by
  refine cg_of D sc_levels_of (fun vs H Q E h => ?_) (fun f cdv A fr s H vs Q E hr hgd h => ?_)
  · obtain ⟨a, b, ps, rs, rfl, _⟩ := h
    rfl
  · obtain ⟨a, b, ps, rs, rfl, hl, hc, hs, ho, q⟩ := h
    refine ⟨_, (pss_cons (ps_expr (pcg C__check hr hgd (pa_cons (pv 0) (pa_cons (pv 1) pa_nil))))
    (pss_one (ps_ret (pe_callTy call_tuple_of (by rfl) B.tuple bt_tuple (pa_cons (pe_lc (own := [("size", 2)]) (g := (gName 2)) rfl sc_levels_of.nd (pi_tup (pprop P_sizes hr (pv 0))) (blkOk_by (own := [("size", 2)]) (N := n_levels_of) (sc := defScope s_levels_of) (by decide +kernel)) (fun _ _ _ _ _ => (pg_name (i := 2) sc_levels_of.nd rfl (by first | exact Or.inl rfl | exact Or.inr rfl))) (fun _ _ _ _ _ => pts_nil) (fun _ _ _ _ _ => (pe_tup (pa_cons (pv 2) (pa_cons (pmeth O_Lot_units hr (pv 0) (pa_cons (pv 2) pa_nil)) (pa_cons (pmeth O_Store_units hr (pv 1) (pa_cons (pv 2) pa_nil)) pa_nil)))))) pa_nil))))), ?_⟩
    have ln := hc.ct.ln
    refine Evl.q_drop (Evl.ev_call (vs := [.ref a, .ref b]) (Evl.ea_cons (Evl.ev_var rfl) (Evl.ea_cons (Evl.ev_var rfl) Evl.ea_nil)) (fun H1 e1 Q q E => ⟨a, b, ps, rs, rfl, hl.up e1, hc, hs.up e1, q⟩)) (fun H1 e1 => ?_)
    have hl1 := hl.up e1
    have hs1 := hs.up e1
    refine st_retTF (K := K) (R := RT3 K) (as := lvs ps rs) (fun _ _ _ _ e r => r.ex e) (fun Q2 q2 => lc_tupE (K := K) (R := RT3 K) (e := fun s => (s, unt ps s, unt rs s)) (fun _ _ _ _ e r => r.ex e) (fun _ _ _ _ _ _ hl r => r.upd hl) (etu_sizes (Evl.ev_var (i := 0) rfl) hl1) (by rw [List.length_map]; omega) (fun _ => rfl) (fun n hn H2 e2 => ?_) H1 (Evl.Ex.refl H1) Q2 q2) (fun l vs H2 e2 hl2 hf => q l vs H2 (e1.trans e2) hl2 hf)
    obtain ⟨n0, n1, _⟩ := cts_pos hc.ct n hn
    exact evr_t3 (Evl.ev_var (i := 2) rfl) (ev_lotU (Evl.ev_var (i := 0) rfl) (Evl.ev_var (i := 2) rfl) (hl1.up e2) hc.ct (siz_of n0 n1) (hc.dv n hn)) (ev_units (Evl.ev_var (i := 1) rfl) (Evl.ev_var (i := 2) rfl) (hs1.up e2) ho (siz_of n0 n1))
theorem ok_barring {CL CS : Addr} (B : Bl mg) (D : Df K mg "barring_sizes" s_barring_sizes ["lot", "store"]) (C_levels_of : Cg P w K mg base CX0 5 "levels_of" (spLvs K CL CS)) : Cg P w K mg base CX0 6 "barring_sizes" (spBrs K CL CS) := by
  refine cg_of D sc_barring_sizes (fun vs H Q E h => ?_) (fun f cdv A fr s H vs Q E hr hgd h => ?_)
  · obtain ⟨a, b, ps, rs, rfl, _⟩ := h
    rfl
  · obtain ⟨a, b, ps, rs, rfl, hl, hc, hs, ho, q⟩ := h
    refine ⟨_, (pss_one (ps_ret (pe_callTy call_tuple_of (by rfl) B.tuple bt_tuple (pa_cons (pe_lc (own := [("size", 2), ("needed", 3), ("given", 4)]) (g := (gTup K 3 (gCons (gName 2) (gCons (gName 3) (gCons (gName 4) gNil))))) rfl sc_barring_sizes.nd (pi_tup (pcg C_levels_of hr hgd (pa_cons (pv 0) (pa_cons (pv 1) pa_nil)))) (blkOk_by (own := [("size", 2), ("needed", 3), ("given", 4)]) (N := n_barring_sizes) (sc := defScope s_barring_sizes) (by decide +kernel)) (fun _ _ _ _ _ => (pg_tup (n := 3) rfl (pgs_cons (pg_name (i := 2) sc_barring_sizes.nd rfl (by first | exact Or.inl rfl | exact Or.inr rfl)) (pgs_cons (pg_name (i := 3) sc_barring_sizes.nd rfl (by first | exact Or.inl rfl | exact Or.inr rfl)) (pgs_cons (pg_name (i := 4) sc_barring_sizes.nd rfl (by first | exact Or.inl rfl | exact Or.inr rfl)) pgs_nil))))) (fun _ _ _ _ _ => (pts_one (pt_cmpR op_gt (pv 3) (pv 4) (nomark _)))) (fun _ _ _ _ _ => (pv 2))) pa_nil)))), ?_⟩
    have ln := hc.ct.ln
    refine eu_tupleL (K := K) (Ck.el_is (el_lcT3 (K := K) (qs := lvs ps rs) (fun q => decide (q.2.1 > q.2.2)) (fun q => .int q.1) (fun H1 e1 Q q => ?_) (by unfold lvs; rw [List.length_map, List.length_map]; omega) (fun _ _ _ => rfl) (fun q _ H1 _ => Evl.et_test (ev_i0 (Evl.ev_var rfl) (Evl.ev_var rfl))) (fun q _ H1 _ => Evl.ev_var rfl)) (ys := (brs ps rs).map V.int) (by rw [← brs_lvs, List.map_map]; rfl)) H (Evl.Ex.refl H) _ fun t H1 n1 e1 ht => q t H1 e1 (SqT.of ht)
    exact ⟨.ref a, rfl, .ref b, rfl, a, b, ps, rs, rfl, hl.up e1, hc, hs.up e1, ho, fun t ts H2 e2 ht hf => q t ts H2 e2 ht hf⟩
theorem ok_fits {CL CS : Addr} (B : Bl mg) (D : Df K mg "fits" s_fits ["lot", "store"]) (C_barring_sizes : Cg P w K mg base CX0 6 "barring_sizes" (spBrs K CL CS)) : Cg P w K mg base CX0 7 "fits" (spFits K CL CS) := by
  refine cg_of D sc_fits (fun vs H Q E h => ?_) (fun f cdv A fr s H vs Q E hr hgd h => ?_)
  · obtain ⟨a, b, ps, rs, rfl, _⟩ := h
    rfl
  · obtain ⟨a, b, ps, rs, rfl, hl, hc, hs, ho, q⟩ := h
    refine ⟨_, (pss_one (ps_ret (pe_cmpR (op_eqD hr.units) (pcg C_barring_sizes hr hgd (pa_cons (pv 0) (pa_cons (pv 1) pa_nil))) (pe_tup pa_nil) (nomark _)))), ?_⟩
    refine Evl.s_ret (Evl.ev_is (ev_eqD (K := K) (ed_etu (ns := brs ps rs) (fun H1 e1 Q q => ?_)) (e := .tuple []) (ed_tup ed_nil) (shaped_tints _) (by decide +kernel)) (by rw [eqv_tnil, fit_brs])) q
    exact ⟨.ref a, rfl, .ref b, rfl, a, b, ps, rs, rfl, hl.up e1, hc, hs.up e1, ho, fun t H2 e2 ht => q t H2 e2 ht⟩

theorem ok_btw (B : Bl mg) (D : Df K mg "check_between" s_check_between ["value", "low", "high"]) (C_is_integer : Cl P w K mg base 1 "is_integer" (spNum K intB)) : Cl P w K mg base 2 "check_between" spBtw := by
  refine cl_of D sc_check_between (fun vs H Q E h => ?_) (fun f cdv A fr s H vs Q E hr h => ?_)
  · obtain ⟨v, lo, hi, rfl, _⟩ := h
    rfl
  · obtain ⟨v, lo, hi, rfl, hv, h1, h2, q⟩ := h
    refine ⟨_, (pss_one (ps_if (pw_or (pt_not (pt_val (pcal C_is_integer hr (pa_cons (pv 0) pa_nil)))) (pw_or1 (pt_not (pt_chain op_le op_le (pv 1) (pv 0) (pv 2))))).pt (pss_one ps_never) pss_nil)), ?_⟩
    refine Evl.s_when (b := false) (Evl.et_is (Evl.et_or (Evl.et_not (Evl.et_B (ev_call1 (Evl.ev_var rfl) (num_i (K := K) (p := intB) (i := v)))) ) (fun _ => Evl.et_not (Evl.et_test (ev_chain (Evl.ev_var rfl) (Evl.ev_var rfl) (Evl.ev_var rfl))))) ?_) (fun z => nomatch z) (fun _ H1 e1 => q H1 e1)
    unfold intB
    rw [decide_eq_true hv, decide_eq_true h1, decide_eq_true h2]
    rfl
theorem ok_lotadd (B : Bl mg) (T : Cs mg) {CL : Addr} (LT_Lot : LotT K mg CL) (D : Dop K CL "__add__" "Lot.__add__" s_Lot_add ["self", "other"]) (M_Lot : Mkc P w K mg base 4 "Lot" CL (spLotI K CL)) : Og P w K mg base 6 CL "__add__" ["self", "other"] (spLotAdd K CL) := by
  refine og_of LT_Lot.k.cl D sc_Lot_add (fun vs H Q E h => ?_) (fun f cdv A fr s H vs Q E hr h => ?_)
  · obtain ⟨a, b, ps, qs, rfl, _⟩ := h
    rfl
  · obtain ⟨a, b, ps, qs, rfl, hl, hm, lp, lq, hc, q⟩ := h
    refine ⟨_, (pss_cons (ps_if (pt_not (pt_val (pe_callB call_isi (by rfl) B.isinstance bt_isinstance (pa_cons (pv 1) (pa_cons (pe_glob (v := V.ref _) (by rfl) LT_Lot.k.g rfl) pa_nil))))) (pss_one ps_never) pss_nil)
    (pss_cons (ps_set (i := 2) sc_Lot_add.nd rfl (by first | exact Or.inl rfl | exact Or.inr rfl) (pe_op op_catA (pe_fld (pv 0) rfl) (pe_fld (pv 1) rfl)))
     (pss_cons (ps_setDc (i := 3) (own := [("size", 4)]) (g := (gName 4)) rfl sc_Lot_add.nd rfl rfl (sw_trueD rfl rfl rfl (by decide +kernel)) (pi_tup (pv 2)) (blkOk_by (own := [("size", 4)]) (N := n_Lot_add) (sc := defScope s_Lot_add) (by decide +kernel)) (fun _ _ _ _ _ => (pg_name (i := 4) sc_Lot_add.nd rfl (by first | exact Or.inl rfl | exact Or.inr rfl))) (fun _ _ _ _ _ => pts_nil) (fun _ _ _ _ _ => (pv 4)) (fun _ _ _ _ _ => (pe_op op_add (pe_dget2 (hu_of hr) (pe_fldK (K := K) rfl (pv 0) rfl) (pv 4) pe_int ⟨rfl, rfl, rfl, rfl⟩) (pe_dget2 (hu_of hr) (pe_fldK (K := K) rfl (pv 1) rfl) (pv 4) pe_int ⟨rfl, rfl, rfl, rfl⟩))))
      (pss_cons (ps_if (pt_cmpR op_gt (pe_callB call_lenD (by rfl) B.len bt_len (pa_cons (pv 3) pa_nil)) (pe_gc2 (by rfl) T.c_MAX_SIZES) (nomark _)) (pss_one ps_never) pss_nil)
       (pss_one (ps_ret (pmk M_Lot hr (pa_cons (pv 3) pa_nil)))))))), ?_⟩
    obtain ⟨dy, u1, u2, bd, us, g1, _⟩ := hm.ex
    refine Evl.q_when (b := false) (Evl.et_is (Evl.et_not (Evl.et_B (ev_isi (Evl.ev_var rfl) Evl.ev_c (.own CL) (fun H1 e => LT_Lot.k.ty (e _ _ g1)) kit_self))) rfl) (fun z => nomatch z) (fun _ H1 e1 => ?_)
    obtain ⟨dx, t1, t2, ad, ts, h1, h2, h3, h4, h5⟩ := (hl.up e1).ex
    obtain ⟨dy, u1, u2, bd, us, g1, g2, g3, g4, g5⟩ := (hm.up e1).ex
    refine q_asgP (P := fun v H' => ∃ p, v = .ref p ∧ Evl.Ex H1 H' ∧ SqT K H' p ((ps.map Prod.fst ++ qs.map Prod.fst).map V.int)) (fun Q2 q2 => etu_cat (K := K) (etu_ev (ev_fldL (Evl.ev_var rfl) h1 LT_Lot.k.cl LT_Lot.n1 (lot_sizes t1 t2 ad)) h2) (etu_ev (ev_fldL (Evl.ev_var rfl) g1 LT_Lot.k.cl LT_Lot.n1 (lot_sizes u1 u2 bd)) g2) (by rw [List.length_map, List.length_map, List.length_map, List.length_map]; omega) H1 (Evl.Ex.refl H1) _ fun p H2 e2 hp => q2 _ _ ⟨p, rfl, e2, by rw [List.map_append]; exact hp⟩) ?_
    rintro _ H2 ⟨p, rfl, e2, hp⟩
    have h12 := e2 _ _ h1
    have g12 := e2 _ _ g1
    have h52 := h5.up e2
    have g52 := g5.up e2
    refine q_asgP (P := fun v H' => ∃ d, v = .ref d ∧ Evl.Ex H2 H' ∧ H' d = some (.dK ((sumP ps qs).map kc))) (fun Q2 q2 => (dc_tupN (K := K) (ns := ps.map Prod.fst ++ qs.map Prod.fst) (fun _ => true) (fun n => (n, sumC ps qs n)) (etu_ev (Evl.ev_var rfl) hp) (by rw [List.length_append, List.length_map, List.length_map]; omega) (fun _ => rfl) (fun n _ H3 _ H4 _ Q q => q H4 (Evl.Ex.refl H4)) (fun n _ _ H3 _ => Evl.ev_var rfl) (fun n _ _ H3 e3 => ?_)).is (qs := sumP ps qs) (by rw [List.filter_eq_self.mpr fun _ _ => rfl]; rfl) H2 (Evl.Ex.refl H2) _ fun d H3 _ e3 hd => q2 _ _ ⟨d, rfl, e3, hd⟩) ?_
    · exact ev_i0 (g := fun i j => .int (i + j)) (ev_dget2 (c := 0) (ev_fldL (Evl.ev_var rfl) (e3 _ _ h12) LT_Lot.k.cl LT_Lot.n3 (lot_counts t1 t2 ad)) (Evl.ev_var rfl) Evl.ev_c (h52.up e3)) (ev_dget2 (c := 0) (ev_fldL (Evl.ev_var rfl) (e3 _ _ g12) LT_Lot.k.cl LT_Lot.n3 (lot_counts u1 u2 bd)) (Evl.ev_var rfl) Evl.ev_c (g52.up e3))
    rintro _ H3 ⟨d, rfl, e3, hd⟩
    have hln := hc.ln
    refine Evl.q_when (b := false) (Evl.et_is (Evl.et_test (ev_i0 (ev_lenD (Evl.ev_var rfl) hd) (Evl.ev_c (v := .int 12)))) (decide_eq_false (by rw [List.length_map]; omega))) (fun z => nomatch z) (fun _ H4 e4 => ?_)
    exact lot_make (K := K) (ps := sumP ps qs) (fun Q2 q2 => ⟨_, rfl, q2 d H4 (Evl.Ex.refl H4) (e4 _ _ hd)⟩) hc _ fun c ts' H5 e5 hp' ha' hl' => q c ts' H5 ((e1.trans e2).trans (e3.trans (e4.trans e5))) hp' ha' hl'

theorem numR_app (as bs : List (Int × Int)) : numR (as ++ bs) = numR as + numR bs := by
  unfold numR
  rw [List.map_append, List.sum_append]
theorem prt_app (f l : Int) : ∀ (as : List (Int × Int)) (s : Int) (r : Int × Int), prt s f l (as ++ [r]) = prt s f l as ++ (if mny (s + numR as) r.2 f l > 0 then [(r.1, mny (s + numR as) r.2 f l)] else [])
  | [], s, r => by
    rw [show numR [] = 0 from rfl, Int.add_zero]
    show (if mny s r.2 f l > 0 then [(r.1, mny s r.2 f l)] else []) ++ [] = _
    rw [List.append_nil]
    rfl
  | x :: as, s, r => by
    show (if mny s x.2 f l > 0 then [(x.1, mny s x.2 f l)] else []) ++ prt (s + x.2) f l (as ++ [r]) = (_ ++ prt (s + x.2) f l as) ++ _
    rw [prt_app f l as (s + x.2) r, numR_cons, ← Int.add_assoc, List.append_assoc]
theorem prt_len (s f l : Int) (rs : List (Int × Int)) : (prt s f l rs).length ≤ rs.length := by
  have := (prt_sub f l rs s).length_le
  rwa [List.length_map, List.length_map] at this
def spPrt (K : PySem.W.Frag) : Sp := fun vs H Q _ => ∃ (t : Addr) (xs : List V) (rs : List (Int × Int)) (f l : Int), vs = [.ref t, .int f, .int l] ∧ SqT K H t xs ∧ F2 (RP K H) xs rs ∧ rs.length ≤ 2000 ∧ ∀ p ys H', Evl.Ex H H' → TupZ H' p ys → F2 (RP K H') ys (prt 0 f l rs) → Q (.ref p) H'
theorem ok_prt (B : Bl mg) (D : Df K mg "part_of_runs" s_part_of_runs ["runs", "first", "last"]) : Cl P w K mg base 1 "part_of_runs" (spPrt K) := by
  refine cl_of D sc_part_of_runs (fun vs H Q E h => ?_) (fun f cdv A fr s H vs Q E hr h => ?_)
  · obtain ⟨t, xs, rs, a, b, rfl, _⟩ := h
    rfl
  · obtain ⟨t, xs, rs, a, b, rfl, ht, hf, hln, q⟩ := h
    refine ⟨_, (pss_cons (ps_set (i := 3) sc_part_of_runs.nd rfl (by first | exact Or.inl rfl | exact Or.inr rfl) (pe_lst pa_nil))
    (pss_cons (ps_set (i := 4) sc_part_of_runs.nd rfl (by first | exact Or.inl rfl | exact Or.inr rfl) pe_int)
     (pss_cons (ps_for PassesOwn.never rfl (pi_tup (pv 0)) (pg_name (i := 5) sc_part_of_runs.nd rfl (by first | exact Or.inl rfl | exact Or.inr rfl)) (pss_cons (ps_set (i := 6) sc_part_of_runs.nd rfl (by first | exact Or.inl rfl | exact Or.inr rfl) (pe_op op_add (pv 4) (pe_ix ix_tup (pv 5) pe_int (fun _ _ => rfl))))
    (pss_cons (ps_set (i := 7) sc_part_of_runs.nd rfl (by first | exact Or.inl rfl | exact Or.inr rfl) (pe_op op_sub (pe_callB (call_min2 rfl) (by rfl) B.min bt_min (pa_cons (pv 6) (pa_cons (pv 2) pa_nil))) (pe_callB (call_max2 rfl) (by rfl) B.max bt_max (pa_cons (pv 4) (pa_cons (pv 1) pa_nil)))))
     (pss_cons (ps_if (pt_cmpR op_gt (pv 7) pe_int (nomark _)) (pss_one (ps_expr (pe_bm PySem.F.plainAttrs_list PySem.F.slot_list_append PySem.F.type_list_append mt_append (pv 3) (pa_cons (pe_op op_catA (pe_tup (pa_cons (pe_ix ix_tup (pv 5) pe_int (fun _ _ => rfl)) (pa_cons (pv 7) pa_nil))) (pe_slice sl_tupA (pv 5) (po_some pe_int) po_none)) pa_nil)))) pss_nil)
      (pss_one (ps_set (i := 4) sc_part_of_runs.nd rfl (by first | exact Or.inl rfl | exact Or.inr rfl) (pv 6)))))))
      (pss_one (ps_ret (pe_callTy call_tupleZ (by rfl) B.tuple bt_tuple (pa_cons (pv 3) pa_nil))))))), ?_⟩
    refine ⟨(show 0 ≤ sizeLine by decide), fun l nl => ?_⟩
    have E1 : Evl.Ex H (upd H l (.lst [])) := Evl.Ex.new nl
    have h1 : upd H l (.lst []) l = some (.lst []) := upd_same
    generalize upd H l (.lst []) = H1 at E1 h1 ⊢
    refine Evl.q_asg Evl.ev_c (fun H2 e2 => ?_)
    refine ⟨.ref t, rfl, t, rfl, ⟨_, Evl.ex_t (E1.trans e2) ht⟩, ?_⟩
    refine for_it walk_tup (fun i σ H' => Evl.Ex H H' ∧ SqT K H' t xs ∧ ∃ (vs : List V) (t5 t6 t7 : Option V), σ = [some (.ref t), some (.int a), some (.int b), some (.ref l), some (.int (numR (rs.take i))), t5, t6, t7] ∧ H' l = some (.lst vs) ∧ F2 (RP K H') vs (prt 0 a b (rs.take i))) ⟨E1.trans e2, Evl.ex_t (E1.trans e2) ht, [], none, none, none, rfl, e2 _ _ h1, .nil⟩ (fun i σ H' _ h => h.2.1) ?_ ?_
    · rintro i x σ H3' H3 hi ⟨e3, ht3, vs, t5, t6, t7, rfl, hl3, hf3⟩ ⟨rfl, hxi⟩
      obtain ⟨r, hri, hx⟩ := F2.at (hf.imp fun x b r => r.ex e3) hxi
      obtain ⟨hi2, rfl⟩ := List.getElem?_eq_some_iff.mp hri
      obtain ⟨u, rfl, hu⟩ := hx
      have tk : rs.take (i + 1) = rs.take i ++ [rs[i]] := by rw [List.take_add_one, List.getElem?_eq_getElem hi2]; rfl
      have ll : vs.length ≤ 2000 := by rw [hf3.len]; refine Nat.le_trans (prt_len _ _ _ _) ?_; rw [List.length_take]; omega
      have ap := prt_app a b (rs.take i) 0 rs[i]
      rw [Int.zero_add, ← tk] at ap
      have nx : numR (rs.take (i + 1)) = numR (rs.take i) + rs[i].2 := by
        rw [tk, numR_app, numR_cons, show numR [] = 0 from rfl, Int.add_zero]
      have c2 : cutV [V.int rs[i].1, V.int rs[i].2] (some 2) none = [] := rfl
      refine Evl.q_asg (v := .int (numR (rs.take i) + rs[i].2)) (ev_i0 (g := fun i j => V.int (i + j)) (Evl.ev_var rfl) (ev_ixT (Evl.ev_var rfl) Evl.ev_c hu (atI_nat (j := 1) rfl))) (fun H4 e4 => ?_)
      refine Evl.q_asg (v := .int (mny (numR (rs.take i)) rs[i].2 a b)) (ev_i0 (g := fun i j => V.int (i - j)) (ev_min (Evl.ev_var rfl) (Evl.ev_var rfl)) (Evl.ev_max2 (Evl.ev_var rfl) (Evl.ev_var rfl))) (fun H5 e5 => ?_)
      refine Evl.q_when (b := decide (mny (numR (rs.take i)) rs[i].2 a b > 0)) (Evl.et_test (ev_i0 (g := fun i j => .bl (decide (i > j))) (Evl.ev_var rfl) Evl.ev_c)) (fun c H6 e6 => ?_) (fun c H6 e6 => ?_)
      · rw [if_pos (of_decide_eq_true c)] at ap
        have E6 := e4.trans (e5.trans e6)
        refine ⟨_, rfl, ?_⟩
        refine ⟨.inl ⟨rfl, vs, SqL.of (E6 _ _ hl3)⟩, ?_⟩
        refine etu_cat (K := K) (etu_of (Evl.eu_tup (vs := [.int rs[i].1, .int (mny (numR (rs.take i)) rs[i].2 a b)]) (Evl.ea_cons (ev_ixT (Evl.ev_var rfl) Evl.ev_c (Evl.ex_t E6 hu) (atI_0 _ _)) (Evl.ea_cons (Evl.ev_var rfl) Evl.ea_nil)) (show 2 ≤ 100000 by decide))) (etu_is (etu_sl (etu_ev (Evl.ev_var rfl) (Evl.ex_t E6 hu)) (Evl.eo_some Evl.ev_c) Evl.eo_none) c2) (show 2 ≤ 100000 by decide) H6 (Evl.Ex.refl _) _ fun p H7 e7 hp => ?_
        have hl7 := (E6.trans e7) _ _ hl3
        refine ⟨l, vs, _, rfl, rfl, hl7, Nat.lt_of_le_of_lt ll (by decide), ?_⟩
        refine Evl.s_asg (v := .int (numR (rs.take i) + rs[i].2)) (Evl.ev_var rfl) (fun H8 e8 => ⟨(Evl.Ex.mut (e3.trans (E6.trans e7)) nl).trans e8, Evl.ex_t e8 (sqT_updL (Evl.ex_t (E6.trans e7) ht3) hl7), vs ++ [.ref p], _, _, _, by rw [nx]; rfl, e8 _ _ upd_same, ?_⟩)
        rw [ap]
        exact ((hf3.imp fun x b r => r.ex (E6.trans e7)).app (.cons ⟨p, rfl, hp⟩ .nil)).imp fun x b r => (RP.upd hl7 r).ex e8
      · rw [if_neg (of_decide_eq_false c), List.append_nil] at ap
        have E6 := e4.trans (e5.trans e6)
        refine Evl.s_asg (v := .int (numR (rs.take i) + rs[i].2)) (Evl.ev_var rfl) (fun H8 e8 => ⟨e3.trans (E6.trans e8), Evl.ex_t (E6.trans e8) ht3, vs, _, _, _, by rw [nx]; rfl, (E6.trans e8) _ _ hl3, ?_⟩)
        rw [ap]
        exact hf3.imp fun x b r => r.ex (E6.trans e8)
    · rintro _ H3 ⟨e3, ht3, vs, t5, t6, t7, rfl, hl3, hf3⟩
      rw [List.take_of_length_le (by rw [← hf.len]; exact Nat.le_refl _)] at hf3
      exact ⟨.ref l, rfl, l, vs, rfl, SqL.of hl3, fun b o nb oc od => q b vs _ (e3.trans (Evl.Ex.new nb)) ⟨o, upd_same, oc, od⟩ (hf3.imp fun x r h => h.ex (Evl.Ex.new nb))⟩
theorem btw_v {H : Hp} {v lo hi : Int} (h1 : v.natAbs < 10 ^ 200) (h2 : lo ≤ v) (h3 : v ≤ hi) : Evl.SpV spBtw [.int v, .int lo, .int hi] H .non := fun H1 e Q q E => ⟨v, lo, hi, rfl, h1, h2, h3, q⟩
def Ezp (K : PySem.W.Frag) (te : TE) (σ : L2.St) (H : Hp) (rs : List (Int × Int)) : Prop := ∀ H1, Evl.Ex H H1 → ∀ Q : VK, (∀ p ys H2, Evl.Ex H1 H2 → TupZ H2 p ys → F2 (RP K H2) ys rs → Q (.ref p) H2) → te σ H1 Q
theorem ezp_prt {ta : TA} {σ : L2.St} {H : Hp} {t : Addr} {xs : List V} {rs : List (Int × Int)} {f l : Int} (ha : Evl.EvA ta σ H [.ref t, .int f, .int l]) (ht : SqT K H t xs) (hf : F2 (RP K H) xs rs) (hl : rs.length ≤ 2000) : Ezp K (tCall (spPrt K) [] E0 ta) σ H (prt 0 f l rs) := fun H1 e Q q => ha H1 e _ fun H2 e2 =>
  ⟨t, xs, rs, f, l, rfl, Evl.ex_t (e.trans e2) ht, hf.imp fun x b r => r.ex (e.trans e2), hl, fun p ys H3 e3 hp hy => q p ys H3 (e2.trans e3) hp hy⟩
def spSPart (K : PySem.W.Frag) (C : Addr) : Sp := fun vs H Q _ => ∃ a rs m n, vs = [.ref a, .int m, .int n] ∧ StoAt K C H a rs ∧ rs.length ≤ 2000 ∧ m.natAbs < 10 ^ 200 ∧ n.natAbs < 10 ^ 200 ∧ 0 ≤ m ∧ m ≤ n ∧ n ≤ numR rs ∧ Rns (prt 0 m n rs) ∧ ∀ c H', Evl.Ex H H' → StoAt K C H' c (jr (prt 0 m n rs)) → Q (.ref c) H'
theorem ok_stopart {CS : Addr} (B : Bl mg) (LT_Store : StoreT K mg CS) (D : Dop K CS "part" "Store.part" s_Store_part ["self", "first", "last"]) (C_check_between : Cl P w K mg base 2 "check_between" spBtw) (C_part_of_runs : Cl P w K mg base 1 "part_of_runs" (spPrt K)) (P_Store_number : Pg P w K mg base 2 CS "number" (spSNum K CS)) (M_Store : Mkc P w K mg base 4 "Store" CS (spStoI K CS)) : Og P w K mg base 6 CS "part" ["self", "first", "last"] (spSPart K CS) := by
  refine og_of LT_Store.k.cl D sc_Store_part (fun vs H Q E h => ?_) (fun f cdv A fr s H vs Q E hr h => ?_)
  · obtain ⟨a, ps, i, x, rfl, _⟩ := h
    rfl
  · obtain ⟨a, rs, m, n, rfl, hl, ln, m1, n1, m0, mn, nn, hR, q⟩ := h
    refine ⟨_, (pss_cons (ps_expr (pcal C_check_between hr (pa_cons (pv 1) (pa_cons pe_int (pa_cons (pprop P_Store_number hr (pv 0)) pa_nil)))))
    (pss_cons (ps_expr (pcal C_check_between hr (pa_cons (pv 2) (pa_cons (pv 1) (pa_cons (pprop P_Store_number hr (pv 0)) pa_nil)))))
     (pss_cons (ps_set (i := 3) sc_Store_part.nd rfl (by first | exact Or.inl rfl | exact Or.inr rfl) (pcal C_part_of_runs hr (pa_cons (pe_fld (pv 0) rfl) (pa_cons (pv 1) (pa_cons (pv 2) pa_nil)))))
      (pss_one (ps_ret (pmkS M_Store hr (pv 3))))))), ?_⟩
    refine Evl.q_drop (Evl.ev_call (Evl.ea_cons (Evl.ev_var rfl) (Evl.ea_cons Evl.ev_c (Evl.ea_cons (ev_snum (Evl.ev_var rfl) hl (by omega)) Evl.ea_nil))) (btw_v m1 m0 (by show m ≤ numR rs; omega))) (fun H1 e1 => ?_)
    refine Evl.q_drop (Evl.ev_call (Evl.ea_cons (Evl.ev_var rfl) (Evl.ea_cons (Evl.ev_var rfl) (Evl.ea_cons (ev_snum (Evl.ev_var rfl) (hl.up e1) (by omega)) Evl.ea_nil))) (btw_v n1 mn (by show n ≤ numR rs; omega))) (fun H2 e2 => ?_)
    obtain ⟨dx, t, ts, h1, h2, h3⟩ := (hl.up (e1.trans e2)).ex
    refine q_asgP (P := fun v H' => ∃ p ys, v = .ref p ∧ Evl.Ex H2 H' ∧ SqT K H' p ys ∧ F2 (RP K H') ys (prt 0 m n rs)) (fun Q2 q2 => ezp_prt (K := K) (Evl.ea_cons (ev_fldL (Evl.ev_var rfl) h1 LT_Store.k.cl LT_Store.n1 (sto_runs t)) (Evl.ea_cons (Evl.ev_var rfl) (Evl.ea_cons (Evl.ev_var rfl) Evl.ea_nil))) h2 h3 (by omega) H2 (Evl.Ex.refl H2) _ fun p ys H4 e4 hp hy => q2 _ _ ⟨p, ys, rfl, e4, hp.t, hy⟩) ?_
    rintro _ H3 ⟨p, ys, rfl, e3, hp, hy⟩
    exact mk_stoT (K := K) (Evl.ev_var rfl) hp hy hR fun c H4 e4 hc => q c H4 (e1.trans (e2.trans (e3.trans e4))) hc
def capR (rs : List (Int × Int)) (z : Int) : List (Int × Int) := rs.map fun r => (if r.1 < z then r.1 else z, r.2)
def spSCap (K : PySem.W.Frag) (C : Addr) : Sp := fun vs H Q _ => ∃ a z rs, vs = [.ref a, .int z] ∧ StoAt K C H a rs ∧ sizB z = true ∧ rs.length ≤ 1000 ∧ Rns (capR rs z) ∧ ∀ c H', Evl.Ex H H' → StoAt K C H' c (jr (capR rs z)) → Q (.ref c) H'
theorem ok_stocap {CS : Addr} (B : Bl mg) (LT_Store : StoreT K mg CS) (D : Dop K CS "capped" "Store.capped" s_Store_capped ["self", "room"]) (C_check_size : Cl P w K mg base 3 "check_size" (spChkN sizB)) (M_Store : Mkc P w K mg base 4 "Store" CS (spStoI K CS)) : Og P w K mg base 6 CS "capped" ["self", "room"] (spSCap K CS) := by
  refine og_of LT_Store.k.cl D sc_Store_capped (fun vs H Q E h => ?_) (fun f cdv A fr s H vs Q E hr h => ?_)
  · obtain ⟨a, z, rs, rfl, _⟩ := h
    rfl
  · obtain ⟨a, z, rs, rfl, hl, hz, ln, hR, q⟩ := h
    refine ⟨_, (pss_cons (ps_expr (pcal C_check_size hr (pa_cons (pv 1) pa_nil)))
    (pss_cons (ps_setLc (i := 2) (own := [("each", 3), ("many", 4)]) (g := (gTup K 2 (gCons (gName 3) (gCons (gName 4) gNil)))) rfl sc_Store_capped.nd rfl rfl (sw_true rfl rfl rfl (by decide +kernel)) (pi_tup (pe_fld (pv 0) rfl)) (blkOk_by (own := [("each", 3), ("many", 4)]) (N := n_Store_capped) (sc := defScope s_Store_capped) (by decide +kernel)) (fun _ _ _ _ _ => (pg_tup (n := 2) rfl (pgs_cons (pg_name (i := 3) sc_Store_capped.nd rfl (by first | exact Or.inl rfl | exact Or.inr rfl)) (pgs_cons (pg_name (i := 4) sc_Store_capped.nd rfl (by first | exact Or.inl rfl | exact Or.inr rfl)) pgs_nil)))) (fun _ _ _ _ _ => pts_nil) (fun _ _ _ _ _ => (pe_tup (pa_cons (pe_callB (call_min2 rfl) (by rfl) B.min bt_min (pa_cons (pv 1) (pa_cons (pv 3) pa_nil))) (pa_cons (pv 4) pa_nil)))))
     (pss_one (ps_ret (pmkS M_Store hr (pv 2)))))), ?_⟩
    refine Evl.q_drop (ev_call1 (Evl.ev_var rfl) (chkn_v hz)) (fun H1 e1 => ?_)
    obtain ⟨dx, t, ts, h1, h2, h3⟩ := (hl.up e1).ex
    refine q_asgP (P := fun v H' => ∃ p ys, v = .ref p ∧ Evl.Ex H1 H' ∧ H' p = some (.lst ys) ∧ F2 (RP K H') ys (capR rs z)) (fun Q2 q2 => lc_tupPP (K := K) (fun _ => true) (fun r => (if r.1 < z then r.1 else z, r.2)) (ev_fldL (Evl.ev_var rfl) h1 LT_Store.k.cl LT_Store.n1 (sto_runs t)) h2 h3 (by omega) (fun _ _ => rfl) (fun r hr2 H2 e2 H3 _ Q q => q H3 (Evl.Ex.refl H3)) (fun r hr2 _ H2 e2 => evr_pair (ev_min (Evl.ev_var rfl) (Evl.ev_var rfl)) (Evl.ev_var rfl)) H1 (Evl.Ex.refl H1) Q2 fun D vs H2 _ e2 hD hf => q2 _ _ ⟨D, vs, rfl, e2, hD, by
      rw [List.filter_eq_self.mpr fun _ _ => rfl] at hf
      exact hf⟩) ?_
    rintro _ H2 ⟨p, ys, rfl, e2, hp, hf⟩
    exact mk_stoL (K := K) (Evl.ev_var rfl) hp hf hR fun c H3 e3 hc => q c H3 (e1.trans (e2.trans e3)) hc
theorem ok_roll (B : Bl mg) (D : Df K mg "_law_roll" s__law_roll ["dice", "total"]) : Cg P w K mg base CX0 1 "_law_roll" spRoll := by
  refine cg_of D sc__law_roll (fun vs H Q E h => ?_) (fun f cdv A fr s H vs Q E hr hgd h => ?_)
  · obtain ⟨d, t, rfl, _⟩ := h
    rfl
  · obtain ⟨d, t, rfl, ht, ht2, ⟨a, b, c, hd⟩, q⟩ := h
    refine ⟨_, (pss_cons (ps_if (pt_cmpR op_gt (pe_ix ix_list (pv 0) pe_int (fun _ _ => rfl)) pe_int (nomark _)) (pss_cons (ps_set (i := 2) sc__law_roll.nd rfl (by first | exact Or.inl rfl | exact Or.inr rfl) (pe_op op_mod (pe_callTy call_int1 (by rfl) B.int bt_int (pa_cons (pe_ix ix_list (pv 0) pe_int (fun _ _ => rfl)) pa_nil)) (pv 1)))
    (pss_cons (ps_asg (pe_op op_fdiv (pe_ix ix_list (pv 0) pe_int (fun _ _ => rfl)) (pv 1)) (pg_sub (pv 0) pe_int set_list))
     (pss_one (ps_ret (pv 2))))) pss_nil)
    (pss_cons (ps_asg (pe_op op_add (pe_ix ix_list (pv 0) pe_int (fun _ _ => rfl)) pe_int) (pg_sub (pv 0) pe_int set_list))
     (pss_cons (ps_set (i := 3) sc__law_roll.nd rfl (by first | exact Or.inl rfl | exact Or.inr rfl) (pe_op op_mod (pe_callTy call_int1 (by rfl) B.int bt_int (pa_cons (pe_op op_add (pe_ix ix_list (pv 0) pe_int (fun _ _ => rfl)) (pe_op op_mul pe_int (pe_ix ix_list (pv 0) pe_int (fun _ _ => rfl)))) pa_nil)) pe_int))
      (pss_cons (ps_set (i := 4) sc__law_roll.nd rfl (by first | exact Or.inl rfl | exact Or.inr rfl) (pe_op op_add (pe_op op_mul (pe_op op_mod (pe_callTy call_int1 (by rfl) B.int bt_int (pa_cons (pe_op op_add (pe_op op_mul (pv 3) (pv 3)) (pe_op op_mul pe_int (pe_ix ix_list (pv 0) pe_int (fun _ _ => rfl)))) pa_nil)) pe_int) pe_int) (pv 3)))
       (pss_one (ps_ret (pe_op op_mod (pe_callTy call_int1 (by rfl) B.int bt_int (pa_cons (pe_op op_fdiv (pv 4) pe_int) pa_nil)) (pv 1)))))))), ?_⟩
    refine ⟨.ref d, rfl, d, _, 0, _, rfl, rfl, SqL.of hd, atI_nat (j := 0) rfl, a, 0, rfl, rfl, _, rfl, ifd (fun e => ?_) (fun e => ?_)⟩
    · refine ⟨.ref d, rfl, d, _, 0, _, rfl, rfl, SqL.of hd, atI_nat (j := 0) rfl, .inl ⟨a, rfl, .int t, rfl, a, t, rfl, rfl, ht, ?_⟩⟩
      refine ⟨.ref d, rfl, d, _, 0, _, rfl, rfl, SqL.of hd, atI_nat (j := 0) rfl, .int t, rfl, a, t, rfl, rfl, ⟨ht, ht2⟩, ?_⟩
      refine ⟨.ref d, rfl, d, _, 0, 0, rfl, rfl, hd, rfl, ?_⟩
      exact ⟨_, rfl, q _ _ (Int.emod_nonneg _ (by omega)) (Int.emod_lt_of_pos _ ht) Dice.at But.put⟩
    · refine ⟨.ref d, rfl, d, _, 2, _, rfl, rfl, SqL.of hd, atI_nat (j := 2) rfl, c, 1, rfl, rfl, ?_⟩
      refine ⟨.ref d, rfl, d, _, 2, 2, rfl, rfl, hd, rfl, ?_⟩
      generalize hH1 : upd H d _ = H1
      have hd1 : H1 d = some (.lst [.int a, .int b, .int (c + 1)]) := by rw [← hH1]; exact upd_same
      have k1 : But d H H1 := fun b n => by rw [← hH1, upd_ne n]
      refine ⟨.ref d, rfl, d, _, 1, _, rfl, rfl, SqL.of hd1, atI_nat (j := 1) rfl, .ref d, rfl, d, _, 2, _, rfl, rfl, SqL.of hd1, atI_nat (j := 2) rfl, _, _, rfl, rfl, .inl (by decide), _, _, rfl, rfl, .inl ⟨_, rfl, ?_⟩⟩
      refine r_modC (by decide) fun one h0 h1 => ?_
      refine ⟨.int one, rfl, .int one, rfl, one, one, rfl, rfl, .inl (by omega), .ref d, rfl, d, _, 2, _, rfl, rfl, SqL.of hd1, atI_nat (j := 2) rfl, _, _, rfl, rfl, .inl (by decide), _, _, rfl, rfl, .inl ⟨_, rfl, ?_⟩⟩
      refine r_modC (by decide) fun x x0 x1 => ?_
      refine ⟨_, _, rfl, rfl, .inr (by decide), .int one, rfl, _, _, rfl, rfl, ?_⟩
      refine ⟨_, rfl, _, _, rfl, rfl, ⟨by decide, by decide⟩, .inl ⟨_, rfl, .int t, rfl, ?_⟩⟩
      exact r_mod ht fun r r0 r1 => q r H1 r0 r1 ⟨_, _, _, hd1⟩ k1
theorem ok_dice (B : Bl mg) (D : Df K mg "_law_dice" s__law_dice ["script", "spot"]) : Cg P w K mg base CX0 1 "_law_dice" (spDice K) := by
  refine cg_of D sc__law_dice (fun vs H Q E h => ?_) (fun f cdv A fr s H vs Q E hr hgd h => ?_)
  · obtain ⟨a, k, ns, rfl, _⟩ := h
    rfl
  · obtain ⟨a, k, ns, rfl, ha, q⟩ := h
    refine ⟨_, (pss_cons (ps_set (i := 2) sc__law_dice.nd rfl (by first | exact Or.inl rfl | exact Or.inr rfl) (pe_ifExp (pt_cmpR op_lt (pv 1) (pe_callB call_len_seq (by rfl) B.len bt_len (pa_cons (pv 0) pa_nil)) (nomark _)) (pe_callTy call_int1 (by rfl) B.int bt_int (pa_cons (pe_ix ix_list (pv 0) (pv 1) (fun _ _ => rfl)) pa_nil)) (pe_op op_add (pe_op op_mul pe_int (pv 1)) pe_int)))
    (pss_cons (ps_set (i := 3) sc__law_dice.nd rfl (by first | exact Or.inl rfl | exact Or.inr rfl) (pe_op op_mod (pe_callB (call_max2 rfl) (by rfl) B.max bt_max (pa_cons pe_int (pa_cons (pe_op op_sub (pe_callB call_abs (by rfl) B.abs bt_abs (pa_cons (pv 2) pa_nil)) (pe_op op_pow pe_int pe_int)) pa_nil))) (pe_op op_mulW (pe_op op_pow pe_int pe_int) (pe_op op_pow pe_int pe_int))))
     (pss_one (ps_ret (pe_lst (pa_cons (pv 3) (pa_cons (pe_op op_add (pe_op op_add (pe_op op_add (pe_op op_mul (pe_op op_mod (pe_callB call_abs (by rfl) B.abs bt_abs (pa_cons (pv 2) pa_nil)) pe_int) pe_int) (pe_op op_mul pe_int (pv 1))) (pe_op op_mul pe_int (pe_callTy call_int1 (by rfl) B.int bt_int (pa_cons (pe_cmpR op_lt (pv 2) pe_int (nomark _)) pa_nil)))) pe_int) (pa_cons pe_int pa_nil)))))))), ?_⟩
    refine ⟨.int (k : Int), rfl, .ref a, rfl, a, _, rfl, .inl ha, _, _, rfl, rfl, _, rfl, join IsI ?_ (fun e Q' q' => ?_) (fun e Q' q' => ?_)⟩
    · rintro _ ⟨cell, rfl⟩
      refine ⟨.int cell, rfl, cell, rfl, _, _, rfl, rfl, pow_ok (by decide +kernel), _, _, rfl, rfl, _, _, rfl, _, _, rfl, rfl, pow_ok (by decide +kernel), _, _, rfl, rfl, pow_ok (by decide +kernel), _, _, rfl, rfl, ten60, ?_⟩
      refine r_mod (by decide +kernel) fun left _ _ => ?_
      refine ⟨_, rfl, .int cell, rfl, cell, rfl, ?_⟩
      refine r_modC (by decide) fun x _ _ => ?_
      refine ⟨_, _, rfl, rfl, .inr (by decide), .int (k : Int), rfl, _, _, rfl, rfl, .inl (by decide), _, _, rfl, rfl, .int cell, rfl, _, _, rfl, rfl, .inr ⟨_, rfl, _, _, rfl, rfl, .inl (by decide), _, _, rfl, rfl, _, _, rfl, rfl, ?_⟩⟩
      exact ⟨(show 3 ≤ sizeLine by decide), fun p hp => q p hp _ Dice.at But.put⟩
    · obtain ⟨i, hi⟩ := at_int e
      exact ⟨.ref a, rfl, .int (k : Int), rfl, a, _, _, _, rfl, rfl, ha, hi, .inl ⟨i, rfl, q' _ ⟨i, rfl⟩⟩⟩
    · exact ⟨.int (k : Int), rfl, _, _, rfl, rfl, .inl (by decide), _, _, rfl, rfl, q' _ ⟨_, rfl⟩⟩

def spGreat : Sp := fun vs H Q _ => ∃ d z, vs = [.ref d, .int z] ∧ Dice H d ∧ ∀ (i : Int) H', 0 ≤ i → i < 10 ^ 31 → Kd d H H' → Q (.int (z + i)) H'
def spLong (K : PySem.W.Frag) : Sp := fun vs H Q _ => ∃ d, vs = [.ref d] ∧ Dice H d ∧ ∀ (p : Addr) (ns : List Int) (L : Int) (H' : Hp), Kd d H H' → p ≠ d → SqT K H' p (ns.map V.int) → ns.length ≤ 6 → Chd ns L → L < 10 ^ 27 → Q (.ref p) H'
structure Grt (ns : List Int) (ps : List (Int × Int)) : Prop where
  nd : (ps.map Prod.fst).Nodup
  sub : ∀ p ∈ ps, p.1 ∈ ns ∧ 0 < p.2 ∧ p.2 ≤ 10 ^ 31
  ln : ps.length ≤ ns.length
def spGl (K : PySem.W.Frag) : Sp := fun vs H Q _ => ∃ (d p : Addr) (ns : List Int), vs = [.ref d, .ref p] ∧ p ≠ d ∧ Dice H d ∧ SqT K H p (ns.map V.int) ∧ ns.length ≤ 100 ∧ ns.Nodup ∧ ∀ (q : Addr) (ps : List (Int × Int)) (H' : Hp), Kd d H H' → q ≠ d → H' q = some (.dK (ps.map kc)) → Grt ns ps → Q (.ref q) H'
theorem ok_great (B : Bl mg) (D : Df K mg "_law_great" s__law_great ["dice", "least"]) (C__law_roll : Cg P w K mg base CX0 1 "_law_roll" spRoll) : Cg P w K mg base CX0 2 "_law_great" spGreat := by
  refine cg_of D sc__law_great (fun vs H Q E h => ?_) (fun f cdv A fr s H vs Q E hr hgd h => ?_)
  · obtain ⟨d, z, rfl, _⟩ := h
    rfl
  · obtain ⟨d, z, rfl, hd, q⟩ := h
    refine ⟨_, (pss_cons (ps_par (i := 2) (j := 3) rfl sc__law_great.nd rfl rfl (by decide) rfl rfl (pa_cons (pcg C__law_roll hr hgd (pa_cons (pv 0) (pa_cons pe_int pa_nil))) (pa_cons pe_int pa_nil)) (by rfl))
    (pss_cons (ps_for PassesOwn.never rfl (pi_range1 (by rfl) B.range (pa_cons (pe_ifExp (pt_cmpR op_eq (pv 2) pe_int (nomark _)) pe_int pe_int) pa_nil)) (pg_name (i := 4) sc__law_great.nd rfl (by first | exact Or.inl rfl | exact Or.inr rfl)) (pss_one (ps_set (i := 3) sc__law_great.nd rfl (by first | exact Or.inl rfl | exact Or.inr rfl) (pe_op op_add (pe_op op_mul (pv 3) pe_int) (pcg C__law_roll hr hgd (pa_cons (pv 0) (pa_cons pe_int pa_nil)))))))
     (pss_one (ps_ret (pe_op op_add (pv 1) (pe_ifExp (pt_cmpR op_lt (pv 2) pe_int (nomark _)) (pv 3) (pe_op op_mod (pv 3) pe_int))))))), ?_⟩
    refine ⟨.ref d, rfl, d, 4, rfl, by decide, by decide, hd, fun r H1 r0 r1 hd1 k1 => ⟨_, _, rfl, ?_⟩⟩
    have kd1 : Kd d H H1 := Kd.but hd1 k1
    have e6 : (100003 : Int) ^ 6 < 10 ^ 31 := by decide +kernel
    refine Evl.q_forR1 (n := if r = 0 then 6 else 1) (Evl.ea_cons (Evl.ev_if (b := decide (r = 0)) (Evl.et_is (Evl.et_test (ev_eq (Evl.ev_var rfl) Evl.ev_c rfl)) (decide_eq_decide.mpr ⟨V.int.inj, congrArg V.int⟩)) (fun z => Evl.ev_is Evl.ev_c (by rw [if_pos (of_decide_eq_true z)])) (fun z => Evl.ev_is Evl.ev_c (by rw [if_neg (of_decide_eq_false z)]))) Evl.ea_nil)
      (by split <;> omega) (fun i σ H' => Kd d H H' ∧ ∃ (f : Int) (t : Option V), σ = [some (.ref d), some (.int z), some (.int r), some (.int f), t] ∧ 0 ≤ f ∧ f < 100003 ^ i) (fun H2 e2 => ⟨kd1.to e2, 0, none, rfl, by decide, by decide⟩) ?_ ?_
    · rintro i _ H2 hi ⟨k2, f, t, rfl, f0, f1⟩
      refine ⟨.int f, rfl, _, _, rfl, rfl, .inr (by decide), .ref d, rfl, d, 100003, rfl, by decide, by decide, k2.2, fun x H3 x0 x1 hd3 k3 => ⟨_, _, rfl, rfl, k2.trans (Kd.but hd3 k3), _, _, rfl, by omega, ?_⟩⟩
      rw [Int.pow_succ]
      omega
    · rintro _ H2 ⟨k2, f, t, rfl, f0, f1⟩
      have fl : f < 10 ^ 31 := by
        refine Int.lt_of_lt_of_le f1 ?_
        split
        · exact Int.le_of_lt e6
        · decide +kernel
      refine ⟨_, rfl, _, rfl, _, _, rfl, rfl, _, rfl, ifd (fun _ => ?_) (fun _ => ?_)⟩
      · refine ⟨.int f, rfl, _, _, rfl, rfl, ?_⟩
        exact q f H2 f0 fl k2
      · refine ⟨.int f, rfl, r_modC (by decide) fun x x0 x1 => ⟨_, _, rfl, rfl, ?_⟩⟩
        exact q x H2 x0 (Int.lt_trans x1 (by decide +kernel)) k2
theorem ok_long (B : Bl mg) (D : Df K mg "_law_long_chain" s__law_long_chain ["dice"]) (C__law_roll : Cg P w K mg base CX0 1 "_law_roll" spRoll) : Cg P w K mg base CX0 2 "_law_long_chain" (spLong K) := by
  refine cg_of D sc__law_long_chain (fun vs H Q E h => ?_) (fun f cdv A fr s H vs Q E hr hgd h => ?_)
  · obtain ⟨d, rfl, _⟩ := h
    rfl
  · obtain ⟨d, rfl, hd, q⟩ := h
    refine ⟨_, (pss_cons (ps_set (i := 1) sc__law_long_chain.nd rfl (by first | exact Or.inl rfl | exact Or.inr rfl) (pe_lst (pa_cons (pe_op op_add pe_int (pcg C__law_roll hr hgd (pa_cons (pv 0) (pa_cons pe_int pa_nil)))) pa_nil)))
    (pss_cons (ps_for PassesOwn.never rfl (pi_range1 (by rfl) B.range (pa_cons (pcg C__law_roll hr hgd (pa_cons (pv 0) (pa_cons pe_int pa_nil))) pa_nil)) (pg_name (i := 2) sc__law_long_chain.nd rfl (by first | exact Or.inl rfl | exact Or.inr rfl)) (pss_cons (ps_set (i := 3) sc__law_long_chain.nd rfl (by first | exact Or.inl rfl | exact Or.inr rfl) (pe_ifExp (pt_cmpR op_gt (pcg C__law_roll hr hgd (pa_cons (pv 0) (pa_cons pe_int pa_nil))) pe_int (nomark _)) (pe_op op_add pe_int (pcg C__law_roll hr hgd (pa_cons (pv 0) (pa_cons pe_int pa_nil)))) (pe_op op_add pe_int (pcg C__law_roll hr hgd (pa_cons (pv 0) (pa_cons pe_int pa_nil))))))
    (pss_one (ps_expr (pe_bm PySem.F.plainAttrs_list PySem.F.slot_list_append PySem.F.type_list_append mt_append (pv 1) (pa_cons (pe_op op_mul (pe_ix ix_list (pv 1) (pe_un un_neg pe_int) (fun _ _ => rfl)) (pv 3)) pa_nil))))))
     (pss_one (ps_ret (pe_callTy call_tuple_of (by rfl) B.tuple bt_tuple (pa_cons (pv 1) pa_nil)))))), ?_⟩
    refine ⟨.ref d, rfl, d, 5, rfl, by decide, by decide, hd, fun r H1 r0 r1 hd1 k1 => ⟨_, _, rfl, rfl, (show 1 ≤ sizeLine by decide), fun l hl => ?_⟩⟩
    have ne := hd1.ne hl
    have hl0 : H l = none := (k1 l ne).symm.trans hl
    refine ⟨.ref d, rfl, d, 6, rfl, by decide, by decide, hd1.new hl, fun n H2 n0 n1 hd2 k2 => ⟨n, rfl, by omega, by omega, ?_⟩⟩
    refine for_range (fun i σ H' => Kd d H H' ∧ ∃ (ns : List Int) (L : Int) (t s : Option V), σ = [some (.ref d), some (.ref l), t, s] ∧ H' l = some (.lst (ns.map V.int)) ∧ Chd ns L ∧ L ≤ 5 * 100005 ^ i ∧ ns.length = i + 1) ?_ ?_ ?_
    · refine ⟨(Kd.but hd1 k1).trans ((Kd.ex hd1 (Evl.Ex.new hl)).trans (Kd.but hd2 k2)), [1 + r], 1 + r, none, none, rfl, ?_, Chd.one (by omega), by omega, rfl⟩
      rw [k2 l ne]; exact upd_same
    · rintro i _ H2 hi ⟨k3, ns, L, t, s, rfl, hl2, hc, hL, hn⟩
      refine sq_asgK (d := d) (Pr := fun v => ∃ y : Int, v = .int y ∧ 2 ≤ y ∧ y ≤ 100005) k3.2 (fun H3 k4 Q q => ⟨.ref d, rfl, d, 3, rfl, by decide, by decide, k4.2, fun x H4 x0 x1 hd5 k5 => ⟨_, _, rfl, rfl, _, rfl, ifd
        (fun _ => ⟨.ref d, rfl, d, 3, rfl, by decide, by decide, hd5, fun y H5 y0 y1 hd6 k6 => ⟨_, _, rfl, rfl, q _ _ ((Kd.but hd5 k5).trans (Kd.but hd6 k6)) ⟨2 + y, rfl, by omega, by omega⟩⟩⟩)
        (fun _ => ⟨.ref d, rfl, d, 100003, rfl, by decide, by decide, hd5, fun y H5 y0 y1 hd6 k6 => ⟨_, _, rfl, rfl, q _ _ ((Kd.but hd5 k5).trans (Kd.but hd6 k6)) ⟨2 + y, rfl, by omega, by omega⟩⟩⟩)⟩⟩) ?_
      rintro _ H3 k4 ⟨y, rfl, y0, y1⟩
      have l3 : H3 l = some (.lst (ns.map V.int)) := k4.1 l _ ne hl2
      have lpos := hc.posL
      refine Evl.s_app l3 (Evl.ev_var rfl) (v := .int (L * y)) (ev_i (g := fun i j => .int (i * j)) (ev_ixL (Evl.ev_var rfl) (Evl.ev_un Evl.ev_c Evl.ru_neg) (SqL.of l3) hc.at) (Evl.ev_var rfl) (.inr ⟨by omega, by omega⟩)) (by rw [List.length_map]; omega) (fun H4 e4 => ?_)
      refine ⟨⟨Kp.mut ((k3.trans k4).to e4).1 hl0, ((k4.2.ex e4)).put ne⟩, ns ++ [L * y], L * y, _, _, rfl, ?_, hc.snoc y0, ?_, ?_⟩
      · rw [List.map_append]; exact upd_same
      · have a1 : L * y ≤ (5 * 100005 ^ i) * 100005 := Int.mul_le_mul hL y1 (by omega) (Int.mul_nonneg (by decide) (Int.pow_nonneg (by decide)))
        rw [Int.pow_succ, ← Int.mul_assoc]
        exact a1
      · rw [List.length_append, hn]; rfl
    · rintro _ H2 ⟨k3, ns, L, t, s, rfl, hl2, hc, hL, hn⟩
      have hL2 : L < 10 ^ 27 := Int.lt_of_le_of_lt hL (by
        have : n = 0 ∨ n = 1 ∨ n = 2 ∨ n = 3 ∨ n = 4 ∨ n = 5 := by omega
        rcases this with rfl | rfl | rfl | rfl | rfl | rfl <;> decide +kernel)
      exact Evl.s_retU (eu_tup_of (Evl.ev_var rfl) (SqL.of hl2)) (fun p H3 hp e3 h3 => q p ns L H3 (k3.to e3) (k3.2.ne hp) (SqT.of h3) (by omega) hc hL2)
theorem ok_gl (B : Bl mg) (D : Df K mg "_law_great_lot" s__law_great_lot ["dice", "sizes"]) (C__law_roll : Cg P w K mg base CX0 1 "_law_roll" spRoll) (C__law_great : Cg P w K mg base CX0 2 "_law_great" spGreat) : Cg P w K mg base CX0 3 "_law_great_lot" (spGl K) := by
  refine cg_of D sc__law_great_lot (fun vs H Q E h => ?_) (fun f cdv A fr s H vs Q E hr hgd h => ?_)
  · obtain ⟨d, p, ns, rfl, _⟩ := h
    rfl
  · obtain ⟨d, p, ns, rfl, ne, hd, hp, hl, hnd, q⟩ := h
    refine ⟨_, (pss_cons (ps_set (i := 2) sc__law_great_lot.nd rfl (by first | exact Or.inl rfl | exact Or.inr rfl) pe_dnewK)
    (pss_cons (ps_for PassesOwn.never rfl (pi_tup (pv 1)) (pg_name (i := 3) sc__law_great_lot.nd rfl (by first | exact Or.inl rfl | exact Or.inr rfl)) (pss_one (ps_if (pt_cmpR op_gt (pcg C__law_roll hr hgd (pa_cons (pv 0) (pa_cons pe_int pa_nil))) pe_int (nomark _)) (pss_one (ps_dput (hu_of hr) (pv 2) (pv 3) (pcg C__law_great hr hgd (pa_cons (pv 0) (pa_cons pe_int pa_nil))) rfl)) pss_nil)))
     (pss_one (ps_ret (pv 2))))), ?_⟩
    refine fun g ng => ?_
    have gd := hd.ne ng
    have e1 : Evl.Ex H (upd H g (.dK [])) := Evl.Ex.new ng
    have hg1 : upd H g (.dK []) g = some (.dK []) := upd_same
    have hd1 : Dice (upd H g (.dK [])) d := hd.new ng
    generalize upd H g (.dK []) = H1 at e1 hg1 hd1 ⊢
    refine ⟨.ref p, rfl, p, rfl, ⟨_, Evl.ex_t e1 hp⟩, ?_⟩
    refine for_it walk_tup (fun i σ H' => Kd d H H' ∧ ∃ (ps : List (Int × Int)) (t3 : Option V), σ = [some (.ref d), some (.ref p), some (.ref g), t3] ∧ H' g = some (.dK (ps.map kc)) ∧ (∀ x ∈ ps, x.1 ∈ ns.take i ∧ 0 < x.2 ∧ x.2 ≤ 10 ^ 31) ∧ (ps.map Prod.fst).Nodup ∧ ps.length ≤ i)
      ⟨Kd.ex hd e1, [], none, rfl, hg1, fun x hx => (nomatch hx), List.nodup_nil, Nat.le_refl _⟩ (fun i σ H' _ h => h.1.1.sqT ne hp) ?_ ?_
    · rintro i x σ H4 _ hi ⟨k4, ps, t3, rfl, hg4, f3, f4, f5⟩ ⟨rfl, hxi⟩
      rw [List.length_map] at hi
      rw [List.getElem?_map, List.getElem?_eq_getElem hi] at hxi
      obtain rfl := Option.some.inj hxi
      have st : ns.take (i + 1) = ns.take i ++ [ns[i]] := by rw [List.take_add_one, List.getElem?_eq_getElem hi]; rfl
      have nin : ns[i] ∉ ns.take i := fun m => by
        have z := hnd
        rw [← List.take_append_drop (i + 1) ns, st, List.nodup_append] at z
        exact (List.nodup_append.mp z.1).2.2 _ m _ (List.mem_singleton.mpr rfl) rfl
      generalize ns[i] = z at nin st
      refine ⟨.ref d, rfl, d, 5, rfl, by decide, by decide, k4.2, fun r H5 r0 r1 hd5 k5 => ⟨_, _, rfl, rfl, _, rfl, ?_⟩⟩
      have k45 := k4.trans (Kd.but hd5 k5)
      have hg5 : H5 g = some (.dK (ps.map kc)) := (k5 g gd).trans hg4
      refine if_b _ (fun rp => ?_) (fun rn => ?_)
      · have znk : z ∉ ps.map Prod.fst := fun m => by
          obtain ⟨x, hx, e⟩ := List.mem_map.mp m
          exact nin (e ▸ (f3 x hx).1)
        refine ⟨.ref d, rfl, d, 1, rfl, k45.2, fun c H6 c0 c1 k6 => ?_⟩
        have hg6 := k6.1 g _ gd hg5
        have k46 := k45.trans k6
        refine ⟨.ref g, rfl, .int z, rfl, g, _, rfl, DPut.k (k := Sum.inl z) hg6 (by rw [List.length_map, sizeLine_eq]; omega), ⟨Kp.mut k46.1 ng, k46.2.put gd⟩, ps ++ [(z, 1 + c)], _, rfl, by rw [upd_same, putK_new znk], fun x hx => ?_, ?_, by rw [List.length_append]; exact Nat.succ_le_succ f5⟩
        · rw [st]
          rcases List.mem_append.mp hx with m | m
          · exact ⟨List.mem_append_left _ (f3 x m).1, (f3 x m).2⟩
          · rw [List.mem_singleton.mp m]
            exact ⟨List.mem_append_right _ (List.mem_singleton.mpr rfl), by show 0 < 1 + c; omega, by show 1 + c ≤ _; omega⟩
        · rw [List.map_append, List.nodup_append]
          exact ⟨f4, List.nodup_cons.mpr ⟨List.not_mem_nil, List.nodup_nil⟩, fun a ha b hb => by cases List.mem_singleton.mp hb; exact fun e => znk (by rw [show z = a from e.symm]; exact ha)⟩
      · refine ⟨k45, ps, _, rfl, hg5, fun x hx => ?_, f4, Nat.le_succ_of_le f5⟩
        rw [st]
        exact ⟨List.mem_append_left _ (f3 x hx).1, (f3 x hx).2⟩
    · rintro _ H4 ⟨k4, ps, t3, rfl, hg4, f3, f4, f5⟩
      rw [List.length_map] at f3 f5
      exact ⟨.ref g, rfl, q g ps H4 k4 gd hg4 ⟨f4, fun x hx => ⟨List.mem_of_mem_take (f3 x hx).1, (f3 x hx).2⟩, f5⟩⟩
theorem ok_made (B : Bl mg) {CL : Addr} (D : Df K mg "_law_made_lot" s__law_made_lot ["plain"]) (M_Lot : Mkc P w K mg base 4 "Lot" CL (spLotI K CL)) : Cg P w K mg base CX0 6 "_law_made_lot" (spMade K CL) := by
  refine cg_of D sc__law_made_lot (fun vs H Q E h => ?_) (fun f cdv A fr s H vs Q E hr hgd h => ?_)
  · obtain ⟨d, ps, rfl, _⟩ := h
    rfl
  · obtain ⟨d, ps, rfl, hd, hc, q⟩ := h
    refine ⟨_, (pss_one (ps_ret (pmk M_Lot hr (pa_cons (pe_callTy (call_dictP rfl) (by rfl) B.dict bt_dict (pa_cons (pe_lock (pe_lc (own := [("size", 1)]) (g := (gName 1)) rfl sc__law_made_lot.nd (pi_keys (pv 0)) (blkOk_by (own := [("size", 1)]) (N := n__law_made_lot) (sc := defScope s__law_made_lot) (by decide +kernel)) (fun _ _ _ _ _ => (pg_name (i := 1) sc__law_made_lot.nd rfl (by first | exact Or.inl rfl | exact Or.inr rfl))) (fun _ _ _ _ _ => pts_nil) (fun _ _ _ _ _ => (pe_tup (pa_cons (pv 1) (pa_cons (pe_dget (hu_of hr) (pv 0) (pv 1) (fun _ _ => rfl)) pa_nil)))))) pa_nil)) pa_nil)))), ?_⟩
    have ln := hc.ln
    refine lot_make (K := K) (ps := ps) (fun Q' q' => dl_of (K := K) (lc_self (K := K) (fun _ => Evl.ev_var rfl) (fun _ _ => Evl.ev_var rfl) (fun _ => rfl) hd hc.nd (by omega) (fun _ => rfl)) hc.nd H (Evl.Ex.refl H) _ fun p H2 _ e2 h2 => q' p H2 e2 h2) hc _ (fun a qs H' e hp ha hl => q a qs H' e hp ha hl)
theorem ok_lotlen (B : Bl mg) {CL : Addr} (LT_Lot : LotT K mg CL) (D : Dop K CL "__len__" "Lot.__len__" s_Lot_len ["self"]) : Og P w K mg base 1 CL "__len__" ["self"] (spLen K CL) := by
  refine og_of LT_Lot.k.cl D sc_Lot_len (fun vs H Q E h => ?_) (fun f cdv A fr s H vs Q E hr h => ?_)
  · obtain ⟨a, ps, rfl, _⟩ := h
    rfl
  · obtain ⟨a, ps, rfl, hl, q⟩ := h
    refine ⟨_, (pss_one (ps_ret (pe_callB call_len_seq (by rfl) B.len bt_len (pa_cons (pe_fld (pv 0) rfl) pa_nil)))), ?_⟩
    obtain ⟨dx, t1, t2, d, ts, h1, h2, _⟩ := hl.ex
    refine Evl.s_ret (Evl.ev_is (ev_lenT (ev_fldL (Evl.ev_var rfl) h1 LT_Lot.k.cl LT_Lot.n1 (lot_sizes t1 t2 d)) h2) ?_) q
    rw [List.length_map, List.length_map]
theorem ok_back {CS : Addr} (LT_Store : StoreT K mg CS) (D : Dop K CS "backward" "Store.backward" s_Store_backward ["self"]) (M_Store : Mkc P w K mg base 4 "Store" CS (spStoI K CS)) : Og P w K mg base 6 CS "backward" ["self"] (spStoBack K CS) := by
  refine og_of LT_Store.k.cl D sc_Store_backward (fun vs H Q E h => ?_) (fun f cdv A fr s H vs Q E hr h => ?_)
  · obtain ⟨a, rs, rfl, _⟩ := h
    rfl
  · obtain ⟨a, rs, rfl, hl, hr', q⟩ := h
    refine ⟨_, (pss_cons (ps_set (i := 1) sc_Store_backward.nd rfl (by first | exact Or.inl rfl | exact Or.inr rfl) (pe_revT (pe_fld (pv 0) rfl)))
    (pss_one (ps_ret (pmkS M_Store hr (pv 1))))), ?_⟩
    obtain ⟨dx, t, ts, h1, h2, h3⟩ := hl.ex
    refine q_asgP (P := fun v H' => ∃ p, v = .ref p ∧ Evl.Ex H H' ∧ SqT K H' p ts.reverse) (fun Q2 q2 => ev_fldL (Evl.ev_var rfl) h1 LT_Store.k.cl LT_Store.n1 (sto_runs t) H (Evl.Ex.refl H) _ fun H1 e1 => ⟨t, ts, rfl, Evl.ex_t e1 h2, fun p np => q2 _ _ ⟨p, rfl, e1.trans (Evl.Ex.new np), SqT.of upd_same⟩⟩) ?_
    rintro _ H1 ⟨p, rfl, e1, hp⟩
    exact mk_stoT (K := K) (Evl.ev_var rfl) hp (F2.rev (h3.imp fun x b r => r.ex e1)) hr' fun c H2 e2 hc => q c H2 (e1.trans e2) hc
theorem ok_unitsL (B : Bl mg) (D : Df K mg "units_of" s_units_of ["runs", "size"]) : Cl P w K mg base 1 "units_of" (spUnitsL K) := by
  refine cl_of D sc_units_of (fun vs H Q E h => ?_) (fun f cdv A fr s H vs Q E hr h => ?_)
  · obtain ⟨t, s, xs, rs, rfl, _⟩ := h
    rfl
  · obtain ⟨t, sz, xs, rs, rfl, ht, hf, hl, hp, s0, s1, q⟩ := h
    refine ⟨_, (pss_one (ps_ret (pe_callB (cr_sum rfl) (by rfl) B.sum bt_sum (pa_cons (pe_lc (own := [("run", 2)]) (g := (gName 2)) rfl sc_units_of.nd (pi_list (pv 0)) (blkOk_by (own := [("run", 2)]) (N := n_units_of) (sc := defScope s_units_of) (by decide +kernel)) (fun _ _ _ _ _ => (pg_name (i := 2) sc_units_of.nd rfl (by first | exact Or.inl rfl | exact Or.inr rfl))) (fun _ _ _ _ _ => pts_nil) (fun _ _ _ _ _ => (pe_op op_mulW (pe_ix (ix_tupK (K := K) rfl) (pv 2) pe_int (fun _ _ => rfl)) (pe_op op_fdivW (pe_ix (ix_tupK (K := K) rfl) (pv 2) pe_int (fun _ _ => rfl)) (pv 1))))) pa_nil)))), ?_⟩
    refine Evl.s_ret (Evl.ev_is (ev_sum (K := K) (ns := rs.map fun r => r.2 * (r.1 / sz)) (Ck.el_is (el_lcP1L (K := K) (fun r => .int (r.2 * (r.1 / sz))) (Evl.ev_var rfl) ht hf (by omega) (fun _ => rfl) (fun r hr x H1 e1 hx => ?_)) (by rw [List.map_map]; rfl))) rfl) q
    obtain ⟨t1, rfl, h1⟩ := hx
    obtain ⟨p0, p1, p2⟩ := hp r hr
    exact ev_i (g := fun i j => .int (i * j)) (ev_ixT (Evl.ev_var rfl) Evl.ev_c h1 (atI_nat (j := 1) rfl)) (ev_i (g := fun i j => .int (i / j)) (ev_ixT (Evl.ev_var rfl) Evl.ev_c h1 (atI_0 _ _)) (Evl.ev_var rfl) (divW s0 s1)) (mul200 p2 (Nat.lt_of_le_of_lt (by
      have e : (r.1 / sz).natAbs = r.1.natAbs / sz.natAbs := by
        obtain ⟨n, hn⟩ := Int.eq_ofNat_of_zero_le p0
        obtain ⟨m, hm⟩ := Int.eq_ofNat_of_zero_le (show 0 ≤ sz by omega)
        rw [hn, hm]
        rfl
      rw [e]
      exact Nat.div_le_self _ _) p1))
def spRup : Sp := fun vs H Q _ => ∃ a b : Int, vs = [.int a, .int b] ∧ 0 < b ∧ b.natAbs < 10 ^ 600 ∧ ∀ H', Evl.Ex H H' → Q (.int (cdv a b)) H'
theorem ok_rup (B : Bl mg) (D : Df K mg "_rounded_up" s__rounded_up ["number", "divisor"]) : Cg P w K mg base CX0 1 "_rounded_up" spRup := by
  refine cg_of D sc__rounded_up (fun vs H Q E h => ?_) (fun f cdv' A fr s H vs Q E hr hgd h => ?_)
  · obtain ⟨a, b, rfl, _⟩ := h
    rfl
  · obtain ⟨a, b, rfl, b0, b1, q⟩ := h
    refine ⟨_, (pss_one (ps_ret (pe_un un_neg (pe_op op_fdivW (pe_un un_neg (pv 0)) (pv 1))))), ?_⟩
    exact Evl.s_ret (ev_neg (ev_i (g := fun i j => .int (i / j)) (ev_neg (Evl.ev_var rfl)) (Evl.ev_var rfl) (wide_div (b := 2000) b0 (Nat.lt_trans b1 (by decide +kernel)) (by decide) (by decide)))) q
theorem rup_v {a b : Int} {H : Hp} (b0 : 0 < b) (b1 : b.natAbs < 10 ^ 600) : Evl.SpV spRup [.int a, .int b] H (.int (cdv a b)) := fun H1 e Q q E => ⟨a, b, rfl, b0, b1, q⟩
def RnB (rs : List (Int × Int)) : Prop := ∀ r ∈ rs, 0 < r.1 ∧ r.1.natAbs < 10 ^ 200 ∧ 0 < r.2 ∧ r.2.natAbs < 10 ^ 200
theorem div_abs {a b : Int} {B : Nat} (a0 : 0 ≤ a) (b0 : 0 < b) (h : a.natAbs < B) : 0 ≤ a / b ∧ (a / b).natAbs < B := ⟨div_nn a0 b0, Nat.lt_of_le_of_lt (by
  obtain ⟨n, rfl⟩ := Int.eq_ofNat_of_zero_le a0
  obtain ⟨m, rfl⟩ := Int.eq_ofNat_of_zero_le (Int.le_of_lt b0)
  exact Nat.div_le_self n m) h⟩
def spRw (K : PySem.W.Frag) : Sp := fun vs H Q _ => ∃ (l : Addr) (xs : List V) (rs : List (Int × Int)) (s n : Int), vs = [.ref l, .int s, .int n] ∧ SqL K H l xs ∧ F2 (RP K H) xs rs ∧ rs.length ≤ 40 ∧ RnB rs ∧ 0 < s ∧ s.natAbs < 10 ^ 200 ∧ 0 < n ∧ ∀ H', Evl.Ex H H' → Q (.int (rwN s rs n)) H'
theorem ok_rw (B : Bl mg) (D : Df K mg "_rooms_with" s__rooms_with ["runs", "size", "needed"]) (C__rounded_up : Cg P w K mg base CX0 1 "_rounded_up" spRup) : Cg P w K mg base CX0 2 "_rooms_with" (spRw K) := by
  refine cg_of D sc__rooms_with (fun vs H Q E h => ?_) (fun f cdv' A fr s H vs Q E hr hgd h => ?_)
  · obtain ⟨l, xs, rs, sz, n, rfl, _⟩ := h
    rfl
  · obtain ⟨l, xs, rs, sz, n, rfl, hl, hf, ln, hb, s0, s1, n0, q⟩ := h
    refine ⟨_, (pss_cons (ps_set (i := 3) sc__rooms_with.nd rfl (by first | exact Or.inl rfl | exact Or.inr rfl) pe_int)
    (pss_cons (ps_set (i := 4) sc__rooms_with.nd rfl (by first | exact Or.inl rfl | exact Or.inr rfl) (pv 2))
     (pss_cons (ps_for PassesOwn.never rfl (pi_list (pv 0)) (pg_tup (n := 2) rfl (pgs_cons (pg_name (i := 5) sc__rooms_with.nd rfl (by first | exact Or.inl rfl | exact Or.inr rfl)) (pgs_cons (pg_name (i := 6) sc__rooms_with.nd rfl (by first | exact Or.inl rfl | exact Or.inr rfl)) pgs_nil))) (pss_cons (ps_set (i := 7) sc__rooms_with.nd rfl (by first | exact Or.inl rfl | exact Or.inr rfl) (pe_op op_fdivW (pv 5) (pv 1)))
    (pss_cons (ps_if (pt_cmpR op_le (pv 4) (pe_op op_mulW (pv 7) (pv 6)) (nomark _)) (pss_one (ps_ret (pe_op op_add (pv 3) (pcg C__rounded_up hr hgd (pa_cons (pv 4) (pa_cons (pv 7) pa_nil)))))) pss_nil)
     (pss_cons (ps_set (i := 4) sc__rooms_with.nd rfl (by first | exact Or.inl rfl | exact Or.inr rfl) (pe_op op_sub (pv 4) (pe_op op_mulW (pv 7) (pv 6))))
      (pss_one (ps_set (i := 3) sc__rooms_with.nd rfl (by first | exact Or.inl rfl | exact Or.inr rfl) (pe_op op_add (pv 3) (pv 6))))))))
      (pss_one (ps_ret (pv 3)))))), ?_⟩
    refine Evl.q_asg Evl.ev_c (fun H1 e1 => ?_)
    refine Evl.q_asg (Evl.ev_var rfl) (fun H2 e2 => ?_)
    refine ⟨.ref l, rfl, l, rfl, ⟨_, Evl.ex_l (e1.trans e2) hl⟩, ?_⟩
    refine for_it walk_list (fun i σ H' => Evl.Ex H H' ∧ ∃ (a left : Int) (t5 t6 t7 : Option V), σ = [some (.ref l), some (.int sz), some (.int n), some (.int a), some (.int left), t5, t6, t7] ∧ 0 < left ∧ a + rwN sz (rs.drop i) left = rwN sz rs n) ⟨e1.trans e2, 0, n, none, none, none, rfl, n0, by rw [List.drop_zero, Int.zero_add]⟩ (fun i σ H' _ h => Evl.ex_l h.1 hl) ?_ ?_
    · rintro i x σ H3' H3 hi ⟨e3, a, left, t5, t6, t7, rfl, l0, ha⟩ ⟨rfl, hxi⟩
      obtain ⟨r, hri, hx⟩ := F2.at (hf.imp fun x b r => r.ex e3) hxi
      obtain ⟨hi2, rfl⟩ := List.getElem?_eq_some_iff.mp hri
      obtain ⟨u, rfl, hu⟩ := hx
      rw [List.drop_eq_getElem_cons hi2] at ha
      obtain ⟨b1, b2, b3, b4⟩ := hb _ (List.getElem_mem hi2)
      generalize rs[i] = r at hu ha b1 b2 b3 b4
      obtain ⟨k0, k1⟩ := div_abs (Int.le_of_lt b1) s0 b2
      refine ⟨u, _, rfl, hu, rfl, _, _, rfl, _, _, rfl, rfl, ?_⟩
      refine Evl.q_asg (v := .int (r.1 / sz)) (ev_i (g := fun i j => .int (i / j)) (Evl.ev_var rfl) (Evl.ev_var rfl) (divW s0 s1)) (fun H4 e4 => ?_)
      have e : rwN sz (r :: rs.drop (i + 1)) left = if left ≤ r.1 / sz * r.2 then cdv left (r.1 / sz) else r.2 + rwN sz (rs.drop (i + 1)) (left - r.1 / sz * r.2) := rfl
      rw [e] at ha
      clear e
      refine Evl.q_when (b := decide (left ≤ r.1 / sz * r.2)) (Evl.et_test (ev_i0 (g := fun i j => .bl (decide (i ≤ j))) (Evl.ev_var rfl) (ev_i (g := fun i j => .int (i * j)) (Evl.ev_var rfl) (Evl.ev_var rfl) (mul200 k1 b4)))) (fun c H5 e5 => ?_) (fun c H5 e5 => ?_)
      · have c := of_decide_eq_true c
        rw [if_pos c] at ha
        have kp : 0 < r.1 / sz := by
          rcases Int.lt_or_eq_of_le k0 with k | k
          · exact k
          · rw [← k, Int.zero_mul] at c
            omega
        exact Evl.s_ret (ev_i0 (g := fun i j => .int (i + j)) (Evl.ev_var rfl) (Evl.ev_call (vs := [.int left, .int (r.1 / sz)]) (Evl.ea_cons (Evl.ev_var rfl) (Evl.ea_cons (Evl.ev_var rfl) Evl.ea_nil)) (rup_v kp (Nat.lt_trans k1 (by decide +kernel))))) (fun H6 e6 => by
          have z := q H6 (e3.trans (e4.trans (e5.trans e6)))
          rw [← ha] at z
          exact z)
      · have c := of_decide_eq_false c
        rw [if_neg c] at ha
        refine Evl.q_asg (v := .int (left - r.1 / sz * r.2)) (ev_i0 (g := fun i j => .int (i - j)) (Evl.ev_var rfl) (ev_i (g := fun i j => .int (i * j)) (Evl.ev_var rfl) (Evl.ev_var rfl) (mul200 k1 b4))) (fun H6 e6 => ?_)
        refine Evl.s_asg (v := .int (a + r.2)) (ev_i0 (g := fun i j => .int (i + j)) (Evl.ev_var rfl) (Evl.ev_var rfl)) (fun H7 e7 => ⟨e3.trans ((e4.trans e5).trans (e6.trans e7)), a + r.2, left - r.1 / sz * r.2, _, _, _, rfl, ?_, by rw [← ha, Int.add_assoc]⟩)
        generalize r.1 / sz * r.2 = p at c
        omega
    · rintro _ H3 ⟨e3, a, left, t5, t6, t7, rfl, l0, ha⟩
      rw [hf.len, List.drop_length] at ha
      have ha : a + 0 = rwN sz rs n := ha
      exact ⟨.int a, rfl, by rw [Int.add_zero] at ha; rw [ha]; exact q H3 e3⟩
def spLu (K : PySem.W.Frag) : Sp := fun vs H Q _ => ∃ (l : Addr) (xs : List V) (rs : List (Int × Int)) (s n : Int), vs = [.ref l, .int s, .int n] ∧ SqL K H l xs ∧ F2 (RP K H) xs rs ∧ rs.length ≤ 40 ∧ RnB rs ∧ (numQ rs).natAbs < 10 ^ 600 ∧ 0 < s ∧ s.natAbs < 10 ^ 200 ∧ ∀ H', Evl.Ex H H' → Q (.int (luN s rs n)) H'
theorem numQ_cons (r : Int × Int) (t : List (Int × Int)) : numQ (r :: t) = r.2 + numQ t := by
  unfold numQ
  rw [List.map_cons, List.sum_cons]
theorem numQ_drop {rs : List (Int × Int)} (h : RnB rs) : ∀ i, 0 ≤ numQ (rs.drop i) ∧ numQ (rs.drop i) ≤ numQ rs := fun i => by
  have a := numQ_nn (rs := rs.drop i) fun r hr => (h r (List.mem_of_mem_drop hr)).2.2.1
  have b := numQ_nn (rs := rs.take i) fun r hr => (h r (List.mem_of_mem_take hr)).2.2.1
  have e : numQ rs = numQ (rs.take i) + numQ (rs.drop i) := by
    unfold numQ
    rw [← List.sum_append, ← List.map_append, List.take_append_drop]
  omega
theorem ok_lu (B : Bl mg) (D : Df K mg "_least_units" s__least_units ["rooms", "size", "needed"]) (C__rounded_up : Cg P w K mg base CX0 1 "_rounded_up" spRup) : Cg P w K mg base CX0 2 "_least_units" (spLu K) := by
  refine cg_of D sc__least_units (fun vs H Q E h => ?_) (fun f cdv' A fr s H vs Q E hr hgd h => ?_)
  · obtain ⟨l, xs, rs, sz, n, rfl, _⟩ := h
    rfl
  · obtain ⟨l, xs, rs, sz, n, rfl, hl, hf, ln, hb, nq, s0, s1, q⟩ := h
    refine ⟨_, (pss_cons (ps_set (i := 3) sc__least_units.nd rfl (by first | exact Or.inl rfl | exact Or.inr rfl) (pv 2))
    (pss_cons (ps_set (i := 4) sc__least_units.nd rfl (by first | exact Or.inl rfl | exact Or.inr rfl) (pe_callB (cr_sum rfl) (by rfl) B.sum bt_sum (pa_cons (pe_lc (own := [("_", 8), ("many", 6)]) (g := (gTup K 2 (gCons (gName 8) (gCons (gName 6) gNil)))) rfl sc__least_units.nd (pi_list (pv 0)) (blkOk_by (own := [("_", 8), ("many", 6)]) (N := n__least_units) (sc := defScope s__least_units) (by decide +kernel)) (fun _ _ _ _ _ => (pg_tup (n := 2) rfl (pgs_cons (pg_name (i := 8) sc__least_units.nd rfl (by first | exact Or.inl rfl | exact Or.inr rfl)) (pgs_cons (pg_name (i := 6) sc__least_units.nd rfl (by first | exact Or.inl rfl | exact Or.inr rfl)) pgs_nil)))) (fun _ _ _ _ _ => pts_nil) (fun _ _ _ _ _ => (pv 6))) pa_nil)))
     (pss_cons (ps_for PassesOwn.never rfl (pi_list (pv 0)) (pg_tup (n := 2) rfl (pgs_cons (pg_name (i := 5) sc__least_units.nd rfl (by first | exact Or.inl rfl | exact Or.inr rfl)) (pgs_cons (pg_name (i := 6) sc__least_units.nd rfl (by first | exact Or.inl rfl | exact Or.inr rfl)) pgs_nil))) (pss_cons (ps_set (i := 7) sc__least_units.nd rfl (by first | exact Or.inl rfl | exact Or.inr rfl) (pcg C__rounded_up hr hgd (pa_cons (pv 3) (pa_cons (pv 4) pa_nil))))
    (pss_cons (ps_if (pt_cmpR op_le (pv 7) (pe_op op_fdivW (pv 5) (pv 1)) (nomark _)) (pss_one (ps_ret (pv 7))) pss_nil)
     (pss_cons (ps_set (i := 3) sc__least_units.nd rfl (by first | exact Or.inl rfl | exact Or.inr rfl) (pe_op op_sub (pv 3) (pe_op op_mulW (pe_op op_fdivW (pv 5) (pv 1)) (pv 6))))
      (pss_one (ps_set (i := 4) sc__least_units.nd rfl (by first | exact Or.inl rfl | exact Or.inr rfl) (pe_op op_sub (pv 4) (pv 6))))))))
      (pss_one (ps_ret pe_int))))), ?_⟩
    refine Evl.q_asg (Evl.ev_var rfl) (fun H1 e1 => ?_)
    refine Evl.q_asg (v := .int (numQ rs)) (Evl.ev_is (ev_sum (K := K) (ns := rs.map fun r => r.2) (Ck.el_is (el_lcPV (K := K) (fun r => .int r.2) (Evl.ev_var rfl) (Evl.ex_l e1 hl) (hf.imp fun x b r => r.ex e1) (by omega) (fun _ _ => rfl) (fun r hr H2 e2 => Evl.ev_var rfl)) (by rw [List.map_map]; rfl))) rfl) (fun H2 e2 => ?_)
    refine ⟨.ref l, rfl, l, rfl, ⟨_, Evl.ex_l (e1.trans e2) hl⟩, ?_⟩
    refine for_it walk_list (fun i σ H' => Evl.Ex H H' ∧ ∃ (left : Int) (t5 t6 t7 : Option V), σ = [some (.ref l), some (.int sz), some (.int n), some (.int left), some (.int (numQ (rs.drop i))), t5, t6, t7, none] ∧ luN sz (rs.drop i) left = luN sz rs n) ⟨e1.trans e2, n, none, none, none, rfl, rfl⟩ (fun i σ H' _ h => Evl.ex_l h.1 hl) ?_ ?_
    · rintro i x σ H3' H3 hi ⟨e3, left, t5, t6, t7, rfl, ha⟩ ⟨rfl, hxi⟩
      obtain ⟨r, hri, hx⟩ := F2.at (hf.imp fun x b r => r.ex e3) hxi
      obtain ⟨hi2, rfl⟩ := List.getElem?_eq_some_iff.mp hri
      obtain ⟨u, rfl, hu⟩ := hx
      obtain ⟨b1, b2, b3, b4⟩ := hb _ (List.getElem_mem hi2)
      have d0 := numQ_drop hb i
      have d1 := numQ_drop hb (i + 1)
      rw [List.drop_eq_getElem_cons hi2] at ha d0 ⊢
      generalize rs[i] = r at hu ha b1 b2 b3 b4 d0 ⊢
      rw [numQ_cons] at d0 ⊢
      obtain ⟨k0, k1⟩ := div_abs (Int.le_of_lt b1) s0 b2
      refine ⟨u, _, rfl, hu, rfl, _, _, rfl, _, _, rfl, rfl, ?_⟩
      refine Evl.q_asg (v := .int (cdv left (r.2 + numQ (rs.drop (i + 1))))) (Evl.ev_call (vs := [.int left, .int (r.2 + numQ (rs.drop (i + 1)))]) (Evl.ea_cons (Evl.ev_var rfl) (Evl.ea_cons (Evl.ev_var rfl) Evl.ea_nil)) (rup_v (by omega) (by omega))) (fun H4 e4 => ?_)
      have e : luN sz (r :: rs.drop (i + 1)) left = if cdv left (r.2 + numQ (rs.drop (i + 1))) ≤ r.1 / sz then cdv left (r.2 + numQ (rs.drop (i + 1))) else luN sz (rs.drop (i + 1)) (left - r.1 / sz * r.2) := rfl
      rw [e] at ha
      clear e
      generalize cdv left (r.2 + numQ (rs.drop (i + 1))) = U at ha ⊢
      refine Evl.q_when (b := decide (U ≤ r.1 / sz)) (Evl.et_test (ev_i0 (g := fun i j => .bl (decide (i ≤ j))) (Evl.ev_var rfl) (ev_i (g := fun i j => .int (i / j)) (Evl.ev_var rfl) (Evl.ev_var rfl) (divW s0 s1)))) (fun c H5 e5 => ?_) (fun c H5 e5 => ?_)
      · rw [if_pos (of_decide_eq_true c)] at ha
        exact Evl.s_ret (Evl.ev_var rfl) (fun H6 e6 => by
          have z := q H6 (e3.trans (e4.trans (e5.trans e6)))
          rw [← ha] at z
          exact z)
      · rw [if_neg (of_decide_eq_false c)] at ha
        refine Evl.q_asg (v := .int (left - r.1 / sz * r.2)) (ev_i0 (g := fun i j => .int (i - j)) (Evl.ev_var rfl) (ev_i (g := fun i j => .int (i * j)) (ev_i (g := fun i j => .int (i / j)) (Evl.ev_var rfl) (Evl.ev_var rfl) (divW s0 s1)) (Evl.ev_var rfl) (mul200 k1 b4))) (fun H6 e6 => ?_)
        refine Evl.s_asg (v := .int (numQ (rs.drop (i + 1)))) (Evl.ev_is (ev_i0 (g := fun i j => .int (i - j)) (Evl.ev_var rfl) (Evl.ev_var rfl)) (congrArg V.int (by omega))) (fun H7 e7 => ⟨e3.trans ((e4.trans e5).trans (e6.trans e7)), left - r.1 / sz * r.2, _, _, _, rfl, ha⟩)
    · rintro _ H3 ⟨e3, left, t5, t6, t7, rfl, ha⟩
      rw [hf.len, List.drop_length] at ha
      have ha : 0 = luN sz rs n := ha
      have z := q H3 e3
      rw [← ha] at z
      exact z
def spFwF : Sp := fun vs H Q _ => ∃ (g : Addr) (ps : List (Int × Int)) (r : Int), vs = [.ref g, .int r] ∧ H g = some (.dK (ps.map kc)) ∧ Cts ps ∧ sizB r = true ∧ (∀ p ∈ ps, p.1 ≤ r) ∧ ∀ H', Evl.Ex H H' → Q (.int (mx0 (ps.map fun p => cdv (unt ps p.1) (r / p.1)))) H'
theorem max_le {l : List Int} {r : Int} (h : ∀ y ∈ l, y ≤ r) (r0 : 0 ≤ r) (nn : ∀ y ∈ l, 0 ≤ y) : mx0 l ≤ r := (mx0_le r0).mpr h
theorem ev_mx0 {te : TE} {σ : L2.St} {H : Hp} {ns : List Int} (h : Evl.EvL te σ H (ns.map V.int)) (nn : ∀ y ∈ ns, 0 ≤ y) : Evl.Ev (tCKw (rMaxD K) (tCons te tNil) (tCons (tC (.int 0)) tNil)) σ H (.int (mx0 ns)) := ev_maxD0 h (fun z => by rw [z]; rfl) (fun z => ⟨mx0_mem z nn, (mx0_le (mx0_nn nn)).mp (Int.le_refl _)⟩)
theorem ok_fwf (B : Bl mg) (D : Df K mg "fewest_for" s_fewest_for ["counts", "room"]) (C_units_of : Cl P w K mg base 1 "units_of" (spUnitsL K)) (C__rounded_up : Cg P w K mg base CX0 1 "_rounded_up" spRup) : Cg P w K mg base CX0 2 "fewest_for" spFwF := by
  refine cg_of D sc_fewest_for (fun vs H Q E h => ?_) (fun f cdv' A fr s H vs Q E hr hgd h => ?_)
  · obtain ⟨g, ps, r, rfl, _⟩ := h
    rfl
  · obtain ⟨g, ps, r, rfl, hg, ct, hr', hle, q⟩ := h
    refine ⟨_, (pss_cons (ps_set (i := 2) sc_fewest_for.nd rfl (by first | exact Or.inl rfl | exact Or.inr rfl) (pe_callBK (cr_maxD rfl) (by rfl) B.max bt_max (pa_cons (pe_callTy (call_listD rfl) (by rfl) B.list bt_list (pa_cons (pv 0) pa_nil)) pa_nil) (pk_cons pe_int pk_nil)))
    (pss_cons (ps_if (pt_cmpR op_gt (pv 2) (pv 1) (nomark _)) (pss_one (ps_never)) pss_nil)
     (pss_cons (ps_set (i := 3) sc_fewest_for.nd rfl (by first | exact Or.inl rfl | exact Or.inr rfl) (pe_listItemsR rfl (pv 0) (by rfl) B.list bt_list))
      (pss_one (ps_ret (pe_callBK (cr_maxD rfl) (by rfl) B.max bt_max (pa_cons (pe_lock (pe_lc (own := [("size", 4)]) (g := (gName 4)) rfl sc_fewest_for.nd (pi_keys (pv 0)) (blkOk_by (own := [("size", 4)]) (N := n_fewest_for) (sc := defScope s_fewest_for) (by decide +kernel)) (fun _ _ _ _ _ => (pg_name (i := 4) sc_fewest_for.nd rfl (by first | exact Or.inl rfl | exact Or.inr rfl))) (fun _ _ _ _ _ => pts_nil) (fun _ _ _ _ _ => (pcg C__rounded_up hr hgd (pa_cons (pcg (Cl.g C_units_of) hr hgd (pa_cons (pv 3) (pa_cons (pv 4) pa_nil))) (pa_cons (pe_op op_fdivW (pv 1) (pv 4)) pa_nil)))))) pa_nil) (pk_cons pe_int pk_nil))))))), ?_⟩
    have ln := ct.ln
    obtain ⟨r0, r1⟩ := siz_int hr'
    have p0 : ∀ y ∈ ps.map Prod.fst, 0 ≤ y := fun y hy => by
      obtain ⟨p, hp, rfl⟩ := List.mem_map.mp hy
      exact Int.le_of_lt (siz_int (ct.ok p hp).1).1
    refine Evl.q_asg (v := .int (mx0 (ps.map Prod.fst))) (ev_mx0 (K := K) (el_listD (Evl.ev_var rfl) (.inl hg)) p0) (fun H1 e1 => ?_)
    refine Evl.q_when (b := false) (Evl.et_is (Evl.et_test (ev_i0 (g := fun i j => .bl (decide (i > j))) (Evl.ev_var rfl) (Evl.ev_var rfl))) (decide_eq_false (Int.not_lt.mpr (max_le (fun y hy => by
      obtain ⟨p, hp, rfl⟩ := List.mem_map.mp hy
      exact hle p hp) (Int.le_of_lt r0) p0)))) (fun z => nomatch z) (fun _ H2 e2 => ?_)
    refine q_asgP (P := fun v H' => ∃ l vs, v = .ref l ∧ Evl.Ex H2 H' ∧ H' l = some (.lst vs) ∧ F2 (RP K H') vs ps) (fun Q2 q2 => evp_itemsR (K := K) (Evl.ev_var rfl) (.inl ((e1.trans e2) _ _ hg)) H2 (Evl.Ex.refl H2) _ fun l vs H3 _ e3 hl hf => q2 _ _ ⟨l, vs, rfl, e3, hl, hf⟩) ?_
    rintro _ H3 ⟨l, vs, rfl, e3, hl, hf⟩
    have hg3 := (e1.trans (e2.trans e3)) _ _ hg
    refine Evl.s_ret (ev_mx0 (K := K) (ns := ps.map fun p => cdv (unt ps p.1) (r / p.1)) (Ck.el_is (el_lcK (fun _ => true) (fun j => .int (cdv (unt ps (ps.getD j (0, 0)).1) (r / (ps.getD j (0, 0)).1))) (fun _ => Evl.ev_var rfl) hg3 (by rw [List.length_map]; omega) (fun _ => rfl) (fun j k x H4 hk _ => et_yes) (fun j k x H4 hk hz _ => ?_)) ?_) ?_) (fun H4 e4 => q H4 (e1.trans (e2.trans (e3.trans e4))))
    · obtain ⟨p, hp, e, rfl, rfl⟩ := kc_at hk
      rw [e]
      obtain ⟨p1, u1⟩ := own_pos ct hp
      have s1 := siz_nat (ct.ok p hp).1
      obtain ⟨k0, k1⟩ := div_abs (Int.le_of_lt r0) p1 r1
      have kp : 0 < r / p.1 := by
        have := (Int.le_ediv_iff_mul_le (a := 1) (b := r) p1).mpr (by have := hle p hp; omega)
        omega
      refine Evl.ev_call (vs := [.int (unt ps p.1), .int (r / p.1)]) (Evl.ea_cons (Evl.ev_call (vs := [.ref l, .int p.1]) (Evl.ea_cons (Evl.ev_var rfl) (Evl.ea_cons (Evl.ev_var rfl) Evl.ea_nil)) (fun H5 e5 Q q E => ⟨l, p.1, vs, ps, rfl, Evl.ex_l e5 (SqL.fz hz hg3 (SqL.of hl)), (rp_fz hz hg3 hf).imp fun x b r => r.ex e5, by omega, fun r hr => ⟨Int.le_of_lt (siz_int (ct.ok r hr).1).1, (siz_int (ct.ok r hr).1).2, (siz_int (ct.ok r hr).2).2⟩, p1, s1, q⟩)) (Evl.ea_cons (ev_i (g := fun i j => .int (i / j)) (Evl.ev_var rfl) (Evl.ev_var rfl) (divW p1 s1)) Evl.ea_nil)) (rup_v kp (Nat.lt_trans k1 (by decide +kernel)))
    · rw [List.length_map]
      refine (given_if ps (fun _ => true) fun p => cdv (unt ps p.1) (r / p.1)).trans ?_
      rw [List.filter_eq_self.mpr fun _ _ => rfl]
    · intro y hy
      obtain ⟨p, hp, rfl⟩ := List.mem_map.mp hy
      obtain ⟨p1, u1⟩ := own_pos ct hp
      have := (Int.le_ediv_iff_mul_le (a := 1) (b := r) p1).mpr (by have := hle p hp; omega)
      exact cdv_nn (by omega) (Int.le_of_lt u1)
def spFr (K : PySem.W.Frag) (CL : Addr) : Sp := fun vs H Q _ => ∃ (a : Addr) (ps : List (Int × Int)) (r : Int), vs = [.ref a, .int r] ∧ LotAt K CL H a ps ∧ LotC ps ∧ sizB r = true ∧ (∀ p ∈ ps, p.1 ≤ r) ∧ ∀ n H', Evl.Ex H H' → IsFr ps r n → Q (.int n) H'
theorem ok_fr {CL : Addr} (D : Df K mg "fewest_rooms" s_fewest_rooms ["lot", "room"]) (C_check_lot : Cl P w K mg base 1 "check_lot" (spIsLot K CL)) (C_check_size : Cl P w K mg base 3 "check_size" (spChkN sizB)) (C_check_together : Cg P w K mg base CX0 2 "check_together" (spTogN K)) (P_sizes : Pg P w K mg base 1 CL "sizes" (spSizes K CL)) (P_counts : Pg P w K mg base 1 CL "counts" (spCounts K CL)) (C_fewest_for : Cg P w K mg base CX0 2 "fewest_for" spFwF) : Cg P w K mg base CX0 5 "fewest_rooms" (spFr K CL) := by
  refine cg_of D sc_fewest_rooms (fun vs H Q E h => ?_) (fun f cdv' A fr s H vs Q E hr hgd h => ?_)
  · obtain ⟨a, ps, r, rfl, _⟩ := h
    rfl
  · obtain ⟨a, ps, r, rfl, hl, hc, hr', hle, q⟩ := h
    refine ⟨_, (pss_cons (ps_expr (pcg (Cl.g C_check_lot) hr hgd (pa_cons (pv 0) pa_nil)))
    (pss_cons (ps_expr (pcg (Cl.g C_check_size) hr hgd (pa_cons (pv 1) pa_nil)))
     (pss_cons (ps_expr (pcg C_check_together hr hgd (pa_cons (pprop P_sizes hr (pv 0)) pa_nil)))
      (pss_one (ps_ret (pcg C_fewest_for hr hgd (pa_cons (pprop P_counts hr (pv 0)) (pa_cons (pv 1) pa_nil)))))))), ?_⟩
    have ln := hc.ct.ln
    refine Evl.q_drop (ev_call1 (Evl.ev_var rfl) (chklot_v hl)) (fun H1 e1 => Evl.q_drop (ev_call1 (Evl.ev_var rfl) (chkn_v hr')) (fun H2 e2 => ?_))
    refine etu_sizes (Evl.ev_var rfl) (hl.up (e1.trans e2)) H2 (Evl.Ex.refl H2) _ (fun t H3 e3 ht => ⟨t, _, rfl, ht, by rw [List.length_map]; omega, fun n hn => (cts_pos hc.ct n hn).1, hc.uni, fun H4 e4 => ?_⟩)
    have E4 := e1.trans (e2.trans (e3.trans e4))
    refine evr_counts (K := K) (elot_v (Evl.ev_var (i := 0) rfl) (hl.up E4)) H4 (Evl.Ex.refl H4) _ fun v H5 e5 hv => ?_
    obtain ⟨g, rfl, hg⟩ := hv
    exact ⟨.int r, rfl, g, ps, r, rfl, hg, hc.ct, hr', hle, fun H6 e6 => q _ H6 (E4.trans (e5.trans e6)) (fr_is hc.ct hle)⟩
def spRm (K : PySem.W.Frag) (CL : Addr) : Sp := fun vs H Q _ => ∃ (a : Addr) (ps : List (Int × Int)) (n : Int), vs = [.ref a, .int n] ∧ LotAt K CL H a ps ∧ LotC ps ∧ sizB n = true ∧ ∀ m H', Evl.Ex H H' → IsRm ps n m → Q (.int m) H'
theorem ok_rm {CL : Addr} (B : Bl mg) (D : Df K mg "least_room" s_least_room ["lot", "rooms"]) (C_check_lot : Cl P w K mg base 1 "check_lot" (spIsLot K CL)) (C_check_size : Cl P w K mg base 3 "check_size" (spChkN sizB)) (C_check_together : Cg P w K mg base CX0 2 "check_together" (spTogN K)) (P_sizes : Pg P w K mg base 1 CL "sizes" (spSizes K CL)) (O_Lot_units : Og P w K mg base 4 CL "units" ["self", "size"] (spLotU K CL)) (C__rounded_up : Cg P w K mg base CX0 1 "_rounded_up" spRup) : Cg P w K mg base CX0 5 "least_room" (spRm K CL) := by
  refine cg_of D sc_least_room (fun vs H Q E h => ?_) (fun f cdv' A fr s H vs Q E hr hgd h => ?_)
  · obtain ⟨a, ps, r, rfl, _⟩ := h
    rfl
  · obtain ⟨a, ps, n, rfl, hl, hc, hn, q⟩ := h
    refine ⟨_, (pss_cons (ps_expr (pcg (Cl.g C_check_lot) hr hgd (pa_cons (pv 0) pa_nil)))
    (pss_cons (ps_expr (pcg (Cl.g C_check_size) hr hgd (pa_cons (pv 1) pa_nil)))
     (pss_cons (ps_expr (pcg C_check_together hr hgd (pa_cons (pprop P_sizes hr (pv 0)) pa_nil)))
      (pss_one (ps_ret (pe_callBK (cr_maxD rfl) (by rfl) B.max bt_max (pa_cons (pe_lc (own := [("size", 2)]) (g := (gName 2)) rfl sc_least_room.nd (pi_tup (pprop P_sizes hr (pv 0))) (blkOk_by (own := [("size", 2)]) (N := n_least_room) (sc := defScope s_least_room) (by decide +kernel)) (fun _ _ _ _ _ => (pg_name (i := 2) sc_least_room.nd rfl (by first | exact Or.inl rfl | exact Or.inr rfl))) (fun _ _ _ _ _ => pts_nil) (fun _ _ _ _ _ => (pe_op op_mulW (pcg C__rounded_up hr hgd (pa_cons (pmeth O_Lot_units hr (pv 0) (pa_cons (pv 2) pa_nil)) (pa_cons (pv 1) pa_nil))) (pv 2)))) pa_nil) (pk_cons pe_int pk_nil))))))), ?_⟩
    have ln := hc.ct.ln
    obtain ⟨n0, n1⟩ := siz_int hn
    refine Evl.q_drop (ev_call1 (Evl.ev_var rfl) (chklot_v hl)) (fun H1 e1 => Evl.q_drop (ev_call1 (Evl.ev_var rfl) (chkn_v hn)) (fun H2 e2 => ?_))
    refine etu_sizes (Evl.ev_var rfl) (hl.up (e1.trans e2)) H2 (Evl.Ex.refl H2) _ (fun t H3 e3 ht => ⟨t, _, rfl, ht, by rw [List.length_map]; omega, fun n hn => (cts_pos hc.ct n hn).1, hc.uni, fun H4 e4 => ?_⟩)
    have E4 := e1.trans (e2.trans (e3.trans e4))
    have hl4 := hl.up E4
    have cb : ∀ p ∈ ps, 0 ≤ cdv (unt ps p.1) n ∧ (cdv (unt ps p.1) n).natAbs < 10 ^ 500 := fun p hp => by
      obtain ⟨p1, u1⟩ := own_pos hc.ct hp
      have a := cdv_nn n0 (Int.le_of_lt u1)
      have b := (cdv_le (a := unt ps p.1) (n := unt ps p.1) n0).mpr (by
        have := Int.mul_le_mul_of_nonneg_left (show 1 ≤ n by omega) (Int.le_of_lt u1)
        rw [Int.mul_one] at this
        exact this)
      have c := (untC hc.ct p1).2
      exact ⟨a, by omega⟩
    refine Evl.s_ret (ev_mx0 (K := K) (ns := ps.map fun p => cdv (unt ps p.1) n * p.1) (Ck.el_is (el_lcN (K := K) (fun _ => true) (fun s => .int (cdv (unt ps s) n * s)) (etu_sizes (Evl.ev_var (i := 0) rfl) hl4) (by rw [List.length_map]; omega) (fun _ => rfl) (fun s hs H5 e5 => et_yes) (fun s hs _ H5 e5 => ?_)) ?_) ?_) (fun H5 e5 => q _ H5 (E4.trans e5) (rm_is hc.ct n0))
    · obtain ⟨s0, s1, s2⟩ := cts_pos hc.ct s hs
      obtain ⟨p, hp, rfl⟩ := List.mem_map.mp hs
      refine ev_i (g := fun i j => .int (i * j)) (Evl.ev_call (vs := [.int (unt ps p.1), .int n]) (Evl.ea_cons (ev_lotU (Evl.ev_var (i := 0) rfl) (Evl.ev_var (i := 2) rfl) (hl4.up e5) hc.ct s2 (hc.dv _ hs)) (Evl.ea_cons (Evl.ev_var rfl) Evl.ea_nil)) (rup_v n0 (Nat.lt_trans (siz_nat hn) (by decide +kernel)))) (Evl.ev_var rfl) (wide_mul (a := 1800) (b := 800) (Nat.lt_trans (cb p hp).2 (by decide +kernel)) (Nat.lt_trans s1 (by decide +kernel)) (by decide) (by decide) (by decide))
    · rw [List.filter_eq_self.mpr fun _ _ => rfl, List.map_map, List.map_map]
      rfl
    · intro y hy
      obtain ⟨p, hp, rfl⟩ := List.mem_map.mp hy
      exact Int.mul_nonneg (cb p hp).1 (Int.le_of_lt (own_pos hc.ct hp).1)
theorem RM_b {rs : List (Int × Int)} (so : StoOk rs) (nb : (numR rs).natAbs < 10 ^ 200) : RnB (RMs rs) := fun r hr => by
  obtain ⟨a, b, c, d⟩ := RM_ok so r hr
  exact ⟨a, b, c, by omega⟩
theorem RM_len {rs : List (Int × Int)} (so : StoOk rs) : (RMs rs).length ≤ 40 := Nat.le_trans (rms_len _) (by rw [(srtR_perm rs).length_eq]; exact so.ln)
theorem evp_rooms {CS a : Addr} {te : TE} {σ : L2.St} {H : Hp} {rs : List (Int × Int)} (h : Evl.Ev te σ H (.ref a)) (hl : StoAt K CS H a rs) (ln : rs.length ≤ 40) : EvP K (tListItemsR (tProp CS (spSRooms K CS) [] E0 te)) σ H (RMs rs) := fun H1 e Q q => h H1 e _ fun H2 e2 => by
  have hl2 := hl.up (e.trans e2)
  obtain ⟨dx, t1, ts1, h1, _⟩ := hl2.ex
  exact ⟨a, dx, _, rfl, h1, a, rs, rfl, hl2, ln, fun p ss H3 np e3 pm so hp => ⟨p, _, rfl, .inl hp, fun H' l ts e4 hl' _ _ hls hr => q l _ H' (Evl.fresh_back (e2.trans e3) hl') ((e2.trans e3).trans e4) hls (f2_of_paired (by rw [← rms_RM pm so]; exact hr))⟩⟩
def spCf (K : PySem.W.Frag) (CL CS : Addr) : Sp := fun vs H Q _ => ∃ (a b : Addr) (ps rs : List (Int × Int)), vs = [.ref a, .ref b] ∧ LotAt K CL H a ps ∧ LotC ps ∧ StoAt K CS H b rs ∧ StoOk rs ∧ fitB ps rs = true ∧ ∀ H', Evl.Ex H H' → Q .non H'
theorem ok_cf {CL CS : Addr} (D : Df K mg "_check_fit" s__check_fit ["lot", "store"]) (C_barring_sizes : Cg P w K mg base CX0 6 "barring_sizes" (spBrs K CL CS)) : Cg P w K mg base CX0 7 "_check_fit" (spCf K CL CS) := by
  refine cg_of D sc__check_fit (fun vs H Q E h => ?_) (fun f cdv' A fr s H vs Q E hr hgd h => ?_)
  · obtain ⟨a, b, ps, rs, rfl, _⟩ := h
    rfl
  · obtain ⟨a, b, ps, rs, rfl, hl, hc, hs, so, ft, q⟩ := h
    refine ⟨_, (pss_cons (ps_set (i := 2) sc__check_fit.nd rfl (by first | exact Or.inl rfl | exact Or.inr rfl) (pcg C_barring_sizes hr hgd (pa_cons (pv 0) (pa_cons (pv 1) pa_nil))))
    (pss_one (ps_if (pt_truth (pv 2) (fun _ => rfl)) (pss_one (ps_never)) pss_nil))), ?_⟩
    have be : brs ps rs = [] := of_decide_eq_true ((fit_brs ps rs).trans ft)
    refine q_asgP (P := fun v H' => ∃ t, v = .ref t ∧ Evl.Ex H H' ∧ SqT K H' t (([] : List Int).map V.int)) (fun Q2 q2 => ⟨.ref a, rfl, .ref b, rfl, a, b, ps, rs, rfl, hl, hc, hs, so, fun t H1 e1 ht => q2 _ _ ⟨t, rfl, e1, by rw [be] at ht; exact ht⟩⟩) ?_
    rintro _ H1 ⟨t, rfl, e1, ht⟩
    exact Evl.s_when (b := false) (et_tupN (K := K) (ns := []) (Evl.ev_var rfl) ht) (fun z => nomatch z) (fun _ H2 e2 => q H2 (e1.trans e2))
structure FoOk (ps rs : List (Int × Int)) : Prop where
  lc : LotC ps
  so : StoOk rs
  nb : (numR rs).natAbs < 10 ^ 200
  ft : fitB ps rs = true
theorem FoOk.le {ps rs : List (Int × Int)} (h : FoOk ps rs) : ∀ p ∈ ps, unt ps p.1 ≤ unt rs p.1 := fun p hp => of_decide_eq_true (List.all_eq_true.mp h.ft p.1 (List.mem_map_of_mem hp))
def numL (ps rs : List (Int × Int)) : List (Int × Int) := ps.map fun p => (rwN p.1 (RMs rs).reverse (unt ps p.1), p.1)
def capL (ps rs : List (Int × Int)) : List (Int × Int) := ps.map fun p => (luN p.1 (RMs rs) (unt ps p.1) * p.1, p.1)
def spNms (K : PySem.W.Frag) (CL CS : Addr) : Sp := fun vs H Q _ => ∃ (a b : Addr) (ps rs : List (Int × Int)), vs = [.ref a, .ref b] ∧ LotAt K CL H a ps ∧ StoAt K CS H b rs ∧ FoOk ps rs ∧ ∀ l ys H', H l = none → Evl.Ex H H' → H' l = some (.lst ys) → F2 (RP K H') ys (numL ps rs) → Q (.ref l) H'
def spCps (K : PySem.W.Frag) (CL CS : Addr) : Sp := fun vs H Q _ => ∃ (a b : Addr) (ps rs : List (Int × Int)), vs = [.ref a, .ref b] ∧ LotAt K CL H a ps ∧ StoAt K CS H b rs ∧ FoOk ps rs ∧ ∀ l ys H', H l = none → Evl.Ex H H' → H' l = some (.lst ys) → F2 (RP K H') ys (capL ps rs) → Q (.ref l) H'
theorem ok_nms {CL CS : Addr} (B : Bl mg) (D : Df K mg "_numbers" s__numbers ["lot", "store"]) (C_levels_of : Cg P w K mg base CX0 5 "levels_of" (spLvs K CL CS)) (P_rooms : Pg P w K mg base 1 CS "rooms" (spSRooms K CS)) (C__rooms_with : Cg P w K mg base CX0 2 "_rooms_with" (spRw K)) : Cg P w K mg base CX0 6 "_numbers" (spNms K CL CS) := by
  refine cg_of D sc__numbers (fun vs H Q E h => ?_) (fun f cdv' A fr s H vs Q E hr hgd h => ?_)
  · obtain ⟨a, b, ps, rs, rfl, _⟩ := h
    rfl
  · obtain ⟨a, b, ps, rs, rfl, hl, hs, fo, q⟩ := h
    refine ⟨_, (pss_cons (ps_set (i := 2) sc__numbers.nd rfl (by first | exact Or.inl rfl | exact Or.inr rfl) (pe_revL (pe_listItemsR rfl (pprop P_rooms hr (pv 1)) (by rfl) B.list bt_list)))
    (pss_one (ps_ret (pe_lc (own := [("size", 3), ("needed", 4), ("_", 5)]) (g := (gTup K 3 (gCons (gName 3) (gCons (gName 4) (gCons (gName 5) gNil))))) rfl sc__numbers.nd (pi_tup (pcg C_levels_of hr hgd (pa_cons (pv 0) (pa_cons (pv 1) pa_nil)))) (blkOk_by (own := [("size", 3), ("needed", 4), ("_", 5)]) (N := n__numbers) (sc := defScope s__numbers) (by decide +kernel)) (fun _ _ _ _ _ => (pg_tup (n := 3) rfl (pgs_cons (pg_name (i := 3) sc__numbers.nd rfl (by first | exact Or.inl rfl | exact Or.inr rfl)) (pgs_cons (pg_name (i := 4) sc__numbers.nd rfl (by first | exact Or.inl rfl | exact Or.inr rfl)) (pgs_cons (pg_name (i := 5) sc__numbers.nd rfl (by first | exact Or.inl rfl | exact Or.inr rfl)) pgs_nil))))) (fun _ _ _ _ _ => pts_nil) (fun _ _ _ _ _ => (pe_tup (pa_cons (pcg C__rooms_with hr hgd (pa_cons (pv 2) (pa_cons (pv 3) (pa_cons (pv 4) pa_nil)))) (pa_cons (pv 3) pa_nil)))))))), ?_⟩
    have so := fo.so
    have ct := fo.lc.ct
    have ln := ct.ln
    refine q_asgP (P := fun v H' => ∃ l ys, v = .ref l ∧ Evl.Ex H H' ∧ H' l = some (.lst ys) ∧ F2 (RP K H') ys (RMs rs).reverse) (fun Q2 q2 => evp_rev (evp_rooms (K := K) (Evl.ev_var (i := 1) rfl) hs so.ln) H (Evl.Ex.refl H) _ fun l ys H1 _ e1 h1 h2 => q2 _ _ ⟨l, ys, rfl, e1, h1, h2⟩) ?_
    rintro _ H1 ⟨l, ys, rfl, e1, h1, h2⟩
    refine evp_lcT3 (K := K) (qs := lvs ps rs) (fun t => (rwN t.1 (RMs rs).reverse t.2.1, t.1)) (fun H2 e2 Q q => ⟨.ref a, rfl, .ref b, rfl, a, b, ps, rs, rfl, hl.up (e1.trans e2), fo.lc, hs.up (e1.trans e2), so, fun t ts H3 e3 ht hf => q t ts H3 e3 ht hf⟩) (by unfold lvs; rw [List.length_map, List.length_map]; omega) (fun _ _ _ => rfl) (fun t ht H2 e2 => ?_) H1 (Evl.Ex.refl H1) _ (fun D vs H2 nD e2 hD hf => q D vs H2 (Evl.fresh_back e1 nD) (e1.trans e2) hD ?_)
    · obtain ⟨s, hs', rfl⟩ := List.mem_map.mp ht
      obtain ⟨p, hp, rfl⟩ := List.mem_map.mp hs'
      obtain ⟨p1, u1⟩ := own_pos ct hp
      exact evr_p2 (Evl.ev_call (vs := [.ref l, .int p.1, .int (unt ps p.1)]) (Evl.ea_cons (Evl.ev_var rfl) (Evl.ea_cons (Evl.ev_var rfl) (Evl.ea_cons (Evl.ev_var rfl) Evl.ea_nil))) (fun H3 e3 Q q E => ⟨l, ys, (RMs rs).reverse, p.1, unt ps p.1, rfl, SqL.of ((e2.trans e3) _ _ h1), h2.imp fun x b r => r.ex (e2.trans e3), by rw [List.length_reverse]; exact RM_len so, fun r hr => RM_b so fo.nb r (List.mem_reverse.mp hr), p1, siz_nat (ct.ok p hp).1, u1, q⟩)) (Evl.ev_var rfl)
    · have e : (lvs ps rs).map (fun t => (rwN t.1 (RMs rs).reverse t.2.1, t.1)) = numL ps rs := by
        unfold lvs numL
        rw [List.map_map, List.map_map]
        rfl
      rw [← e]
      exact hf
theorem ok_cps {CL CS : Addr} (B : Bl mg) (D : Df K mg "_caps" s__caps ["lot", "store"]) (C_levels_of : Cg P w K mg base CX0 5 "levels_of" (spLvs K CL CS)) (P_rooms : Pg P w K mg base 1 CS "rooms" (spSRooms K CS)) (C__least_units : Cg P w K mg base CX0 2 "_least_units" (spLu K)) : Cg P w K mg base CX0 6 "_caps" (spCps K CL CS) := by
  refine cg_of D sc__caps (fun vs H Q E h => ?_) (fun f cdv' A fr s H vs Q E hr hgd h => ?_)
  · obtain ⟨a, b, ps, rs, rfl, _⟩ := h
    rfl
  · obtain ⟨a, b, ps, rs, rfl, hl, hs, fo, q⟩ := h
    refine ⟨_, (pss_cons (ps_set (i := 2) sc__caps.nd rfl (by first | exact Or.inl rfl | exact Or.inr rfl) (pe_listItemsR rfl (pprop P_rooms hr (pv 1)) (by rfl) B.list bt_list))
    (pss_one (ps_ret (pe_lc (own := [("size", 3), ("needed", 4), ("_", 5)]) (g := (gTup K 3 (gCons (gName 3) (gCons (gName 4) (gCons (gName 5) gNil))))) rfl sc__caps.nd (pi_tup (pcg C_levels_of hr hgd (pa_cons (pv 0) (pa_cons (pv 1) pa_nil)))) (blkOk_by (own := [("size", 3), ("needed", 4), ("_", 5)]) (N := n__caps) (sc := defScope s__caps) (by decide +kernel)) (fun _ _ _ _ _ => (pg_tup (n := 3) rfl (pgs_cons (pg_name (i := 3) sc__caps.nd rfl (by first | exact Or.inl rfl | exact Or.inr rfl)) (pgs_cons (pg_name (i := 4) sc__caps.nd rfl (by first | exact Or.inl rfl | exact Or.inr rfl)) (pgs_cons (pg_name (i := 5) sc__caps.nd rfl (by first | exact Or.inl rfl | exact Or.inr rfl)) pgs_nil))))) (fun _ _ _ _ _ => pts_nil) (fun _ _ _ _ _ => (pe_tup (pa_cons (pe_op op_mulW (pcg C__least_units hr hgd (pa_cons (pv 2) (pa_cons (pv 3) (pa_cons (pv 4) pa_nil)))) (pv 3)) (pa_cons (pv 3) pa_nil)))))))), ?_⟩
    have so := fo.so
    have ct := fo.lc.ct
    have ln := ct.ln
    refine q_asgP (P := fun v H' => ∃ l ys, v = .ref l ∧ Evl.Ex H H' ∧ H' l = some (.lst ys) ∧ F2 (RP K H') ys (RMs rs)) (fun Q2 q2 => evp_rooms (K := K) (Evl.ev_var (i := 1) rfl) hs so.ln H (Evl.Ex.refl H) _ fun l ys H1 _ e1 h1 h2 => q2 _ _ ⟨l, ys, rfl, e1, h1, h2⟩) ?_
    rintro _ H1 ⟨l, ys, rfl, e1, h1, h2⟩
    refine evp_lcT3 (K := K) (qs := lvs ps rs) (fun t => (luN t.1 (RMs rs) t.2.1 * t.1, t.1)) (fun H2 e2 Q q => ⟨.ref a, rfl, .ref b, rfl, a, b, ps, rs, rfl, hl.up (e1.trans e2), fo.lc, hs.up (e1.trans e2), so, fun t ts H3 e3 ht hf => q t ts H3 e3 ht hf⟩) (by unfold lvs; rw [List.length_map, List.length_map]; omega) (fun _ _ _ => rfl) (fun t ht H2 e2 => ?_) H1 (Evl.Ex.refl H1) _ (fun D vs H2 nD e2 hD hf => q D vs H2 (Evl.fresh_back e1 nD) (e1.trans e2) hD ?_)
    · obtain ⟨s, hs', rfl⟩ := List.mem_map.mp ht
      obtain ⟨p, hp, rfl⟩ := List.mem_map.mp hs'
      obtain ⟨p1, u1⟩ := own_pos ct hp
      have s1 := siz_nat (ct.ok p hp).1
      have asc := (rms_all _ (srtR rs) rfl).2.2.2 (srtR_srt rs)
      have l0 : 0 ≤ luN p.1 (RMs rs) (unt ps p.1) := (luN_least p1 (fun r hr => ⟨Int.le_of_lt (RM_ok so r hr).1, (RM_ok so r hr).2.2.1⟩) ((List.pairwise_map.mp asc).imp fun h => Int.ediv_le_ediv p1 (Int.le_of_lt h)) u1 (by
        have z : unt (RMs rs) p.1 = unt rs p.1 := (rms_unt (srtR_srt rs) (fun r hr => (sto_ss so (srtR_perm rs) r hr).2.2.1) p.1).trans (unt_perm (srtR_perm rs) p.1)
        rw [z]
        exact fo.le p hp)).1
      have l1 : (luN p.1 (RMs rs) (unt ps p.1)).natAbs < 10 ^ 200 := by
        have z := lu_le (s := p.1) (B := 10 ^ 200 - 1) (by decide +kernel) (rs := RMs rs) (left := unt ps p.1) fun r hr => by
          obtain ⟨x, y⟩ := div_abs (Int.le_of_lt (RM_ok so r hr).1) p1 (RM_ok so r hr).2.1
          omega
        omega
      exact evr_p2 (ev_i (g := fun i j => .int (i * j)) (Evl.ev_call (vs := [.ref l, .int p.1, .int (unt ps p.1)]) (Evl.ea_cons (Evl.ev_var rfl) (Evl.ea_cons (Evl.ev_var rfl) (Evl.ea_cons (Evl.ev_var rfl) Evl.ea_nil))) (fun H3 e3 Q q E => ⟨l, ys, RMs rs, p.1, unt ps p.1, rfl, SqL.of ((e2.trans e3) _ _ h1), h2.imp fun x b r => r.ex (e2.trans e3), RM_len so, RM_b so fo.nb, by rw [RM_num so]; exact Nat.lt_trans fo.nb (by decide +kernel), p1, s1, q⟩)) (Evl.ev_var rfl) (mul200 l1 s1)) (Evl.ev_var rfl)
    · have e : (lvs ps rs).map (fun t => (luN t.1 (RMs rs) t.2.1 * t.1, t.1)) = capL ps rs := by
        unfold lvs capL
        rw [List.map_map, List.map_map]
        rfl
      rw [← e]
      exact hf
def spFo (K : PySem.W.Frag) (CL CS : Addr) : Sp := fun vs H Q _ => ∃ (a b : Addr) (ps rs : List (Int × Int)), vs = [.ref a, .ref b] ∧ LotAt K CL H a ps ∧ StoAt K CS H b rs ∧ FoOk ps rs ∧ ∀ n H', Evl.Ex H H' → IsFo ps rs n → Q (.int n) H'
def spCap (K : PySem.W.Frag) (CL CS : Addr) : Sp := fun vs H Q _ => ∃ (a b : Addr) (ps rs : List (Int × Int)), vs = [.ref a, .ref b] ∧ LotAt K CL H a ps ∧ StoAt K CS H b rs ∧ FoOk ps rs ∧ ∀ n H', Evl.Ex H H' → IsCp ps rs n → Q (.int n) H'
theorem ok_fo {CL CS : Addr} (B : Bl mg) (D : Df K mg "fewest_of" s_fewest_of ["lot", "store"]) (C__check_fit : Cg P w K mg base CX0 7 "_check_fit" (spCf K CL CS)) (C__numbers : Cg P w K mg base CX0 6 "_numbers" (spNms K CL CS)) : Cg P w K mg base CX0 8 "fewest_of" (spFo K CL CS) := by
  refine cg_of D sc_fewest_of (fun vs H Q E h => ?_) (fun f cdv' A fr s H vs Q E hr hgd h => ?_)
  · obtain ⟨a, b, ps, rs, rfl, _⟩ := h
    rfl
  · obtain ⟨a, b, ps, rs, rfl, hl, hs, fo, q⟩ := h
    refine ⟨_, (pss_cons (ps_expr (pcg C__check_fit hr hgd (pa_cons (pv 0) (pa_cons (pv 1) pa_nil))))
    (pss_one (ps_ret (pe_callBK (cr_maxD rfl) (by rfl) B.max bt_max (pa_cons (pe_lc (own := [("number", 2), ("_", 3)]) (g := (gTup K 2 (gCons (gName 2) (gCons (gName 3) gNil)))) rfl sc_fewest_of.nd (pi_list (pcg C__numbers hr hgd (pa_cons (pv 0) (pa_cons (pv 1) pa_nil)))) (blkOk_by (own := [("number", 2), ("_", 3)]) (N := n_fewest_of) (sc := defScope s_fewest_of) (by decide +kernel)) (fun _ _ _ _ _ => (pg_tup (n := 2) rfl (pgs_cons (pg_name (i := 2) sc_fewest_of.nd rfl (by first | exact Or.inl rfl | exact Or.inr rfl)) (pgs_cons (pg_name (i := 3) sc_fewest_of.nd rfl (by first | exact Or.inl rfl | exact Or.inr rfl)) pgs_nil)))) (fun _ _ _ _ _ => pts_nil) (fun _ _ _ _ _ => (pv 2))) pa_nil) (pk_cons pe_int pk_nil))))), ?_⟩
    have ct := fo.lc.ct
    have ln := ct.ln
    refine Evl.q_drop (Evl.ev_call (vs := [.ref a, .ref b]) (Evl.ea_cons (Evl.ev_var rfl) (Evl.ea_cons (Evl.ev_var rfl) Evl.ea_nil)) (fun H1 e1 Q q E => ⟨a, b, ps, rs, rfl, hl.up e1, fo.lc, hs.up e1, fo.so, fo.ft, q⟩)) (fun H1 e1 => ?_)
    refine Evl.s_ret (ev_mx0 (K := K) (ns := ps.map fun p => rwN p.1 (RMs rs).reverse (unt ps p.1)) (Ck.el_is (el_lcPL (K := K) (ps := numL ps rs) (fun p => .int p.1) (fun H2 e2 Q q => ⟨.ref a, rfl, .ref b, rfl, a, b, ps, rs, rfl, hl.up (e1.trans e2), hs.up (e1.trans e2), fo, fun l ys H3 n3 e3 h1 h2 => q l ys H3 n3 e3 h1 h2⟩) (by unfold numL; rw [List.length_map]; omega) (fun _ _ => rfl) (fun p _ H2 _ => Evl.ev_var rfl)) (by unfold numL; rw [List.map_map, List.map_map]; rfl)) ?_) (fun H2 e2 => q _ H2 (e1.trans e2) (fo_is ct fo.so (srtR_perm rs) (srtR_srt rs) fo.le))
    · intro y hy
      obtain ⟨p, hp, rfl⟩ := List.mem_map.mp hy
      obtain ⟨p1, u1⟩ := own_pos ct hp
      exact (rwN_least p1 (fun r hr => ⟨Int.le_of_lt (RM_ok fo.so r (List.mem_reverse.mp hr)).1, (RM_ok fo.so r (List.mem_reverse.mp hr)).2.2.1⟩) u1 (by
        have z : unt (RMs rs) p.1 = unt rs p.1 := (rms_unt (srtR_srt rs) (fun r hr => (sto_ss fo.so (srtR_perm rs) r hr).2.2.1) p.1).trans (unt_perm (srtR_perm rs) p.1)
        rw [unt_perm (List.reverse_perm _), z]
        exact fo.le p hp)).1.1
theorem ok_cap {CL CS : Addr} (B : Bl mg) (D : Df K mg "least_cap" s_least_cap ["lot", "store"]) (C__check_fit : Cg P w K mg base CX0 7 "_check_fit" (spCf K CL CS)) (C__caps : Cg P w K mg base CX0 6 "_caps" (spCps K CL CS)) : Cg P w K mg base CX0 8 "least_cap" (spCap K CL CS) := by
  refine cg_of D sc_least_cap (fun vs H Q E h => ?_) (fun f cdv' A fr s H vs Q E hr hgd h => ?_)
  · obtain ⟨a, b, ps, rs, rfl, _⟩ := h
    rfl
  · obtain ⟨a, b, ps, rs, rfl, hl, hs, fo, q⟩ := h
    refine ⟨_, (pss_cons (ps_expr (pcg C__check_fit hr hgd (pa_cons (pv 0) (pa_cons (pv 1) pa_nil))))
    (pss_one (ps_ret (pe_callBK (cr_maxD rfl) (by rfl) B.max bt_max (pa_cons (pe_lc (own := [("cap", 2), ("_", 3)]) (g := (gTup K 2 (gCons (gName 2) (gCons (gName 3) gNil)))) rfl sc_least_cap.nd (pi_list (pcg C__caps hr hgd (pa_cons (pv 0) (pa_cons (pv 1) pa_nil)))) (blkOk_by (own := [("cap", 2), ("_", 3)]) (N := n_least_cap) (sc := defScope s_least_cap) (by decide +kernel)) (fun _ _ _ _ _ => (pg_tup (n := 2) rfl (pgs_cons (pg_name (i := 2) sc_least_cap.nd rfl (by first | exact Or.inl rfl | exact Or.inr rfl)) (pgs_cons (pg_name (i := 3) sc_least_cap.nd rfl (by first | exact Or.inl rfl | exact Or.inr rfl)) pgs_nil)))) (fun _ _ _ _ _ => pts_nil) (fun _ _ _ _ _ => (pv 2))) pa_nil) (pk_cons pe_int pk_nil))))), ?_⟩
    have ct := fo.lc.ct
    have ln := ct.ln
    refine Evl.q_drop (Evl.ev_call (vs := [.ref a, .ref b]) (Evl.ea_cons (Evl.ev_var rfl) (Evl.ea_cons (Evl.ev_var rfl) Evl.ea_nil)) (fun H1 e1 Q q E => ⟨a, b, ps, rs, rfl, hl.up e1, fo.lc, hs.up e1, fo.so, fo.ft, q⟩)) (fun H1 e1 => ?_)
    refine Evl.s_ret (ev_mx0 (K := K) (ns := ps.map fun p => luN p.1 (RMs rs) (unt ps p.1) * p.1) (Ck.el_is (el_lcPL (K := K) (ps := capL ps rs) (fun p => .int p.1) (fun H2 e2 Q q => ⟨.ref a, rfl, .ref b, rfl, a, b, ps, rs, rfl, hl.up (e1.trans e2), hs.up (e1.trans e2), fo, fun l ys H3 n3 e3 h1 h2 => q l ys H3 n3 e3 h1 h2⟩) (by unfold capL; rw [List.length_map]; omega) (fun _ _ => rfl) (fun p _ H2 _ => Evl.ev_var rfl)) (by unfold capL; rw [List.map_map, List.map_map]; rfl)) ?_) (fun H2 e2 => q _ H2 (e1.trans e2) (cp_is ct fo.so (srtR_perm rs) (srtR_srt rs) fo.le))
    intro y hy
    obtain ⟨p, hp, rfl⟩ := List.mem_map.mp hy
    obtain ⟨p1, u1⟩ := own_pos ct hp
    have asc := (rms_all _ (srtR rs) rfl).2.2.2 (srtR_srt rs)
    refine Int.mul_nonneg (luN_least p1 (fun r hr => ⟨Int.le_of_lt (RM_ok fo.so r hr).1, (RM_ok fo.so r hr).2.2.1⟩) ((List.pairwise_map.mp asc).imp fun h => Int.ediv_le_ediv p1 (Int.le_of_lt h)) u1 ?_).1 (Int.le_of_lt p1)
    have z : unt (RMs rs) p.1 = unt rs p.1 := (rms_unt (srtR_srt rs) (fun r hr => (sto_ss fo.so (srtR_perm rs) r hr).2.2.1) p.1).trans (unt_perm (srtR_perm rs) p.1)
    rw [z]
    exact fo.le p hp
theorem ok_mixv (B : Bl mg) (D : Df K mg "_law_mixed" s__law_mixed ["dice", "items"]) (C__law_roll : Cg P w K mg base CX0 1 "_law_roll" spRoll) : Cg P w K mg base CX0 2 "_law_mixed" (spMixV K) := by
  refine cg_of D sc__law_mixed (fun vs H Q E h => ?_) (fun f cdv A fr s H vs Q E hr hgd h => ?_)
  · obtain ⟨d, p, zs, rfl, _⟩ := h
    rfl
  · obtain ⟨d, p, zs, rfl, ne, hd, hp, hl, q⟩ := h
    refine ⟨_, (pss_cons (ps_par (i := 2) (j := 3) rfl sc__law_mixed.nd rfl rfl (by decide) rfl rfl (pa_cons (pe_callTy call_list_of (by rfl) B.list bt_list (pa_cons (pv 1) pa_nil)) (pa_cons (pe_lst pa_nil) pa_nil)) (by rfl))
    (pss_cons (ps_for PassesOwn.never rfl (pi_range1 (by rfl) B.range (pa_cons (pe_callB call_len_seq (by rfl) B.len bt_len (pa_cons (pv 1) pa_nil)) pa_nil)) (pg_name (i := 4) sc__law_mixed.nd rfl (by first | exact Or.inl rfl | exact Or.inr rfl)) (pss_one (ps_expr (pe_bm PySem.F.plainAttrs_list PySem.F.slot_list_append PySem.F.type_list_append mt_append (pv 3) (pa_cons (pe_bm PySem.F.plainAttrs_list PySem.F.slot_list_pop PySem.F.type_list_pop mt_popAt (pv 2) (pa_cons (pcg C__law_roll hr hgd (pa_cons (pv 0) (pa_cons (pe_callB call_len_seq (by rfl) B.len bt_len (pa_cons (pv 2) pa_nil)) pa_nil))) pa_nil)) pa_nil)))))
     (pss_one (ps_ret (pv 3))))), ?_⟩
    refine ⟨.ref p, rfl, p, _, rfl, hp, fun l nl => ⟨(show 0 ≤ sizeLine by decide), fun m nm => ?_⟩⟩
    have nl2 := hd.ne nl
    have nm0 : H m = none := Evl.fresh_back (Evl.Ex.new nl) nm
    have nm2 := hd.ne nm0
    have lm : l ≠ m := fun e => by rw [e, upd_same] at nm; cases nm
    have E2 : Evl.Ex H (upd (upd H l (.lst zs)) m (.lst [])) := (Evl.Ex.new nl).trans (Evl.Ex.new nm)
    refine ⟨_, _, rfl, .ref p, rfl, p, _, rfl, hp.imp (Evl.ex_l E2) (Evl.ex_t E2), _, rfl, ?_, ?_, ?_⟩
    · omega
    · omega
    refine for_range (fun i σ H' => Kd d H H' ∧ ∃ (xs ys : List V) (t : Option V), σ = [some (.ref d), some (.ref p), some (.ref l), some (.ref m), t] ∧ H' l = some (.lst xs) ∧ H' m = some (.lst ys) ∧ (ys ++ xs).Perm zs ∧ ys.length = i) ?_ ?_ ?_
    · exact ⟨Kd.ex hd E2, zs, [], none, rfl, by rw [upd_ne lm]; exact upd_same, upd_same, List.Perm.refl _, rfl⟩
    · rintro i _ H3 hi ⟨k3, xs, ys, t, rfl, hx, hy, hp2, hn⟩
      have hlen := hp2.length_eq
      rw [List.length_append, hn] at hlen
      refine ⟨.ref m, rfl, .inl ⟨rfl, _, SqL.of hy⟩, .ref l, rfl, .inl ⟨rfl, _, SqL.of hx⟩, .ref d, rfl, .ref l, rfl, l, _, rfl, .inl (SqL.of hx), d, _, rfl, by omega, by omega, k3.2, fun r H4 r0 r1 hd4 k4 => ?_⟩
      have k34 := k3.trans (Kd.but hd4 k4)
      have hx4 : H4 l = some (.lst xs) := (k4 l nl2).trans hx
      have hy4 : H4 m = some (.lst ys) := (k4 m nm2).trans hy
      have rl : r.toNat < xs.length := by omega
      refine ⟨l, xs, r, r.toNat, xs[r.toNat], rfl, rfl, hx4, by omega, by omega, ?_, by rw [List.getElem?_eq_getElem rl], m, ys, _, rfl, rfl, by rw [upd_ne (Ne.symm lm)]; exact hy4, ?_, ?_⟩
      · unfold seqIndex?
        simp only [if_neg (show ¬ r < 0 by omega)]
        rw [if_pos (by simp; omega)]
      · rw [hn, sizeLine_eq]; omega
      · refine ⟨⟨Kp.mut (Kp.mut k34.1 nl) nm0, (k34.2.put nl2).put nm2⟩, xs.eraseIdx r.toNat, ys ++ [xs[r.toNat]], _, rfl, ?_, ?_, ?_, by rw [List.length_append, hn]; rfl⟩
        · rw [upd_ne lm, upd_same]
        · rw [upd_same]
        · refine List.Perm.trans ?_ hp2
          rw [List.append_assoc]
          exact List.Perm.append_left ys (cons_eraseIdx xs r.toNat rl)
    · rintro _ H3 ⟨k3, xs, ys, t, rfl, hx, hy, hp2, hn⟩
      have hlen := hp2.length_eq
      rw [List.length_append] at hlen
      have xe : xs = [] := List.eq_nil_of_length_eq_zero (by omega)
      rw [xe, List.append_nil] at hp2
      exact ⟨.ref m, rfl, q m ys H3 k3 nm2 nm0 hy hp2⟩
theorem ok_pickS (B : Bl mg) (D : Df K mg "_law_pick" s__law_pick ["dice", "items"]) (C__law_roll : Cg P w K mg base CX0 1 "_law_roll" spRoll) : Cg P w K mg base CX0 2 "_law_pick" (spPickS K) := by
  refine cg_of D sc__law_pick (fun vs H Q E h => ?_) (fun f cdv A fr s H vs Q E hr hgd h => ?_)
  · obtain ⟨d, p, xs, rfl, _⟩ := h
    rfl
  · obtain ⟨d, p, xs, rfl, hd, hp, ne, hx, hl, q⟩ := h
    refine ⟨_, (pss_one (ps_ret (pe_ix ix_seq (pv 1) (pcg C__law_roll hr hgd (pa_cons (pv 0) (pa_cons (pe_callB call_len_seq (by rfl) B.len bt_len (pa_cons (pv 1) pa_nil)) pa_nil))) (fun _ _ => rfl)))), ?_⟩
    have h0 : 0 < xs.length := List.length_pos_iff.mpr hx
    refine ⟨.ref p, rfl, .ref d, rfl, .ref p, rfl, p, xs, rfl, hp, d, _, rfl, by omega, by omega, hd, fun r H' r0 r1 hd' k => ?_⟩
    obtain ⟨x, hm, hx⟩ := at_in (xs := xs) r0 r1
    rcases hp with hp | hp
    · exact .inl ⟨p, xs, r, x, rfl, rfl, k.sqL ne hp, hx, q x hm H' hd' k⟩
    · exact .inr (.inl ⟨p, xs, r, x, rfl, rfl, k.kp.sqT ne hp, hx, q x hm H' hd' k⟩)
theorem ei_great {d : Addr} {σ : L2.St} {H : Hp} {i : Nat} {z : Int} (hv : σ[i]? = some (some (.ref d))) : Ei d (fun y => z ≤ y ∧ y < z + 10 ^ 31) (tCall spGreat [] E0 (tCons (tVar i) (tCons (tC (.int z)) tNil))) σ H := fun H1 e Q q =>
  ⟨_, hv, d, z, rfl, e.2, fun y H2 y0 y1 k => q _ H2 k ⟨_, rfl, by omega, by omega⟩⟩
def spGrs (K : PySem.W.Frag) : Sp := fun vs H Q _ => ∃ (d p : Addr) (ns : List Int), vs = [.ref d, .ref p] ∧ p ≠ d ∧ Dice H d ∧ SqT K H p (ns.map V.int) ∧ ns ≠ [] ∧ ns.length ≤ 100 ∧ (∀ n ∈ ns, 0 < n ∧ n < 10 ^ 27) ∧ ∀ l vs rs H', Kd d H H' → l ≠ d → H l = none → H' l = some (.lst vs) → F2 (RP K H') vs rs → rs ≠ [] → GrR rs → Q (.ref l) H'
theorem ok_grs (B : Bl mg) (D : Df K mg "_law_great_store" s__law_great_store ["dice", "sizes"]) (C__law_roll : Cg P w K mg base CX0 1 "_law_roll" spRoll) (C__law_pick : Cg P w K mg base CX0 2 "_law_pick" (spPickS K)) (C__law_great : Cg P w K mg base CX0 2 "_law_great" spGreat) : Cg P w K mg base CX0 3 "_law_great_store" (spGrs K) := by
  refine cg_of D sc__law_great_store (fun vs H Q E h => ?_) (fun f cdv A fr s H vs Q E hr hgd h => ?_)
  · obtain ⟨d, p, ns, rfl, _⟩ := h
    rfl
  · obtain ⟨d, p, ns, rfl, pd, hd, hp, hne, hln, hb, q⟩ := h
    refine ⟨_, (pss_cons (ps_set (i := 2) sc__law_great_store.nd rfl (by first | exact Or.inl rfl | exact Or.inr rfl) (pe_lst pa_nil))
    (pss_cons (ps_for PassesOwn.never rfl (pi_range1 (by rfl) B.range (pa_cons (pe_op op_add pe_int (pcg C__law_roll hr hgd (pa_cons (pv 0) (pa_cons pe_int pa_nil)))) pa_nil)) (pg_name (i := 3) sc__law_great_store.nd rfl (by first | exact Or.inl rfl | exact Or.inr rfl)) (pss_cons (ps_set (i := 4) sc__law_great_store.nd rfl (by first | exact Or.inl rfl | exact Or.inr rfl) (pe_op op_add (pe_op op_mul (pcg C__law_pick hr hgd (pa_cons (pv 0) (pa_cons (pv 1) pa_nil))) (pe_op op_add pe_int (pcg C__law_roll hr hgd (pa_cons (pv 0) (pa_cons pe_int pa_nil))))) (pcg C__law_roll hr hgd (pa_cons (pv 0) (pa_cons (pcg C__law_pick hr hgd (pa_cons (pv 0) (pa_cons (pe_lst (pa_cons pe_int (pa_cons pe_int (pa_cons pe_int pa_nil)))) pa_nil))) pa_nil)))))
    (pss_one (ps_expr (pe_bm PySem.F.plainAttrs_list PySem.F.slot_list_append PySem.F.type_list_append mt_append (pv 2) (pa_cons (pe_tup (pa_cons (pe_op op_add (pv 4) (pe_op op_mul (pcg C__law_roll hr hgd (pa_cons (pv 0) (pa_cons pe_int pa_nil))) (pcg C__law_pick hr hgd (pa_cons (pv 0) (pa_cons (pv 1) pa_nil))))) (pa_cons (pcg C__law_great hr hgd (pa_cons (pv 0) (pa_cons pe_int pa_nil))) pa_nil))) pa_nil))))))
     (pss_one (ps_ret (pv 2))))), ?_⟩
    refine ⟨(show 0 ≤ sizeLine by decide), fun l nl => ?_⟩
    have ld := hd.ne nl
    have k0 : Kd d H (upd H l (.lst [])) := Kd.ex hd (Evl.Ex.new nl)
    refine ⟨.ref d, rfl, d, 5, rfl, by decide, by decide, k0.2, fun n H2 n0 n1 hd2 k2 => ⟨_, _, rfl, rfl, 1 + n, rfl, by omega, by omega, ?_⟩⟩
    have kd2 : Kd d H H2 := k0.trans (Kd.but hd2 k2)
    refine for_range (fun i σ H' => Kd d H H' ∧ ∃ (vs : List V) (rs : List (Int × Int)) (t s : Option V), σ = [some (.ref d), some (.ref p), some (.ref l), t, s] ∧ H' l = some (.lst vs) ∧ F2 (RP K H') vs rs ∧ rs.length = i ∧ ∀ r ∈ rs, (0 < r.1 ∧ r.1 < 10 ^ 28) ∧ 0 < r.2 ∧ r.2 < 10 ^ 32) ⟨kd2, [], [], none, none, rfl, by rw [k2 l ld]; exact upd_same, .nil, rfl, fun r h => nomatch h⟩ ?_ ?_
    · rintro i _ H3 hi ⟨k3, vs, rs, t, s, rfl, hl3, hf3, hn, hr3⟩
      have hp3 := k3.1.sqT pd hp
      have pk : ∀ {σ : L2.St} {H : Hp}, σ[0]? = some (some (.ref d)) → σ[1]? = some (some (.ref p)) → SqT K H p (ns.map V.int) → Ei d (fun y => 0 < y ∧ y < 10 ^ 27) (tCall (spPickS K) [] E0 (tCons (tVar 0) (tCons (tVar 1) tNil))) σ H := fun e1 e2 h => (ei_pick e1 (pick_tup (K := K) e2 h pd) hne (by omega)).mono fun y hy => hb y hy
      refine sq_asgK (d := d) (Pr := fun v => ∃ y, v = .int y ∧ 0 < y ∧ y < 5 * 10 ^ 27) k3.2 (ei_0 (g := fun i j => i + j) (P := fun y => 0 < y ∧ y < 4 * 10 ^ 27) (R := fun y => 0 ≤ y ∧ y < 9) (ei_C (g := fun i j => i * j) (pk rfl rfl hp3) (ei_0 (g := fun i j => i + j) (S := fun y => 1 ≤ y ∧ y ≤ 4) (ei_c (P := fun y => y = 1) rfl) (ei_roll rfl (by decide) (by decide)) (fun a b h1 h2 => by omega)) (fun a b h1 h2 => .inr ⟨by omega, by omega⟩) (fun a b h1 h2 => ?_))
        (ei_rollV rfl ((ei_pick (K := K) rfl (pick_lst (K := K) (xs := [1, 3, 9]) (fun H1 _ => Evl.ea_cons Evl.ev_c (Evl.ea_cons Evl.ev_c (Evl.ea_cons Evl.ev_c Evl.ea_nil))) (by decide)) (by decide) (by decide)).mono fun y hy => ?_) (by decide)) (fun a b h1 h2 => by omega)) ?_
      · obtain ⟨b1, b2⟩ := h2
        have : b = 1 ∨ b = 2 ∨ b = 3 ∨ b = 4 := by omega
        rcases this with rfl | rfl | rfl | rfl <;> omega
      · have : y = 1 ∨ y = 3 ∨ y = 9 := by simpa using hy
        omega
      rintro _ H4 k4 ⟨room, rfl, m0, m1⟩
      have hp4 := k4.1.sqT pd hp3
      have R1 : Ei d (fun y => 0 < y ∧ y < 10 ^ 28) (tOp (rI0 fun i j => V.int (i + j)) (tVar 4) (tOp (rI CMul fun i j => V.int (i * j)) (tCall spRoll [] E0 (tCons (tVar 0) (tCons (tC (V.int 2)) tNil))) (tCall (spPickS K) [] E0 (tCons (tVar 0) (tCons (tVar 1) tNil))))) [some (.ref d), some (.ref p), some (.ref l), some (.int (0 + (i : Int))), some (.int room)] H4 :=
        ei_0 (g := fun i j => i + j) (P := fun y => y = room) (R := fun y => 0 ≤ y ∧ y < 10 ^ 27) (ei_v rfl rfl) (ei_C (g := fun i j => i * j) (ei_roll rfl (by decide) (by decide)) (pk rfl rfl hp4) (fun a b h1 h2 => .inl ⟨by omega, by omega⟩) (fun a b h1 h2 => by
          obtain ⟨b1, b2⟩ := h1
          have : a = 0 ∨ a = 1 := by omega
          rcases this with rfl | rfl <;> omega)) (fun a b h1 h2 => by omega)
      have ndl : ∀ {H' : Hp}, Dice H' d → l ≠ d := fun _ => ld
      have hnl : H l = none := nl
      refine ⟨_, rfl, ?_⟩
      refine ⟨.inl ⟨rfl, vs, SqL.of (k4.1 l _ ld hl3)⟩, ?_⟩
      refine R1 H4 (Kd.refl k4.2) _ fun v H5 k5 ⟨y, e, y0, y1⟩ => ?_
      subst e
      refine ei_great rfl H5 (Kd.refl k5.2) _ fun v H6 k6 ⟨m, e, g0, g1⟩ => ?_
      subst e
      refine ⟨(show 2 ≤ sizeLine by decide), fun u nu => ?_⟩
      have k46 := (k4.trans (k5.trans k6))
      have k47 : Kd d H3 (upd H6 u (.tup [.int y, .int m])) := k46.to (Evl.Ex.new nu)
      have hl7 := k47.1 l _ ld hl3
      refine ⟨l, vs, _, rfl, rfl, hl7, ?_, ?_⟩
      · rw [hf3.len, hn]
        refine Nat.lt_of_lt_of_le (show i < 100 by omega) (show 100 ≤ sizeLine by decide)
      · refine ⟨⟨Kp.mut (k3.trans k47).1 hnl, k47.2.put ld⟩, vs ++ [.ref u], rs ++ [(y, m)], _, _, rfl, upd_same, ?_, by rw [List.length_append, hn]; rfl, fun r hr => ?_⟩
        · exact ((hf3.imp fun x b r => r.kd k3.2 k47).app (.cons ⟨u, rfl, SqT.of upd_same⟩ .nil)).imp fun x b r => RP.upd hl7 r
        · rcases List.mem_append.mp hr with h | h
          · exact hr3 r h
          · rw [List.mem_singleton.mp h]
            exact ⟨⟨y0, y1⟩, by omega, by omega⟩
    · rintro _ H3 ⟨k3, vs, rs, t, s, rfl, hl3, hf3, hn, hr3⟩
      exact ⟨.ref l, rfl, q l vs rs H3 k3 ld nl hl3 hf3 (fun e => by rw [e] at hn; have : (0 : Nat) = (1 + n).toNat := hn; omega) ⟨by omega, hr3⟩⟩
theorem ok_madeG {CS : Addr} (B : Bl mg) (D : Df K mg "_law_made_store" s__law_made_store ["runs"]) (M_Store : Mkc P w K mg base 4 "Store" CS (spStoI K CS)) : Cg P w K mg base CX0 6 "_law_made_store" (spMadeG K CS) := by
  refine cg_of D sc__law_made_store (fun vs H Q E h => ?_) (fun f cdv A fr s H vs Q E hr hgd h => ?_)
  · obtain ⟨l, vs, rs, rfl, _⟩ := h
    rfl
  · obtain ⟨l, vs, rs, rfl, hl, hf, hln, hrn, q⟩ := h
    refine ⟨_, (pss_cons (ps_set (i := 1) sc__law_made_store.nd rfl (by first | exact Or.inl rfl | exact Or.inr rfl) (pe_op op_cat (pe_callTy call_list_of (by rfl) B.list bt_list (pa_cons (pv 0) pa_nil)) (pe_op op_rep (pe_lst (pa_cons pe_non pa_nil)) pe_int)))
    (pss_cons (ps_asg (pe_slice sl_list (pv 1) po_none (po_some pe_int)) (pg_lst (n := 8) rfl (pgs_cons (pg_name (i := 2) sc__law_made_store.nd rfl (by first | exact Or.inl rfl | exact Or.inr rfl)) (pgs_cons (pg_name (i := 3) sc__law_made_store.nd rfl (by first | exact Or.inl rfl | exact Or.inr rfl)) (pgs_cons (pg_name (i := 4) sc__law_made_store.nd rfl (by first | exact Or.inl rfl | exact Or.inr rfl)) (pgs_cons (pg_name (i := 5) sc__law_made_store.nd rfl (by first | exact Or.inl rfl | exact Or.inr rfl)) (pgs_cons (pg_name (i := 6) sc__law_made_store.nd rfl (by first | exact Or.inl rfl | exact Or.inr rfl)) (pgs_cons (pg_name (i := 7) sc__law_made_store.nd rfl (by first | exact Or.inl rfl | exact Or.inr rfl)) (pgs_cons (pg_name (i := 8) sc__law_made_store.nd rfl (by first | exact Or.inl rfl | exact Or.inr rfl)) (pgs_cons (pg_name (i := 9) sc__law_made_store.nd rfl (by first | exact Or.inl rfl | exact Or.inr rfl)) pgs_nil))))))))))
     (pss_cons (ps_if (pt_cmpR (op_eqD hr.units) (pv 0) (pe_lst pa_nil) (nomark _)) (pss_one (ps_ret (pmk0 M_Store hr))) pss_nil)
      (pss_cons (ps_if (pt_cmpR op_eq (pe_callB call_len_seq (by rfl) B.len bt_len (pa_cons (pv 0) pa_nil)) pe_int (nomark _)) (pss_one (ps_ret (pmk M_Store hr (pa_cons (pv 2) pa_nil)))) pss_nil)
       (pss_cons (ps_if (pt_cmpR op_eq (pe_callB call_len_seq (by rfl) B.len bt_len (pa_cons (pv 0) pa_nil)) pe_int (nomark _)) (pss_one (ps_ret (pmk M_Store hr (pa_cons (pv 2) (pa_cons (pv 3) pa_nil))))) pss_nil)
        (pss_cons (ps_if (pt_cmpR op_eq (pe_callB call_len_seq (by rfl) B.len bt_len (pa_cons (pv 0) pa_nil)) pe_int (nomark _)) (pss_one (ps_ret (pmk M_Store hr (pa_cons (pv 2) (pa_cons (pv 3) (pa_cons (pv 4) pa_nil)))))) pss_nil)
         (pss_cons (ps_if (pt_cmpR op_eq (pe_callB call_len_seq (by rfl) B.len bt_len (pa_cons (pv 0) pa_nil)) pe_int (nomark _)) (pss_one (ps_ret (pmk M_Store hr (pa_cons (pv 2) (pa_cons (pv 3) (pa_cons (pv 4) (pa_cons (pv 5) pa_nil))))))) pss_nil)
          (pss_cons (ps_if (pt_cmpR op_eq (pe_callB call_len_seq (by rfl) B.len bt_len (pa_cons (pv 0) pa_nil)) pe_int (nomark _)) (pss_one (ps_ret (pmk M_Store hr (pa_cons (pv 2) (pa_cons (pv 3) (pa_cons (pv 4) (pa_cons (pv 5) (pa_cons (pv 6) pa_nil)))))))) pss_nil)
           (pss_cons (ps_if (pt_cmpR op_eq (pe_callB call_len_seq (by rfl) B.len bt_len (pa_cons (pv 0) pa_nil)) pe_int (nomark _)) (pss_one (ps_ret (pmk M_Store hr (pa_cons (pv 2) (pa_cons (pv 3) (pa_cons (pv 4) (pa_cons (pv 5) (pa_cons (pv 6) (pa_cons (pv 7) pa_nil))))))))) pss_nil)
            (pss_cons (ps_if (pt_cmpR op_eq (pe_callB call_len_seq (by rfl) B.len bt_len (pa_cons (pv 0) pa_nil)) pe_int (nomark _)) (pss_one (ps_ret (pmk M_Store hr (pa_cons (pv 2) (pa_cons (pv 3) (pa_cons (pv 4) (pa_cons (pv 5) (pa_cons (pv 6) (pa_cons (pv 7) (pa_cons (pv 8) pa_nil)))))))))) pss_nil)
             (pss_one (ps_ret (pmk M_Store hr (pa_cons (pv 2) (pa_cons (pv 3) (pa_cons (pv 4) (pa_cons (pv 5) (pa_cons (pv 6) (pa_cons (pv 7) (pa_cons (pv 8) (pa_cons (pv 9) pa_nil))))))))))))))))))))), ?_⟩
    have vl := hf.len
    refine Evl.q_asgL (xs := vs ++ List.replicate 8 V.non) (el_catL (el_copy (K := K) (Evl.ev_var rfl) hl) (Ck.el_is (el_rep (Evl.el_lst (Evl.ea_cons Evl.ev_c Evl.ea_nil) (by decide)) (n := 8) Evl.ev_c (by decide) (by decide) (by decide)) (ys := List.replicate 8 V.non) rfl) (by rw [List.length_replicate]; omega)) (fun r H1 nr e1 hr1 => ?_)
    have E1 := e1
    have emp : ∀ H4, Evl.Ex H H4 → ∀ σ : L2.St, σ[0]? = some (some (.ref l)) → Evl.EvT (tTest (tOp (rEqD K) (tVar 0) (tLst tNil))) σ H4 (decide (rs = [])) := fun H4 e4 σ hv => Evl.et_test (Evl.ev_is (ev_eqD (K := K) (ed_of (Evl.ev_var hv) (.lst (Evl.ex_l e4 hl) (dpa_rns (hf.imp fun x b r => r.ex e4)))) (e := .list []) (ed_lst ed_nil) (shaped_lrs rs) (by decide +kernel)) (by
      have z := eqv_prs rs []
      simp only [List.map_nil] at z
      simp only [PyData.eqv, z]))
    have len : ∀ H4, Evl.Ex H H4 → ∀ (σ : L2.St) (k : Nat), σ[0]? = some (some (.ref l)) → Evl.EvT (tTest (tOp rEq (tCB (fun xs H Q => ∃ p ys, xs = [V.ref p] ∧ (SqL K H p ys ∨ SqT K H p ys) ∧ Q (.int ys.length) H) (tCons (tVar 0) tNil)) (tC (.int (k : Int))))) σ H4 (decide (vs.length = k)) := fun H4 e4 σ k hv => Evl.et_test (Evl.ev_is (ev_eq (ev_lenL (Evl.ev_var hv) (Evl.ex_l e4 hl)) Evl.ev_c rfl) (congrArg V.bl (decide_eq_decide.mpr ⟨fun h => Int.ofNat.inj (V.int.inj h), fun h => by rw [h]⟩)))
    clear e1
    rcases vs with _ | ⟨v1, _ | ⟨v2, _ | ⟨v3, _ | ⟨v4, _ | ⟨v5, _ | ⟨v6, _ | ⟨v7, _ | ⟨v8, _ | ⟨v9, vs⟩⟩⟩⟩⟩⟩⟩⟩⟩
    · refine Evl.el_sl (K := K) (Evl.ev_var rfl) Evl.eo_none (Evl.eo_some Evl.ev_c) (SqL.of hr1) H1 (Evl.Ex.refl H1) _ fun p H2 n2 e2 hp => ?_
      have hp : H2 p = some (.lst [V.non, V.non, V.non, V.non, V.non, V.non, V.non, V.non]) := hp
      refine ⟨p, _, rfl, SqL.of hp, rfl, .non, _, rfl, .non, _, rfl, .non, _, rfl, .non, _, rfl, .non, _, rfl, .non, _, rfl, .non, _, rfl, .non, _, rfl, rfl, ?_⟩
      have X0 := E1.trans e2
      obtain rfl : rs = [] := List.eq_nil_of_length_eq_zero vl.symm
      refine Evl.q_when (b := true) (emp _ X0 _ rfl) (fun _ G0 g0 => ?_) (fun z => nomatch z)
      exact mk_sto0 (K := K) fun a H9 e9 hs => q a H9 (X0.trans (g0.trans e9)) hs
    · refine Evl.el_sl (K := K) (Evl.ev_var rfl) Evl.eo_none (Evl.eo_some Evl.ev_c) (SqL.of hr1) H1 (Evl.Ex.refl H1) _ fun p H2 n2 e2 hp => ?_
      have hp : H2 p = some (.lst [v1, V.non, V.non, V.non, V.non, V.non, V.non, V.non]) := hp
      refine ⟨p, _, rfl, SqL.of hp, rfl, v1, _, rfl, .non, _, rfl, .non, _, rfl, .non, _, rfl, .non, _, rfl, .non, _, rfl, .non, _, rfl, .non, _, rfl, rfl, ?_⟩
      have X0 := E1.trans e2
      refine Evl.q_when (b := false) (Evl.et_is (emp _ X0 _ rfl) (decide_eq_false fun z => by rw [z] at vl; cases vl)) (fun z => nomatch z) (fun _ G0 g0 => ?_)
      have X1 := X0.trans g0
      refine Evl.q_when (b := true) (len _ X1 _ 1 rfl) (fun _ G1 g1 => ?_) (fun z => nomatch z)
      have X2 := X1.trans g1
      exact mk_stoR (K := K) (Evl.ea_cons (Evl.ev_var rfl) Evl.ea_nil) (hf.imp fun x b r => r.ex X2) hrn fun a H9 e9 hs => q a H9 (X2.trans e9) hs
    · refine Evl.el_sl (K := K) (Evl.ev_var rfl) Evl.eo_none (Evl.eo_some Evl.ev_c) (SqL.of hr1) H1 (Evl.Ex.refl H1) _ fun p H2 n2 e2 hp => ?_
      have hp : H2 p = some (.lst [v1, v2, V.non, V.non, V.non, V.non, V.non, V.non]) := hp
      refine ⟨p, _, rfl, SqL.of hp, rfl, v1, _, rfl, v2, _, rfl, .non, _, rfl, .non, _, rfl, .non, _, rfl, .non, _, rfl, .non, _, rfl, .non, _, rfl, rfl, ?_⟩
      have X0 := E1.trans e2
      refine Evl.q_when (b := false) (Evl.et_is (emp _ X0 _ rfl) (decide_eq_false fun z => by rw [z] at vl; cases vl)) (fun z => nomatch z) (fun _ G0 g0 => ?_)
      have X1 := X0.trans g0
      refine Evl.q_when (b := false) (len _ X1 _ 1 rfl) (fun z => nomatch z) (fun _ G1 g1 => ?_)
      have X2 := X1.trans g1
      refine Evl.q_when (b := true) (len _ X2 _ 2 rfl) (fun _ G2 g2 => ?_) (fun z => nomatch z)
      have X3 := X2.trans g2
      exact mk_stoR (K := K) (Evl.ea_cons (Evl.ev_var rfl) (Evl.ea_cons (Evl.ev_var rfl) Evl.ea_nil)) (hf.imp fun x b r => r.ex X3) hrn fun a H9 e9 hs => q a H9 (X3.trans e9) hs
    · refine Evl.el_sl (K := K) (Evl.ev_var rfl) Evl.eo_none (Evl.eo_some Evl.ev_c) (SqL.of hr1) H1 (Evl.Ex.refl H1) _ fun p H2 n2 e2 hp => ?_
      have hp : H2 p = some (.lst [v1, v2, v3, V.non, V.non, V.non, V.non, V.non]) := hp
      refine ⟨p, _, rfl, SqL.of hp, rfl, v1, _, rfl, v2, _, rfl, v3, _, rfl, .non, _, rfl, .non, _, rfl, .non, _, rfl, .non, _, rfl, .non, _, rfl, rfl, ?_⟩
      have X0 := E1.trans e2
      refine Evl.q_when (b := false) (Evl.et_is (emp _ X0 _ rfl) (decide_eq_false fun z => by rw [z] at vl; cases vl)) (fun z => nomatch z) (fun _ G0 g0 => ?_)
      have X1 := X0.trans g0
      refine Evl.q_when (b := false) (len _ X1 _ 1 rfl) (fun z => nomatch z) (fun _ G1 g1 => ?_)
      have X2 := X1.trans g1
      refine Evl.q_when (b := false) (len _ X2 _ 2 rfl) (fun z => nomatch z) (fun _ G2 g2 => ?_)
      have X3 := X2.trans g2
      refine Evl.q_when (b := true) (len _ X3 _ 3 rfl) (fun _ G3 g3 => ?_) (fun z => nomatch z)
      have X4 := X3.trans g3
      exact mk_stoR (K := K) (Evl.ea_cons (Evl.ev_var rfl) (Evl.ea_cons (Evl.ev_var rfl) (Evl.ea_cons (Evl.ev_var rfl) Evl.ea_nil))) (hf.imp fun x b r => r.ex X4) hrn fun a H9 e9 hs => q a H9 (X4.trans e9) hs
    · refine Evl.el_sl (K := K) (Evl.ev_var rfl) Evl.eo_none (Evl.eo_some Evl.ev_c) (SqL.of hr1) H1 (Evl.Ex.refl H1) _ fun p H2 n2 e2 hp => ?_
      have hp : H2 p = some (.lst [v1, v2, v3, v4, V.non, V.non, V.non, V.non]) := hp
      refine ⟨p, _, rfl, SqL.of hp, rfl, v1, _, rfl, v2, _, rfl, v3, _, rfl, v4, _, rfl, .non, _, rfl, .non, _, rfl, .non, _, rfl, .non, _, rfl, rfl, ?_⟩
      have X0 := E1.trans e2
      refine Evl.q_when (b := false) (Evl.et_is (emp _ X0 _ rfl) (decide_eq_false fun z => by rw [z] at vl; cases vl)) (fun z => nomatch z) (fun _ G0 g0 => ?_)
      have X1 := X0.trans g0
      refine Evl.q_when (b := false) (len _ X1 _ 1 rfl) (fun z => nomatch z) (fun _ G1 g1 => ?_)
      have X2 := X1.trans g1
      refine Evl.q_when (b := false) (len _ X2 _ 2 rfl) (fun z => nomatch z) (fun _ G2 g2 => ?_)
      have X3 := X2.trans g2
      refine Evl.q_when (b := false) (len _ X3 _ 3 rfl) (fun z => nomatch z) (fun _ G3 g3 => ?_)
      have X4 := X3.trans g3
      refine Evl.q_when (b := true) (len _ X4 _ 4 rfl) (fun _ G4 g4 => ?_) (fun z => nomatch z)
      have X5 := X4.trans g4
      exact mk_stoR (K := K) (Evl.ea_cons (Evl.ev_var rfl) (Evl.ea_cons (Evl.ev_var rfl) (Evl.ea_cons (Evl.ev_var rfl) (Evl.ea_cons (Evl.ev_var rfl) Evl.ea_nil)))) (hf.imp fun x b r => r.ex X5) hrn fun a H9 e9 hs => q a H9 (X5.trans e9) hs
    · refine Evl.el_sl (K := K) (Evl.ev_var rfl) Evl.eo_none (Evl.eo_some Evl.ev_c) (SqL.of hr1) H1 (Evl.Ex.refl H1) _ fun p H2 n2 e2 hp => ?_
      have hp : H2 p = some (.lst [v1, v2, v3, v4, v5, V.non, V.non, V.non]) := hp
      refine ⟨p, _, rfl, SqL.of hp, rfl, v1, _, rfl, v2, _, rfl, v3, _, rfl, v4, _, rfl, v5, _, rfl, .non, _, rfl, .non, _, rfl, .non, _, rfl, rfl, ?_⟩
      have X0 := E1.trans e2
      refine Evl.q_when (b := false) (Evl.et_is (emp _ X0 _ rfl) (decide_eq_false fun z => by rw [z] at vl; cases vl)) (fun z => nomatch z) (fun _ G0 g0 => ?_)
      have X1 := X0.trans g0
      refine Evl.q_when (b := false) (len _ X1 _ 1 rfl) (fun z => nomatch z) (fun _ G1 g1 => ?_)
      have X2 := X1.trans g1
      refine Evl.q_when (b := false) (len _ X2 _ 2 rfl) (fun z => nomatch z) (fun _ G2 g2 => ?_)
      have X3 := X2.trans g2
      refine Evl.q_when (b := false) (len _ X3 _ 3 rfl) (fun z => nomatch z) (fun _ G3 g3 => ?_)
      have X4 := X3.trans g3
      refine Evl.q_when (b := false) (len _ X4 _ 4 rfl) (fun z => nomatch z) (fun _ G4 g4 => ?_)
      have X5 := X4.trans g4
      refine Evl.q_when (b := true) (len _ X5 _ 5 rfl) (fun _ G5 g5 => ?_) (fun z => nomatch z)
      have X6 := X5.trans g5
      exact mk_stoR (K := K) (Evl.ea_cons (Evl.ev_var rfl) (Evl.ea_cons (Evl.ev_var rfl) (Evl.ea_cons (Evl.ev_var rfl) (Evl.ea_cons (Evl.ev_var rfl) (Evl.ea_cons (Evl.ev_var rfl) Evl.ea_nil))))) (hf.imp fun x b r => r.ex X6) hrn fun a H9 e9 hs => q a H9 (X6.trans e9) hs
    · refine Evl.el_sl (K := K) (Evl.ev_var rfl) Evl.eo_none (Evl.eo_some Evl.ev_c) (SqL.of hr1) H1 (Evl.Ex.refl H1) _ fun p H2 n2 e2 hp => ?_
      have hp : H2 p = some (.lst [v1, v2, v3, v4, v5, v6, V.non, V.non]) := hp
      refine ⟨p, _, rfl, SqL.of hp, rfl, v1, _, rfl, v2, _, rfl, v3, _, rfl, v4, _, rfl, v5, _, rfl, v6, _, rfl, .non, _, rfl, .non, _, rfl, rfl, ?_⟩
      have X0 := E1.trans e2
      refine Evl.q_when (b := false) (Evl.et_is (emp _ X0 _ rfl) (decide_eq_false fun z => by rw [z] at vl; cases vl)) (fun z => nomatch z) (fun _ G0 g0 => ?_)
      have X1 := X0.trans g0
      refine Evl.q_when (b := false) (len _ X1 _ 1 rfl) (fun z => nomatch z) (fun _ G1 g1 => ?_)
      have X2 := X1.trans g1
      refine Evl.q_when (b := false) (len _ X2 _ 2 rfl) (fun z => nomatch z) (fun _ G2 g2 => ?_)
      have X3 := X2.trans g2
      refine Evl.q_when (b := false) (len _ X3 _ 3 rfl) (fun z => nomatch z) (fun _ G3 g3 => ?_)
      have X4 := X3.trans g3
      refine Evl.q_when (b := false) (len _ X4 _ 4 rfl) (fun z => nomatch z) (fun _ G4 g4 => ?_)
      have X5 := X4.trans g4
      refine Evl.q_when (b := false) (len _ X5 _ 5 rfl) (fun z => nomatch z) (fun _ G5 g5 => ?_)
      have X6 := X5.trans g5
      refine Evl.q_when (b := true) (len _ X6 _ 6 rfl) (fun _ G6 g6 => ?_) (fun z => nomatch z)
      have X7 := X6.trans g6
      exact mk_stoR (K := K) (Evl.ea_cons (Evl.ev_var rfl) (Evl.ea_cons (Evl.ev_var rfl) (Evl.ea_cons (Evl.ev_var rfl) (Evl.ea_cons (Evl.ev_var rfl) (Evl.ea_cons (Evl.ev_var rfl) (Evl.ea_cons (Evl.ev_var rfl) Evl.ea_nil)))))) (hf.imp fun x b r => r.ex X7) hrn fun a H9 e9 hs => q a H9 (X7.trans e9) hs
    · refine Evl.el_sl (K := K) (Evl.ev_var rfl) Evl.eo_none (Evl.eo_some Evl.ev_c) (SqL.of hr1) H1 (Evl.Ex.refl H1) _ fun p H2 n2 e2 hp => ?_
      have hp : H2 p = some (.lst [v1, v2, v3, v4, v5, v6, v7, V.non]) := hp
      refine ⟨p, _, rfl, SqL.of hp, rfl, v1, _, rfl, v2, _, rfl, v3, _, rfl, v4, _, rfl, v5, _, rfl, v6, _, rfl, v7, _, rfl, .non, _, rfl, rfl, ?_⟩
      have X0 := E1.trans e2
      refine Evl.q_when (b := false) (Evl.et_is (emp _ X0 _ rfl) (decide_eq_false fun z => by rw [z] at vl; cases vl)) (fun z => nomatch z) (fun _ G0 g0 => ?_)
      have X1 := X0.trans g0
      refine Evl.q_when (b := false) (len _ X1 _ 1 rfl) (fun z => nomatch z) (fun _ G1 g1 => ?_)
      have X2 := X1.trans g1
      refine Evl.q_when (b := false) (len _ X2 _ 2 rfl) (fun z => nomatch z) (fun _ G2 g2 => ?_)
      have X3 := X2.trans g2
      refine Evl.q_when (b := false) (len _ X3 _ 3 rfl) (fun z => nomatch z) (fun _ G3 g3 => ?_)
      have X4 := X3.trans g3
      refine Evl.q_when (b := false) (len _ X4 _ 4 rfl) (fun z => nomatch z) (fun _ G4 g4 => ?_)
      have X5 := X4.trans g4
      refine Evl.q_when (b := false) (len _ X5 _ 5 rfl) (fun z => nomatch z) (fun _ G5 g5 => ?_)
      have X6 := X5.trans g5
      refine Evl.q_when (b := false) (len _ X6 _ 6 rfl) (fun z => nomatch z) (fun _ G6 g6 => ?_)
      have X7 := X6.trans g6
      refine Evl.q_when (b := true) (len _ X7 _ 7 rfl) (fun _ G7 g7 => ?_) (fun z => nomatch z)
      have X8 := X7.trans g7
      exact mk_stoR (K := K) (Evl.ea_cons (Evl.ev_var rfl) (Evl.ea_cons (Evl.ev_var rfl) (Evl.ea_cons (Evl.ev_var rfl) (Evl.ea_cons (Evl.ev_var rfl) (Evl.ea_cons (Evl.ev_var rfl) (Evl.ea_cons (Evl.ev_var rfl) (Evl.ea_cons (Evl.ev_var rfl) Evl.ea_nil))))))) (hf.imp fun x b r => r.ex X8) hrn fun a H9 e9 hs => q a H9 (X8.trans e9) hs
    · refine Evl.el_sl (K := K) (Evl.ev_var rfl) Evl.eo_none (Evl.eo_some Evl.ev_c) (SqL.of hr1) H1 (Evl.Ex.refl H1) _ fun p H2 n2 e2 hp => ?_
      have hp : H2 p = some (.lst [v1, v2, v3, v4, v5, v6, v7, v8]) := hp
      refine ⟨p, _, rfl, SqL.of hp, rfl, v1, _, rfl, v2, _, rfl, v3, _, rfl, v4, _, rfl, v5, _, rfl, v6, _, rfl, v7, _, rfl, v8, _, rfl, rfl, ?_⟩
      have X0 := E1.trans e2
      refine Evl.q_when (b := false) (Evl.et_is (emp _ X0 _ rfl) (decide_eq_false fun z => by rw [z] at vl; cases vl)) (fun z => nomatch z) (fun _ G0 g0 => ?_)
      have X1 := X0.trans g0
      refine Evl.q_when (b := false) (len _ X1 _ 1 rfl) (fun z => nomatch z) (fun _ G1 g1 => ?_)
      have X2 := X1.trans g1
      refine Evl.q_when (b := false) (len _ X2 _ 2 rfl) (fun z => nomatch z) (fun _ G2 g2 => ?_)
      have X3 := X2.trans g2
      refine Evl.q_when (b := false) (len _ X3 _ 3 rfl) (fun z => nomatch z) (fun _ G3 g3 => ?_)
      have X4 := X3.trans g3
      refine Evl.q_when (b := false) (len _ X4 _ 4 rfl) (fun z => nomatch z) (fun _ G4 g4 => ?_)
      have X5 := X4.trans g4
      refine Evl.q_when (b := false) (len _ X5 _ 5 rfl) (fun z => nomatch z) (fun _ G5 g5 => ?_)
      have X6 := X5.trans g5
      refine Evl.q_when (b := false) (len _ X6 _ 6 rfl) (fun z => nomatch z) (fun _ G6 g6 => ?_)
      have X7 := X6.trans g6
      refine Evl.q_when (b := false) (len _ X7 _ 7 rfl) (fun z => nomatch z) (fun _ G7 g7 => ?_)
      have X8 := X7.trans g7
      exact mk_stoR (K := K) (Evl.ea_cons (Evl.ev_var rfl) (Evl.ea_cons (Evl.ev_var rfl) (Evl.ea_cons (Evl.ev_var rfl) (Evl.ea_cons (Evl.ev_var rfl) (Evl.ea_cons (Evl.ev_var rfl) (Evl.ea_cons (Evl.ev_var rfl) (Evl.ea_cons (Evl.ev_var rfl) (Evl.ea_cons (Evl.ev_var rfl) Evl.ea_nil)))))))) (hf.imp fun x b r => r.ex X8) hrn fun a H9 e9 hs => q a H9 (X8.trans e9) hs
    · simp only [List.length_cons] at vl
      omega
def spStoAscS (K : PySem.W.Frag) (C : Addr) : Sp := fun vs H Q _ => ∃ (a : Addr) (rs : List (Int × Int)), vs = [.ref a] ∧ StoAt K C H a rs ∧ (∀ ss : List (Int × Int), ss.Perm rs → Rns ss) ∧ ∀ c ss H', Evl.Ex H H' → ss.Perm rs → SrF ss → StoAt K C H' c (jr ss) → Q (.ref c) H'
theorem ok_ascS {CS : Addr} (B : Bl mg) (LT_Store : StoreT K mg CS) (D : Dop K CS "ascending" "Store.ascending" s_Store_ascending ["self"]) (M_Store : Mkc P w K mg base 4 "Store" CS (spStoI K CS)) : Og P w K mg base 6 CS "ascending" ["self"] (spStoAscS K CS) := by
  refine og_of LT_Store.k.cl D sc_Store_ascending (fun vs H Q E h => ?_) (fun f cdv A fr s H vs Q E hr h => ?_)
  · obtain ⟨a, rs, rfl, _⟩ := h
    rfl
  · obtain ⟨a, rs, rfl, hl, hr', q⟩ := h
    refine ⟨_, (pss_cons (ps_set (i := 1) sc_Store_ascending.nd rfl (by first | exact Or.inl rfl | exact Or.inr rfl) (pe_callB cr_sortedPP (by rfl) B.sorted bt_sorted (pa_cons (pe_fld (pv 0) rfl) pa_nil)))
    (pss_one (ps_ret (pmkS M_Store hr (pv 1))))), ?_⟩
    obtain ⟨dx, t, ts, h1, h2, h3⟩ := hl.ex
    refine q_asgP (P := fun v H' => ∃ p ys ss, v = .ref p ∧ Evl.Ex H H' ∧ H' p = some (.lst ys) ∧ F2 (RP K H') ys ss ∧ ss.Perm rs ∧ SrF ss) (fun Q2 q2 => evp_srtP (K := K) (rs := rs) (ebp_f (ev_fldL (Evl.ev_var rfl) h1 LT_Store.k.cl LT_Store.n1 (sto_runs t)) (.inr h2) h3) H (Evl.Ex.refl H) _ fun p ys ss H1 _ e1 hp hf pm so => q2 _ _ ⟨p, ys, ss, rfl, e1, hp, hf, pm, so⟩) ?_
    rintro _ H1 ⟨p, ys, ss, rfl, e1, hp, hf, pm, so⟩
    exact mk_stoL (K := K) (Evl.ev_var rfl) hp hf (hr' ss pm) fun c H2 e2 hc => q c ss H2 (e1.trans e2) pm so hc
theorem fr_e {CL : Addr} {σ : L2.St} {H : Hp} {ta tb : TE} {ps : List (Int × Int)} {R n : Int} (ha : Elot K CL ta σ H ps) (hb : Evl.Ev tb σ H (.int R)) (lc : LotC ps) (hr : sizB R = true) (hle : ∀ p ∈ ps, p.1 ≤ R) (hn : IsFr ps R n) : Evl.Ev (tCall (spFr K CL) [] E0 (tCons ta (tCons tb tNil))) σ H (.int n) := fun H1 e Q q => ha H1 e _ fun a H2 e2 hl => hb H2 (e.trans e2) _ fun H3 e3 => ⟨a, ps, R, rfl, hl.up e3, lc, hr, hle, fun m H4 e4 hm => by
  rw [LeastN.uniq hm hn]
  exact q H4 (e2.trans (e3.trans e4))⟩
theorem rm_e {CL : Addr} {σ : L2.St} {H : Hp} {ta tb : TE} {ps : List (Int × Int)} {k r : Int} (ha : Elot K CL ta σ H ps) (hb : Evl.Ev tb σ H (.int k)) (lc : LotC ps) (hk : sizB k = true) (hn : IsRm ps k r) : Evl.Ev (tCall (spRm K CL) [] E0 (tCons ta (tCons tb tNil))) σ H (.int r) := fun H1 e Q q => ha H1 e _ fun a H2 e2 hl => hb H2 (e.trans e2) _ fun H3 e3 => ⟨a, ps, k, rfl, hl.up e3, lc, hk, fun m H4 e4 hm => by
  rw [LeastN.uniq hm hn]
  exact q H4 (e2.trans (e3.trans e4))⟩
theorem fo_e {CL CS : Addr} {σ : L2.St} {H : Hp} {ta tb : TE} {ps rs : List (Int × Int)} {n : Int} (ha : Elot K CL ta σ H ps) (hb : Esto K CS tb σ H rs) (fo : FoOk ps rs) (hn : ∀ m, IsFo ps rs m → m = n) : Evl.Ev (tCall (spFo K CL CS) [] E0 (tCons ta (tCons tb tNil))) σ H (.int n) := fun H1 e Q q => ha H1 e _ fun a H2 e2 hl => hb H2 (e.trans e2) _ fun b H3 e3 hs => ⟨a, b, ps, rs, rfl, hl.up e3, hs, fo, fun m H4 e4 hm => by
  rw [hn m hm]
  exact q H4 (e2.trans (e3.trans e4))⟩
theorem cp_e {CL CS : Addr} {σ : L2.St} {H : Hp} {ta tb : TE} {ps rs : List (Int × Int)} {n : Int} (ha : Elot K CL ta σ H ps) (hb : Esto K CS tb σ H rs) (fo : FoOk ps rs) (hn : ∀ m, IsCp ps rs m → m = n) : Evl.Ev (tCall (spCap K CL CS) [] E0 (tCons ta (tCons tb tNil))) σ H (.int n) := fun H1 e Q q => ha H1 e _ fun a H2 e2 hl => hb H2 (e.trans e2) _ fun b H3 e3 hs => ⟨a, b, ps, rs, rfl, hl.up e3, hs, fo, fun m H4 e4 hm => by
  rw [hn m hm]
  exact q H4 (e2.trans (e3.trans e4))⟩
theorem one_rns {R n : Int} (r : sizB R = true) (k : sizB n = true) : Rns [(R, n)] := ⟨fun x hx => by cases List.mem_singleton.mp hx; exact ⟨r, k⟩, (show 1 ≤ 1000 by decide), Nat.le_trans (jr_len _) (show 1 ≤ 40 by decide)⟩
theorem one_sto {R n : Int} (r : sizB R = true) (k : sizB n = true) : StoOk [(R, n)] := ⟨fun x hx => by
  cases List.mem_singleton.mp hx
  exact ⟨r, (siz_int k).1, siz_nat k⟩, (show 1 ≤ 40 by decide)⟩
theorem one_fo {R n : Int} {ps : List (Int × Int)} (r : sizB R = true) (k : sizB n = true) (lc : LotC ps) (ft : fitB ps [(R, n)] = true) : FoOk ps [(R, n)] := ⟨lc, one_sto r k, by
  have z : numR [(R, n)] = n := Int.add_zero n
  rw [z]
  exact siz_nat k, ft⟩
theorem esto_one {CS : Addr} {σ : L2.St} {H : Hp} {ta tb : TE} {R n : Int} (ha : Evl.Ev ta σ H (.int R)) (hb : Evl.Ev tb σ H (.int n)) (r : sizB R = true) (k : sizB n = true) : Esto K CS (StX.tMakeR CS (spStoI K CS) E0 (tCons (tTup (tCons ta (tCons tb tNil))) tNil)) σ H [(R, n)] := esto_is (esto_mk (eps_cons (evr_p2 ha hb) eps_nil) (one_rns r k)) rfl
theorem et_andF2 {t u : TT} {σ : L2.St} {H : Hp} {a : Bool} (h1 : Evl.EvT t σ H a) (h2 : a = true → Evl.EvT u σ H false) : Evl.EvT (tAnd t u) σ H false := Evl.et_is (Evl.et_and h1 h2) (Bool.and_false a)
def spAlk (K : PySem.W.Frag) (CL : Addr) : Sp := fun vs H Q _ => ∃ (d p a : Addr) (ns : List Int) (L : Int) (ps : List (Int × Int)), vs = [.ref d, .ref p, .ref a] ∧ p ≠ d ∧ Dice H d ∧ SqT K H p (ns.map V.int) ∧ LotAt K CL H a ps ∧ Alk ns L ps ∧ ∀ H', Kd d H H' → Q (.bl true) H'
theorem ok_alk (B : Bl mg) {CL CS : Addr} (SF_Lot : PySem.W.selfFirst K CL = true) (D : Df K mg "_law_alike_right" s__law_alike_right ["dice", "chain", "lot"]) (C__law_roll : Cg P w K mg base CX0 1 "_law_roll" spRoll) (C__law_pick : Cg P w K mg base CX0 2 "_law_pick" (spPickS K)) (C__law_great : Cg P w K mg base CX0 2 "_law_great" spGreat) (C_fewest_rooms : Cg P w K mg base CX0 5 "fewest_rooms" (spFr K CL)) (C_least_room : Cg P w K mg base CX0 5 "least_room" (spRm K CL)) (O_Lot_add : Og P w K mg base 6 CL "__add__" ["self", "other"] (spLotAdd K CL)) (M_Lot : Mkc P w K mg base 4 "Lot" CL (spLotI K CL)) (M_Store : Mkc P w K mg base 4 "Store" CS (spStoI K CS)) (O_Lot_len : Og P w K mg base 1 CL "__len__" ["self"] (spLen K CL)) (C_fits : Cg P w K mg base CX0 7 "fits" (spFits K CL CS)) (C_fewest_of : Cg P w K mg base CX0 8 "fewest_of" (spFo K CL CS)) (C_least_cap : Cg P w K mg base CX0 8 "least_cap" (spCap K CL CS)) : Cg P w K mg base CX0 12 "_law_alike_right" (spAlk K CL) := by
  refine cg_of D sc__law_alike_right (fun vs H Q E h => ?_) (fun f cdv' A fr s H vs Q E hr hgd h => ?_)
  · obtain ⟨d, p, a, ns, L, ps, rfl, _⟩ := h
    rfl
  · obtain ⟨d, p, a, ns, L, ps, rfl, pd, hd, hp, hl, ak, q⟩ := h
    refine ⟨_, (pss_cons (ps_par (i := 3) (j := 4) rfl sc__law_alike_right.nd rfl rfl (by decide) rfl rfl (pa_cons (pe_op op_add (pe_op op_mul (pe_callB (cr_maxTK (K := K) rfl rfl hr.units) (by rfl) B.max bt_max (pa_cons (pv 1) pa_nil)) (pe_op op_add pe_int (pcg C__law_roll hr hgd (pa_cons (pv 0) (pa_cons pe_int pa_nil))))) (pcg C__law_roll hr hgd (pa_cons (pv 0) (pa_cons pe_int pa_nil)))) (pa_cons (pcg C__law_pick hr hgd (pa_cons (pv 0) (pa_cons (pv 1) pa_nil))) pa_nil)) (by rfl))
    (pss_cons (ps_par (i := 5) (j := 6) rfl sc__law_alike_right.nd rfl rfl (by decide) rfl rfl (pa_cons (pcg C_fewest_rooms hr hgd (pa_cons (pv 2) (pa_cons (pv 3) pa_nil))) (pa_cons (pcg C_fewest_rooms hr hgd (pa_cons (pe_op (obinO O_Lot_add SF_Lot hr) (pv 2) (pmk M_Lot hr (pa_cons (pe_disp (pps_cons (pv 4) pe_int pps_nil) (by rfl) (by rfl) (fun z => by cases z) (by decide)) pa_nil))) (pa_cons (pv 3) pa_nil))) pa_nil)) (by rfl))
     (pss_cons (ps_if (pw_or (pt_cmpR op_notIn_seq (pv 6) (pe_tup (pa_cons (pv 5) (pa_cons (pe_op op_add (pv 5) pe_int) pa_nil))) (by with_unfolding_all rfl)) (pw_or1 (pt_cmpR op_gt (pcg C_fewest_rooms hr hgd (pa_cons (pv 2) (pa_cons (pe_op op_add (pv 3) pe_int) pa_nil))) (pv 5) (nomark _)))).pt (pss_one (ps_ret pe_bl)) pss_nil)
      (pss_cons (ps_set (i := 7) sc__law_alike_right.nd rfl (by first | exact Or.inl rfl | exact Or.inr rfl) (pe_op op_add pe_int (pcg C__law_great hr hgd (pa_cons (pv 0) (pa_cons pe_int pa_nil)))))
       (pss_cons (ps_set (i := 8) sc__law_alike_right.nd rfl (by first | exact Or.inl rfl | exact Or.inr rfl) (pcg C_least_room hr hgd (pa_cons (pv 2) (pa_cons (pv 7) pa_nil))))
        (pss_cons (ps_if (pw_or (pt_cmpR op_gt (pcg C_least_room hr hgd (pa_cons (pv 2) (pa_cons (pe_op op_add (pv 7) pe_int) pa_nil))) (pv 8) (nomark _)) (pw_or1 (pt_cmpR op_lt (pcg C_least_room hr hgd (pa_cons (pe_op (obinO O_Lot_add SF_Lot hr) (pv 2) (pmk M_Lot hr (pa_cons (pe_disp (pps_cons (pv 4) pe_int pps_nil) (by rfl) (by rfl) (fun z => by cases z) (by decide)) pa_nil))) (pa_cons (pv 7) pa_nil))) (pv 8) (nomark _)))).pt (pss_one (ps_ret pe_bl)) pss_nil)
         (pss_cons (ps_if (pt_cmpR op_eq (pe_callB (call_lenO O_Lot_len hr) (by rfl) B.len bt_len (pa_cons (pv 2) pa_nil)) pe_int (nomark _)) (pss_one (ps_ret (pe_and (pe_cmpR op_eq (pv 5) pe_int (nomark _)) (pe_one (pe_cmpR op_eq (pv 8) pe_int (nomark _)))))) pss_nil)
          (pss_cons (ps_if (pw_or (pt_not (pt_val (pcg C_fits hr hgd (pa_cons (pv 2) (pa_cons (pmk M_Store hr (pa_cons (pe_tup (pa_cons (pv 3) (pa_cons (pv 5) pa_nil))) pa_nil)) pa_nil))))) (pw_or1 (pw_and (pt_cmpR op_gt (pv 5) pe_int (nomark _)) (pw_and1 (pt_val (pcg C_fits hr hgd (pa_cons (pv 2) (pa_cons (pmk M_Store hr (pa_cons (pe_tup (pa_cons (pv 3) (pa_cons (pe_op op_sub (pv 5) pe_int) pa_nil))) pa_nil)) pa_nil)))))).pt)).pt (pss_one (ps_ret pe_bl)) pss_nil)
           (pss_cons (ps_set (i := 9) sc__law_alike_right.nd rfl (by first | exact Or.inl rfl | exact Or.inr rfl) (pmk M_Store hr (pa_cons (pe_tup (pa_cons (pv 3) (pa_cons (pe_op op_add (pv 5) (pcg C__law_great hr hgd (pa_cons (pv 0) (pa_cons pe_int pa_nil)))) pa_nil))) pa_nil)))
            (pss_one (ps_ret (pe_and (pe_cmpR op_eq (pcg C_fewest_of hr hgd (pa_cons (pv 2) (pa_cons (pv 9) pa_nil))) (pv 5) (nomark _)) (pe_one (pe_cmpR op_le (pcg C_least_cap hr hgd (pa_cons (pv 2) (pa_cons (pmk M_Store hr (pa_cons (pe_tup (pa_cons (pv 3) (pa_cons (pv 5) pa_nil))) pa_nil)) pa_nil))) (pv 3) (nomark _))))))))))))))), ?_⟩
    have L0 := ak.ch.posL
    have lL := ak.lL
    have lc := ak.lc
    have ln := lc.ct.ln
    have big : (10 : Int) ^ 100 < 10 ^ 200 := by decide +kernel
    have b1 : (10 : Int) ^ 60 + 10 ^ 31 + 1 < 10 ^ 100 := by decide +kernel
    have b2 : (10 : Int) ^ 28 + 1 < 10 ^ 100 := by decide +kernel
    have b3 : (4 : Int) * 10 ^ 27 + 9 < 10 ^ 28 := by decide +kernel
    have b4 : (0 : Int) < 10 ^ 31 := by decide +kernel
    have b5 : (0 : Int) < 10 ^ 60 := by decide +kernel
    have eX : Ei d (fun y => L ≤ y ∧ y < 10 ^ 28) (tOp (rI0 fun i j => V.int (i + j)) (tOp (rI CMul fun i j => V.int (i * j)) (tCB (rMaxTI K) (tCons (tVar 1) tNil)) (tOp (rI0 fun i j => V.int (i + j)) (tC (V.int 1)) (tCall spRoll [] E0 (tCons (tVar 0) (tCons (tC (V.int 3)) tNil))))) (tCall spRoll [] E0 (tCons (tVar 0) (tCons (tC (V.int 9)) tNil)))) (L2.start n__law_alike_right [V.ref d, V.ref p, V.ref a]) H :=
      ei_0 (g := fun i j => i + j) (P := fun y => L ≤ y ∧ y ≤ 4 * 10 ^ 27) (ei_C (g := fun i j => i * j) (P := fun y => y = L) (R := fun y => 1 ≤ y ∧ y ≤ 3) (ei_maxT (K := K) rfl hp pd ak.ch.mem (fun y hy => (ak.ch.pos y hy).2.1) rfl) (ei_0 (g := fun i j => i + j) (P := fun y => y = 1) (ei_c rfl) (ei_roll rfl (by decide) (by decide)) (fun a b h1 h2 => by omega)) (fun a b h1 h2 => .inr ⟨by omega, by omega⟩) (fun a b h1 h2 => by
        obtain ⟨b1, b2⟩ := h2
        have : b = 1 ∨ b = 2 ∨ b = 3 := by omega
        rcases this with rfl | rfl | rfl <;> omega)) (ei_roll rfl (by decide) (by decide)) (fun a b h1 h2 => by omega)
    refine q_parP (P := fun x y H' => ∃ R z : Int, x = .int R ∧ y = .int z ∧ Kd d H H' ∧ L ≤ R ∧ R < 10 ^ 28 ∧ z ∈ ns) (fun Q2 q2 => eX H (Kd.refl hd) _ fun v H1 k1 ⟨R, e, r0, r1⟩ => ?_) ?_
    · subst e
      exact ei_pick (K := K) rfl (pick_tup (K := K) rfl (k1.1.sqT pd hp) pd) ak.isc.ne (by have := ak.ln; omega) H1 (Kd.refl k1.2) _ fun v H2 k2 ⟨z, e, hz⟩ => by
        subst e
        exact q2 _ _ _ ⟨R, z, rfl, rfl, k1.trans k2, r0, r1, hz⟩
    rintro _ _ H1 ⟨R, z, rfl, rfl, k1, r0, r1, hz⟩
    have hl1 := hl.kd hd k1
    have sR : sizB R = true := siz_of (by omega) (by omega)
    have sR1 : sizB (R + 1) = true := siz_of (by omega) (by omega)
    have leR : ∀ p ∈ ps, p.1 ≤ R := fun p hp => Int.le_trans (ak.sz hp).2 r0
    obtain ⟨z0, zL, _⟩ := ak.ch.pos z hz
    obtain ⟨c2, lc2, sub2, mo⟩ := lot2 ak hz
    have c1 : Cts [(z, 1)] := ⟨List.nodup_cons.mpr ⟨List.not_mem_nil, List.nodup_nil⟩, (show 1 ≤ 12 by decide), fun x hx => by
      cases List.mem_singleton.mp hx
      exact ⟨siz_of z0 (by omega), (show sizB 1 = true by decide +kernel)⟩⟩
    have leR2 : ∀ p ∈ srt (sumP ps [(z, 1)]), p.1 ≤ R := fun p hp => Int.le_trans (ak.ch.pos p.1 (sub2 p hp)).2.1 r0
    obtain ⟨n, hn⟩ : ∃ n, IsFr ps R n := ⟨_, fr_is lc.ct leR⟩
    obtain ⟨m, hm⟩ : ∃ m, IsFr (srt (sumP ps [(z, 1)])) R m := ⟨_, fr_is lc2.ct leR2⟩
    obtain ⟨n1, hn1⟩ : ∃ n1, IsFr ps (R + 1) n1 := ⟨_, fr_is lc.ct fun p hp => by have := leR p hp; omega⟩
    have nB := fr_le ak r0 hn
    have n0 := hn.1
    have sk : ∀ {k : Int}, 0 < k → k ≤ 10 ^ 31 + 1 → sizB k = true := fun h0 h1 => siz_of h0 (by omega)
    refine q_parP (P := fun x y H' => x = .int n ∧ y = .int m ∧ Evl.Ex H1 H') (fun Q2 q2 => fr_e (K := K) (elot_v (Evl.ev_var (i := 2) rfl) hl1) (Evl.ev_var (i := 3) rfl) lc sR leR hn H1 (Evl.Ex.refl H1) _ fun H2 e2 => fr_e (K := K) (elot_one (elot_v (Evl.ev_var (i := 2) rfl) hl1) (Evl.ev_var (i := 4) rfl) c1 ln c2) (Evl.ev_var (i := 3) rfl) lc2 sR leR2 hm H2 e2 _ fun H3 e3 => q2 _ _ _ ⟨rfl, rfl, e2.trans e3⟩) ?_
    rintro _ _ H2 ⟨rfl, rfl, e2⟩
    have hl2 := hl1.up e2
    refine Evl.q_when (b := false) (Evl.et_is (Evl.et_or (a := false) (b := false) (Evl.et_test (notin_2 (K := K) (Evl.ev_var (i := 6) rfl) (Evl.ev_var (i := 5) rfl) (ev_i0 (g := fun i j => .int (i + j)) (Evl.ev_var (i := 5) rfl) Evl.ev_c) (more_fr ak sub2 mo hz r0 hn hm))) (fun _ => Evl.et_is (Evl.et_test (ev_i0 (g := fun i j => .bl (decide (i > j))) (fr_e (K := K) (elot_v (Evl.ev_var (i := 2) rfl) hl2) (ev_i0 (g := fun i j => .int (i + j)) (Evl.ev_var (i := 3) rfl) Evl.ev_c) lc sR1 (fun p hp => by have := leR p hp; omega) hn1) (Evl.ev_var (i := 5) rfl))) (decide_eq_false (Int.not_lt.mpr (fr_up lc.ct hn hn1))))) rfl) (fun z => nomatch z) (fun _ H3 e3 => ?_)
    have k3 : Kd d H H3 := k1.to (e2.trans e3)
    refine sq_asgK (d := d) (Pr := fun v => ∃ y, v = .int y ∧ 0 < y ∧ y ≤ 10 ^ 31) k3.2 (ei_0 (g := fun i j => i + j) (P := fun y => y = 1) (R := fun y => 0 ≤ y ∧ y < 0 + 10 ^ 31) (ei_c rfl) (ei_great rfl) (fun a b h1 h2 => by omega)) ?_
    rintro _ H4 k4 ⟨k, rfl, k0, kB⟩
    have hl4 := (hl2.up e3).kd k3.2 k4
    obtain ⟨r, hrm⟩ : ∃ r, IsRm ps k r := ⟨_, rm_is lc.ct k0⟩
    obtain ⟨t, ht⟩ : ∃ t, IsRm ps (k + 1) t := ⟨_, rm_is lc.ct (by omega)⟩
    obtain ⟨u, hu⟩ : ∃ u, IsRm (srt (sumP ps [(z, 1)])) k u := ⟨_, rm_is lc2.ct k0⟩
    refine Evl.q_asg (v := .int r) (rm_e (K := K) (elot_v (Evl.ev_var (i := 2) rfl) hl4) (Evl.ev_var (i := 7) rfl) lc (sk k0 (by omega)) hrm) (fun H5 e5 => ?_)
    have hl5 := hl4.up e5
    refine Evl.q_when (b := false) (Evl.et_is (Evl.et_or (a := false) (b := false) (Evl.et_is (Evl.et_test (ev_i0 (g := fun i j => .bl (decide (i > j))) (rm_e (K := K) (elot_v (Evl.ev_var (i := 2) rfl) hl5) (ev_i0 (g := fun i j => .int (i + j)) (Evl.ev_var (i := 7) rfl) Evl.ev_c) lc (sk (by omega) (by omega)) ht) (Evl.ev_var (i := 8) rfl))) (decide_eq_false (Int.not_lt.mpr (rm_up lc.ct hrm ht)))) (fun _ => Evl.et_is (Evl.et_test (ev_i0 (g := fun i j => .bl (decide (i < j))) (rm_e (K := K) (elot_one (elot_v (Evl.ev_var (i := 2) rfl) hl5) (Evl.ev_var (i := 4) rfl) c1 ln c2) (Evl.ev_var (i := 7) rfl) lc2 (sk k0 (by omega)) hu) (Evl.ev_var (i := 8) rfl))) (decide_eq_false (Int.not_lt.mpr (more_rm lc.ct mo (Int.le_of_lt z0) hrm hu))))) rfl) (fun z => nomatch z) (fun _ H6 e6 => ?_)
    have hl6 := hl5.up e6
    have k6 := k3.trans (k4.to (e5.trans e6))
    refine Evl.q_when (b := decide (V.int (ps.length : Int) = V.int 0)) (Evl.et_test (ev_eq (ev_lenO (Evl.ev_var (i := 2) rfl) hl6 (by omega)) Evl.ev_c rfl)) (fun c H7 e7 => ?_) (fun c H7 e7 => ?_)
    · have pe : ps = [] := List.eq_nil_of_length_eq_zero (by have := V.int.inj (of_decide_eq_true c); omega)
      have ne : n = 0 := least_nil hn fun p hp => by rw [pe] at hp; cases hp
      have re : r = 0 := least_nil hrm fun p hp => by rw [pe] at hp; cases hp
      exact Evl.s_ret (Evl.ev_is (Evl.ev_andV (a := true) (b := true) (Evl.ev_is (ev_eq (Evl.ev_var (i := 5) rfl) Evl.ev_c rfl) (congrArg V.bl (decide_eq_true (congrArg V.int ne)))) (fun _ => Evl.ev_is (ev_eq (Evl.ev_var (i := 8) rfl) Evl.ev_c rfl) (congrArg V.bl (decide_eq_true (congrArg V.int re))))) rfl) (fun H8 e8 => q H8 (k6.to (e7.trans e8)))
    · have ne : ps ≠ [] := fun e => by
        rw [e] at c
        exact absurd rfl (of_decide_eq_false c)
      have np := fr_pos lc.ct ne hn
      have sn : sizB n = true := siz_of np (by omega)
      have ft : fitB ps [(R, n)] = true := fr_fit.mpr hn.at
      have hl7 := hl6.up e7
      refine Evl.q_when (b := false) (Evl.et_is (Evl.et_or (a := false) (b := false) (Evl.et_is (Evl.et_not (Evl.et_B (Evl.ev_is (fits_e (K := K) (elot_v (Evl.ev_var (i := 2) rfl) hl7) (esto_one (Evl.ev_var (i := 3) rfl) (Evl.ev_var (i := 5) rfl) sR sn) lc (one_sto sR sn)) (congrArg V.bl ft)))) rfl) (fun _ => et_andF2 (a := decide (n > 1)) (Evl.et_test (ev_i0 (g := fun i j => .bl (decide (i > j))) (Evl.ev_var (i := 5) rfl) Evl.ev_c)) (fun c1 => ?_))) rfl) (fun z => nomatch z) (fun _ H8 e8 => ?_)
      · have c1 := of_decide_eq_true c1
        have sn1 : sizB (n - 1) = true := siz_of (by omega) (by omega)
        exact Evl.et_B (Evl.ev_is (fits_e (K := K) (elot_v (Evl.ev_var (i := 2) rfl) hl7) (esto_one (Evl.ev_var (i := 3) rfl) (ev_i0 (g := fun i j => .int (i - j)) (Evl.ev_var (i := 5) rfl) Evl.ev_c) sR sn1) lc (one_sto sR sn1)) (congrArg V.bl (Bool.eq_false_iff.mpr fun fe => hn.no (by omega) (by omega) (fr_fit.mp fe))))
      have k8 := k6.to (e7.trans e8)
      have sy : ∀ {y : Int}, n ≤ y → y < n + 10 ^ 31 → sizB y = true := fun h0 h1 => siz_of (by omega) (by omega)
      refine q_asgP (P := fun v H' => ∃ (b : Addr) (y : Int), v = .ref b ∧ Kd d H8 H' ∧ n ≤ y ∧ y < n + 10 ^ 31 ∧ StoAt K CS H' b [(R, y)]) (fun Q2 q2 => ?_) ?_
      · refine ⟨_, rfl, ?_⟩
        refine ei_0 (g := fun i j => i + j) (P := fun y => y = n) (R := fun y => 0 ≤ y ∧ y < 0 + 10 ^ 31) (S := fun y => n ≤ y ∧ y < n + 10 ^ 31) (ei_v rfl rfl) (ei_great rfl) (fun a b h1 h2 => by omega) H8 (Kd.refl k8.2) _ fun v H9 k9 ⟨y, e, y0, y1⟩ => ?_
        subst e
        exact ⟨(show 2 ≤ sizeLine by decide), fun u nu => mk_stoV (K := K) (vs := [.ref u]) (rs := [(R, y)]) (.cons ⟨u, rfl, SqT.of upd_same⟩ .nil) (one_rns sR (sy y0 y1)) fun b H10 e10 hs => q2 _ _ ⟨b, y, rfl, k9.to ((Evl.Ex.new nu).trans e10), y0, y1, hs⟩⟩
      rintro _ H9 ⟨b, y, rfl, k9, y0, y1, hs⟩
      have syy := sy y0 y1
      obtain ⟨g, rfl⟩ : ∃ g, y = n + g := ⟨y - n, by omega⟩
      have ft2 : fitB ps [(R, n + g)] = true := fr_fit.mpr ((hn.2 (n + g) (by omega)).mpr (by omega))
      obtain ⟨c, hc⟩ : ∃ c, IsCp ps [(R, n)] c := ⟨_, cp_is lc.ct (one_sto sR sn) (srtR_perm _) (srtR_srt _) (fr_fit.mp ft)⟩
      have hl9 := (hl7.up e8).kd k8.2 k9
      exact Evl.s_ret (Evl.ev_is (Evl.ev_andV (a := true) (b := true) (Evl.ev_is (ev_eq (fo_e (K := K) (n := n) (elot_v (Evl.ev_var (i := 2) rfl) hl9) (esto_v (Evl.ev_var (i := 9) rfl) hs) (one_fo sR syy lc ft2) (fun m hm => fo_wide (by omega) hn hm)) (Evl.ev_var (i := 5) rfl) rfl) (congrArg V.bl (decide_eq_true rfl))) (fun _ => Evl.ev_is (ev_i0 (g := fun i j => .bl (decide (i ≤ j))) (cp_e (K := K) (n := c) (elot_v (Evl.ev_var (i := 2) rfl) hl9) (esto_one (Evl.ev_var (i := 3) rfl) (Evl.ev_var (i := 5) rfl) sR sn) (one_fo sR sn lc ft) (fun m hm => LeastN.uniq hm hc)) (Evl.ev_var (i := 3) rfl)) (congrArg V.bl (decide_eq_true (cap_room (by omega) hn hc))))) rfl) (fun H10 e10 => q H10 (k8.trans (k9.to e10)))
theorem asc_k {CS b : Addr} {σ : L2.St} {H : Hp} {tb : TE} {rs : List (Int × Int)} (h : Evl.Ev tb σ H (.ref b)) (hs : StoAt K CS H b rs) (sm : Sm rs) : ∀ H1, Evl.Ex H H1 → ∀ Q : VK, (∀ c ss H2, Evl.Ex H1 H2 → ss.Perm rs → SrF ss → StoAt K CS H2 c (jr ss) → Q (.ref c) H2) → tMeth CS "ascending" (spStoAscS K CS) [] E0 tb tNil σ H1 Q := fun H1 e Q q => h H1 e _ fun H2 e2 => by
  have hs2 := hs.up (e.trans e2)
  obtain ⟨dx, t, ts, h1, _⟩ := hs2.ex
  exact ⟨b, dx, _, rfl, h1, sto_look, b, rs, rfl, hs2, fun ss p => (sm.perm p).rns, fun c ss H3 e3 p so hc => q c ss H3 (e2.trans e3) p so hc⟩
theorem part_k {CS b : Addr} {σ : L2.St} {H : Hp} {tb tx ty : TE} {rs : List (Int × Int)} {x y : Int} (h : Evl.Ev tb σ H (.ref b)) (hs : StoAt K CS H b rs) (sm : Sm rs) (hx : Evl.Ev tx σ H (.int x)) (hy : Evl.Ev ty σ H (.int y)) (x0 : 0 ≤ x) (xy : x ≤ y) (yn : y ≤ numR rs) : ∀ H1, Evl.Ex H H1 → ∀ Q : VK, (∀ c ss H2, Evl.Ex H1 H2 → ss.Perm rs → SrF ss → StoAt K CS H2 c (jr (prt 0 x y (jr ss))) → Q (.ref c) H2) → tMeth CS "part" (spSPart K CS) [] E0 (tMeth CS "ascending" (spStoAscS K CS) [] E0 tb tNil) (tCons tx (tCons ty tNil)) σ H1 Q := fun H1 e Q q => asc_k h hs sm H1 e _ fun c ss H2 e2 p so hc => by
  obtain ⟨dx, t, ts, h1, _⟩ := hc.ex
  have sj := (sm.perm p).jr
  have nm := sm.nm
  have ln := sj.ln
  have b2 : (10 : Int) ^ 35 < 10 ^ 200 := by decide +kernel
  have en : numR (jr ss) = numR rs := (numR_jr ss).trans (sum_of_perm (p.map _))
  exact ⟨c, dx, _, rfl, h1, sto_look, hx H2 (e.trans e2) _ fun H3 e3 => hy H3 ((e.trans e2).trans e3) _ fun H4 e4 => ⟨c, jr ss, x, y, rfl, hc.up (e3.trans e4), by omega, by omega, by omega, x0, xy, by omega, (sj.prt xy).rns, fun b H5 e5 hb => q b ss H5 (e2.trans (e3.trans (e4.trans e5))) p so hb⟩⟩
theorem esto_cap {CS : Addr} {σ : L2.St} {H : Hp} {te tz : TE} {rs : List (Int × Int)} {z : Int} (ha : Esto K CS te σ H rs) (hz : Evl.Ev tz σ H (.int z)) (sm : Sm rs) (z0 : 0 < z) (zB : z ≤ 10 ^ 28) : Esto K CS (tMeth CS "capped" (spSCap K CS) [] E0 te (tCons tz tNil)) σ H (jr (rs.map fun r => (capI z r.1, r.2))) := fun H1 e Q q => ha H1 e _ fun a H2 e2 hs => by
  obtain ⟨dx, t, ts, h1, _⟩ := hs.ex
  have ln := sm.ln
  have b2 : (10 : Int) ^ 28 < 10 ^ 200 := by decide +kernel
  exact ⟨a, dx, _, rfl, h1, sto_look, hz H2 (e.trans e2) _ fun H3 e3 => ⟨a, z, rs, rfl, hs.up e3, siz_of z0 (by omega), by omega, (sm.cap z0).rns, fun c H4 e4 hc => q c H4 (e2.trans (e3.trans e4)) hc⟩⟩
theorem fo_of {ps X : List (Int × Int)} (lc : LotC ps) (sm : Sm X) (ft : fitB ps X = true) : FoOk ps X := ⟨lc, sm.sto, by
  have nm := sm.nm
  have nn := numR_nn sm.pos
  have b2 : (10 : Int) ^ 35 < 10 ^ 200 := by decide +kernel
  omega, ft⟩
theorem fit_ex {ps X Y : List (Int × Int)} (sx : Sm X) (sy : Sm Y) (p : (exR X).Perm (exR Y)) (ft : fitB ps Y = true) : fitB ps X = true := fit_iff.mpr fun q hq => by
  have k := fit_iff.mp ft q hq
  rw [unt_ex sy.nn] at k
  rw [unt_ex sx.nn, sD_perm p]
  exact k
def spStr (K : PySem.W.Frag) (CL : Addr) : Sp := fun vs H Q _ => ∃ (d p a l : Addr) (ns : List Int) (L : Int) (ps rs : List (Int × Int)) (ws : List V), vs = [.ref d, .ref p, .ref a, .ref l] ∧ p ≠ d ∧ Dice H d ∧ SqT K H p (ns.map V.int) ∧ LotAt K CL H a ps ∧ Alk ns L ps ∧ H l = some (.lst ws) ∧ F2 (RP K H) ws rs ∧ GrR rs ∧ ∀ H', Kd d H H' → Q (.bl true) H'
theorem ok_str (B : Bl mg) {CL CS : Addr} (D : Df K mg "_law_store_right" s__law_store_right ["dice", "chain", "lot", "runs"]) (C__law_mixed : Cg P w K mg base CX0 2 "_law_mixed" (spMixV K)) (C__law_made_store : Cg P w K mg base CX0 6 "_law_made_store" (spMadeG K CS)) (P_Lot_number : Pg P w K mg base 2 CL "number" (spLNum K CL)) (P_Store_number : Pg P w K mg base 2 CS "number" (spSNum K CS)) (O_Store_backward : Og P w K mg base 6 CS "backward" ["self"] (spStoBack K CS)) (O_Store_ascending : Og P w K mg base 6 CS "ascending" ["self"] (spStoAscS K CS)) (O_Store_part : Og P w K mg base 6 CS "part" ["self", "first", "last"] (spSPart K CS)) (O_Store_capped : Og P w K mg base 6 CS "capped" ["self", "room"] (spSCap K CS)) (O_Lot_len : Og P w K mg base 1 CL "__len__" ["self"] (spLen K CL)) (C_fits : Cg P w K mg base CX0 7 "fits" (spFits K CL CS)) (C_fewest_of : Cg P w K mg base CX0 8 "fewest_of" (spFo K CL CS)) (C_least_cap : Cg P w K mg base CX0 8 "least_cap" (spCap K CL CS)) : Cg P w K mg base CX0 12 "_law_store_right" (spStr K CL) := by
  refine cg_of D sc__law_store_right (fun vs H Q E h => ?_) (fun f cdv' A fr s H vs Q E hr hgd h => ?_)
  · obtain ⟨d, p, a, l, ns, L, ps, rs, ws, rfl, _⟩ := h
    rfl
  · obtain ⟨d, p, a, l, ns, L, ps, rs, ws, rfl, pd, hd, hp, hl, ak, hw, hf, gr, q⟩ := h
    refine ⟨_, (pss_cons (ps_set (i := 4) sc__law_store_right.nd rfl (by first | exact Or.inl rfl | exact Or.inr rfl) (pe_op op_cat (pv 3) (pe_lst (pa_cons (pe_tup (pa_cons (pe_op op_add (pe_op op_mul (pe_callB (cr_maxTK (K := K) rfl rfl hr.units) (by rfl) B.max bt_max (pa_cons (pv 1) pa_nil)) pe_int) pe_int) (pa_cons (pe_op op_add (pe_op op_fdiv (pprop P_Lot_number hr (pv 2)) pe_int) pe_int) pa_nil))) pa_nil))))
    (pss_cons (ps_set (i := 5) sc__law_store_right.nd rfl (by first | exact Or.inl rfl | exact Or.inr rfl) (pcg C__law_made_store hr hgd (pa_cons (pv 4) pa_nil)))
     (pss_cons (ps_par (i := 6) (j := 7) rfl sc__law_store_right.nd rfl rfl (by decide) rfl rfl (pa_cons (pcg C_fewest_of hr hgd (pa_cons (pv 2) (pa_cons (pv 5) pa_nil))) (pa_cons (pcg C_least_cap hr hgd (pa_cons (pv 2) (pa_cons (pv 5) pa_nil))) pa_nil)) (by rfl))
      (pss_cons (ps_for PassesOwn.never rfl (pi_tup (pe_tup (pa_cons (pmeth0 O_Store_backward hr (pv 5)) (pa_cons (pmeth0 O_Store_ascending hr (pv 5)) (pa_cons (pcg C__law_made_store hr hgd (pa_cons (pcg C__law_mixed hr hgd (pa_cons (pv 0) (pa_cons (pv 4) pa_nil))) pa_nil)) pa_nil))))) (pg_name (i := 8) sc__law_store_right.nd rfl (by first | exact Or.inl rfl | exact Or.inr rfl)) (pss_one (ps_if (pt_cmpR (op_neD hr.units) (pe_lst (pa_cons (pcg C_fewest_of hr hgd (pa_cons (pv 2) (pa_cons (pv 8) pa_nil))) (pa_cons (pcg C_least_cap hr hgd (pa_cons (pv 2) (pa_cons (pv 8) pa_nil))) pa_nil))) (pe_lst (pa_cons (pv 6) (pa_cons (pv 7) pa_nil))) (nomark _)) (pss_one (ps_ret pe_bl)) pss_nil)))
       (pss_cons (ps_if (pt_cmpR op_eq (pe_callB (call_lenO O_Lot_len hr) (by rfl) B.len bt_len (pa_cons (pv 2) pa_nil)) pe_int (nomark _)) (pss_one (ps_ret (pe_cmpR (op_eqD hr.units) (pe_lst (pa_cons (pv 6) (pa_cons (pv 7) pa_nil))) (pe_lst (pa_cons pe_int (pa_cons pe_int pa_nil))) (nomark _)))) pss_nil)
        (pss_cons (ps_set (i := 9) sc__law_store_right.nd rfl (by first | exact Or.inl rfl | exact Or.inr rfl) (pmeth O_Store_part hr (pmeth0 O_Store_ascending hr (pv 5)) (pa_cons (pe_op op_sub (pprop P_Store_number hr (pv 5)) (pv 6)) (pa_cons (pprop P_Store_number hr (pv 5)) pa_nil))))
         (pss_cons (ps_if (pw_or (pt_not (pt_val (pcg C_fits hr hgd (pa_cons (pv 2) (pa_cons (pv 9) pa_nil))))) (pw_or (pt_not (pt_val (pcg C_fits hr hgd (pa_cons (pv 2) (pa_cons (pmeth O_Store_capped hr (pv 5) (pa_cons (pv 7) pa_nil)) pa_nil))))) (pw_or1 (pt_cmpR op_ne (pcg C_fewest_of hr hgd (pa_cons (pv 2) (pa_cons (pv 9) pa_nil))) (pv 6) (nomark _))))).pt (pss_one (ps_ret pe_bl)) pss_nil)
          (pss_cons (ps_if (pw_and (pt_cmpR op_gt (pv 6) pe_int (nomark _)) (pw_and1 (pt_val (pcg C_fits hr hgd (pa_cons (pv 2) (pa_cons (pmeth O_Store_part hr (pmeth0 O_Store_ascending hr (pv 5)) (pa_cons (pe_op op_add (pe_op op_sub (pprop P_Store_number hr (pv 5)) (pv 6)) pe_int) (pa_cons (pprop P_Store_number hr (pv 5)) pa_nil))) pa_nil)))))).pt (pss_one (ps_ret pe_bl)) pss_nil)
           (pss_one (ps_ret (pe_or (pe_cmpR op_eq (pv 7) pe_int (nomark _)) (pe_one (pe_not (pcg C_fits hr hgd (pa_cons (pv 2) (pa_cons (pmeth O_Store_capped hr (pv 5) (pa_cons (pe_op op_sub (pv 7) pe_int) pa_nil)) pa_nil)))))))))))))))), ?_⟩
    have L0 := ak.ch.posL
    have lL := ak.lL
    have lc := ak.lc
    have ln := lc.ct.ln
    have sm := wide_sm ak gr
    have ftW := wide_fit ak (rs := rs) fun r hr => ⟨Int.le_of_lt (gr.ok r hr).1.1, Int.le_of_lt (gr.ok r hr).2.1⟩
    have lnW : (rs ++ [(L * 2 + 1, numR ps / 2 + 1)]).length ≤ 8 := by
      rw [List.length_append]
      have := gr.ln
      show _ + 1 ≤ _
      omega
    refine q_asgP (P := fun v H' => ∃ l4 xs, v = .ref l4 ∧ l4 ≠ d ∧ Evl.Ex H H' ∧ H' l4 = some (.lst xs) ∧ F2 (RP K H') xs (rs ++ [(L * 2 + 1, numR ps / 2 + 1)])) (fun Q2 q2 => ⟨_, rfl, evp_one (K := K) (a := L * 2 + 1) (b := numR ps / 2 + 1) (ev_i0 (g := fun i j => .int (i + j)) (ev_i (g := fun i j => .int (i * j)) (ev_maxT (K := K) (Evl.ev_var (i := 1) rfl) hp ak.ch.mem fun y hy => (ak.ch.pos y hy).2.1) Evl.ev_c (.inr ⟨by omega, by omega⟩)) Evl.ev_c) (ev_i0 (g := fun i j => .int (i + j)) (ev_i (g := fun i j => .int (i / j)) (ev_lnum (K := K) (Evl.ev_var (i := 2) rfl) hl (by omega)) Evl.ev_c (show CDiv _ 2 from ⟨by decide, by decide⟩)) Evl.ev_c) H (Evl.Ex.refl H) _ fun Dl us H2 nD e2 hD hf' => ⟨l, Dl, ws, us, rfl, rfl, e2 _ _ hw, hD, Evl.sz_of (by rw [hf.len, hf'.len]; have := gr.ln; show _ + 1 ≤ _; omega), fun u nu => q2 _ _ ⟨u, _, rfl, (hd.ex e2).ne nu, e2.trans (Evl.Ex.new nu), upd_same, ((hf.imp fun x b r => r.ex e2).app hf').imp fun x b r => r.ex (Evl.Ex.new nu)⟩⟩⟩) ?_
    generalize rs ++ [(L * 2 + 1, numR ps / 2 + 1)] = W at sm ftW lnW
    rintro _ H1 ⟨l4, xs, rfl, l4d, e1, h4, hf4⟩
    have sj := sm.jr
    have fo : FoOk ps (jr W) := fo_of lc sj ((fit_jr ps W).trans ftW)
    have fle := fit_iff.mp fo.ft
    obtain ⟨n, hn⟩ : ∃ n, IsFo ps (jr W) n := ⟨_, fo_is lc.ct sj.sto (srtR_perm _) (srtR_srt _) fle⟩
    obtain ⟨c, hc⟩ : ∃ c, IsCp ps (jr W) c := ⟨_, cp_is lc.ct sj.sto (srtR_perm _) (srtR_srt _) fle⟩
    refine q_asgP (P := fun v H' => ∃ b, v = .ref b ∧ Evl.Ex H1 H' ∧ StoAt K CS H' b (jr W)) (fun Q2 q2 => esto_made (K := K) (Evl.ev_var (i := 4) rfl) (SqL.of h4) hf4 lnW sm.rns H1 (Evl.Ex.refl H1) _ fun b H2 e2 hs => q2 _ _ ⟨b, rfl, e2, hs⟩) ?_
    rintro _ H2 ⟨b, rfl, e2, hs2⟩
    have hl2 := hl.up (e1.trans e2)
    refine q_parP (P := fun x y H' => x = .int n ∧ y = .int c ∧ Evl.Ex H2 H') (fun Q2 q2 => fo_e (K := K) (elot_v (Evl.ev_var (i := 2) rfl) hl2) (esto_v (Evl.ev_var (i := 5) rfl) hs2) fo (fun m hm => LeastN.uniq hm hn) H2 (Evl.Ex.refl H2) _ fun H3 e3 => cp_e (K := K) (elot_v (Evl.ev_var (i := 2) rfl) hl2) (esto_v (Evl.ev_var (i := 5) rfl) hs2) fo (fun m hm => LeastN.uniq hm hc) H3 e3 _ fun H4 e4 => q2 _ _ _ ⟨rfl, rfl, e3.trans e4⟩) ?_
    rintro _ _ H3 ⟨rfl, rfl, e3⟩
    have e03 := e1.trans (e2.trans e3)
    have hs3 := hs2.up e3
    have rb : Sm (jr W).reverse := sj.perm (List.reverse_perm _)
    have okx : ∀ X : List (Int × Int), Sm X → (exR X).Perm (exR (jr W)) → FoOk ps X := fun X sx px => fo_of lc sx (fit_ex sx sj px fo.ft)
    refine esto_back (K := K) (esto_v (Evl.ev_var (i := 5) rfl) hs3) rb.rns H3 (Evl.Ex.refl H3) _ fun x1 H4 e4 t1 => asc_k (K := K) (Evl.ev_var (i := 5) rfl) hs3 sj H4 e4 _ fun x2 ss H5 e5 pss _ t2 => ?_
    have e05 := e03.trans (e4.trans e5)
    have e15 := e2.trans (e3.trans (e4.trans e5))
    refine ⟨.ref d, rfl, .ref l4, rfl, d, l4, xs, rfl, l4d, hd.ex e05, .inl (SqL.of (e15 _ _ h4)), by rw [hf4.len]; omega, fun l5 ys H6 k6 l5d nl5 hl5 pmy => ?_⟩
    obtain ⟨ms, pms, fms⟩ := f2_perm pmy (hf4.imp fun x b r => r.ex e15)
    have smm := sm.perm pms
    refine ⟨l5, ys, ms, rfl, SqL.of hl5, fms.imp fun x b r => r.kd (hd.ex e05) k6, by rw [pms.length_eq]; exact lnW, smm.rns, fun x3 H7 e7 t3 => ?_⟩
    refine ⟨(show 3 ≤ sizeLine by decide), fun u nu => ⟨u, rfl, ⟨_, SqT.of upd_same⟩, ?_⟩⟩
    have eu : Evl.Ex H7 (upd H7 u (.tup [.ref x1, .ref x2, .ref x3])) := Evl.Ex.new nu
    have hu : SqT K (upd H7 u (.tup [.ref x1, .ref x2, .ref x3])) u [.ref x1, .ref x2, .ref x3] := SqT.of upd_same
    have k08 : Kd d H (upd H7 u (.tup [.ref x1, .ref x2, .ref x3])) := ((Kd.ex hd e05).trans k6).to (e7.trans eu)
    have hl8 := ((hl.up e05).kd (hd.ex e05) k6).up (e7.trans eu)
    have hs8 := ((hs3.up (e4.trans e5)).kd (hd.ex e05) k6).up (e7.trans eu)
    have t18 := ((t1.up e5).kd (hd.ex e05) k6).up (e7.trans eu)
    have t28 := (t2.kd (hd.ex e05) k6).up (e7.trans eu)
    have t38 := t3.up eu
    have q8 : ∀ H', Evl.Ex (upd H7 u (.tup [.ref x1, .ref x2, .ref x3])) H' → Q (.bl true) H' := fun H' e' => q H' (k08.to e')
    generalize upd H7 u (.tup [.ref x1, .ref x2, .ref x3]) = H8 at hu hl8 hs8 t18 t28 t38 q8 ⊢
    have its : ∀ (i : Nat) (x : V), ([.ref x1, .ref x2, .ref x3] : List V)[i]? = some x → ∃ y X, x = .ref y ∧ StoAt K CS H8 y X ∧ FoOk ps X ∧ (exR X).Perm (exR (jr W)) := by
      intro i x hx
      have p1 : (exR (jr (jr W).reverse)).Perm (exR (jr W)) := by
        rw [exR_jr rb.nn]
        exact exR_perm (List.reverse_perm _)
      have p2 : (exR (jr ss)).Perm (exR (jr W)) := by
        rw [exR_jr (sj.perm pss).nn]
        exact exR_perm pss
      have p3 : (exR (jr ms)).Perm (exR (jr W)) := by
        rw [exR_jr smm.nn, exR_jr sm.nn]
        exact exR_perm pms
      match i, hx with
      | 0, hx => exact ⟨x1, _, (Option.some.inj hx).symm, t18, okx _ rb.jr p1, p1⟩
      | 1, hx => exact ⟨x2, _, (Option.some.inj hx).symm, t28, okx _ (sj.perm pss).jr p2, p2⟩
      | 2, hx => exact ⟨x3, _, (Option.some.inj hx).symm, t38, okx _ smm.jr p3, p3⟩
    refine for_it walk_tup (fun i σ H' => Evl.Ex H8 H' ∧ ∃ t8 : Option V, σ = [some (.ref d), some (.ref p), some (.ref a), some (.ref l), some (.ref l4), some (.ref b), some (.int n), some (.int c), t8, none]) ⟨Evl.Ex.refl _, none, rfl⟩ (fun i σ H' _ h => Evl.ex_t h.1 hu) ?_ ?_
    · rintro i x σ H9' H9 hi ⟨e9, t8, rfl⟩ ⟨rfl, hxi⟩
      obtain ⟨y, X, rfl, ty, foX, pX⟩ := its i x hxi
      refine Evl.s_when (b := false) (Evl.et_is (Evl.et_test (ev_neD (K := K) (ed_lst (ed_cons (ed_int (fo_e (K := K) (n := n) (elot_v (Evl.ev_var (i := 2) rfl) (hl8.up e9)) (esto_v (Evl.ev_var (i := 8) rfl) (ty.up e9)) foX (fun m hm => fo_perm pX hn hm))) (ed_cons (ed_int (cp_e (K := K) (n := c) (elot_v (Evl.ev_var (i := 2) rfl) (hl8.up e9)) (esto_v (Evl.ev_var (i := 8) rfl) (ty.up e9)) foX (fun m hm => cp_perm pX hc hm))) ed_nil)) (show 2 ≤ 100000 by decide)) (ed_lst (ed_cons (ed_int (Evl.ev_var (i := 6) rfl)) (ed_cons (ed_int (Evl.ev_var (i := 7) rfl)) ed_nil)) (show 2 ≤ 100000 by decide)) (shaped_lints [_, _]) (shaped_lints [_, _]))) ?_) (fun z => nomatch z) (fun _ H10 e10 => ⟨e9.trans e10, _, rfl⟩)
      rw [show PyData.eqv (.list [PyData.int n, PyData.int c]) (.list [PyData.int n, PyData.int c]) = decide ([n, c] = [n, c]) from eqv_lints [_, _] [_, _], decide_eq_true rfl]
      rfl
    rintro _ H9 ⟨e9, t8, rfl⟩
    have hl9 := hl8.up e9
    have hs9 := hs8.up e9
    refine Evl.q_when (b := decide (V.int (ps.length : Int) = V.int 0)) (Evl.et_test (ev_eq (ev_lenO (Evl.ev_var (i := 2) rfl) hl9 (by omega)) Evl.ev_c rfl)) (fun cc H10 e10 => ?_) (fun cc H10 e10 => ?_)
    · have pe : ps = [] := List.eq_nil_of_length_eq_zero (by have := V.int.inj (of_decide_eq_true cc); omega)
      have ne : n = 0 := least_nil hn fun p hp => by rw [pe] at hp; cases hp
      have re : c = 0 := least_nil hc fun p hp => by rw [pe] at hp; cases hp
      refine Evl.s_ret (Evl.ev_is (ev_eqD (K := K) (ed_lst (ed_cons (ed_int (Evl.ev_var (i := 6) rfl)) (ed_cons (ed_int (Evl.ev_var (i := 7) rfl)) ed_nil)) (show 2 ≤ 100000 by decide)) (ed_lst (ed_cons (ed_int Evl.ev_c) (ed_cons (ed_int Evl.ev_c) ed_nil)) (show 2 ≤ 100000 by decide)) (shaped_lints [_, _]) (shaped_lints [_, _])) ?_) (fun H11 e11 => q8 H11 (e9.trans (e10.trans e11)))
      rw [show PyData.eqv (.list [PyData.int n, PyData.int c]) (.list [PyData.int 0, PyData.int 0]) = decide ([n, c] = [0, 0]) from eqv_lints [_, _] [_, _], decide_eq_true (by rw [ne, re])]
    · have ne : ps ≠ [] := fun e => by
        rw [e] at cc
        exact absurd rfl (of_decide_eq_false cc)
      have np := fo_pos lc.ct ne hn
      have nN := fo_num sj.pos fle hn
      have cp := cp_pos lc.ct ne (fun r hr => Int.le_of_lt (sj.ok r hr).1.1) hc
      have cB := cp_le (B := 10 ^ 28) sj.pos (by decide +kernel) (fun r hr => Int.le_of_lt (sj.ok r hr).1.2) fle hc
      have lnj := sj.ln
      have hl10 := hl9.up e10
      have hs10 := hs9.up e10
      refine q_asgP (P := fun v H' => ∃ b2 ss, v = .ref b2 ∧ Evl.Ex H10 H' ∧ ss.Perm (jr W) ∧ SrF ss ∧ StoAt K CS H' b2 (jr (prt 0 (numR (jr W) - n) (numR (jr W)) (jr ss)))) (fun Q2 q2 => part_k (K := K) (Evl.ev_var (i := 5) rfl) hs10 sj (ev_i0 (g := fun i j => .int (i - j)) (ev_snum (K := K) (Evl.ev_var (i := 5) rfl) hs10 (by omega)) (Evl.ev_var (i := 6) rfl)) (ev_snum (K := K) (Evl.ev_var (i := 5) rfl) hs10 (by omega)) (Int.sub_nonneg_of_le nN) (Int.sub_le_self _ (Int.le_of_lt np)) (Int.le_refl _) H10 (Evl.Ex.refl H10) _ fun b2 ss H11 e11 pm so hb => q2 _ _ ⟨b2, ss, rfl, e11, pm, so, hb⟩) ?_
      rintro _ H11 ⟨b2, s2, rfl, e11, pm, so, hb⟩
      have s2j := (sj.perm pm).jr
      have en : numR (jr s2) = numR (jr W) := (numR_jr s2).trans (sum_of_perm (pm.map _))
      have ex2 : exR (jr s2) = srtI (exR (jr W)) := (exR_jr (sj.perm pm).nn).trans (exR_sorted so pm)
      have lf := fun {m : Int} (m0 : 0 ≤ m) (m1 : m ≤ numR (jr s2)) => last_fit (ps := ps) (aa := jr s2) (rs := jr W) s2j.pos m0 m1 ex2
      have hl11 := hl10.up e11
      have hs11 := hs10.up e11
      have sc : Sm (prt 0 (numR (jr W) - n) (numR (jr W)) (jr s2)) := s2j.prt (by omega)
      have fc : fitB ps (prt 0 (numR (jr W) - n) (numR (jr W)) (jr s2)) = true := by
        rw [← en]
        exact (lf (Int.le_of_lt np) (by omega)).mpr hn.at
      have fcj : fitB ps (jr (prt 0 (numR (jr W) - n) (numR (jr W)) (jr s2))) = true := (fit_jr _ _).trans fc
      have uc : ∀ m, IsFo ps (jr (prt 0 (numR (jr W) - n) (numR (jr W)) (jr s2))) m → m = n := fun m hm => by
        unfold IsFo at hm
        rw [exR_jr sc.nn, ← en] at hm
        exact fo_last s2j.pos (by omega) ex2 hn hm
      have sC : Sm ((jr W).map fun r => (capI c r.1, r.2)) := sj.cap cp
      have fC : fitB ps (jr ((jr W).map fun r => (capI c r.1, r.2))) = true := (fit_jr _ _).trans ((cap_fit sj.nn).mpr hc.at)
      refine Evl.q_when (b := false) (Evl.et_is (Evl.et_or (a := false) (b := false) (Evl.et_is (Evl.et_not (Evl.et_B (Evl.ev_is (fits_e (K := K) (elot_v (Evl.ev_var (i := 2) rfl) hl11) (esto_v (Evl.ev_var (i := 9) rfl) hb) lc sc.jr.sto) (congrArg V.bl fcj)))) rfl) (fun _ => Evl.et_is (Evl.et_or (a := false) (b := false) (Evl.et_is (Evl.et_not (Evl.et_B (Evl.ev_is (fits_e (K := K) (elot_v (Evl.ev_var (i := 2) rfl) hl11) (esto_cap (K := K) (esto_v (Evl.ev_var (i := 5) rfl) hs11) (Evl.ev_var (i := 7) rfl) sj cp cB) lc sC.jr.sto) (congrArg V.bl fC)))) rfl) (fun _ => Evl.et_is (Evl.et_test (ev_ne (fo_e (K := K) (n := n) (elot_v (Evl.ev_var (i := 2) rfl) hl11) (esto_v (Evl.ev_var (i := 9) rfl) hb) (fo_of lc sc.jr fcj) uc) (Evl.ev_var (i := 6) rfl) rfl)) (by rw [decide_eq_true rfl]; rfl))) rfl)) rfl) (fun z => nomatch z) (fun _ H12 e12 => ?_)
      have hl12 := hl11.up e12
      have hs12 := hs11.up e12
      refine Evl.q_when (b := false) (et_andF2 (a := decide (n > 1)) (Evl.et_test (ev_i0 (g := fun i j => .bl (decide (i > j))) (Evl.ev_var (i := 6) rfl) Evl.ev_c)) (fun c1 => Evl.et_B ?_)) (fun z => nomatch z) (fun _ H13 e13 => ?_)
      · have c1 := of_decide_eq_true c1
        refine fun H13 e13 Q2 q2 => ⟨_, rfl, part_k (K := K) (x := numR (jr W) - n + 1) (y := numR (jr W)) (Evl.ev_var (i := 5) rfl) hs12 sj (ev_i0 (g := fun i j => .int (i + j)) (ev_i0 (g := fun i j => .int (i - j)) (ev_snum (K := K) (Evl.ev_var (i := 5) rfl) hs12 (by omega)) (Evl.ev_var (i := 6) rfl)) Evl.ev_c) (ev_snum (K := K) (Evl.ev_var (i := 5) rfl) hs12 (by omega)) (by omega) (by omega) (Int.le_refl _) H13 e13 _ fun b3 s3 H14 e14 pm3 so3 hb3 => ?_⟩
        have s3j := (sj.perm pm3).jr
        have en3 : numR (jr s3) = numR (jr W) := (numR_jr s3).trans (sum_of_perm (pm3.map _))
        have ex3 : exR (jr s3) = srtI (exR (jr W)) := (exR_jr (sj.perm pm3).nn).trans (exR_sorted so3 pm3)
        have f3 : fitB ps (jr (prt 0 (numR (jr W) - n + 1) (numR (jr W)) (jr s3))) = false := by
          rw [fit_jr, show numR (jr W) - n + 1 = numR (jr W) - (n - 1) from by omega, ← en3]
          exact Bool.eq_false_iff.mpr fun fe => hn.no (by omega) (by omega) ((last_fit (ps := ps) (aa := jr s3) (rs := jr W) s3j.pos (by omega) (by omega) ex3).mp fe)
        exact ⟨a, b3, ps, _, rfl, hl12.up (e13.trans e14), lc, hb3, (s3j.prt (by omega)).jr.sto, fun H15 e15 => by
          rw [f3]
          exact q2 H15 (e14.trans e15)⟩
      have hl13 := hl12.up e13
      have hs13 := hs12.up e13
      have qf : ∀ H', Evl.Ex H13 H' → Q (.bl true) H' := fun H' e' => q8 H' (e9.trans (e10.trans (e11.trans (e12.trans (e13.trans e')))))
      by_cases c1 : c = 1
      · exact Evl.s_ret (Evl.ev_is (Evl.ev_orV (a := true) (b := true) (Evl.ev_is (ev_eq (Evl.ev_var (i := 7) rfl) Evl.ev_c rfl) (congrArg V.bl (decide_eq_true (congrArg V.int c1)))) (fun z => nomatch z)) rfl) qf
      · have sD : Sm ((jr W).map fun r => (capI (c - 1) r.1, r.2)) := sj.cap (by omega)
        have fD : fitB ps (jr ((jr W).map fun r => (capI (c - 1) r.1, r.2))) = false := (fit_jr _ _).trans (Bool.eq_false_iff.mpr fun fe => hc.no (by omega) (by omega) ((cap_fit sj.nn).mp fe))
        refine Evl.s_ret (Evl.ev_is (Evl.ev_orV (a := false) (b := true) (Evl.ev_is (ev_eq (Evl.ev_var (i := 7) rfl) Evl.ev_c rfl) (congrArg V.bl (decide_eq_false fun z => c1 (V.int.inj z)))) (fun _ H14 e14 Q2 q2 => ?_)) rfl) qf
        exact fits_e (K := K) (elot_v (Evl.ev_var (i := 2) rfl) hl13) (esto_cap (K := K) (esto_v (Evl.ev_var (i := 5) rfl) hs13) (ev_i0 (g := fun i j => .int (i - j)) (Evl.ev_var (i := 7) rfl) Evl.ev_c) sj (by omega) (by omega)) lc sD.jr.sto H14 e14 _ fun H15 e15 => ⟨_, rfl, by rw [fD]; exact q2 H15 e15⟩
theorem cts_lit {ps : List (Int × Int)} (h : ps.all (fun p => sizB p.1 && sizB p.2) = true) (nd : (ps.map Prod.fst).Nodup) (ln : ps.length ≤ 12) : Cts ps := ⟨nd, ln, fun p hp => Bool.and_eq_true_iff.mp (List.all_eq_true.mp h p hp)⟩
theorem ok_law {f CL CS : Addr} {fd : FuncData} (B : Bl mg) (T : Cs mg) (D_is_integer : Df K mg "is_integer" s_is_integer ["value"]) (D_is_count : Df K mg "is_count" s_is_count ["value"]) (D_is_size : Df K mg "is_size" s_is_size ["value"]) (D_check_size : Df K mg "check_size" s_check_size ["value"]) (D_check_between : Df K mg "check_between" s_check_between ["value", "low", "high"]) (D_is_run : Df K mg "is_run" s_is_run ["value"]) (D_number_of_all : Df K mg "number_of_all" s_number_of_all ["runs"]) (D_units_of : Df K mg "units_of" s_units_of ["runs", "size"]) (D_joined_runs : Df K mg "joined_runs" s_joined_runs ["runs"]) (D_part_of_runs : Df K mg "part_of_runs" s_part_of_runs ["runs", "first", "last"]) (D_first_gap : Df K mg "first_gap" s_first_gap ["sizes"]) (D_check_lot : Df K mg "check_lot" s_check_lot ["value"]) (D__are_counts : Df K mg "_are_counts" s__are_counts ["value"]) (D_check_store : Df K mg "check_store" s_check_store ["value"]) (D_check_together : Df K mg "check_together" s_check_together ["sizes"]) (D__check : Df K mg "_check" s__check ["lot", "store"]) (D_levels_of : Df K mg "levels_of" s_levels_of ["lot", "store"]) (D_fits : Df K mg "fits" s_fits ["lot", "store"]) (D_barring_sizes : Df K mg "barring_sizes" s_barring_sizes ["lot", "store"]) (D__rounded_up : Df K mg "_rounded_up" s__rounded_up ["number", "divisor"]) (D_fewest_rooms : Df K mg "fewest_rooms" s_fewest_rooms ["lot", "room"]) (D_fewest_for : Df K mg "fewest_for" s_fewest_for ["counts", "room"]) (D_least_room : Df K mg "least_room" s_least_room ["lot", "rooms"]) (D__check_fit : Df K mg "_check_fit" s__check_fit ["lot", "store"]) (D__numbers : Df K mg "_numbers" s__numbers ["lot", "store"]) (D__rooms_with : Df K mg "_rooms_with" s__rooms_with ["runs", "size", "needed"]) (D_fewest_of : Df K mg "fewest_of" s_fewest_of ["lot", "store"]) (D__caps : Df K mg "_caps" s__caps ["lot", "store"]) (D__least_units : Df K mg "_least_units" s__least_units ["rooms", "size", "needed"]) (D_least_cap : Df K mg "least_cap" s_least_cap ["lot", "store"]) (D__law_dice : Df K mg "_law_dice" s__law_dice ["script", "spot"]) (D__law_roll : Df K mg "_law_roll" s__law_roll ["dice", "total"]) (D__law_pick : Df K mg "_law_pick" s__law_pick ["dice", "items"]) (D__law_mixed : Df K mg "_law_mixed" s__law_mixed ["dice", "items"]) (D__law_great : Df K mg "_law_great" s__law_great ["dice", "least"]) (D__law_long_chain : Df K mg "_law_long_chain" s__law_long_chain ["dice"]) (D__law_great_lot : Df K mg "_law_great_lot" s__law_great_lot ["dice", "sizes"]) (D__law_great_store : Df K mg "_law_great_store" s__law_great_store ["dice", "sizes"]) (D__law_made_lot : Df K mg "_law_made_lot" s__law_made_lot ["plain"]) (D__law_made_store : Df K mg "_law_made_store" s__law_made_store ["runs"]) (D__law_alike_right : Df K mg "_law_alike_right" s__law_alike_right ["dice", "chain", "lot"]) (D__law_store_right : Df K mg "_law_store_right" s__law_store_right ["dice", "chain", "lot", "runs"]) (LT_Lot : LotT K mg CL) (SF_Lot : PySem.W.selfFirst K CL = true) (LK_LotN : LotNK K CL) (DM_Lot_init : Din K mg "Lot" CL "Lot.__init__" s_Lot_init ["self", "counts"]) (DM_Lot_counts : Dpr K CL "counts" "Lot.counts" s_Lot_counts) (DM_Lot_sizes : Dpr K CL "sizes" "Lot.sizes" s_Lot_sizes) (DM_Lot_number : Dpr K CL "number" "Lot.number" s_Lot_number) (DM_Lot_units : Dop K CL "units" "Lot.units" s_Lot_units ["self", "size"]) (DM_Lot_add : Dop K CL "__add__" "Lot.__add__" s_Lot_add ["self", "other"]) (DM_Lot_len : Dop K CL "__len__" "Lot.__len__" s_Lot_len ["self"]) (LT_Store : StoreT K mg CS) (DM_Store_init : Dis K mg "Store" CS "Store.__init__" s_Store_init "runs") (DM_Store_number : Dpr K CS "number" "Store.number" s_Store_number) (DM_Store_rooms : Dpr K CS "rooms" "Store.rooms" s_Store_rooms) (DM_Store_units : Dop K CS "units" "Store.units" s_Store_units ["self", "size"]) (DM_Store_part : Dop K CS "part" "Store.part" s_Store_part ["self", "first", "last"]) (DM_Store_backward : Dop K CS "backward" "Store.backward" s_Store_backward ["self"]) (DM_Store_ascending : Dop K CS "ascending" "Store.ascending" s_Store_ascending ["self"]) (DM_Store_capped : Dop K CS "capped" "Store.capped" s_Store_capped ["self", "room"]) (F : Fun K "law" "law" s_law f fd) : FnG P w K mg base CX0 14 f fd ["script"] (spLaw K) := by
  -- haves
  have h_int := ok_int (P := P) (w := w) (base := base) B T D_is_integer
  have h_count := ok_count (P := P) (w := w) (base := base) B D_is_count h_int
  have h_size := ok_size (P := P) (w := w) (base := base) B D_is_size h_int
  have h_gapB := ok_gapB (P := P) (w := w) (base := base) B D_first_gap
  have h_chks := ok_chks (P := P) (w := w) (base := base) B D_check_size h_size
  have h_chklot := ok_chklot (P := P) (w := w) (base := base) B LT_Lot D_check_lot
  have h_arec := ok_arec (P := P) (w := w) (base := base) B T D__are_counts h_size
  have h_lotsizes := ok_lotsizes (P := P) (w := w) (base := base) LT_Lot DM_Lot_sizes
  obtain ⟨M_Lot, M0_Lot⟩ := ok_lotinit (P := P) (w := w) (base := base) B LT_Lot DM_Lot_init h_arec
  have h_noa := ok_noa (P := P) (w := w) (base := base) B D_number_of_all
  have h_lotnum := ok_lotnum (P := P) (w := w) (base := base) LT_Lot DM_Lot_number h_noa
  have h_lotcounts := ok_lotcounts (P := P) (w := w) (base := base) B LT_Lot DM_Lot_counts
  have h_isrun := ok_isrun (P := P) (w := w) (base := base) B D_is_run h_size
  have h_unitsof := ok_unitsof (P := P) (w := w) (base := base) B D_units_of
  have h_joinr := ok_joinr (P := P) (w := w) (base := base) B D_joined_runs
  have h_chksto := ok_chksto (P := P) (w := w) (base := base) B LT_Store D_check_store
  have M_Store := ok_stoinit (P := P) (w := w) (base := base) B T LT_Store DM_Store_init h_isrun h_joinr
  have h_stounits := ok_stounits (P := P) (w := w) (base := base) LT_Store DM_Store_units h_chks h_unitsof
  have h_storooms := ok_storooms (P := P) (w := w) (base := base) B LT_Store DM_Store_rooms
  have h_stonum := ok_stonum (P := P) (w := w) (base := base) LT_Store DM_Store_number h_noa
  have h_togN := ok_togN (P := P) (w := w) (base := base) B D_check_together h_gapB
  have h_lotunits := ok_lotunits (P := P) (w := w) (base := base) B LT_Lot DM_Lot_units h_chks h_unitsof
  have h_chkL := ok_chkL (P := P) (w := w) (base := base) B D__check h_chklot h_chksto h_togN h_lotsizes
  have h_levels := ok_levels (P := P) (w := w) (base := base) B D_levels_of h_chkL h_lotsizes h_lotunits h_stounits
  have h_barring := ok_barring (P := P) (w := w) (base := base) B D_barring_sizes h_levels
  have h_fits := ok_fits (P := P) (w := w) (base := base) B D_fits h_barring
  have h_btw := ok_btw (P := P) (w := w) (base := base) B D_check_between h_int
  have h_lotadd := ok_lotadd (P := P) (w := w) (base := base) B T LT_Lot DM_Lot_add M_Lot
  have h_prt := ok_prt (P := P) (w := w) (base := base) B D_part_of_runs
  have h_stopart := ok_stopart (P := P) (w := w) (base := base) B LT_Store DM_Store_part h_btw h_prt h_stonum M_Store
  have h_stocap := ok_stocap (P := P) (w := w) (base := base) B LT_Store DM_Store_capped h_chks M_Store
  have h_roll := ok_roll (P := P) (w := w) (base := base) B D__law_roll
  have h_dice := ok_dice (P := P) (w := w) (base := base) B D__law_dice
  have h_great := ok_great (P := P) (w := w) (base := base) B D__law_great h_roll
  have h_long := ok_long (P := P) (w := w) (base := base) B D__law_long_chain h_roll
  have h_gl := ok_gl (P := P) (w := w) (base := base) B D__law_great_lot h_roll h_great
  have h_made := ok_made (P := P) (w := w) (base := base) B D__law_made_lot M_Lot
  have h_lotlen := ok_lotlen (P := P) (w := w) (base := base) B LT_Lot DM_Lot_len
  have h_back := ok_back (P := P) (w := w) (base := base) LT_Store DM_Store_backward M_Store
  have h_unitsL := ok_unitsL (P := P) (w := w) (base := base) B D_units_of
  have h_rup := ok_rup (P := P) (w := w) (base := base) B D__rounded_up
  have h_rw := ok_rw (P := P) (w := w) (base := base) B D__rooms_with h_rup
  have h_lu := ok_lu (P := P) (w := w) (base := base) B D__least_units h_rup
  have h_fwf := ok_fwf (P := P) (w := w) (base := base) B D_fewest_for h_unitsL h_rup
  have h_fr := ok_fr (P := P) (w := w) (base := base) D_fewest_rooms h_chklot h_chks h_togN h_lotsizes h_lotcounts h_fwf
  have h_rm := ok_rm (P := P) (w := w) (base := base) B D_least_room h_chklot h_chks h_togN h_lotsizes h_lotunits h_rup
  have h_cf := ok_cf (P := P) (w := w) (base := base) D__check_fit h_barring
  have h_nms := ok_nms (P := P) (w := w) (base := base) B D__numbers h_levels h_storooms h_rw
  have h_cps := ok_cps (P := P) (w := w) (base := base) B D__caps h_levels h_storooms h_lu
  have h_fo := ok_fo (P := P) (w := w) (base := base) B D_fewest_of h_cf h_nms
  have h_cap := ok_cap (P := P) (w := w) (base := base) B D_least_cap h_cf h_cps
  have h_mixv := ok_mixv (P := P) (w := w) (base := base) B D__law_mixed h_roll
  have h_pickS := ok_pickS (P := P) (w := w) (base := base) B D__law_pick h_roll
  have h_grs := ok_grs (P := P) (w := w) (base := base) B D__law_great_store h_roll h_pickS h_great
  have h_madeG := ok_madeG (P := P) (w := w) (base := base) B D__law_made_store M_Store
  have h_ascS := ok_ascS (P := P) (w := w) (base := base) B LT_Store DM_Store_ascending M_Store
  have h_alk := ok_alk (P := P) (w := w) (base := base) B SF_Lot D__law_alike_right h_roll h_pickS h_great h_fr h_rm h_lotadd M_Lot M_Store h_lotlen h_fits h_fo h_cap
  have h_str := ok_str (P := P) (w := w) (base := base) B D__law_store_right h_mixv h_madeG h_lotnum h_stonum h_back h_ascS h_stopart h_stocap h_lotlen h_fits h_fo h_cap
  have C__law_alike_right := h_alk
  have C__law_dice := h_dice
  have C__law_great_lot := h_gl
  have C__law_great_store := h_grs
  have C__law_long_chain := h_long
  have C__law_made_lot := h_made
  have C__law_store_right := h_str
  have C_least_room := h_rm
  refine Fun.okG F sc_law (fun vs H Q E h => ?_) (fun cdv' A fr s H vs Q E hr hgd h => ?_)
  · obtain ⟨a, ns, rfl, _⟩ := h
    rfl
  · obtain ⟨a, ns, rfl, hS, hlen, q⟩ := h
    refine ⟨_, PSs.nox (pss_cons (ps_for PassesOwn.never rfl (pi_range1 (by rfl) B.range (pa_cons (pe_callB (call_max2 rfl) (by rfl) B.max bt_max (pa_cons pe_int (pa_cons (pe_callB (call_min2 rfl) (by rfl) B.min bt_min (pa_cons pe_int (pa_cons (pe_callB call_len_seq (by rfl) B.len bt_len (pa_cons (pv 0) pa_nil)) pa_nil))) pa_nil))) pa_nil)) (pg_name (i := 1) sc_law.nd rfl (by first | exact Or.inl rfl | exact Or.inr rfl)) (pss_cons (ps_set (i := 2) sc_law.nd rfl (by first | exact Or.inl rfl | exact Or.inr rfl) (pcg C__law_dice hr hgd (pa_cons (pv 0) (pa_cons (pv 1) pa_nil))))
    (pss_one (ps_for PassesOwn.never rfl (pi_range1 (by rfl) B.range (pa_cons pe_int pa_nil)) (pg_name (i := 3) sc_law.nd rfl (by first | exact Or.inl rfl | exact Or.inr rfl)) (pss_cons (ps_set (i := 4) sc_law.nd rfl (by first | exact Or.inl rfl | exact Or.inr rfl) (pcg C__law_long_chain hr hgd (pa_cons (pv 2) pa_nil)))
    (pss_cons (ps_set (i := 5) sc_law.nd rfl (by first | exact Or.inl rfl | exact Or.inr rfl) (pcg C__law_made_lot hr hgd (pa_cons (pcg C__law_great_lot hr hgd (pa_cons (pv 2) (pa_cons (pv 4) pa_nil))) pa_nil)))
     (pss_cons (ps_if (pt_not (pt_val (pcg C__law_alike_right hr hgd (pa_cons (pv 2) (pa_cons (pv 4) (pa_cons (pv 5) pa_nil)))))) (pss_one (ps_ret pe_bl)) pss_nil)
      (pss_one (ps_if (pt_not (pt_val (pcg C__law_store_right hr hgd (pa_cons (pv 2) (pa_cons (pv 4) (pa_cons (pv 5) (pa_cons (pcg C__law_great_store hr hgd (pa_cons (pv 2) (pa_cons (pv 4) pa_nil))) pa_nil))))))) (pss_one (ps_ret pe_bl)) pss_nil)))))))))
    (pss_one (ps_ret (pe_cmpR op_eq (pcg C_least_room hr hgd (pa_cons (pmk M_Lot hr (pa_cons (pe_disp (pps_cons pe_int (pe_op op_pow pe_int pe_int) (pps_cons pe_int pe_int pps_nil)) (by rfl) (by rfl) (fun z => by cases z) (by decide)) pa_nil)) (pa_cons (pe_op op_pow pe_int pe_int) pa_nil))) pe_int (nomark _))))), ?_⟩
    refine spots (K := K) (m := 5) (k := 5) (by decide) rfl (by decide) hS ?_ ?_
    · rintro sp r H1 hr1 hs
      match r, hr1 with
      | [v2, v3, v4, v5], _ =>
      refine ⟨.ref a, rfl, .int sp, rfl, a, sp, ns, rfl, hs.seq hS, fun d hd H2 hdice k => ?_⟩
      have hd0 : H d = none := hs.free hd
      have hs2 : Same H H2 := fun b o e => (k b (ne_of_none e hd0)).trans (hs b o e)
      refine turnsE (m := 2) (n := 3) (d := d) (H0 := H) (by decide) ⟨⟨_, [_, _, _], rfl, rfl⟩, hs2, hdice⟩ ?_ ?_
      · rintro t s' r H3 hr3 hs3 hd3
        match r, hr3 with
        | [x4, x5], _ =>
        refine ⟨.ref d, rfl, d, rfl, hd3, fun p ms M H4 k4 pd hp hl hc hL => ?_⟩
        have ic := chd_isc hc hl hL
        refine ⟨.ref d, rfl, .ref p, rfl, d, p, ms, rfl, pd, k4.2, hp, by omega, hc.nodup, fun g qs H5 k5 gd hg hgr => ?_⟩
        have ct : Cts qs := ⟨hgr.nd, by have := hgr.ln; omega, fun x hx => by
          obtain ⟨m, y0, y1⟩ := hgr.sub x hx
          obtain ⟨n0, n1⟩ := ic.sz _ m
          have big : (10 : Int) ^ 31 < 10 ^ 200 := by decide +kernel
          exact ⟨siz_of n0 n1, siz_of y0 (by omega)⟩⟩
        refine ⟨g, qs, rfl, hg, ct, fun b ps H6 e6 pm asc hlt => ?_⟩
        obtain ⟨lc, _⟩ := cut_lotC ic ct (fun x hx => (hgr.sub x hx).1) pm asc
        have ak : Alk ms M ps := ⟨hc, hl, hL, lc, fun x hx => hgr.sub x (pm.mem_iff.mp hx)⟩
        have k36 := k4.trans (k5.to e6)
        have hp6 := (k5.to e6).1.sqT pd hp
        refine ⟨.ref d, rfl, .ref p, rfl, .ref b, rfl, d, p, b, ms, M, ps, rfl, pd, k36.2, hp6, hlt, ak, fun H7 k7 => ⟨true, rfl, iteF ?_⟩⟩
        have nb : ∀ n ∈ ms, 0 < n ∧ n < 10 ^ 27 := fun n hn => ⟨(hc.pos n hn).1, Int.lt_of_le_of_lt (hc.pos n hn).2.1 hL⟩
        have hp7 := k7.1.sqT pd hp6
        have hl7 := hlt.kd k36.2 k7
        refine ⟨.ref d, rfl, .ref p, rfl, .ref b, rfl, .ref d, rfl, .ref p, rfl, d, p, ms, rfl, pd, k7.2, hp7, ic.ne, by omega, nb, fun l vs rs H8 k8 ld nl hl8 hf8 hne hGr => ?_⟩
        refine ⟨d, p, b, l, ms, M, ps, rs, vs, rfl, pd, k8.2, k8.1.sqT pd hp7, hl7.kd k7.2 k8, ak, hl8, hf8, hGr, fun H9 k9 => ⟨true, rfl, iteF ?_⟩⟩
        have k39 := k36.trans (k7.trans (k8.trans k9))
        exact ⟨⟨_, [_, _, _], rfl, rfl⟩, fun b o e => k39.1 b o (ne_of_none e hd0) (hs3 b o e), k39.2⟩
      · intro s' r H3 hr3 hs3 hd3
        match r, hr3 with
        | [w3, w4, w5], _ => exact ⟨⟨_, rfl, rfl⟩, hs3⟩
    · rintro r H1 hr1 hs
      match r, hr1 with
      | [w1, w2, w3, w4, w5], _ =>
      have pw : ∀ {σ : L2.St} {G : Hp}, Evl.Ev (tOp (rI CPow fun i j => .int (i ^ j.toNat)) (tC (.int 10)) (tC (.int 40))) σ G (.int (10 ^ 40)) := fun {σ G} => ev_i (g := fun i j => .int (i ^ j.toNat)) Evl.ev_c Evl.ev_c (pow_ok (by decide +kernel))
      have c1 : Cts [(5, 10 ^ 40), (10, 1)] := cts_lit (by decide +kernel) (by decide +kernel) (by decide)
      have L1 : LotC [(5, 10 ^ 40), (10, 1)] := ⟨c1, (show List.Pairwise _ _ by decide +kernel), by decide +kernel⟩
      have n0 : (0 : Int) < 10 ^ 40 := by decide +kernel
      have hrm : IsRm [(5, 10 ^ 40), (10, 1)] (10 ^ 40) 10 := by
        have z := rm_is c1 n0
        rw [show mx0 ([((5 : Int), (10 : Int) ^ 40), (10, 1)].map fun p => cdv (unt [(5, 10 ^ 40), (10, 1)] p.1) (10 ^ 40) * p.1) = 10 from by decide +kernel] at z
        exact z
      refine Evl.s_ret (Evl.ev_is (ev_eq (rm_e (K := K) (r := 10) (elot_mk (fun H2 e Q q => evd_disp (ps := [(5, 10 ^ 40), (10, 1)]) (prs_cons Evl.ev_c pw (prs_cons Evl.ev_c Evl.ev_c prs_nil)) c1.nd (show 2 ≤ 15 by decide) H2 e Q fun p H3 _ e3 hp => q p H3 e3 hp) c1 L1.asc) pw L1 (show sizB (10 ^ 40) = true by decide +kernel) hrm) Evl.ev_c rfl) (congrArg V.bl (decide_eq_true rfl))) (fun H2 _ => q H2)
theorem start_law {H : Hp} {a : Addr} {ns : List Int} (hl : ns.length ≤ 63) (hS : SqL K H a (ns.map V.int)) : spLaw K [.ref a] H (fun v _ => v = .bl true) fun _ _ _ => False := ⟨a, ns, rfl, hS, hl, fun _ => rfl⟩

end
def fe0 : FnE := ⟨fun K => He.ga K "is_integer", "is_integer", "is_integer", defArgs s_is_integer, defBody s_is_integer, defScope s_is_integer, false⟩
def fe1 : FnE := ⟨fun K => He.ga K "is_count", "is_count", "is_count", defArgs s_is_count, defBody s_is_count, defScope s_is_count, false⟩
def fe2 : FnE := ⟨fun K => He.ga K "is_size", "is_size", "is_size", defArgs s_is_size, defBody s_is_size, defScope s_is_size, false⟩
def fe3 : FnE := ⟨fun K => He.ga K "check_size", "check_size", "check_size", defArgs s_check_size, defBody s_check_size, defScope s_check_size, false⟩
def fe4 : FnE := ⟨fun K => He.ga K "check_between", "check_between", "check_between", defArgs s_check_between, defBody s_check_between, defScope s_check_between, false⟩
def fe5 : FnE := ⟨fun K => He.ga K "is_run", "is_run", "is_run", defArgs s_is_run, defBody s_is_run, defScope s_is_run, false⟩
def fe6 : FnE := ⟨fun K => He.ga K "number_of_all", "number_of_all", "number_of_all", defArgs s_number_of_all, defBody s_number_of_all, defScope s_number_of_all, false⟩
def fe7 : FnE := ⟨fun K => He.ga K "units_of", "units_of", "units_of", defArgs s_units_of, defBody s_units_of, defScope s_units_of, false⟩
def fe8 : FnE := ⟨fun K => He.ga K "joined_runs", "joined_runs", "joined_runs", defArgs s_joined_runs, defBody s_joined_runs, defScope s_joined_runs, false⟩
def fe9 : FnE := ⟨fun K => He.ga K "part_of_runs", "part_of_runs", "part_of_runs", defArgs s_part_of_runs, defBody s_part_of_runs, defScope s_part_of_runs, false⟩
def fe10 : FnE := ⟨fun K => He.ga K "first_gap", "first_gap", "first_gap", defArgs s_first_gap, defBody s_first_gap, defScope s_first_gap, false⟩
def fe11 : FnE := ⟨fun K => He.ga K "check_lot", "check_lot", "check_lot", defArgs s_check_lot, defBody s_check_lot, defScope s_check_lot, false⟩
def fe12 : FnE := ⟨fun K => He.ga K "_are_counts", "_are_counts", "_are_counts", defArgs s__are_counts, defBody s__are_counts, defScope s__are_counts, false⟩
def fe13 : FnE := ⟨fun K => He.ga K "check_store", "check_store", "check_store", defArgs s_check_store, defBody s_check_store, defScope s_check_store, false⟩
def fe14 : FnE := ⟨fun K => He.ga K "check_together", "check_together", "check_together", defArgs s_check_together, defBody s_check_together, defScope s_check_together, false⟩
def fe15 : FnE := ⟨fun K => He.ga K "_check", "_check", "_check", defArgs s__check, defBody s__check, defScope s__check, false⟩
def fe16 : FnE := ⟨fun K => He.ga K "levels_of", "levels_of", "levels_of", defArgs s_levels_of, defBody s_levels_of, defScope s_levels_of, false⟩
def fe17 : FnE := ⟨fun K => He.ga K "fits", "fits", "fits", defArgs s_fits, defBody s_fits, defScope s_fits, false⟩
def fe18 : FnE := ⟨fun K => He.ga K "barring_sizes", "barring_sizes", "barring_sizes", defArgs s_barring_sizes, defBody s_barring_sizes, defScope s_barring_sizes, false⟩
def fe19 : FnE := ⟨fun K => He.ga K "_rounded_up", "_rounded_up", "_rounded_up", defArgs s__rounded_up, defBody s__rounded_up, defScope s__rounded_up, false⟩
def fe20 : FnE := ⟨fun K => He.ga K "fewest_rooms", "fewest_rooms", "fewest_rooms", defArgs s_fewest_rooms, defBody s_fewest_rooms, defScope s_fewest_rooms, false⟩
def fe21 : FnE := ⟨fun K => He.ga K "fewest_for", "fewest_for", "fewest_for", defArgs s_fewest_for, defBody s_fewest_for, defScope s_fewest_for, false⟩
def fe22 : FnE := ⟨fun K => He.ga K "least_room", "least_room", "least_room", defArgs s_least_room, defBody s_least_room, defScope s_least_room, false⟩
def fe23 : FnE := ⟨fun K => He.ga K "_check_fit", "_check_fit", "_check_fit", defArgs s__check_fit, defBody s__check_fit, defScope s__check_fit, false⟩
def fe24 : FnE := ⟨fun K => He.ga K "_numbers", "_numbers", "_numbers", defArgs s__numbers, defBody s__numbers, defScope s__numbers, false⟩
def fe25 : FnE := ⟨fun K => He.ga K "_rooms_with", "_rooms_with", "_rooms_with", defArgs s__rooms_with, defBody s__rooms_with, defScope s__rooms_with, false⟩
def fe26 : FnE := ⟨fun K => He.ga K "fewest_of", "fewest_of", "fewest_of", defArgs s_fewest_of, defBody s_fewest_of, defScope s_fewest_of, false⟩
def fe27 : FnE := ⟨fun K => He.ga K "_caps", "_caps", "_caps", defArgs s__caps, defBody s__caps, defScope s__caps, false⟩
def fe28 : FnE := ⟨fun K => He.ga K "_least_units", "_least_units", "_least_units", defArgs s__least_units, defBody s__least_units, defScope s__least_units, false⟩
def fe29 : FnE := ⟨fun K => He.ga K "least_cap", "least_cap", "least_cap", defArgs s_least_cap, defBody s_least_cap, defScope s_least_cap, false⟩
def fe30 : FnE := ⟨fun K => He.ga K "_law_dice", "_law_dice", "_law_dice", defArgs s__law_dice, defBody s__law_dice, defScope s__law_dice, false⟩
def fe31 : FnE := ⟨fun K => He.ga K "_law_roll", "_law_roll", "_law_roll", defArgs s__law_roll, defBody s__law_roll, defScope s__law_roll, false⟩
def fe32 : FnE := ⟨fun K => He.ga K "_law_pick", "_law_pick", "_law_pick", defArgs s__law_pick, defBody s__law_pick, defScope s__law_pick, false⟩
def fe33 : FnE := ⟨fun K => He.ga K "_law_mixed", "_law_mixed", "_law_mixed", defArgs s__law_mixed, defBody s__law_mixed, defScope s__law_mixed, false⟩
def fe34 : FnE := ⟨fun K => He.ga K "_law_great", "_law_great", "_law_great", defArgs s__law_great, defBody s__law_great, defScope s__law_great, false⟩
def fe35 : FnE := ⟨fun K => He.ga K "_law_long_chain", "_law_long_chain", "_law_long_chain", defArgs s__law_long_chain, defBody s__law_long_chain, defScope s__law_long_chain, false⟩
def fe36 : FnE := ⟨fun K => He.ga K "_law_great_lot", "_law_great_lot", "_law_great_lot", defArgs s__law_great_lot, defBody s__law_great_lot, defScope s__law_great_lot, false⟩
def fe37 : FnE := ⟨fun K => He.ga K "_law_great_store", "_law_great_store", "_law_great_store", defArgs s__law_great_store, defBody s__law_great_store, defScope s__law_great_store, false⟩
def fe38 : FnE := ⟨fun K => He.ga K "_law_made_lot", "_law_made_lot", "_law_made_lot", defArgs s__law_made_lot, defBody s__law_made_lot, defScope s__law_made_lot, false⟩
def fe39 : FnE := ⟨fun K => He.ga K "_law_made_store", "_law_made_store", "_law_made_store", defArgs s__law_made_store, defBody s__law_made_store, defScope s__law_made_store, false⟩
def fe40 : FnE := ⟨fun K => He.ga K "_law_alike_right", "_law_alike_right", "_law_alike_right", defArgs s__law_alike_right, defBody s__law_alike_right, defScope s__law_alike_right, false⟩
def fe41 : FnE := ⟨fun K => He.ga K "_law_store_right", "_law_store_right", "_law_store_right", defArgs s__law_store_right, defBody s__law_store_right, defScope s__law_store_right, false⟩
def fe42 : FnE := ⟨fun K => He.ga K "law", "law", "law", defArgs s_law, defBody s_law, defScope s_law, false⟩
def fe43 : FnE := ⟨fun K => mP K "Lot" "__init__", "__init__", "Lot.__init__", defArgs s_Lot_init, defBody s_Lot_init, defScope s_Lot_init, true⟩
def fe44 : FnE := ⟨fun K => gP K "Lot" "counts", "counts", "Lot.counts", defArgs s_Lot_counts, defBody s_Lot_counts, defScope s_Lot_counts, false⟩
def fe45 : FnE := ⟨fun K => gP K "Lot" "sizes", "sizes", "Lot.sizes", defArgs s_Lot_sizes, defBody s_Lot_sizes, defScope s_Lot_sizes, false⟩
def fe46 : FnE := ⟨fun K => gP K "Lot" "number", "number", "Lot.number", defArgs s_Lot_number, defBody s_Lot_number, defScope s_Lot_number, false⟩
def fe47 : FnE := ⟨fun K => mP K "Lot" "units", "units", "Lot.units", defArgs s_Lot_units, defBody s_Lot_units, defScope s_Lot_units, false⟩
def fe48 : FnE := ⟨fun K => mP K "Lot" "__add__", "__add__", "Lot.__add__", defArgs s_Lot_add, defBody s_Lot_add, defScope s_Lot_add, false⟩
def fe49 : FnE := ⟨fun K => mP K "Lot" "__len__", "__len__", "Lot.__len__", defArgs s_Lot_len, defBody s_Lot_len, defScope s_Lot_len, false⟩
def fe50 : FnE := ⟨fun K => mP K "Store" "__init__", "__init__", "Store.__init__", defArgs s_Store_init, defBody s_Store_init, defScope s_Store_init, false⟩
def fe51 : FnE := ⟨fun K => gP K "Store" "number", "number", "Store.number", defArgs s_Store_number, defBody s_Store_number, defScope s_Store_number, false⟩
def fe52 : FnE := ⟨fun K => gP K "Store" "rooms", "rooms", "Store.rooms", defArgs s_Store_rooms, defBody s_Store_rooms, defScope s_Store_rooms, false⟩
def fe53 : FnE := ⟨fun K => mP K "Store" "units", "units", "Store.units", defArgs s_Store_units, defBody s_Store_units, defScope s_Store_units, false⟩
def fe54 : FnE := ⟨fun K => mP K "Store" "part", "part", "Store.part", defArgs s_Store_part, defBody s_Store_part, defScope s_Store_part, false⟩
def fe55 : FnE := ⟨fun K => mP K "Store" "backward", "backward", "Store.backward", defArgs s_Store_backward, defBody s_Store_backward, defScope s_Store_backward, false⟩
def fe56 : FnE := ⟨fun K => mP K "Store" "ascending", "ascending", "Store.ascending", defArgs s_Store_ascending, defBody s_Store_ascending, defScope s_Store_ascending, false⟩
def fe57 : FnE := ⟨fun K => mP K "Store" "capped", "capped", "Store.capped", defArgs s_Store_capped, defBody s_Store_capped, defScope s_Store_capped, false⟩
def fnl : List FnE := fe0 :: fe1 :: fe2 :: fe3 :: fe4 :: fe5 :: fe6 :: fe7 :: fe8 :: fe9 :: fe10 :: fe11 :: fe12 :: fe13 :: fe14 :: fe15 :: fe16 :: fe17 :: fe18 :: fe19 :: fe20 :: fe21 :: fe22 :: fe23 :: fe24 :: fe25 :: fe26 :: fe27 :: fe28 :: fe29 :: fe30 :: fe31 :: fe32 :: fe33 :: fe34 :: fe35 :: fe36 :: fe37 :: fe38 :: fe39 :: fe40 :: fe41 :: fe42 :: fe43 :: fe44 :: fe45 :: fe46 :: fe47 :: fe48 :: fe49 :: fe50 :: fe51 :: fe52 :: fe53 :: fe54 :: fe55 :: fe56 :: fe57 :: []
def ck0 : List (PySem.W.Frag → Bool) := [
  fun K => decide (PySem.W.nsIn K mainGlobals "is_integer" = some (some (.ref (He.ga K "is_integer")))),
  fun K => decide (PySem.W.keepIn K (.ref (He.ga K "is_integer")) = true),
  fun K => decide (PySem.W.nsIn K mainGlobals "is_count" = some (some (.ref (He.ga K "is_count")))),
  fun K => decide (PySem.W.keepIn K (.ref (He.ga K "is_count")) = true),
  fun K => decide (PySem.W.nsIn K mainGlobals "is_size" = some (some (.ref (He.ga K "is_size")))),
  fun K => decide (PySem.W.keepIn K (.ref (He.ga K "is_size")) = true),
  fun K => decide (PySem.W.nsIn K mainGlobals "check_size" = some (some (.ref (He.ga K "check_size")))),
  fun K => decide (PySem.W.keepIn K (.ref (He.ga K "check_size")) = true),
  fun K => decide (PySem.W.nsIn K mainGlobals "check_between" = some (some (.ref (He.ga K "check_between")))),
  fun K => decide (PySem.W.keepIn K (.ref (He.ga K "check_between")) = true),
  fun K => decide (PySem.W.nsIn K mainGlobals "is_run" = some (some (.ref (He.ga K "is_run")))),
  fun K => decide (PySem.W.keepIn K (.ref (He.ga K "is_run")) = true)]
def ck1 : List (PySem.W.Frag → Bool) := [
  fun K => decide (PySem.W.nsIn K mainGlobals "number_of_all" = some (some (.ref (He.ga K "number_of_all")))),
  fun K => decide (PySem.W.keepIn K (.ref (He.ga K "number_of_all")) = true),
  fun K => decide (PySem.W.nsIn K mainGlobals "units_of" = some (some (.ref (He.ga K "units_of")))),
  fun K => decide (PySem.W.keepIn K (.ref (He.ga K "units_of")) = true),
  fun K => decide (PySem.W.nsIn K mainGlobals "joined_runs" = some (some (.ref (He.ga K "joined_runs")))),
  fun K => decide (PySem.W.keepIn K (.ref (He.ga K "joined_runs")) = true),
  fun K => decide (PySem.W.nsIn K mainGlobals "part_of_runs" = some (some (.ref (He.ga K "part_of_runs")))),
  fun K => decide (PySem.W.keepIn K (.ref (He.ga K "part_of_runs")) = true),
  fun K => decide (PySem.W.nsIn K mainGlobals "first_gap" = some (some (.ref (He.ga K "first_gap")))),
  fun K => decide (PySem.W.keepIn K (.ref (He.ga K "first_gap")) = true),
  fun K => decide (PySem.W.nsIn K mainGlobals "check_lot" = some (some (.ref (He.ga K "check_lot")))),
  fun K => decide (PySem.W.keepIn K (.ref (He.ga K "check_lot")) = true)]
def ck2 : List (PySem.W.Frag → Bool) := [
  fun K => decide (PySem.W.nsIn K mainGlobals "_are_counts" = some (some (.ref (He.ga K "_are_counts")))),
  fun K => decide (PySem.W.keepIn K (.ref (He.ga K "_are_counts")) = true),
  fun K => decide (PySem.W.nsIn K mainGlobals "check_store" = some (some (.ref (He.ga K "check_store")))),
  fun K => decide (PySem.W.keepIn K (.ref (He.ga K "check_store")) = true),
  fun K => decide (PySem.W.nsIn K mainGlobals "check_together" = some (some (.ref (He.ga K "check_together")))),
  fun K => decide (PySem.W.keepIn K (.ref (He.ga K "check_together")) = true),
  fun K => decide (PySem.W.nsIn K mainGlobals "_check" = some (some (.ref (He.ga K "_check")))),
  fun K => decide (PySem.W.keepIn K (.ref (He.ga K "_check")) = true),
  fun K => decide (PySem.W.nsIn K mainGlobals "levels_of" = some (some (.ref (He.ga K "levels_of")))),
  fun K => decide (PySem.W.keepIn K (.ref (He.ga K "levels_of")) = true),
  fun K => decide (PySem.W.nsIn K mainGlobals "fits" = some (some (.ref (He.ga K "fits")))),
  fun K => decide (PySem.W.keepIn K (.ref (He.ga K "fits")) = true)]
def ck3 : List (PySem.W.Frag → Bool) := [
  fun K => decide (PySem.W.nsIn K mainGlobals "barring_sizes" = some (some (.ref (He.ga K "barring_sizes")))),
  fun K => decide (PySem.W.keepIn K (.ref (He.ga K "barring_sizes")) = true),
  fun K => decide (PySem.W.nsIn K mainGlobals "_rounded_up" = some (some (.ref (He.ga K "_rounded_up")))),
  fun K => decide (PySem.W.keepIn K (.ref (He.ga K "_rounded_up")) = true),
  fun K => decide (PySem.W.nsIn K mainGlobals "fewest_rooms" = some (some (.ref (He.ga K "fewest_rooms")))),
  fun K => decide (PySem.W.keepIn K (.ref (He.ga K "fewest_rooms")) = true),
  fun K => decide (PySem.W.nsIn K mainGlobals "fewest_for" = some (some (.ref (He.ga K "fewest_for")))),
  fun K => decide (PySem.W.keepIn K (.ref (He.ga K "fewest_for")) = true),
  fun K => decide (PySem.W.nsIn K mainGlobals "least_room" = some (some (.ref (He.ga K "least_room")))),
  fun K => decide (PySem.W.keepIn K (.ref (He.ga K "least_room")) = true),
  fun K => decide (PySem.W.nsIn K mainGlobals "_check_fit" = some (some (.ref (He.ga K "_check_fit")))),
  fun K => decide (PySem.W.keepIn K (.ref (He.ga K "_check_fit")) = true)]
def ck4 : List (PySem.W.Frag → Bool) := [
  fun K => decide (PySem.W.nsIn K mainGlobals "_numbers" = some (some (.ref (He.ga K "_numbers")))),
  fun K => decide (PySem.W.keepIn K (.ref (He.ga K "_numbers")) = true),
  fun K => decide (PySem.W.nsIn K mainGlobals "_rooms_with" = some (some (.ref (He.ga K "_rooms_with")))),
  fun K => decide (PySem.W.keepIn K (.ref (He.ga K "_rooms_with")) = true),
  fun K => decide (PySem.W.nsIn K mainGlobals "fewest_of" = some (some (.ref (He.ga K "fewest_of")))),
  fun K => decide (PySem.W.keepIn K (.ref (He.ga K "fewest_of")) = true),
  fun K => decide (PySem.W.nsIn K mainGlobals "_caps" = some (some (.ref (He.ga K "_caps")))),
  fun K => decide (PySem.W.keepIn K (.ref (He.ga K "_caps")) = true),
  fun K => decide (PySem.W.nsIn K mainGlobals "_least_units" = some (some (.ref (He.ga K "_least_units")))),
  fun K => decide (PySem.W.keepIn K (.ref (He.ga K "_least_units")) = true),
  fun K => decide (PySem.W.nsIn K mainGlobals "least_cap" = some (some (.ref (He.ga K "least_cap")))),
  fun K => decide (PySem.W.keepIn K (.ref (He.ga K "least_cap")) = true)]
def ck5 : List (PySem.W.Frag → Bool) := [
  fun K => decide (PySem.W.nsIn K mainGlobals "_law_dice" = some (some (.ref (He.ga K "_law_dice")))),
  fun K => decide (PySem.W.keepIn K (.ref (He.ga K "_law_dice")) = true),
  fun K => decide (PySem.W.nsIn K mainGlobals "_law_roll" = some (some (.ref (He.ga K "_law_roll")))),
  fun K => decide (PySem.W.keepIn K (.ref (He.ga K "_law_roll")) = true),
  fun K => decide (PySem.W.nsIn K mainGlobals "_law_pick" = some (some (.ref (He.ga K "_law_pick")))),
  fun K => decide (PySem.W.keepIn K (.ref (He.ga K "_law_pick")) = true),
  fun K => decide (PySem.W.nsIn K mainGlobals "_law_mixed" = some (some (.ref (He.ga K "_law_mixed")))),
  fun K => decide (PySem.W.keepIn K (.ref (He.ga K "_law_mixed")) = true),
  fun K => decide (PySem.W.nsIn K mainGlobals "_law_great" = some (some (.ref (He.ga K "_law_great")))),
  fun K => decide (PySem.W.keepIn K (.ref (He.ga K "_law_great")) = true),
  fun K => decide (PySem.W.nsIn K mainGlobals "_law_long_chain" = some (some (.ref (He.ga K "_law_long_chain")))),
  fun K => decide (PySem.W.keepIn K (.ref (He.ga K "_law_long_chain")) = true)]
def ck6 : List (PySem.W.Frag → Bool) := [
  fun K => decide (PySem.W.nsIn K mainGlobals "_law_great_lot" = some (some (.ref (He.ga K "_law_great_lot")))),
  fun K => decide (PySem.W.keepIn K (.ref (He.ga K "_law_great_lot")) = true),
  fun K => decide (PySem.W.nsIn K mainGlobals "_law_great_store" = some (some (.ref (He.ga K "_law_great_store")))),
  fun K => decide (PySem.W.keepIn K (.ref (He.ga K "_law_great_store")) = true),
  fun K => decide (PySem.W.nsIn K mainGlobals "_law_made_lot" = some (some (.ref (He.ga K "_law_made_lot")))),
  fun K => decide (PySem.W.keepIn K (.ref (He.ga K "_law_made_lot")) = true),
  fun K => decide (PySem.W.nsIn K mainGlobals "_law_made_store" = some (some (.ref (He.ga K "_law_made_store")))),
  fun K => decide (PySem.W.keepIn K (.ref (He.ga K "_law_made_store")) = true),
  fun K => decide (PySem.W.nsIn K mainGlobals "_law_alike_right" = some (some (.ref (He.ga K "_law_alike_right")))),
  fun K => decide (PySem.W.keepIn K (.ref (He.ga K "_law_alike_right")) = true),
  fun K => decide (PySem.W.nsIn K mainGlobals "_law_store_right" = some (some (.ref (He.ga K "_law_store_right")))),
  fun K => decide (PySem.W.keepIn K (.ref (He.ga K "_law_store_right")) = true)]
def ck7 : List (PySem.W.Frag → Bool) := [
  fun K => decide (PySem.W.nsIn K mainGlobals "law" = some (some (.ref (He.ga K "law")))),
  fun K => decide (PySem.W.keepIn K (.ref (He.ga K "law")) = true),
  fun K => decide (PySem.W.nsIn K mainGlobals "abs" = some none),
  fun K => decide (PySem.W.nsIn K mainGlobals "all" = some none),
  fun K => decide (PySem.W.nsIn K mainGlobals "any" = some none),
  fun K => decide (PySem.W.nsIn K mainGlobals "bool" = some none),
  fun K => decide (PySem.W.nsIn K mainGlobals "dict" = some none),
  fun K => decide (PySem.W.nsIn K mainGlobals "int" = some none),
  fun K => decide (PySem.W.nsIn K mainGlobals "isinstance" = some none),
  fun K => decide (PySem.W.nsIn K mainGlobals "len" = some none),
  fun K => decide (PySem.W.nsIn K mainGlobals "list" = some none),
  fun K => decide (PySem.W.nsIn K mainGlobals "max" = some none)]
def ck8 : List (PySem.W.Frag → Bool) := [
  fun K => decide (PySem.W.nsIn K mainGlobals "min" = some none),
  fun K => decide (PySem.W.nsIn K mainGlobals "range" = some none),
  fun K => decide (PySem.W.nsIn K mainGlobals "set" = some none),
  fun K => decide (PySem.W.nsIn K mainGlobals "sorted" = some none),
  fun K => decide (PySem.W.nsIn K mainGlobals "str" = some none),
  fun K => decide (PySem.W.nsIn K mainGlobals "sum" = some none),
  fun K => decide (PySem.W.nsIn K mainGlobals "tuple" = some none),
  fun K => decide (PySem.W.nsIn K mainGlobals "zip" = some none),
  fun K => intEq 200 (PySem.W.nsIn K mainGlobals "MAX_FIGURES"),
  fun K => intEq 40 (PySem.W.nsIn K mainGlobals "MAX_RUNS"),
  fun K => intEq 12 (PySem.W.nsIn K mainGlobals "MAX_SIZES"),
  fun K => decide (PySem.W.specialIn K (.builtin "object.__class__") "__get__" = some (some (.builtin "getset_descriptor.__get__")))]
def ck9 : List (PySem.W.Frag → Bool) := [
  fun K => decide (PySem.W.takesIn K (.builtin "object.__class__") = some true),
  fun K => decide (PySem.W.nsIn K mainGlobals "Lot" = some (some (.ref (He.ga K "Lot")))),
  fun K => decide (PySem.W.plainGet K (He.ga K "Lot") Str.empty = true),
  fun K => decide (PySem.W.hasDictIn K (He.ga K "Lot") = true),
  fun K => decide (PySem.W.plainOver K (He.ga K "Lot") = true),
  fun K => decide (PySem.W.findIn K (.ref (He.ga K "Lot")) "__setattr__" = some (some (.builtin "object.__setattr__"))),
  fun K => decide (PySem.W.makesIn K (He.ga K "Lot") = true),
  fun K => decide (PySem.W.keepIn K (.ref (He.ga K "Lot")) = true),
  fun K => decide (PySem.W.findIn K (.ref (He.ga K "Lot")) "__class__" = some (some (.builtin "object.__class__"))),
  fun K => decide (PySem.W.findIn K (.ref (He.ga K "Lot")) "_sizes" = some none),
  fun K => decide (PySem.W.findIn K (.ref (He.ga K "Lot")) "_pairs" = some none),
  fun K => decide (PySem.W.findIn K (.ref (He.ga K "Lot")) "_counts" = some none)]
def ck10 : List (PySem.W.Frag → Bool) := [
  fun K => decide (PySem.W.selfFirst K (He.ga K "Lot") = true),
  fun K => decide (PySem.W.subIn K (.ref (He.ga K "Lot")) (.type "int") = some false),
  fun K => decide (PySem.W.subIn K (.type "dict") (.ref (He.ga K "Lot")) = some false),
  fun K => decide (PySem.W.subIn K (.type "int") (.ref (He.ga K "Lot")) = some false),
  fun K => decide (PySem.W.subIn K (.type "NoneType") (.ref (He.ga K "Lot")) = some false),
  fun K => decide (PySem.W.isClsIn K (He.ga K "Lot") = true),
  fun K => decide (PySem.W.typeIn K (.ref (He.ga K "Lot")) = some (.type "type")),
  fun K => decide (PySem.W.findIn K (.ref (He.ga K "Lot")) "__init__" = some (some (.ref (mP K "Lot" "__init__")))),
  fun K => decide (PySem.W.isFn K (.ref (mP K "Lot" "__init__")) = true),
  fun K => decide (PySem.W.keepIn K (.ref (mP K "Lot" "__init__")) = true),
  fun K => decide (PySem.W.findIn K (.ref (He.ga K "Lot")) "counts" = some (some (.ref (mP K "Lot" "counts")))),
  fun K => decide (PySem.W.specialIn K (.ref (mP K "Lot" "counts")) "__get__" = some (some (.builtin "property.__get__")))]
def ck11 : List (PySem.W.Frag → Bool) := [
  fun K => decide (PySem.W.takesIn K (.ref (mP K "Lot" "counts")) = some true),
  fun K => recB (PySem.W.recIn K (mP K "Lot" "counts") "property"),
  fun K => decide (PySem.W.keepIn K (.ref (gP K "Lot" "counts")) = true),
  fun K => decide (PySem.W.findIn K (.ref (He.ga K "Lot")) "sizes" = some (some (.ref (mP K "Lot" "sizes")))),
  fun K => decide (PySem.W.specialIn K (.ref (mP K "Lot" "sizes")) "__get__" = some (some (.builtin "property.__get__"))),
  fun K => decide (PySem.W.takesIn K (.ref (mP K "Lot" "sizes")) = some true),
  fun K => recB (PySem.W.recIn K (mP K "Lot" "sizes") "property"),
  fun K => decide (PySem.W.keepIn K (.ref (gP K "Lot" "sizes")) = true),
  fun K => decide (PySem.W.findIn K (.ref (He.ga K "Lot")) "number" = some (some (.ref (mP K "Lot" "number")))),
  fun K => decide (PySem.W.specialIn K (.ref (mP K "Lot" "number")) "__get__" = some (some (.builtin "property.__get__"))),
  fun K => decide (PySem.W.takesIn K (.ref (mP K "Lot" "number")) = some true),
  fun K => recB (PySem.W.recIn K (mP K "Lot" "number") "property")]
def ck12 : List (PySem.W.Frag → Bool) := [
  fun K => decide (PySem.W.keepIn K (.ref (gP K "Lot" "number")) = true),
  fun K => decide (PySem.W.findIn K (.ref (He.ga K "Lot")) "units" = some (some (.ref (mP K "Lot" "units")))),
  fun K => decide (PySem.W.isFn K (.ref (mP K "Lot" "units")) = true),
  fun K => decide (PySem.W.fnIn K (mP K "Lot" "units") = true),
  fun K => decide (PySem.W.keepIn K (.ref (mP K "Lot" "units")) = true),
  fun K => decide (PySem.W.findIn K (.ref (He.ga K "Lot")) "__add__" = some (some (.ref (mP K "Lot" "__add__")))),
  fun K => decide (PySem.W.isFn K (.ref (mP K "Lot" "__add__")) = true),
  fun K => decide (PySem.W.fnIn K (mP K "Lot" "__add__") = true),
  fun K => decide (PySem.W.keepIn K (.ref (mP K "Lot" "__add__")) = true),
  fun K => decide (PySem.W.findIn K (.ref (He.ga K "Lot")) "__len__" = some (some (.ref (mP K "Lot" "__len__")))),
  fun K => decide (PySem.W.isFn K (.ref (mP K "Lot" "__len__")) = true),
  fun K => decide (PySem.W.fnIn K (mP K "Lot" "__len__") = true)]
def ck13 : List (PySem.W.Frag → Bool) := [
  fun K => decide (PySem.W.keepIn K (.ref (mP K "Lot" "__len__")) = true),
  fun K => decide (PySem.W.nsIn K mainGlobals "Store" = some (some (.ref (He.ga K "Store")))),
  fun K => decide (PySem.W.plainGet K (He.ga K "Store") Str.empty = true),
  fun K => decide (PySem.W.hasDictIn K (He.ga K "Store") = true),
  fun K => decide (PySem.W.plainOver K (He.ga K "Store") = true),
  fun K => decide (PySem.W.findIn K (.ref (He.ga K "Store")) "__setattr__" = some (some (.builtin "object.__setattr__"))),
  fun K => decide (PySem.W.makesIn K (He.ga K "Store") = true),
  fun K => decide (PySem.W.keepIn K (.ref (He.ga K "Store")) = true),
  fun K => decide (PySem.W.findIn K (.ref (He.ga K "Store")) "__class__" = some (some (.builtin "object.__class__"))),
  fun K => decide (PySem.W.findIn K (.ref (He.ga K "Store")) "_runs" = some none),
  fun K => decide (PySem.W.findIn K (.ref (He.ga K "Store")) "__init__" = some (some (.ref (mP K "Store" "__init__")))),
  fun K => decide (PySem.W.isFn K (.ref (mP K "Store" "__init__")) = true)]
def ck14 : List (PySem.W.Frag → Bool) := [
  fun K => decide (PySem.W.keepIn K (.ref (mP K "Store" "__init__")) = true),
  fun K => decide (PySem.W.findIn K (.ref (He.ga K "Store")) "number" = some (some (.ref (mP K "Store" "number")))),
  fun K => decide (PySem.W.specialIn K (.ref (mP K "Store" "number")) "__get__" = some (some (.builtin "property.__get__"))),
  fun K => decide (PySem.W.takesIn K (.ref (mP K "Store" "number")) = some true),
  fun K => recB (PySem.W.recIn K (mP K "Store" "number") "property"),
  fun K => decide (PySem.W.keepIn K (.ref (gP K "Store" "number")) = true),
  fun K => decide (PySem.W.findIn K (.ref (He.ga K "Store")) "rooms" = some (some (.ref (mP K "Store" "rooms")))),
  fun K => decide (PySem.W.specialIn K (.ref (mP K "Store" "rooms")) "__get__" = some (some (.builtin "property.__get__"))),
  fun K => decide (PySem.W.takesIn K (.ref (mP K "Store" "rooms")) = some true),
  fun K => recB (PySem.W.recIn K (mP K "Store" "rooms") "property"),
  fun K => decide (PySem.W.keepIn K (.ref (gP K "Store" "rooms")) = true),
  fun K => decide (PySem.W.findIn K (.ref (He.ga K "Store")) "units" = some (some (.ref (mP K "Store" "units"))))]
def ck15 : List (PySem.W.Frag → Bool) := [
  fun K => decide (PySem.W.isFn K (.ref (mP K "Store" "units")) = true),
  fun K => decide (PySem.W.fnIn K (mP K "Store" "units") = true),
  fun K => decide (PySem.W.keepIn K (.ref (mP K "Store" "units")) = true),
  fun K => decide (PySem.W.findIn K (.ref (He.ga K "Store")) "part" = some (some (.ref (mP K "Store" "part")))),
  fun K => decide (PySem.W.isFn K (.ref (mP K "Store" "part")) = true),
  fun K => decide (PySem.W.fnIn K (mP K "Store" "part") = true),
  fun K => decide (PySem.W.keepIn K (.ref (mP K "Store" "part")) = true),
  fun K => decide (PySem.W.findIn K (.ref (He.ga K "Store")) "backward" = some (some (.ref (mP K "Store" "backward")))),
  fun K => decide (PySem.W.isFn K (.ref (mP K "Store" "backward")) = true),
  fun K => decide (PySem.W.fnIn K (mP K "Store" "backward") = true),
  fun K => decide (PySem.W.keepIn K (.ref (mP K "Store" "backward")) = true),
  fun K => decide (PySem.W.findIn K (.ref (He.ga K "Store")) "ascending" = some (some (.ref (mP K "Store" "ascending"))))]
def ck16 : List (PySem.W.Frag → Bool) := [
  fun K => decide (PySem.W.isFn K (.ref (mP K "Store" "ascending")) = true),
  fun K => decide (PySem.W.fnIn K (mP K "Store" "ascending") = true),
  fun K => decide (PySem.W.keepIn K (.ref (mP K "Store" "ascending")) = true),
  fun K => decide (PySem.W.findIn K (.ref (He.ga K "Store")) "capped" = some (some (.ref (mP K "Store" "capped")))),
  fun K => decide (PySem.W.isFn K (.ref (mP K "Store" "capped")) = true),
  fun K => decide (PySem.W.fnIn K (mP K "Store" "capped") = true),
  fun K => decide (PySem.W.keepIn K (.ref (mP K "Store" "capped")) = true)]
def chks : Chks := ck0 :: ck1 :: ck2 :: ck3 :: ck4 :: ck5 :: ck6 :: ck7 :: ck8 :: ck9 :: ck10 :: ck11 :: ck12 :: ck13 :: ck14 :: ck15 :: ck16 :: []
def tfl : List He.Defn := []
def asl : List Addr := List.range 1239
def nms0 : List Str := ["_wall", "MAX_FIGURES", "is_integer", "is_count", "is_size", "PackError", "InvalidLot", "InvalidStore", "InvalidOperation", "NoRoom", "InvalidNumber", "TooMany", "NoChain", "check_size", "check_between", "is_run"]
def nms1 : List Str := ["number_of_all", "units_of", "joined_runs", "part_of_runs", "first_gap", "MAX_SIZES", "check_lot", "_are_counts", "Lot", "MAX_RUNS", "check_store", "_check_many", "Store", "check_together", "_check", "levels_of"]
def nms2 : List Str := ["fits", "barring_sizes", "_rounded_up", "fewest_rooms", "fewest_for", "least_room", "_check_fit", "_numbers", "_rooms_with", "fewest_of", "_caps", "_least_units", "least_cap", "_law_dice", "_law_roll", "_law_pick"]
def nms3 : List Str := ["_law_mixed", "_law_great", "_law_long_chain", "_law_great_lot", "_law_great_store", "_law_made_lot", "_law_made_store", "_law_alike_right", "_law_store_right"]
def nms : List Str := nms0 ++ nms1 ++ nms2 ++ nms3
abbrev R : PySem.W.OpenRow := PySem.W.OpenLaw.row PySem.Challenge.rw_chainpacks_k53_whole_fewest_go_together
abbrev hk : PySem.W.Hook := hookC asl chks fnl tfl
def ob (s : PySem.W.SharedT) : AlC := obsC asl chks fnl tfl (HandSHeadRun.getT s)
theorem run (w : World) : HandSHeadRun.RunEq R (PySem.W.view R.prog [67]) hk ob 15950 nms w := by
  intro os
  kernel_rfl
theorem all_mk {P : Program} {w : World} {K : PySem.W.Frag} {h : Heap} {mg : Str → Option Value} {fa : Addr} (X : K.In h) (G : h.Ns mainGlobals mg) (hfa : mg "law" = some (.ref fa)) (S : SaysC chks fnl tfl h K)
    : ∃ fd : FuncData, (∀ (s : Shared) (v : Value), BindsTo s fd ⟨[v], []⟩ [("script", v)]) ∧ ∀ base : Heap, K.In base → base.Ns mainGlobals mg → NoSm base → FnG P w K mg base CX0 14 fa fd ["script"] (spLaw K) := by
  have a0 : PySem.W.nsIn K mainGlobals "is_integer" = some (some (.ref (He.ga K "is_integer"))) := of_decide_eq_true (S.at_ 0 0 rfl rfl)
  have k0 : PySem.W.keepIn K (.ref (He.ga K "is_integer")) = true := of_decide_eq_true (S.at_ 0 1 rfl rfl)
  obtain ⟨oc0, od0, kV0, dc0, pm0, an0, cd0, ct0, sl0, l0, c0⟩ := S.f0 0 (d := fe0) rfl rfl
  have a1 : PySem.W.nsIn K mainGlobals "is_count" = some (some (.ref (He.ga K "is_count"))) := of_decide_eq_true (S.at_ 0 2 rfl rfl)
  have k1 : PySem.W.keepIn K (.ref (He.ga K "is_count")) = true := of_decide_eq_true (S.at_ 0 3 rfl rfl)
  obtain ⟨oc1, od1, kV1, dc1, pm1, an1, cd1, ct1, sl1, l1, c1⟩ := S.f0 1 (d := fe1) rfl rfl
  have a2 : PySem.W.nsIn K mainGlobals "is_size" = some (some (.ref (He.ga K "is_size"))) := of_decide_eq_true (S.at_ 0 4 rfl rfl)
  have k2 : PySem.W.keepIn K (.ref (He.ga K "is_size")) = true := of_decide_eq_true (S.at_ 0 5 rfl rfl)
  obtain ⟨oc2, od2, kV2, dc2, pm2, an2, cd2, ct2, sl2, l2, c2⟩ := S.f0 2 (d := fe2) rfl rfl
  have a3 : PySem.W.nsIn K mainGlobals "check_size" = some (some (.ref (He.ga K "check_size"))) := of_decide_eq_true (S.at_ 0 6 rfl rfl)
  have k3 : PySem.W.keepIn K (.ref (He.ga K "check_size")) = true := of_decide_eq_true (S.at_ 0 7 rfl rfl)
  obtain ⟨oc3, od3, kV3, dc3, pm3, an3, cd3, ct3, sl3, l3, c3⟩ := S.f0 3 (d := fe3) rfl rfl
  have a4 : PySem.W.nsIn K mainGlobals "check_between" = some (some (.ref (He.ga K "check_between"))) := of_decide_eq_true (S.at_ 0 8 rfl rfl)
  have k4 : PySem.W.keepIn K (.ref (He.ga K "check_between")) = true := of_decide_eq_true (S.at_ 0 9 rfl rfl)
  obtain ⟨oc4, od4, kV4, dc4, pm4, an4, cd4, ct4, sl4, l4, c4⟩ := S.f0 4 (d := fe4) rfl rfl
  have a5 : PySem.W.nsIn K mainGlobals "is_run" = some (some (.ref (He.ga K "is_run"))) := of_decide_eq_true (S.at_ 0 10 rfl rfl)
  have k5 : PySem.W.keepIn K (.ref (He.ga K "is_run")) = true := of_decide_eq_true (S.at_ 0 11 rfl rfl)
  obtain ⟨oc5, od5, kV5, dc5, pm5, an5, cd5, ct5, sl5, l5, c5⟩ := S.f0 5 (d := fe5) rfl rfl
  have a6 : PySem.W.nsIn K mainGlobals "number_of_all" = some (some (.ref (He.ga K "number_of_all"))) := of_decide_eq_true (S.at_ 1 0 rfl rfl)
  have k6 : PySem.W.keepIn K (.ref (He.ga K "number_of_all")) = true := of_decide_eq_true (S.at_ 1 1 rfl rfl)
  obtain ⟨oc6, od6, kV6, dc6, pm6, an6, cd6, ct6, sl6, l6, c6⟩ := S.f0 6 (d := fe6) rfl rfl
  have a7 : PySem.W.nsIn K mainGlobals "units_of" = some (some (.ref (He.ga K "units_of"))) := of_decide_eq_true (S.at_ 1 2 rfl rfl)
  have k7 : PySem.W.keepIn K (.ref (He.ga K "units_of")) = true := of_decide_eq_true (S.at_ 1 3 rfl rfl)
  obtain ⟨oc7, od7, kV7, dc7, pm7, an7, cd7, ct7, sl7, l7, c7⟩ := S.f0 7 (d := fe7) rfl rfl
  have a8 : PySem.W.nsIn K mainGlobals "joined_runs" = some (some (.ref (He.ga K "joined_runs"))) := of_decide_eq_true (S.at_ 1 4 rfl rfl)
  have k8 : PySem.W.keepIn K (.ref (He.ga K "joined_runs")) = true := of_decide_eq_true (S.at_ 1 5 rfl rfl)
  obtain ⟨oc8, od8, kV8, dc8, pm8, an8, cd8, ct8, sl8, l8, c8⟩ := S.f0 8 (d := fe8) rfl rfl
  have a9 : PySem.W.nsIn K mainGlobals "part_of_runs" = some (some (.ref (He.ga K "part_of_runs"))) := of_decide_eq_true (S.at_ 1 6 rfl rfl)
  have k9 : PySem.W.keepIn K (.ref (He.ga K "part_of_runs")) = true := of_decide_eq_true (S.at_ 1 7 rfl rfl)
  obtain ⟨oc9, od9, kV9, dc9, pm9, an9, cd9, ct9, sl9, l9, c9⟩ := S.f0 9 (d := fe9) rfl rfl
  have a10 : PySem.W.nsIn K mainGlobals "first_gap" = some (some (.ref (He.ga K "first_gap"))) := of_decide_eq_true (S.at_ 1 8 rfl rfl)
  have k10 : PySem.W.keepIn K (.ref (He.ga K "first_gap")) = true := of_decide_eq_true (S.at_ 1 9 rfl rfl)
  obtain ⟨oc10, od10, kV10, dc10, pm10, an10, cd10, ct10, sl10, l10, c10⟩ := S.f0 10 (d := fe10) rfl rfl
  have a11 : PySem.W.nsIn K mainGlobals "check_lot" = some (some (.ref (He.ga K "check_lot"))) := of_decide_eq_true (S.at_ 1 10 rfl rfl)
  have k11 : PySem.W.keepIn K (.ref (He.ga K "check_lot")) = true := of_decide_eq_true (S.at_ 1 11 rfl rfl)
  obtain ⟨oc11, od11, kV11, dc11, pm11, an11, cd11, ct11, sl11, l11, c11⟩ := S.f0 11 (d := fe11) rfl rfl
  have a12 : PySem.W.nsIn K mainGlobals "_are_counts" = some (some (.ref (He.ga K "_are_counts"))) := of_decide_eq_true (S.at_ 2 0 rfl rfl)
  have k12 : PySem.W.keepIn K (.ref (He.ga K "_are_counts")) = true := of_decide_eq_true (S.at_ 2 1 rfl rfl)
  obtain ⟨oc12, od12, kV12, dc12, pm12, an12, cd12, ct12, sl12, l12, c12⟩ := S.f0 12 (d := fe12) rfl rfl
  have a13 : PySem.W.nsIn K mainGlobals "check_store" = some (some (.ref (He.ga K "check_store"))) := of_decide_eq_true (S.at_ 2 2 rfl rfl)
  have k13 : PySem.W.keepIn K (.ref (He.ga K "check_store")) = true := of_decide_eq_true (S.at_ 2 3 rfl rfl)
  obtain ⟨oc13, od13, kV13, dc13, pm13, an13, cd13, ct13, sl13, l13, c13⟩ := S.f0 13 (d := fe13) rfl rfl
  have a14 : PySem.W.nsIn K mainGlobals "check_together" = some (some (.ref (He.ga K "check_together"))) := of_decide_eq_true (S.at_ 2 4 rfl rfl)
  have k14 : PySem.W.keepIn K (.ref (He.ga K "check_together")) = true := of_decide_eq_true (S.at_ 2 5 rfl rfl)
  obtain ⟨oc14, od14, kV14, dc14, pm14, an14, cd14, ct14, sl14, l14, c14⟩ := S.f0 14 (d := fe14) rfl rfl
  have a15 : PySem.W.nsIn K mainGlobals "_check" = some (some (.ref (He.ga K "_check"))) := of_decide_eq_true (S.at_ 2 6 rfl rfl)
  have k15 : PySem.W.keepIn K (.ref (He.ga K "_check")) = true := of_decide_eq_true (S.at_ 2 7 rfl rfl)
  obtain ⟨oc15, od15, kV15, dc15, pm15, an15, cd15, ct15, sl15, l15, c15⟩ := S.f0 15 (d := fe15) rfl rfl
  have a16 : PySem.W.nsIn K mainGlobals "levels_of" = some (some (.ref (He.ga K "levels_of"))) := of_decide_eq_true (S.at_ 2 8 rfl rfl)
  have k16 : PySem.W.keepIn K (.ref (He.ga K "levels_of")) = true := of_decide_eq_true (S.at_ 2 9 rfl rfl)
  obtain ⟨oc16, od16, kV16, dc16, pm16, an16, cd16, ct16, sl16, l16, c16⟩ := S.f0 16 (d := fe16) rfl rfl
  have a17 : PySem.W.nsIn K mainGlobals "fits" = some (some (.ref (He.ga K "fits"))) := of_decide_eq_true (S.at_ 2 10 rfl rfl)
  have k17 : PySem.W.keepIn K (.ref (He.ga K "fits")) = true := of_decide_eq_true (S.at_ 2 11 rfl rfl)
  obtain ⟨oc17, od17, kV17, dc17, pm17, an17, cd17, ct17, sl17, l17, c17⟩ := S.f0 17 (d := fe17) rfl rfl
  have a18 : PySem.W.nsIn K mainGlobals "barring_sizes" = some (some (.ref (He.ga K "barring_sizes"))) := of_decide_eq_true (S.at_ 3 0 rfl rfl)
  have k18 : PySem.W.keepIn K (.ref (He.ga K "barring_sizes")) = true := of_decide_eq_true (S.at_ 3 1 rfl rfl)
  obtain ⟨oc18, od18, kV18, dc18, pm18, an18, cd18, ct18, sl18, l18, c18⟩ := S.f0 18 (d := fe18) rfl rfl
  have a19 : PySem.W.nsIn K mainGlobals "_rounded_up" = some (some (.ref (He.ga K "_rounded_up"))) := of_decide_eq_true (S.at_ 3 2 rfl rfl)
  have k19 : PySem.W.keepIn K (.ref (He.ga K "_rounded_up")) = true := of_decide_eq_true (S.at_ 3 3 rfl rfl)
  obtain ⟨oc19, od19, kV19, dc19, pm19, an19, cd19, ct19, sl19, l19, c19⟩ := S.f0 19 (d := fe19) rfl rfl
  have a20 : PySem.W.nsIn K mainGlobals "fewest_rooms" = some (some (.ref (He.ga K "fewest_rooms"))) := of_decide_eq_true (S.at_ 3 4 rfl rfl)
  have k20 : PySem.W.keepIn K (.ref (He.ga K "fewest_rooms")) = true := of_decide_eq_true (S.at_ 3 5 rfl rfl)
  obtain ⟨oc20, od20, kV20, dc20, pm20, an20, cd20, ct20, sl20, l20, c20⟩ := S.f0 20 (d := fe20) rfl rfl
  have a21 : PySem.W.nsIn K mainGlobals "fewest_for" = some (some (.ref (He.ga K "fewest_for"))) := of_decide_eq_true (S.at_ 3 6 rfl rfl)
  have k21 : PySem.W.keepIn K (.ref (He.ga K "fewest_for")) = true := of_decide_eq_true (S.at_ 3 7 rfl rfl)
  obtain ⟨oc21, od21, kV21, dc21, pm21, an21, cd21, ct21, sl21, l21, c21⟩ := S.f0 21 (d := fe21) rfl rfl
  have a22 : PySem.W.nsIn K mainGlobals "least_room" = some (some (.ref (He.ga K "least_room"))) := of_decide_eq_true (S.at_ 3 8 rfl rfl)
  have k22 : PySem.W.keepIn K (.ref (He.ga K "least_room")) = true := of_decide_eq_true (S.at_ 3 9 rfl rfl)
  obtain ⟨oc22, od22, kV22, dc22, pm22, an22, cd22, ct22, sl22, l22, c22⟩ := S.f0 22 (d := fe22) rfl rfl
  have a23 : PySem.W.nsIn K mainGlobals "_check_fit" = some (some (.ref (He.ga K "_check_fit"))) := of_decide_eq_true (S.at_ 3 10 rfl rfl)
  have k23 : PySem.W.keepIn K (.ref (He.ga K "_check_fit")) = true := of_decide_eq_true (S.at_ 3 11 rfl rfl)
  obtain ⟨oc23, od23, kV23, dc23, pm23, an23, cd23, ct23, sl23, l23, c23⟩ := S.f0 23 (d := fe23) rfl rfl
  have a24 : PySem.W.nsIn K mainGlobals "_numbers" = some (some (.ref (He.ga K "_numbers"))) := of_decide_eq_true (S.at_ 4 0 rfl rfl)
  have k24 : PySem.W.keepIn K (.ref (He.ga K "_numbers")) = true := of_decide_eq_true (S.at_ 4 1 rfl rfl)
  obtain ⟨oc24, od24, kV24, dc24, pm24, an24, cd24, ct24, sl24, l24, c24⟩ := S.f0 24 (d := fe24) rfl rfl
  have a25 : PySem.W.nsIn K mainGlobals "_rooms_with" = some (some (.ref (He.ga K "_rooms_with"))) := of_decide_eq_true (S.at_ 4 2 rfl rfl)
  have k25 : PySem.W.keepIn K (.ref (He.ga K "_rooms_with")) = true := of_decide_eq_true (S.at_ 4 3 rfl rfl)
  obtain ⟨oc25, od25, kV25, dc25, pm25, an25, cd25, ct25, sl25, l25, c25⟩ := S.f0 25 (d := fe25) rfl rfl
  have a26 : PySem.W.nsIn K mainGlobals "fewest_of" = some (some (.ref (He.ga K "fewest_of"))) := of_decide_eq_true (S.at_ 4 4 rfl rfl)
  have k26 : PySem.W.keepIn K (.ref (He.ga K "fewest_of")) = true := of_decide_eq_true (S.at_ 4 5 rfl rfl)
  obtain ⟨oc26, od26, kV26, dc26, pm26, an26, cd26, ct26, sl26, l26, c26⟩ := S.f0 26 (d := fe26) rfl rfl
  have a27 : PySem.W.nsIn K mainGlobals "_caps" = some (some (.ref (He.ga K "_caps"))) := of_decide_eq_true (S.at_ 4 6 rfl rfl)
  have k27 : PySem.W.keepIn K (.ref (He.ga K "_caps")) = true := of_decide_eq_true (S.at_ 4 7 rfl rfl)
  obtain ⟨oc27, od27, kV27, dc27, pm27, an27, cd27, ct27, sl27, l27, c27⟩ := S.f0 27 (d := fe27) rfl rfl
  have a28 : PySem.W.nsIn K mainGlobals "_least_units" = some (some (.ref (He.ga K "_least_units"))) := of_decide_eq_true (S.at_ 4 8 rfl rfl)
  have k28 : PySem.W.keepIn K (.ref (He.ga K "_least_units")) = true := of_decide_eq_true (S.at_ 4 9 rfl rfl)
  obtain ⟨oc28, od28, kV28, dc28, pm28, an28, cd28, ct28, sl28, l28, c28⟩ := S.f0 28 (d := fe28) rfl rfl
  have a29 : PySem.W.nsIn K mainGlobals "least_cap" = some (some (.ref (He.ga K "least_cap"))) := of_decide_eq_true (S.at_ 4 10 rfl rfl)
  have k29 : PySem.W.keepIn K (.ref (He.ga K "least_cap")) = true := of_decide_eq_true (S.at_ 4 11 rfl rfl)
  obtain ⟨oc29, od29, kV29, dc29, pm29, an29, cd29, ct29, sl29, l29, c29⟩ := S.f0 29 (d := fe29) rfl rfl
  have a30 : PySem.W.nsIn K mainGlobals "_law_dice" = some (some (.ref (He.ga K "_law_dice"))) := of_decide_eq_true (S.at_ 5 0 rfl rfl)
  have k30 : PySem.W.keepIn K (.ref (He.ga K "_law_dice")) = true := of_decide_eq_true (S.at_ 5 1 rfl rfl)
  obtain ⟨oc30, od30, kV30, dc30, pm30, an30, cd30, ct30, sl30, l30, c30⟩ := S.f0 30 (d := fe30) rfl rfl
  have a31 : PySem.W.nsIn K mainGlobals "_law_roll" = some (some (.ref (He.ga K "_law_roll"))) := of_decide_eq_true (S.at_ 5 2 rfl rfl)
  have k31 : PySem.W.keepIn K (.ref (He.ga K "_law_roll")) = true := of_decide_eq_true (S.at_ 5 3 rfl rfl)
  obtain ⟨oc31, od31, kV31, dc31, pm31, an31, cd31, ct31, sl31, l31, c31⟩ := S.f0 31 (d := fe31) rfl rfl
  have a32 : PySem.W.nsIn K mainGlobals "_law_pick" = some (some (.ref (He.ga K "_law_pick"))) := of_decide_eq_true (S.at_ 5 4 rfl rfl)
  have k32 : PySem.W.keepIn K (.ref (He.ga K "_law_pick")) = true := of_decide_eq_true (S.at_ 5 5 rfl rfl)
  obtain ⟨oc32, od32, kV32, dc32, pm32, an32, cd32, ct32, sl32, l32, c32⟩ := S.f0 32 (d := fe32) rfl rfl
  have a33 : PySem.W.nsIn K mainGlobals "_law_mixed" = some (some (.ref (He.ga K "_law_mixed"))) := of_decide_eq_true (S.at_ 5 6 rfl rfl)
  have k33 : PySem.W.keepIn K (.ref (He.ga K "_law_mixed")) = true := of_decide_eq_true (S.at_ 5 7 rfl rfl)
  obtain ⟨oc33, od33, kV33, dc33, pm33, an33, cd33, ct33, sl33, l33, c33⟩ := S.f0 33 (d := fe33) rfl rfl
  have a34 : PySem.W.nsIn K mainGlobals "_law_great" = some (some (.ref (He.ga K "_law_great"))) := of_decide_eq_true (S.at_ 5 8 rfl rfl)
  have k34 : PySem.W.keepIn K (.ref (He.ga K "_law_great")) = true := of_decide_eq_true (S.at_ 5 9 rfl rfl)
  obtain ⟨oc34, od34, kV34, dc34, pm34, an34, cd34, ct34, sl34, l34, c34⟩ := S.f0 34 (d := fe34) rfl rfl
  have a35 : PySem.W.nsIn K mainGlobals "_law_long_chain" = some (some (.ref (He.ga K "_law_long_chain"))) := of_decide_eq_true (S.at_ 5 10 rfl rfl)
  have k35 : PySem.W.keepIn K (.ref (He.ga K "_law_long_chain")) = true := of_decide_eq_true (S.at_ 5 11 rfl rfl)
  obtain ⟨oc35, od35, kV35, dc35, pm35, an35, cd35, ct35, sl35, l35, c35⟩ := S.f0 35 (d := fe35) rfl rfl
  have a36 : PySem.W.nsIn K mainGlobals "_law_great_lot" = some (some (.ref (He.ga K "_law_great_lot"))) := of_decide_eq_true (S.at_ 6 0 rfl rfl)
  have k36 : PySem.W.keepIn K (.ref (He.ga K "_law_great_lot")) = true := of_decide_eq_true (S.at_ 6 1 rfl rfl)
  obtain ⟨oc36, od36, kV36, dc36, pm36, an36, cd36, ct36, sl36, l36, c36⟩ := S.f0 36 (d := fe36) rfl rfl
  have a37 : PySem.W.nsIn K mainGlobals "_law_great_store" = some (some (.ref (He.ga K "_law_great_store"))) := of_decide_eq_true (S.at_ 6 2 rfl rfl)
  have k37 : PySem.W.keepIn K (.ref (He.ga K "_law_great_store")) = true := of_decide_eq_true (S.at_ 6 3 rfl rfl)
  obtain ⟨oc37, od37, kV37, dc37, pm37, an37, cd37, ct37, sl37, l37, c37⟩ := S.f0 37 (d := fe37) rfl rfl
  have a38 : PySem.W.nsIn K mainGlobals "_law_made_lot" = some (some (.ref (He.ga K "_law_made_lot"))) := of_decide_eq_true (S.at_ 6 4 rfl rfl)
  have k38 : PySem.W.keepIn K (.ref (He.ga K "_law_made_lot")) = true := of_decide_eq_true (S.at_ 6 5 rfl rfl)
  obtain ⟨oc38, od38, kV38, dc38, pm38, an38, cd38, ct38, sl38, l38, c38⟩ := S.f0 38 (d := fe38) rfl rfl
  have a39 : PySem.W.nsIn K mainGlobals "_law_made_store" = some (some (.ref (He.ga K "_law_made_store"))) := of_decide_eq_true (S.at_ 6 6 rfl rfl)
  have k39 : PySem.W.keepIn K (.ref (He.ga K "_law_made_store")) = true := of_decide_eq_true (S.at_ 6 7 rfl rfl)
  obtain ⟨oc39, od39, kV39, dc39, pm39, an39, cd39, ct39, sl39, l39, c39⟩ := S.f0 39 (d := fe39) rfl rfl
  have a40 : PySem.W.nsIn K mainGlobals "_law_alike_right" = some (some (.ref (He.ga K "_law_alike_right"))) := of_decide_eq_true (S.at_ 6 8 rfl rfl)
  have k40 : PySem.W.keepIn K (.ref (He.ga K "_law_alike_right")) = true := of_decide_eq_true (S.at_ 6 9 rfl rfl)
  obtain ⟨oc40, od40, kV40, dc40, pm40, an40, cd40, ct40, sl40, l40, c40⟩ := S.f0 40 (d := fe40) rfl rfl
  have a41 : PySem.W.nsIn K mainGlobals "_law_store_right" = some (some (.ref (He.ga K "_law_store_right"))) := of_decide_eq_true (S.at_ 6 10 rfl rfl)
  have k41 : PySem.W.keepIn K (.ref (He.ga K "_law_store_right")) = true := of_decide_eq_true (S.at_ 6 11 rfl rfl)
  obtain ⟨oc41, od41, kV41, dc41, pm41, an41, cd41, ct41, sl41, l41, c41⟩ := S.f0 41 (d := fe41) rfl rfl
  have a42 : PySem.W.nsIn K mainGlobals "law" = some (some (.ref (He.ga K "law"))) := of_decide_eq_true (S.at_ 7 0 rfl rfl)
  have k42 : PySem.W.keepIn K (.ref (He.ga K "law")) = true := of_decide_eq_true (S.at_ 7 1 rfl rfl)
  obtain ⟨oc42, od42, kV42, dc42, pm42, an42, cd42, ct42, sl42, l42, c42⟩ := S.f0 42 (d := fe42) rfl rfl
  have z_abs : PySem.W.nsIn K mainGlobals "abs" = some none := of_decide_eq_true (S.at_ 7 2 rfl rfl)
  have z_all : PySem.W.nsIn K mainGlobals "all" = some none := of_decide_eq_true (S.at_ 7 3 rfl rfl)
  have z_any : PySem.W.nsIn K mainGlobals "any" = some none := of_decide_eq_true (S.at_ 7 4 rfl rfl)
  have z_bool : PySem.W.nsIn K mainGlobals "bool" = some none := of_decide_eq_true (S.at_ 7 5 rfl rfl)
  have z_dict : PySem.W.nsIn K mainGlobals "dict" = some none := of_decide_eq_true (S.at_ 7 6 rfl rfl)
  have z_int : PySem.W.nsIn K mainGlobals "int" = some none := of_decide_eq_true (S.at_ 7 7 rfl rfl)
  have z_isinstance : PySem.W.nsIn K mainGlobals "isinstance" = some none := of_decide_eq_true (S.at_ 7 8 rfl rfl)
  have z_len : PySem.W.nsIn K mainGlobals "len" = some none := of_decide_eq_true (S.at_ 7 9 rfl rfl)
  have z_list : PySem.W.nsIn K mainGlobals "list" = some none := of_decide_eq_true (S.at_ 7 10 rfl rfl)
  have z_max : PySem.W.nsIn K mainGlobals "max" = some none := of_decide_eq_true (S.at_ 7 11 rfl rfl)
  have z_min : PySem.W.nsIn K mainGlobals "min" = some none := of_decide_eq_true (S.at_ 8 0 rfl rfl)
  have z_range : PySem.W.nsIn K mainGlobals "range" = some none := of_decide_eq_true (S.at_ 8 1 rfl rfl)
  have z_set : PySem.W.nsIn K mainGlobals "set" = some none := of_decide_eq_true (S.at_ 8 2 rfl rfl)
  have z_sorted : PySem.W.nsIn K mainGlobals "sorted" = some none := of_decide_eq_true (S.at_ 8 3 rfl rfl)
  have z_str : PySem.W.nsIn K mainGlobals "str" = some none := of_decide_eq_true (S.at_ 8 4 rfl rfl)
  have z_sum : PySem.W.nsIn K mainGlobals "sum" = some none := of_decide_eq_true (S.at_ 8 5 rfl rfl)
  have z_tuple : PySem.W.nsIn K mainGlobals "tuple" = some none := of_decide_eq_true (S.at_ 8 6 rfl rfl)
  have z_zip : PySem.W.nsIn K mainGlobals "zip" = some none := of_decide_eq_true (S.at_ 8 7 rfl rfl)
  obtain ⟨t_MAX_FIGURES, q_MAX_FIGURES⟩ := hdInt_of (S.at_ 8 8 rfl rfl)
  obtain ⟨t_MAX_RUNS, q_MAX_RUNS⟩ := hdInt_of (S.at_ 8 9 rfl rfl)
  obtain ⟨t_MAX_SIZES, q_MAX_SIZES⟩ := hdInt_of (S.at_ 8 10 rfl rfl)
  have e_n : PySem.W.specialIn K (.builtin "object.__class__") "__get__" = some (some (.builtin "getset_descriptor.__get__")) := of_decide_eq_true (S.at_ 8 11 rfl rfl)
  have e_t : PySem.W.takesIn K (.builtin "object.__class__") = some true := of_decide_eq_true (S.at_ 9 0 rfl rfl)
  have a_Lot : PySem.W.nsIn K mainGlobals "Lot" = some (some (.ref (He.ga K "Lot"))) := of_decide_eq_true (S.at_ 9 1 rfl rfl)
  have pg_Lot : PySem.W.plainGet K (He.ga K "Lot") Str.empty = true := of_decide_eq_true (S.at_ 9 2 rfl rfl)
  have hd_Lot : PySem.W.hasDictIn K (He.ga K "Lot") = true := of_decide_eq_true (S.at_ 9 3 rfl rfl)
  have po_Lot : PySem.W.plainOver K (He.ga K "Lot") = true := of_decide_eq_true (S.at_ 9 4 rfl rfl)
  have sa_Lot : PySem.W.findIn K (.ref (He.ga K "Lot")) "__setattr__" = some (some (.builtin "object.__setattr__")) := of_decide_eq_true (S.at_ 9 5 rfl rfl)
  have mk_Lot : PySem.W.makesIn K (He.ga K "Lot") = true := of_decide_eq_true (S.at_ 9 6 rfl rfl)
  have kp_Lot : PySem.W.keepIn K (.ref (He.ga K "Lot")) = true := of_decide_eq_true (S.at_ 9 7 rfl rfl)
  have ha_Lot : PySem.W.findIn K (.ref (He.ga K "Lot")) "__class__" = some (some (.builtin "object.__class__")) := of_decide_eq_true (S.at_ 9 8 rfl rfl)
  have n0_Lot : PySem.W.findIn K (.ref (He.ga K "Lot")) "_sizes" = some none := of_decide_eq_true (S.at_ 9 9 rfl rfl)
  have n1_Lot : PySem.W.findIn K (.ref (He.ga K "Lot")) "_pairs" = some none := of_decide_eq_true (S.at_ 9 10 rfl rfl)
  have n2_Lot : PySem.W.findIn K (.ref (He.ga K "Lot")) "_counts" = some none := of_decide_eq_true (S.at_ 9 11 rfl rfl)
  have ksf_Lot : PySem.W.selfFirst K (He.ga K "Lot") = true := of_decide_eq_true (S.at_ 10 0 rfl rfl)
  have kttoint_Lot : PySem.W.subIn K (.ref (He.ga K "Lot")) (.type "int") = some false := of_decide_eq_true (S.at_ 10 1 rfl rfl)
  have ktofdict_Lot : PySem.W.subIn K (.type "dict") (.ref (He.ga K "Lot")) = some false := of_decide_eq_true (S.at_ 10 2 rfl rfl)
  have ktofint_Lot : PySem.W.subIn K (.type "int") (.ref (He.ga K "Lot")) = some false := of_decide_eq_true (S.at_ 10 3 rfl rfl)
  have ktofNoneType_Lot : PySem.W.subIn K (.type "NoneType") (.ref (He.ga K "Lot")) = some false := of_decide_eq_true (S.at_ 10 4 rfl rfl)
  have kic_Lot : PySem.W.isClsIn K (He.ga K "Lot") = true := of_decide_eq_true (S.at_ 10 5 rfl rfl)
  have kty_Lot : PySem.W.typeIn K (.ref (He.ga K "Lot")) = some (.type "type") := of_decide_eq_true (S.at_ 10 6 rfl rfl)
  have fa_Lot_init : PySem.W.findIn K (.ref (He.ga K "Lot")) "__init__" = some (some (.ref (mP K "Lot" "__init__"))) := of_decide_eq_true (S.at_ 10 7 rfl rfl)
  have fi_Lot_init : PySem.W.isFn K (.ref (mP K "Lot" "__init__")) = true := of_decide_eq_true (S.at_ 10 8 rfl rfl)
  obtain ⟨T_Lot_init, ⟨oc_Lot_init, od_Lot_init, kV_Lot_init, dc_Lot_init, pm_Lot_init, an_Lot_init, cd_Lot_init, ct_Lot_init, sl_Lot_init, fl_Lot_init, fc_Lot_init⟩, oT_Lot_init, dT_Lot_init, nT_Lot_init, sT_Lot_init, ft_Lot_init⟩ := S.f1 43 (d := fe43) rfl rfl
  have fk_Lot_init : PySem.W.keepIn K (.ref (mP K "Lot" "__init__")) = true := of_decide_eq_true (S.at_ 10 9 rfl rfl)
  have pa_Lot_counts : PySem.W.findIn K (.ref (He.ga K "Lot")) "counts" = some (some (.ref (mP K "Lot" "counts"))) := of_decide_eq_true (S.at_ 10 10 rfl rfl)
  have pt_Lot_counts : PySem.W.specialIn K (.ref (mP K "Lot" "counts")) "__get__" = some (some (.builtin "property.__get__")) := of_decide_eq_true (S.at_ 10 11 rfl rfl)
  have pk_Lot_counts : PySem.W.takesIn K (.ref (mP K "Lot" "counts")) = some true := of_decide_eq_true (S.at_ 11 0 rfl rfl)
  obtain ⟨rs_Lot_counts, pr_Lot_counts⟩ := hdRec_ok (S.at_ 11 1 rfl rfl)
  obtain ⟨oc_Lot_counts, od_Lot_counts, kV_Lot_counts, dc_Lot_counts, pm_Lot_counts, an_Lot_counts, cd_Lot_counts, ct_Lot_counts, sl_Lot_counts, fl_Lot_counts, fc_Lot_counts⟩ := S.f0 44 (d := fe44) rfl rfl
  have fk_Lot_counts : PySem.W.keepIn K (.ref (gP K "Lot" "counts")) = true := of_decide_eq_true (S.at_ 11 2 rfl rfl)
  have pa_Lot_sizes : PySem.W.findIn K (.ref (He.ga K "Lot")) "sizes" = some (some (.ref (mP K "Lot" "sizes"))) := of_decide_eq_true (S.at_ 11 3 rfl rfl)
  have pt_Lot_sizes : PySem.W.specialIn K (.ref (mP K "Lot" "sizes")) "__get__" = some (some (.builtin "property.__get__")) := of_decide_eq_true (S.at_ 11 4 rfl rfl)
  have pk_Lot_sizes : PySem.W.takesIn K (.ref (mP K "Lot" "sizes")) = some true := of_decide_eq_true (S.at_ 11 5 rfl rfl)
  obtain ⟨rs_Lot_sizes, pr_Lot_sizes⟩ := hdRec_ok (S.at_ 11 6 rfl rfl)
  obtain ⟨oc_Lot_sizes, od_Lot_sizes, kV_Lot_sizes, dc_Lot_sizes, pm_Lot_sizes, an_Lot_sizes, cd_Lot_sizes, ct_Lot_sizes, sl_Lot_sizes, fl_Lot_sizes, fc_Lot_sizes⟩ := S.f0 45 (d := fe45) rfl rfl
  have fk_Lot_sizes : PySem.W.keepIn K (.ref (gP K "Lot" "sizes")) = true := of_decide_eq_true (S.at_ 11 7 rfl rfl)
  have pa_Lot_number : PySem.W.findIn K (.ref (He.ga K "Lot")) "number" = some (some (.ref (mP K "Lot" "number"))) := of_decide_eq_true (S.at_ 11 8 rfl rfl)
  have pt_Lot_number : PySem.W.specialIn K (.ref (mP K "Lot" "number")) "__get__" = some (some (.builtin "property.__get__")) := of_decide_eq_true (S.at_ 11 9 rfl rfl)
  have pk_Lot_number : PySem.W.takesIn K (.ref (mP K "Lot" "number")) = some true := of_decide_eq_true (S.at_ 11 10 rfl rfl)
  obtain ⟨rs_Lot_number, pr_Lot_number⟩ := hdRec_ok (S.at_ 11 11 rfl rfl)
  obtain ⟨oc_Lot_number, od_Lot_number, kV_Lot_number, dc_Lot_number, pm_Lot_number, an_Lot_number, cd_Lot_number, ct_Lot_number, sl_Lot_number, fl_Lot_number, fc_Lot_number⟩ := S.f0 46 (d := fe46) rfl rfl
  have fk_Lot_number : PySem.W.keepIn K (.ref (gP K "Lot" "number")) = true := of_decide_eq_true (S.at_ 12 0 rfl rfl)
  have fa_Lot_units : PySem.W.findIn K (.ref (He.ga K "Lot")) "units" = some (some (.ref (mP K "Lot" "units"))) := of_decide_eq_true (S.at_ 12 1 rfl rfl)
  have fi_Lot_units : PySem.W.isFn K (.ref (mP K "Lot" "units")) = true := of_decide_eq_true (S.at_ 12 2 rfl rfl)
  have ff_Lot_units : PySem.W.fnIn K (mP K "Lot" "units") = true := of_decide_eq_true (S.at_ 12 3 rfl rfl)
  obtain ⟨oc_Lot_units, od_Lot_units, kV_Lot_units, dc_Lot_units, pm_Lot_units, an_Lot_units, cd_Lot_units, ct_Lot_units, sl_Lot_units, fl_Lot_units, fc_Lot_units⟩ := S.f0 47 (d := fe47) rfl rfl
  have fk_Lot_units : PySem.W.keepIn K (.ref (mP K "Lot" "units")) = true := of_decide_eq_true (S.at_ 12 4 rfl rfl)
  have fa_Lot_add : PySem.W.findIn K (.ref (He.ga K "Lot")) "__add__" = some (some (.ref (mP K "Lot" "__add__"))) := of_decide_eq_true (S.at_ 12 5 rfl rfl)
  have fi_Lot_add : PySem.W.isFn K (.ref (mP K "Lot" "__add__")) = true := of_decide_eq_true (S.at_ 12 6 rfl rfl)
  have ff_Lot_add : PySem.W.fnIn K (mP K "Lot" "__add__") = true := of_decide_eq_true (S.at_ 12 7 rfl rfl)
  obtain ⟨oc_Lot_add, od_Lot_add, kV_Lot_add, dc_Lot_add, pm_Lot_add, an_Lot_add, cd_Lot_add, ct_Lot_add, sl_Lot_add, fl_Lot_add, fc_Lot_add⟩ := S.f0 48 (d := fe48) rfl rfl
  have fk_Lot_add : PySem.W.keepIn K (.ref (mP K "Lot" "__add__")) = true := of_decide_eq_true (S.at_ 12 8 rfl rfl)
  have fa_Lot_len : PySem.W.findIn K (.ref (He.ga K "Lot")) "__len__" = some (some (.ref (mP K "Lot" "__len__"))) := of_decide_eq_true (S.at_ 12 9 rfl rfl)
  have fi_Lot_len : PySem.W.isFn K (.ref (mP K "Lot" "__len__")) = true := of_decide_eq_true (S.at_ 12 10 rfl rfl)
  have ff_Lot_len : PySem.W.fnIn K (mP K "Lot" "__len__") = true := of_decide_eq_true (S.at_ 12 11 rfl rfl)
  obtain ⟨oc_Lot_len, od_Lot_len, kV_Lot_len, dc_Lot_len, pm_Lot_len, an_Lot_len, cd_Lot_len, ct_Lot_len, sl_Lot_len, fl_Lot_len, fc_Lot_len⟩ := S.f0 49 (d := fe49) rfl rfl
  have fk_Lot_len : PySem.W.keepIn K (.ref (mP K "Lot" "__len__")) = true := of_decide_eq_true (S.at_ 13 0 rfl rfl)
  have a_Store : PySem.W.nsIn K mainGlobals "Store" = some (some (.ref (He.ga K "Store"))) := of_decide_eq_true (S.at_ 13 1 rfl rfl)
  have pg_Store : PySem.W.plainGet K (He.ga K "Store") Str.empty = true := of_decide_eq_true (S.at_ 13 2 rfl rfl)
  have hd_Store : PySem.W.hasDictIn K (He.ga K "Store") = true := of_decide_eq_true (S.at_ 13 3 rfl rfl)
  have po_Store : PySem.W.plainOver K (He.ga K "Store") = true := of_decide_eq_true (S.at_ 13 4 rfl rfl)
  have sa_Store : PySem.W.findIn K (.ref (He.ga K "Store")) "__setattr__" = some (some (.builtin "object.__setattr__")) := of_decide_eq_true (S.at_ 13 5 rfl rfl)
  have mk_Store : PySem.W.makesIn K (He.ga K "Store") = true := of_decide_eq_true (S.at_ 13 6 rfl rfl)
  have kp_Store : PySem.W.keepIn K (.ref (He.ga K "Store")) = true := of_decide_eq_true (S.at_ 13 7 rfl rfl)
  have ha_Store : PySem.W.findIn K (.ref (He.ga K "Store")) "__class__" = some (some (.builtin "object.__class__")) := of_decide_eq_true (S.at_ 13 8 rfl rfl)
  have n0_Store : PySem.W.findIn K (.ref (He.ga K "Store")) "_runs" = some none := of_decide_eq_true (S.at_ 13 9 rfl rfl)
  have fa_Store_init : PySem.W.findIn K (.ref (He.ga K "Store")) "__init__" = some (some (.ref (mP K "Store" "__init__"))) := of_decide_eq_true (S.at_ 13 10 rfl rfl)
  have fi_Store_init : PySem.W.isFn K (.ref (mP K "Store" "__init__")) = true := of_decide_eq_true (S.at_ 13 11 rfl rfl)
  obtain ⟨oc_Store_init, od_Store_init, kV_Store_init, dc_Store_init, pm_Store_init, an_Store_init, cd_Store_init, ct_Store_init, sl_Store_init, fl_Store_init, fc_Store_init⟩ := S.f0 50 (d := fe50) rfl rfl
  have fk_Store_init : PySem.W.keepIn K (.ref (mP K "Store" "__init__")) = true := of_decide_eq_true (S.at_ 14 0 rfl rfl)
  have pa_Store_number : PySem.W.findIn K (.ref (He.ga K "Store")) "number" = some (some (.ref (mP K "Store" "number"))) := of_decide_eq_true (S.at_ 14 1 rfl rfl)
  have pt_Store_number : PySem.W.specialIn K (.ref (mP K "Store" "number")) "__get__" = some (some (.builtin "property.__get__")) := of_decide_eq_true (S.at_ 14 2 rfl rfl)
  have pk_Store_number : PySem.W.takesIn K (.ref (mP K "Store" "number")) = some true := of_decide_eq_true (S.at_ 14 3 rfl rfl)
  obtain ⟨rs_Store_number, pr_Store_number⟩ := hdRec_ok (S.at_ 14 4 rfl rfl)
  obtain ⟨oc_Store_number, od_Store_number, kV_Store_number, dc_Store_number, pm_Store_number, an_Store_number, cd_Store_number, ct_Store_number, sl_Store_number, fl_Store_number, fc_Store_number⟩ := S.f0 51 (d := fe51) rfl rfl
  have fk_Store_number : PySem.W.keepIn K (.ref (gP K "Store" "number")) = true := of_decide_eq_true (S.at_ 14 5 rfl rfl)
  have pa_Store_rooms : PySem.W.findIn K (.ref (He.ga K "Store")) "rooms" = some (some (.ref (mP K "Store" "rooms"))) := of_decide_eq_true (S.at_ 14 6 rfl rfl)
  have pt_Store_rooms : PySem.W.specialIn K (.ref (mP K "Store" "rooms")) "__get__" = some (some (.builtin "property.__get__")) := of_decide_eq_true (S.at_ 14 7 rfl rfl)
  have pk_Store_rooms : PySem.W.takesIn K (.ref (mP K "Store" "rooms")) = some true := of_decide_eq_true (S.at_ 14 8 rfl rfl)
  obtain ⟨rs_Store_rooms, pr_Store_rooms⟩ := hdRec_ok (S.at_ 14 9 rfl rfl)
  obtain ⟨oc_Store_rooms, od_Store_rooms, kV_Store_rooms, dc_Store_rooms, pm_Store_rooms, an_Store_rooms, cd_Store_rooms, ct_Store_rooms, sl_Store_rooms, fl_Store_rooms, fc_Store_rooms⟩ := S.f0 52 (d := fe52) rfl rfl
  have fk_Store_rooms : PySem.W.keepIn K (.ref (gP K "Store" "rooms")) = true := of_decide_eq_true (S.at_ 14 10 rfl rfl)
  have fa_Store_units : PySem.W.findIn K (.ref (He.ga K "Store")) "units" = some (some (.ref (mP K "Store" "units"))) := of_decide_eq_true (S.at_ 14 11 rfl rfl)
  have fi_Store_units : PySem.W.isFn K (.ref (mP K "Store" "units")) = true := of_decide_eq_true (S.at_ 15 0 rfl rfl)
  have ff_Store_units : PySem.W.fnIn K (mP K "Store" "units") = true := of_decide_eq_true (S.at_ 15 1 rfl rfl)
  obtain ⟨oc_Store_units, od_Store_units, kV_Store_units, dc_Store_units, pm_Store_units, an_Store_units, cd_Store_units, ct_Store_units, sl_Store_units, fl_Store_units, fc_Store_units⟩ := S.f0 53 (d := fe53) rfl rfl
  have fk_Store_units : PySem.W.keepIn K (.ref (mP K "Store" "units")) = true := of_decide_eq_true (S.at_ 15 2 rfl rfl)
  have fa_Store_part : PySem.W.findIn K (.ref (He.ga K "Store")) "part" = some (some (.ref (mP K "Store" "part"))) := of_decide_eq_true (S.at_ 15 3 rfl rfl)
  have fi_Store_part : PySem.W.isFn K (.ref (mP K "Store" "part")) = true := of_decide_eq_true (S.at_ 15 4 rfl rfl)
  have ff_Store_part : PySem.W.fnIn K (mP K "Store" "part") = true := of_decide_eq_true (S.at_ 15 5 rfl rfl)
  obtain ⟨oc_Store_part, od_Store_part, kV_Store_part, dc_Store_part, pm_Store_part, an_Store_part, cd_Store_part, ct_Store_part, sl_Store_part, fl_Store_part, fc_Store_part⟩ := S.f0 54 (d := fe54) rfl rfl
  have fk_Store_part : PySem.W.keepIn K (.ref (mP K "Store" "part")) = true := of_decide_eq_true (S.at_ 15 6 rfl rfl)
  have fa_Store_backward : PySem.W.findIn K (.ref (He.ga K "Store")) "backward" = some (some (.ref (mP K "Store" "backward"))) := of_decide_eq_true (S.at_ 15 7 rfl rfl)
  have fi_Store_backward : PySem.W.isFn K (.ref (mP K "Store" "backward")) = true := of_decide_eq_true (S.at_ 15 8 rfl rfl)
  have ff_Store_backward : PySem.W.fnIn K (mP K "Store" "backward") = true := of_decide_eq_true (S.at_ 15 9 rfl rfl)
  obtain ⟨oc_Store_backward, od_Store_backward, kV_Store_backward, dc_Store_backward, pm_Store_backward, an_Store_backward, cd_Store_backward, ct_Store_backward, sl_Store_backward, fl_Store_backward, fc_Store_backward⟩ := S.f0 55 (d := fe55) rfl rfl
  have fk_Store_backward : PySem.W.keepIn K (.ref (mP K "Store" "backward")) = true := of_decide_eq_true (S.at_ 15 10 rfl rfl)
  have fa_Store_ascending : PySem.W.findIn K (.ref (He.ga K "Store")) "ascending" = some (some (.ref (mP K "Store" "ascending"))) := of_decide_eq_true (S.at_ 15 11 rfl rfl)
  have fi_Store_ascending : PySem.W.isFn K (.ref (mP K "Store" "ascending")) = true := of_decide_eq_true (S.at_ 16 0 rfl rfl)
  have ff_Store_ascending : PySem.W.fnIn K (mP K "Store" "ascending") = true := of_decide_eq_true (S.at_ 16 1 rfl rfl)
  obtain ⟨oc_Store_ascending, od_Store_ascending, kV_Store_ascending, dc_Store_ascending, pm_Store_ascending, an_Store_ascending, cd_Store_ascending, ct_Store_ascending, sl_Store_ascending, fl_Store_ascending, fc_Store_ascending⟩ := S.f0 56 (d := fe56) rfl rfl
  have fk_Store_ascending : PySem.W.keepIn K (.ref (mP K "Store" "ascending")) = true := of_decide_eq_true (S.at_ 16 2 rfl rfl)
  have fa_Store_capped : PySem.W.findIn K (.ref (He.ga K "Store")) "capped" = some (some (.ref (mP K "Store" "capped"))) := of_decide_eq_true (S.at_ 16 3 rfl rfl)
  have fi_Store_capped : PySem.W.isFn K (.ref (mP K "Store" "capped")) = true := of_decide_eq_true (S.at_ 16 4 rfl rfl)
  have ff_Store_capped : PySem.W.fnIn K (mP K "Store" "capped") = true := of_decide_eq_true (S.at_ 16 5 rfl rfl)
  obtain ⟨oc_Store_capped, od_Store_capped, kV_Store_capped, dc_Store_capped, pm_Store_capped, an_Store_capped, cd_Store_capped, ct_Store_capped, sl_Store_capped, fl_Store_capped, fc_Store_capped⟩ := S.f0 57 (d := fe57) rfl rfl
  have fk_Store_capped : PySem.W.keepIn K (.ref (mP K "Store" "capped")) = true := of_decide_eq_true (S.at_ 16 6 rfl rfl)
  have e := hfa.symm.trans (PySem.W.mg_of X G a42)
  cases e
  have B : Bl mg := ⟨PySem.W.mg_none_of X G z_abs, PySem.W.mg_none_of X G z_all, PySem.W.mg_none_of X G z_any, PySem.W.mg_none_of X G z_bool, PySem.W.mg_none_of X G z_dict, PySem.W.mg_none_of X G z_int, PySem.W.mg_none_of X G z_isinstance, PySem.W.mg_none_of X G z_len, PySem.W.mg_none_of X G z_list, PySem.W.mg_none_of X G z_max, PySem.W.mg_none_of X G z_min, PySem.W.mg_none_of X G z_range, PySem.W.mg_none_of X G z_set, PySem.W.mg_none_of X G z_sorted, PySem.W.mg_none_of X G z_str, PySem.W.mg_none_of X G z_sum, PySem.W.mg_none_of X G z_tuple, PySem.W.mg_none_of X G z_zip⟩
  have T : Cs mg := ⟨trivial, ⟨_, PySem.W.mg_of X G q_MAX_FIGURES, ⟨_, rfl⟩⟩, ⟨_, PySem.W.mg_of X G q_MAX_RUNS, ⟨_, rfl⟩⟩, ⟨_, PySem.W.mg_of X G q_MAX_SIZES, ⟨_, rfl⟩⟩⟩
  have F0 := fun_mk (st := s_is_integer) l0 c0 k0
  have D0 : Df K mg "is_integer" s_is_integer ["value"] := ⟨(He.ga K "is_integer"), _, F0, PySem.W.mg_of X G a0, F0.binds (ps := ["value"]) (fnb1 rfl fun _ _ _ _ _ _ _ => rfl)⟩
  have F1 := fun_mk (st := s_is_count) l1 c1 k1
  have D1 : Df K mg "is_count" s_is_count ["value"] := ⟨(He.ga K "is_count"), _, F1, PySem.W.mg_of X G a1, F1.binds (ps := ["value"]) (fnb1 rfl fun _ _ _ _ _ _ _ => rfl)⟩
  have F2 := fun_mk (st := s_is_size) l2 c2 k2
  have D2 : Df K mg "is_size" s_is_size ["value"] := ⟨(He.ga K "is_size"), _, F2, PySem.W.mg_of X G a2, F2.binds (ps := ["value"]) (fnb1 rfl fun _ _ _ _ _ _ _ => rfl)⟩
  have F3 := fun_mk (st := s_check_size) l3 c3 k3
  have D3 : Df K mg "check_size" s_check_size ["value"] := ⟨(He.ga K "check_size"), _, F3, PySem.W.mg_of X G a3, F3.binds (ps := ["value"]) (fnb1 rfl fun _ _ _ _ _ _ _ => rfl)⟩
  have F4 := fun_mk (st := s_check_between) l4 c4 k4
  have D4 : Df K mg "check_between" s_check_between ["value", "low", "high"] := ⟨(He.ga K "check_between"), _, F4, PySem.W.mg_of X G a4, F4.binds (ps := ["value", "low", "high"]) (fnb3 rfl fun _ _ _ _ _ _ _ _ _ => rfl)⟩
  have F5 := fun_mk (st := s_is_run) l5 c5 k5
  have D5 : Df K mg "is_run" s_is_run ["value"] := ⟨(He.ga K "is_run"), _, F5, PySem.W.mg_of X G a5, F5.binds (ps := ["value"]) (fnb1 rfl fun _ _ _ _ _ _ _ => rfl)⟩
  have F6 := fun_mk (st := s_number_of_all) l6 c6 k6
  have D6 : Df K mg "number_of_all" s_number_of_all ["runs"] := ⟨(He.ga K "number_of_all"), _, F6, PySem.W.mg_of X G a6, F6.binds (ps := ["runs"]) (fnb1 rfl fun _ _ _ _ _ _ _ => rfl)⟩
  have F7 := fun_mk (st := s_units_of) l7 c7 k7
  have D7 : Df K mg "units_of" s_units_of ["runs", "size"] := ⟨(He.ga K "units_of"), _, F7, PySem.W.mg_of X G a7, F7.binds (ps := ["runs", "size"]) (fnb2 rfl fun _ _ _ _ _ _ _ _ => rfl)⟩
  have F8 := fun_mk (st := s_joined_runs) l8 c8 k8
  have D8 : Df K mg "joined_runs" s_joined_runs ["runs"] := ⟨(He.ga K "joined_runs"), _, F8, PySem.W.mg_of X G a8, F8.binds (ps := ["runs"]) (fnb1 rfl fun _ _ _ _ _ _ _ => rfl)⟩
  have F9 := fun_mk (st := s_part_of_runs) l9 c9 k9
  have D9 : Df K mg "part_of_runs" s_part_of_runs ["runs", "first", "last"] := ⟨(He.ga K "part_of_runs"), _, F9, PySem.W.mg_of X G a9, F9.binds (ps := ["runs", "first", "last"]) (fnb3 rfl fun _ _ _ _ _ _ _ _ _ => rfl)⟩
  have F10 := fun_mk (st := s_first_gap) l10 c10 k10
  have D10 : Df K mg "first_gap" s_first_gap ["sizes"] := ⟨(He.ga K "first_gap"), _, F10, PySem.W.mg_of X G a10, F10.binds (ps := ["sizes"]) (fnb1 rfl fun _ _ _ _ _ _ _ => rfl)⟩
  have F11 := fun_mk (st := s_check_lot) l11 c11 k11
  have D11 : Df K mg "check_lot" s_check_lot ["value"] := ⟨(He.ga K "check_lot"), _, F11, PySem.W.mg_of X G a11, F11.binds (ps := ["value"]) (fnb1 rfl fun _ _ _ _ _ _ _ => rfl)⟩
  have F12 := fun_mk (st := s__are_counts) l12 c12 k12
  have D12 : Df K mg "_are_counts" s__are_counts ["value"] := ⟨(He.ga K "_are_counts"), _, F12, PySem.W.mg_of X G a12, F12.binds (ps := ["value"]) (fnb1 rfl fun _ _ _ _ _ _ _ => rfl)⟩
  have F13 := fun_mk (st := s_check_store) l13 c13 k13
  have D13 : Df K mg "check_store" s_check_store ["value"] := ⟨(He.ga K "check_store"), _, F13, PySem.W.mg_of X G a13, F13.binds (ps := ["value"]) (fnb1 rfl fun _ _ _ _ _ _ _ => rfl)⟩
  have F14 := fun_mk (st := s_check_together) l14 c14 k14
  have D14 : Df K mg "check_together" s_check_together ["sizes"] := ⟨(He.ga K "check_together"), _, F14, PySem.W.mg_of X G a14, F14.binds (ps := ["sizes"]) (fnb1 rfl fun _ _ _ _ _ _ _ => rfl)⟩
  have F15 := fun_mk (st := s__check) l15 c15 k15
  have D15 : Df K mg "_check" s__check ["lot", "store"] := ⟨(He.ga K "_check"), _, F15, PySem.W.mg_of X G a15, F15.binds (ps := ["lot", "store"]) (fnb2 rfl fun _ _ _ _ _ _ _ _ => rfl)⟩
  have F16 := fun_mk (st := s_levels_of) l16 c16 k16
  have D16 : Df K mg "levels_of" s_levels_of ["lot", "store"] := ⟨(He.ga K "levels_of"), _, F16, PySem.W.mg_of X G a16, F16.binds (ps := ["lot", "store"]) (fnb2 rfl fun _ _ _ _ _ _ _ _ => rfl)⟩
  have F17 := fun_mk (st := s_fits) l17 c17 k17
  have D17 : Df K mg "fits" s_fits ["lot", "store"] := ⟨(He.ga K "fits"), _, F17, PySem.W.mg_of X G a17, F17.binds (ps := ["lot", "store"]) (fnb2 rfl fun _ _ _ _ _ _ _ _ => rfl)⟩
  have F18 := fun_mk (st := s_barring_sizes) l18 c18 k18
  have D18 : Df K mg "barring_sizes" s_barring_sizes ["lot", "store"] := ⟨(He.ga K "barring_sizes"), _, F18, PySem.W.mg_of X G a18, F18.binds (ps := ["lot", "store"]) (fnb2 rfl fun _ _ _ _ _ _ _ _ => rfl)⟩
  have F19 := fun_mk (st := s__rounded_up) l19 c19 k19
  have D19 : Df K mg "_rounded_up" s__rounded_up ["number", "divisor"] := ⟨(He.ga K "_rounded_up"), _, F19, PySem.W.mg_of X G a19, F19.binds (ps := ["number", "divisor"]) (fnb2 rfl fun _ _ _ _ _ _ _ _ => rfl)⟩
  have F20 := fun_mk (st := s_fewest_rooms) l20 c20 k20
  have D20 : Df K mg "fewest_rooms" s_fewest_rooms ["lot", "room"] := ⟨(He.ga K "fewest_rooms"), _, F20, PySem.W.mg_of X G a20, F20.binds (ps := ["lot", "room"]) (fnb2 rfl fun _ _ _ _ _ _ _ _ => rfl)⟩
  have F21 := fun_mk (st := s_fewest_for) l21 c21 k21
  have D21 : Df K mg "fewest_for" s_fewest_for ["counts", "room"] := ⟨(He.ga K "fewest_for"), _, F21, PySem.W.mg_of X G a21, F21.binds (ps := ["counts", "room"]) (fnb2 rfl fun _ _ _ _ _ _ _ _ => rfl)⟩
  have F22 := fun_mk (st := s_least_room) l22 c22 k22
  have D22 : Df K mg "least_room" s_least_room ["lot", "rooms"] := ⟨(He.ga K "least_room"), _, F22, PySem.W.mg_of X G a22, F22.binds (ps := ["lot", "rooms"]) (fnb2 rfl fun _ _ _ _ _ _ _ _ => rfl)⟩
  have F23 := fun_mk (st := s__check_fit) l23 c23 k23
  have D23 : Df K mg "_check_fit" s__check_fit ["lot", "store"] := ⟨(He.ga K "_check_fit"), _, F23, PySem.W.mg_of X G a23, F23.binds (ps := ["lot", "store"]) (fnb2 rfl fun _ _ _ _ _ _ _ _ => rfl)⟩
  have F24 := fun_mk (st := s__numbers) l24 c24 k24
  have D24 : Df K mg "_numbers" s__numbers ["lot", "store"] := ⟨(He.ga K "_numbers"), _, F24, PySem.W.mg_of X G a24, F24.binds (ps := ["lot", "store"]) (fnb2 rfl fun _ _ _ _ _ _ _ _ => rfl)⟩
  have F25 := fun_mk (st := s__rooms_with) l25 c25 k25
  have D25 : Df K mg "_rooms_with" s__rooms_with ["runs", "size", "needed"] := ⟨(He.ga K "_rooms_with"), _, F25, PySem.W.mg_of X G a25, F25.binds (ps := ["runs", "size", "needed"]) (fnb3 rfl fun _ _ _ _ _ _ _ _ _ => rfl)⟩
  have F26 := fun_mk (st := s_fewest_of) l26 c26 k26
  have D26 : Df K mg "fewest_of" s_fewest_of ["lot", "store"] := ⟨(He.ga K "fewest_of"), _, F26, PySem.W.mg_of X G a26, F26.binds (ps := ["lot", "store"]) (fnb2 rfl fun _ _ _ _ _ _ _ _ => rfl)⟩
  have F27 := fun_mk (st := s__caps) l27 c27 k27
  have D27 : Df K mg "_caps" s__caps ["lot", "store"] := ⟨(He.ga K "_caps"), _, F27, PySem.W.mg_of X G a27, F27.binds (ps := ["lot", "store"]) (fnb2 rfl fun _ _ _ _ _ _ _ _ => rfl)⟩
  have F28 := fun_mk (st := s__least_units) l28 c28 k28
  have D28 : Df K mg "_least_units" s__least_units ["rooms", "size", "needed"] := ⟨(He.ga K "_least_units"), _, F28, PySem.W.mg_of X G a28, F28.binds (ps := ["rooms", "size", "needed"]) (fnb3 rfl fun _ _ _ _ _ _ _ _ _ => rfl)⟩
  have F29 := fun_mk (st := s_least_cap) l29 c29 k29
  have D29 : Df K mg "least_cap" s_least_cap ["lot", "store"] := ⟨(He.ga K "least_cap"), _, F29, PySem.W.mg_of X G a29, F29.binds (ps := ["lot", "store"]) (fnb2 rfl fun _ _ _ _ _ _ _ _ => rfl)⟩
  have F30 := fun_mk (st := s__law_dice) l30 c30 k30
  have D30 : Df K mg "_law_dice" s__law_dice ["script", "spot"] := ⟨(He.ga K "_law_dice"), _, F30, PySem.W.mg_of X G a30, F30.binds (ps := ["script", "spot"]) (fnb2 rfl fun _ _ _ _ _ _ _ _ => rfl)⟩
  have F31 := fun_mk (st := s__law_roll) l31 c31 k31
  have D31 : Df K mg "_law_roll" s__law_roll ["dice", "total"] := ⟨(He.ga K "_law_roll"), _, F31, PySem.W.mg_of X G a31, F31.binds (ps := ["dice", "total"]) (fnb2 rfl fun _ _ _ _ _ _ _ _ => rfl)⟩
  have F32 := fun_mk (st := s__law_pick) l32 c32 k32
  have D32 : Df K mg "_law_pick" s__law_pick ["dice", "items"] := ⟨(He.ga K "_law_pick"), _, F32, PySem.W.mg_of X G a32, F32.binds (ps := ["dice", "items"]) (fnb2 rfl fun _ _ _ _ _ _ _ _ => rfl)⟩
  have F33 := fun_mk (st := s__law_mixed) l33 c33 k33
  have D33 : Df K mg "_law_mixed" s__law_mixed ["dice", "items"] := ⟨(He.ga K "_law_mixed"), _, F33, PySem.W.mg_of X G a33, F33.binds (ps := ["dice", "items"]) (fnb2 rfl fun _ _ _ _ _ _ _ _ => rfl)⟩
  have F34 := fun_mk (st := s__law_great) l34 c34 k34
  have D34 : Df K mg "_law_great" s__law_great ["dice", "least"] := ⟨(He.ga K "_law_great"), _, F34, PySem.W.mg_of X G a34, F34.binds (ps := ["dice", "least"]) (fnb2 rfl fun _ _ _ _ _ _ _ _ => rfl)⟩
  have F35 := fun_mk (st := s__law_long_chain) l35 c35 k35
  have D35 : Df K mg "_law_long_chain" s__law_long_chain ["dice"] := ⟨(He.ga K "_law_long_chain"), _, F35, PySem.W.mg_of X G a35, F35.binds (ps := ["dice"]) (fnb1 rfl fun _ _ _ _ _ _ _ => rfl)⟩
  have F36 := fun_mk (st := s__law_great_lot) l36 c36 k36
  have D36 : Df K mg "_law_great_lot" s__law_great_lot ["dice", "sizes"] := ⟨(He.ga K "_law_great_lot"), _, F36, PySem.W.mg_of X G a36, F36.binds (ps := ["dice", "sizes"]) (fnb2 rfl fun _ _ _ _ _ _ _ _ => rfl)⟩
  have F37 := fun_mk (st := s__law_great_store) l37 c37 k37
  have D37 : Df K mg "_law_great_store" s__law_great_store ["dice", "sizes"] := ⟨(He.ga K "_law_great_store"), _, F37, PySem.W.mg_of X G a37, F37.binds (ps := ["dice", "sizes"]) (fnb2 rfl fun _ _ _ _ _ _ _ _ => rfl)⟩
  have F38 := fun_mk (st := s__law_made_lot) l38 c38 k38
  have D38 : Df K mg "_law_made_lot" s__law_made_lot ["plain"] := ⟨(He.ga K "_law_made_lot"), _, F38, PySem.W.mg_of X G a38, F38.binds (ps := ["plain"]) (fnb1 rfl fun _ _ _ _ _ _ _ => rfl)⟩
  have F39 := fun_mk (st := s__law_made_store) l39 c39 k39
  have D39 : Df K mg "_law_made_store" s__law_made_store ["runs"] := ⟨(He.ga K "_law_made_store"), _, F39, PySem.W.mg_of X G a39, F39.binds (ps := ["runs"]) (fnb1 rfl fun _ _ _ _ _ _ _ => rfl)⟩
  have F40 := fun_mk (st := s__law_alike_right) l40 c40 k40
  have D40 : Df K mg "_law_alike_right" s__law_alike_right ["dice", "chain", "lot"] := ⟨(He.ga K "_law_alike_right"), _, F40, PySem.W.mg_of X G a40, F40.binds (ps := ["dice", "chain", "lot"]) (fnb3 rfl fun _ _ _ _ _ _ _ _ _ => rfl)⟩
  have F41 := fun_mk (st := s__law_store_right) l41 c41 k41
  have D41 : Df K mg "_law_store_right" s__law_store_right ["dice", "chain", "lot", "runs"] := ⟨(He.ga K "_law_store_right"), _, F41, PySem.W.mg_of X G a41, F41.binds (ps := ["dice", "chain", "lot", "runs"]) (fnb4 rfl fun _ _ _ _ _ _ _ _ _ _ => rfl)⟩
  have KL_Lot : Klass K mg "Lot" (He.ga K "Lot") := ⟨PySem.W.mg_of X G a_Lot, ⟨pg_Lot, hd_Lot, po_Lot, sa_Lot⟩, mk_Lot, kp_Lot, ha_Lot, e_n, e_t⟩
  have LT_Lot : LotT K mg (He.ga K "Lot") := ⟨KL_Lot, n0_Lot, n1_Lot, n2_Lot⟩
  have SF_Lot : PySem.W.selfFirst K (He.ga K "Lot") = true := ksf_Lot
  have LK_LotN : LotNK K (He.ga K "Lot") := ⟨kit_toT kttoint_Lot (by decide +kernel), kit_ofT ktofdict_Lot kic_Lot kty_Lot, kit_ofT ktofint_Lot kic_Lot kty_Lot, kit_ofT ktofNoneType_Lot kic_Lot kty_Lot⟩
  have DM_Lot_init : Din K mg "Lot" (He.ga K "Lot") "Lot.__init__" s_Lot_init ["self", "counts"] := din_mk (PySem.W.mg_of X G a_Lot) mk_Lot fa_Lot_init fi_Lot_init kp_Lot fl_Lot_init ft_Lot_init fc_Lot_init fk_Lot_init rfl (fun _ _ _ _ _ _ _ us its h1 h2 => match us, its, h1, h2 with | [_, _], [_], _, _ => ⟨_, rfl, rfl⟩) (fun _ _ _ _ _ _ _ us its h1 h2 => match us, its, h1, h2 with | [_], [_], _, _ => ⟨_, rfl, rfl⟩)
  have DM_Lot_counts : Dpr K (He.ga K "Lot") "counts" "Lot.counts" s_Lot_counts := dpr_mk pa_Lot_counts pt_Lot_counts pk_Lot_counts pr_Lot_counts fl_Lot_counts fc_Lot_counts fk_Lot_counts (fnb1 rfl fun _ _ _ _ _ _ _ => rfl)
  have DM_Lot_sizes : Dpr K (He.ga K "Lot") "sizes" "Lot.sizes" s_Lot_sizes := dpr_mk pa_Lot_sizes pt_Lot_sizes pk_Lot_sizes pr_Lot_sizes fl_Lot_sizes fc_Lot_sizes fk_Lot_sizes (fnb1 rfl fun _ _ _ _ _ _ _ => rfl)
  have DM_Lot_number : Dpr K (He.ga K "Lot") "number" "Lot.number" s_Lot_number := dpr_mk pa_Lot_number pt_Lot_number pk_Lot_number pr_Lot_number fl_Lot_number fc_Lot_number fk_Lot_number (fnb1 rfl fun _ _ _ _ _ _ _ => rfl)
  have DM_Lot_units : Dop K (He.ga K "Lot") "units" "Lot.units" s_Lot_units ["self", "size"] := dop_mk fa_Lot_units fi_Lot_units ff_Lot_units fl_Lot_units fc_Lot_units fk_Lot_units (fnb2 rfl fun _ _ _ _ _ _ _ _ => rfl)
  have DM_Lot_add : Dop K (He.ga K "Lot") "__add__" "Lot.__add__" s_Lot_add ["self", "other"] := dop_mk fa_Lot_add fi_Lot_add ff_Lot_add fl_Lot_add fc_Lot_add fk_Lot_add (fnb2 rfl fun _ _ _ _ _ _ _ _ => rfl)
  have DM_Lot_len : Dop K (He.ga K "Lot") "__len__" "Lot.__len__" s_Lot_len ["self"] := dop_mk fa_Lot_len fi_Lot_len ff_Lot_len fl_Lot_len fc_Lot_len fk_Lot_len (fnb1 rfl fun _ _ _ _ _ _ _ => rfl)
  have KL_Store : Klass K mg "Store" (He.ga K "Store") := ⟨PySem.W.mg_of X G a_Store, ⟨pg_Store, hd_Store, po_Store, sa_Store⟩, mk_Store, kp_Store, ha_Store, e_n, e_t⟩
  have LT_Store : StoreT K mg (He.ga K "Store") := ⟨KL_Store, n0_Store⟩
  have DM_Store_init : Dis K mg "Store" (He.ga K "Store") "Store.__init__" s_Store_init "runs" := dis_mk (PySem.W.mg_of X G a_Store) mk_Store fa_Store_init fi_Store_init kp_Store fl_Store_init fc_Store_init (fun _ => rfl) (fun _ _ _ => rfl)
  have DM_Store_number : Dpr K (He.ga K "Store") "number" "Store.number" s_Store_number := dpr_mk pa_Store_number pt_Store_number pk_Store_number pr_Store_number fl_Store_number fc_Store_number fk_Store_number (fnb1 rfl fun _ _ _ _ _ _ _ => rfl)
  have DM_Store_rooms : Dpr K (He.ga K "Store") "rooms" "Store.rooms" s_Store_rooms := dpr_mk pa_Store_rooms pt_Store_rooms pk_Store_rooms pr_Store_rooms fl_Store_rooms fc_Store_rooms fk_Store_rooms (fnb1 rfl fun _ _ _ _ _ _ _ => rfl)
  have DM_Store_units : Dop K (He.ga K "Store") "units" "Store.units" s_Store_units ["self", "size"] := dop_mk fa_Store_units fi_Store_units ff_Store_units fl_Store_units fc_Store_units fk_Store_units (fnb2 rfl fun _ _ _ _ _ _ _ _ => rfl)
  have DM_Store_part : Dop K (He.ga K "Store") "part" "Store.part" s_Store_part ["self", "first", "last"] := dop_mk fa_Store_part fi_Store_part ff_Store_part fl_Store_part fc_Store_part fk_Store_part (fnb3 rfl fun _ _ _ _ _ _ _ _ _ => rfl)
  have DM_Store_backward : Dop K (He.ga K "Store") "backward" "Store.backward" s_Store_backward ["self"] := dop_mk fa_Store_backward fi_Store_backward ff_Store_backward fl_Store_backward fc_Store_backward fk_Store_backward (fnb1 rfl fun _ _ _ _ _ _ _ => rfl)
  have DM_Store_ascending : Dop K (He.ga K "Store") "ascending" "Store.ascending" s_Store_ascending ["self"] := dop_mk fa_Store_ascending fi_Store_ascending ff_Store_ascending fl_Store_ascending fc_Store_ascending fk_Store_ascending (fnb1 rfl fun _ _ _ _ _ _ _ => rfl)
  have DM_Store_capped : Dop K (He.ga K "Store") "capped" "Store.capped" s_Store_capped ["self", "room"] := dop_mk fa_Store_capped fi_Store_capped ff_Store_capped fl_Store_capped fc_Store_capped fk_Store_capped (fnb2 rfl fun _ _ _ _ _ _ _ _ => rfl)
  exact ⟨PySem.W.fnOf "law" "law" (defArgs s_law) (defBody s_law) (defScope s_law) .none kV42 dc42 pm42 an42 cd42 ct42, fun s v => .of_eq rfl, fun base _ _ sm => ok_law B T D0 D1 D2 D3 D4 D5 D6 D7 D8 D9 D10 D11 D12 D13 D14 D15 D16 D17 D18 D19 D20 D21 D22 D23 D24 D25 D26 D27 D28 D29 D30 D31 D32 D33 D34 D35 D36 D37 D38 D39 D40 D41 LT_Lot SF_Lot LK_LotN DM_Lot_init DM_Lot_counts DM_Lot_sizes DM_Lot_number DM_Lot_units DM_Lot_add DM_Lot_len LT_Store DM_Store_init DM_Store_number DM_Store_rooms DM_Store_units DM_Store_part DM_Store_backward DM_Store_ascending DM_Store_capped (fun_mk (st := s_law) l42 c42 k42)⟩
end Lk53
open PySem PySem.W PySem.Calls PyProof.Rows
theorem PySem.Challenge.cw_chainpacks_k53_whole_fewest_go_together_holds : PySem.Challenge.rw_chainpacks_k53_whole_fewest_go_together.Holds := by
  w_on; o_law
  refine HandSHeadRun.head_any (r := OpenLaw.row PySem.Challenge.rw_chainpacks_k53_whole_fewest_go_together) (q := view (OpenLaw.row PySem.Challenge.rw_chainpacks_k53_whole_fewest_go_together).prog [67]) (H := Lk53.hk) (ob := Lk53.ob) (M := 15950) (loose := Lk53.nms) (d := HandSHeadRun.topDef (OpenLaw.row PySem.Challenge.rw_chainpacks_k53_whole_fewest_go_together).prog 67) (kwd := []) Ck.obsC_eq
    (by kernel_rfl) (fun s => by kernel_rfl) Lk53.run (by kernel_rfl) (by kernel_rfl) (by kernel_rfl) (by rfl) (by first | assumption | decide +kernel) (by decide +kernel) ⟨rfl, rfl, rfl, rfl, rfl, by decide +kernel⟩ ?hw ?hc
  case hw => w_witness2
  case hc =>
    refine Ck.walk_gC (l := PySem.Challenge.rw_chainpacks_k53_whole_fewest_go_together) (n := 63) (k := 14) (x := "script") (sp := fun w K cs => Lk53.spLaw K) (by decide +kernel) rfl (by decide) (by kernel_rfl) ⟨rfl, by decide, by decide⟩ ?F (fun w K cs H a ns hl hT hS => Lk53.start_law hl hS)
    intro w mg fa h Y G hmg0
    obtain ⟨K, KX, S⟩ := Y
    have hmg : mg ("law" : PySem.Str) = some (.ref fa) := by
      have e : (HandSHeadRun.topDef (OpenLaw.row PySem.Challenge.rw_chainpacks_k53_whole_fewest_go_together).prog 67).name = ("law" : PySem.Str) := by kernel_rfl
      rw [← e]
      exact hmg0
    obtain ⟨fd, hb, hF⟩ := Lk53.all_mk (P := (PySem.Challenge.rw_chainpacks_k53_whole_fewest_go_together).prog) (w := w) KX G hmg S
    exact ⟨K, [], fd, KX, (fun p hp => nomatch hp), (fun p hp => nomatch hp), (fun p hp => nomatch hp), hb, fun base h1 h2 h3 h4 => hF base h1 h2 h3⟩
